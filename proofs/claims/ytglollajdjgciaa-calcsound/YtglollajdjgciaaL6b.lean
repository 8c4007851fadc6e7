/- CalcSound: what the program answers of two that have x and y. -/
import Derived.Test.YtglollajdjgciaaM12
import Derived.Test.YtglollajdjgciaaL6a
import Derived.Test.YtglollajdjgciaaL1b
namespace Go.Proofs.Ytglollajdjgciaa
open Go.RowKit

theorem norm_any {a b : BitVec 64} (hr : RtB a b) (c d : BitVec 64) : ∃ x y z t i,
    Hid (∀ w, Calls Try.prog 31 #[Vl a b c d] w fun e w' => e = .returned (.tuple #[Vl x y z t, .bool i, N 0]) ∧ Below w.heap.size w w')
    ∧ ∀ u, rawV a b c d u = true → i = true ∧ hasV x y z t u = true := by
  have hz := (rt_iff a b).2 hr
  cases ho : normOk a b c d
  · refine ⟨zero, zero, zero, zero, false, hid (fun w => norm_none hz ho w), fun u hu => ?_⟩
    have := (raw_norm hr hu).1
    rw [ho] at this; cases this
  · exact ⟨_, _, _, _, true, hid (fun w => norm_yes hz ho w), fun u hu => ⟨rfl, (raw_norm hr hu).2⟩⟩
theorem lv_form (p : Bool) (a b c d : BitVec 64) : ∃ a' b' c' d', lv p (Vl a b c d) = Vl a' b' c' d' ∧ (p = true → a' = a ∧ b' = b ∧ c' = c ∧ d' = d) := by
  cases p
  · exact ⟨zero, zero, zero, zero, rfl, fun h => by cases h⟩
  · exact ⟨a, b, c, d, rfl, fun _ => ⟨rfl, rfl, rfl, rfl⟩⟩
/- two that are left, in one form -/
def Left (f : Nat) (v m l g v' m' l' g' x y : BitVec 64) (so : Prop) : Prop := ∃ a b c d a' b' c' d' q,
  Hid (∀ w, Calls Try.prog f #[Vl v m l g, Vl v' m' l' g'] w fun e w' => e = .returned (.tuple #[Vl a b c d, Vl a' b' c' d', .bool q, N 0]) ∧ Below w.heap.size w w')
  ∧ Hid (so → q = true ∧ hasV a b c d x = true ∧ hasV a' b' c' d' y = true)
theorem Left.of {f : Nat} {v m l g v' m' l' g' x y a b c d a' b' c' d' : BitVec 64} {so : Prop} {q may i1 i2 : Bool} (hq : q = (may && (i1 && i2)))
    (h : ∀ w, Calls Try.prog f #[Vl v m l g, Vl v' m' l' g'] w fun e w' => e = .returned (.tuple #[lv q (Vl a b c d), lv q (Vl a' b' c' d'), .bool q, N 0]) ∧ Below w.heap.size w w')
    (hs : so → may = true ∧ (i1 = true ∧ hasV a b c d x = true) ∧ (i2 = true ∧ hasV a' b' c' d' y = true)) : Left f v m l g v' m' l' g' x y so := by
  obtain ⟨p1, p2, p3, p4, e1, k1⟩ := lv_form q a b c d
  obtain ⟨q1, q2, q3, q4, e2, k2⟩ := lv_form q a' b' c' d'
  refine ⟨p1, p2, p3, p4, q1, q2, q3, q4, q, hid (fun w => by have := h w; rw [e1, e2] at this; exact this), fun hso => ?_⟩
  obtain ⟨hm, ⟨h1, g1⟩, ⟨h2, g2⟩⟩ := hs hso
  have hqt : q = true := by rw [hq, hm, h1, h2]; rfl
  obtain ⟨r1, r2, r3, r4⟩ := k1 hqt
  obtain ⟨t1, t2, t3, t4⟩ := k2 hqt
  rw [r1, r2, r3, r4, t1, t2, t3, t4]
  exact ⟨hqt, g1, g2⟩

theorem both_val {v m l g v' m' l' g' x y : BitVec 64} (hx : hasV v m l g x = true) (hy : hasV v' m' l' g' y = true) : (valB v m l g && valB v' m' l' g') = true := by
  rw [(has_facts hx).1, (has_facts hy).1]; rfl
theorem cs_equal {v m l g v' m' l' g' x y : BitVec 64} (hx : hasV v m l g x = true) (hy : hasV v' m' l' g' y = true) : Left 51 v m l g v' m' l' g' x y (x = y) := by
  have r1 := (has_facts hx).2.1
  have r2 := (has_facts hy).2.1
  have hb := both_val hx hy
  cases hm : eqb (bandn (bxor v v') (bor m m')) zero
  · obtain ⟨p1, p2, p3, p4, i, N1, _⟩ := norm_any (zero_rt zero) (bmax l l') (bmin g g')
    refine Left.of (q := false && (i && i)) rfl (fun w => calcEqual_right hb w (hid (fun B w' hc => equal1_is hc (hid (fun w => meet_no (both_right r1 r2) hm w)) rfl rfl)) N1 N1) fun hso => ?_
    subst hso
    have := (left_equal hx hy).1
    rw [hm] at this; cases this
  · have hrt : RtB (bor v v') (band m m') := by
      intro j
      have h3 := r1 j; have h4 := r2 j
      rw [bit_or, bit_and']
      revert h3 h4
      cases bit v j <;> cases bit m j <;> cases bit v' j <;> cases bit m' j <;> simp
    obtain ⟨p1, p2, p3, p4, i, N1, n1⟩ := norm_any hrt (bmax l l') (bmin g g')
    refine Left.of (q := true && (i && i)) rfl (fun w => calcEqual_right hb w (hid (fun B w' hc => equal1_is hc (hid (fun w => meet_ok (both_right r1 r2) hm w)) rfl rfl)) N1 N1) fun hso => ?_
    subst hso
    exact ⟨rfl, n1 _ (left_equal hx hy).2.2, n1 _ (left_equal hx hy).2.2⟩
theorem cs_other {v m l g v' m' l' g' x y : BitVec 64} (hx : hasV v m l g x = true) (hy : hasV v' m' l' g' y = true) : Left 52 v m l g v' m' l' g' x y (x ≠ y) := by
  have r1 := (has_facts hx).2.1
  have r2 := (has_facts hy).2.1
  have hb := both_val hx hy
  obtain ⟨p1, p2, p3, p4, i, N1, n1⟩ := norm_any r1 (woL l l' g') (woH l g l' g')
  obtain ⟨s1, s2, s3, s4, k, N2, n2⟩ := norm_any r2 (woL l' l g) (woH l' g' l g)
  exact Left.of rfl (fun w => calcOther_right hb w (hid (fun B w' hc => other1_is hc rfl)) N1 N2) fun hso =>
    ⟨by rw [may_other hx hy hso]; rfl, n1 _ (left_other hx hy hso), n2 _ (left_other hy hx fun e => hso e.symm)⟩
theorem cs_less {v m l g v' m' l' g' x y : BitVec 64} (hx : hasV v m l g x = true) (hy : hasV v' m' l' g' y = true) : Left 53 v m l g v' m' l' g' x y (nv x < nv y) := by
  have r1 := (has_facts hx).2.1
  have r2 := (has_facts hy).2.1
  have hb := both_val hx hy
  cases hn : (eqb g' zero || eqb l top)
  · rw [Bool.or_eq_false_iff] at hn
    obtain ⟨p1, p2, p3, p4, i, N1, n1⟩ := norm_any r1 (bmax l l) (bmin g (bsub g' one))
    obtain ⟨s1, s2, s3, s4, k, N2, n2⟩ := norm_any r2 (bmax l' (badd l one)) (bmin g' g')
    exact Left.of rfl (fun w => calcLess_right hb w (hid (fun B w' hc => less1_yes hc hn.1 hn.2)) N1 N2) fun hso =>
      ⟨rfl, n1 _ (left_less hx hy hso).2.2.1, n2 _ (left_less hx hy hso).2.2.2⟩
  · obtain ⟨p1, p2, p3, p4, i, N1, n1⟩ := norm_any r1 l g
    obtain ⟨s1, s2, s3, s4, k, N2, n2⟩ := norm_any r2 l' g'
    refine Left.of rfl (fun w => calcLess_right hb w (hid (fun B w' hc => less1_no hc hn)) N1 N2) fun hso => ?_
    exfalso
    have h1 := (left_less hx hy hso).1
    have h2 := (left_less hx hy hso).2.1
    rw [h1, h2] at hn; cases hn
theorem cs_notLess {v m l g v' m' l' g' x y : BitVec 64} (hx : hasV v m l g x = true) (hy : hasV v' m' l' g' y = true) : Left 54 v m l g v' m' l' g' x y (nv y ≤ nv x) := by
  have r1 := (has_facts hx).2.1
  have r2 := (has_facts hy).2.1
  have hb := both_val hx hy
  obtain ⟨p1, p2, p3, p4, i, N1, n1⟩ := norm_any r1 (bmax l l') (bmin g g)
  obtain ⟨s1, s2, s3, s4, k, N2, n2⟩ := norm_any r2 (bmax l' l') (bmin g' g)
  exact Left.of rfl (fun w => calcNotLess_right hb w (hid (fun B w' hc => notLess1_is hc)) N1 N2) fun hso =>
    ⟨rfl, n1 _ (left_notLess hx hy hso).1, n2 _ (left_notLess hx hy hso).2⟩
theorem cs_two (op : Int) {v m l g v' m' l' g' x y : BitVec 64} (hx : hasV v m l g x = true) (hy : hasV v' m' l' g' y = true) : ∃ a b c d e,
    Hid (∀ w, Calls Try.prog 46 #[N op, Vl v m l g, Vl v' m' l' g'] w fun o w' => o = .returned (.tuple #[Vl a b c d, N e]) ∧ Below w.heap.size w w')
    ∧ Hid (e = 4 ∨ (e = 0 ∧ ∃ z, Hid (∀ w, Calls Try.prog 30 #[N op, U x, U y] w fun o w' => o = .returned (U z) ∧ Below w.heap.size w w') ∧ Hid (hasV a b c d z = true) ∧ Hid (valB a b c d = true))) := by
  have hb := both_val hx hy
  by_cases hop : 2 ≤ op ∧ op ≤ 9
  · obtain ⟨hr, hw⟩ := rk_sound hop hx hy
    have hn := raw_norm hr hw
    refine ⟨_, _, _, _, 0, hid (fun w => calcTwo_yes hb hop ((rt_iff _ _).2 hr) hn.1 w), Or.inr ⟨rfl, numN op x y, ?_, hn.2, (has_facts hn.2).1⟩⟩
    intro w
    by_cases h27 : 2 ≤ op ∧ op ≤ 7
    · have e : numN op x y = numB op x y := by unfold numN; rw [if_neg (by omega), if_pos h27]
      rw [e]; exact number_two h27 x y w
    · by_cases h8 : op = 8
      · subst h8
        have e : numN 8 x y = bshl x (six y) := by unfold numN; rw [if_neg (by decide), if_neg (by decide), if_pos rfl]
        rw [e]; exact number_shl x y w
      · have h9 : op = 9 := by omega
        subst h9
        have e : numN 9 x y = bshr x (six y) := by unfold numN; rw [if_neg (by decide), if_neg (by decide), if_neg (by decide)]
        rw [e]; exact number_shr x y w
  · exact ⟨zero, zero, zero, zero, 4, hid (fun w => calcTwo_kind (hid (by omega)) hb w), Or.inl rfl⟩

end Go.Proofs.Ytglollajdjgciaa
