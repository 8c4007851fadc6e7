import Derived.Test.YtkigmocchaikgaaCa4
import Derived.Test.YtkigmocchaikgaaCa2
import Derived.Test.YtkigmocchaikgaaProg
import Derived.Test.YtkigmocchaikgaaCa3
import Derived.BigQuiet
import Derived.Deep.RegionWith
/- The contracts of calc's Equal, Other, Less, NotLess, and of the reference's OtherVals. -/
namespace Go.Proofs.Ytkigmocchaikgaa
open Go.RowKit

theorem refRid_ok {a : V4} (hr : a.rt = true) (x : BitVec 64) :
    Ok 100 [.ag a.cs, .c (.u x)] (.tu [.ag (lvV (!(a.alone && eqb a.l x)) (a.without (V4.of x)).norm).cs, .c (.b (!(a.alone && eqb a.l x) && (a.without (V4.of x)).nok))]) := by
  have hx : eqb x x = true := eqb_self x
  have hal := refAlone_ok a
  have e0 : a.without (V4.of x) = ⟨a.v, a.m, if eqb a.l x then badd a.l one else a.l, if !eqb a.l x && eqb a.h x then bsub a.h one else a.h⟩ := by
    simp only [V4.without, V4.of, woL, woH, hx, Bool.true_and]
  have hn : ∀ l h, Ok 33 [.ag (V4.cs ⟨a.v, a.m, l, h⟩)] (.tu [.ag (V4.norm ⟨a.v, a.m, l, h⟩).cs, .c (.b (V4.nok ⟨a.v, a.m, l, h⟩))]) := fun l h => refNorm_ok (a := ⟨a.v, a.m, l, h⟩) (show a.rt = true from hr)
  rw [e0]
  cases h1 : eqb a.l x with
  | true =>
    cases h2 : a.alone with
    | true => rw [h2] at hal; exact refRid_w0 (by rw [h1]; rfl) hal
    | false => rw [h2] at hal; exact refRid_w3 (by rw [h1]; rfl) hal (hn (badd a.l one) a.h)
  | false =>
    cases h2 : a.alone with
    | true =>
      rw [h2] at hal
      cases h3 : eqb a.h x with
      | true => exact refRid_w1 (by rw [h1, h3]; rfl) hal (hn a.l (bsub a.h one))
      | false => exact refRid_w2 (by rw [h1, h3]; rfl) hal (hn a.l a.h)
    | false =>
      rw [h2] at hal
      cases h3 : eqb a.h x with
      | true => exact refRid_w4 (by rw [h1, h3]; rfl) hal (hn a.l (bsub a.h one))
      | false => exact refRid_w5 (by rw [h1, h3]; rfl) hal (hn a.l a.h)
theorem V4.norm_ok {a : V4} (h : a.ok = true) : a.nok = true ∧ a.nrm = a ∧ a.norm = a := by
  obtain ⟨h1, h2, h3, h4, h5⟩ := norm_stays h
  have e : a.nrm = a := by cases a; simp only [V4.nrm] at *; rw [h2, h3, h4, h5]
  refine ⟨h1, e, ?_⟩
  unfold V4.norm
  rw [show a.nok = true from h1]
  exact e
theorem without_not {a b : V4} (h : b.alone = false) : a.without b = a := by
  have h' : eqb b.l b.h = false := h
  simp only [V4.without, woL, woH, h', Bool.false_and]
  rfl
theorem without_alone {a b : V4} (h : b.alone = true) : a.without b = a.without (V4.of b.l) := by
  have h' : eqb b.l b.h = true := h
  simp only [V4.without, V4.of, woL, woH, h', eqb_self]
theorem refOther_ok {a b : V4} (ha : a.ok = true) (hb : b.ok = true) : Ok 56 [.ag a.cs, .ag b.cs] (.tu [.ag (a.other b).1.cs, .ag (a.other b).2.1.cs, .c (.b (a.other b).2.2)]) := by
  have a1 := refAlone_ok a
  have b1 := refAlone_ok b
  have na := V4.norm_ok ha
  have nb := V4.norm_ok hb
  have ra := refRid_ok (V4.rt_of ha) b.l
  have rb := refRid_ok (V4.rt_of hb) a.l
  unfold V4.other
  cases h1 : b.alone with
  | true =>
    cases h2 : a.alone with
    | true =>
      rw [h1] at b1; rw [h2] at a1
      rw [h2] at ra; rw [h1] at rb
      have hsym : eqb b.l a.l = eqb a.l b.l := by rw [Bool.eq_iff_iff, eqb_iff, eqb_iff]; exact eq_comm
      have := refOther_w0 rfl b1 ra a1 rb (refBoth_ok _ _ _ _)
      rw [hsym, norm_lv, norm_lv] at this
      rw [without_alone h1, without_alone h2]
      simp only [left2]
      revert this
      generalize V4.nrm _ = n1
      generalize V4.nrm _ = n2
      generalize V4.nok _ = k1
      generalize V4.nok _ = k2
      generalize eqb a.l b.l = q
      intro this
      cases k1 <;> cases k2 <;> cases q <;> exact this
    | false =>
      rw [h1] at b1; rw [h2] at a1
      rw [h2] at ra
      have := refOtherB_w0 rfl b1 ra a1 (refBoth_ok _ b _ _)
      rw [norm_lv] at this
      rw [without_alone h1, without_not h2]
      simp only [left2, nb.1, nb.2.1]
      revert this
      generalize V4.nrm _ = n1
      generalize V4.nok _ = k1
      intro this
      cases k1 <;> exact this
  | false =>
    cases h2 : a.alone with
    | true =>
      rw [h1] at b1; rw [h2] at a1
      rw [h1] at rb
      have := refOtherA_w0 rfl b1 a1 rb (refBoth_ok a _ _ _)
      rw [norm_lv] at this
      rw [without_alone h2, without_not h1]
      simp only [left2, na.1, na.2.1]
      revert this
      generalize V4.nrm _ = n1
      generalize V4.nok _ = k1
      intro this
      cases k1 <;> exact this
    | false =>
      rw [h1] at b1; rw [h2] at a1
      have := refOtherN_w0 rfl b1 a1 (refBoth_ok a b _ _)
      rw [without_not h2, without_not h1]
      simp only [left2, na.1, na.2.1, nb.1, nb.2.1]
      exact this

/- the program's -/
theorem valNorm_c {n : V4} (hr : n.rt = true) : Hid (∀ w, Calls Try.prog 31 #[Vl n.v n.m n.l n.h] w fun e w' => e = .returned (.tuple #[Vl n.norm.v n.norm.m n.norm.l n.norm.h, .bool n.nok, N 0]) ∧ Below w.heap.size w w') := by
  intro w
  unfold V4.norm
  cases hn : n.nok
  · exact norm_none hr hn w
  · exact norm_yes hr hn w
def Four (f : Nat) (a b : V4) (r : V4 × V4 × Bool) : Prop := Ok f [.ag a.cs, .ag b.cs] (.tu [.ag r.1.cs, .ag r.2.1.cs, .c (.b r.2.2), .c (.i 0)])
theorem four_of {f : Nat} {a b x y : V4} {may : Bool} (h : ∀ w, Calls Try.prog f #[Vl a.v a.m a.l a.h, Vl b.v b.m b.l b.h] w fun e w' => e = .returned (.tuple #[lv (may && (x.nok && y.nok)) (Vl x.norm.v x.norm.m x.norm.l x.norm.h), lv (may && (x.nok && y.nok)) (Vl y.norm.v y.norm.m y.norm.l y.norm.h), .bool (may && (x.nok && y.nok)), N 0]) ∧ Below w.heap.size w w') :
    Four f a b (left2 may x y) := by
  refine okc h (fun _ => rfl) (fun _ => ?_) ?_
  · simp only [left2, V4.norm]
    cases may <;> cases x.nok <;> cases y.nok <;> rfl
  · rfl
theorem calcEqual_ok {a b : V4} (ha : a.ok = true) (hb : b.ok = true) : Four 51 a b (a.equal b) := by
  have r1 := V4.rt_of ha
  have r2 := V4.rt_of hb
  have hbb := both_ok ha hb
  unfold V4.equal
  cases hm : a.meets b with
  | false =>
    have n := valNorm_c (n := ⟨zero, zero, bmax a.l b.l, bmin a.h b.h⟩) ((rt_iff _ _).2 (zero_rt zero))
    have := four_of (f := 51) (a := a) (b := b) (may := false) fun w => calcEqual_right hbb w (hid (fun B w' hc => equal1_is hc (hid (fun w => meet_no (both_rt r1 r2) hm w)) rfl rfl)) n n
    exact this
  | true =>
    have hrt : (a.rawEqual b).rt = true := (rt_iff _ _).2 (by
      have r1 := (val_facts ha).1
      have r2 := (val_facts hb).1
      intro j
      have h3 := r1 j; have h4 := r2 j
      show (bit (bor a.v b.v) j && bit (band a.m b.m) j) = false
      rw [bit_or, bit_and']
      revert h3 h4
      cases bit a.v j <;> cases bit a.m j <;> cases bit b.v j <;> cases bit b.m j <;> simp)
    exact four_of (f := 51) (a := a) (b := b) (may := true) fun w => calcEqual_right hbb w (hid (fun B w' hc => equal1_is hc (hid (fun w => meet_ok (both_rt r1 r2) hm w)) rfl rfl)) (valNorm_c hrt) (valNorm_c hrt)
theorem calcOther_ok {a b : V4} (ha : a.ok = true) (hb : b.ok = true) : Four 52 a b (a.other b) :=
  four_of (f := 52) (a := a) (b := b) fun w => calcOther_right (both_ok ha hb) w (hid (fun _ _ hc => other1_is hc rfl)) (valNorm_c (n := a.without b) (show a.rt = true from V4.rt_of ha)) (valNorm_c (n := b.without a) (show b.rt = true from V4.rt_of hb))
theorem calcLess_ok {a b : V4} (ha : a.ok = true) (hb : b.ok = true) : Four 53 a b (a.less b) := by
  unfold V4.less
  cases hz : (eqb b.h zero || eqb a.l top) with
  | true =>
    have := four_of (f := 53) (a := a) (b := b) (may := false) fun w => calcLess_right (both_ok ha hb) w (hid (fun B w' hc => less1_no hc hz)) (valNorm_c (V4.rt_of ha)) (valNorm_c (V4.rt_of hb))
    exact this
  | false =>
    rw [Bool.or_eq_false_iff] at hz
    have n1 := valNorm_c (n := ⟨a.v, a.m, bmax a.l a.l, bmin a.h (bsub b.h one)⟩) (show a.rt = true from V4.rt_of ha)
    have n2 := valNorm_c (n := ⟨b.v, b.m, bmax b.l (badd a.l one), bmin b.h b.h⟩) (show b.rt = true from V4.rt_of hb)
    have := four_of (f := 53) (a := a) (b := b) (may := true) fun w => calcLess_right (both_ok ha hb) w (hid (fun B w' hc => less1_yes hc hz.1 hz.2)) n1 n2
    rw [bmax_self, bmin_self] at this
    exact this
theorem calcNotLess_ok {a b : V4} (ha : a.ok = true) (hb : b.ok = true) : Four 54 a b (a.notLess b) := by
  have n1 := valNorm_c (n := ⟨a.v, a.m, bmax a.l b.l, bmin a.h a.h⟩) (show a.rt = true from V4.rt_of ha)
  have n2 := valNorm_c (n := ⟨b.v, b.m, bmax b.l b.l, bmin b.h a.h⟩) (show b.rt = true from V4.rt_of hb)
  have := four_of (f := 54) (a := a) (b := b) (may := true) fun w => calcNotLess_right (both_ok ha hb) w (hid (fun B w' hc => notLess1_is hc)) n1 n2
  rw [bmax_self, bmin_self] at this
  exact this
end Go.Proofs.Ytkigmocchaikgaa

/- The contracts of calc's Two and Bytes, and of the reference's TwoVals and ByteVal. -/
namespace Go.Proofs.Ytkigmocchaikgaa
open Go.RowKit

theorem wrap_six (y : BitVec 64) : IntKind.wrap IntKind.i64 (nv (band y 63#64)) = (six y : Int) := by
  have h := six_lt y
  rw [six_nv, IntKind.wrap_i64]
  omega
theorem has_low {a : V4} (h : a.ok = true) : hasV a.v a.m a.l a.h a.l = true := by
  obtain ⟨_, h2, _, h4, _⟩ := val_facts h
  unfold hasV
  rw [show valB a.v a.m a.l a.h = true from h, h2]
  simp [h4]
theorem raw2_rt {a b : V4} {op : Int} (hop : 2 ≤ op ∧ op ≤ 9) (ha : a.ok = true) (hb : b.ok = true) : (V4.raw2 op a b).rt = true :=
  (rt_iff _ _).2 (rk_sound hop (has_low ha) (has_low hb)).1
theorem calcTwo_ok {a b : V4} {op : Int} (hop : 2 ≤ op ∧ op ≤ 9) (ha : a.ok = true) (hb : b.ok = true) : Ok 46 [.c (.i op), .ag a.cs, .ag b.cs] (.tu [.ag (V4.two op a b).cs, .c (.i 0)]) := by
  have hr := raw2_rt hop ha hb
  unfold V4.two V4.norm
  cases hn : (V4.raw2 op a b).nok
  · exact okc (calcTwo_none (both_ok ha hb) hop hr hn) (fun _ => rfl) (fun _ => rfl) rfl
  · exact okc (calcTwo_yes (both_ok ha hb) hop hr hn) (fun _ => rfl) (fun _ => rfl) rfl
theorem refOver_ok (x y : BitVec 64) : Ok 89 [.c (.u x), .c (.u y)] (.c (.b (overB x y))) := by
  unfold overB
  cases h : eqb y zero with
  | true => exact refOver_w1 (by rw [show eqb y 0#64 = true from h]; rfl)
  | false =>
    have e : decide (18446744073709551615 / nv y < nv x) = decide (nv (18446744073709551615#64 / y) < nv x) := by
      have : nv (18446744073709551615#64 / y) = 18446744073709551615 / nv y := by
        unfold nv
        rw [BitVec.toNat_udiv]
        rfl
      rw [this]
    rw [e]
    exact refOver_w0 (by rw [show eqb y 0#64 = false from h, h]; rfl)
theorem refTwo_ok {a b : V4} {op : Int} (hop : 2 ≤ op ∧ op ≤ 9) (ha : a.ok = true) (hb : b.ok = true) : Ok 47 [.c (.i op), .ag a.cs, .ag b.cs] (.ag (V4.two op a b).cs) := by
  have ra := V4.rt_of ha
  have rb := V4.rt_of hb
  have hrt := raw2_rt hop ha hb
  have hn := refNorm_ok hrt
  have hcase : op = 2 ∨ op = 3 ∨ op = 4 ∨ op = 5 ∨ op = 6 ∨ op = 7 ∨ op = 8 ∨ op = 9 := by omega
  rcases hcase with rfl | rfl | rfl | rfl | rfl | rfl | rfl | rfl
  · have ht := refTwoBits_ok (op := 2) (by decide) ra rb
    by_cases hc : decide (nv (badd a.l b.l) < nv a.l) = decide (nv (badd a.h b.h) < nv a.h)
    · have e : V4.raw2 2 a b = ⟨(twoP 2 a.v a.m b.v b.m).1, (twoP 2 a.v a.m b.v b.m).2, badd a.l b.l, badd a.h b.h⟩ := by
        simp only [V4.raw2, rk, boundsP, addB, if_pos hc]; rfl
      unfold V4.two
      rw [e] at hn ⊢
      exact refTwo2_w0 (by rw [hc]; simp) ht hn
    · have e : V4.raw2 2 a b = ⟨(twoP 2 a.v a.m b.v b.m).1, (twoP 2 a.v a.m b.v b.m).2, zero, top⟩ := by
        simp only [V4.raw2, rk, boundsP, addB, if_neg hc]; rfl
      unfold V4.two
      rw [e] at hn ⊢
      exact refTwo2_w1 (by simpa using hc) ht hn
  · have ht := refTwoBits_ok (op := 3) (by decide) ra rb
    by_cases hc : decide (nv a.l < nv b.h) = decide (nv a.h < nv b.l)
    · have e : V4.raw2 3 a b = ⟨(twoP 3 a.v a.m b.v b.m).1, (twoP 3 a.v a.m b.v b.m).2, bsub a.l b.h, bsub a.h b.l⟩ := by
        simp only [V4.raw2, rk, boundsP, subB, if_pos hc]; rfl
      unfold V4.two
      rw [e] at hn ⊢
      exact refTwo3_w0 (by rw [hc]; simp) ht hn
    · have e : V4.raw2 3 a b = ⟨(twoP 3 a.v a.m b.v b.m).1, (twoP 3 a.v a.m b.v b.m).2, zero, top⟩ := by
        simp only [V4.raw2, rk, boundsP, subB, if_neg hc]; rfl
      unfold V4.two
      rw [e] at hn ⊢
      exact refTwo3_w1 (by simpa using hc) ht hn
  · have ht := refTwoBits_ok (op := 4) (by decide) ra rb
    have ho := refOver_ok a.h b.h
    cases hc : overB a.h b.h with
    | false =>
      have e : V4.raw2 4 a b = ⟨(twoP 4 a.v a.m b.v b.m).1, (twoP 4 a.v a.m b.v b.m).2, bmul a.l b.l, bmul a.h b.h⟩ := by
        simp only [V4.raw2, rk, boundsP, mulB, hc]; rfl
      unfold V4.two
      rw [e] at hn ⊢
      rw [hc] at ho
      exact refTwo4_w0 rfl ht ho hn
    | true =>
      have e : V4.raw2 4 a b = ⟨(twoP 4 a.v a.m b.v b.m).1, (twoP 4 a.v a.m b.v b.m).2, zero, top⟩ := by
        simp only [V4.raw2, rk, boundsP, mulB, hc]; rfl
      unfold V4.two
      rw [e] at hn ⊢
      rw [hc] at ho
      exact refTwo4_w1 rfl ht ho hn
  · exact refTwo5_w0 (refTwoBits_ok (op := 5) (by decide) ra rb) hn
  · exact refTwo6_w0 (refTwoBits_ok (op := 6) (by decide) ra rb) hn
  · exact refTwo7_w0 (refTwoBits_ok (op := 7) (by decide) ra rb) hn
  · have hal := refAlone_ok b
    have hlt := six_lt b.l
    cases hc : b.alone with
    | false =>
      have e : V4.raw2 8 a b = ⟨zero, top, zero, top⟩ := by
        have hc' : eqb b.l b.h = false := hc
        simp only [V4.raw2, rk, hc', if_true]; rfl
      unfold V4.two
      rw [e] at hn ⊢
      rw [hc] at hal
      exact refTwo8n_w0 rfl hal hn
    | true =>
      have hc' : eqb b.l b.h = true := hc
      have hs := refShift_ok (a := a) (op := 8) (Or.inl rfl) ra hlt
      rw [hc] at hal
      rw [← wrap_six] at hs
      have e6 : Int.toNat (IntKind.wrap IntKind.i64 (nv (band b.l 63#64))) = six b.l := by rw [wrap_six]; rfl
      unfold V4.two
      cases hq : eqb (bshr (bshl a.h (six b.l)) (six b.l)) a.h with
      | true =>
        have e : V4.raw2 8 a b = ⟨bshl a.v (six b.l), bshl a.m (six b.l), bshl a.l (six b.l), bshl a.h (six b.l)⟩ := by
          simp only [V4.raw2, rk, hc', if_true, shlB, hq]
        rw [e] at hn ⊢
        rw [← e6] at hn
        rw [← e6] at hs
        have := refTwo8y_w0 (a := a) (b := b) (al := true) (by rw [e6, wrap_six, hq]; simp; omega) hal hs hn
        rw [e6] at this
        exact this
      | false =>
        have e : V4.raw2 8 a b = ⟨bshl a.v (six b.l), bshl a.m (six b.l), zero, top⟩ := by
          simp only [V4.raw2, rk, hc', if_true, shlB, hq]; rfl
        rw [e] at hn ⊢
        exact refTwo8y_w1 (a := a) (b := b) (al := true) (by rw [e6, wrap_six, hq]; simp; omega) hal hs hn
  · have hal := refAlone_ok b
    have hlt := six_lt b.l
    cases hc : b.alone with
    | false =>
      have e : V4.raw2 9 a b = ⟨zero, top, zero, a.h⟩ := by
        have hc' : eqb b.l b.h = false := hc
        simp only [V4.raw2, rk, hc']; rfl
      unfold V4.two
      rw [e] at hn ⊢
      rw [hc] at hal
      exact refTwo9n_w0 rfl hal hn
    | true =>
      have hc' : eqb b.l b.h = true := hc
      have hs := refShift_ok (a := a) (op := 9) (Or.inr rfl) ra hlt
      rw [hc] at hal
      rw [← wrap_six] at hs
      have e6 : Int.toNat (IntKind.wrap IntKind.i64 (nv (band b.l 63#64))) = six b.l := by rw [wrap_six]; rfl
      have e : V4.raw2 9 a b = ⟨bshr a.v (six b.l), bshr a.m (six b.l), bshr a.l (six b.l), bshr a.h (six b.l)⟩ := by
        simp only [V4.raw2, rk, hc']; rfl
      unfold V4.two
      rw [e] at hn ⊢
      rw [← e6] at hn
      rw [← e6] at hs
      have := refTwo9y_w0 (a := a) (b := b) (al := true) (by rw [wrap_six]; simp; omega) hal hs hn
      rw [e6] at this
      exact this
theorem calcBytes_ok {n : Int} (hn : n = 1 ∨ n = 2 ∨ n = 4 ∨ n = 8) : Ok 48 [.c (.i n)] (.tu [.ag (V4.bytes n).cs, .c (.i 0)]) := by
  rcases hn with rfl | rfl | rfl | rfl
  · exact calcBytes_w0 (by decide +kernel)
  · exact calcBytes_w1 (by decide +kernel)
  · exact calcBytes_w2 (by decide +kernel)
  · exact calcBytes_w3 (by decide +kernel)
theorem calcBytes_no {n : Int} (h1 : n ≠ 1) (h2 : n ≠ 2) (h4 : n ≠ 4) (h8 : n ≠ 8) : Ok 48 [.c (.i n)] (.tu [.ag V4.z.cs, .c (.i 3)]) :=
  calcBytes_w4 (by simp [h1, h2, h4, h8])
theorem refBytes_ok {n : Int} (hn : n = 1 ∨ n = 2 ∨ n = 4 ∨ n = 8) : Ok 49 [.c (.i n)] (.ag (V4.bytes n).cs) := by
  rcases hn with rfl | rfl | rfl | rfl
  · exact refBytes_w1 (by decide +kernel)
  · exact refBytes_w1 (by decide +kernel)
  · exact refBytes_w1 (by decide +kernel)
  · exact refBytes_w0 rfl refAny_ok
/- what is wrong -/
theorem calcTwo_bad {a b : V4} (op : Int) (h : (a.ok && b.ok) = false) : Ok 46 [.c (.i op), .ag a.cs, .ag b.cs] (.tu [.ag V4.z.cs, .c (.i 1)]) :=
  okc (calcTwo_wrong h) (fun _ => rfl) (fun _ => rfl) rfl
theorem calcTwo_no {a b : V4} {op : Int} (hop : op < 2 ∨ 9 < op) (ha : a.ok = true) (hb : b.ok = true) : Ok 46 [.c (.i op), .ag a.cs, .ag b.cs] (.tu [.ag V4.z.cs, .c (.i 4)]) :=
  okc (calcTwo_kind hop (both_ok ha hb)) (fun _ => rfl) (fun _ => rfl) rfl
def FourBad (f : Nat) (a b : V4) : Prop := Ok f [.ag a.cs, .ag b.cs] (.tu [.ag V4.z.cs, .ag V4.z.cs, .c (.b false), .c (.i 1)])
theorem calcEqual_bad {a b : V4} (h : (a.ok && b.ok) = false) : FourBad 51 a b := okc (calcEqual_wrong h) (fun _ => rfl) (fun _ => rfl) rfl
theorem calcOther_bad {a b : V4} (h : (a.ok && b.ok) = false) : FourBad 52 a b := okc (calcOther_wrong h) (fun _ => rfl) (fun _ => rfl) rfl
theorem calcLess_bad {a b : V4} (h : (a.ok && b.ok) = false) : FourBad 53 a b := okc (calcLess_wrong h) (fun _ => rfl) (fun _ => rfl) rfl
theorem calcNotLess_bad {a b : V4} (h : (a.ok && b.ok) = false) : FourBad 54 a b := okc (calcNotLess_wrong h) (fun _ => rfl) (fun _ => rfl) rfl
end Go.Proofs.Ytkigmocchaikgaa

/- Ways of bodies, written by a program (ways.py): what each asks for, and hands back. -/
namespace Go.Proofs.Ytkigmocchaikgaa
open Go.RowKit

theorem calcLeft_w0 {a : V4} {b : V4} {p1 : V4} {q1 : V4} {p2 : V4} {q2 : V4} {p3 : V4} {q3 : V4} {p4 : V4} {q4 : V4} {r1 : Bool} {r2 : Bool} {r3 : Bool} {r4 : Bool} (h : (r1 == r1 && (r2 == r2 && (r3 == r3 && (r4 == r4 && (eqCs (V4.cs p1) (V4.cs p1) && (eqCs (V4.cs q1) (V4.cs q1) && (eqCs (V4.cs p2) (V4.cs p2) && (eqCs (V4.cs q2) (V4.cs q2) && (eqCs (V4.cs p3) (V4.cs p3) && (eqCs (V4.cs q3) (V4.cs q3) && (eqCs (V4.cs p4) (V4.cs p4) && true))))))))))) = true) (c0 : CallOK Try.prog (CallRec.mk 51 [AV.ag (V4.cs a), AV.ag (V4.cs b)] [] (Eff.mk (AV.tu [AT.ag (V4.cs p1), AT.ag (V4.cs q1), AT.c (AC.b r1), AT.c (AC.i 0)]) [] none))) (c1 : CallOK Try.prog (CallRec.mk 52 [AV.ag (V4.cs a), AV.ag (V4.cs b)] [] (Eff.mk (AV.tu [AT.ag (V4.cs p2), AT.ag (V4.cs q2), AT.c (AC.b r2), AT.c (AC.i 0)]) [] none))) (c2 : CallOK Try.prog (CallRec.mk 53 [AV.ag (V4.cs a), AV.ag (V4.cs b)] [] (Eff.mk (AV.tu [AT.ag (V4.cs p3), AT.ag (V4.cs q3), AT.c (AC.b r3), AT.c (AC.i 0)]) [] none))) (c3 : CallOK Try.prog (CallRec.mk 54 [AV.ag (V4.cs a), AV.ag (V4.cs b)] [] (Eff.mk (AV.tu [AT.ag (V4.cs p4), AT.ag (V4.cs q4), AT.c (AC.b r4), AT.c (AC.i 0)]) [] none))) (c4 : CallOK Try.prog (CallRec.mk 34 [AV.ag (V4.cs a)] [] (Eff.mk (AV.c (AC.b true)) [] none))) (c5 : CallOK Try.prog (CallRec.mk 34 [AV.ag (V4.cs b)] [] (Eff.mk (AV.c (AC.b true)) [] none))) (c6 : CallOK Try.prog (CallRec.mk 55 [AV.ag (V4.cs a), AV.ag (V4.cs b)] [] (Eff.mk (AV.tu [AT.ag (V4.cs p1), AT.ag (V4.cs q1), AT.c (AC.b r1)]) [] none))) (c7 : CallOK Try.prog (CallRec.mk 56 [AV.ag (V4.cs a), AV.ag (V4.cs b)] [] (Eff.mk (AV.tu [AT.ag (V4.cs p2), AT.ag (V4.cs q2), AT.c (AC.b r2)]) [] none))) (c8 : CallOK Try.prog (CallRec.mk 57 [AV.ag (V4.cs a), AV.ag (V4.cs b)] [] (Eff.mk (AV.tu [AT.ag (V4.cs p3), AT.ag (V4.cs q3), AT.c (AC.b r3)]) [] none))) (c9 : CallOK Try.prog (CallRec.mk 58 [AV.ag (V4.cs a), AV.ag (V4.cs b)] [] (Eff.mk (AV.tu [AT.ag (V4.cs p4), AT.ag (V4.cs q4), AT.c (AC.b r4)]) [] none))) (c10 : CallOK Try.prog (CallRec.mk 50 [] [] (Eff.mk (AV.c (AC.b true)) [] none))) :
    CallOK Try.prog ⟨9, [AV.ag (V4.cs a), AV.ag (V4.cs b)], [], ⟨AV.c (AC.b (eqCs (V4.cs q4) (V4.cs q4))), [], none⟩⟩ :=
  val_run 2000 [Eff.mk (AV.tu [AT.ag (V4.cs p1), AT.ag (V4.cs q1), AT.c (AC.b r1), AT.c (AC.i 0)]) [] none, Eff.mk (AV.tu [AT.ag (V4.cs p2), AT.ag (V4.cs q2), AT.c (AC.b r2), AT.c (AC.i 0)]) [] none, Eff.mk (AV.tu [AT.ag (V4.cs p3), AT.ag (V4.cs q3), AT.c (AC.b r3), AT.c (AC.i 0)]) [] none, Eff.mk (AV.tu [AT.ag (V4.cs p4), AT.ag (V4.cs q4), AT.c (AC.b r4), AT.c (AC.i 0)]) [] none, Eff.mk (AV.c (AC.b true)) [] none, Eff.mk (AV.c (AC.b true)) [] none, Eff.mk (AV.tu [AT.ag (V4.cs p1), AT.ag (V4.cs q1), AT.c (AC.b r1)]) [] none, Eff.mk (AV.tu [AT.ag (V4.cs p2), AT.ag (V4.cs q2), AT.c (AC.b r2)]) [] none, Eff.mk (AV.tu [AT.ag (V4.cs p3), AT.ag (V4.cs q3), AT.c (AC.b r3)]) [] none, Eff.mk (AV.tu [AT.ag (V4.cs p4), AT.ag (V4.cs q4), AT.c (AC.b r4)]) [] none, Eff.mk (AV.c (AC.b true)) [] none] [false, false, true, true, true, true, true, true, true, true, true, true, true, true, true, true, true, true] ([]) [] Try.func9 rfl rfl rfl rfl (by kernel_rfl) h (cr_cons c0 (cr_cons c1 (cr_cons c2 (cr_cons c3 (cr_cons c4 (cr_cons c5 (cr_cons c6 (cr_cons c7 (cr_cons c8 (cr_cons c9 (cr_cons c10 cr_nil)))))))))))
theorem calcLeftBadA_w0 {a : V4} {b : V4} (c0 : CallOK Try.prog (CallRec.mk 51 [AV.ag (V4.cs a), AV.ag (V4.cs b)] [] (Eff.mk (AV.tu [AT.ag (V4.cs V4.z), AT.ag (V4.cs V4.z), AT.c (AC.b false), AT.c (AC.i 1)]) [] none))) (c1 : CallOK Try.prog (CallRec.mk 52 [AV.ag (V4.cs a), AV.ag (V4.cs b)] [] (Eff.mk (AV.tu [AT.ag (V4.cs V4.z), AT.ag (V4.cs V4.z), AT.c (AC.b false), AT.c (AC.i 1)]) [] none))) (c2 : CallOK Try.prog (CallRec.mk 53 [AV.ag (V4.cs a), AV.ag (V4.cs b)] [] (Eff.mk (AV.tu [AT.ag (V4.cs V4.z), AT.ag (V4.cs V4.z), AT.c (AC.b false), AT.c (AC.i 1)]) [] none))) (c3 : CallOK Try.prog (CallRec.mk 54 [AV.ag (V4.cs a), AV.ag (V4.cs b)] [] (Eff.mk (AV.tu [AT.ag (V4.cs V4.z), AT.ag (V4.cs V4.z), AT.c (AC.b false), AT.c (AC.i 1)]) [] none))) (c4 : CallOK Try.prog (CallRec.mk 34 [AV.ag (V4.cs a)] [] (Eff.mk (AV.c (AC.b false)) [] none))) (c5 : CallOK Try.prog (CallRec.mk 50 [] [] (Eff.mk (AV.c (AC.b true)) [] none))) :
    CallOK Try.prog ⟨9, [AV.ag (V4.cs a), AV.ag (V4.cs b)], [], ⟨AV.c (AC.b true), [], none⟩⟩ :=
  val_run 2000 [Eff.mk (AV.tu [AT.ag (V4.cs V4.z), AT.ag (V4.cs V4.z), AT.c (AC.b false), AT.c (AC.i 1)]) [] none, Eff.mk (AV.tu [AT.ag (V4.cs V4.z), AT.ag (V4.cs V4.z), AT.c (AC.b false), AT.c (AC.i 1)]) [] none, Eff.mk (AV.tu [AT.ag (V4.cs V4.z), AT.ag (V4.cs V4.z), AT.c (AC.b false), AT.c (AC.i 1)]) [] none, Eff.mk (AV.tu [AT.ag (V4.cs V4.z), AT.ag (V4.cs V4.z), AT.c (AC.b false), AT.c (AC.i 1)]) [] none, Eff.mk (AV.c (AC.b false)) [] none, Eff.mk (AV.c (AC.b true)) [] none] [true, true, true, true, true, true, true, true, true, true, true, true, true, true] ([]) [] Try.func9 rfl rfl rfl rfl (by kernel_rfl) rfl (cr_cons c0 (cr_cons c1 (cr_cons c2 (cr_cons c3 (cr_cons c4 (cr_cons c5 cr_nil))))))
theorem calcLeftBadB_w0 {a : V4} {b : V4} (c0 : CallOK Try.prog (CallRec.mk 51 [AV.ag (V4.cs a), AV.ag (V4.cs b)] [] (Eff.mk (AV.tu [AT.ag (V4.cs V4.z), AT.ag (V4.cs V4.z), AT.c (AC.b false), AT.c (AC.i 1)]) [] none))) (c1 : CallOK Try.prog (CallRec.mk 52 [AV.ag (V4.cs a), AV.ag (V4.cs b)] [] (Eff.mk (AV.tu [AT.ag (V4.cs V4.z), AT.ag (V4.cs V4.z), AT.c (AC.b false), AT.c (AC.i 1)]) [] none))) (c2 : CallOK Try.prog (CallRec.mk 53 [AV.ag (V4.cs a), AV.ag (V4.cs b)] [] (Eff.mk (AV.tu [AT.ag (V4.cs V4.z), AT.ag (V4.cs V4.z), AT.c (AC.b false), AT.c (AC.i 1)]) [] none))) (c3 : CallOK Try.prog (CallRec.mk 54 [AV.ag (V4.cs a), AV.ag (V4.cs b)] [] (Eff.mk (AV.tu [AT.ag (V4.cs V4.z), AT.ag (V4.cs V4.z), AT.c (AC.b false), AT.c (AC.i 1)]) [] none))) (c4 : CallOK Try.prog (CallRec.mk 34 [AV.ag (V4.cs a)] [] (Eff.mk (AV.c (AC.b true)) [] none))) (c5 : CallOK Try.prog (CallRec.mk 34 [AV.ag (V4.cs b)] [] (Eff.mk (AV.c (AC.b false)) [] none))) (c6 : CallOK Try.prog (CallRec.mk 50 [] [] (Eff.mk (AV.c (AC.b true)) [] none))) :
    CallOK Try.prog ⟨9, [AV.ag (V4.cs a), AV.ag (V4.cs b)], [], ⟨AV.c (AC.b true), [], none⟩⟩ :=
  val_run 2000 [Eff.mk (AV.tu [AT.ag (V4.cs V4.z), AT.ag (V4.cs V4.z), AT.c (AC.b false), AT.c (AC.i 1)]) [] none, Eff.mk (AV.tu [AT.ag (V4.cs V4.z), AT.ag (V4.cs V4.z), AT.c (AC.b false), AT.c (AC.i 1)]) [] none, Eff.mk (AV.tu [AT.ag (V4.cs V4.z), AT.ag (V4.cs V4.z), AT.c (AC.b false), AT.c (AC.i 1)]) [] none, Eff.mk (AV.tu [AT.ag (V4.cs V4.z), AT.ag (V4.cs V4.z), AT.c (AC.b false), AT.c (AC.i 1)]) [] none, Eff.mk (AV.c (AC.b true)) [] none, Eff.mk (AV.c (AC.b false)) [] none, Eff.mk (AV.c (AC.b true)) [] none] [false, true, true, true, true, true, true, true, true, true, true, true, true, true] ([]) [] Try.func9 rfl rfl rfl rfl (by kernel_rfl) rfl (cr_cons c0 (cr_cons c1 (cr_cons c2 (cr_cons c3 (cr_cons c4 (cr_cons c5 (cr_cons c6 cr_nil)))))))
theorem calcTwoOky1_w0 {a : V4} {b : V4} {c : V4} {d : V4} {op : Int} (h : (!decide (op < 2) && (!decide (9 < op) && (eqCs (V4.cs c) (V4.cs c) && (eqCs (V4.cs d) (V4.cs d) && true)))) = true) (c0 : CallOK Try.prog (CallRec.mk 46 [AV.c (AC.i op), AV.ag (V4.cs a), AV.ag (V4.cs b)] [] (Eff.mk (AV.tu [AT.ag (V4.cs c), AT.c (AC.i 0)]) [] none))) (c1 : CallOK Try.prog (CallRec.mk 34 [AV.ag (V4.cs a)] [] (Eff.mk (AV.c (AC.b true)) [] none))) (c2 : CallOK Try.prog (CallRec.mk 34 [AV.ag (V4.cs b)] [] (Eff.mk (AV.c (AC.b true)) [] none))) (c3 : CallOK Try.prog (CallRec.mk 47 [AV.c (AC.i op), AV.ag (V4.cs a), AV.ag (V4.cs b)] [] (Eff.mk (AV.ag (V4.cs c)) [] none))) (c4 : CallOK Try.prog (CallRec.mk 48 [AV.c (AC.i 1)] [] (Eff.mk (AV.tu [AT.ag (V4.cs d), AT.c (AC.i 0)]) [] none))) (c5 : CallOK Try.prog (CallRec.mk 49 [AV.c (AC.i 1)] [] (Eff.mk (AV.ag (V4.cs d)) [] none))) (c6 : CallOK Try.prog (CallRec.mk 50 [] [] (Eff.mk (AV.c (AC.b true)) [] none))) :
    CallOK Try.prog ⟨8, [AV.c (AC.i op), AV.ag (V4.cs a), AV.ag (V4.cs b), AV.c (AC.i 1)], [], ⟨AV.c (AC.b true), [], none⟩⟩ :=
  val_run 2000 [Eff.mk (AV.tu [AT.ag (V4.cs c), AT.c (AC.i 0)]) [] none, Eff.mk (AV.c (AC.b true)) [] none, Eff.mk (AV.c (AC.b true)) [] none, Eff.mk (AV.ag (V4.cs c)) [] none, Eff.mk (AV.tu [AT.ag (V4.cs d), AT.c (AC.i 0)]) [] none, Eff.mk (AV.ag (V4.cs d)) [] none, Eff.mk (AV.c (AC.b true)) [] none] [false, false, false, false, true, true, true, true, true, true, true, true] ([]) [] Try.func8 rfl rfl rfl rfl (by kernel_rfl) h (cr_cons c0 (cr_cons c1 (cr_cons c2 (cr_cons c3 (cr_cons c4 (cr_cons c5 (cr_cons c6 cr_nil)))))))
theorem calcTwoOky2_w0 {a : V4} {b : V4} {c : V4} {d : V4} {op : Int} (h : (!decide (op < 2) && (!decide (9 < op) && (eqCs (V4.cs c) (V4.cs c) && (eqCs (V4.cs d) (V4.cs d) && true)))) = true) (c0 : CallOK Try.prog (CallRec.mk 46 [AV.c (AC.i op), AV.ag (V4.cs a), AV.ag (V4.cs b)] [] (Eff.mk (AV.tu [AT.ag (V4.cs c), AT.c (AC.i 0)]) [] none))) (c1 : CallOK Try.prog (CallRec.mk 34 [AV.ag (V4.cs a)] [] (Eff.mk (AV.c (AC.b true)) [] none))) (c2 : CallOK Try.prog (CallRec.mk 34 [AV.ag (V4.cs b)] [] (Eff.mk (AV.c (AC.b true)) [] none))) (c3 : CallOK Try.prog (CallRec.mk 47 [AV.c (AC.i op), AV.ag (V4.cs a), AV.ag (V4.cs b)] [] (Eff.mk (AV.ag (V4.cs c)) [] none))) (c4 : CallOK Try.prog (CallRec.mk 48 [AV.c (AC.i 2)] [] (Eff.mk (AV.tu [AT.ag (V4.cs d), AT.c (AC.i 0)]) [] none))) (c5 : CallOK Try.prog (CallRec.mk 49 [AV.c (AC.i 2)] [] (Eff.mk (AV.ag (V4.cs d)) [] none))) (c6 : CallOK Try.prog (CallRec.mk 50 [] [] (Eff.mk (AV.c (AC.b true)) [] none))) :
    CallOK Try.prog ⟨8, [AV.c (AC.i op), AV.ag (V4.cs a), AV.ag (V4.cs b), AV.c (AC.i 2)], [], ⟨AV.c (AC.b true), [], none⟩⟩ :=
  val_run 2000 [Eff.mk (AV.tu [AT.ag (V4.cs c), AT.c (AC.i 0)]) [] none, Eff.mk (AV.c (AC.b true)) [] none, Eff.mk (AV.c (AC.b true)) [] none, Eff.mk (AV.ag (V4.cs c)) [] none, Eff.mk (AV.tu [AT.ag (V4.cs d), AT.c (AC.i 0)]) [] none, Eff.mk (AV.ag (V4.cs d)) [] none, Eff.mk (AV.c (AC.b true)) [] none] [false, false, false, false, false, true, true, true, true, true, true, true] ([]) [] Try.func8 rfl rfl rfl rfl (by kernel_rfl) h (cr_cons c0 (cr_cons c1 (cr_cons c2 (cr_cons c3 (cr_cons c4 (cr_cons c5 (cr_cons c6 cr_nil)))))))
theorem calcTwoOky4_w0 {a : V4} {b : V4} {c : V4} {d : V4} {op : Int} (h : (!decide (op < 2) && (!decide (9 < op) && (eqCs (V4.cs c) (V4.cs c) && (eqCs (V4.cs d) (V4.cs d) && true)))) = true) (c0 : CallOK Try.prog (CallRec.mk 46 [AV.c (AC.i op), AV.ag (V4.cs a), AV.ag (V4.cs b)] [] (Eff.mk (AV.tu [AT.ag (V4.cs c), AT.c (AC.i 0)]) [] none))) (c1 : CallOK Try.prog (CallRec.mk 34 [AV.ag (V4.cs a)] [] (Eff.mk (AV.c (AC.b true)) [] none))) (c2 : CallOK Try.prog (CallRec.mk 34 [AV.ag (V4.cs b)] [] (Eff.mk (AV.c (AC.b true)) [] none))) (c3 : CallOK Try.prog (CallRec.mk 47 [AV.c (AC.i op), AV.ag (V4.cs a), AV.ag (V4.cs b)] [] (Eff.mk (AV.ag (V4.cs c)) [] none))) (c4 : CallOK Try.prog (CallRec.mk 48 [AV.c (AC.i 4)] [] (Eff.mk (AV.tu [AT.ag (V4.cs d), AT.c (AC.i 0)]) [] none))) (c5 : CallOK Try.prog (CallRec.mk 49 [AV.c (AC.i 4)] [] (Eff.mk (AV.ag (V4.cs d)) [] none))) (c6 : CallOK Try.prog (CallRec.mk 50 [] [] (Eff.mk (AV.c (AC.b true)) [] none))) :
    CallOK Try.prog ⟨8, [AV.c (AC.i op), AV.ag (V4.cs a), AV.ag (V4.cs b), AV.c (AC.i 4)], [], ⟨AV.c (AC.b true), [], none⟩⟩ :=
  val_run 2000 [Eff.mk (AV.tu [AT.ag (V4.cs c), AT.c (AC.i 0)]) [] none, Eff.mk (AV.c (AC.b true)) [] none, Eff.mk (AV.c (AC.b true)) [] none, Eff.mk (AV.ag (V4.cs c)) [] none, Eff.mk (AV.tu [AT.ag (V4.cs d), AT.c (AC.i 0)]) [] none, Eff.mk (AV.ag (V4.cs d)) [] none, Eff.mk (AV.c (AC.b true)) [] none] [false, false, false, false, false, false, true, true, true, true, true, true] ([]) [] Try.func8 rfl rfl rfl rfl (by kernel_rfl) h (cr_cons c0 (cr_cons c1 (cr_cons c2 (cr_cons c3 (cr_cons c4 (cr_cons c5 (cr_cons c6 cr_nil)))))))
theorem calcTwoOky8_w0 {a : V4} {b : V4} {c : V4} {d : V4} {op : Int} (h : (!decide (op < 2) && (!decide (9 < op) && (eqCs (V4.cs c) (V4.cs c) && (eqCs (V4.cs d) (V4.cs d) && true)))) = true) (c0 : CallOK Try.prog (CallRec.mk 46 [AV.c (AC.i op), AV.ag (V4.cs a), AV.ag (V4.cs b)] [] (Eff.mk (AV.tu [AT.ag (V4.cs c), AT.c (AC.i 0)]) [] none))) (c1 : CallOK Try.prog (CallRec.mk 34 [AV.ag (V4.cs a)] [] (Eff.mk (AV.c (AC.b true)) [] none))) (c2 : CallOK Try.prog (CallRec.mk 34 [AV.ag (V4.cs b)] [] (Eff.mk (AV.c (AC.b true)) [] none))) (c3 : CallOK Try.prog (CallRec.mk 47 [AV.c (AC.i op), AV.ag (V4.cs a), AV.ag (V4.cs b)] [] (Eff.mk (AV.ag (V4.cs c)) [] none))) (c4 : CallOK Try.prog (CallRec.mk 48 [AV.c (AC.i 8)] [] (Eff.mk (AV.tu [AT.ag (V4.cs d), AT.c (AC.i 0)]) [] none))) (c5 : CallOK Try.prog (CallRec.mk 49 [AV.c (AC.i 8)] [] (Eff.mk (AV.ag (V4.cs d)) [] none))) (c6 : CallOK Try.prog (CallRec.mk 50 [] [] (Eff.mk (AV.c (AC.b true)) [] none))) :
    CallOK Try.prog ⟨8, [AV.c (AC.i op), AV.ag (V4.cs a), AV.ag (V4.cs b), AV.c (AC.i 8)], [], ⟨AV.c (AC.b true), [], none⟩⟩ :=
  val_run 2000 [Eff.mk (AV.tu [AT.ag (V4.cs c), AT.c (AC.i 0)]) [] none, Eff.mk (AV.c (AC.b true)) [] none, Eff.mk (AV.c (AC.b true)) [] none, Eff.mk (AV.ag (V4.cs c)) [] none, Eff.mk (AV.tu [AT.ag (V4.cs d), AT.c (AC.i 0)]) [] none, Eff.mk (AV.ag (V4.cs d)) [] none, Eff.mk (AV.c (AC.b true)) [] none] [false, false, false, false, false, false, false, true, true, true, true, true] ([]) [] Try.func8 rfl rfl rfl rfl (by kernel_rfl) h (cr_cons c0 (cr_cons c1 (cr_cons c2 (cr_cons c3 (cr_cons c4 (cr_cons c5 (cr_cons c6 cr_nil)))))))
theorem calcTwoBadAy1_w0 {a : V4} {b : V4} {d : V4} {op : Int} (h : (eqCs (V4.cs d) (V4.cs d) && true) = true) (c0 : CallOK Try.prog (CallRec.mk 46 [AV.c (AC.i op), AV.ag (V4.cs a), AV.ag (V4.cs b)] [] (Eff.mk (AV.tu [AT.ag (V4.cs V4.z), AT.c (AC.i 1)]) [] none))) (c1 : CallOK Try.prog (CallRec.mk 34 [AV.ag (V4.cs a)] [] (Eff.mk (AV.c (AC.b false)) [] none))) (c2 : CallOK Try.prog (CallRec.mk 48 [AV.c (AC.i 1)] [] (Eff.mk (AV.tu [AT.ag (V4.cs d), AT.c (AC.i 0)]) [] none))) (c3 : CallOK Try.prog (CallRec.mk 49 [AV.c (AC.i 1)] [] (Eff.mk (AV.ag (V4.cs d)) [] none))) (c4 : CallOK Try.prog (CallRec.mk 50 [] [] (Eff.mk (AV.c (AC.b true)) [] none))) :
    CallOK Try.prog ⟨8, [AV.c (AC.i op), AV.ag (V4.cs a), AV.ag (V4.cs b), AV.c (AC.i 1)], [], ⟨AV.c (AC.b true), [], none⟩⟩ :=
  val_run 2000 [Eff.mk (AV.tu [AT.ag (V4.cs V4.z), AT.c (AC.i 1)]) [] none, Eff.mk (AV.c (AC.b false)) [] none, Eff.mk (AV.tu [AT.ag (V4.cs d), AT.c (AC.i 0)]) [] none, Eff.mk (AV.ag (V4.cs d)) [] none, Eff.mk (AV.c (AC.b true)) [] none] [true, true, true, true, true, true, true, true, true, true] ([]) [] Try.func8 rfl rfl rfl rfl (by kernel_rfl) h (cr_cons c0 (cr_cons c1 (cr_cons c2 (cr_cons c3 (cr_cons c4 cr_nil)))))
theorem calcTwoBadAy2_w0 {a : V4} {b : V4} {d : V4} {op : Int} (h : (eqCs (V4.cs d) (V4.cs d) && true) = true) (c0 : CallOK Try.prog (CallRec.mk 46 [AV.c (AC.i op), AV.ag (V4.cs a), AV.ag (V4.cs b)] [] (Eff.mk (AV.tu [AT.ag (V4.cs V4.z), AT.c (AC.i 1)]) [] none))) (c1 : CallOK Try.prog (CallRec.mk 34 [AV.ag (V4.cs a)] [] (Eff.mk (AV.c (AC.b false)) [] none))) (c2 : CallOK Try.prog (CallRec.mk 48 [AV.c (AC.i 2)] [] (Eff.mk (AV.tu [AT.ag (V4.cs d), AT.c (AC.i 0)]) [] none))) (c3 : CallOK Try.prog (CallRec.mk 49 [AV.c (AC.i 2)] [] (Eff.mk (AV.ag (V4.cs d)) [] none))) (c4 : CallOK Try.prog (CallRec.mk 50 [] [] (Eff.mk (AV.c (AC.b true)) [] none))) :
    CallOK Try.prog ⟨8, [AV.c (AC.i op), AV.ag (V4.cs a), AV.ag (V4.cs b), AV.c (AC.i 2)], [], ⟨AV.c (AC.b true), [], none⟩⟩ :=
  val_run 2000 [Eff.mk (AV.tu [AT.ag (V4.cs V4.z), AT.c (AC.i 1)]) [] none, Eff.mk (AV.c (AC.b false)) [] none, Eff.mk (AV.tu [AT.ag (V4.cs d), AT.c (AC.i 0)]) [] none, Eff.mk (AV.ag (V4.cs d)) [] none, Eff.mk (AV.c (AC.b true)) [] none] [true, true, false, true, true, true, true, true, true, true] ([]) [] Try.func8 rfl rfl rfl rfl (by kernel_rfl) h (cr_cons c0 (cr_cons c1 (cr_cons c2 (cr_cons c3 (cr_cons c4 cr_nil)))))
theorem calcTwoBadAy4_w0 {a : V4} {b : V4} {d : V4} {op : Int} (h : (eqCs (V4.cs d) (V4.cs d) && true) = true) (c0 : CallOK Try.prog (CallRec.mk 46 [AV.c (AC.i op), AV.ag (V4.cs a), AV.ag (V4.cs b)] [] (Eff.mk (AV.tu [AT.ag (V4.cs V4.z), AT.c (AC.i 1)]) [] none))) (c1 : CallOK Try.prog (CallRec.mk 34 [AV.ag (V4.cs a)] [] (Eff.mk (AV.c (AC.b false)) [] none))) (c2 : CallOK Try.prog (CallRec.mk 48 [AV.c (AC.i 4)] [] (Eff.mk (AV.tu [AT.ag (V4.cs d), AT.c (AC.i 0)]) [] none))) (c3 : CallOK Try.prog (CallRec.mk 49 [AV.c (AC.i 4)] [] (Eff.mk (AV.ag (V4.cs d)) [] none))) (c4 : CallOK Try.prog (CallRec.mk 50 [] [] (Eff.mk (AV.c (AC.b true)) [] none))) :
    CallOK Try.prog ⟨8, [AV.c (AC.i op), AV.ag (V4.cs a), AV.ag (V4.cs b), AV.c (AC.i 4)], [], ⟨AV.c (AC.b true), [], none⟩⟩ :=
  val_run 2000 [Eff.mk (AV.tu [AT.ag (V4.cs V4.z), AT.c (AC.i 1)]) [] none, Eff.mk (AV.c (AC.b false)) [] none, Eff.mk (AV.tu [AT.ag (V4.cs d), AT.c (AC.i 0)]) [] none, Eff.mk (AV.ag (V4.cs d)) [] none, Eff.mk (AV.c (AC.b true)) [] none] [true, true, false, false, true, true, true, true, true, true] ([]) [] Try.func8 rfl rfl rfl rfl (by kernel_rfl) h (cr_cons c0 (cr_cons c1 (cr_cons c2 (cr_cons c3 (cr_cons c4 cr_nil)))))
theorem calcTwoBadAy8_w0 {a : V4} {b : V4} {d : V4} {op : Int} (h : (eqCs (V4.cs d) (V4.cs d) && true) = true) (c0 : CallOK Try.prog (CallRec.mk 46 [AV.c (AC.i op), AV.ag (V4.cs a), AV.ag (V4.cs b)] [] (Eff.mk (AV.tu [AT.ag (V4.cs V4.z), AT.c (AC.i 1)]) [] none))) (c1 : CallOK Try.prog (CallRec.mk 34 [AV.ag (V4.cs a)] [] (Eff.mk (AV.c (AC.b false)) [] none))) (c2 : CallOK Try.prog (CallRec.mk 48 [AV.c (AC.i 8)] [] (Eff.mk (AV.tu [AT.ag (V4.cs d), AT.c (AC.i 0)]) [] none))) (c3 : CallOK Try.prog (CallRec.mk 49 [AV.c (AC.i 8)] [] (Eff.mk (AV.ag (V4.cs d)) [] none))) (c4 : CallOK Try.prog (CallRec.mk 50 [] [] (Eff.mk (AV.c (AC.b true)) [] none))) :
    CallOK Try.prog ⟨8, [AV.c (AC.i op), AV.ag (V4.cs a), AV.ag (V4.cs b), AV.c (AC.i 8)], [], ⟨AV.c (AC.b true), [], none⟩⟩ :=
  val_run 2000 [Eff.mk (AV.tu [AT.ag (V4.cs V4.z), AT.c (AC.i 1)]) [] none, Eff.mk (AV.c (AC.b false)) [] none, Eff.mk (AV.tu [AT.ag (V4.cs d), AT.c (AC.i 0)]) [] none, Eff.mk (AV.ag (V4.cs d)) [] none, Eff.mk (AV.c (AC.b true)) [] none] [true, true, false, false, false, true, true, true, true, true] ([]) [] Try.func8 rfl rfl rfl rfl (by kernel_rfl) h (cr_cons c0 (cr_cons c1 (cr_cons c2 (cr_cons c3 (cr_cons c4 cr_nil)))))
theorem calcTwoBadBy1_w0 {a : V4} {b : V4} {d : V4} {op : Int} (h : (eqCs (V4.cs d) (V4.cs d) && true) = true) (c0 : CallOK Try.prog (CallRec.mk 46 [AV.c (AC.i op), AV.ag (V4.cs a), AV.ag (V4.cs b)] [] (Eff.mk (AV.tu [AT.ag (V4.cs V4.z), AT.c (AC.i 1)]) [] none))) (c1 : CallOK Try.prog (CallRec.mk 34 [AV.ag (V4.cs a)] [] (Eff.mk (AV.c (AC.b true)) [] none))) (c2 : CallOK Try.prog (CallRec.mk 34 [AV.ag (V4.cs b)] [] (Eff.mk (AV.c (AC.b false)) [] none))) (c3 : CallOK Try.prog (CallRec.mk 48 [AV.c (AC.i 1)] [] (Eff.mk (AV.tu [AT.ag (V4.cs d), AT.c (AC.i 0)]) [] none))) (c4 : CallOK Try.prog (CallRec.mk 49 [AV.c (AC.i 1)] [] (Eff.mk (AV.ag (V4.cs d)) [] none))) (c5 : CallOK Try.prog (CallRec.mk 50 [] [] (Eff.mk (AV.c (AC.b true)) [] none))) :
    CallOK Try.prog ⟨8, [AV.c (AC.i op), AV.ag (V4.cs a), AV.ag (V4.cs b), AV.c (AC.i 1)], [], ⟨AV.c (AC.b true), [], none⟩⟩ :=
  val_run 2000 [Eff.mk (AV.tu [AT.ag (V4.cs V4.z), AT.c (AC.i 1)]) [] none, Eff.mk (AV.c (AC.b true)) [] none, Eff.mk (AV.c (AC.b false)) [] none, Eff.mk (AV.tu [AT.ag (V4.cs d), AT.c (AC.i 0)]) [] none, Eff.mk (AV.ag (V4.cs d)) [] none, Eff.mk (AV.c (AC.b true)) [] none] [false, true, true, true, true, true, true, true, true, true] ([]) [] Try.func8 rfl rfl rfl rfl (by kernel_rfl) h (cr_cons c0 (cr_cons c1 (cr_cons c2 (cr_cons c3 (cr_cons c4 (cr_cons c5 cr_nil))))))
theorem calcTwoBadBy2_w0 {a : V4} {b : V4} {d : V4} {op : Int} (h : (eqCs (V4.cs d) (V4.cs d) && true) = true) (c0 : CallOK Try.prog (CallRec.mk 46 [AV.c (AC.i op), AV.ag (V4.cs a), AV.ag (V4.cs b)] [] (Eff.mk (AV.tu [AT.ag (V4.cs V4.z), AT.c (AC.i 1)]) [] none))) (c1 : CallOK Try.prog (CallRec.mk 34 [AV.ag (V4.cs a)] [] (Eff.mk (AV.c (AC.b true)) [] none))) (c2 : CallOK Try.prog (CallRec.mk 34 [AV.ag (V4.cs b)] [] (Eff.mk (AV.c (AC.b false)) [] none))) (c3 : CallOK Try.prog (CallRec.mk 48 [AV.c (AC.i 2)] [] (Eff.mk (AV.tu [AT.ag (V4.cs d), AT.c (AC.i 0)]) [] none))) (c4 : CallOK Try.prog (CallRec.mk 49 [AV.c (AC.i 2)] [] (Eff.mk (AV.ag (V4.cs d)) [] none))) (c5 : CallOK Try.prog (CallRec.mk 50 [] [] (Eff.mk (AV.c (AC.b true)) [] none))) :
    CallOK Try.prog ⟨8, [AV.c (AC.i op), AV.ag (V4.cs a), AV.ag (V4.cs b), AV.c (AC.i 2)], [], ⟨AV.c (AC.b true), [], none⟩⟩ :=
  val_run 2000 [Eff.mk (AV.tu [AT.ag (V4.cs V4.z), AT.c (AC.i 1)]) [] none, Eff.mk (AV.c (AC.b true)) [] none, Eff.mk (AV.c (AC.b false)) [] none, Eff.mk (AV.tu [AT.ag (V4.cs d), AT.c (AC.i 0)]) [] none, Eff.mk (AV.ag (V4.cs d)) [] none, Eff.mk (AV.c (AC.b true)) [] none] [false, true, false, true, true, true, true, true, true, true] ([]) [] Try.func8 rfl rfl rfl rfl (by kernel_rfl) h (cr_cons c0 (cr_cons c1 (cr_cons c2 (cr_cons c3 (cr_cons c4 (cr_cons c5 cr_nil))))))
theorem calcTwoBadBy4_w0 {a : V4} {b : V4} {d : V4} {op : Int} (h : (eqCs (V4.cs d) (V4.cs d) && true) = true) (c0 : CallOK Try.prog (CallRec.mk 46 [AV.c (AC.i op), AV.ag (V4.cs a), AV.ag (V4.cs b)] [] (Eff.mk (AV.tu [AT.ag (V4.cs V4.z), AT.c (AC.i 1)]) [] none))) (c1 : CallOK Try.prog (CallRec.mk 34 [AV.ag (V4.cs a)] [] (Eff.mk (AV.c (AC.b true)) [] none))) (c2 : CallOK Try.prog (CallRec.mk 34 [AV.ag (V4.cs b)] [] (Eff.mk (AV.c (AC.b false)) [] none))) (c3 : CallOK Try.prog (CallRec.mk 48 [AV.c (AC.i 4)] [] (Eff.mk (AV.tu [AT.ag (V4.cs d), AT.c (AC.i 0)]) [] none))) (c4 : CallOK Try.prog (CallRec.mk 49 [AV.c (AC.i 4)] [] (Eff.mk (AV.ag (V4.cs d)) [] none))) (c5 : CallOK Try.prog (CallRec.mk 50 [] [] (Eff.mk (AV.c (AC.b true)) [] none))) :
    CallOK Try.prog ⟨8, [AV.c (AC.i op), AV.ag (V4.cs a), AV.ag (V4.cs b), AV.c (AC.i 4)], [], ⟨AV.c (AC.b true), [], none⟩⟩ :=
  val_run 2000 [Eff.mk (AV.tu [AT.ag (V4.cs V4.z), AT.c (AC.i 1)]) [] none, Eff.mk (AV.c (AC.b true)) [] none, Eff.mk (AV.c (AC.b false)) [] none, Eff.mk (AV.tu [AT.ag (V4.cs d), AT.c (AC.i 0)]) [] none, Eff.mk (AV.ag (V4.cs d)) [] none, Eff.mk (AV.c (AC.b true)) [] none] [false, true, false, false, true, true, true, true, true, true] ([]) [] Try.func8 rfl rfl rfl rfl (by kernel_rfl) h (cr_cons c0 (cr_cons c1 (cr_cons c2 (cr_cons c3 (cr_cons c4 (cr_cons c5 cr_nil))))))
theorem calcTwoBadBy8_w0 {a : V4} {b : V4} {d : V4} {op : Int} (h : (eqCs (V4.cs d) (V4.cs d) && true) = true) (c0 : CallOK Try.prog (CallRec.mk 46 [AV.c (AC.i op), AV.ag (V4.cs a), AV.ag (V4.cs b)] [] (Eff.mk (AV.tu [AT.ag (V4.cs V4.z), AT.c (AC.i 1)]) [] none))) (c1 : CallOK Try.prog (CallRec.mk 34 [AV.ag (V4.cs a)] [] (Eff.mk (AV.c (AC.b true)) [] none))) (c2 : CallOK Try.prog (CallRec.mk 34 [AV.ag (V4.cs b)] [] (Eff.mk (AV.c (AC.b false)) [] none))) (c3 : CallOK Try.prog (CallRec.mk 48 [AV.c (AC.i 8)] [] (Eff.mk (AV.tu [AT.ag (V4.cs d), AT.c (AC.i 0)]) [] none))) (c4 : CallOK Try.prog (CallRec.mk 49 [AV.c (AC.i 8)] [] (Eff.mk (AV.ag (V4.cs d)) [] none))) (c5 : CallOK Try.prog (CallRec.mk 50 [] [] (Eff.mk (AV.c (AC.b true)) [] none))) :
    CallOK Try.prog ⟨8, [AV.c (AC.i op), AV.ag (V4.cs a), AV.ag (V4.cs b), AV.c (AC.i 8)], [], ⟨AV.c (AC.b true), [], none⟩⟩ :=
  val_run 2000 [Eff.mk (AV.tu [AT.ag (V4.cs V4.z), AT.c (AC.i 1)]) [] none, Eff.mk (AV.c (AC.b true)) [] none, Eff.mk (AV.c (AC.b false)) [] none, Eff.mk (AV.tu [AT.ag (V4.cs d), AT.c (AC.i 0)]) [] none, Eff.mk (AV.ag (V4.cs d)) [] none, Eff.mk (AV.c (AC.b true)) [] none] [false, true, false, false, false, true, true, true, true, true] ([]) [] Try.func8 rfl rfl rfl rfl (by kernel_rfl) h (cr_cons c0 (cr_cons c1 (cr_cons c2 (cr_cons c3 (cr_cons c4 (cr_cons c5 cr_nil))))))
theorem calcTwoLoy1_w0 {a : V4} {b : V4} {d : V4} {op : Int} (h : (decide (op < 2) && (eqCs (V4.cs d) (V4.cs d) && true)) = true) (c0 : CallOK Try.prog (CallRec.mk 46 [AV.c (AC.i op), AV.ag (V4.cs a), AV.ag (V4.cs b)] [] (Eff.mk (AV.tu [AT.ag (V4.cs V4.z), AT.c (AC.i 4)]) [] none))) (c1 : CallOK Try.prog (CallRec.mk 34 [AV.ag (V4.cs a)] [] (Eff.mk (AV.c (AC.b true)) [] none))) (c2 : CallOK Try.prog (CallRec.mk 34 [AV.ag (V4.cs b)] [] (Eff.mk (AV.c (AC.b true)) [] none))) (c3 : CallOK Try.prog (CallRec.mk 48 [AV.c (AC.i 1)] [] (Eff.mk (AV.tu [AT.ag (V4.cs d), AT.c (AC.i 0)]) [] none))) (c4 : CallOK Try.prog (CallRec.mk 49 [AV.c (AC.i 1)] [] (Eff.mk (AV.ag (V4.cs d)) [] none))) (c5 : CallOK Try.prog (CallRec.mk 50 [] [] (Eff.mk (AV.c (AC.b true)) [] none))) :
    CallOK Try.prog ⟨8, [AV.c (AC.i op), AV.ag (V4.cs a), AV.ag (V4.cs b), AV.c (AC.i 1)], [], ⟨AV.c (AC.b true), [], none⟩⟩ :=
  val_run 2000 [Eff.mk (AV.tu [AT.ag (V4.cs V4.z), AT.c (AC.i 4)]) [] none, Eff.mk (AV.c (AC.b true)) [] none, Eff.mk (AV.c (AC.b true)) [] none, Eff.mk (AV.tu [AT.ag (V4.cs d), AT.c (AC.i 0)]) [] none, Eff.mk (AV.ag (V4.cs d)) [] none, Eff.mk (AV.c (AC.b true)) [] none] [false, false, true, true, true, true, true, true, true, true, true, true] ([]) [] Try.func8 rfl rfl rfl rfl (by kernel_rfl) h (cr_cons c0 (cr_cons c1 (cr_cons c2 (cr_cons c3 (cr_cons c4 (cr_cons c5 cr_nil))))))
theorem calcTwoLoy2_w0 {a : V4} {b : V4} {d : V4} {op : Int} (h : (decide (op < 2) && (eqCs (V4.cs d) (V4.cs d) && true)) = true) (c0 : CallOK Try.prog (CallRec.mk 46 [AV.c (AC.i op), AV.ag (V4.cs a), AV.ag (V4.cs b)] [] (Eff.mk (AV.tu [AT.ag (V4.cs V4.z), AT.c (AC.i 4)]) [] none))) (c1 : CallOK Try.prog (CallRec.mk 34 [AV.ag (V4.cs a)] [] (Eff.mk (AV.c (AC.b true)) [] none))) (c2 : CallOK Try.prog (CallRec.mk 34 [AV.ag (V4.cs b)] [] (Eff.mk (AV.c (AC.b true)) [] none))) (c3 : CallOK Try.prog (CallRec.mk 48 [AV.c (AC.i 2)] [] (Eff.mk (AV.tu [AT.ag (V4.cs d), AT.c (AC.i 0)]) [] none))) (c4 : CallOK Try.prog (CallRec.mk 49 [AV.c (AC.i 2)] [] (Eff.mk (AV.ag (V4.cs d)) [] none))) (c5 : CallOK Try.prog (CallRec.mk 50 [] [] (Eff.mk (AV.c (AC.b true)) [] none))) :
    CallOK Try.prog ⟨8, [AV.c (AC.i op), AV.ag (V4.cs a), AV.ag (V4.cs b), AV.c (AC.i 2)], [], ⟨AV.c (AC.b true), [], none⟩⟩ :=
  val_run 2000 [Eff.mk (AV.tu [AT.ag (V4.cs V4.z), AT.c (AC.i 4)]) [] none, Eff.mk (AV.c (AC.b true)) [] none, Eff.mk (AV.c (AC.b true)) [] none, Eff.mk (AV.tu [AT.ag (V4.cs d), AT.c (AC.i 0)]) [] none, Eff.mk (AV.ag (V4.cs d)) [] none, Eff.mk (AV.c (AC.b true)) [] none] [false, false, true, true, false, true, true, true, true, true, true, true] ([]) [] Try.func8 rfl rfl rfl rfl (by kernel_rfl) h (cr_cons c0 (cr_cons c1 (cr_cons c2 (cr_cons c3 (cr_cons c4 (cr_cons c5 cr_nil))))))
theorem calcTwoLoy4_w0 {a : V4} {b : V4} {d : V4} {op : Int} (h : (decide (op < 2) && (eqCs (V4.cs d) (V4.cs d) && true)) = true) (c0 : CallOK Try.prog (CallRec.mk 46 [AV.c (AC.i op), AV.ag (V4.cs a), AV.ag (V4.cs b)] [] (Eff.mk (AV.tu [AT.ag (V4.cs V4.z), AT.c (AC.i 4)]) [] none))) (c1 : CallOK Try.prog (CallRec.mk 34 [AV.ag (V4.cs a)] [] (Eff.mk (AV.c (AC.b true)) [] none))) (c2 : CallOK Try.prog (CallRec.mk 34 [AV.ag (V4.cs b)] [] (Eff.mk (AV.c (AC.b true)) [] none))) (c3 : CallOK Try.prog (CallRec.mk 48 [AV.c (AC.i 4)] [] (Eff.mk (AV.tu [AT.ag (V4.cs d), AT.c (AC.i 0)]) [] none))) (c4 : CallOK Try.prog (CallRec.mk 49 [AV.c (AC.i 4)] [] (Eff.mk (AV.ag (V4.cs d)) [] none))) (c5 : CallOK Try.prog (CallRec.mk 50 [] [] (Eff.mk (AV.c (AC.b true)) [] none))) :
    CallOK Try.prog ⟨8, [AV.c (AC.i op), AV.ag (V4.cs a), AV.ag (V4.cs b), AV.c (AC.i 4)], [], ⟨AV.c (AC.b true), [], none⟩⟩ :=
  val_run 2000 [Eff.mk (AV.tu [AT.ag (V4.cs V4.z), AT.c (AC.i 4)]) [] none, Eff.mk (AV.c (AC.b true)) [] none, Eff.mk (AV.c (AC.b true)) [] none, Eff.mk (AV.tu [AT.ag (V4.cs d), AT.c (AC.i 0)]) [] none, Eff.mk (AV.ag (V4.cs d)) [] none, Eff.mk (AV.c (AC.b true)) [] none] [false, false, true, true, false, false, true, true, true, true, true, true] ([]) [] Try.func8 rfl rfl rfl rfl (by kernel_rfl) h (cr_cons c0 (cr_cons c1 (cr_cons c2 (cr_cons c3 (cr_cons c4 (cr_cons c5 cr_nil))))))
theorem calcTwoLoy8_w0 {a : V4} {b : V4} {d : V4} {op : Int} (h : (decide (op < 2) && (eqCs (V4.cs d) (V4.cs d) && true)) = true) (c0 : CallOK Try.prog (CallRec.mk 46 [AV.c (AC.i op), AV.ag (V4.cs a), AV.ag (V4.cs b)] [] (Eff.mk (AV.tu [AT.ag (V4.cs V4.z), AT.c (AC.i 4)]) [] none))) (c1 : CallOK Try.prog (CallRec.mk 34 [AV.ag (V4.cs a)] [] (Eff.mk (AV.c (AC.b true)) [] none))) (c2 : CallOK Try.prog (CallRec.mk 34 [AV.ag (V4.cs b)] [] (Eff.mk (AV.c (AC.b true)) [] none))) (c3 : CallOK Try.prog (CallRec.mk 48 [AV.c (AC.i 8)] [] (Eff.mk (AV.tu [AT.ag (V4.cs d), AT.c (AC.i 0)]) [] none))) (c4 : CallOK Try.prog (CallRec.mk 49 [AV.c (AC.i 8)] [] (Eff.mk (AV.ag (V4.cs d)) [] none))) (c5 : CallOK Try.prog (CallRec.mk 50 [] [] (Eff.mk (AV.c (AC.b true)) [] none))) :
    CallOK Try.prog ⟨8, [AV.c (AC.i op), AV.ag (V4.cs a), AV.ag (V4.cs b), AV.c (AC.i 8)], [], ⟨AV.c (AC.b true), [], none⟩⟩ :=
  val_run 2000 [Eff.mk (AV.tu [AT.ag (V4.cs V4.z), AT.c (AC.i 4)]) [] none, Eff.mk (AV.c (AC.b true)) [] none, Eff.mk (AV.c (AC.b true)) [] none, Eff.mk (AV.tu [AT.ag (V4.cs d), AT.c (AC.i 0)]) [] none, Eff.mk (AV.ag (V4.cs d)) [] none, Eff.mk (AV.c (AC.b true)) [] none] [false, false, true, true, false, false, false, true, true, true, true, true] ([]) [] Try.func8 rfl rfl rfl rfl (by kernel_rfl) h (cr_cons c0 (cr_cons c1 (cr_cons c2 (cr_cons c3 (cr_cons c4 (cr_cons c5 cr_nil))))))
theorem calcTwoHiy1_w0 {a : V4} {b : V4} {d : V4} {op : Int} (h : (!decide (op < 2) && (decide (9 < op) && (eqCs (V4.cs d) (V4.cs d) && true))) = true) (c0 : CallOK Try.prog (CallRec.mk 46 [AV.c (AC.i op), AV.ag (V4.cs a), AV.ag (V4.cs b)] [] (Eff.mk (AV.tu [AT.ag (V4.cs V4.z), AT.c (AC.i 4)]) [] none))) (c1 : CallOK Try.prog (CallRec.mk 34 [AV.ag (V4.cs a)] [] (Eff.mk (AV.c (AC.b true)) [] none))) (c2 : CallOK Try.prog (CallRec.mk 34 [AV.ag (V4.cs b)] [] (Eff.mk (AV.c (AC.b true)) [] none))) (c3 : CallOK Try.prog (CallRec.mk 48 [AV.c (AC.i 1)] [] (Eff.mk (AV.tu [AT.ag (V4.cs d), AT.c (AC.i 0)]) [] none))) (c4 : CallOK Try.prog (CallRec.mk 49 [AV.c (AC.i 1)] [] (Eff.mk (AV.ag (V4.cs d)) [] none))) (c5 : CallOK Try.prog (CallRec.mk 50 [] [] (Eff.mk (AV.c (AC.b true)) [] none))) :
    CallOK Try.prog ⟨8, [AV.c (AC.i op), AV.ag (V4.cs a), AV.ag (V4.cs b), AV.c (AC.i 1)], [], ⟨AV.c (AC.b true), [], none⟩⟩ :=
  val_run 2000 [Eff.mk (AV.tu [AT.ag (V4.cs V4.z), AT.c (AC.i 4)]) [] none, Eff.mk (AV.c (AC.b true)) [] none, Eff.mk (AV.c (AC.b true)) [] none, Eff.mk (AV.tu [AT.ag (V4.cs d), AT.c (AC.i 0)]) [] none, Eff.mk (AV.ag (V4.cs d)) [] none, Eff.mk (AV.c (AC.b true)) [] none] [false, false, false, true, true, true, true, true, true, true, true, true] ([]) [] Try.func8 rfl rfl rfl rfl (by kernel_rfl) h (cr_cons c0 (cr_cons c1 (cr_cons c2 (cr_cons c3 (cr_cons c4 (cr_cons c5 cr_nil))))))
theorem calcTwoHiy2_w0 {a : V4} {b : V4} {d : V4} {op : Int} (h : (!decide (op < 2) && (decide (9 < op) && (eqCs (V4.cs d) (V4.cs d) && true))) = true) (c0 : CallOK Try.prog (CallRec.mk 46 [AV.c (AC.i op), AV.ag (V4.cs a), AV.ag (V4.cs b)] [] (Eff.mk (AV.tu [AT.ag (V4.cs V4.z), AT.c (AC.i 4)]) [] none))) (c1 : CallOK Try.prog (CallRec.mk 34 [AV.ag (V4.cs a)] [] (Eff.mk (AV.c (AC.b true)) [] none))) (c2 : CallOK Try.prog (CallRec.mk 34 [AV.ag (V4.cs b)] [] (Eff.mk (AV.c (AC.b true)) [] none))) (c3 : CallOK Try.prog (CallRec.mk 48 [AV.c (AC.i 2)] [] (Eff.mk (AV.tu [AT.ag (V4.cs d), AT.c (AC.i 0)]) [] none))) (c4 : CallOK Try.prog (CallRec.mk 49 [AV.c (AC.i 2)] [] (Eff.mk (AV.ag (V4.cs d)) [] none))) (c5 : CallOK Try.prog (CallRec.mk 50 [] [] (Eff.mk (AV.c (AC.b true)) [] none))) :
    CallOK Try.prog ⟨8, [AV.c (AC.i op), AV.ag (V4.cs a), AV.ag (V4.cs b), AV.c (AC.i 2)], [], ⟨AV.c (AC.b true), [], none⟩⟩ :=
  val_run 2000 [Eff.mk (AV.tu [AT.ag (V4.cs V4.z), AT.c (AC.i 4)]) [] none, Eff.mk (AV.c (AC.b true)) [] none, Eff.mk (AV.c (AC.b true)) [] none, Eff.mk (AV.tu [AT.ag (V4.cs d), AT.c (AC.i 0)]) [] none, Eff.mk (AV.ag (V4.cs d)) [] none, Eff.mk (AV.c (AC.b true)) [] none] [false, false, false, true, false, true, true, true, true, true, true, true] ([]) [] Try.func8 rfl rfl rfl rfl (by kernel_rfl) h (cr_cons c0 (cr_cons c1 (cr_cons c2 (cr_cons c3 (cr_cons c4 (cr_cons c5 cr_nil))))))
theorem calcTwoHiy4_w0 {a : V4} {b : V4} {d : V4} {op : Int} (h : (!decide (op < 2) && (decide (9 < op) && (eqCs (V4.cs d) (V4.cs d) && true))) = true) (c0 : CallOK Try.prog (CallRec.mk 46 [AV.c (AC.i op), AV.ag (V4.cs a), AV.ag (V4.cs b)] [] (Eff.mk (AV.tu [AT.ag (V4.cs V4.z), AT.c (AC.i 4)]) [] none))) (c1 : CallOK Try.prog (CallRec.mk 34 [AV.ag (V4.cs a)] [] (Eff.mk (AV.c (AC.b true)) [] none))) (c2 : CallOK Try.prog (CallRec.mk 34 [AV.ag (V4.cs b)] [] (Eff.mk (AV.c (AC.b true)) [] none))) (c3 : CallOK Try.prog (CallRec.mk 48 [AV.c (AC.i 4)] [] (Eff.mk (AV.tu [AT.ag (V4.cs d), AT.c (AC.i 0)]) [] none))) (c4 : CallOK Try.prog (CallRec.mk 49 [AV.c (AC.i 4)] [] (Eff.mk (AV.ag (V4.cs d)) [] none))) (c5 : CallOK Try.prog (CallRec.mk 50 [] [] (Eff.mk (AV.c (AC.b true)) [] none))) :
    CallOK Try.prog ⟨8, [AV.c (AC.i op), AV.ag (V4.cs a), AV.ag (V4.cs b), AV.c (AC.i 4)], [], ⟨AV.c (AC.b true), [], none⟩⟩ :=
  val_run 2000 [Eff.mk (AV.tu [AT.ag (V4.cs V4.z), AT.c (AC.i 4)]) [] none, Eff.mk (AV.c (AC.b true)) [] none, Eff.mk (AV.c (AC.b true)) [] none, Eff.mk (AV.tu [AT.ag (V4.cs d), AT.c (AC.i 0)]) [] none, Eff.mk (AV.ag (V4.cs d)) [] none, Eff.mk (AV.c (AC.b true)) [] none] [false, false, false, true, false, false, true, true, true, true, true, true] ([]) [] Try.func8 rfl rfl rfl rfl (by kernel_rfl) h (cr_cons c0 (cr_cons c1 (cr_cons c2 (cr_cons c3 (cr_cons c4 (cr_cons c5 cr_nil))))))
theorem calcTwoHiy8_w0 {a : V4} {b : V4} {d : V4} {op : Int} (h : (!decide (op < 2) && (decide (9 < op) && (eqCs (V4.cs d) (V4.cs d) && true))) = true) (c0 : CallOK Try.prog (CallRec.mk 46 [AV.c (AC.i op), AV.ag (V4.cs a), AV.ag (V4.cs b)] [] (Eff.mk (AV.tu [AT.ag (V4.cs V4.z), AT.c (AC.i 4)]) [] none))) (c1 : CallOK Try.prog (CallRec.mk 34 [AV.ag (V4.cs a)] [] (Eff.mk (AV.c (AC.b true)) [] none))) (c2 : CallOK Try.prog (CallRec.mk 34 [AV.ag (V4.cs b)] [] (Eff.mk (AV.c (AC.b true)) [] none))) (c3 : CallOK Try.prog (CallRec.mk 48 [AV.c (AC.i 8)] [] (Eff.mk (AV.tu [AT.ag (V4.cs d), AT.c (AC.i 0)]) [] none))) (c4 : CallOK Try.prog (CallRec.mk 49 [AV.c (AC.i 8)] [] (Eff.mk (AV.ag (V4.cs d)) [] none))) (c5 : CallOK Try.prog (CallRec.mk 50 [] [] (Eff.mk (AV.c (AC.b true)) [] none))) :
    CallOK Try.prog ⟨8, [AV.c (AC.i op), AV.ag (V4.cs a), AV.ag (V4.cs b), AV.c (AC.i 8)], [], ⟨AV.c (AC.b true), [], none⟩⟩ :=
  val_run 2000 [Eff.mk (AV.tu [AT.ag (V4.cs V4.z), AT.c (AC.i 4)]) [] none, Eff.mk (AV.c (AC.b true)) [] none, Eff.mk (AV.c (AC.b true)) [] none, Eff.mk (AV.tu [AT.ag (V4.cs d), AT.c (AC.i 0)]) [] none, Eff.mk (AV.ag (V4.cs d)) [] none, Eff.mk (AV.c (AC.b true)) [] none] [false, false, false, true, false, false, false, true, true, true, true, true] ([]) [] Try.func8 rfl rfl rfl rfl (by kernel_rfl) h (cr_cons c0 (cr_cons c1 (cr_cons c2 (cr_cons c3 (cr_cons c4 (cr_cons c5 cr_nil))))))
theorem calcTwoOkn_w0 {a : V4} {b : V4} {c : V4} {op : Int} {size : Int} (h : (!decide (op < 2) && (!decide (9 < op) && (!size == 1 && (!size == 2 && (!size == 4 && (!size == 8 && (eqCs (V4.cs c) (V4.cs c) && true))))))) = true) (c0 : CallOK Try.prog (CallRec.mk 46 [AV.c (AC.i op), AV.ag (V4.cs a), AV.ag (V4.cs b)] [] (Eff.mk (AV.tu [AT.ag (V4.cs c), AT.c (AC.i 0)]) [] none))) (c1 : CallOK Try.prog (CallRec.mk 34 [AV.ag (V4.cs a)] [] (Eff.mk (AV.c (AC.b true)) [] none))) (c2 : CallOK Try.prog (CallRec.mk 34 [AV.ag (V4.cs b)] [] (Eff.mk (AV.c (AC.b true)) [] none))) (c3 : CallOK Try.prog (CallRec.mk 47 [AV.c (AC.i op), AV.ag (V4.cs a), AV.ag (V4.cs b)] [] (Eff.mk (AV.ag (V4.cs c)) [] none))) (c4 : CallOK Try.prog (CallRec.mk 48 [AV.c (AC.i size)] [] (Eff.mk (AV.tu [AT.ag (V4.cs V4.z), AT.c (AC.i 3)]) [] none))) (c5 : CallOK Try.prog (CallRec.mk 50 [] [] (Eff.mk (AV.c (AC.b true)) [] none))) :
    CallOK Try.prog ⟨8, [AV.c (AC.i op), AV.ag (V4.cs a), AV.ag (V4.cs b), AV.c (AC.i size)], [], ⟨AV.c (AC.b true), [], none⟩⟩ :=
  val_run 2000 [Eff.mk (AV.tu [AT.ag (V4.cs c), AT.c (AC.i 0)]) [] none, Eff.mk (AV.c (AC.b true)) [] none, Eff.mk (AV.c (AC.b true)) [] none, Eff.mk (AV.ag (V4.cs c)) [] none, Eff.mk (AV.tu [AT.ag (V4.cs V4.z), AT.c (AC.i 3)]) [] none, Eff.mk (AV.c (AC.b true)) [] none] [false, false, false, false, false, false, false, false, true, true, true, true] ([]) [] Try.func8 rfl rfl rfl rfl (by kernel_rfl) h (cr_cons c0 (cr_cons c1 (cr_cons c2 (cr_cons c3 (cr_cons c4 (cr_cons c5 cr_nil))))))
theorem calcTwoBadAn_w0 {a : V4} {b : V4} {op : Int} {size : Int} (h : (!size == 1 && (!size == 2 && (!size == 4 && (!size == 8 && true)))) = true) (c0 : CallOK Try.prog (CallRec.mk 46 [AV.c (AC.i op), AV.ag (V4.cs a), AV.ag (V4.cs b)] [] (Eff.mk (AV.tu [AT.ag (V4.cs V4.z), AT.c (AC.i 1)]) [] none))) (c1 : CallOK Try.prog (CallRec.mk 34 [AV.ag (V4.cs a)] [] (Eff.mk (AV.c (AC.b false)) [] none))) (c2 : CallOK Try.prog (CallRec.mk 48 [AV.c (AC.i size)] [] (Eff.mk (AV.tu [AT.ag (V4.cs V4.z), AT.c (AC.i 3)]) [] none))) (c3 : CallOK Try.prog (CallRec.mk 50 [] [] (Eff.mk (AV.c (AC.b true)) [] none))) :
    CallOK Try.prog ⟨8, [AV.c (AC.i op), AV.ag (V4.cs a), AV.ag (V4.cs b), AV.c (AC.i size)], [], ⟨AV.c (AC.b true), [], none⟩⟩ :=
  val_run 2000 [Eff.mk (AV.tu [AT.ag (V4.cs V4.z), AT.c (AC.i 1)]) [] none, Eff.mk (AV.c (AC.b false)) [] none, Eff.mk (AV.tu [AT.ag (V4.cs V4.z), AT.c (AC.i 3)]) [] none, Eff.mk (AV.c (AC.b true)) [] none] [true, true, false, false, false, false, true, true, true, true] ([]) [] Try.func8 rfl rfl rfl rfl (by kernel_rfl) h (cr_cons c0 (cr_cons c1 (cr_cons c2 (cr_cons c3 cr_nil))))
theorem calcTwoBadBn_w0 {a : V4} {b : V4} {op : Int} {size : Int} (h : (!size == 1 && (!size == 2 && (!size == 4 && (!size == 8 && true)))) = true) (c0 : CallOK Try.prog (CallRec.mk 46 [AV.c (AC.i op), AV.ag (V4.cs a), AV.ag (V4.cs b)] [] (Eff.mk (AV.tu [AT.ag (V4.cs V4.z), AT.c (AC.i 1)]) [] none))) (c1 : CallOK Try.prog (CallRec.mk 34 [AV.ag (V4.cs a)] [] (Eff.mk (AV.c (AC.b true)) [] none))) (c2 : CallOK Try.prog (CallRec.mk 34 [AV.ag (V4.cs b)] [] (Eff.mk (AV.c (AC.b false)) [] none))) (c3 : CallOK Try.prog (CallRec.mk 48 [AV.c (AC.i size)] [] (Eff.mk (AV.tu [AT.ag (V4.cs V4.z), AT.c (AC.i 3)]) [] none))) (c4 : CallOK Try.prog (CallRec.mk 50 [] [] (Eff.mk (AV.c (AC.b true)) [] none))) :
    CallOK Try.prog ⟨8, [AV.c (AC.i op), AV.ag (V4.cs a), AV.ag (V4.cs b), AV.c (AC.i size)], [], ⟨AV.c (AC.b true), [], none⟩⟩ :=
  val_run 2000 [Eff.mk (AV.tu [AT.ag (V4.cs V4.z), AT.c (AC.i 1)]) [] none, Eff.mk (AV.c (AC.b true)) [] none, Eff.mk (AV.c (AC.b false)) [] none, Eff.mk (AV.tu [AT.ag (V4.cs V4.z), AT.c (AC.i 3)]) [] none, Eff.mk (AV.c (AC.b true)) [] none] [false, true, false, false, false, false, true, true, true, true] ([]) [] Try.func8 rfl rfl rfl rfl (by kernel_rfl) h (cr_cons c0 (cr_cons c1 (cr_cons c2 (cr_cons c3 (cr_cons c4 cr_nil)))))
theorem calcTwoLon_w0 {a : V4} {b : V4} {op : Int} {size : Int} (h : (decide (op < 2) && (!size == 1 && (!size == 2 && (!size == 4 && (!size == 8 && true))))) = true) (c0 : CallOK Try.prog (CallRec.mk 46 [AV.c (AC.i op), AV.ag (V4.cs a), AV.ag (V4.cs b)] [] (Eff.mk (AV.tu [AT.ag (V4.cs V4.z), AT.c (AC.i 4)]) [] none))) (c1 : CallOK Try.prog (CallRec.mk 34 [AV.ag (V4.cs a)] [] (Eff.mk (AV.c (AC.b true)) [] none))) (c2 : CallOK Try.prog (CallRec.mk 34 [AV.ag (V4.cs b)] [] (Eff.mk (AV.c (AC.b true)) [] none))) (c3 : CallOK Try.prog (CallRec.mk 48 [AV.c (AC.i size)] [] (Eff.mk (AV.tu [AT.ag (V4.cs V4.z), AT.c (AC.i 3)]) [] none))) (c4 : CallOK Try.prog (CallRec.mk 50 [] [] (Eff.mk (AV.c (AC.b true)) [] none))) :
    CallOK Try.prog ⟨8, [AV.c (AC.i op), AV.ag (V4.cs a), AV.ag (V4.cs b), AV.c (AC.i size)], [], ⟨AV.c (AC.b true), [], none⟩⟩ :=
  val_run 2000 [Eff.mk (AV.tu [AT.ag (V4.cs V4.z), AT.c (AC.i 4)]) [] none, Eff.mk (AV.c (AC.b true)) [] none, Eff.mk (AV.c (AC.b true)) [] none, Eff.mk (AV.tu [AT.ag (V4.cs V4.z), AT.c (AC.i 3)]) [] none, Eff.mk (AV.c (AC.b true)) [] none] [false, false, true, true, false, false, false, false, true, true, true, true] ([]) [] Try.func8 rfl rfl rfl rfl (by kernel_rfl) h (cr_cons c0 (cr_cons c1 (cr_cons c2 (cr_cons c3 (cr_cons c4 cr_nil)))))
theorem calcTwoHin_w0 {a : V4} {b : V4} {op : Int} {size : Int} (h : (!decide (op < 2) && (decide (9 < op) && (!size == 1 && (!size == 2 && (!size == 4 && (!size == 8 && true)))))) = true) (c0 : CallOK Try.prog (CallRec.mk 46 [AV.c (AC.i op), AV.ag (V4.cs a), AV.ag (V4.cs b)] [] (Eff.mk (AV.tu [AT.ag (V4.cs V4.z), AT.c (AC.i 4)]) [] none))) (c1 : CallOK Try.prog (CallRec.mk 34 [AV.ag (V4.cs a)] [] (Eff.mk (AV.c (AC.b true)) [] none))) (c2 : CallOK Try.prog (CallRec.mk 34 [AV.ag (V4.cs b)] [] (Eff.mk (AV.c (AC.b true)) [] none))) (c3 : CallOK Try.prog (CallRec.mk 48 [AV.c (AC.i size)] [] (Eff.mk (AV.tu [AT.ag (V4.cs V4.z), AT.c (AC.i 3)]) [] none))) (c4 : CallOK Try.prog (CallRec.mk 50 [] [] (Eff.mk (AV.c (AC.b true)) [] none))) :
    CallOK Try.prog ⟨8, [AV.c (AC.i op), AV.ag (V4.cs a), AV.ag (V4.cs b), AV.c (AC.i size)], [], ⟨AV.c (AC.b true), [], none⟩⟩ :=
  val_run 2000 [Eff.mk (AV.tu [AT.ag (V4.cs V4.z), AT.c (AC.i 4)]) [] none, Eff.mk (AV.c (AC.b true)) [] none, Eff.mk (AV.c (AC.b true)) [] none, Eff.mk (AV.tu [AT.ag (V4.cs V4.z), AT.c (AC.i 3)]) [] none, Eff.mk (AV.c (AC.b true)) [] none] [false, false, false, true, false, false, false, false, true, true, true, true] ([]) [] Try.func8 rfl rfl rfl rfl (by kernel_rfl) h (cr_cons c0 (cr_cons c1 (cr_cons c2 (cr_cons c3 (cr_cons c4 cr_nil)))))
end Go.Proofs.Ytkigmocchaikgaa

/- A region that draws its order, walked once, in the order of the text, over a class of worlds: the library's law, for the worlds in which a call's own blocks are kept. -/
namespace Go.Proofs.Ytkigmocchaikgaa
open Go.RowKit

theorem region_class (C : World → Prop) {P : Program} {id : Nat} {Q : Exit → Act → World → Prop} {a : Act} {w : World} {l : List Oper} (hm : P.follows .mixedOrders = true) (hB : Region.lexB .any l.toArray = true)
    (hC : C w.drew) (h : wpQuiet P l.toArray C (fun a' => ∀ w', C w' → Q .normal a' w') l a) : (Code.region id l.toArray true).wp P Q a w :=
  wp_region_quiet (C := C) hm hB hC (by simpa using h)
structure Cl (w0 : World) (L : List (Nat × List Value)) where
  val : World
  kp : Kp w0 val L
theorem Cl.of {P : Program} {f : FuncId} {args : Array Value} {w0 : World} {L : List (Nat × List Value)} {n : Cl w0 L} {v : Value}
    (h : Calls P f args n.val fun e w' => e = .returned v ∧ Below n.val.heap.size n.val w') : Calls P f args n.val fun e w'' => e = .returned v ∧ ∃ m : Cl w0 L, w'' = m.val :=
  h.mono fun _ _ ⟨he, hb⟩ => ⟨he, ⟨⟨_, n.kp.keep hb⟩, rfl⟩⟩
theorem Cl.start {w0 w : World} {L : List (Nat × List Value)} (h : Kp w0 w L) : ∃ n : Cl w0 L, w.drew = n.val := ⟨⟨_, h.keep (Below.drew (Below.refl _ _))⟩, rfl⟩
theorem Cl.some {w0 w : World} {L : List (Nat × List Value)} (h : Kp w0 w L) : Nonempty (Cl w0 L) := ⟨⟨_, h⟩⟩

end Go.Proofs.Ytkigmocchaikgaa

/- valBegun: what must be in any case. -/
namespace Go.Proofs.Ytkigmocchaikgaa
open Go.RowKit Go.BigFrame
attribute [local go_sem] w_and w_or w_xor w_andNot w_and1 w_and63 w_add w_sub w_mul w_sub1 w_add1 w_shl w_shl1 w_shr c_beq c_bne c_beq0 c_bne0 c_beq1 c_bne1 wrap_nv

abbrev J4 (a b c d : Int) : Value := .agg #[I a, I b, I c, I d]
set_option maxHeartbeats 400000 in
theorem odd_any (w : World) : Calls Try.prog 86 #[] w fun e w' => e = .returned (J4 1 14 3 9) ∧ Below w.heap.size w w' := by
  go_enter Try.func86, Try.ntmps86
  go_wp2_with fail
  exact bodyPost_ret (v := J4 1 14 3 9) (by simp [results, Try.results86, go_sem]) rfl ⟨rfl, (by repeat (first | exact Below.refl _ _ | assumption | refine below_drewN ?_ _ | refine Below.drew ?_ | refine Below.alloc ?_ (by first | exact Nat.le_refl _ | (simp; done) | (simp; omega) | omega) _ | refine Below.setCell ?_ (by first | exact Nat.le_refl _ | (simp; done) | (simp; omega) | omega) _ | refine Below.trans ?_ (Below.mono (by assumption) (by first | exact Nat.le_refl _ | (simp; done) | (simp; omega) | omega))))⟩
end Go.Proofs.Ytkigmocchaikgaa

/- calcBegun: what must be in any case. -/
namespace Go.Proofs.Ytkigmocchaikgaa
open Go.RowKit Go.BigFrame
attribute [local go_sem] w_and w_or w_xor w_andNot w_and1 w_and63 w_add w_sub w_mul w_sub1 w_add1 w_shl w_shl1 w_shr c_beq c_bne c_beq0 c_bne0 c_beq1 c_bne1 wrap_nv

set_option maxRecDepth 100000 in
set_option maxHeartbeats 1000000 in
theorem bytes2 (w : World) : Calls Try.prog 48 #[N 2] w fun e w' => e = .returned (.tuple #[J4 0 65535 0 65535, N 0]) ∧ Below w.heap.size w w' := by
  go_enter Try.func48, Try.ntmps48
  go_wp2_with fail
  exact bodyPost_ret (v := .tuple #[J4 0 65535 0 65535, N 0]) (by simp [results, Try.results48, go_sem]) rfl ⟨rfl, (by repeat (first | exact Below.refl _ _ | assumption | refine below_drewN ?_ _ | refine Below.drew ?_ | refine Below.alloc ?_ (by first | exact Nat.le_refl _ | (simp; done) | (simp; omega) | omega) _ | refine Below.setCell ?_ (by first | exact Nat.le_refl _ | (simp; done) | (simp; omega) | omega) _ | refine Below.trans ?_ (Below.mono (by assumption) (by first | exact Nat.le_refl _ | (simp; done) | (simp; omega) | omega))))⟩
theorem cb0 : (valB 1#64 14#64 3#64 9#64 && valB 1#64 0#64 1#64 1#64) = true ∧ (valB 1#64 14#64 3#64 9#64 && valB 6#64 0#64 6#64 6#64) = true ∧ (valB 1#64 14#64 3#64 9#64 && valB 4#64 0#64 4#64 4#64) = true := by decide +kernel
theorem cb1 : rk 2 1#64 14#64 3#64 9#64 1#64 0#64 1#64 1#64 = (0#64, 30#64, 4#64, 10#64) := by decide +kernel
theorem cb2 : normOk 0#64 30#64 4#64 10#64 = true ∧ nLo 0#64 30#64 4#64 = 4#64 ∧ nHi 0#64 30#64 10#64 = 10#64 ∧ nV 0#64 30#64 4#64 10#64 = 0#64 ∧ nM 30#64 4#64 10#64 = 14#64 := by decide +kernel
theorem cc1 (w : World) : Calls Try.prog 46 #[N 2, J4 1 14 3 9, J4 1 0 1 1] w fun e w' => e = .returned (.tuple #[J4 0 14 4 10, N 0]) ∧ Below w.heap.size w w' := by
  have h := calcTwo_yes (op := 2) (v := 1#64) (m := 14#64) (l := 3#64) (g := 9#64) (v' := 1#64) (m' := 0#64) (l' := 1#64) (g' := 1#64) cb0.1 (hid (by decide)) (show _ = true by rw [cb1]; decide) (show _ = true by rw [cb1]; exact cb2.1) w
  rw [cb1] at h
  dsimp only at h
  rw [cb2.2.1, cb2.2.2.1, cb2.2.2.2.1, cb2.2.2.2.2] at h
  exact h
theorem cb3 : bmax 3#64 3#64 = 3#64 ∧ bmin 9#64 (bsub 6#64 one) = 5#64 ∧ bmax 6#64 (badd 3#64 one) = 6#64 ∧ bmin 6#64 6#64 = 6#64 := by decide +kernel
theorem cb4 : normOk 1#64 14#64 3#64 5#64 = true ∧ nLo 1#64 14#64 3#64 = 3#64 ∧ nHi 1#64 14#64 5#64 = 5#64 ∧ nV 1#64 14#64 3#64 5#64 = 1#64 ∧ nM 14#64 3#64 5#64 = 6#64 := by decide +kernel
theorem cb5 : normOk 6#64 0#64 6#64 6#64 = true ∧ nLo 6#64 0#64 6#64 = 6#64 ∧ nHi 6#64 0#64 6#64 = 6#64 ∧ nV 6#64 0#64 6#64 6#64 = 6#64 ∧ nM 0#64 6#64 6#64 = 0#64 := by decide +kernel
theorem cn1 (w : World) : Calls Try.prog 31 #[Vl 1#64 14#64 3#64 5#64] w fun e w' => e = .returned (.tuple #[Vl 1#64 6#64 3#64 5#64, .bool true, N 0]) ∧ Below w.heap.size w w' := by
  have h := norm_yes (v := 1#64) (m := 14#64) (l := 3#64) (h := 5#64) (show _ = true by decide) cb4.1 w
  rw [cb4.2.1, cb4.2.2.1, cb4.2.2.2.1, cb4.2.2.2.2] at h; exact h
theorem cn2 (w : World) : Calls Try.prog 31 #[Vl 6#64 0#64 6#64 6#64] w fun e w' => e = .returned (.tuple #[Vl 6#64 0#64 6#64 6#64, .bool true, N 0]) ∧ Below w.heap.size w w' := by
  have h := norm_yes (v := 6#64) (m := 0#64) (l := 6#64) (h := 6#64) (show _ = true by decide) cb5.1 w
  rw [cb5.2.1, cb5.2.2.1, cb5.2.2.2.1, cb5.2.2.2.2] at h; exact h
theorem cc2 (w : World) : Calls Try.prog 53 #[J4 1 14 3 9, J4 6 0 6 6] w fun e w' => e = .returned (.tuple #[J4 1 6 3 5, J4 6 0 6 6, .bool true, N 0]) ∧ Below w.heap.size w w' := by
  exact calcLess_right (v := 1#64) (m := 14#64) (l := 3#64) (g := 9#64) (v' := 6#64) (m' := 0#64) (l' := 6#64) (g' := 6#64) (may := true) (i1 := true) (i2 := true) cb0.2.1 w
    (fun B w' hc => by
      have h := less1_yes (w := w') (b1 := B + 1) (b2 := B) hc (by decide) (by decide)
      rw [cb3.1, cb3.2.1, cb3.2.2.1, cb3.2.2.2] at h
      exact h) (fun w => cn1 w) (fun w => cn2 w)
theorem cc3 (w : World) : Calls Try.prog 51 #[J4 1 14 3 9, J4 4 0 4 4] w fun e w' => e = .returned (.tuple #[J4 0 0 0 0, J4 0 0 0 0, .bool false, N 0]) ∧ Below w.heap.size w w' := by
  exact calcEqual_right (v := 1#64) (m := 14#64) (l := 3#64) (g := 9#64) (v' := 4#64) (m' := 0#64) (l' := 4#64) (g' := 4#64) (may := false) (i1 := false) (i2 := false) cb0.2.2 w
    (fun B w' hc => equal1_is (kv := zero) (km := zero) (lo := 4#64) (hi := 4#64) hc (hid (fun w => meet_no (show _ = true by decide) (by decide) w)) (show bmax 3#64 4#64 = 4#64 by decide +kernel) (show bmin 9#64 4#64 = 4#64 by decide +kernel))
    (hid (fun w => norm_none (show _ = true by decide) (show _ = false by decide +kernel) w)) (hid (fun w => norm_none (show _ = true by decide) (show _ = false by decide +kernel) w))
theorem co1 (w : World) : Calls Try.prog 40 #[I 1] w fun e w' => e = .returned (J4 1 0 1 1) ∧ Below w.heap.size w w' := valOf_any 1#64 w
theorem co4 (w : World) : Calls Try.prog 40 #[I 4] w fun e w' => e = .returned (J4 4 0 4 4) ∧ Below w.heap.size w w' := valOf_any 4#64 w
theorem co6 (w : World) : Calls Try.prog 40 #[I 6] w fun e w' => e = .returned (J4 6 0 6 6) ∧ Below w.heap.size w w' := valOf_any 6#64 w

set_option maxRecDepth 100000 in
set_option maxHeartbeats 8000000 in
theorem calcBegun_any (w : World) : Calls Try.prog 50 #[] w fun e w' => e = .returned (.bool true) ∧ Below w.heap.size w w' := by
  go_enter Try.func50, Try.ntmps50
  go_wp2_with fail
  refine (odd_any _).mono ?_
  rintro e w1 ⟨rfl, hb1⟩
  go_wp2_with fail
  refine (co1 _).mono ?_
  rintro e w2 ⟨rfl, hb2⟩
  go_wp2_with fail
  refine (cc1 _).mono ?_
  rintro e w3 ⟨rfl, hb3⟩
  have hB3 := ((((Kp.start w).keep hb1).keep hb2).keep hb3).add4 (I 0) (I 14) (I 4) (I 10) 49
  go_wp2_with fail
  refine (odd_any _).mono ?_
  rintro e w4 ⟨rfl, hb4⟩
  go_wp2_with fail
  refine (co6 _).mono ?_
  rintro e w5 ⟨rfl, hb5⟩
  go_wp2_with fail
  refine (cc2 _).mono ?_
  rintro e w8 ⟨rfl, hb8⟩
  have hB8 := ((((hB3.keep hb4).keep hb5).keep hb8).add4 (I 1) (I 6) (I 3) (I 5) 49).add4 (I 6) (I 0) (I 6) (I 6) 49
  simp only [World.size_alloc] at hB8
  go_wp2_with fail
  refine (odd_any _).mono ?_
  rintro e w9 ⟨rfl, hb9⟩
  go_wp2_with fail
  refine (co4 _).mono ?_
  rintro e w10 ⟨rfl, hb10⟩
  go_wp2_with fail
  refine (cc3 _).mono ?_
  rintro e w11 ⟨rfl, hb11⟩
  have hB11 := ((((hB8.keep hb9).keep hb10).keep hb11).add4 (I 0) (I 0) (I 0) (I 0) 49).add4 (I 0) (I 0) (I 0) (I 0) 49
  simp only [World.size_alloc] at hB11
  go_wp2_with fail
  refine (bytes2 _).mono ?_
  rintro e w12 ⟨rfl, hb12⟩
  have hB12 := (hB11.keep hb12).add4 (I 0) (I 65535) (I 0) (I 65535) 49
  have k0 : bits .and .u64 0 1 = 0 := by decide
  have k14 : bits .and .u64 14 1 = 0 := by decide
  go_upto_region 5 with fail
  clear hb1 hb2 hb3 hb4 hb5 hb8 hb9 hb10 hb11 hb12 hB3 hB8 hB11
  refine region_class (fun w' => ∃ n : Cl w [(w12.heap.size, [I 0, I 65535, I 0, I 65535]), (w11.heap.size + 1, [I 0, I 0, I 0, I 0]), (w11.heap.size, [I 0, I 0, I 0, I 0]), (w8.heap.size + 1, [I 6, I 0, I 6, I 6]), (w8.heap.size, [I 1, I 6, I 3, I 5]), (w3.heap.size, [I 0, I 14, I 4, I 10])], w' = n.val) (by kernel_rfl) (by kernel_rfl) (Cl.start hB12) ?_
  haveI : Nonempty (Cl w [(w12.heap.size, [I 0, I 65535, I 0, I 65535]), (w11.heap.size + 1, [I 0, I 0, I 0, I 0]), (w11.heap.size, [I 0, I 0, I 0, I 0]), (w8.heap.size + 1, [I 6, I 0, I 6, I 6]), (w8.heap.size, [I 1, I 6, I 3, I 5]), (w3.heap.size, [I 0, I 14, I 4, I 10])]) := Cl.some hB12
  have hq0x0 : ∀ n : Cl w [(w12.heap.size, [I 0, I 65535, I 0, I 65535]), (w11.heap.size + 1, [I 0, I 0, I 0, I 0]), (w11.heap.size, [I 0, I 0, I 0, I 0]), (w8.heap.size + 1, [I 6, I 0, I 6, I 6]), (w8.heap.size, [I 1, I 6, I 3, I 5]), (w3.heap.size, [I 0, I 14, I 4, I 10])], n.val.cell? ⟨w12.heap.size, 0, none⟩ = some (I 0) := fun n => (n.kp.box.head.four).1
  have hq0x1 : ∀ n : Cl w [(w12.heap.size, [I 0, I 65535, I 0, I 65535]), (w11.heap.size + 1, [I 0, I 0, I 0, I 0]), (w11.heap.size, [I 0, I 0, I 0, I 0]), (w8.heap.size + 1, [I 6, I 0, I 6, I 6]), (w8.heap.size, [I 1, I 6, I 3, I 5]), (w3.heap.size, [I 0, I 14, I 4, I 10])], n.val.cell? ⟨w12.heap.size, 1, none⟩ = some (I 65535) := fun n => (n.kp.box.head.four).2.1
  have hq0x2 : ∀ n : Cl w [(w12.heap.size, [I 0, I 65535, I 0, I 65535]), (w11.heap.size + 1, [I 0, I 0, I 0, I 0]), (w11.heap.size, [I 0, I 0, I 0, I 0]), (w8.heap.size + 1, [I 6, I 0, I 6, I 6]), (w8.heap.size, [I 1, I 6, I 3, I 5]), (w3.heap.size, [I 0, I 14, I 4, I 10])], n.val.cell? ⟨w12.heap.size, 2, none⟩ = some (I 0) := fun n => (n.kp.box.head.four).2.2.1
  have hq0x3 : ∀ n : Cl w [(w12.heap.size, [I 0, I 65535, I 0, I 65535]), (w11.heap.size + 1, [I 0, I 0, I 0, I 0]), (w11.heap.size, [I 0, I 0, I 0, I 0]), (w8.heap.size + 1, [I 6, I 0, I 6, I 6]), (w8.heap.size, [I 1, I 6, I 3, I 5]), (w3.heap.size, [I 0, I 14, I 4, I 10])], n.val.cell? ⟨w12.heap.size, 3, none⟩ = some (I 65535) := fun n => (n.kp.box.head.four).2.2.2.1
  have hq3x0 : ∀ n : Cl w [(w12.heap.size, [I 0, I 65535, I 0, I 65535]), (w11.heap.size + 1, [I 0, I 0, I 0, I 0]), (w11.heap.size, [I 0, I 0, I 0, I 0]), (w8.heap.size + 1, [I 6, I 0, I 6, I 6]), (w8.heap.size, [I 1, I 6, I 3, I 5]), (w3.heap.size, [I 0, I 14, I 4, I 10])], n.val.cell? ⟨w8.heap.size + 1, 0, none⟩ = some (I 6) := fun n => (n.kp.box.tail.tail.tail.head.four).1
  have hq3x1 : ∀ n : Cl w [(w12.heap.size, [I 0, I 65535, I 0, I 65535]), (w11.heap.size + 1, [I 0, I 0, I 0, I 0]), (w11.heap.size, [I 0, I 0, I 0, I 0]), (w8.heap.size + 1, [I 6, I 0, I 6, I 6]), (w8.heap.size, [I 1, I 6, I 3, I 5]), (w3.heap.size, [I 0, I 14, I 4, I 10])], n.val.cell? ⟨w8.heap.size + 1, 1, none⟩ = some (I 0) := fun n => (n.kp.box.tail.tail.tail.head.four).2.1
  have hq3x2 : ∀ n : Cl w [(w12.heap.size, [I 0, I 65535, I 0, I 65535]), (w11.heap.size + 1, [I 0, I 0, I 0, I 0]), (w11.heap.size, [I 0, I 0, I 0, I 0]), (w8.heap.size + 1, [I 6, I 0, I 6, I 6]), (w8.heap.size, [I 1, I 6, I 3, I 5]), (w3.heap.size, [I 0, I 14, I 4, I 10])], n.val.cell? ⟨w8.heap.size + 1, 2, none⟩ = some (I 6) := fun n => (n.kp.box.tail.tail.tail.head.four).2.2.1
  have hq3x3 : ∀ n : Cl w [(w12.heap.size, [I 0, I 65535, I 0, I 65535]), (w11.heap.size + 1, [I 0, I 0, I 0, I 0]), (w11.heap.size, [I 0, I 0, I 0, I 0]), (w8.heap.size + 1, [I 6, I 0, I 6, I 6]), (w8.heap.size, [I 1, I 6, I 3, I 5]), (w3.heap.size, [I 0, I 14, I 4, I 10])], n.val.cell? ⟨w8.heap.size + 1, 3, none⟩ = some (I 6) := fun n => (n.kp.box.tail.tail.tail.head.four).2.2.2.1
  have hq4x0 : ∀ n : Cl w [(w12.heap.size, [I 0, I 65535, I 0, I 65535]), (w11.heap.size + 1, [I 0, I 0, I 0, I 0]), (w11.heap.size, [I 0, I 0, I 0, I 0]), (w8.heap.size + 1, [I 6, I 0, I 6, I 6]), (w8.heap.size, [I 1, I 6, I 3, I 5]), (w3.heap.size, [I 0, I 14, I 4, I 10])], n.val.cell? ⟨w8.heap.size, 0, none⟩ = some (I 1) := fun n => (n.kp.box.tail.tail.tail.tail.head.four).1
  have hq4x1 : ∀ n : Cl w [(w12.heap.size, [I 0, I 65535, I 0, I 65535]), (w11.heap.size + 1, [I 0, I 0, I 0, I 0]), (w11.heap.size, [I 0, I 0, I 0, I 0]), (w8.heap.size + 1, [I 6, I 0, I 6, I 6]), (w8.heap.size, [I 1, I 6, I 3, I 5]), (w3.heap.size, [I 0, I 14, I 4, I 10])], n.val.cell? ⟨w8.heap.size, 1, none⟩ = some (I 6) := fun n => (n.kp.box.tail.tail.tail.tail.head.four).2.1
  have hq4x2 : ∀ n : Cl w [(w12.heap.size, [I 0, I 65535, I 0, I 65535]), (w11.heap.size + 1, [I 0, I 0, I 0, I 0]), (w11.heap.size, [I 0, I 0, I 0, I 0]), (w8.heap.size + 1, [I 6, I 0, I 6, I 6]), (w8.heap.size, [I 1, I 6, I 3, I 5]), (w3.heap.size, [I 0, I 14, I 4, I 10])], n.val.cell? ⟨w8.heap.size, 2, none⟩ = some (I 3) := fun n => (n.kp.box.tail.tail.tail.tail.head.four).2.2.1
  have hq4x3 : ∀ n : Cl w [(w12.heap.size, [I 0, I 65535, I 0, I 65535]), (w11.heap.size + 1, [I 0, I 0, I 0, I 0]), (w11.heap.size, [I 0, I 0, I 0, I 0]), (w8.heap.size + 1, [I 6, I 0, I 6, I 6]), (w8.heap.size, [I 1, I 6, I 3, I 5]), (w3.heap.size, [I 0, I 14, I 4, I 10])], n.val.cell? ⟨w8.heap.size, 3, none⟩ = some (I 5) := fun n => (n.kp.box.tail.tail.tail.tail.head.four).2.2.2.1
  have hq5x0 : ∀ n : Cl w [(w12.heap.size, [I 0, I 65535, I 0, I 65535]), (w11.heap.size + 1, [I 0, I 0, I 0, I 0]), (w11.heap.size, [I 0, I 0, I 0, I 0]), (w8.heap.size + 1, [I 6, I 0, I 6, I 6]), (w8.heap.size, [I 1, I 6, I 3, I 5]), (w3.heap.size, [I 0, I 14, I 4, I 10])], n.val.cell? ⟨w3.heap.size, 0, none⟩ = some (I 0) := fun n => (n.kp.box.tail.tail.tail.tail.tail.head.four).1
  have hq5x1 : ∀ n : Cl w [(w12.heap.size, [I 0, I 65535, I 0, I 65535]), (w11.heap.size + 1, [I 0, I 0, I 0, I 0]), (w11.heap.size, [I 0, I 0, I 0, I 0]), (w8.heap.size + 1, [I 6, I 0, I 6, I 6]), (w8.heap.size, [I 1, I 6, I 3, I 5]), (w3.heap.size, [I 0, I 14, I 4, I 10])], n.val.cell? ⟨w3.heap.size, 1, none⟩ = some (I 14) := fun n => (n.kp.box.tail.tail.tail.tail.tail.head.four).2.1
  have hq5x2 : ∀ n : Cl w [(w12.heap.size, [I 0, I 65535, I 0, I 65535]), (w11.heap.size + 1, [I 0, I 0, I 0, I 0]), (w11.heap.size, [I 0, I 0, I 0, I 0]), (w8.heap.size + 1, [I 6, I 0, I 6, I 6]), (w8.heap.size, [I 1, I 6, I 3, I 5]), (w3.heap.size, [I 0, I 14, I 4, I 10])], n.val.cell? ⟨w3.heap.size, 2, none⟩ = some (I 4) := fun n => (n.kp.box.tail.tail.tail.tail.tail.head.four).2.2.1
  have hq5x3 : ∀ n : Cl w [(w12.heap.size, [I 0, I 65535, I 0, I 65535]), (w11.heap.size + 1, [I 0, I 0, I 0, I 0]), (w11.heap.size, [I 0, I 0, I 0, I 0]), (w8.heap.size + 1, [I 6, I 0, I 6, I 6]), (w8.heap.size, [I 1, I 6, I 3, I 5]), (w3.heap.size, [I 0, I 14, I 4, I 10])], n.val.cell? ⟨w3.heap.size, 3, none⟩ = some (I 10) := fun n => (n.kp.box.tail.tail.tail.tail.tail.head.four).2.2.2.1
  repeat (go_big_quiet_step (first | (go_at_call 40; exact Cl.of (co6 _))))
  refine wpQuiet_nil ?_
  rintro _ ⟨⟨wq, hq⟩, rfl⟩
  go_wp2_with fail
  go_ret
  exact ⟨rfl, hq.bel⟩

end Go.Proofs.Ytkigmocchaikgaa

/- CalcLeft and CalcTwo: whatever is handed in, they return true. -/
namespace Go.Proofs.Ytkigmocchaikgaa
open Go.RowKit

theorem eqCs_refl (a : V4) : eqCs a.cs a.cs = true := by simp [V4.cs, eqCs, eqC, eqb_self]
theorem calcBegun_ok : Ok 50 [] (.c (.b true)) := okc calcBegun_any (fun _ => rfl) (fun _ => rfl) rfl
theorem calcLeft_ok (a b : V4) : Ok 9 [.ag a.cs, .ag b.cs] (.c (.b true)) := by
  have ra := refRight_ok a
  have rb := refRight_ok b
  cases ha : a.ok with
  | false =>
    have hh : (a.ok && b.ok) = false := by rw [ha]; rfl
    rw [ha] at ra
    exact calcLeftBadA_w0 (calcEqual_bad hh) (calcOther_bad hh) (calcLess_bad hh) (calcNotLess_bad hh) ra calcBegun_ok
  | true =>
    rw [ha] at ra
    cases hb : b.ok with
    | false =>
      have hh : (a.ok && b.ok) = false := by rw [ha, hb]; rfl
      rw [hb] at rb
      exact calcLeftBadB_w0 (calcEqual_bad hh) (calcOther_bad hh) (calcLess_bad hh) (calcNotLess_bad hh) ra rb calcBegun_ok
    | true =>
      rw [hb] at rb
      have := calcLeft_w0 (a := a) (b := b) (by simp [eqCs_refl]) (calcEqual_ok ha hb) (calcOther_ok ha hb) (calcLess_ok ha hb) (calcNotLess_ok ha hb) ra rb (refEqual_ok ha hb) (refOther_ok ha hb) (refLess_ok ha hb) (refNotLess_ok ha hb) calcBegun_ok
      rw [eqCs_refl] at this
      exact this
theorem calcTwoLaw_ok (op : Int) (a b : V4) (size : Int) : Ok 8 [.c (.i op), .ag a.cs, .ag b.cs, .c (.i size)] (.c (.b true)) := by
  have ra := refRight_ok a
  have rb := refRight_ok b
  have hb0 := calcBegun_ok
  by_cases hsz : size = 1 ∨ size = 2 ∨ size = 4 ∨ size = 8
  · have hy := calcBytes_ok hsz
    have hr := refBytes_ok hsz
    have e1 := eqCs_refl (V4.bytes size)
    cases ha : a.ok with
    | false =>
      have ht := calcTwo_bad (a := a) (b := b) op (by rw [ha]; rfl)
      rw [ha] at ra
      rcases hsz with rfl | rfl | rfl | rfl
      · exact calcTwoBadAy1_w0 (by simp [e1]) ht ra hy hr hb0
      · exact calcTwoBadAy2_w0 (by simp [e1]) ht ra hy hr hb0
      · exact calcTwoBadAy4_w0 (by simp [e1]) ht ra hy hr hb0
      · exact calcTwoBadAy8_w0 (by simp [e1]) ht ra hy hr hb0
    | true =>
      rw [ha] at ra
      cases hb : b.ok with
      | false =>
        have ht := calcTwo_bad (a := a) (b := b) op (by rw [ha, hb]; rfl)
        rw [hb] at rb
        rcases hsz with rfl | rfl | rfl | rfl
        · exact calcTwoBadBy1_w0 (by simp [e1]) ht ra rb hy hr hb0
        · exact calcTwoBadBy2_w0 (by simp [e1]) ht ra rb hy hr hb0
        · exact calcTwoBadBy4_w0 (by simp [e1]) ht ra rb hy hr hb0
        · exact calcTwoBadBy8_w0 (by simp [e1]) ht ra rb hy hr hb0
      | true =>
        rw [hb] at rb
        by_cases hlo : op < 2
        · have ht := calcTwo_no (op := op) (Or.inl hlo) ha hb
          rcases hsz with rfl | rfl | rfl | rfl
          · exact calcTwoLoy1_w0 (by simp [e1, hlo]) ht ra rb hy hr hb0
          · exact calcTwoLoy2_w0 (by simp [e1, hlo]) ht ra rb hy hr hb0
          · exact calcTwoLoy4_w0 (by simp [e1, hlo]) ht ra rb hy hr hb0
          · exact calcTwoLoy8_w0 (by simp [e1, hlo]) ht ra rb hy hr hb0
        · by_cases hhi : 9 < op
          · have ht := calcTwo_no (op := op) (Or.inr hhi) ha hb
            rcases hsz with rfl | rfl | rfl | rfl
            · exact calcTwoHiy1_w0 (by simp [e1, hlo, hhi]) ht ra rb hy hr hb0
            · exact calcTwoHiy2_w0 (by simp [e1, hlo, hhi]) ht ra rb hy hr hb0
            · exact calcTwoHiy4_w0 (by simp [e1, hlo, hhi]) ht ra rb hy hr hb0
            · exact calcTwoHiy8_w0 (by simp [e1, hlo, hhi]) ht ra rb hy hr hb0
          · have hop : 2 ≤ op ∧ op ≤ 9 := by omega
            have ht := calcTwo_ok hop ha hb
            have hv := refTwo_ok hop ha hb
            have e2 := eqCs_refl (V4.two op a b)
            rcases hsz with rfl | rfl | rfl | rfl
            · exact calcTwoOky1_w0 (by simp [e1, e2, hlo, hhi]) ht ra rb hv hy hr hb0
            · exact calcTwoOky2_w0 (by simp [e1, e2, hlo, hhi]) ht ra rb hv hy hr hb0
            · exact calcTwoOky4_w0 (by simp [e1, e2, hlo, hhi]) ht ra rb hv hy hr hb0
            · exact calcTwoOky8_w0 (by simp [e1, e2, hlo, hhi]) ht ra rb hv hy hr hb0
  · have h1 : size ≠ 1 := fun e => hsz (Or.inl e)
    have h2 : size ≠ 2 := fun e => hsz (Or.inr (Or.inl e))
    have h4 : size ≠ 4 := fun e => hsz (Or.inr (Or.inr (Or.inl e)))
    have h8 : size ≠ 8 := fun e => hsz (Or.inr (Or.inr (Or.inr e)))
    have hy := calcBytes_no h1 h2 h4 h8
    cases ha : a.ok with
    | false =>
      have ht := calcTwo_bad (a := a) (b := b) op (by rw [ha]; rfl)
      rw [ha] at ra
      exact calcTwoBadAn_w0 (by simp [h1, h2, h4, h8]) ht ra hy hb0
    | true =>
      rw [ha] at ra
      cases hb : b.ok with
      | false =>
        have ht := calcTwo_bad (a := a) (b := b) op (by rw [ha, hb]; rfl)
        rw [hb] at rb
        exact calcTwoBadBn_w0 (by simp [h1, h2, h4, h8]) ht ra rb hy hb0
      | true =>
        rw [hb] at rb
        by_cases hlo : op < 2
        · exact calcTwoLon_w0 (by simp [h1, h2, h4, h8, hlo]) (calcTwo_no (op := op) (Or.inl hlo) ha hb) ra rb hy hb0
        · by_cases hhi : 9 < op
          · exact calcTwoHin_w0 (by simp [h1, h2, h4, h8, hlo, hhi]) (calcTwo_no (op := op) (Or.inr hhi) ha hb) ra rb hy hb0
          · have hop : 2 ≤ op ∧ op ≤ 9 := by omega
            exact calcTwoOkn_w0 (by simp [h1, h2, h4, h8, hlo, hhi, eqCs_refl]) (calcTwo_ok hop ha hb) ra rb (refTwo_ok hop ha hb) hy hb0
theorem calcLeft_any (v m l g v' m' l' g' : BitVec 64) (w : World) : Calls Try.prog 9 #[Vl v m l g, Vl v' m' l' g'] w fun e w' => e = .returned (.bool true) ∧ Below w.heap.size w w' :=
  calls_of_ok (fun _ => (0, 0, 0)) rfl (fun _ => rfl) (calcLeft_ok ⟨v, m, l, g⟩ ⟨v', m', l', g'⟩) w
theorem calcTwoLaw_any (op : Int) (v m l g v' m' l' g' : BitVec 64) (size : Int) (w : World) : Calls Try.prog 8 #[N op, Vl v m l g, Vl v' m' l' g', N size] w fun e w' => e = .returned (.bool true) ∧ Below w.heap.size w w' :=
  calls_of_ok (fun _ => (0, 0, 0)) rfl (fun _ => rfl) (calcTwoLaw_ok op ⟨v, m, l, g⟩ ⟨v', m', l', g'⟩ size) w
end Go.Proofs.Ytkigmocchaikgaa
