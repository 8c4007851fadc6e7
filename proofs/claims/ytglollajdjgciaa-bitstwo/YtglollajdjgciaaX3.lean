/- The contract of the reference's TwoBits. -/
import Derived.Test.YtglollajdjgciaaX2
import Derived.Test.YtglollajdjgciaaM3
import Derived.Test.YtglollajdjgciaaW3
import Derived.Test.YtglollajdjgciaaM1
namespace Go.Proofs.Ytglollajdjgciaa
open Go.RowKit
attribute [local go_sem] w_and w_or w_xor w_andNot w_and1 w_and63 w_add w_sub w_mul w_sub1 w_add1 w_shl w_shl1 w_shr c_beq c_bne c_beq0 c_bne0 c_beq1 c_bne1 wrap_nv

/- what comes of sums is right again -/
theorem addP_right {a b : BitVec 64 × BitVec 64} : eqb (band (addP a b).1 (addP a b).2) zero = true := by
  rw [right_iff]; intro j
  by_cases hj : j < 64
  · simp only [addP]; rw [bit_andn _ _ _ hj]; cases bit (badd a.1 b.1) j <;> cases bit (addM a.1 a.2 b.1 b.2) j <;> rfl
  · rw [bit_big _ _ (by omega)]; rfl
theorem mulS_right (av am bv bm : BitVec 64) (k : Nat) : eqb (band (mulS av am bv bm k).1 (mulS av am bv bm k).2) zero = true := by
  induction k with
  | zero => exact (by decide : eqb (band zero zero) zero = true)
  | succ k ih =>
    simp only [mulS]
    by_cases h1 : bit av k = true
    · rw [if_pos h1]; exact addP_right
    · rw [if_neg h1]
      by_cases h2 : bit am k = true
      · rw [if_pos h2]; exact addP_right
      · rw [if_neg h2]; exact ih
theorem shl_right {v m : BitVec 64} (h : eqb (band v m) zero = true) (k : Nat) : eqb (band (bshl v k) (bshl m k)) zero = true := by
  rw [right_iff] at h ⊢
  intro j
  by_cases hj : j < 64
  · rw [bit_shl _ _ _ hj, bit_shl _ _ _ hj]
    have := h (j - k)
    revert this
    cases decide (k ≤ j) <;> cases bit v (j - k) <;> cases bit m (j - k) <;> simp
  · rw [bit_big _ _ (by omega)]; rfl
theorem zero_right (m : BitVec 64) : eqb (band zero m) zero = true := by
  rw [right_iff]; intro j; rw [bit_zero]; rfl
/- a sum, by twoBits -/
theorem twoBits_add {av am bv bm : BitVec 64} (ha : eqb (band av am) zero = true) (hb : eqb (band bv bm) zero = true) (w : World) :
    Calls Try.prog 81 #[N 2, Bt av am, Bt bv bm] w fun e w' => e = .returned (Bt (addP (av, am) (bv, bm)).1 (addP (av, am) (bv, bm)).2) ∧ Below w.heap.size w w' := by
  have h := twoBits_any 2 av am bv bm w
  rw [(two_add ((right_iff _ _).1 ha) ((right_iff _ _).1 hb)).1, (two_add ((right_iff _ _).1 ha) ((right_iff _ _).1 hb)).2] at h
  exact h
theorem twoBits_is {op : Int} {av am bv bm : BitVec 64} (hop : op = 2 ∨ op = 3 ∨ op = 5 ∨ op = 6 ∨ op = 7) (ha : eqb (band av am) zero = true) (hb : eqb (band bv bm) zero = true) (w : World) :
    Calls Try.prog 81 #[N op, Bt av am, Bt bv bm] w fun e w' => e = .returned (Bt (twoP op av am bv bm).1 (twoP op av am bv bm).2) ∧ Below w.heap.size w w' := by
  have h := twoBits_any op av am bv bm w
  have ra := (right_iff _ _).1 ha
  have rb := (right_iff _ _).1 hb
  rcases hop with rfl | rfl | rfl | rfl | rfl
  · rw [(two_add ra rb).1, (two_add ra rb).2] at h; exact h
  · rw [(two_sub ra rb).1, (two_sub ra rb).2] at h; exact h
  · rw [(two_and ra rb).1, (two_and ra rb).2] at h; exact h
  · rw [(two_or ra rb).1, (two_or ra rb).2] at h; exact h
  · rw [(two_xor ra rb).1, (two_xor ra rb).2] at h; exact h
theorem shiftUp_is {v m : BitVec 64} (h : eqb (band v m) zero = true) {n : Nat} (hn : n < 64) (w : World) :
    Calls Try.prog 20 #[N 8, Bt v m, N n] w fun e w' => e = .returned (Bt (bshl v n) (bshl m n)) ∧ Below w.heap.size w w' := by
  have hh := shiftBits_any true 8 rfl v m n hn w
  rw [(sh_up_eq h n).1, (sh_up_eq h n).2] at hh
  exact hh

set_option maxRecDepth 100000 in
set_option maxHeartbeats 2000000 in
theorem TwoBits_plain {op : Int} {av am bv bm : BitVec 64} (hop : Hid (op = 2 ∨ op = 3 ∨ op = 5 ∨ op = 6 ∨ op = 7)) (ha : Hid (eqb (band av am) zero = true)) (hb : Hid (eqb (band bv bm) zero = true)) (w : World) :
    Calls Try.prog 29 #[N op, Bt av am, Bt bv bm] w fun e w' => e = .returned (Bt (twoP op av am bv bm).1 (twoP op av am bv bm).2) ∧ Below w.heap.size w w' := by
  have h4 : (op != 4) = true := by rcases hop.out with rfl | rfl | rfl | rfl | rfl <;> decide
  go_enter Try.func29, Try.ntmps29
  go_wp2_with fail
  refine (twoBits_is hop.out ha.out hb.out _).mono ?_
  rintro e w1 ⟨rfl, hb1⟩
  obtain ⟨hc1, hf1, hs1⟩ := bk (w.heap.size + 1 + 1 + 1) hb1 (by simp)
  go_wp2_with fail
  exact bodyPost_ret (v := Bt (twoP op av am bv bm).1 (twoP op av am bv bm).2) (by simp [results, Try.results29, go_sem, hc1]) rfl ⟨rfl, (by repeat (first | exact Below.refl _ _ | assumption | refine below_drewN ?_ _ | refine Below.drew ?_ | refine Below.alloc ?_ (by first | exact Nat.le_refl _ | (simp; done) | (simp; omega) | omega) _ | refine Below.setCell ?_ (by first | exact Nat.le_refl _ | (simp; done) | (simp; omega) | omega) _ | refine Below.trans ?_ (Below.mono (by assumption) (by first | exact Nat.le_refl _ | (simp; done) | (simp; omega) | omega))))⟩

set_option maxRecDepth 100000 in
set_option maxHeartbeats 2000000 in
theorem TwoBits_mul {av am bv bm : BitVec 64} (hb : Hid (eqb (band bv bm) zero = true)) (w : World) :
    Calls Try.prog 29 #[N 4, Bt av am, Bt bv bm] w fun e w' => e = .returned (Bt (mulS av am bv bm 64).1 (mulS av am bv bm 64).2) ∧ Below w.heap.size w w' := by
  go_enter Try.func29, Try.ntmps29
  go_wp2_with fail
  go_loopw [8] (fun i wr => ∃ k : Nat, k ≤ 64 ∧ i = N k
      ∧ Below (w.heap.size + 1 + 1 + 1) (((w.alloc (.cells #[U av, U am] 24)).alloc (.cells #[U bv, U bm] 24)).alloc (.cells #[.int .u64 0, .int .u64 0] 24)) wr
      ∧ wr.cell? ⟨w.heap.size + 1 + 1 + 1, 0, none⟩ = some (U (mulS av am bv bm k).1) ∧ wr.cell? ⟨w.heap.size + 1 + 1 + 1, 1, none⟩ = some (U (mulS av am bv bm k).2)
      ∧ (∀ o, wr.frozen? ⟨w.heap.size + 1 + 1 + 1, o, none⟩ = false)
      ∧ w.heap.size + 1 + 1 + 1 + 1 ≤ wr.heap.size) (fun i _ => 64 - (intOf i).toNat)
  case atStart =>
    exact ⟨0, by omega, rfl, (by repeat (first | exact Below.refl _ _ | assumption | refine below_drewN ?_ _ | refine Below.drew ?_ | refine Below.alloc ?_ (by first | exact Nat.le_refl _ | (simp; done) | (simp; omega) | omega) _ | refine Below.setCell ?_ (by first | exact Nat.le_refl _ | (simp; done) | (simp; omega) | omega) _ | refine Below.trans ?_ (Below.mono (by assumption) (by first | exact Nat.le_refl _ | (simp; done) | (simp; omega) | omega)))), by simp [mulS, nv_zero, go_sem], by simp [mulS, nv_zero, go_sem], by simp [go_sem], by simp⟩
  case round =>
    obtain ⟨k, hk, rfl, hbel, ho0, ho1, hfo, hsz⟩ := hrel
    obtain ⟨hc, hf⟩ := bl hbel
    by_cases hlt : k < 64
    · obtain ⟨z, o, H1, H2⟩ := may_eq av am k
      have Hr : Hid (eqb (band (mulS av am bv bm k).1 (mulS av am bv bm k).2) zero = true) := mulS_right av am bv bm k
      have Hs : Hid (mulS av am bv bm (k + 1) = if bit av k then addP (mulS av am bv bm k) (bshl bv k, bshl bm k)
        else if bit am k then addP (mulS av am bv bm k) (zero, bor (bshl bv k) (bshl bm k)) else mulS av am bv bm k) := rfl
      generalize mulS av am bv bm k = S at ho0 ho1 Hs Hr
      obtain ⟨sv, sm⟩ := S
      simp only at ho0 ho1
      have Hu : Hid (eqb (band (bshl bv k) (bshl bm k)) zero = true) := shl_right hb.out k
      go_wp2_with fail
      refine (may_any hlt H1 H2 _).mono ?_
      rintro e w1 ⟨rfl, hb1⟩
      obtain ⟨hc1, hf1, hs1⟩ := bk _ hb1 hsz
      go_wp2_with fail
      refine (shiftUp_is hb.out hlt _).mono ?_
      rintro e w2 ⟨rfl, hb2⟩
      obtain ⟨hc2, hf2, hs2⟩ := bk _ hb2 hs1
      have hlt1 : w.heap.size + 1 + 1 + 1 < w2.heap.size := by omega
      have hlt2 : w.heap.size + 1 + 1 < w2.heap.size := by omega
      have hlt3 : w.heap.size + 1 < w2.heap.size := by omega
      have hlt4 : w.heap.size < w2.heap.size := by omega
      have hb12 : Below wr.heap.size wr w2 := hb1.trans (hb2.mono hb1.size)
      have Hz := H1.out
      have Ho := H2.out
      unfold mz at Hz
      unfold mo at Ho
      cases hA : bit av k <;> cases hM : bit am k
      all_goals
        rw [hA] at Hz
        rw [hA, hM] at Ho
        rw [hA, hM] at Hs
        simp only [Bool.not_true, Bool.not_false, Bool.or_false, Bool.or_true] at Hz Ho
        subst Hz
        subst Ho
        clear H1 H2 hA hM
      · go_wp2_with fail
        exact ⟨⟨k + 1, by omega, by go_num, keep_rel hbel (hb12.trans (((Below.refl _ _).alloc (Nat.le_refl _) _).mono hb12.size)) hsz ho0 ho1 hfo (by rw [Hs.out]; rfl) (by rw [Hs.out]; rfl)⟩, by simp [intOf]; omega⟩
      · go_wp2_with fail
        refine (twoBits_add (bv := zero) Hr.out (zero_right _) _).mono ?_
        rintro e w3 ⟨rfl, hb3⟩
        obtain ⟨hc3, hf3, hs3⟩ := bk (w.heap.size + 1 + 1 + 1 + 1) hb3 (by simp; omega)
        go_wp2_with fail
        exact ⟨⟨k + 1, by omega, by go_num, out_rel hbel (hb12.trans ((((Below.refl _ _).alloc (Nat.le_refl _) _).trans (hb3.mono (by simp))).mono hb12.size)) hsz ho0 ho1 hfo (by rw [Hs.out]; rfl) (by rw [Hs.out]; rfl)⟩, by simp [intOf]; omega⟩
      all_goals
        go_wp2_with fail
        refine (twoBits_add Hr.out Hu.out _).mono ?_
        rintro e w3 ⟨rfl, hb3⟩
        obtain ⟨hc3, hf3, hs3⟩ := bk (w.heap.size + 1 + 1 + 1 + 1) hb3 (by simp; omega)
        go_wp2_with fail
        exact ⟨⟨k + 1, by omega, by go_num, out_rel hbel (hb12.trans ((((Below.refl _ _).alloc (Nat.le_refl _) _).trans (hb3.mono (by simp))).mono hb12.size)) hsz ho0 ho1 hfo (by rw [Hs.out]; rfl) (by rw [Hs.out]; rfl)⟩, by simp [intOf]; omega⟩
    · have hk64 : k = 64 := by omega
      subst hk64
      go_wp2_with fail
      exact bodyPost_ret (v := Bt (mulS av am bv bm 64).1 (mulS av am bv bm 64).2) (by simp [results, Try.results29, go_sem, hc]) rfl ⟨rfl, (by repeat (first | exact Below.refl _ _ | assumption | refine below_drewN ?_ _ | refine Below.drew ?_ | refine Below.alloc ?_ (by first | exact Nat.le_refl _ | (simp; done) | (simp; omega) | omega) _ | refine Below.setCell ?_ (by first | exact Nat.le_refl _ | (simp; done) | (simp; omega) | omega) _ | refine Below.trans ?_ (Below.mono (by assumption) (by first | exact Nat.le_refl _ | (simp; done) | (simp; omega) | omega))))⟩

end Go.Proofs.Ytglollajdjgciaa
