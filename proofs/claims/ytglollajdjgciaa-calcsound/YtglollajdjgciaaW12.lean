/- The contracts of package val's least and greatest. -/
import Derived.Test.YtglollajdjgciaaM7
import Derived.Test.YtglollajdjgciaaBox
namespace Go.Proofs.Ytglollajdjgciaa
open Go.RowKit
attribute [local go_sem] w_and w_or w_xor w_andNot w_and1 w_and63 w_add w_sub w_mul w_sub1 w_add1 w_shl w_shl1 w_shr c_beq c_bne c_beq0 c_bne0 c_beq1 c_bne1 wrap_nv
attribute [local go_sem] w_neg w_not

set_option maxHeartbeats 1000000 in
theorem valLeast_any (v m x : BitVec 64) (w : World) :
    Calls Try.prog 82 #[Bt v m, U x] w fun e w' => e = .returned (.tuple #[U (leastV v m x).1, .bool (leastV v m x).2]) ∧ Below w.heap.size w w' := by
  have Hl : Hid (leastV v m x = if eqb (wrongB v m x) zero then (x, true)
    else if nv (band x (restB v m x)) < nv (band v (restB v m x)) then (bor (bandn x (restB v m x)) (band v (restB v m x)), true)
    else if eqb (freeB v m x) zero then (zero, false)
    else (bor (bor (bandn x (bsub (lowB (freeB v m x)) one)) (lowB (freeB v m x))) (band v (bsub (lowB (freeB v m x)) one)), true)) := rfl
  obtain ⟨c1, h1⟩ : ∃ b, eqb (bandn (bxor x v) m) zero = b := ⟨_, rfl⟩
  have H1 : Hid (eqb (wrongB v m x) zero = c1) := h1
  rw [H1.out] at Hl
  cases c1
  · have h64 := blen_le (bandn (bxor x v) m)
    obtain ⟨n, hn⟩ : ∃ n, Hid (blen (bandn (bxor x v) m) = n) := ⟨_, rfl⟩
    have hn64 : n ≤ 64 := by rw [← hn.out]; exact h64
    clear h64
    have Hr : Hid (restB v m x = bsub (bshl one n) one) := by show lowMask (blen (bandn (bxor x v) m)) = _; rw [hn.out]; rfl
    have Hf : Hid (freeB v m x = bandn (bandn m x) (bsub (bshl one n) one)) := by show bandn (bandn m x) (restB v m x) = _; rw [Hr.out]
    rw [Hr.out, Hf.out] at Hl
    go_enter Try.func82, Try.ntmps82
    go_wp2_with fail
    refine (len_u _ _).mono ?_
    rintro e w1 ⟨rfl, rfl⟩
    rw [hn.out]
    by_cases hlt : nv (band x (bsub (bshl one n) one)) < nv (band v (bsub (bshl one n) one))
    · rw [if_pos hlt] at Hl
      go_wp2_with fail
      go_ret2
      rw [Hl.out]
      exact ⟨rfl, (by repeat (first | exact Below.refl _ _ | assumption | refine below_drewN ?_ _ | refine Below.drew ?_ | refine Below.alloc ?_ (by first | exact Nat.le_refl _ | (simp; done) | (simp; omega) | omega) _ | refine Below.setCell ?_ (by first | exact Nat.le_refl _ | (simp; done) | (simp; omega) | omega) _ | refine Below.trans ?_ (Below.mono (by assumption) (by first | exact Nat.le_refl _ | (simp; done) | (simp; omega) | omega))))⟩
    · rw [if_neg hlt] at Hl
      have hle : nv (band v (bsub (bshl one n) one)) ≤ nv (band x (bsub (bshl one n) one)) := by omega
      clear hlt
      obtain ⟨c2, h2⟩ : ∃ b, eqb (bandn (bandn m x) (bsub (bshl one n) one)) zero = b := ⟨_, rfl⟩
      rw [h2] at Hl
      cases c2
      · go_wp2_with fail
        go_ret2
        rw [Hl.out]
        exact ⟨rfl, (by repeat (first | exact Below.refl _ _ | assumption | refine below_drewN ?_ _ | refine Below.drew ?_ | refine Below.alloc ?_ (by first | exact Nat.le_refl _ | (simp; done) | (simp; omega) | omega) _ | refine Below.setCell ?_ (by first | exact Nat.le_refl _ | (simp; done) | (simp; omega) | omega) _ | refine Below.trans ?_ (Below.mono (by assumption) (by first | exact Nat.le_refl _ | (simp; done) | (simp; omega) | omega))))⟩
      · go_wp2_with fail
        go_ret2
        rw [Hl.out]
        exact ⟨rfl, (by repeat (first | exact Below.refl _ _ | assumption | refine below_drewN ?_ _ | refine Below.drew ?_ | refine Below.alloc ?_ (by first | exact Nat.le_refl _ | (simp; done) | (simp; omega) | omega) _ | refine Below.setCell ?_ (by first | exact Nat.le_refl _ | (simp; done) | (simp; omega) | omega) _ | refine Below.trans ?_ (Below.mono (by assumption) (by first | exact Nat.le_refl _ | (simp; done) | (simp; omega) | omega))))⟩
  · go_enter Try.func82, Try.ntmps82
    go_wp2_with fail
    go_ret2
    rw [Hl.out]
    exact ⟨rfl, (by repeat (first | exact Below.refl _ _ | assumption | refine below_drewN ?_ _ | refine Below.drew ?_ | refine Below.alloc ?_ (by first | exact Nat.le_refl _ | (simp; done) | (simp; omega) | omega) _ | refine Below.setCell ?_ (by first | exact Nat.le_refl _ | (simp; done) | (simp; omega) | omega) _ | refine Below.trans ?_ (Below.mono (by assumption) (by first | exact Nat.le_refl _ | (simp; done) | (simp; omega) | omega))))⟩

set_option maxHeartbeats 1000000 in
theorem valGreat_any (v m x : BitVec 64) (w : World) :
    Calls Try.prog 83 #[Bt v m, U x] w fun e w' => e = .returned (.tuple #[U (greatV v m x).1, .bool (greatV v m x).2]) ∧ Below w.heap.size w w' := by
  have Hg : Hid (greatV v m x = if (leastV (turn v m) m (bnot x)).2 then (bnot (leastV (turn v m) m (bnot x)).1, true) else (zero, false)) := rfl
  have Hc : Hid (∀ w, Calls Try.prog 82 #[Bt (bnot (bor v m)) m, U (bnot x)] w fun e w' => e = .returned (.tuple #[U (leastV (turn v m) m (bnot x)).1, .bool (leastV (turn v m) m (bnot x)).2]) ∧ Below w.heap.size w w') := fun w => valLeast_any (turn v m) m (bnot x) w
  generalize leastV (turn v m) m (bnot x) = S at Hg Hc
  obtain ⟨sb, sf⟩ := S
  cases sf
  all_goals
    go_enter Try.func83, Try.ntmps83
    go_wp2_with fail
    refine (Hc.out _).mono ?_
    rintro e w1 ⟨rfl, hb1⟩
    go_wp2_with fail
    go_ret2
    rw [Hg.out]
    exact ⟨rfl, (by repeat (first | exact Below.refl _ _ | assumption | refine below_drewN ?_ _ | refine Below.drew ?_ | refine Below.alloc ?_ (by first | exact Nat.le_refl _ | (simp; done) | (simp; omega) | omega) _ | refine Below.setCell ?_ (by first | exact Nat.le_refl _ | (simp; done) | (simp; omega) | omega) _ | refine Below.trans ?_ (Below.mono (by assumption) (by first | exact Nat.le_refl _ | (simp; done) | (simp; omega) | omega))))⟩

end Go.Proofs.Ytglollajdjgciaa
