/- The contracts of package calc's bounds. -/
import Derived.Test.YtglollajdjgciaaM11
import Derived.Test.YtglollajdjgciaaW1
namespace Go.Proofs.Ytglollajdjgciaa
open Go.RowKit
attribute [local go_sem] w_and w_or w_xor w_andNot w_and1 w_and63 w_add w_sub w_mul w_sub1 w_add1 w_shl w_shl1 w_shr c_beq c_bne c_beq0 c_bne0 c_beq1 c_bne1 wrap_nv

theorem c_lt (x y : BitVec 64) : decide (nv x < nv y) = decide (nv x < nv y) := rfl
set_option maxHeartbeats 1000000 in
theorem addBounds_any (v m l h v' m' l' h' : BitVec 64) (w : World) :
    Calls Try.prog 126 #[Vl v m l h, Vl v' m' l' h'] w fun e w' => e = .returned (.tuple #[U (addB l h l' h').1, U (addB l h l' h').2]) ∧ Below w.heap.size w w' := by
  have Ha : Hid (addB l h l' h' = if decide (nv (badd l l') < nv l) = decide (nv (badd h h') < nv h) then (badd l l', badd h h') else (zero, top)) := rfl
  obtain ⟨p, hp⟩ : ∃ b, decide (nv (badd l l') < nv l) = b := ⟨_, rfl⟩
  obtain ⟨q, hq⟩ : ∃ b, decide (nv (badd h h') < nv h) = b := ⟨_, rfl⟩
  rw [hp, hq] at Ha
  cases p <;> cases q
  all_goals
    go_enter Try.func126, Try.ntmps126
    go_wp2_with fail
    go_quiet (fail)
    go_wp2_with fail
    go_quiet (fail)
    go_wp2_with fail
    go_ret2
    rw [Ha.out]
    exact ⟨rfl, (by repeat (first | exact Below.refl _ _ | assumption | refine below_drewN ?_ _ | refine Below.drew ?_ | refine Below.alloc ?_ (by first | exact Nat.le_refl _ | (simp; done) | (simp; omega) | omega) _ | refine Below.setCell ?_ (by first | exact Nat.le_refl _ | (simp; done) | (simp; omega) | omega) _ | refine Below.trans ?_ (Below.mono (by assumption) (by first | exact Nat.le_refl _ | (simp; done) | (simp; omega) | omega))))⟩
set_option maxHeartbeats 1000000 in
theorem subBounds_any (v m l h v' m' l' h' : BitVec 64) (w : World) :
    Calls Try.prog 127 #[Vl v m l h, Vl v' m' l' h'] w fun e w' => e = .returned (.tuple #[U (subB l h l' h').1, U (subB l h l' h').2]) ∧ Below w.heap.size w w' := by
  have Ha : Hid (subB l h l' h' = if decide (nv l < nv h') = decide (nv h < nv l') then (bsub l h', bsub h l') else (zero, top)) := rfl
  obtain ⟨p, hp⟩ : ∃ b, decide (nv l < nv h') = b := ⟨_, rfl⟩
  obtain ⟨q, hq⟩ : ∃ b, decide (nv h < nv l') = b := ⟨_, rfl⟩
  rw [hp, hq] at Ha
  cases p <;> cases q
  all_goals
    go_enter Try.func127, Try.ntmps127
    go_wp2_with fail
    go_quiet (fail)
    go_wp2_with fail
    first | (go_quiet (fail); go_wp2_with fail) | skip
    go_ret2
    rw [Ha.out]
    exact ⟨rfl, (by repeat (first | exact Below.refl _ _ | assumption | refine below_drewN ?_ _ | refine Below.drew ?_ | refine Below.alloc ?_ (by first | exact Nat.le_refl _ | (simp; done) | (simp; omega) | omega) _ | refine Below.setCell ?_ (by first | exact Nat.le_refl _ | (simp; done) | (simp; omega) | omega) _ | refine Below.trans ?_ (Below.mono (by assumption) (by first | exact Nat.le_refl _ | (simp; done) | (simp; omega) | omega))))⟩
set_option maxRecDepth 100000 in
set_option maxHeartbeats 1000000 in
theorem mulBounds_any (v m l h v' m' l' h' : BitVec 64) (w : World) :
    Calls Try.prog 128 #[Vl v m l h, Vl v' m' l' h'] w fun e w' => e = .returned (.tuple #[U (mulB l h l' h').1, U (mulB l h l' h').2]) ∧ Below w.heap.size w w' := by
  have Ha : Hid (mulB l h l' h' = if overB h h' then (zero, top) else (bmul l l', bmul h h')) := rfl
  have Ho : Hid (overB h h' = (!eqb h' zero && decide (18446744073709551615 / nv h' < nv h))) := rfl
  obtain ⟨z, hz⟩ : ∃ b, eqb h' zero = b := ⟨_, rfl⟩
  rw [hz] at Ho
  rw [Ho.out] at Ha
  cases z
  · have hne : nv h' ≠ 0 := fun e => by
      have := nv_inj h' zero (by rw [e, nv_zero])
      rw [this] at hz; revert hz; decide
    have hpos : 0 < nv h' := by have := nv_nonneg h'; omega
    have hnn : 0 ≤ nv h' := by omega
    have hcv := nv_lt h'
    obtain ⟨D, hD⟩ : ∃ D, 18446744073709551615 / nv h' = D := ⟨_, rfl⟩
    rw [hD] at Ha
    by_cases hd : D < nv h
    · have Hd : Hid (decide (D < nv h) = true) := decide_eq_true hd
      rw [Hd.out] at Ha
      go_enter Try.func128, Try.ntmps128
      go_wp2_with fail
      go_quiet (fail)
      go_wp2_with fail
      go_ret2
      rw [Ha.out]
      exact ⟨rfl, (by repeat (first | exact Below.refl _ _ | assumption | refine below_drewN ?_ _ | refine Below.drew ?_ | refine Below.alloc ?_ (by first | exact Nat.le_refl _ | (simp; done) | (simp; omega) | omega) _ | refine Below.setCell ?_ (by first | exact Nat.le_refl _ | (simp; done) | (simp; omega) | omega) _ | refine Below.trans ?_ (Below.mono (by assumption) (by first | exact Nat.le_refl _ | (simp; done) | (simp; omega) | omega))))⟩
    · have Hd : Hid (decide (D < nv h) = false) := decide_eq_false hd
      rw [Hd.out] at Ha
      have hle : decide (D < nv h) = false := decide_eq_false hd
      clear hd
      go_enter Try.func128, Try.ntmps128
      go_wp2_with fail
      go_quiet (fail)
      go_wp2_with fail
      go_quiet (fail)
      go_wp2_with fail
      go_ret2
      rw [Ha.out]
      exact ⟨rfl, (by repeat (first | exact Below.refl _ _ | assumption | refine below_drewN ?_ _ | refine Below.drew ?_ | refine Below.alloc ?_ (by first | exact Nat.le_refl _ | (simp; done) | (simp; omega) | omega) _ | refine Below.setCell ?_ (by first | exact Nat.le_refl _ | (simp; done) | (simp; omega) | omega) _ | refine Below.trans ?_ (Below.mono (by assumption) (by first | exact Nat.le_refl _ | (simp; done) | (simp; omega) | omega))))⟩
  · go_enter Try.func128, Try.ntmps128
    go_wp2_with fail
    go_quiet (fail)
    go_wp2_with fail
    go_quiet (fail)
    go_wp2_with fail
    go_ret2
    rw [Ha.out]
    exact ⟨rfl, (by repeat (first | exact Below.refl _ _ | assumption | refine below_drewN ?_ _ | refine Below.drew ?_ | refine Below.alloc ?_ (by first | exact Nat.le_refl _ | (simp; done) | (simp; omega) | omega) _ | refine Below.setCell ?_ (by first | exact Nat.le_refl _ | (simp; done) | (simp; omega) | omega) _ | refine Below.trans ?_ (Below.mono (by assumption) (by first | exact Nat.le_refl _ | (simp; done) | (simp; omega) | omega))))⟩

end Go.Proofs.Ytglollajdjgciaa
