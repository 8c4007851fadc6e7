/- The contracts of package bits: Shift, Len64, Span. -/
import Derived.Test.YtglollajdjgciaaW5
import Derived.Laws.MathBits
namespace Go.Proofs.Ytglollajdjgciaa
open Go.RowKit
attribute [local go_sem] w_and w_or w_xor w_andNot w_and1 w_and63 w_add w_sub w_mul w_sub1 w_add1 w_shl w_shl1 w_shr c_beq c_bne c_beq0 c_bne0 c_beq1 c_bne1 wrap_nv

set_option maxHeartbeats 400000 in
theorem shift_wrong {op n : Int} {v m : BitVec 64} (hr : Hid (eqb (band v m) zero = false)) (w : World) :
    Calls Try.prog 15 #[N op, Bt v m, N n] w fun e w' => e = .returned (.tuple #[Bt zero zero, N 1]) ∧ Below w.heap.size w w' := by
  go_enter Try.func15, Try.ntmps15
  go_wp2_with fail
  refine (check1_is hr (by simp) (by simp [go_sem]) (by simp [go_sem])).mono ?_
  rintro e w1 ⟨rfl, hb1⟩
  obtain ⟨hc1, hf1, hs1⟩ := bk (w.heap.size + 1 + 1) hb1 (by simp)
  first | rw [er_t] | rw [er_f]
  go_wp2_with fail
  exact bodyPost_ret (v := .tuple #[Bt zero zero, N 1]) (by simp [results, Try.results15, go_sem, hc1, nv_zero]) rfl ⟨rfl, (by repeat (first | exact Below.refl _ _ | assumption | refine below_drewN ?_ _ | refine Below.drew ?_ | refine Below.alloc ?_ (by first | exact Nat.le_refl _ | (simp; done) | (simp; omega) | omega) _ | refine Below.setCell ?_ (by first | exact Nat.le_refl _ | (simp; done) | (simp; omega) | omega) _ | refine Below.trans ?_ (Below.mono (by assumption) (by first | exact Nat.le_refl _ | (simp; done) | (simp; omega) | omega))))⟩
set_option maxHeartbeats 400000 in
theorem shift_kind {op n : Int} {v m : BitVec 64} (hr : Hid (eqb (band v m) zero = true)) (h8 : (op != 8) = true) (h9 : (op != 9) = true) (w : World) :
    Calls Try.prog 15 #[N op, Bt v m, N n] w fun e w' => e = .returned (.tuple #[Bt zero zero, N 4]) ∧ Below w.heap.size w w' := by
  go_enter Try.func15, Try.ntmps15
  go_wp2_with fail
  refine (check1_is hr (by simp) (by simp [go_sem]) (by simp [go_sem])).mono ?_
  rintro e w1 ⟨rfl, hb1⟩
  obtain ⟨hc1, hf1, hs1⟩ := bk (w.heap.size + 1 + 1) hb1 (by simp)
  first | rw [er_t] | rw [er_f]
  go_wp2_with fail
  exact bodyPost_ret (v := .tuple #[Bt zero zero, N 4]) (by simp [results, Try.results15, go_sem, hc1, nv_zero]) rfl ⟨rfl, (by repeat (first | exact Below.refl _ _ | assumption | refine below_drewN ?_ _ | refine Below.drew ?_ | refine Below.alloc ?_ (by first | exact Nat.le_refl _ | (simp; done) | (simp; omega) | omega) _ | refine Below.setCell ?_ (by first | exact Nat.le_refl _ | (simp; done) | (simp; omega) | omega) _ | refine Below.trans ?_ (Below.mono (by assumption) (by first | exact Nat.le_refl _ | (simp; done) | (simp; omega) | omega))))⟩
set_option maxHeartbeats 400000 in
theorem shift_range {op n : Int} {v m : BitVec 64} (hr : Hid (eqb (band v m) zero = true)) (hop : op = 8 ∨ op = 9) (hn : n < 0 ∨ 63 < n) (w : World) :
    Calls Try.prog 15 #[N op, Bt v m, N n] w fun e w' => e = .returned (.tuple #[Bt zero zero, N 3]) ∧ Below w.heap.size w w' := by
  rcases hop with rfl | rfl <;> rcases hn with hn | hn
  all_goals
    go_enter Try.func15, Try.ntmps15
    go_wp2_with fail
    refine (check1_is hr (by simp) (by simp [go_sem]) (by simp [go_sem])).mono ?_
    rintro e w1 ⟨rfl, hb1⟩
    obtain ⟨hc1, hf1, hs1⟩ := bk (w.heap.size + 1 + 1) hb1 (by simp)
    first | rw [er_t] | rw [er_f]
    go_wp2_with fail
    exact bodyPost_ret (v := .tuple #[Bt zero zero, N 3]) (by simp [results, Try.results15, go_sem, hc1, nv_zero]) rfl ⟨rfl, (by repeat (first | exact Below.refl _ _ | assumption | refine below_drewN ?_ _ | refine Below.drew ?_ | refine Below.alloc ?_ (by first | exact Nat.le_refl _ | (simp; done) | (simp; omega) | omega) _ | refine Below.setCell ?_ (by first | exact Nat.le_refl _ | (simp; done) | (simp; omega) | omega) _ | refine Below.trans ?_ (Below.mono (by assumption) (by first | exact Nat.le_refl _ | (simp; done) | (simp; omega) | omega))))⟩
set_option maxHeartbeats 400000 in
theorem shift_up {n : Nat} {v m : BitVec 64} (hr : Hid (eqb (band v m) zero = true)) (hn : n < 64) (w : World) :
    Calls Try.prog 15 #[N 8, Bt v m, N n] w fun e w' => e = .returned (.tuple #[Bt (bshl v n) (bshl m n), N 0]) ∧ Below w.heap.size w w' := by
  go_enter Try.func15, Try.ntmps15
  go_wp2_with fail
  refine (check1_is hr (by simp) (by simp [go_sem]) (by simp [go_sem])).mono ?_
  rintro e w1 ⟨rfl, hb1⟩
  obtain ⟨hc1, hf1, hs1⟩ := bk (w.heap.size + 1 + 1) hb1 (by simp)
  first | rw [er_t] | rw [er_f]
  go_wp2_with fail
  refine (up_any _ _ n hn _).mono ?_
  rintro e w2 ⟨rfl, hb2⟩
  obtain ⟨hc2, hf2, hs2⟩ := bk _ hb2 hs1
  go_wp2_with fail
  exact bodyPost_ret (v := .tuple #[Bt (bshl v n) (bshl m n), N 0]) (by simp [results, Try.results15, go_sem, hc1, hc2]) rfl ⟨rfl, (by repeat (first | exact Below.refl _ _ | assumption | refine below_drewN ?_ _ | refine Below.drew ?_ | refine Below.alloc ?_ (by first | exact Nat.le_refl _ | (simp; done) | (simp; omega) | omega) _ | refine Below.setCell ?_ (by first | exact Nat.le_refl _ | (simp; done) | (simp; omega) | omega) _ | refine Below.trans ?_ (Below.mono (by assumption) (by first | exact Nat.le_refl _ | (simp; done) | (simp; omega) | omega))))⟩
set_option maxHeartbeats 400000 in
theorem shift_down {n : Nat} {v m : BitVec 64} (hr : Hid (eqb (band v m) zero = true)) (hn : n < 64) (w : World) :
    Calls Try.prog 15 #[N 9, Bt v m, N n] w fun e w' => e = .returned (.tuple #[Bt (bshr v n) (bshr m n), N 0]) ∧ Below w.heap.size w w' := by
  go_enter Try.func15, Try.ntmps15
  go_wp2_with fail
  refine (check1_is hr (by simp) (by simp [go_sem]) (by simp [go_sem])).mono ?_
  rintro e w1 ⟨rfl, hb1⟩
  obtain ⟨hc1, hf1, hs1⟩ := bk (w.heap.size + 1 + 1) hb1 (by simp)
  first | rw [er_t] | rw [er_f]
  go_wp2_with fail
  exact bodyPost_ret (v := .tuple #[Bt (bshr v n) (bshr m n), N 0]) (by simp [results, Try.results15, go_sem, hc1]) rfl ⟨rfl, (by repeat (first | exact Below.refl _ _ | assumption | refine below_drewN ?_ _ | refine Below.drew ?_ | refine Below.alloc ?_ (by first | exact Nat.le_refl _ | (simp; done) | (simp; omega) | omega) _ | refine Below.setCell ?_ (by first | exact Nat.le_refl _ | (simp; done) | (simp; omega) | omega) _ | refine Below.trans ?_ (Below.mono (by assumption) (by first | exact Nat.le_refl _ | (simp; done) | (simp; omega) | omega))))⟩

end Go.Proofs.Ytglollajdjgciaa
