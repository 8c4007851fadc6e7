/- The reference's Number, and val's and calc's plain numbers: x op y. -/
import Derived.Test.YtglollajdjgciaaM5
namespace Go.Proofs.Ytglollajdjgciaa
open Go.RowKit
attribute [local go_sem] w_and w_or w_xor w_andNot w_and1 w_and63 w_add w_sub w_mul w_sub1 w_add1 w_shl w_shl1 w_shr c_beq c_bne c_beq0 c_bne0 c_beq1 c_bne1 wrap_nv

def six (y : BitVec 64) : Nat := (nv (band y 63#64)).toNat
theorem six_lt (y : BitVec 64) : six y < 64 := by
  unfold six nv band
  rw [BitVec.toNat_and]
  have : y.toNat &&& (63#64).toNat ≤ (63#64).toNat := Nat.and_le_right
  have h63 : (63#64).toNat = 63 := rfl
  omega
theorem six_nv (y : BitVec 64) : nv (band y 63#64) = (six y : Int) := by
  unfold six; have := nv_nonneg (band y 63#64); omega
def numN (op : Int) (x y : BitVec 64) : BitVec 64 :=
  if op = 1 then y else if 2 ≤ op ∧ op ≤ 7 then numB op x y else if op = 8 then bshl x (six y) else bshr x (six y)

set_option maxHeartbeats 1000000 in
theorem number_two {op : Int} (hop : Hid (2 ≤ op ∧ op ≤ 7)) (x y : BitVec 64) (w : World) :
    Calls Try.prog 30 #[N op, U x, U y] w fun e w' => e = .returned (U (numB op x y)) ∧ Below w.heap.size w w' := by
  rcases op_cases hop.out with rfl | rfl | rfl | rfl | rfl | rfl
  all_goals
    clear hop
    go_enter Try.func30, Try.ntmps30
    go_wp2
    go_ret
    exact ⟨rfl, (by repeat (first | exact Below.refl _ _ | assumption | refine below_drewN ?_ _ | refine Below.drew ?_ | refine Below.alloc ?_ (by first | exact Nat.le_refl _ | (simp; done) | (simp; omega) | omega) _ | refine Below.setCell ?_ (by first | exact Nat.le_refl _ | (simp; done) | (simp; omega) | omega) _ | refine Below.trans ?_ (Below.mono (by assumption) (by first | exact Nat.le_refl _ | (simp; done) | (simp; omega) | omega))))⟩
set_option maxHeartbeats 1000000 in
theorem number_shl (x y : BitVec 64) (w : World) :
    Calls Try.prog 30 #[N 8, U x, U y] w fun e w' => e = .returned (U (bshl x (six y))) ∧ Below w.heap.size w w' := by
  have h6 := six_nv y
  have h7 := six_lt y
  go_enter Try.func30, Try.ntmps30
  go_wp2
  go_ret
  exact ⟨rfl, (by repeat (first | exact Below.refl _ _ | assumption | refine below_drewN ?_ _ | refine Below.drew ?_ | refine Below.alloc ?_ (by first | exact Nat.le_refl _ | (simp; done) | (simp; omega) | omega) _ | refine Below.setCell ?_ (by first | exact Nat.le_refl _ | (simp; done) | (simp; omega) | omega) _ | refine Below.trans ?_ (Below.mono (by assumption) (by first | exact Nat.le_refl _ | (simp; done) | (simp; omega) | omega))))⟩
set_option maxHeartbeats 1000000 in
theorem number_shr (x y : BitVec 64) (w : World) :
    Calls Try.prog 30 #[N 9, U x, U y] w fun e w' => e = .returned (U (bshr x (six y))) ∧ Below w.heap.size w w' := by
  have h6 := six_nv y
  have h7 := six_lt y
  go_enter Try.func30, Try.ntmps30
  go_wp2
  go_ret
  exact ⟨rfl, (by repeat (first | exact Below.refl _ _ | assumption | refine below_drewN ?_ _ | refine Below.drew ?_ | refine Below.alloc ?_ (by first | exact Nat.le_refl _ | (simp; done) | (simp; omega) | omega) _ | refine Below.setCell ?_ (by first | exact Nat.le_refl _ | (simp; done) | (simp; omega) | omega) _ | refine Below.trans ?_ (Below.mono (by assumption) (by first | exact Nat.le_refl _ | (simp; done) | (simp; omega) | omega))))⟩

theorem hasC {v m x : BitVec 64} {b : Bool} (h : hasB v m x = b) (w : World) :
    Calls Try.prog 24 #[Bt v m, U x] w fun e w' => e = .returned (.bool b) ∧ Below w.heap.size w w' := h ▸ has_any v m x w
theorem insC {av am bv bm : BitVec 64} {b : Bool} (h : insB av am bv bm = b) (w : World) :
    Calls Try.prog 26 #[Bt av am, Bt bv bm] w fun e w' => e = .returned (.bool b) ∧ Below w.heap.size w w' := h ▸ inside_any av am bv bm w

end Go.Proofs.Ytglollajdjgciaa
