/- The contract of the reference's bitOf; what twoBits comes to, as plain functions. -/
import Derived.Test.YtglollajdjgciaaW1
import Derived.Test.YtglollajdjgciaaBox
namespace Go.Proofs.Ytglollajdjgciaa
open Go.RowKit
attribute [local go_sem] w_and w_or w_xor w_andNot w_and1 w_and63 w_add w_sub w_mul w_sub1 w_add1 w_shl w_shl1 w_shr c_beq c_bne c_beq0 c_bne0 c_beq1 c_bne1 wrap_nv

def bi (b : Bool) : Int := if b then 1 else 0
/- one bit of an operation, and what goes over -/
def bo (op : Int) (x y c : Bool) : Bool × Bool :=
  if op = 2 then ((x ^^ y) ^^ c, (x && y) || (c && (x || y)))
  else if op = 3 then ((x ^^ y) ^^ c, (!x && y) || (c && (!x || y)))
  else if op = 5 then (x && y, false)
  else if op = 6 then (x || y, false)
  else (x ^^ y, false)

theorem bo_else {op : Int} (h2 : op ≠ 2) (h3 : op ≠ 3) (h5 : op ≠ 5) (h6 : op ≠ 6) (x y c : Bool) : bo op x y c = (x ^^ y, false) := by
  unfold bo; rw [if_neg h2, if_neg h3, if_neg h5, if_neg h6]
set_option maxHeartbeats 4000000 in
theorem bitOf_any (op : Int) (x y c : Bool) (w : World) :
    Calls Try.prog 111 #[N op, N (bi x), N (bi y), N (bi c)] w fun e w' => e = .returned (.tuple #[N (bi (bo op x y c).1), N (bi (bo op x y c).2)]) ∧ w = w' := by
  by_cases hop : op = 2 ∨ op = 3 ∨ op = 5 ∨ op = 6
  · generalize h1 : bi (bo op x y c).1 = r1
    generalize h2 : bi (bo op x y c).2 = r2
    have H1 : Hid (bi (bo op x y c).1 = r1) := h1
    have H2 : Hid (bi (bo op x y c).2 = r2) := h2
    clear h1 h2
    rcases hop with rfl | rfl | rfl | rfl <;> cases x <;> cases y <;> cases c
    all_goals
      simp only [bi, if_true, if_false, Bool.false_eq_true]
      go_enter Try.func111, Try.ntmps111
      go_wp2_with fail
      go_ret2
      rw [← H1.out, ← H2.out]
      exact ⟨rfl, rfl⟩
  · have h2 : op ≠ 2 := by omega
    have h3 : op ≠ 3 := by omega
    have h5 : op ≠ 5 := by omega
    have h6 : op ≠ 6 := by omega
    generalize g1 : bi (bo op x y c).1 = r1
    generalize g2 : bi (bo op x y c).2 = r2
    rw [bo_else h2 h3 h5 h6] at g1 g2
    have H1 : Hid (bi (x ^^ y) = r1) := g1
    have H2 : Hid (bi false = r2) := g2
    clear g1 g2
    have e2 : (op == 2) = false := by simpa using h2
    have e3 : (op == 3) = false := by simpa using h3
    have e5 : (op == 5) = false := by simpa using h5
    have e6 : (op == 6) = false := by simpa using h6
    clear h2 h3 h5 h6 hop
    cases x <;> cases y <;> cases c
    all_goals
      simp only [bi, if_true, if_false, Bool.false_eq_true]
      go_enter Try.func111, Try.ntmps111
      go_wp2_with fail
      go_ret2
      rw [← H1.out, ← H2.out]
      exact ⟨rfl, rfl⟩

end Go.Proofs.Ytglollajdjgciaa
