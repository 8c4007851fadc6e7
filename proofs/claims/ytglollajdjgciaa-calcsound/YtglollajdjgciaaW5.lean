/- The contracts of package bits: checkAll, Check, Has, Inside, Join, Meet, Shift. -/
import Derived.Test.YtglollajdjgciaaW1
import Derived.Test.YtglollajdjgciaaW4
namespace Go.Proofs.Ytglollajdjgciaa
open Go.RowKit
attribute [local go_sem] w_and w_or w_xor w_andNot w_and1 w_and63 w_add w_sub w_mul w_sub1 w_add1 w_shl w_shl1 w_shr c_beq c_bne c_beq0 c_bne0 c_beq1 c_bne1 wrap_nv

set_option maxHeartbeats 400000 in
theorem check1_ok (v m : BitVec 64) (b c : Nat) (w : World) (_hbw : b < w.heap.size) (h0 : w.cell? ⟨b, 0, none⟩ = some (U v)) (h1 : w.cell? ⟨b, 1, none⟩ = some (U m)) (hr : eqb (band v m) zero = true) :
    Calls Try.prog 69 #[.slice (some ⟨b, 0, none⟩) 1 c] w fun e w' => e = .returned (N 0) ∧ Below w.heap.size w w' := by
  go_enter Try.func69, Try.ntmps69
  go_wp2
  go_rounds 2
  go_ret
  exact ⟨rfl, (by repeat (first | exact Below.refl _ _ | assumption | refine below_drewN ?_ _ | refine Below.drew ?_ | refine Below.alloc ?_ (by first | exact Nat.le_refl _ | (simp; done) | (simp; omega) | omega) _ | refine Below.setCell ?_ (by first | exact Nat.le_refl _ | (simp; done) | (simp; omega) | omega) _ | refine Below.trans ?_ (Below.mono (by assumption) (by first | exact Nat.le_refl _ | (simp; done) | (simp; omega) | omega))))⟩
set_option maxHeartbeats 400000 in
theorem check1_no (v m : BitVec 64) (b c : Nat) (w : World) (_hbw : b < w.heap.size) (h0 : w.cell? ⟨b, 0, none⟩ = some (U v)) (h1 : w.cell? ⟨b, 1, none⟩ = some (U m)) (hr : eqb (band v m) zero = false) :
    Calls Try.prog 69 #[.slice (some ⟨b, 0, none⟩) 1 c] w fun e w' => e = .returned (N 1) ∧ Below w.heap.size w w' := by
  go_enter Try.func69, Try.ntmps69
  go_wp2
  go_rounds 1
  go_ret
  exact ⟨rfl, (by repeat (first | exact Below.refl _ _ | assumption | refine below_drewN ?_ _ | refine Below.drew ?_ | refine Below.alloc ?_ (by first | exact Nat.le_refl _ | (simp; done) | (simp; omega) | omega) _ | refine Below.setCell ?_ (by first | exact Nat.le_refl _ | (simp; done) | (simp; omega) | omega) _ | refine Below.trans ?_ (Below.mono (by assumption) (by first | exact Nat.le_refl _ | (simp; done) | (simp; omega) | omega))))⟩
set_option maxHeartbeats 400000 in
theorem check2_ok (v m v' m' : BitVec 64) (b c : Nat) (w : World) (hbw : b < w.heap.size) (h0 : w.cell? ⟨b, 0, none⟩ = some (U v)) (h1 : w.cell? ⟨b, 1, none⟩ = some (U m)) (h2 : w.cell? ⟨b, 2, none⟩ = some (U v')) (h3 : w.cell? ⟨b, 3, none⟩ = some (U m'))
    (hr : eqb (band v m) zero = true) (hr' : eqb (band v' m') zero = true) :
    Calls Try.prog 69 #[.slice (some ⟨b, 0, none⟩) 2 c] w fun e w' => e = .returned (N 0) ∧ Below w.heap.size w w' := by
  go_enter Try.func69, Try.ntmps69
  go_wp2
  refine wp_loop_rounds 3 ?_
  rw [rounds_succ]; go_wp2
  rw [rounds_succ]; go_wp2
  rw [rounds_succ]; go_wp2
  go_ret
  exact ⟨rfl, (by repeat (first | exact Below.refl _ _ | assumption | refine below_drewN ?_ _ | refine Below.drew ?_ | refine Below.alloc ?_ (by first | exact Nat.le_refl _ | (simp; done) | (simp; omega) | omega) _ | refine Below.setCell ?_ (by first | exact Nat.le_refl _ | (simp; done) | (simp; omega) | omega) _ | refine Below.trans ?_ (Below.mono (by assumption) (by first | exact Nat.le_refl _ | (simp; done) | (simp; omega) | omega))))⟩
set_option maxHeartbeats 400000 in
theorem check2_no (v m v' m' : BitVec 64) (b c : Nat) (w : World) (hbw : b < w.heap.size) (h0 : w.cell? ⟨b, 0, none⟩ = some (U v)) (h1 : w.cell? ⟨b, 1, none⟩ = some (U m)) (h2 : w.cell? ⟨b, 2, none⟩ = some (U v')) (h3 : w.cell? ⟨b, 3, none⟩ = some (U m'))
    (hr : (eqb (band v m) zero && eqb (band v' m') zero) = false) :
    Calls Try.prog 69 #[.slice (some ⟨b, 0, none⟩) 2 c] w fun e w' => e = .returned (N 1) ∧ Below w.heap.size w w' := by
  cases hv : eqb (band v m) zero
  · clear hr
    go_enter Try.func69, Try.ntmps69
    go_wp2
    refine wp_loop_rounds 3 ?_
    rw [rounds_succ]; go_wp2
    go_ret
    exact ⟨rfl, (by repeat (first | exact Below.refl _ _ | assumption | refine below_drewN ?_ _ | refine Below.drew ?_ | refine Below.alloc ?_ (by first | exact Nat.le_refl _ | (simp; done) | (simp; omega) | omega) _ | refine Below.setCell ?_ (by first | exact Nat.le_refl _ | (simp; done) | (simp; omega) | omega) _ | refine Below.trans ?_ (Below.mono (by assumption) (by first | exact Nat.le_refl _ | (simp; done) | (simp; omega) | omega))))⟩
  · have hr' : eqb (band v' m') zero = false := by rw [hv] at hr; simpa using hr
    clear hr
    go_enter Try.func69, Try.ntmps69
    go_wp2
    refine wp_loop_rounds 3 ?_
    rw [rounds_succ]; go_wp2
    rw [rounds_succ]; go_wp2
    go_ret
    exact ⟨rfl, (by repeat (first | exact Below.refl _ _ | assumption | refine below_drewN ?_ _ | refine Below.drew ?_ | refine Below.alloc ?_ (by first | exact Nat.le_refl _ | (simp; done) | (simp; omega) | omega) _ | refine Below.setCell ?_ (by first | exact Nat.le_refl _ | (simp; done) | (simp; omega) | omega) _ | refine Below.trans ?_ (Below.mono (by assumption) (by first | exact Nat.le_refl _ | (simp; done) | (simp; omega) | omega))))⟩

/- what 'Check' says -/
def er (b : Bool) : Int := if b then 0 else 1
theorem er_t : er true = 0 := rfl
theorem er_f : er false = 1 := rfl
theorem check1_is {v m : BitVec 64} {r : Bool} (hr : Hid (eqb (band v m) zero = r)) {b c : Nat} {w : World} (hbw : b < w.heap.size) (h0 : w.cell? ⟨b, 0, none⟩ = some (U v)) (h1 : w.cell? ⟨b, 1, none⟩ = some (U m)) :
    Calls Try.prog 69 #[.slice (some ⟨b, 0, none⟩) 1 c] w fun e w' => e = .returned (N (er r)) ∧ Below w.heap.size w w' := by
  cases r
  · exact check1_no v m b c w hbw h0 h1 hr.out
  · exact check1_ok v m b c w hbw h0 h1 hr.out
theorem check2_is {v m v' m' : BitVec 64} {r : Bool} (hr : Hid ((eqb (band v m) zero && eqb (band v' m') zero) = r)) {b c : Nat} {w : World} (hbw : b < w.heap.size) (h0 : w.cell? ⟨b, 0, none⟩ = some (U v)) (h1 : w.cell? ⟨b, 1, none⟩ = some (U m)) (h2 : w.cell? ⟨b, 2, none⟩ = some (U v')) (h3 : w.cell? ⟨b, 3, none⟩ = some (U m')) :
    Calls Try.prog 69 #[.slice (some ⟨b, 0, none⟩) 2 c] w fun e w' => e = .returned (N (er r)) ∧ Below w.heap.size w w' := by
  cases r
  · exact check2_no v m v' m' b c w hbw h0 h1 h2 h3 hr.out
  · have h := hr.out
    rw [Bool.and_eq_true] at h
    exact check2_ok v m v' m' b c w hbw h0 h1 h2 h3 h.1 h.2

set_option maxHeartbeats 400000 in
theorem check_any {v m : BitVec 64} {r : Bool} (hr : Hid (eqb (band v m) zero = r)) (w : World) :
    Calls Try.prog 23 #[Bt v m] w fun e w' => e = .returned (N (er r)) ∧ Below w.heap.size w w' := by
  go_enter Try.func23, Try.ntmps23
  go_wp2_with fail
  refine (check1_is hr (by simp) (by simp [go_sem]) (by simp [go_sem])).mono ?_
  rintro e w1 ⟨rfl, hb1⟩
  go_wp2_with fail
  go_ret
  exact ⟨rfl, (by repeat (first | exact Below.refl _ _ | assumption | refine below_drewN ?_ _ | refine Below.drew ?_ | refine Below.alloc ?_ (by first | exact Nat.le_refl _ | (simp; done) | (simp; omega) | omega) _ | refine Below.setCell ?_ (by first | exact Nat.le_refl _ | (simp; done) | (simp; omega) | omega) _ | refine Below.trans ?_ (Below.mono (by assumption) (by first | exact Nat.le_refl _ | (simp; done) | (simp; omega) | omega))))⟩

set_option maxHeartbeats 400000 in
theorem has_any (v m x : BitVec 64) (w : World) :
    Calls Try.prog 24 #[Bt v m, U x] w fun e w' => e = .returned (.bool (hasB v m x)) ∧ Below w.heap.size w w' := by
  have Hh : Hid (hasB v m x = (eqb (band v m) zero && eqb (bandn x m) v)) := rfl
  cases hr : eqb (band v m) zero
  all_goals
    rw [hr] at Hh
    have Hr : Hid (eqb (band v m) zero = _) := hr
    clear hr
    go_enter Try.func24, Try.ntmps24
    go_wp2_with fail
    refine (check1_is Hr (by simp) (by simp [go_sem]) (by simp [go_sem])).mono ?_
    rintro e w1 ⟨rfl, hb1⟩
    obtain ⟨hc1, hf1, hs1⟩ := bk (w.heap.size + 1) hb1 (by simp)
    first | rw [er_t] | rw [er_f]
    go_wp2_with fail
    go_ret
    rw [Hh.out]
    exact ⟨rfl, (by repeat (first | exact Below.refl _ _ | assumption | refine below_drewN ?_ _ | refine Below.drew ?_ | refine Below.alloc ?_ (by first | exact Nat.le_refl _ | (simp; done) | (simp; omega) | omega) _ | refine Below.setCell ?_ (by first | exact Nat.le_refl _ | (simp; done) | (simp; omega) | omega) _ | refine Below.trans ?_ (Below.mono (by assumption) (by first | exact Nat.le_refl _ | (simp; done) | (simp; omega) | omega))))⟩

def insB (av am bv bm : BitVec 64) : Bool := (eqb (band av am) zero && eqb (band bv bm) zero) && (eqb (bandn am bm) zero && eqb (bandn av bm) bv)
set_option maxHeartbeats 400000 in
theorem inside_any (av am bv bm : BitVec 64) (w : World) :
    Calls Try.prog 26 #[Bt av am, Bt bv bm] w fun e w' => e = .returned (.bool (insB av am bv bm)) ∧ Below w.heap.size w w' := by
  have Hh : Hid (insB av am bv bm = ((eqb (band av am) zero && eqb (band bv bm) zero) && (eqb (bandn am bm) zero && eqb (bandn av bm) bv))) := rfl
  cases hr : (eqb (band av am) zero && eqb (band bv bm) zero)
  · rw [hr] at Hh
    have Hr : Hid _ := hr
    clear hr
    go_enter Try.func26, Try.ntmps26
    go_wp2_with fail
    refine (check2_is Hr (by simp) (by simp [go_sem]) (by simp [go_sem]) (by simp [go_sem]) (by simp [go_sem])).mono ?_
    rintro e w1 ⟨rfl, hb1⟩
    obtain ⟨hc1, hf1, hs1⟩ := bk (w.heap.size + 1 + 1) hb1 (by simp)
    first | rw [er_t] | rw [er_f]
    go_wp2_with fail
    go_ret
    rw [Hh.out]
    exact ⟨rfl, (by repeat (first | exact Below.refl _ _ | assumption | refine below_drewN ?_ _ | refine Below.drew ?_ | refine Below.alloc ?_ (by first | exact Nat.le_refl _ | (simp; done) | (simp; omega) | omega) _ | refine Below.setCell ?_ (by first | exact Nat.le_refl _ | (simp; done) | (simp; omega) | omega) _ | refine Below.trans ?_ (Below.mono (by assumption) (by first | exact Nat.le_refl _ | (simp; done) | (simp; omega) | omega))))⟩
  · rw [hr] at Hh
    have Hr : Hid _ := hr
    clear hr
    cases hm : eqb (bandn am bm) zero
    all_goals
      rw [hm] at Hh
      go_enter Try.func26, Try.ntmps26
      go_wp2_with fail
      refine (check2_is Hr (by simp) (by simp [go_sem]) (by simp [go_sem]) (by simp [go_sem]) (by simp [go_sem])).mono ?_
      rintro e w1 ⟨rfl, hb1⟩
      obtain ⟨hc1, hf1, hs1⟩ := bk (w.heap.size + 1 + 1) hb1 (by simp)
      first | rw [er_t] | rw [er_f]
      go_wp2_with fail
      go_ret
      rw [Hh.out]
      exact ⟨rfl, (by repeat (first | exact Below.refl _ _ | assumption | refine below_drewN ?_ _ | refine Below.drew ?_ | refine Below.alloc ?_ (by first | exact Nat.le_refl _ | (simp; done) | (simp; omega) | omega) _ | refine Below.setCell ?_ (by first | exact Nat.le_refl _ | (simp; done) | (simp; omega) | omega) _ | refine Below.trans ?_ (Below.mono (by assumption) (by first | exact Nat.le_refl _ | (simp; done) | (simp; omega) | omega))))⟩

set_option maxHeartbeats 400000 in
theorem join_no {av am bv bm : BitVec 64} (hr : Hid ((eqb (band av am) zero && eqb (band bv bm) zero) = false)) (w : World) :
    Calls Try.prog 13 #[Bt av am, Bt bv bm] w fun e w' => e = .returned (.tuple #[Bt zero zero, N 1]) ∧ Below w.heap.size w w' := by
  go_enter Try.func13, Try.ntmps13
  go_wp2_with fail
  refine (check2_is hr (by simp) (by simp [go_sem]) (by simp [go_sem]) (by simp [go_sem]) (by simp [go_sem])).mono ?_
  rintro e w1 ⟨rfl, hb1⟩
  obtain ⟨hc1, hf1, hs1⟩ := bk (w.heap.size + 1 + 1 + 1) hb1 (by simp)
  first | rw [er_t] | rw [er_f]
  go_wp2_with fail
  exact bodyPost_ret (v := .tuple #[Bt zero zero, N 1]) (by simp [results, Try.results13, go_sem, hc1, nv_zero]) rfl ⟨rfl, (by repeat (first | exact Below.refl _ _ | assumption | refine below_drewN ?_ _ | refine Below.drew ?_ | refine Below.alloc ?_ (by first | exact Nat.le_refl _ | (simp; done) | (simp; omega) | omega) _ | refine Below.setCell ?_ (by first | exact Nat.le_refl _ | (simp; done) | (simp; omega) | omega) _ | refine Below.trans ?_ (Below.mono (by assumption) (by first | exact Nat.le_refl _ | (simp; done) | (simp; omega) | omega))))⟩
def jM (av am bv bm : BitVec 64) : BitVec 64 := bor (bor am bm) (bxor av bv)
set_option maxHeartbeats 400000 in
theorem join_ok {av am bv bm : BitVec 64} (hr : Hid ((eqb (band av am) zero && eqb (band bv bm) zero) = true)) (w : World) :
    Calls Try.prog 13 #[Bt av am, Bt bv bm] w fun e w' => e = .returned (.tuple #[Bt (bandn av (jM av am bv bm)) (jM av am bv bm), N 0]) ∧ Below w.heap.size w w' := by
  go_enter Try.func13, Try.ntmps13
  go_wp2_with fail
  refine (check2_is hr (by simp) (by simp [go_sem]) (by simp [go_sem]) (by simp [go_sem]) (by simp [go_sem])).mono ?_
  rintro e w1 ⟨rfl, hb1⟩
  obtain ⟨hc1, hf1, hs1⟩ := bk (w.heap.size + 1 + 1 + 1) hb1 (by simp)
  first | rw [er_t] | rw [er_f]
  go_wp2_with fail
  refine (without_any _ _ _).mono ?_
  rintro e w2 ⟨rfl, hb2⟩
  obtain ⟨hc2, hf2, hs2⟩ := bk (w.heap.size + 1 + 1 + 1) hb2 (by omega)
  go_wp2_with fail
  exact bodyPost_ret (v := .tuple #[Bt (bandn av (jM av am bv bm)) (jM av am bv bm), N 0]) (by simp [results, Try.results13, go_sem, hc1, hc2, jM]) rfl ⟨rfl, (by repeat (first | exact Below.refl _ _ | assumption | refine below_drewN ?_ _ | refine Below.drew ?_ | refine Below.alloc ?_ (by first | exact Nat.le_refl _ | (simp; done) | (simp; omega) | omega) _ | refine Below.setCell ?_ (by first | exact Nat.le_refl _ | (simp; done) | (simp; omega) | omega) _ | refine Below.trans ?_ (Below.mono (by assumption) (by first | exact Nat.le_refl _ | (simp; done) | (simp; omega) | omega))))⟩

set_option maxHeartbeats 400000 in
theorem meet_wrong {av am bv bm : BitVec 64} (hr : Hid ((eqb (band av am) zero && eqb (band bv bm) zero) = false)) (w : World) :
    Calls Try.prog 14 #[Bt av am, Bt bv bm] w fun e w' => e = .returned (.tuple #[Bt zero zero, .bool false, N 1]) ∧ Below w.heap.size w w' := by
  go_enter Try.func14, Try.ntmps14
  go_wp2_with fail
  refine (check2_is hr (by simp) (by simp [go_sem]) (by simp [go_sem]) (by simp [go_sem]) (by simp [go_sem])).mono ?_
  rintro e w1 ⟨rfl, hb1⟩
  obtain ⟨hc1, hf1, hs1⟩ := bk (w.heap.size + 1 + 1 + 1) hb1 (by simp)
  first | rw [er_t] | rw [er_f]
  go_wp2_with fail
  exact bodyPost_ret (v := .tuple #[Bt zero zero, .bool false, N 1]) (by simp [results, Try.results14, go_sem, hc1, nv_zero]) rfl ⟨rfl, (by repeat (first | exact Below.refl _ _ | assumption | refine below_drewN ?_ _ | refine Below.drew ?_ | refine Below.alloc ?_ (by first | exact Nat.le_refl _ | (simp; done) | (simp; omega) | omega) _ | refine Below.setCell ?_ (by first | exact Nat.le_refl _ | (simp; done) | (simp; omega) | omega) _ | refine Below.trans ?_ (Below.mono (by assumption) (by first | exact Nat.le_refl _ | (simp; done) | (simp; omega) | omega))))⟩
set_option maxHeartbeats 400000 in
theorem meet_no {av am bv bm : BitVec 64} (hr : Hid ((eqb (band av am) zero && eqb (band bv bm) zero) = true)) (hm : eqb (bandn (bxor av bv) (bor am bm)) zero = false) (w : World) :
    Calls Try.prog 14 #[Bt av am, Bt bv bm] w fun e w' => e = .returned (.tuple #[Bt zero zero, .bool false, N 0]) ∧ Below w.heap.size w w' := by
  go_enter Try.func14, Try.ntmps14
  go_wp2_with fail
  refine (check2_is hr (by simp) (by simp [go_sem]) (by simp [go_sem]) (by simp [go_sem]) (by simp [go_sem])).mono ?_
  rintro e w1 ⟨rfl, hb1⟩
  obtain ⟨hc1, hf1, hs1⟩ := bk (w.heap.size + 1 + 1 + 1) hb1 (by simp)
  first | rw [er_t] | rw [er_f]
  go_wp2_with fail
  exact bodyPost_ret (v := .tuple #[Bt zero zero, .bool false, N 0]) (by simp [results, Try.results14, go_sem, hc1, nv_zero]) rfl ⟨rfl, (by repeat (first | exact Below.refl _ _ | assumption | refine below_drewN ?_ _ | refine Below.drew ?_ | refine Below.alloc ?_ (by first | exact Nat.le_refl _ | (simp; done) | (simp; omega) | omega) _ | refine Below.setCell ?_ (by first | exact Nat.le_refl _ | (simp; done) | (simp; omega) | omega) _ | refine Below.trans ?_ (Below.mono (by assumption) (by first | exact Nat.le_refl _ | (simp; done) | (simp; omega) | omega))))⟩
set_option maxHeartbeats 400000 in
theorem meet_ok {av am bv bm : BitVec 64} (hr : Hid ((eqb (band av am) zero && eqb (band bv bm) zero) = true)) (hm : eqb (bandn (bxor av bv) (bor am bm)) zero = true) (w : World) :
    Calls Try.prog 14 #[Bt av am, Bt bv bm] w fun e w' => e = .returned (.tuple #[Bt (bor av bv) (band am bm), .bool true, N 0]) ∧ Below w.heap.size w w' := by
  go_enter Try.func14, Try.ntmps14
  go_wp2_with fail
  refine (check2_is hr (by simp) (by simp [go_sem]) (by simp [go_sem]) (by simp [go_sem]) (by simp [go_sem])).mono ?_
  rintro e w1 ⟨rfl, hb1⟩
  obtain ⟨hc1, hf1, hs1⟩ := bk (w.heap.size + 1 + 1 + 1) hb1 (by simp)
  first | rw [er_t] | rw [er_f]
  go_wp2_with fail
  exact bodyPost_ret (v := .tuple #[Bt (bor av bv) (band am bm), .bool true, N 0]) (by simp [results, Try.results14, go_sem, hc1]) rfl ⟨rfl, (by repeat (first | exact Below.refl _ _ | assumption | refine below_drewN ?_ _ | refine Below.drew ?_ | refine Below.alloc ?_ (by first | exact Nat.le_refl _ | (simp; done) | (simp; omega) | omega) _ | refine Below.setCell ?_ (by first | exact Nat.le_refl _ | (simp; done) | (simp; omega) | omega) _ | refine Below.trans ?_ (Below.mono (by assumption) (by first | exact Nat.le_refl _ | (simp; done) | (simp; omega) | omega))))⟩

end Go.Proofs.Ytglollajdjgciaa
