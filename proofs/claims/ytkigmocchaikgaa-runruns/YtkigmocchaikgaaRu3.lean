import Derived.Test.YtkigmocchaikgaaRu2
import Derived.Lib.BitFns
import Derived.Test.YtkigmocchaikgaaRu1
import Derived.Test.YtkigmocchaikgaaProg
/- The contracts of the reference's InsideBits and BitsHave. -/
namespace Go.Proofs.Ytkigmocchaikgaa
open Go.RowKit
attribute [local go_sem] w_and w_or w_xor w_andNot w_and1 w_and63 w_add w_sub w_mul w_sub1 w_add1 w_shl w_shl1 w_shr c_beq c_bne c_beq0 c_bne0 c_beq1 c_bne1 wrap_nv

def hasB (v m x : BitVec 64) : Bool := eqb (band v m) zero && eqb (bandn x m) v
set_option maxHeartbeats 400000 in
theorem bitsHave_any (v m x : BitVec 64) (w : World) :
    Calls Try.prog 25 #[Bt v m, U x] w fun e w' => e = .returned (.bool (hasB v m x)) ∧ Below w.heap.size w w' := by
  have Hh : Hid (hasB v m x = (eqb (band v m) zero && eqb (bandn x m) v)) := rfl
  cases hr : eqb (band v m) zero
  all_goals
    rw [hr] at Hh
    have Hr : Hid (eqb (band v m) zero = _) := hr
    clear hr
    go_enter Try.func25, Try.ntmps25
    go_wp2_with fail
    refine (right_is Hr.out _).mono ?_
    rintro e w1 ⟨rfl, hb1⟩
    obtain ⟨hc1, hf1, hs1⟩ := bk (w.heap.size + 1) hb1 (by simp)
    go_wp2_with fail
    go_ret
    rw [Hh.out]
    exact ⟨rfl, (by repeat (first | exact Below.refl _ _ | assumption | refine below_drewN ?_ _ | refine Below.drew ?_ | refine Below.alloc ?_ (by first | exact Nat.le_refl _ | (simp; done) | (simp; omega) | omega) _ | refine Below.setCell ?_ (by first | exact Nat.le_refl _ | (simp; done) | (simp; omega) | omega) _ | refine Below.trans ?_ (Below.mono (by assumption) (by first | exact Nat.le_refl _ | (simp; done) | (simp; omega) | omega))))⟩

set_option maxHeartbeats 600000 in
theorem insideBits_wrong (av am bv bm : BitVec 64) (hr : (eqb (band av am) zero && eqb (band bv bm) zero) = false) (w : World) :
    Calls Try.prog 27 #[Bt av am, Bt bv bm] w fun e w' => e = .returned (.bool false) ∧ Below w.heap.size w w' := by
  cases ha : eqb (band av am) zero
  · have Ha : Hid (eqb (band av am) zero = _) := ha
    clear hr ha
    go_enter Try.func27, Try.ntmps27
    go_wp2_with fail
    refine (right_is Ha.out _).mono ?_
    rintro e w1 ⟨rfl, hb1⟩
    obtain ⟨hc1, hf1, hs1⟩ := bk (w.heap.size + 1 + 1) hb1 (by simp)
    go_wp2_with fail
    go_ret
    exact ⟨rfl, (by repeat (first | exact Below.refl _ _ | assumption | refine below_drewN ?_ _ | refine Below.drew ?_ | refine Below.alloc ?_ (by first | exact Nat.le_refl _ | (simp; done) | (simp; omega) | omega) _ | refine Below.setCell ?_ (by first | exact Nat.le_refl _ | (simp; done) | (simp; omega) | omega) _ | refine Below.trans ?_ (Below.mono (by assumption) (by first | exact Nat.le_refl _ | (simp; done) | (simp; omega) | omega))))⟩
  · rw [ha, Bool.true_and] at hr
    have Ha : Hid (eqb (band av am) zero = _) := ha
    have Hb : Hid (eqb (band bv bm) zero = _) := hr
    clear hr ha
    go_enter Try.func27, Try.ntmps27
    go_wp2_with fail
    refine (right_is Ha.out _).mono ?_
    rintro e w1 ⟨rfl, hb1⟩
    obtain ⟨hc1, hf1, hs1⟩ := bk (w.heap.size + 1 + 1) hb1 (by simp)
    go_wp2_with fail
    refine (right_is Hb.out _).mono ?_
    rintro e w2 ⟨rfl, hb2⟩
    obtain ⟨hc2, hf2, hs2⟩ := bk (w.heap.size + 1 + 1) hb2 hs1
    go_wp2_with fail
    go_ret
    exact ⟨rfl, (by repeat (first | exact Below.refl _ _ | assumption | refine below_drewN ?_ _ | refine Below.drew ?_ | refine Below.alloc ?_ (by first | exact Nat.le_refl _ | (simp; done) | (simp; omega) | omega) _ | refine Below.setCell ?_ (by first | exact Nat.le_refl _ | (simp; done) | (simp; omega) | omega) _ | refine Below.trans ?_ (Below.mono (by assumption) (by first | exact Nat.le_refl _ | (simp; done) | (simp; omega) | omega))))⟩

set_option maxHeartbeats 600000 in
theorem insideBits_yes (av am bv bm : BitVec 64) (ha : Hid (eqb (band av am) zero = true)) (hb : Hid (eqb (band bv bm) zero = true)) (hok : Hid (∀ j, j < 64 → insOk av am bv bm j = true)) (w : World) :
    Calls Try.prog 27 #[Bt av am, Bt bv bm] w fun e w' => e = .returned (.bool true) ∧ Below w.heap.size w w' := by
  go_enter Try.func27, Try.ntmps27
  go_wp2_with fail
  refine (right_is ha.out _).mono ?_
  rintro e w1 ⟨rfl, hb1⟩
  obtain ⟨hc1, hf1, hs1⟩ := bk (w.heap.size + 1 + 1) hb1 (by simp)
  go_wp2_with fail
  refine (right_is hb.out _).mono ?_
  rintro e w2 ⟨rfl, hb2⟩
  obtain ⟨hc2, hf2, hs2⟩ := bk (w.heap.size + 1 + 1) hb2 hs1
  go_wp2_with fail
  have hst : Below (w.heap.size + 1 + 1) ((w.alloc (.cells #[U av, U am] 24)).alloc (.cells #[U bv, U bm] 24)) w2 := (hb1.mono (by simp)).trans (hb2.mono hs1)
  clear hb1 hb2 hc1 hf1 hc2 hf2 hs1
  go_loopw [5] (fun i wr => ∃ k : Nat, k ≤ 64 ∧ i = N k
      ∧ Below (w.heap.size + 1 + 1) ((w.alloc (.cells #[U av, U am] 24)).alloc (.cells #[U bv, U bm] 24)) wr
      ∧ w.heap.size + 1 + 1 ≤ wr.heap.size) (fun i _ => 64 - (intOf i).toNat)
  case atStart => exact ⟨0, by omega, rfl, hst, hs2⟩
  case round =>
    clear hst hs2
    obtain ⟨k, hk, rfl, hbel, hsz⟩ := hrel
    obtain ⟨hc, hf⟩ := bl hbel
    by_cases hlt : k < 64
    · obtain ⟨z1, o1, H1, H2⟩ := may_eq av am k
      obtain ⟨z2, o2, H3, H4⟩ := may_eq bv bm k
      have Hok : Hid ((!(z1 && !z2) && !(o1 && !o2)) = true) := by rw [H1.out, H2.out, H3.out, H4.out]; exact hok.out k hlt
      go_wp2_with fail
      refine (may_any hlt H1 H2 _).mono ?_
      rintro e w1 ⟨rfl, hb1⟩
      obtain ⟨hc1, hf1, hs1⟩ := bk _ hb1 hsz
      go_wp2_with fail
      refine (may_any hlt H3 H4 _).mono ?_
      rintro e w2 ⟨rfl, hb2⟩
      obtain ⟨hc2, hf2, hs2⟩ := bk _ hb2 hs1
      cases z1 <;> cases o1 <;> cases z2 <;> cases o2 <;> first
        | exact absurd Hok.out (by decide)
        | (clear Hok
           go_wp2_with fail
           exact ⟨⟨k + 1, by omega, by go_num, (hbel.trans (hb1.mono hsz)).trans (hb2.mono hs1), hs2⟩, by simp [intOf]; omega⟩)
    · have hk64 : k = 64 := by omega
      subst hk64
      go_wp2_with fail
      go_ret
      exact ⟨rfl, (by repeat (first | exact Below.refl _ _ | assumption | refine below_drewN ?_ _ | refine Below.drew ?_ | refine Below.alloc ?_ (by first | exact Nat.le_refl _ | (simp; done) | (simp; omega) | omega) _ | refine Below.setCell ?_ (by first | exact Nat.le_refl _ | (simp; done) | (simp; omega) | omega) _ | refine Below.trans ?_ (Below.mono (by assumption) (by first | exact Nat.le_refl _ | (simp; done) | (simp; omega) | omega))))⟩

set_option maxHeartbeats 600000 in
theorem insideBits_no (av am bv bm : BitVec 64) (ha : Hid (eqb (band av am) zero = true)) (hb : Hid (eqb (band bv bm) zero = true)) (j0 : Nat) (hj : j0 < 64) (hno : Hid (insOk av am bv bm j0 = false))
    (hok : Hid (∀ j, j < j0 → insOk av am bv bm j = true)) (w : World) :
    Calls Try.prog 27 #[Bt av am, Bt bv bm] w fun e w' => e = .returned (.bool false) ∧ Below w.heap.size w w' := by
  go_enter Try.func27, Try.ntmps27
  go_wp2_with fail
  refine (right_is ha.out _).mono ?_
  rintro e w1 ⟨rfl, hb1⟩
  obtain ⟨hc1, hf1, hs1⟩ := bk (w.heap.size + 1 + 1) hb1 (by simp)
  go_wp2_with fail
  refine (right_is hb.out _).mono ?_
  rintro e w2 ⟨rfl, hb2⟩
  obtain ⟨hc2, hf2, hs2⟩ := bk (w.heap.size + 1 + 1) hb2 hs1
  go_wp2_with fail
  have hst : Below (w.heap.size + 1 + 1) ((w.alloc (.cells #[U av, U am] 24)).alloc (.cells #[U bv, U bm] 24)) w2 := (hb1.mono (by simp)).trans (hb2.mono hs1)
  clear hb1 hb2 hc1 hf1 hc2 hf2 hs1
  go_loopw [5] (fun i wr => ∃ k : Nat, k ≤ j0 ∧ i = N k
      ∧ Below (w.heap.size + 1 + 1) ((w.alloc (.cells #[U av, U am] 24)).alloc (.cells #[U bv, U bm] 24)) wr
      ∧ w.heap.size + 1 + 1 ≤ wr.heap.size) (fun i _ => 64 - (intOf i).toNat)
  case atStart => exact ⟨0, by omega, rfl, hst, hs2⟩
  case round =>
    clear hst hs2
    obtain ⟨k, hk, rfl, hbel, hsz⟩ := hrel
    obtain ⟨hc, hf⟩ := bl hbel
    have hlt : k < 64 := by omega
    obtain ⟨z1, o1, H1, H2⟩ := may_eq av am k
    obtain ⟨z2, o2, H3, H4⟩ := may_eq bv bm k
    by_cases hlj : k < j0
    · have Hok : Hid ((!(z1 && !z2) && !(o1 && !o2)) = true) := by rw [H1.out, H2.out, H3.out, H4.out]; exact hok.out k hlj
      go_wp2_with fail
      refine (may_any hlt H1 H2 _).mono ?_
      rintro e w1 ⟨rfl, hb1⟩
      obtain ⟨hc1, hf1, hs1⟩ := bk _ hb1 hsz
      go_wp2_with fail
      refine (may_any hlt H3 H4 _).mono ?_
      rintro e w2 ⟨rfl, hb2⟩
      obtain ⟨hc2, hf2, hs2⟩ := bk _ hb2 hs1
      cases z1 <;> cases o1 <;> cases z2 <;> cases o2 <;> first
        | exact absurd Hok.out (by decide)
        | (clear Hok
           go_wp2_with fail
           exact ⟨⟨k + 1, by omega, by go_num, (hbel.trans (hb1.mono hsz)).trans (hb2.mono hs1), hs2⟩, by simp [intOf]; omega⟩)
    · have ek : k = j0 := by omega
      have Hno : Hid ((!(z1 && !z2) && !(o1 && !o2)) = false) := by rw [H1.out, H2.out, H3.out, H4.out, ek]; exact hno.out
      clear ek
      go_wp2_with fail
      refine (may_any hlt H1 H2 _).mono ?_
      rintro e w1 ⟨rfl, hb1⟩
      obtain ⟨hc1, hf1, hs1⟩ := bk _ hb1 hsz
      go_wp2_with fail
      refine (may_any hlt H3 H4 _).mono ?_
      rintro e w2 ⟨rfl, hb2⟩
      obtain ⟨hc2, hf2, hs2⟩ := bk _ hb2 hs1
      cases z1 <;> cases o1 <;> cases z2 <;> cases o2 <;> first
        | exact absurd Hno.out (by decide)
        | (clear Hno
           go_wp2_with fail
           go_ret
           exact ⟨rfl, (by repeat (first | exact Below.refl _ _ | assumption | refine below_drewN ?_ _ | refine Below.drew ?_ | refine Below.alloc ?_ (by first | exact Nat.le_refl _ | (simp; done) | (simp; omega) | omega) _ | refine Below.setCell ?_ (by first | exact Nat.le_refl _ | (simp; done) | (simp; omega) | omega) _ | refine Below.trans ?_ (Below.mono (by assumption) (by first | exact Nat.le_refl _ | (simp; done) | (simp; omega) | omega))))⟩)

end Go.Proofs.Ytkigmocchaikgaa

/- The contracts of package bits: checkAll, Check, Has, Inside, Join, Meet, Shift. -/
namespace Go.Proofs.Ytkigmocchaikgaa
open Go.RowKit
attribute [local go_sem] w_and w_or w_xor w_andNot w_and1 w_and63 w_add w_sub w_mul w_sub1 w_add1 w_shl w_shl1 w_shr c_beq c_bne c_beq0 c_bne0 c_beq1 c_bne1 wrap_nv

set_option maxHeartbeats 400000 in
theorem check1_ok (v m : BitVec 64) (b c : Nat) (w : World) (_hbw : b < w.heap.size) (h0 : w.cell? ⟨b, 0, none⟩ = some (U v)) (h1 : w.cell? ⟨b, 1, none⟩ = some (U m)) (hr : eqb (band v m) zero = true) :
    Calls Try.prog 69 #[.slice (some ⟨b, 0, none⟩) 1 c] w fun e w' => e = .returned (N 0) ∧ Below w.heap.size w w' := by
  go_enter Try.func69, Try.ntmps69
  go_wp2
  go_rounds 2
  go_ret
  exact ⟨rfl, (by repeat (first | exact Below.refl _ _ | assumption | refine below_drewN ?_ _ | refine Below.drew ?_ | refine Below.alloc ?_ (by first | exact Nat.le_refl _ | (simp; done) | (simp; omega) | omega) _ | refine Below.setCell ?_ (by first | exact Nat.le_refl _ | (simp; done) | (simp; omega) | omega) _ | refine Below.trans ?_ (Below.mono (by assumption) (by first | exact Nat.le_refl _ | (simp; done) | (simp; omega) | omega))))⟩
set_option maxHeartbeats 400000 in
theorem check1_no (v m : BitVec 64) (b c : Nat) (w : World) (_hbw : b < w.heap.size) (h0 : w.cell? ⟨b, 0, none⟩ = some (U v)) (h1 : w.cell? ⟨b, 1, none⟩ = some (U m)) (hr : eqb (band v m) zero = false) :
    Calls Try.prog 69 #[.slice (some ⟨b, 0, none⟩) 1 c] w fun e w' => e = .returned (N 1) ∧ Below w.heap.size w w' := by
  go_enter Try.func69, Try.ntmps69
  go_wp2
  go_rounds 1
  go_ret
  exact ⟨rfl, (by repeat (first | exact Below.refl _ _ | assumption | refine below_drewN ?_ _ | refine Below.drew ?_ | refine Below.alloc ?_ (by first | exact Nat.le_refl _ | (simp; done) | (simp; omega) | omega) _ | refine Below.setCell ?_ (by first | exact Nat.le_refl _ | (simp; done) | (simp; omega) | omega) _ | refine Below.trans ?_ (Below.mono (by assumption) (by first | exact Nat.le_refl _ | (simp; done) | (simp; omega) | omega))))⟩
set_option maxHeartbeats 400000 in
theorem check2_ok (v m v' m' : BitVec 64) (b c : Nat) (w : World) (hbw : b < w.heap.size) (h0 : w.cell? ⟨b, 0, none⟩ = some (U v)) (h1 : w.cell? ⟨b, 1, none⟩ = some (U m)) (h2 : w.cell? ⟨b, 2, none⟩ = some (U v')) (h3 : w.cell? ⟨b, 3, none⟩ = some (U m'))
    (hr : eqb (band v m) zero = true) (hr' : eqb (band v' m') zero = true) :
    Calls Try.prog 69 #[.slice (some ⟨b, 0, none⟩) 2 c] w fun e w' => e = .returned (N 0) ∧ Below w.heap.size w w' := by
  go_enter Try.func69, Try.ntmps69
  go_wp2
  refine wp_loop_rounds 3 ?_
  rw [rounds_succ]; go_wp2
  rw [rounds_succ]; go_wp2
  rw [rounds_succ]; go_wp2
  go_ret
  exact ⟨rfl, (by repeat (first | exact Below.refl _ _ | assumption | refine below_drewN ?_ _ | refine Below.drew ?_ | refine Below.alloc ?_ (by first | exact Nat.le_refl _ | (simp; done) | (simp; omega) | omega) _ | refine Below.setCell ?_ (by first | exact Nat.le_refl _ | (simp; done) | (simp; omega) | omega) _ | refine Below.trans ?_ (Below.mono (by assumption) (by first | exact Nat.le_refl _ | (simp; done) | (simp; omega) | omega))))⟩
set_option maxHeartbeats 400000 in
theorem check2_no (v m v' m' : BitVec 64) (b c : Nat) (w : World) (hbw : b < w.heap.size) (h0 : w.cell? ⟨b, 0, none⟩ = some (U v)) (h1 : w.cell? ⟨b, 1, none⟩ = some (U m)) (h2 : w.cell? ⟨b, 2, none⟩ = some (U v')) (h3 : w.cell? ⟨b, 3, none⟩ = some (U m'))
    (hr : (eqb (band v m) zero && eqb (band v' m') zero) = false) :
    Calls Try.prog 69 #[.slice (some ⟨b, 0, none⟩) 2 c] w fun e w' => e = .returned (N 1) ∧ Below w.heap.size w w' := by
  cases hv : eqb (band v m) zero
  · clear hr
    go_enter Try.func69, Try.ntmps69
    go_wp2
    refine wp_loop_rounds 3 ?_
    rw [rounds_succ]; go_wp2
    go_ret
    exact ⟨rfl, (by repeat (first | exact Below.refl _ _ | assumption | refine below_drewN ?_ _ | refine Below.drew ?_ | refine Below.alloc ?_ (by first | exact Nat.le_refl _ | (simp; done) | (simp; omega) | omega) _ | refine Below.setCell ?_ (by first | exact Nat.le_refl _ | (simp; done) | (simp; omega) | omega) _ | refine Below.trans ?_ (Below.mono (by assumption) (by first | exact Nat.le_refl _ | (simp; done) | (simp; omega) | omega))))⟩
  · have hr' : eqb (band v' m') zero = false := by rw [hv] at hr; simpa using hr
    clear hr
    go_enter Try.func69, Try.ntmps69
    go_wp2
    refine wp_loop_rounds 3 ?_
    rw [rounds_succ]; go_wp2
    rw [rounds_succ]; go_wp2
    go_ret
    exact ⟨rfl, (by repeat (first | exact Below.refl _ _ | assumption | refine below_drewN ?_ _ | refine Below.drew ?_ | refine Below.alloc ?_ (by first | exact Nat.le_refl _ | (simp; done) | (simp; omega) | omega) _ | refine Below.setCell ?_ (by first | exact Nat.le_refl _ | (simp; done) | (simp; omega) | omega) _ | refine Below.trans ?_ (Below.mono (by assumption) (by first | exact Nat.le_refl _ | (simp; done) | (simp; omega) | omega))))⟩

/- what 'Check' says -/
def er (b : Bool) : Int := if b then 0 else 1
theorem er_t : er true = 0 := rfl
theorem er_f : er false = 1 := rfl
theorem check1_is {v m : BitVec 64} {r : Bool} (hr : Hid (eqb (band v m) zero = r)) {b c : Nat} {w : World} (hbw : b < w.heap.size) (h0 : w.cell? ⟨b, 0, none⟩ = some (U v)) (h1 : w.cell? ⟨b, 1, none⟩ = some (U m)) :
    Calls Try.prog 69 #[.slice (some ⟨b, 0, none⟩) 1 c] w fun e w' => e = .returned (N (er r)) ∧ Below w.heap.size w w' := by
  cases r
  · exact check1_no v m b c w hbw h0 h1 hr.out
  · exact check1_ok v m b c w hbw h0 h1 hr.out
theorem check2_is {v m v' m' : BitVec 64} {r : Bool} (hr : Hid ((eqb (band v m) zero && eqb (band v' m') zero) = r)) {b c : Nat} {w : World} (hbw : b < w.heap.size) (h0 : w.cell? ⟨b, 0, none⟩ = some (U v)) (h1 : w.cell? ⟨b, 1, none⟩ = some (U m)) (h2 : w.cell? ⟨b, 2, none⟩ = some (U v')) (h3 : w.cell? ⟨b, 3, none⟩ = some (U m')) :
    Calls Try.prog 69 #[.slice (some ⟨b, 0, none⟩) 2 c] w fun e w' => e = .returned (N (er r)) ∧ Below w.heap.size w w' := by
  cases r
  · exact check2_no v m v' m' b c w hbw h0 h1 h2 h3 hr.out
  · have h := hr.out
    rw [Bool.and_eq_true] at h
    exact check2_ok v m v' m' b c w hbw h0 h1 h2 h3 h.1 h.2

set_option maxHeartbeats 400000 in
theorem check_any {v m : BitVec 64} {r : Bool} (hr : Hid (eqb (band v m) zero = r)) (w : World) :
    Calls Try.prog 23 #[Bt v m] w fun e w' => e = .returned (N (er r)) ∧ Below w.heap.size w w' := by
  go_enter Try.func23, Try.ntmps23
  go_wp2_with fail
  refine (check1_is hr (by simp) (by simp [go_sem]) (by simp [go_sem])).mono ?_
  rintro e w1 ⟨rfl, hb1⟩
  go_wp2_with fail
  go_ret
  exact ⟨rfl, (by repeat (first | exact Below.refl _ _ | assumption | refine below_drewN ?_ _ | refine Below.drew ?_ | refine Below.alloc ?_ (by first | exact Nat.le_refl _ | (simp; done) | (simp; omega) | omega) _ | refine Below.setCell ?_ (by first | exact Nat.le_refl _ | (simp; done) | (simp; omega) | omega) _ | refine Below.trans ?_ (Below.mono (by assumption) (by first | exact Nat.le_refl _ | (simp; done) | (simp; omega) | omega))))⟩

set_option maxHeartbeats 400000 in
theorem has_any (v m x : BitVec 64) (w : World) :
    Calls Try.prog 24 #[Bt v m, U x] w fun e w' => e = .returned (.bool (hasB v m x)) ∧ Below w.heap.size w w' := by
  have Hh : Hid (hasB v m x = (eqb (band v m) zero && eqb (bandn x m) v)) := rfl
  cases hr : eqb (band v m) zero
  all_goals
    rw [hr] at Hh
    have Hr : Hid (eqb (band v m) zero = _) := hr
    clear hr
    go_enter Try.func24, Try.ntmps24
    go_wp2_with fail
    refine (check1_is Hr (by simp) (by simp [go_sem]) (by simp [go_sem])).mono ?_
    rintro e w1 ⟨rfl, hb1⟩
    obtain ⟨hc1, hf1, hs1⟩ := bk (w.heap.size + 1) hb1 (by simp)
    first | rw [er_t] | rw [er_f]
    go_wp2_with fail
    go_ret
    rw [Hh.out]
    exact ⟨rfl, (by repeat (first | exact Below.refl _ _ | assumption | refine below_drewN ?_ _ | refine Below.drew ?_ | refine Below.alloc ?_ (by first | exact Nat.le_refl _ | (simp; done) | (simp; omega) | omega) _ | refine Below.setCell ?_ (by first | exact Nat.le_refl _ | (simp; done) | (simp; omega) | omega) _ | refine Below.trans ?_ (Below.mono (by assumption) (by first | exact Nat.le_refl _ | (simp; done) | (simp; omega) | omega))))⟩

def insB (av am bv bm : BitVec 64) : Bool := (eqb (band av am) zero && eqb (band bv bm) zero) && (eqb (bandn am bm) zero && eqb (bandn av bm) bv)
set_option maxHeartbeats 400000 in
theorem inside_any (av am bv bm : BitVec 64) (w : World) :
    Calls Try.prog 26 #[Bt av am, Bt bv bm] w fun e w' => e = .returned (.bool (insB av am bv bm)) ∧ Below w.heap.size w w' := by
  have Hh : Hid (insB av am bv bm = ((eqb (band av am) zero && eqb (band bv bm) zero) && (eqb (bandn am bm) zero && eqb (bandn av bm) bv))) := rfl
  cases hr : (eqb (band av am) zero && eqb (band bv bm) zero)
  · rw [hr] at Hh
    have Hr : Hid _ := hr
    clear hr
    go_enter Try.func26, Try.ntmps26
    go_wp2_with fail
    refine (check2_is Hr (by simp) (by simp [go_sem]) (by simp [go_sem]) (by simp [go_sem]) (by simp [go_sem])).mono ?_
    rintro e w1 ⟨rfl, hb1⟩
    obtain ⟨hc1, hf1, hs1⟩ := bk (w.heap.size + 1 + 1) hb1 (by simp)
    first | rw [er_t] | rw [er_f]
    go_wp2_with fail
    go_ret
    rw [Hh.out]
    exact ⟨rfl, (by repeat (first | exact Below.refl _ _ | assumption | refine below_drewN ?_ _ | refine Below.drew ?_ | refine Below.alloc ?_ (by first | exact Nat.le_refl _ | (simp; done) | (simp; omega) | omega) _ | refine Below.setCell ?_ (by first | exact Nat.le_refl _ | (simp; done) | (simp; omega) | omega) _ | refine Below.trans ?_ (Below.mono (by assumption) (by first | exact Nat.le_refl _ | (simp; done) | (simp; omega) | omega))))⟩
  · rw [hr] at Hh
    have Hr : Hid _ := hr
    clear hr
    cases hm : eqb (bandn am bm) zero
    all_goals
      rw [hm] at Hh
      go_enter Try.func26, Try.ntmps26
      go_wp2_with fail
      refine (check2_is Hr (by simp) (by simp [go_sem]) (by simp [go_sem]) (by simp [go_sem]) (by simp [go_sem])).mono ?_
      rintro e w1 ⟨rfl, hb1⟩
      obtain ⟨hc1, hf1, hs1⟩ := bk (w.heap.size + 1 + 1) hb1 (by simp)
      first | rw [er_t] | rw [er_f]
      go_wp2_with fail
      go_ret
      rw [Hh.out]
      exact ⟨rfl, (by repeat (first | exact Below.refl _ _ | assumption | refine below_drewN ?_ _ | refine Below.drew ?_ | refine Below.alloc ?_ (by first | exact Nat.le_refl _ | (simp; done) | (simp; omega) | omega) _ | refine Below.setCell ?_ (by first | exact Nat.le_refl _ | (simp; done) | (simp; omega) | omega) _ | refine Below.trans ?_ (Below.mono (by assumption) (by first | exact Nat.le_refl _ | (simp; done) | (simp; omega) | omega))))⟩

set_option maxHeartbeats 400000 in
theorem join_no {av am bv bm : BitVec 64} (hr : Hid ((eqb (band av am) zero && eqb (band bv bm) zero) = false)) (w : World) :
    Calls Try.prog 13 #[Bt av am, Bt bv bm] w fun e w' => e = .returned (.tuple #[Bt zero zero, N 1]) ∧ Below w.heap.size w w' := by
  go_enter Try.func13, Try.ntmps13
  go_wp2_with fail
  refine (check2_is hr (by simp) (by simp [go_sem]) (by simp [go_sem]) (by simp [go_sem]) (by simp [go_sem])).mono ?_
  rintro e w1 ⟨rfl, hb1⟩
  obtain ⟨hc1, hf1, hs1⟩ := bk (w.heap.size + 1 + 1 + 1) hb1 (by simp)
  first | rw [er_t] | rw [er_f]
  go_wp2_with fail
  exact bodyPost_ret (v := .tuple #[Bt zero zero, N 1]) (by simp [results, Try.results13, go_sem, hc1, nv_zero]) rfl ⟨rfl, (by repeat (first | exact Below.refl _ _ | assumption | refine below_drewN ?_ _ | refine Below.drew ?_ | refine Below.alloc ?_ (by first | exact Nat.le_refl _ | (simp; done) | (simp; omega) | omega) _ | refine Below.setCell ?_ (by first | exact Nat.le_refl _ | (simp; done) | (simp; omega) | omega) _ | refine Below.trans ?_ (Below.mono (by assumption) (by first | exact Nat.le_refl _ | (simp; done) | (simp; omega) | omega))))⟩
def jM (av am bv bm : BitVec 64) : BitVec 64 := bor (bor am bm) (bxor av bv)
set_option maxHeartbeats 400000 in
theorem join_ok {av am bv bm : BitVec 64} (hr : Hid ((eqb (band av am) zero && eqb (band bv bm) zero) = true)) (w : World) :
    Calls Try.prog 13 #[Bt av am, Bt bv bm] w fun e w' => e = .returned (.tuple #[Bt (bandn av (jM av am bv bm)) (jM av am bv bm), N 0]) ∧ Below w.heap.size w w' := by
  go_enter Try.func13, Try.ntmps13
  go_wp2_with fail
  refine (check2_is hr (by simp) (by simp [go_sem]) (by simp [go_sem]) (by simp [go_sem]) (by simp [go_sem])).mono ?_
  rintro e w1 ⟨rfl, hb1⟩
  obtain ⟨hc1, hf1, hs1⟩ := bk (w.heap.size + 1 + 1 + 1) hb1 (by simp)
  first | rw [er_t] | rw [er_f]
  go_wp2_with fail
  refine (without_any _ _ _).mono ?_
  rintro e w2 ⟨rfl, hb2⟩
  obtain ⟨hc2, hf2, hs2⟩ := bk (w.heap.size + 1 + 1 + 1) hb2 (by omega)
  go_wp2_with fail
  exact bodyPost_ret (v := .tuple #[Bt (bandn av (jM av am bv bm)) (jM av am bv bm), N 0]) (by simp [results, Try.results13, go_sem, hc1, hc2, jM]) rfl ⟨rfl, (by repeat (first | exact Below.refl _ _ | assumption | refine below_drewN ?_ _ | refine Below.drew ?_ | refine Below.alloc ?_ (by first | exact Nat.le_refl _ | (simp; done) | (simp; omega) | omega) _ | refine Below.setCell ?_ (by first | exact Nat.le_refl _ | (simp; done) | (simp; omega) | omega) _ | refine Below.trans ?_ (Below.mono (by assumption) (by first | exact Nat.le_refl _ | (simp; done) | (simp; omega) | omega))))⟩

set_option maxHeartbeats 400000 in
theorem meet_wrong {av am bv bm : BitVec 64} (hr : Hid ((eqb (band av am) zero && eqb (band bv bm) zero) = false)) (w : World) :
    Calls Try.prog 14 #[Bt av am, Bt bv bm] w fun e w' => e = .returned (.tuple #[Bt zero zero, .bool false, N 1]) ∧ Below w.heap.size w w' := by
  go_enter Try.func14, Try.ntmps14
  go_wp2_with fail
  refine (check2_is hr (by simp) (by simp [go_sem]) (by simp [go_sem]) (by simp [go_sem]) (by simp [go_sem])).mono ?_
  rintro e w1 ⟨rfl, hb1⟩
  obtain ⟨hc1, hf1, hs1⟩ := bk (w.heap.size + 1 + 1 + 1) hb1 (by simp)
  first | rw [er_t] | rw [er_f]
  go_wp2_with fail
  exact bodyPost_ret (v := .tuple #[Bt zero zero, .bool false, N 1]) (by simp [results, Try.results14, go_sem, hc1, nv_zero]) rfl ⟨rfl, (by repeat (first | exact Below.refl _ _ | assumption | refine below_drewN ?_ _ | refine Below.drew ?_ | refine Below.alloc ?_ (by first | exact Nat.le_refl _ | (simp; done) | (simp; omega) | omega) _ | refine Below.setCell ?_ (by first | exact Nat.le_refl _ | (simp; done) | (simp; omega) | omega) _ | refine Below.trans ?_ (Below.mono (by assumption) (by first | exact Nat.le_refl _ | (simp; done) | (simp; omega) | omega))))⟩
set_option maxHeartbeats 400000 in
theorem meet_no {av am bv bm : BitVec 64} (hr : Hid ((eqb (band av am) zero && eqb (band bv bm) zero) = true)) (hm : eqb (bandn (bxor av bv) (bor am bm)) zero = false) (w : World) :
    Calls Try.prog 14 #[Bt av am, Bt bv bm] w fun e w' => e = .returned (.tuple #[Bt zero zero, .bool false, N 0]) ∧ Below w.heap.size w w' := by
  go_enter Try.func14, Try.ntmps14
  go_wp2_with fail
  refine (check2_is hr (by simp) (by simp [go_sem]) (by simp [go_sem]) (by simp [go_sem]) (by simp [go_sem])).mono ?_
  rintro e w1 ⟨rfl, hb1⟩
  obtain ⟨hc1, hf1, hs1⟩ := bk (w.heap.size + 1 + 1 + 1) hb1 (by simp)
  first | rw [er_t] | rw [er_f]
  go_wp2_with fail
  exact bodyPost_ret (v := .tuple #[Bt zero zero, .bool false, N 0]) (by simp [results, Try.results14, go_sem, hc1, nv_zero]) rfl ⟨rfl, (by repeat (first | exact Below.refl _ _ | assumption | refine below_drewN ?_ _ | refine Below.drew ?_ | refine Below.alloc ?_ (by first | exact Nat.le_refl _ | (simp; done) | (simp; omega) | omega) _ | refine Below.setCell ?_ (by first | exact Nat.le_refl _ | (simp; done) | (simp; omega) | omega) _ | refine Below.trans ?_ (Below.mono (by assumption) (by first | exact Nat.le_refl _ | (simp; done) | (simp; omega) | omega))))⟩
set_option maxHeartbeats 400000 in
theorem meet_ok {av am bv bm : BitVec 64} (hr : Hid ((eqb (band av am) zero && eqb (band bv bm) zero) = true)) (hm : eqb (bandn (bxor av bv) (bor am bm)) zero = true) (w : World) :
    Calls Try.prog 14 #[Bt av am, Bt bv bm] w fun e w' => e = .returned (.tuple #[Bt (bor av bv) (band am bm), .bool true, N 0]) ∧ Below w.heap.size w w' := by
  go_enter Try.func14, Try.ntmps14
  go_wp2_with fail
  refine (check2_is hr (by simp) (by simp [go_sem]) (by simp [go_sem]) (by simp [go_sem]) (by simp [go_sem])).mono ?_
  rintro e w1 ⟨rfl, hb1⟩
  obtain ⟨hc1, hf1, hs1⟩ := bk (w.heap.size + 1 + 1 + 1) hb1 (by simp)
  first | rw [er_t] | rw [er_f]
  go_wp2_with fail
  exact bodyPost_ret (v := .tuple #[Bt (bor av bv) (band am bm), .bool true, N 0]) (by simp [results, Try.results14, go_sem, hc1]) rfl ⟨rfl, (by repeat (first | exact Below.refl _ _ | assumption | refine below_drewN ?_ _ | refine Below.drew ?_ | refine Below.alloc ?_ (by first | exact Nat.le_refl _ | (simp; done) | (simp; omega) | omega) _ | refine Below.setCell ?_ (by first | exact Nat.le_refl _ | (simp; done) | (simp; omega) | omega) _ | refine Below.trans ?_ (Below.mono (by assumption) (by first | exact Nat.le_refl _ | (simp; done) | (simp; omega) | omega))))⟩

end Go.Proofs.Ytkigmocchaikgaa

/- The contract of math/bits.Len64: the number of bits that a number wants. -/
namespace Go.Proofs.Ytkigmocchaikgaa
open Go.RowKit

theorem tab_get (n : Nat) (h : n < Lib.len8tab.size) : ((Lib.len8tab[n]'h).toNat : Int) = Lib.bitLen n := by
  have hn : n < 256 := by have := Lib.len8tab_size; omega
  have e := Lib.len8_eq ⟨n, hn⟩
  simp only [Lib.len8, Int.toNat_natCast] at e
  rw [← e, getElem?_pos Lib.len8tab n h]; rfl

/- a byte b of x that lies s bits up, the highest that is not 0 -/
theorem len_at1 (x : Int) (s d : Nat) (b : Int) (hx0 : 0 ≤ x)  (hd : d = 2 ^ s) (hb : b = x / d) : b.toNat = x.toNat / 2 ^ s := by
  rw [hb, ← hd]
  obtain ⟨X, rfl⟩ := Int.eq_ofNat_of_zero_le hx0
  rw [← Int.natCast_ediv, Int.toNat_natCast, Int.toNat_natCast]
theorem len_at2 (x : Int) (s d : Nat) (b : Int) (hx0 : 0 ≤ x) (hx : x ≤ 18446744073709551615) (hd : d = 2 ^ s)
    (hbn : b.toNat = x.toNat / 2 ^ s) (hlow : s = 0 ∨ (d : Int) ≤ x) : Lib.bitLen x.toNat = s + Lib.bitLen b.toNat := by
  rcases hlow with h0 | h1
  · rw [hbn, h0, Nat.pow_zero, Nat.div_one, Nat.zero_add]
  · rw [hbn]
    exact Lib.bitLen_shift s x.toNat (by rw [← hd]; omega) (by omega)
theorem len_at3 (s q : Nat) (hs : s ≤ 56) (l8 : q ≤ 8) : wrap64 (s + wrap64 q) = ((s + q : Nat) : Int) := by
  unfold wrap64
  omega
theorem len_at (x : Int) (s d : Nat) (b t : Int) (hx0 : 0 ≤ x) (hx : x ≤ 18446744073709551615) (hd : d = 2 ^ s) (hs : s ≤ 56)
    (hb : b = x / d) (hb0 : 0 ≤ b) (hb8 : b ≤ 255) (hlow : s = 0 ∨ (d : Int) ≤ x) (ht : t = (Lib.bitLen b.toNat : Int)) : wrap64 (s + wrap64 t) = (Lib.bitLen x.toNat : Int) := by
  rw [ht, len_at3 s _ hs (Lib.bitLen_le8' b hb0 hb8), len_at2 x s d b hx0 hx hd (len_at1 x s d b hx0 hd hb) hlow]

set_option maxRecDepth 100000 in
set_option maxHeartbeats 4000000 in
theorem len64_any (x : Int) (w : World) (h0 : 0 ≤ x) (h1 : x ≤ 18446744073709551615) :
    Calls Try.prog 72 #[.int .u64 x] w fun e w' => e = .returned (N (Lib.bitLen x.toNat)) ∧ w = w' := by
  have hsz := Lib.len8tab_size
  go_enter Try.func72, Try.ntmps72
  go_wp2
  all_goals go_ret
  all_goals refine ⟨congrArg Ending.returned (congrArg (Value.int IntKind.i64) ?_), rfl⟩
  · exact len_at x 56 72057594037927936 _ _ h0 h1 (by decide) (by omega) (by omega) (by omega) (by omega) (by omega) (tab_get _ _)
  · exact len_at x 48 281474976710656 _ _ h0 h1 (by decide) (by omega) (by omega) (by omega) (by omega) (by omega) (tab_get _ _)
  · exact len_at x 40 1099511627776 _ _ h0 h1 (by decide) (by omega) (by omega) (by omega) (by omega) (by omega) (tab_get _ _)
  · exact len_at x 32 4294967296 _ _ h0 h1 (by decide) (by omega) (by omega) (by omega) (by omega) (by omega) (tab_get _ _)
  · exact len_at x 24 16777216 _ _ h0 h1 (by decide) (by omega) (by omega) (by omega) (by omega) (by omega) (tab_get _ _)
  · exact len_at x 16 65536 _ _ h0 h1 (by decide) (by omega) (by omega) (by omega) (by omega) (by omega) (tab_get _ _)
  · exact len_at x 8 256 _ _ h0 h1 (by decide) (by omega) (by omega) (by omega) (by omega) (by omega) (tab_get _ _)
  · have := len_at x 0 1 x _ h0 h1 (by decide) (by omega) (by omega) (by omega) (by omega) (by omega) (tab_get x.toNat (by omega))
    simpa using this
end Go.Proofs.Ytkigmocchaikgaa

/- The contracts of package bits: Span, add, sub, and, or, mul, Two. -/
namespace Go.Proofs.Ytkigmocchaikgaa
open Go.RowKit
attribute [local go_sem] w_and w_or w_xor w_andNot w_and1 w_and63 w_add w_sub w_mul w_sub1 w_add1 w_shl w_shl1 w_shr c_beq c_bne c_beq0 c_bne0 c_beq1 c_bne1 wrap_nv

def blen (x : BitVec 64) : Nat := Lib.bitLen (nv x).toNat
def lowMask (n : Nat) : BitVec 64 := bsub (bshl one n) one
theorem blen_le (x : BitVec 64) : blen x ≤ 64 := by
  unfold blen nv
  have := x.isLt
  exact Lib.bitLen_le _ 64 (Nat.le_refl _) (by rw [Int.toNat_natCast]; exact this)
theorem len_u (x : BitVec 64) (w : World) : Calls Try.prog 72 #[U x] w fun e w' => e = .returned (N (blen x)) ∧ w = w' :=
  len64_any (nv x) w (nv_nonneg x) (by have := nv_lt x; omega)

set_option maxHeartbeats 400000 in
theorem span_no {l h : BitVec 64} (hl : nv h < nv l) (w : World) :
    Calls Try.prog 16 #[U l, U h] w fun e w' => e = .returned (.tuple #[Bt zero zero, N 3]) ∧ Below w.heap.size w w' := by
  go_enter Try.func16, Try.ntmps16
  go_wp2_with fail
  exact bodyPost_ret (v := .tuple #[Bt zero zero, N 3]) (by simp [results, Try.results16, go_sem, nv_zero]) rfl ⟨rfl, (by repeat (first | exact Below.refl _ _ | assumption | refine below_drewN ?_ _ | refine Below.drew ?_ | refine Below.alloc ?_ (by first | exact Nat.le_refl _ | (simp; done) | (simp; omega) | omega) _ | refine Below.setCell ?_ (by first | exact Nat.le_refl _ | (simp; done) | (simp; omega) | omega) _ | refine Below.trans ?_ (Below.mono (by assumption) (by first | exact Nat.le_refl _ | (simp; done) | (simp; omega) | omega))))⟩
def sM (l h : BitVec 64) : BitVec 64 := lowMask (blen (bxor l h))
set_option maxHeartbeats 400000 in
theorem span_ok {l h : BitVec 64} (hl : nv l ≤ nv h) (w : World) :
    Calls Try.prog 16 #[U l, U h] w fun e w' => e = .returned (.tuple #[Bt (bandn l (sM l h)) (sM l h), N 0]) ∧ Below w.heap.size w w' := by
  have hL := blen_le (bxor l h)
  have Hs : Hid (sM l h = lowMask (blen (bxor l h))) := rfl
  have hc := len_u (bxor l h)
  have Hc : Hid _ := hc
  clear hc
  generalize hx : blen (bxor l h) = L at hL Hs Hc
  clear hx
  go_enter Try.func16, Try.ntmps16
  go_wp2_with fail
  refine (Hc.out _).mono ?_
  rintro e w1 ⟨rfl, rfl⟩
  go_wp2_with fail
  refine (without_any _ _ _).mono ?_
  rintro e w2 ⟨rfl, hb2⟩
  obtain ⟨hc2, hf2, hs2⟩ := bk (w.heap.size + 1) hb2 (by simp)
  go_wp2_with fail
  rw [Hs.out]
  exact bodyPost_ret (v := .tuple #[Bt (bandn l (lowMask L)) (lowMask L), N 0]) (by simp [results, Try.results16, go_sem, hc2, lowMask]) rfl ⟨rfl, (by repeat (first | exact Below.refl _ _ | assumption | refine below_drewN ?_ _ | refine Below.drew ?_ | refine Below.alloc ?_ (by first | exact Nat.le_refl _ | (simp; done) | (simp; omega) | omega) _ | refine Below.setCell ?_ (by first | exact Nat.le_refl _ | (simp; done) | (simp; omega) | omega) _ | refine Below.trans ?_ (Below.mono (by assumption) (by first | exact Nat.le_refl _ | (simp; done) | (simp; omega) | omega))))⟩

/- add, sub, and, or -/
def addM (av am bv bm : BitVec 64) : BitVec 64 := bor (bor (bxor (badd av bv) (badd (badd (badd av bv) am) bm)) am) bm
set_option maxHeartbeats 400000 in
theorem add_any (av am bv bm : BitVec 64) (w : World) :
    Calls Try.prog 76 #[Bt av am, Bt bv bm] w fun e w' => e = .returned (Bt (bandn (badd av bv) (addM av am bv bm)) (addM av am bv bm)) ∧ Below w.heap.size w w' := by
  go_enter Try.func76, Try.ntmps76
  go_wp2_with fail
  refine (without_any _ _ _).mono ?_
  rintro e w2 ⟨rfl, hb2⟩
  obtain ⟨hc2, hf2, hs2⟩ := bk (w.heap.size + 1 + 1 + 1) hb2 (by simp)
  go_wp2_with fail
  exact bodyPost_ret (v := Bt (bandn (badd av bv) (addM av am bv bm)) (addM av am bv bm)) (by simp [results, Try.results76, go_sem, hc2, addM]) rfl ⟨rfl, (by repeat (first | exact Below.refl _ _ | assumption | refine below_drewN ?_ _ | refine Below.drew ?_ | refine Below.alloc ?_ (by first | exact Nat.le_refl _ | (simp; done) | (simp; omega) | omega) _ | refine Below.setCell ?_ (by first | exact Nat.le_refl _ | (simp; done) | (simp; omega) | omega) _ | refine Below.trans ?_ (Below.mono (by assumption) (by first | exact Nat.le_refl _ | (simp; done) | (simp; omega) | omega))))⟩
def subM (av am bv bm : BitVec 64) : BitVec 64 := bor (bor (bxor (badd (bsub av bv) am) (bsub (bsub av bv) bm)) am) bm
set_option maxHeartbeats 400000 in
theorem sub_any (av am bv bm : BitVec 64) (w : World) :
    Calls Try.prog 77 #[Bt av am, Bt bv bm] w fun e w' => e = .returned (Bt (bandn (bsub av bv) (subM av am bv bm)) (subM av am bv bm)) ∧ Below w.heap.size w w' := by
  go_enter Try.func77, Try.ntmps77
  go_wp2_with fail
  refine (without_any _ _ _).mono ?_
  rintro e w2 ⟨rfl, hb2⟩
  obtain ⟨hc2, hf2, hs2⟩ := bk (w.heap.size + 1 + 1 + 1) hb2 (by simp)
  go_wp2_with fail
  exact bodyPost_ret (v := Bt (bandn (bsub av bv) (subM av am bv bm)) (subM av am bv bm)) (by simp [results, Try.results77, go_sem, hc2, subM]) rfl ⟨rfl, (by repeat (first | exact Below.refl _ _ | assumption | refine below_drewN ?_ _ | refine Below.drew ?_ | refine Below.alloc ?_ (by first | exact Nat.le_refl _ | (simp; done) | (simp; omega) | omega) _ | refine Below.setCell ?_ (by first | exact Nat.le_refl _ | (simp; done) | (simp; omega) | omega) _ | refine Below.trans ?_ (Below.mono (by assumption) (by first | exact Nat.le_refl _ | (simp; done) | (simp; omega) | omega))))⟩
set_option maxHeartbeats 400000 in
theorem and_any (av am bv bm : BitVec 64) (w : World) :
    Calls Try.prog 79 #[Bt av am, Bt bv bm] w fun e w' => e = .returned (Bt (band av bv) (bandn (band (bor av am) (bor bv bm)) (band av bv))) ∧ Below w.heap.size w w' := by
  go_enter Try.func79, Try.ntmps79
  go_wp2
  exact bodyPost_ret (v := Bt (band av bv) (bandn (band (bor av am) (bor bv bm)) (band av bv))) (by simp [results, Try.results79, go_sem]) rfl ⟨rfl, (by repeat (first | exact Below.refl _ _ | assumption | refine below_drewN ?_ _ | refine Below.drew ?_ | refine Below.alloc ?_ (by first | exact Nat.le_refl _ | (simp; done) | (simp; omega) | omega) _ | refine Below.setCell ?_ (by first | exact Nat.le_refl _ | (simp; done) | (simp; omega) | omega) _ | refine Below.trans ?_ (Below.mono (by assumption) (by first | exact Nat.le_refl _ | (simp; done) | (simp; omega) | omega))))⟩
set_option maxHeartbeats 400000 in
theorem or_any (av am bv bm : BitVec 64) (w : World) :
    Calls Try.prog 80 #[Bt av am, Bt bv bm] w fun e w' => e = .returned (Bt (bor av bv) (bandn (bor am bm) (bor av bv))) ∧ Below w.heap.size w w' := by
  go_enter Try.func80, Try.ntmps80
  go_wp2
  exact bodyPost_ret (v := Bt (bor av bv) (bandn (bor am bm) (bor av bv))) (by simp [results, Try.results80, go_sem]) rfl ⟨rfl, (by repeat (first | exact Below.refl _ _ | assumption | refine below_drewN ?_ _ | refine Below.drew ?_ | refine Below.alloc ?_ (by first | exact Nat.le_refl _ | (simp; done) | (simp; omega) | omega) _ | refine Below.setCell ?_ (by first | exact Nat.le_refl _ | (simp; done) | (simp; omega) | omega) _ | refine Below.trans ?_ (Below.mono (by assumption) (by first | exact Nat.le_refl _ | (simp; done) | (simp; omega) | omega))))⟩

end Go.Proofs.Ytkigmocchaikgaa

/- The contracts of package bits: mul, Two. -/
namespace Go.Proofs.Ytkigmocchaikgaa
open Go.RowKit
attribute [local go_sem] w_and w_or w_xor w_andNot w_and1 w_and63 w_add w_sub w_mul w_sub1 w_add1 w_shl w_shl1 w_shr c_beq c_bne c_beq0 c_bne0 c_beq1 c_bne1 wrap_nv

def addP (a b : BitVec 64 × BitVec 64) : BitVec 64 × BitVec 64 := (bandn (badd a.1 b.1) (addM a.1 a.2 b.1 b.2), addM a.1 a.2 b.1 b.2)
def mulS (av am bv bm : BitVec 64) : Nat → BitVec 64 × BitVec 64
  | 0 => (zero, zero)
  | k + 1 => if bit av k then addP (mulS av am bv bm k) (bshl bv k, bshl bm k)
    else if bit am k then addP (mulS av am bv bm k) (zero, bor (bshl bv k) (bshl bm k)) else mulS av am bv bm k

set_option maxHeartbeats 1000000 in
theorem mul_any (av am bv bm : BitVec 64) (w : World) :
    Calls Try.prog 78 #[Bt av am, Bt bv bm] w fun e w' => e = .returned (Bt (mulS av am bv bm 64).1 (mulS av am bv bm 64).2) ∧ Below w.heap.size w w' := by
  go_enter Try.func78, Try.ntmps78
  go_wp2
  go_loopw [6] (fun i wr => ∃ k : Nat, k ≤ 64 ∧ i = .int .u64 k
      ∧ Below (w.heap.size + 1 + 1 + 1) (((w.alloc (.cells #[U av, U am] 24)).alloc (.cells #[U bv, U bm] 24)).alloc (.cells #[.int .u64 0, .int .u64 0] 24)) wr
      ∧ wr.cell? ⟨w.heap.size + 1 + 1 + 1, 0, none⟩ = some (U (mulS av am bv bm k).1) ∧ wr.cell? ⟨w.heap.size + 1 + 1 + 1, 1, none⟩ = some (U (mulS av am bv bm k).2)
      ∧ (∀ o, wr.frozen? ⟨w.heap.size + 1 + 1 + 1, o, none⟩ = false)
      ∧ w.heap.size + 1 + 1 + 1 + 1 ≤ wr.heap.size) (fun i _ => 64 - (intOf i).toNat)
  case atStart =>
    exact ⟨0, by omega, rfl, (by repeat (first | exact Below.refl _ _ | assumption | refine below_drewN ?_ _ | refine Below.drew ?_ | refine Below.alloc ?_ (by first | exact Nat.le_refl _ | (simp; done) | (simp; omega) | omega) _ | refine Below.setCell ?_ (by first | exact Nat.le_refl _ | (simp; done) | (simp; omega) | omega) _ | refine Below.trans ?_ (Below.mono (by assumption) (by first | exact Nat.le_refl _ | (simp; done) | (simp; omega) | omega)))), by simp [mulS, nv_zero, go_sem], by simp [mulS, nv_zero, go_sem], by simp [go_sem], by simp⟩
  case round =>
    obtain ⟨k, hk, rfl, hbel, ho0, ho1, hfo, hsz⟩ := hrel
    obtain ⟨hc, hf⟩ := bl hbel
    by_cases hlt : k < 64
    · have hA := shr_and1 av k
      have hM := shr_and1 am k
      have Hs : Hid (mulS av am bv bm (k + 1) = if bit av k then addP (mulS av am bv bm k) (bshl bv k, bshl bm k)
        else if bit am k then addP (mulS av am bv bm k) (zero, bor (bshl bv k) (bshl bm k)) else mulS av am bv bm k) := rfl
      generalize mulS av am bv bm k = S at ho0 ho1 Hs
      obtain ⟨sv, sm⟩ := S
      simp only at ho0 ho1
      obtain ⟨bA, hbA⟩ : ∃ b, b = bit av k := ⟨_, rfl⟩
      obtain ⟨bM, hbM⟩ : ∃ b, b = bit am k := ⟨_, rfl⟩
      rw [← hbA] at hA Hs
      rw [← hbM] at hM Hs
      clear hbA hbM
      go_wp2_with fail
      refine (up_any _ _ k hlt _).mono ?_
      rintro e w1 ⟨rfl, hb1⟩
      obtain ⟨hc1, hf1, hs1⟩ := bk _ hb1 hsz
      have hlt1 : w.heap.size + 1 + 1 + 1 < w1.heap.size := by omega
      have hlt2 : w.heap.size + 1 + 1 < w1.heap.size := by omega
      have hlt3 : w.heap.size + 1 < w1.heap.size := by omega
      have hlt4 : w.heap.size < w1.heap.size := by omega
      cases bA
      · cases bM
        · go_wp2_with fail
          exact ⟨⟨k + 1, by omega, by go_num, keep_rel hbel (hb1.trans (((Below.refl _ _).alloc (Nat.le_refl _) _).mono hb1.size)) hsz ho0 ho1 hfo (by rw [Hs.out]; rfl) (by rw [Hs.out]; rfl)⟩, by simp [intOf]; omega⟩
        · go_wp2_with fail
          refine (add_any sv sm zero (bor (bshl bv k) (bshl bm k)) _).mono ?_
          rintro e w2 ⟨rfl, hb2⟩
          obtain ⟨hc2, hf2, hs2⟩ := bk (w.heap.size + 1 + 1 + 1 + 1) hb2 (by simp; omega)
          go_wp2_with fail
          exact ⟨⟨k + 1, by omega, by go_num, out_rel hbel (hb1.trans ((((Below.refl _ _).alloc (Nat.le_refl _) _).trans (hb2.mono (by simp))).mono hb1.size)) hsz ho0 ho1 hfo (by rw [Hs.out]; rfl) (by rw [Hs.out]; rfl)⟩, by simp [intOf]; omega⟩
      · go_wp2_with fail
        refine (add_any _ _ _ _ _).mono ?_
        rintro e w2 ⟨rfl, hb2⟩
        obtain ⟨hc2, hf2, hs2⟩ := bk (w.heap.size + 1 + 1 + 1 + 1) hb2 (by simp; omega)
        go_wp2_with fail
        exact ⟨⟨k + 1, by omega, by go_num, out_rel hbel (hb1.trans ((((Below.refl _ _).alloc (Nat.le_refl _) _).trans (hb2.mono (by simp))).mono hb1.size)) hsz ho0 ho1 hfo (by rw [Hs.out]; rfl) (by rw [Hs.out]; rfl)⟩, by simp [intOf]; omega⟩
    · have hk64 : k = 64 := by omega
      subst hk64
      go_wp2_with fail
      exact bodyPost_ret (v := Bt (mulS av am bv bm 64).1 (mulS av am bv bm 64).2) (by simp [results, Try.results78, go_sem, hc]) rfl ⟨rfl, (by repeat (first | exact Below.refl _ _ | assumption | refine below_drewN ?_ _ | refine Below.drew ?_ | refine Below.alloc ?_ (by first | exact Nat.le_refl _ | (simp; done) | (simp; omega) | omega) _ | refine Below.setCell ?_ (by first | exact Nat.le_refl _ | (simp; done) | (simp; omega) | omega) _ | refine Below.trans ?_ (Below.mono (by assumption) (by first | exact Nat.le_refl _ | (simp; done) | (simp; omega) | omega))))⟩

set_option maxHeartbeats 400000 in
theorem two_wrong {op : Int} {av am bv bm : BitVec 64} (hr : Hid ((eqb (band av am) zero && eqb (band bv bm) zero) = false)) (w : World) :
    Calls Try.prog 28 #[N op, Bt av am, Bt bv bm] w fun e w' => e = .returned (.tuple #[Bt zero zero, N 1]) ∧ Below w.heap.size w w' := by
  go_enter Try.func28, Try.ntmps28
  go_wp2_with fail
  refine (check2_is hr (by simp) (by simp [go_sem]) (by simp [go_sem]) (by simp [go_sem]) (by simp [go_sem])).mono ?_
  rintro e w1 ⟨rfl, hb1⟩
  obtain ⟨hc1, hf1, hs1⟩ := bk (w.heap.size + 1 + 1 + 1) hb1 (by simp)
  first | rw [er_t] | rw [er_f]
  go_wp2_with fail
  exact bodyPost_ret (v := .tuple #[Bt zero zero, N 1]) (by simp [results, Try.results28, go_sem, hc1, nv_zero]) rfl ⟨rfl, (by repeat (first | exact Below.refl _ _ | assumption | refine below_drewN ?_ _ | refine Below.drew ?_ | refine Below.alloc ?_ (by first | exact Nat.le_refl _ | (simp; done) | (simp; omega) | omega) _ | refine Below.setCell ?_ (by first | exact Nat.le_refl _ | (simp; done) | (simp; omega) | omega) _ | refine Below.trans ?_ (Below.mono (by assumption) (by first | exact Nat.le_refl _ | (simp; done) | (simp; omega) | omega))))⟩
set_option maxHeartbeats 400000 in
theorem two_kind {op : Int} {av am bv bm : BitVec 64} (hr : Hid ((eqb (band av am) zero && eqb (band bv bm) zero) = true)) (hop : op < 2 ∨ 7 < op) (w : World) :
    Calls Try.prog 28 #[N op, Bt av am, Bt bv bm] w fun e w' => e = .returned (.tuple #[Bt zero zero, N 4]) ∧ Below w.heap.size w w' := by
  have e2 : (op == 2) = false := by simp; omega
  have e3 : (op == 3) = false := by simp; omega
  have e4 : (op == 4) = false := by simp; omega
  have e5 : (op == 5) = false := by simp; omega
  have e6 : (op == 6) = false := by simp; omega
  have e7 : (op == 7) = false := by simp; omega
  clear hop
  go_enter Try.func28, Try.ntmps28
  go_wp2_with fail
  refine (check2_is hr (by simp) (by simp [go_sem]) (by simp [go_sem]) (by simp [go_sem]) (by simp [go_sem])).mono ?_
  rintro e w1 ⟨rfl, hb1⟩
  obtain ⟨hc1, hf1, hs1⟩ := bk (w.heap.size + 1 + 1 + 1) hb1 (by simp)
  first | rw [er_t] | rw [er_f]
  go_wp2_with fail
  exact bodyPost_ret (v := .tuple #[Bt zero zero, N 4]) (by simp [results, Try.results28, go_sem, hc1, nv_zero]) rfl ⟨rfl, (by repeat (first | exact Below.refl _ _ | assumption | refine below_drewN ?_ _ | refine Below.drew ?_ | refine Below.alloc ?_ (by first | exact Nat.le_refl _ | (simp; done) | (simp; omega) | omega) _ | refine Below.setCell ?_ (by first | exact Nat.le_refl _ | (simp; done) | (simp; omega) | omega) _ | refine Below.trans ?_ (Below.mono (by assumption) (by first | exact Nat.le_refl _ | (simp; done) | (simp; omega) | omega))))⟩
/- what package bits reckons of two pairs -/
def twoP (op : Int) (av am bv bm : BitVec 64) : BitVec 64 × BitVec 64 :=
  if op = 2 then (bandn (badd av bv) (addM av am bv bm), addM av am bv bm)
  else if op = 3 then (bandn (bsub av bv) (subM av am bv bm), subM av am bv bm)
  else if op = 4 then mulS av am bv bm 64
  else if op = 5 then (band av bv, bandn (band (bor av am) (bor bv bm)) (band av bv))
  else if op = 6 then (bor av bv, bandn (bor am bm) (bor av bv))
  else (bandn (bxor av bv) (bor am bm), bor am bm)
theorem op_cases {op : Int} (h : 2 ≤ op ∧ op ≤ 7) : op = 2 ∨ op = 3 ∨ op = 4 ∨ op = 5 ∨ op = 6 ∨ op = 7 := by omega
set_option maxHeartbeats 400000 in
theorem two_ok {op : Int} {av am bv bm : BitVec 64} (hr : Hid ((eqb (band av am) zero && eqb (band bv bm) zero) = true)) (hop : 2 ≤ op ∧ op ≤ 7) (w : World) :
    Calls Try.prog 28 #[N op, Bt av am, Bt bv bm] w fun e w' => e = .returned (.tuple #[Bt (twoP op av am bv bm).1 (twoP op av am bv bm).2, N 0]) ∧ Below w.heap.size w w' := by
  rcases op_cases hop with rfl | rfl | rfl | rfl | rfl | rfl
  all_goals
    clear hop
    go_enter Try.func28, Try.ntmps28
    go_wp2_with fail
    refine (check2_is hr (by simp) (by simp [go_sem]) (by simp [go_sem]) (by simp [go_sem]) (by simp [go_sem])).mono ?_
    rintro e w1 ⟨rfl, hb1⟩
    obtain ⟨hc1, hf1, hs1⟩ := bk (w.heap.size + 1 + 1 + 1) hb1 (by simp)
    first | rw [er_t] | rw [er_f]
    go_wp2_with fail
    first
      | refine (add_any _ _ _ _ _).mono ?_
      | refine (sub_any _ _ _ _ _).mono ?_
      | refine (mul_any _ _ _ _ _).mono ?_
      | refine (and_any _ _ _ _ _).mono ?_
      | refine (or_any _ _ _ _ _).mono ?_
      | refine (without_any _ _ _).mono ?_
    rintro e w2 ⟨rfl, hb2⟩
    obtain ⟨hc2, hf2, hs2⟩ := bk (w.heap.size + 1 + 1 + 1) hb2 hs1
    go_wp2_with fail
    exact bodyPost_ret (v := .tuple #[Bt (twoP _ av am bv bm).1 (twoP _ av am bv bm).2, N 0]) (by simp [results, Try.results28, go_sem, hc1, hc2, twoP]) rfl ⟨rfl, (by repeat (first | exact Below.refl _ _ | assumption | refine below_drewN ?_ _ | refine Below.drew ?_ | refine Below.alloc ?_ (by first | exact Nat.le_refl _ | (simp; done) | (simp; omega) | omega) _ | refine Below.setCell ?_ (by first | exact Nat.le_refl _ | (simp; done) | (simp; omega) | omega) _ | refine Below.trans ?_ (Below.mono (by assumption) (by first | exact Nat.le_refl _ | (simp; done) | (simp; omega) | omega))))⟩

end Go.Proofs.Ytkigmocchaikgaa

/- What the one has and the other has, reckoned together, the answer has: plain facts. -/
namespace Go.Proofs.Ytkigmocchaikgaa

/- x is one of the numbers of (v, m), bit by bit -/
def InB (v m x : BitVec 64) : Prop := ∀ j, j < 64 → (bit x j && !bit m j) = bit v j
def RtB (v m : BitVec 64) : Prop := ∀ j, (bit v j && bit m j) = false

theorem addP_sound {a b : BitVec 64 × BitVec 64} {x y : BitVec 64} (ha : RtB a.1 a.2) (hb : RtB b.1 b.2) (hx : InB a.1 a.2 x) (hy : InB b.1 b.2 y) : InB (addP a b).1 (addP a b).2 (badd x y) :=
  add_sound ha hb hx hy _ rfl
theorem addP_rt (a b : BitVec 64 × BitVec 64) : RtB (addP a b).1 (addP a b).2 := by
  intro j
  by_cases hj : j < 64
  · simp only [addP]; rw [bit_andn _ _ _ hj]; cases bit (badd a.1 b.1) j <;> cases bit (addM a.1 a.2 b.1 b.2) j <;> rfl
  · rw [bit_big _ _ (by omega)]; rfl
theorem mulS_rt (av am bv bm : BitVec 64) (k : Nat) : RtB (mulS av am bv bm k).1 (mulS av am bv bm k).2 := by
  induction k with
  | zero => intro j; simp only [mulS]; rw [bit_zero]; rfl
  | succ k ih =>
    simp only [mulS]
    by_cases h1 : bit av k = true
    · rw [if_pos h1]; exact addP_rt _ _
    · rw [if_neg h1]
      by_cases h2 : bit am k = true
      · rw [if_pos h2]; exact addP_rt _ _
      · rw [if_neg h2]; exact ih
/- the product, summed up bit by bit -/
def psum (x y : BitVec 64) : Nat → BitVec 64
  | 0 => zero
  | k + 1 => if bit x k then badd (psum x y k) (bshl y k) else psum x y k
theorem psum_rec (x y : BitVec 64) (k : Nat) : psum x y (k + 1) = BitVec.mulRec y x k := by
  induction k with
  | zero =>
    simp only [psum]
    rw [BitVec.mulRec_zero_eq]
    unfold bit
    cases x.getLsbD 0 <;> simp [badd, bshl, zero]
  | succ k ih =>
    rw [psum, ih, BitVec.mulRec_succ_eq]
    unfold bit badd bshl
    cases x.getLsbD (k + 1) <;> simp
theorem psum_mul (x y : BitVec 64) : psum x y 64 = bmul x y := by
  rw [psum_rec x y 63, BitVec.mulRec_eq_mul_signExtend_setWidth]
  unfold bmul
  simp [BitVec.mul_comm]
theorem shl_in {v m y : BitVec 64} (h : InB v m y) (k : Nat) : InB (bshl v k) (bshl m k) (bshl y k) := by
  intro j hj
  rw [bit_shl _ _ _ hj, bit_shl _ _ _ hj, bit_shl _ _ _ hj]
  by_cases hk : k ≤ j
  · have := h (j - k) (by omega)
    revert this
    cases bit y (j - k) <;> cases bit m (j - k) <;> cases bit v (j - k) <;> simp [hk]
  · simp [hk]
theorem shl_rt {v m : BitVec 64} (h : RtB v m) (k : Nat) : RtB (bshl v k) (bshl m k) := by
  intro j
  by_cases hj : j < 64
  · rw [bit_shl _ _ _ hj, bit_shl _ _ _ hj]
    have := h (j - k)
    revert this
    cases decide (k ≤ j) <;> cases bit v (j - k) <;> cases bit m (j - k) <;> simp
  · rw [bit_big _ _ (by omega)]; rfl
theorem zero_rt (m : BitVec 64) : RtB zero m := by intro j; rw [bit_zero]; rfl
theorem badd_zero (x : BitVec 64) : badd x zero = x := by unfold badd zero; simp
theorem mulS_sound {av am bv bm x y : BitVec 64} (hb : RtB bv bm) (hx : InB av am x) (hy : InB bv bm y) (k : Nat) (hk : k ≤ 64) : InB (mulS av am bv bm k).1 (mulS av am bv bm k).2 (psum x y k) := by
  induction k with
  | zero => intro j hj; simp only [mulS, psum]; rw [bit_zero]; rfl
  | succ k ih =>
    have ih := ih (by omega)
    have h := hx k (by omega)
    simp only [mulS, psum]
    by_cases h1 : bit av k = true
    · have hxk : bit x k = true := by rw [h1] at h; revert h; cases bit x k <;> simp
      rw [if_pos h1, if_pos hxk]
      exact addP_sound (mulS_rt _ _ _ _ _) (shl_rt hb k) ih (shl_in hy k)
    · rw [if_neg h1]
      by_cases h2 : bit am k = true
      · rw [if_pos h2]
        have hp : ∀ z, (∀ j, j < 64 → bit z j = true → bit (bor (bshl bv k) (bshl bm k)) j = true) → InB zero (bor (bshl bv k) (bshl bm k)) z := by
          intro z hz j hj
          have := hz j hj
          rw [bit_zero]
          revert this
          cases bit z j <;> cases bit (bor (bshl bv k) (bshl bm k)) j <;> simp
        by_cases hxk : bit x k = true
        · rw [if_pos hxk]
          exact addP_sound (mulS_rt _ _ _ _ _) (zero_rt _) ih (hp _ (fun j _ h => hi_of (shl_in hy k) j h))
        · rw [if_neg hxk]
          have := addP_sound (b := (zero, bor (bshl bv k) (bshl bm k))) (mulS_rt av am bv bm k) (zero_rt _) ih (hp zero (fun j _ h => by rw [bit_zero] at h; cases h))
          rw [badd_zero] at this
          exact this
      · rw [if_neg h2]
        have hxk : ¬ bit x k = true := by
          intro hx1; rw [hx1] at h
          revert h h1 h2
          cases bit av k <;> cases bit am k <;> simp
        rw [if_neg hxk]
        exact ih

/- x op y, of the six operations -/
def numB (op : Int) (x y : BitVec 64) : BitVec 64 :=
  if op = 2 then badd x y else if op = 3 then bsub x y else if op = 4 then bmul x y else if op = 5 then band x y else if op = 6 then bor x y else bxor x y
theorem two_sound {op : Int} {av am bv bm x y : BitVec 64} (hop : 2 ≤ op ∧ op ≤ 7) (ha : RtB av am) (hb : RtB bv bm) (hx : InB av am x) (hy : InB bv bm y) :
    InB (twoP op av am bv bm).1 (twoP op av am bv bm).2 (numB op x y) := by
  rcases op_cases hop with rfl | rfl | rfl | rfl | rfl | rfl
  · exact add_sound ha hb hx hy _ rfl
  · exact sub_sound ha hb hx hy _ rfl
  · show InB (mulS av am bv bm 64).1 (mulS av am bv bm 64).2 (bmul x y)
    rw [← psum_mul]
    exact mulS_sound hb hx hy 64 (Nat.le_refl _)
  · intro j hj
    show (bit (band x y) j && !bit (bandn (band (bor av am) (bor bv bm)) (band av bv)) j) = bit (band av bv) j
    rw [bit_andn _ _ _ hj, bit_and', bit_and', bit_and', bit_or, bit_or]
    have h1 := hx j hj; have h2 := hy j hj; have h3 := ha j; have h4 := hb j
    revert h1 h2 h3 h4
    cases bit x j <;> cases bit y j <;> cases bit av j <;> cases bit am j <;> cases bit bv j <;> cases bit bm j <;> simp
  · intro j hj
    show (bit (bor x y) j && !bit (bandn (bor am bm) (bor av bv)) j) = bit (bor av bv) j
    rw [bit_andn _ _ _ hj, bit_or, bit_or, bit_or]
    have h1 := hx j hj; have h2 := hy j hj; have h3 := ha j; have h4 := hb j
    revert h1 h2 h3 h4
    cases bit x j <;> cases bit y j <;> cases bit av j <;> cases bit am j <;> cases bit bv j <;> cases bit bm j <;> simp
  · intro j hj
    show (bit (bxor x y) j && !bit (bor am bm) j) = bit (bandn (bxor av bv) (bor am bm)) j
    rw [bit_andn _ _ _ hj, bit_or, bit_xor, bit_xor]
    have h1 := hx j hj; have h2 := hy j hj; have h3 := ha j; have h4 := hb j
    revert h1 h2 h3 h4
    cases bit x j <;> cases bit y j <;> cases bit av j <;> cases bit am j <;> cases bit bv j <;> cases bit bm j <;> simp
theorem two_rt {op : Int} {av am bv bm : BitVec 64} (hop : 2 ≤ op ∧ op ≤ 7) : RtB (twoP op av am bv bm).1 (twoP op av am bv bm).2 := by
  have hn : ∀ p q : BitVec 64, RtB (bandn p q) q := by
    intro p q j
    by_cases hj : j < 64
    · rw [bit_andn _ _ _ hj]; cases bit p j <;> cases bit q j <;> rfl
    · rw [bit_big _ _ (by omega)]; rfl
  have hn' : ∀ p q : BitVec 64, RtB q (bandn p q) := by
    intro p q j
    by_cases hj : j < 64
    · rw [bit_andn _ _ _ hj]; cases bit p j <;> cases bit q j <;> rfl
    · rw [bit_big _ _ (by omega)]; rfl
  rcases op_cases hop with rfl | rfl | rfl | rfl | rfl | rfl
  · exact hn _ _
  · exact hn _ _
  · exact mulS_rt _ _ _ _ _
  · exact hn' _ _
  · exact hn' _ _
  · exact hn _ _

end Go.Proofs.Ytkigmocchaikgaa

/- That the reference's answers, put together bit by bit, are package bits' own: plain facts. -/
namespace Go.Proofs.Ytkigmocchaikgaa

theorem rightP {av am bv bm : BitVec 64} (hr : (eqb (band av am) zero && eqb (band bv bm) zero) = true) : (∀ j, (bit av j && bit am j) = false) ∧ (∀ j, (bit bv j && bit bm j) = false) := by
  rw [Bool.and_eq_true] at hr
  exact ⟨(right_iff _ _).1 hr.1, (right_iff _ _).1 hr.2⟩

theorem join_eq {av am bv bm : BitVec 64} (hr : (eqb (band av am) zero && eqb (band bv bm) zero) = true) :
    joinV av am bv bm 64 = bandn av (jM av am bv bm) ∧ joinM av am bv bm 64 = jM av am bv bm := by
  obtain ⟨ha, hb⟩ := rightP hr
  constructor
  · apply acc_eq; intro j hj
    have h1 := ha j; have h2 := hb j
    simp only [mo, mz, jM, bit_andn _ _ _ hj, bit_or, bit_xor]
    revert h1 h2
    cases bit av j <;> cases bit am j <;> cases bit bv j <;> cases bit bm j <;> simp
  · apply acc_eq; intro j hj
    have h1 := ha j; have h2 := hb j
    simp only [mo, mz, jM, bit_or, bit_xor]
    revert h1 h2
    cases bit av j <;> cases bit am j <;> cases bit bv j <;> cases bit bm j <;> simp

theorem meet_eq {av am bv bm : BitVec 64} (hr : (eqb (band av am) zero && eqb (band bv bm) zero) = true) (hm : eqb (bandn (bxor av bv) (bor am bm)) zero = true) :
    (∀ j, j < 64 → meetOk av am bv bm j = true) ∧ meetV av am bv bm 64 = bor av bv ∧ meetM av am bv bm 64 = band am bm := by
  obtain ⟨ha, hb⟩ := rightP hr
  rw [eqb_zero_iff] at hm
  refine ⟨?_, ?_, ?_⟩
  · intro j hj
    have h1 := ha j; have h2 := hb j; have h3 := hm j hj
    rw [bit_andn _ _ _ hj, bit_xor, bit_or] at h3
    simp only [meetOk, mo, mz]
    revert h1 h2 h3
    cases bit av j <;> cases bit am j <;> cases bit bv j <;> cases bit bm j <;> simp
  · apply acc_eq; intro j hj
    have h1 := ha j; have h2 := hb j; have h3 := hm j hj
    rw [bit_andn _ _ _ hj, bit_xor, bit_or] at h3
    simp only [mo, mz, bit_or]
    revert h1 h2 h3
    cases bit av j <;> cases bit am j <;> cases bit bv j <;> cases bit bm j <;> simp
  · apply acc_eq; intro j hj
    have h1 := ha j; have h2 := hb j; have h3 := hm j hj
    rw [bit_andn _ _ _ hj, bit_xor, bit_or] at h3
    simp only [mo, mz, bit_and']
    revert h1 h2 h3
    cases bit av j <;> cases bit am j <;> cases bit bv j <;> cases bit bm j <;> simp
theorem meet_ne {av am bv bm : BitVec 64} (hm : eqb (bandn (bxor av bv) (bor am bm)) zero = false) :
    ∃ j, j < 64 ∧ meetOk av am bv bm j = false ∧ ∀ i, i < j → meetOk av am bv bm i = true := by
  rcases first_no (meetOk av am bv bm) 64 with h | h
  · exfalso
    have : eqb (bandn (bxor av bv) (bor am bm)) zero = true := by
      rw [eqb_zero_iff]; intro j hj
      have h1 := h j hj
      rw [bit_andn _ _ _ hj, bit_xor, bit_or]
      simp only [meetOk, mo, mz] at h1
      revert h1
      cases bit av j <;> cases bit am j <;> cases bit bv j <;> cases bit bm j <;> simp
    rw [this] at hm; cases hm
  · exact h

theorem inside_eq {av am bv bm : BitVec 64} (hr : (eqb (band av am) zero && eqb (band bv bm) zero) = true) :
    insB av am bv bm = true ↔ ∀ j, j < 64 → insOk av am bv bm j = true := by
  obtain ⟨ha, hb⟩ := rightP hr
  unfold insB
  rw [hr, Bool.true_and, Bool.and_eq_true, eqb_zero_iff, eqb_iff]
  constructor
  · rintro ⟨h1, h2⟩ j hj
    have a1 := ha j; have a2 := hb j; have a3 := h1 j hj
    have a4 : bit (bandn av bm) j = bit bv j := by rw [h2]
    rw [bit_andn _ _ _ hj] at a3 a4
    simp only [insOk, mo, mz]
    revert a1 a2 a3 a4
    cases bit av j <;> cases bit am j <;> cases bit bv j <;> cases bit bm j <;> simp
  · intro h
    constructor
    · intro j hj
      have a1 := ha j; have a2 := hb j; have a3 := h j hj
      simp only [insOk, mo, mz] at a3
      rw [bit_andn _ _ _ hj]
      revert a1 a2 a3
      cases bit av j <;> cases bit am j <;> cases bit bv j <;> cases bit bm j <;> simp
    · apply ext64; intro j hj
      have a1 := ha j; have a2 := hb j; have a3 := h j hj
      simp only [insOk, mo, mz] at a3
      rw [bit_andn _ _ _ hj]
      revert a1 a2 a3
      cases bit av j <;> cases bit am j <;> cases bit bv j <;> cases bit bm j <;> simp

theorem sh_up_eq {v m : BitVec 64} (hr : eqb (band v m) zero = true) (n : Nat) : shV true v m n 64 = bshl v n ∧ shM true v m n 64 = bshl m n := by
  have ha := (right_iff _ _).1 hr
  have key : ∀ j, j < 64 → (sho true v m n j = (decide (n ≤ j) && (bit v (j - n) || bit m (j - n)))) ∧ (shz true v n j = (!decide (n ≤ j) || !bit v (j - n))) := by
    intro j hj
    by_cases h : n ≤ j
    · have e := sh_in true v m n j (j - n) (by simp [shFrom]; omega) (by omega)
      rw [← e.1, ← e.2]; simp [h, mz, mo]
    · have e := sh_out true v m n j (by simp [shFrom]; omega)
      rw [← e.1, ← e.2]; simp [h]
  constructor
  · apply acc_eq; intro j hj
    rw [(key j hj).1, (key j hj).2, bit_shl _ _ _ hj]
    have h1 := ha (j - n)
    revert h1
    cases decide (n ≤ j) <;> cases bit v (j - n) <;> cases bit m (j - n) <;> simp
  · apply acc_eq; intro j hj
    rw [(key j hj).1, (key j hj).2, bit_shl _ _ _ hj]
    have h1 := ha (j - n)
    revert h1
    cases decide (n ≤ j) <;> cases bit v (j - n) <;> cases bit m (j - n) <;> simp
theorem sh_down_eq {v m : BitVec 64} (hr : eqb (band v m) zero = true) (n : Nat) : shV false v m n 64 = bshr v n ∧ shM false v m n 64 = bshr m n := by
  have ha := (right_iff _ _).1 hr
  have key : ∀ j, j < 64 → (sho false v m n j = (bit v (n + j) || bit m (n + j))) ∧ (shz false v n j = !bit v (n + j)) := by
    intro j hj
    by_cases h : n + j < 64
    · have e := sh_in false v m n j (n + j) (by simp [shFrom]; omega) h
      rw [← e.1, ← e.2]; simp [mz, mo]
    · have e := sh_out false v m n j (by simp [shFrom]; omega)
      rw [← e.1, ← e.2, bit_big v _ (by omega), bit_big m _ (by omega)]; simp
  constructor
  · apply acc_eq; intro j hj
    rw [(key j hj).1, (key j hj).2, bit_shr]
    have h1 := ha (n + j)
    revert h1
    cases bit v (n + j) <;> cases bit m (n + j) <;> simp
  · apply acc_eq; intro j hj
    rw [(key j hj).1, (key j hj).2, bit_shr]
    have h1 := ha (n + j)
    revert h1
    cases bit v (n + j) <;> cases bit m (n + j) <;> simp

/- how many bits a number wants -/
theorem aux_lt : ∀ (f x : Nat), x < 2 ^ f → x < 2 ^ Lib.bitLenAux f x
  | 0, x, h => by simpa [Lib.bitLenAux] using h
  | f + 1, x, h => by
    simp only [Lib.bitLenAux]
    split
    · subst_vars; simp
    · have := aux_lt f (x / 2) (by rw [Nat.pow_succ] at h; omega)
      rw [Nat.add_comm 1, Nat.pow_succ]
      omega
theorem blen_iff (x : BitVec 64) (k : Nat) (hk : k ≤ 64) : blen x ≤ k ↔ x.toNat < 2 ^ k := by
  have e : (nv x).toNat = x.toNat := by unfold nv; rw [Int.toNat_natCast]
  unfold blen
  rw [e]
  constructor
  · intro h
    exact Nat.lt_of_lt_of_le (aux_lt 64 x.toNat x.isLt) (Nat.pow_le_pow_right (by decide) h)
  · intro h
    exact Lib.bitLen_le _ k hk h
theorem lt_iff_bits (x : BitVec 64) (k : Nat) : x.toNat < 2 ^ k ↔ ∀ j, k ≤ j → bit x j = false := by
  constructor
  · intro h j hj
    unfold bit BitVec.getLsbD
    exact Nat.testBit_lt_two_pow (Nat.lt_of_lt_of_le h (Nat.pow_le_pow_right (by decide) hj))
  · intro h
    exact Nat.lt_pow_two_of_testBit _ fun j hj => h j hj
theorem blen_bits (x : BitVec 64) (k : Nat) (hk : k ≤ 64) : blen x ≤ k ↔ ∀ j, k ≤ j → bit x j = false := by
  rw [blen_iff x k hk, lt_iff_bits]
theorem lowMask_bit (n j : Nat) (hn : n ≤ 64) (_hj : j < 64) : bit (lowMask n) j = decide (j < n) := by
  have h : (lowMask n).toNat = 2 ^ n - 1 := by
    unfold lowMask bsub bshl one
    by_cases e : n = 64
    · subst e; decide
    · have hlt : 2 ^ n < 2 ^ 64 := Nat.pow_lt_pow_right (by decide) (by omega)
      have h1 : 1 ≤ 2 ^ n := Nat.one_le_two_pow
      have e1 : (1#64 <<< n).toNat = 2 ^ n := by
        rw [BitVec.toNat_shiftLeft, Nat.shiftLeft_eq]; rw [show (1#64).toNat = 1 from rfl, Nat.one_mul]; exact Nat.mod_eq_of_lt hlt
      rw [BitVec.toNat_sub, e1]
      simp only [BitVec.toNat_ofNat]
      omega
  unfold bit BitVec.getLsbD
  rw [h, Nat.testBit_two_pow_sub_one]

theorem sameB_iff (l h : BitVec 64) (c : Nat) (hc : c ≤ 64) : sameB l h c = true ↔ ∀ j, 64 - c ≤ j → bit (bxor l h) j = false := by
  induction c with
  | zero => simp only [sameB, true_iff]; intro j hj; exact bit_big _ _ (by omega)
  | succ c ih =>
    have ih := ih (by omega)
    simp only [sameB, Bool.and_eq_true, ih, beq_iff_eq]
    constructor
    · rintro ⟨h1, h2⟩ j hj
      by_cases e : j = 63 - c
      · subst e; rw [bit_xor, h2]; simp
      · exact h1 j (by omega)
    · intro h1
      refine ⟨fun j hj => h1 j (by omega), ?_⟩
      have := h1 (63 - c) (by omega)
      rw [bit_xor] at this
      revert this
      cases bit l (63 - c) <;> cases bit h (63 - c) <;> simp
theorem span_eq (l h : BitVec 64) : spanV l h 64 = bandn l (sM l h) ∧ spanM l h 64 = sM l h := by
  have key : ∀ j, j < 64 → bit (sM l h) j = !sameB l h (64 - j) := by
    intro j hj
    unfold sM
    rw [lowMask_bit _ _ (blen_le _) hj]
    have h1 := sameB_iff l h (64 - j) (by omega)
    rw [show 64 - (64 - j) = j by omega, ← blen_bits _ j (by omega)] at h1
    cases hs : sameB l h (64 - j)
    · rw [hs] at h1; simp at h1; simp [h1]
    · rw [hs] at h1; simp at h1; simp; omega
  constructor
  · apply accd_eq; intro j hj
    rw [bit_andn _ _ _ hj, key j hj]
    simp only [spo, spz]
    cases sameB l h (64 - j) <;> cases bit l j <;> simp
  · apply accd_eq; intro j hj
    rw [key j hj]
    simp only [spo, spz]
    cases sameB l h (64 - j) <;> cases bit l j <;> simp

end Go.Proofs.Ytkigmocchaikgaa

/- Has, Two, Join, Meet, Inside and Shift: who has which numbers: plain facts. -/
namespace Go.Proofs.Ytkigmocchaikgaa

theorem rt_iff (v m : BitVec 64) : eqb (band v m) zero = true ↔ RtB v m := right_iff v m
theorem hasB_iff (v m x : BitVec 64) : hasB v m x = true ↔ RtB v m ∧ InB v m x := by
  unfold hasB
  rw [Bool.and_eq_true, rt_iff, has_iff]; rfl

theorem sound_two {op : Int} {av am bv bm x y : BitVec 64} (hop : 2 ≤ op ∧ op ≤ 7) (hx : hasB av am x = true) (hy : hasB bv bm y = true) :
    hasB (twoP op av am bv bm).1 (twoP op av am bv bm).2 (numB op x y) = true := by
  rw [hasB_iff] at hx hy ⊢
  exact ⟨two_rt hop, two_sound hop hx.1 hy.1 hx.2 hy.2⟩
theorem sound_join {av am bv bm x : BitVec 64} (ha : RtB av am) (hb : RtB bv bm) (hx : (hasB av am x || hasB bv bm x) = true) : hasB (bandn av (jM av am bv bm)) (jM av am bv bm) x = true := by
  rw [Bool.or_eq_true, hasB_iff, hasB_iff] at hx
  rw [hasB_iff]
  refine ⟨fun j => ?_, fun j hj => ?_⟩
  · by_cases hj : j < 64
    · rw [bit_andn _ _ _ hj]; cases bit av j <;> cases bit (jM av am bv bm) j <;> rfl
    · rw [bit_big _ _ (by omega)]; rfl
  · rw [bit_andn _ _ _ hj]
    unfold jM
    rw [bit_or, bit_or, bit_xor]
    have h3 := ha j; have h4 := hb j
    rcases hx with ⟨_, h⟩ | ⟨_, h⟩
    all_goals
      have h1 := h j hj
      revert h1 h3 h4
      cases bit x j <;> cases bit av j <;> cases bit am j <;> cases bit bv j <;> cases bit bm j <;> simp
theorem sound_meet {av am bv bm x : BitVec 64} (ha : RtB av am) (hb : RtB bv bm) :
    (hasB av am x && hasB bv bm x) = (eqb (bandn (bxor av bv) (bor am bm)) zero && hasB (bor av bv) (band am bm) x) := by
  rw [Bool.eq_iff_iff, Bool.and_eq_true, Bool.and_eq_true, hasB_iff, hasB_iff, hasB_iff]
  have key : eqb (bandn (bxor av bv) (bor am bm)) zero = true ↔ ∀ j, j < 64 → ((bit av j ^^ bit bv j) && !(bit am j || bit bm j)) = false := by
    unfold eqb
    rw [beq_iff_eq]
    constructor
    · intro h j hj
      rw [← bit_xor, ← bit_or, ← bit_andn _ _ _ hj, h, bit_zero]
    · intro h
      apply BitVec.eq_of_getLsbD_eq
      intro j hj
      have := h j hj
      rw [← bit_xor, ← bit_or, ← bit_andn _ _ _ hj] at this
      unfold bit at this
      rw [this]
      exact (bit_zero j).symm
  rw [key]
  constructor
  · rintro ⟨⟨_, h1⟩, ⟨_, h2⟩⟩
    refine ⟨fun j hj => ?_, fun j => ?_, fun j hj => ?_⟩
    · have a1 := h1 j hj; have a2 := h2 j hj
      revert a1 a2
      cases bit x j <;> cases bit av j <;> cases bit am j <;> cases bit bv j <;> cases bit bm j <;> simp
    · rw [bit_or, bit_and']
      have h3 := ha j; have h4 := hb j
      revert h3 h4
      cases bit av j <;> cases bit am j <;> cases bit bv j <;> cases bit bm j <;> simp
    · rw [bit_or, bit_and']
      have a1 := h1 j hj; have a2 := h2 j hj; have h3 := ha j; have h4 := hb j
      revert a1 a2 h3 h4
      cases bit x j <;> cases bit av j <;> cases bit am j <;> cases bit bv j <;> cases bit bm j <;> simp
  · rintro ⟨h0, _, h1⟩
    refine ⟨⟨ha, fun j hj => ?_⟩, ⟨hb, fun j hj => ?_⟩⟩
    all_goals
      have a0 := h0 j hj; have a1 := h1 j hj; have h3 := ha j; have h4 := hb j
      rw [bit_or, bit_and'] at a1
      revert a0 a1 h3 h4
      cases bit x j <;> cases bit av j <;> cases bit am j <;> cases bit bv j <;> cases bit bm j <;> simp
theorem ins_iff (av am bv bm : BitVec 64) : insB av am bv bm = true ↔ RtB av am ∧ RtB bv bm ∧ ∀ j, j < 64 → (bit am j && !bit bm j) = false ∧ (bit av j && !bit bm j) = bit bv j := by
  unfold insB
  have : eqb (bandn am bm) zero = true ↔ ∀ j, j < 64 → (bit am j && !bit bm j) = false := by
    rw [has_iff]
    constructor
    · intro h j hj; rw [h j hj, bit_zero]
    · intro h j hj; rw [h j hj, bit_zero]
  rw [Bool.and_eq_true, Bool.and_eq_true, Bool.and_eq_true, rt_iff, rt_iff, this, has_iff, and_assoc]
  exact ⟨fun ⟨h1, h2, h3, h4⟩ => ⟨h1, h2, fun j hj => ⟨h3 j hj, h4 j hj⟩⟩, fun ⟨h1, h2, h3⟩ => ⟨h1, h2, fun j hj => (h3 j hj).1, fun j hj => (h3 j hj).2⟩⟩
theorem sound_inside {av am bv bm x : BitVec 64} (hi : insB av am bv bm = true) (hx : hasB av am x = true) : hasB bv bm x = true := by
  rw [ins_iff] at hi
  rw [hasB_iff] at hx ⊢
  refine ⟨hi.2.1, fun j hj => ?_⟩
  have h1 := hi.2.2 j hj; have h2 := hx.2 j hj
  revert h1 h2
  cases bit x j <;> cases bit av j <;> cases bit am j <;> cases bit bv j <;> cases bit bm j <;> simp
theorem sound_shl {v m x : BitVec 64} (hx : hasB v m x = true) (n : Nat) : hasB (bshl v n) (bshl m n) (bshl x n) = true := by
  rw [hasB_iff] at hx ⊢
  exact ⟨shl_rt hx.1 n, shl_in hx.2 n⟩
theorem sound_shr {v m x : BitVec 64} (hx : hasB v m x = true) (n : Nat) : hasB (bshr v n) (bshr m n) (bshr x n) = true := by
  rw [hasB_iff] at hx ⊢
  refine ⟨fun j => ?_, fun j hj => ?_⟩
  · rw [bit_shr, bit_shr]; exact hx.1 _
  · rw [bit_shr, bit_shr, bit_shr]
    by_cases h : n + j < 64
    · exact hx.2 _ h
    · rw [bit_big x _ (by omega), bit_big v _ (by omega)]; rfl

end Go.Proofs.Ytkigmocchaikgaa

/- The reference's Number, and val's and calc's plain numbers: x op y. -/
namespace Go.Proofs.Ytkigmocchaikgaa
open Go.RowKit
attribute [local go_sem] w_and w_or w_xor w_andNot w_and1 w_and63 w_add w_sub w_mul w_sub1 w_add1 w_shl w_shl1 w_shr c_beq c_bne c_beq0 c_bne0 c_beq1 c_bne1 wrap_nv

def six (y : BitVec 64) : Nat := (nv (band y 63#64)).toNat
theorem six_lt (y : BitVec 64) : six y < 64 := by
  unfold six nv band
  rw [BitVec.toNat_and]
  have : y.toNat &&& (63#64).toNat ≤ (63#64).toNat := Nat.and_le_right
  have h63 : (63#64).toNat = 63 := rfl
  omega
theorem six_nv (y : BitVec 64) : nv (band y 63#64) = (six y : Int) := by
  unfold six; have := nv_nonneg (band y 63#64); omega
def numN (op : Int) (x y : BitVec 64) : BitVec 64 :=
  if op = 1 then y else if 2 ≤ op ∧ op ≤ 7 then numB op x y else if op = 8 then bshl x (six y) else bshr x (six y)

set_option maxHeartbeats 1000000 in
theorem number_two {op : Int} (hop : Hid (2 ≤ op ∧ op ≤ 7)) (x y : BitVec 64) (w : World) :
    Calls Try.prog 30 #[N op, U x, U y] w fun e w' => e = .returned (U (numB op x y)) ∧ Below w.heap.size w w' := by
  rcases op_cases hop.out with rfl | rfl | rfl | rfl | rfl | rfl
  all_goals
    clear hop
    go_enter Try.func30, Try.ntmps30
    go_wp2
    go_ret
    exact ⟨rfl, (by repeat (first | exact Below.refl _ _ | assumption | refine below_drewN ?_ _ | refine Below.drew ?_ | refine Below.alloc ?_ (by first | exact Nat.le_refl _ | (simp; done) | (simp; omega) | omega) _ | refine Below.setCell ?_ (by first | exact Nat.le_refl _ | (simp; done) | (simp; omega) | omega) _ | refine Below.trans ?_ (Below.mono (by assumption) (by first | exact Nat.le_refl _ | (simp; done) | (simp; omega) | omega))))⟩
set_option maxHeartbeats 1000000 in
theorem number_shl (x y : BitVec 64) (w : World) :
    Calls Try.prog 30 #[N 8, U x, U y] w fun e w' => e = .returned (U (bshl x (six y))) ∧ Below w.heap.size w w' := by
  have h6 := six_nv y
  have h7 := six_lt y
  go_enter Try.func30, Try.ntmps30
  go_wp2
  go_ret
  exact ⟨rfl, (by repeat (first | exact Below.refl _ _ | assumption | refine below_drewN ?_ _ | refine Below.drew ?_ | refine Below.alloc ?_ (by first | exact Nat.le_refl _ | (simp; done) | (simp; omega) | omega) _ | refine Below.setCell ?_ (by first | exact Nat.le_refl _ | (simp; done) | (simp; omega) | omega) _ | refine Below.trans ?_ (Below.mono (by assumption) (by first | exact Nat.le_refl _ | (simp; done) | (simp; omega) | omega))))⟩
set_option maxHeartbeats 1000000 in
theorem number_shr (x y : BitVec 64) (w : World) :
    Calls Try.prog 30 #[N 9, U x, U y] w fun e w' => e = .returned (U (bshr x (six y))) ∧ Below w.heap.size w w' := by
  have h6 := six_nv y
  have h7 := six_lt y
  go_enter Try.func30, Try.ntmps30
  go_wp2
  go_ret
  exact ⟨rfl, (by repeat (first | exact Below.refl _ _ | assumption | refine below_drewN ?_ _ | refine Below.drew ?_ | refine Below.alloc ?_ (by first | exact Nat.le_refl _ | (simp; done) | (simp; omega) | omega) _ | refine Below.setCell ?_ (by first | exact Nat.le_refl _ | (simp; done) | (simp; omega) | omega) _ | refine Below.trans ?_ (Below.mono (by assumption) (by first | exact Nat.le_refl _ | (simp; done) | (simp; omega) | omega))))⟩

theorem hasC {v m x : BitVec 64} {b : Bool} (h : hasB v m x = b) (w : World) :
    Calls Try.prog 24 #[Bt v m, U x] w fun e w' => e = .returned (.bool b) ∧ Below w.heap.size w w' := h ▸ has_any v m x w
theorem insC {av am bv bm : BitVec 64} {b : Bool} (h : insB av am bv bm = b) (w : World) :
    Calls Try.prog 26 #[Bt av am, Bt bv bm] w fun e w' => e = .returned (.bool b) ∧ Below w.heap.size w w' := h ▸ inside_any av am bv bm w

end Go.Proofs.Ytkigmocchaikgaa

/- Steps, programs and machines, as plain functions. -/
namespace Go.Proofs.Ytkigmocchaikgaa

structure V6 (α : Type) where
  x0 : α
  x1 : α
  x2 : α
  x3 : α
  x4 : α
  x5 : α
def V6.get {α : Type} (v : V6 α) (i : Nat) : α :=
  match i with
  | 0 => v.x0
  | 1 => v.x1
  | 2 => v.x2
  | 3 => v.x3
  | 4 => v.x4
  | _ => v.x5
def V6.set {α : Type} (v : V6 α) (i : Nat) (a : α) : V6 α :=
  match i with
  | 0 => ⟨a, v.x1, v.x2, v.x3, v.x4, v.x5⟩
  | 1 => ⟨v.x0, a, v.x2, v.x3, v.x4, v.x5⟩
  | 2 => ⟨v.x0, v.x1, a, v.x3, v.x4, v.x5⟩
  | 3 => ⟨v.x0, v.x1, v.x2, a, v.x4, v.x5⟩
  | 4 => ⟨v.x0, v.x1, v.x2, v.x3, a, v.x5⟩
  | _ => ⟨v.x0, v.x1, v.x2, v.x3, v.x4, a⟩
def V6.all {α : Type} (v : V6 α) (p : α → Bool) : Bool := p v.x0 && p v.x1 && p v.x2 && p v.x3 && p v.x4 && p v.x5
def V6.list {α β : Type} (v : V6 α) (f : α → β) : List β := [f v.x0, f v.x1, f v.x2, f v.x3, f v.x4, f v.x5]
def V6.rep {α : Type} (a : α) : V6 α := ⟨a, a, a, a, a, a⟩
theorem lt6 {P : Nat → Prop} (h0 : P 0) (h1 : P 1) (h2 : P 2) (h3 : P 3) (h4 : P 4) (h5 : P 5) : ∀ i, i < 6 → P i
  | 0, _ => h0
  | 1, _ => h1
  | 2, _ => h2
  | 3, _ => h3
  | 4, _ => h4
  | 5, _ => h5
  | _ + 6, h => absurd h (by omega)
theorem V6.get_set {α : Type} (v : V6 α) (a : α) (i j : Nat) (hi : i < 6) (hj : j < 6) : (v.set i a).get j = if i = j then a else v.get j := by
  revert i; apply lt6 <;> (revert j; apply lt6 <;> rfl)
theorem V6.ext6 {α : Type} {v w : V6 α} (h : ∀ i, i < 6 → v.get i = w.get i) : v = w := by
  have h0 := h 0 (by decide); have h1 := h 1 (by decide); have h2 := h 2 (by decide)
  have h3 := h 3 (by decide); have h4 := h 4 (by decide); have h5 := h 5 (by decide)
  cases v; cases w
  simp only [V6.get] at h0 h1 h2 h3 h4 h5
  subst h0 h1 h2 h3 h4 h5; rfl

def no6 : V6 Bool := ⟨false, false, false, false, false, false⟩
structure Ins where
  op : Int
  d : Int
  s : Int
  im : BitVec 64
  of : Int
def Ins.cs (i : Ins) : List AC := [.i i.op, .i i.d, .i i.s, .u i.im, .i i.of]
def pcell (L : List Ins) : List AC := L.flatMap Ins.cs
structure Mach where
  t : Int
  r : V6 (BitVec 64)
  s : V6 Bool
  mem : ByteArray
  fin : Int
def Mach.cs (m : Mach) : List AC := [.i m.t, .u m.r.x0, .u m.r.x1, .u m.r.x2, .u m.r.x3, .u m.r.x4, .u m.r.x5, .b m.s.x0, .b m.s.x1, .b m.s.x2, .b m.s.x3, .b m.s.x4, .b m.s.x5, .s m.mem, .i m.fin]
def noMem : ByteArray := ByteArray.mk #[]
def Mach.z : Mach := ⟨0, V6.rep 0#64, no6, noMem, 0⟩
structure Outc where
  fin : Int
  t : Int
  n : Int
  ret : BitVec 64
  mem : ByteArray
def Outc.cs (r : Outc) : List AC := [.i r.fin, .i r.t, .i r.n, .u r.ret, .s r.mem]
def Outc.z : Outc := ⟨0, 0, 0, 0#64, noMem⟩

/- a right step -/
def regB (d : Int) : Bool := decide (0 ≤ d) && decide (d < 6)
def srcB (d : Int) : Bool := decide (d = -1) || regB d
def sizeB (x : BitVec 64) : Bool := eqb x 1#64 || eqb x 2#64 || eqb x 4#64 || eqb x 8#64
def goesB (o n : Int) : Bool := decide (0 ≤ o) && decide (o < n)
def kindB (i : Ins) : Bool := decide (1 ≤ i.op) && decide (i.op ≤ 15)
def inB (i : Ins) (n : Int) : Bool :=
  if i.op = 10 ∨ i.op = 11 then regB i.d && regB i.s && sizeB i.im && decide (-64 ≤ i.of) && decide (i.of ≤ 64)
  else if i.op = 12 then goesB i.of n
  else if i.op = 13 ∨ i.op = 14 then regB i.d && srcB i.s && goesB i.of n
  else if i.op = 15 then true
  else regB i.d && srcB i.s
def bareB (i : Ins) : Bool :=
  if i.op = 10 ∨ i.op = 11 then true
  else if i.op = 12 then decide (i.d = 0) && decide (i.s = 0) && eqb i.im 0#64
  else if i.op = 13 ∨ i.op = 14 then decide (i.s = -1) || eqb i.im 0#64
  else if i.op = 15 then decide (i.d = 0) && decide (i.s = 0) && eqb i.im 0#64 && decide (i.of = 0)
  else decide (i.of = 0) && (decide (i.s = -1) || eqb i.im 0#64)
def inAll : List Ins → Bool
  | [] => true
  | i :: l => inB i l.length && inAll l
def lastOp (L : List Ins) : Int := match L.getLast? with | some i => i.op | none => 0
def codeErr (L : List Ins) : Int :=
  if L.length = 0 ∨ 64 < L.length then 2
  else if L.all kindB = false then 4
  else if inAll L = false then 3
  else if L.all bareB = false then 1
  else if lastOp L ≠ 15 then 1 else 0
/- a step of a right program that has so many behind it -/
structure Right (i : Ins) (n : Int) : Prop where
  kind : kindB i = true
  fits : inB i n = true
  bare : bareB i = true

/- what a step uses -/
def useOf (i : Ins) : V6 Bool :=
  if i.op = 12 then no6
  else if i.op = 15 then (no6).set 0 true
  else if i.s = -1 then (if i.op = 1 ∨ i.op = 10 then no6 else (no6).set i.d.toNat true)
  else (if i.op = 1 ∨ i.op = 10 then no6 else (no6).set i.d.toNat true).set i.s.toNat true
def bcs (v : V6 Bool) : List AC := [.b v.x0, .b v.x1, .b v.x2, .b v.x3, .b v.x4, .b v.x5]
def lacks (u s : V6 Bool) : Bool := (u.x0 && !s.x0) || (u.x1 && !s.x1) || (u.x2 && !s.x2) || (u.x3 && !s.x3) || (u.x4 && !s.x4) || (u.x5 && !s.x5)

/- a machine that is right; where it begins -/
def zeroB (s : V6 Bool) (r : V6 (BitVec 64)) : Bool := (s.x0 || eqb r.x0 0#64) && (s.x1 || eqb r.x1 0#64) && (s.x2 || eqb r.x2 0#64) && (s.x3 || eqb r.x3 0#64) && (s.x4 || eqb r.x4 0#64) && (s.x5 || eqb r.x5 0#64)
def headB (m : Mach) : Bool := decide (m.mem.size = 64) && (decide (0 ≤ m.fin) && decide (m.fin ≤ 3)) && (decide (0 ≤ m.t) && decide (m.t < 64))
def machErr (m : Mach) : Int := if headB m && zeroB m.s m.r then 0 else 1
def Mach.wth (m : Mach) (d : Nat) (x : BitVec 64) : Mach := ⟨m.t, m.r.set d x, m.s.set d true, m.mem, m.fin⟩
def startM (mem : ByteArray) (x : BitVec 64) : Mach := Mach.wth ⟨0, V6.rep 0#64, no6, mem, 0⟩ 1 x

/- a step -/
def Mach.on (m : Mach) (o : Int) : Mach := ⟨m.t + 1 + o, m.r, m.s, m.mem, m.fin⟩
def Mach.fine (m : Mach) (e : Int) : Mach := ⟨m.t, m.r, m.s, m.mem, e⟩
def srcN (i : Ins) (m : Mach) : BitVec 64 := if i.s = -1 then i.im else m.r.get i.s.toNat
def fromN (i : Ins) (m : Mach) : BitVec 64 := badd (m.r.get (if i.op = 11 then i.d else i.s).toNat) (BitVec.ofInt 64 i.of)
def farB (i : Ins) (m : Mach) : Bool := decide (nv (bsub 64#64 i.im) < nv (fromN i m))
def loadL : List (BitVec 8) → BitVec 64
  | [] => 0#64
  | b :: l => bor (bshl (loadL l) 8) (b.setWidth 64)
def memL (s : ByteArray) (a n : Nat) : List (BitVec 8) := (List.range n).map fun j => byteAt s (a + j)
def storeL (x : BitVec 64) (n : Nat) : List AC := (List.range n).map fun j => AC.y ((bshr x (8 * j)).setWidth 8)
def putMem (s : ByteArray) (a n : Nat) (x : BitVec 64) : ByteArray := s.extract 0 a ++ strOf (storeL x n) ++ s.extract (a + n) s.size
def reachM (i : Ins) (m : Mach) : Mach :=
  if farB i m then m.fine 2
  else if i.op = 10 then (m.wth i.d.toNat (loadL (memL m.mem (fromN i m).toNat i.im.toNat))).on 0
  else Mach.on ⟨m.t, m.r, m.s, putMem m.mem (fromN i m).toNat i.im.toNat (m.r.get i.s.toNat), m.fin⟩ 0
def stepM (i : Ins) (m : Mach) : Mach :=
  if lacks (useOf i) m.s then m.fine 1
  else if i.op = 10 ∨ i.op = 11 then reachM i m
  else if i.op = 12 then m.on i.of
  else if i.op = 13 then m.on (if eqb (m.r.get i.d.toNat) (srcN i m) then i.of else 0)
  else if i.op = 14 then m.on (if nv (m.r.get i.d.toNat) < nv (srcN i m) then i.of else 0)
  else if i.op = 15 then m.fine 3
  else (m.wth i.d.toNat (numN i.op (m.r.get i.d.toNat) (srcN i m))).on 0
def insAt (L : List Ins) (t : Int) : Ins := L.getD t.toNat ⟨0, 0, 0, 0#64, 0⟩
def runM (L : List Ins) : Nat → Mach → Nat → Mach × Nat
  | 0, m, n => (m, n)
  | k + 1, m, n => if m.fin = 0 then runM L k (stepM (insAt L m.t) m) (n + 1) else (m, n)
def outOf (x : Mach × Nat) : Outc := ⟨x.1.fin, x.1.t, x.2, if x.1.fin = 3 then x.1.r.x0 else 0#64, x.1.mem⟩
def runOut (L : List Ins) (mem : ByteArray) (x : BitVec 64) : Outc := outOf (runM L L.length (startM mem x) 0)
/- what Step and Run answer -/
def stepErr (L : List Ins) (m : Mach) : Int := if codeErr L ≠ 0 then codeErr L else if machErr m ≠ 0 then machErr m else if (L.length : Int) ≤ m.t then 3 else 0
def stepRes (L : List Ins) (m : Mach) : Mach := if stepErr L m ≠ 0 then Mach.z else if m.fin ≠ 0 then m else stepM (insAt L m.t) m
def runErr (L : List Ins) (mem : ByteArray) : Int := if codeErr L ≠ 0 then codeErr L else if mem.size ≠ 64 then 1 else 0
def runRes (L : List Ins) (mem : ByteArray) (x : BitVec 64) : Outc := if runErr L mem ≠ 0 then Outc.z else runOut L mem x
end Go.Proofs.Ytkigmocchaikgaa

/- What is known of right programs, steps and machines. -/
namespace Go.Proofs.Ytkigmocchaikgaa
open Go.RowKit

theorem regB_iff {d : Int} : regB d = true ↔ 0 ≤ d ∧ d < 6 := by simp [regB]
theorem reg_elim {P : Int → Prop} {d : Int} (h : regB d = true) (h0 : P 0) (h1 : P 1) (h2 : P 2) (h3 : P 3) (h4 : P 4) (h5 : P 5) : P d := by
  obtain ⟨a, b⟩ := regB_iff.1 h
  have : d = 0 ∨ d = 1 ∨ d = 2 ∨ d = 3 ∨ d = 4 ∨ d = 5 := by omega
  rcases this with rfl | rfl | rfl | rfl | rfl | rfl <;> assumption
theorem reg_nat {d : Int} (h : regB d = true) : d.toNat < 6 := by
  obtain ⟨a, b⟩ := regB_iff.1 h; omega
theorem srcB_iff {d : Int} : srcB d = true ↔ d = -1 ∨ regB d = true := by simp [srcB]
theorem size_elim {P : BitVec 64 → Prop} {x : BitVec 64} (h : sizeB x = true) (h1 : P 1#64) (h2 : P 2#64) (h4 : P 4#64) (h8 : P 8#64) : P x := by
  simp only [sizeB, eqb, Bool.or_eq_true, beq_iff_eq] at h
  rcases h with ((rfl | rfl) | rfl) | rfl <;> assumption
theorem kind_iff {i : Ins} : kindB i = true ↔ 1 ≤ i.op ∧ i.op ≤ 15 := by simp [kindB]

/- a program, step by step -/
theorem inAll_at {L : List Ins} : inAll L = true → ∀ k, k < L.length → inB (L.getD k ⟨0, 0, 0, 0#64, 0⟩) ((L.length - 1 - k : Nat) : Int) = true := by
  induction L with
  | nil => intro _ k hk; exact absurd hk (by simp)
  | cons i l ih =>
    intro h k hk
    simp only [inAll, Bool.and_eq_true] at h
    cases k with
    | zero => simpa using h.1
    | succ k =>
      have := ih h.2 k (by simpa using hk)
      simpa [Nat.sub_sub, Nat.add_comm] using this
structure RightP (L : List Ins) : Prop where
  pos : 0 < L.length
  le : L.length ≤ 64
  step : ∀ k, k < L.length → Right (L.getD k ⟨0, 0, 0, 0#64, 0⟩) ((L.length - 1 - k : Nat) : Int)
  last : (L.getD (L.length - 1) ⟨0, 0, 0, 0#64, 0⟩).op = 15
theorem all_at {L : List Ins} {p : Ins → Bool} (h : L.all p = true) {k : Nat} (hk : k < L.length) : p (L.getD k ⟨0, 0, 0, 0#64, 0⟩) = true := by
  rw [List.getD_eq_getElem?_getD, List.getElem?_eq_getElem hk]
  exact List.all_eq_true.1 h _ (List.getElem_mem hk)
theorem codeErr_zero {L : List Ins} (h : codeErr L = 0) : RightP L := by
  unfold codeErr at h
  by_cases c1 : L.length = 0 ∨ 64 < L.length
  · rw [if_pos c1] at h; exact absurd h (by decide)
  rw [if_neg c1] at h
  by_cases c2 : L.all kindB = false
  · rw [if_pos c2] at h; exact absurd h (by decide)
  rw [if_neg c2] at h
  by_cases c3 : inAll L = false
  · rw [if_pos c3] at h; exact absurd h (by decide)
  rw [if_neg c3] at h
  by_cases c4 : L.all bareB = false
  · rw [if_pos c4] at h; exact absurd h (by decide)
  rw [if_neg c4] at h
  by_cases c5 : lastOp L ≠ 15
  · rw [if_pos c5] at h; exact absurd h (by decide)
  have d2 : L.all kindB = true := by simpa using c2
  have d3 : inAll L = true := by simpa using c3
  have d4 : L.all bareB = true := by simpa using c4
  have hp : 0 < L.length := by omega
  refine ⟨hp, by omega, fun k hk => ⟨all_at d2 hk, inAll_at d3 k hk, all_at d4 hk⟩, ?_⟩
  have : lastOp L = 15 := by omega
  unfold lastOp at this
  rw [List.getLast?_eq_getElem?] at this
  rw [List.getD_eq_getElem?_getD]
  rw [List.getElem?_eq_getElem (by omega)] at this ⊢
  exact this

/- loads, byte by byte, from below -/
theorem loadL_snoc (b : BitVec 8) : ∀ l : List (BitVec 8), loadL (l ++ [b]) = bor (loadL l) (bshl (b.setWidth 64) (8 * l.length))
  | [] => by simp [loadL, bor, bshl]
  | c :: l => by
    rw [List.cons_append, loadL, loadL_snoc b l]
    simp only [loadL, bor, bshl, List.length_cons]
    rw [BitVec.shiftLeft_or_distrib, ← BitVec.shiftLeft_add, show 8 * (l.length + 1) = 8 * l.length + 8 by omega, BitVec.or_assoc, BitVec.or_assoc]
    congr 1
    exact BitVec.or_comm _ _
theorem memL_succ (s : ByteArray) (a n : Nat) : memL s a (n + 1) = memL s a n ++ [byteAt s (a + n)] := by
  simp [memL, List.range_succ]
theorem memL_length (s : ByteArray) (a n : Nat) : (memL s a n).length = n := by simp [memL]
theorem memL_cons (s : ByteArray) (a n : Nat) : memL s a (n + 1) = byteAt s a :: memL s (a + 1) n := by
  simp only [memL, List.range_succ_eq_map, List.map_cons, List.map_map]
  refine congrArg (byteAt s a :: ·) (List.map_congr_left fun j _ => ?_)
  show byteAt s (a + (j + 1)) = byteAt s (a + 1 + j)
  rw [show a + (j + 1) = a + 1 + j by omega]
theorem storeL_succ (x : BitVec 64) (n : Nat) : storeL x (n + 1) = storeL x n ++ [AC.y ((bshr x (8 * n)).setWidth 8)] := by
  simp [storeL, List.range_succ]
theorem storeL_length (x : BitVec 64) (n : Nat) : (storeL x n).length = n := by simp [storeL]
theorem strOf_append (a b : List AC) : strOf (a ++ b) = strOf a ++ strOf b := by
  unfold strOf
  apply ByteArray.ext
  simp
theorem strOf_size (a : List AC) : (strOf a).size = a.length := by
  unfold strOf ByteArray.size
  simp
theorem putMem_size {s : ByteArray} {a n : Nat} (x : BitVec 64) (h : a + n ≤ s.size) : (putMem s a n x).size = s.size := by
  unfold putMem
  rw [ByteArray.size_append, ByteArray.size_append, strOf_size, storeL_length, ByteArray.size_extract, ByteArray.size_extract]
  omega
theorem far_no {i : Ins} {m : Mach} (hs : sizeB i.im = true) (h : farB i m = false) : (fromN i m).toNat + i.im.toNat ≤ 64 := by
  unfold farB at h
  have h' : ¬ nv (bsub 64#64 i.im) < nv (fromN i m) := by simpa using h
  revert h'
  unfold nv
  refine size_elim (P := fun x => ¬ (((bsub 64#64 x).toNat : Int) < ((fromN i m).toNat : Int)) → (fromN i m).toNat + x.toNat ≤ 64) hs ?_ ?_ ?_ ?_ <;>
    (intro h; revert h; generalize (fromN i m).toNat = z; intro h)
  · rw [show (bsub 64#64 1#64).toNat = 63 from rfl] at h; rw [show (1#64).toNat = 1 from rfl]; omega
  · rw [show (bsub 64#64 2#64).toNat = 62 from rfl] at h; rw [show (2#64).toNat = 2 from rfl]; omega
  · rw [show (bsub 64#64 4#64).toNat = 60 from rfl] at h; rw [show (4#64).toNat = 4 from rfl]; omega
  · rw [show (bsub 64#64 8#64).toNat = 56 from rfl] at h; rw [show (8#64).toNat = 8 from rfl]; omega

/- a step keeps the memory's size; it ends, or goes on further ahead -/
theorem fits_reach {i : Ins} {n : Int} (h : Right i n) (ho : i.op = 10 ∨ i.op = 11) : regB i.d = true ∧ regB i.s = true ∧ sizeB i.im = true ∧ -64 ≤ i.of ∧ i.of ≤ 64 := by
  have := h.fits
  unfold inB at this
  rw [if_pos ho] at this
  simpa [and_assoc] using this
theorem fits_jump {i : Ins} {n : Int} (h : Right i n) (ho : i.op = 12) : 0 ≤ i.of ∧ i.of < n ∧ i.d = 0 ∧ i.s = 0 := by
  have h1 := h.fits
  have h2 := h.bare
  unfold inB at h1
  unfold bareB at h2
  rw [if_neg (by omega), if_pos ho] at h1 h2
  simp only [goesB, Bool.and_eq_true, decide_eq_true_eq] at h1 h2
  exact ⟨h1.1, h1.2, h2.1.1, h2.1.2⟩
theorem fits_branch {i : Ins} {n : Int} (h : Right i n) (ho : i.op = 13 ∨ i.op = 14) : regB i.d = true ∧ srcB i.s = true ∧ 0 ≤ i.of ∧ i.of < n := by
  have h1 := h.fits
  unfold inB at h1
  rw [if_neg (by omega), if_neg (by omega), if_pos ho] at h1
  simpa [goesB, and_assoc] using h1
theorem fits_exit {i : Ins} {n : Int} (h : Right i n) (ho : i.op = 15) : i.d = 0 ∧ i.s = 0 ∧ i.im = 0#64 ∧ i.of = 0 := by
  have h2 := h.bare
  unfold bareB at h2
  rw [if_neg (by omega), if_neg (by omega), if_neg (by omega), if_pos ho] at h2
  simpa [eqb, and_assoc] using h2
theorem fits_two {i : Ins} {n : Int} (h : Right i n) (ho : i.op ≤ 9) : regB i.d = true ∧ srcB i.s = true ∧ i.of = 0 := by
  have h1 := h.fits
  have h2 := h.bare
  unfold inB at h1
  unfold bareB at h2
  rw [if_neg (by omega), if_neg (by omega), if_neg (by omega), if_neg (by omega)] at h1 h2
  simp only [Bool.and_eq_true, decide_eq_true_eq] at h1 h2
  exact ⟨h1.1, h1.2, h2.1⟩
/- in any right step the registers may be looked at -/
theorem right_regs {i : Ins} {n : Int} (h : Right i n) : regB i.d = true ∧ srcB i.s = true := by
  have hk := kind_iff.1 h.kind
  by_cases c1 : i.op ≤ 9
  · exact ⟨(fits_two h c1).1, (fits_two h c1).2.1⟩
  by_cases c2 : i.op = 10 ∨ i.op = 11
  · exact ⟨(fits_reach h c2).1, srcB_iff.2 (Or.inr (fits_reach h c2).2.1)⟩
  by_cases c3 : i.op = 12
  · obtain ⟨_, _, e1, e2⟩ := fits_jump h c3
    rw [e1, e2]; exact ⟨rfl, rfl⟩
  by_cases c4 : i.op = 13 ∨ i.op = 14
  · exact ⟨(fits_branch h c4).1, (fits_branch h c4).2.1⟩
  obtain ⟨e1, e2, _⟩ := fits_exit h (by omega)
  rw [e1, e2]; exact ⟨rfl, rfl⟩
theorem stepM_mem {i : Ins} {n : Int} {m : Mach} (h : Right i n) (hm : m.mem.size = 64) : (stepM i m).mem.size = 64 := by
  unfold stepM
  by_cases c0 : lacks (useOf i) m.s = true
  · rw [if_pos c0]; exact hm
  rw [if_neg c0]
  by_cases c1 : i.op = 10 ∨ i.op = 11
  · rw [if_pos c1]
    unfold reachM
    by_cases c2 : farB i m = true
    · rw [if_pos c2]; exact hm
    rw [if_neg c2]
    by_cases c3 : i.op = 10
    · rw [if_pos c3]; exact hm
    rw [if_neg c3]
    have := far_no (fits_reach h c1).2.2.1 (by simpa using c2)
    exact (putMem_size _ (by omega)).trans hm
  rw [if_neg c1]
  repeat' split
  all_goals exact hm
theorem stepM_at {i : Ins} {n : Int} {m : Mach} (h : Right i n) (hl : i.op = 15 ∨ 0 < n) (hf : m.fin = 0) : (stepM i m).fin ≠ 0 ∨ ((stepM i m).fin = 0 ∧ m.t < (stepM i m).t ∧ (stepM i m).t ≤ m.t + n) := by
  unfold stepM
  by_cases c0 : lacks (useOf i) m.s = true
  · rw [if_pos c0]; left; exact (by decide : (1 : Int) ≠ 0)
  rw [if_neg c0]
  by_cases c1 : i.op = 10 ∨ i.op = 11
  · rw [if_pos c1]
    unfold reachM
    by_cases c2 : farB i m = true
    · rw [if_pos c2]; left; exact (by decide : (2 : Int) ≠ 0)
    rw [if_neg c2]
    by_cases c3 : i.op = 10
    · rw [if_pos c3]; right
      simp only [Mach.on, Mach.wth]; omega
    rw [if_neg c3]; right
    simp only [Mach.on]; omega
  rw [if_neg c1]
  by_cases c2 : i.op = 12
  · rw [if_pos c2]; right
    have := fits_jump h c2
    simp only [Mach.on]; omega
  rw [if_neg c2]
  by_cases c3 : i.op = 13
  · rw [if_pos c3]; right
    have := fits_branch h (Or.inl c3)
    simp only [Mach.on]
    split <;> omega
  rw [if_neg c3]
  by_cases c4 : i.op = 14
  · rw [if_pos c4]; right
    have := fits_branch h (Or.inr c4)
    simp only [Mach.on]
    split <;> omega
  rw [if_neg c4]
  by_cases c5 : i.op = 15
  · rw [if_pos c5]; left; exact (by decide : (3 : Int) ≠ 0)
  rw [if_neg c5]; right
  simp only [Mach.on, Mach.wth]; omega
end Go.Proofs.Ytkigmocchaikgaa

/- A program's cells. -/
namespace Go.Proofs.Ytkigmocchaikgaa
open Go.RowKit

abbrev i0 : Ins := ⟨0, 0, 0, 0#64, 0⟩
theorem pcell_cons (i : Ins) (L : List Ins) : pcell (i :: L) = i.cs ++ pcell L := rfl
theorem pcell_length : ∀ L : List Ins, (pcell L).length = L.length * 5
  | [] => rfl
  | i :: L => by rw [pcell_cons, List.length_append, pcell_length L]; simp [Ins.cs]; omega
theorem pcell_drop : ∀ (L : List Ins) (k : Nat), (pcell L).drop (k * 5) = pcell (L.drop k)
  | L, 0 => by simp
  | [], k + 1 => by simp [pcell]
  | i :: L, k + 1 => by
    rw [pcell_cons, show (k + 1) * 5 = i.cs.length + k * 5 by simp [Ins.cs]; omega, ← List.drop_drop, List.drop_left, pcell_drop L k]
    rfl
theorem drop_at {L : List Ins} {k : Nat} (h : k < L.length) : L.drop k = L.getD k i0 :: L.drop (k + 1) := by
  rw [List.drop_eq_getElem_cons h, List.getD_eq_getElem?_getD, List.getElem?_eq_getElem h]
  rfl
theorem pcell_at {L : List Ins} {k : Nat} (h : k < L.length) : ((pcell L).drop (k * 5)).take 5 = (L.getD k i0).cs := by
  rw [pcell_drop, drop_at h, pcell_cons]
  rfl
theorem pcell_get {L : List Ins} {k o : Nat} (h : k < L.length) (ho : o < 5) (d : AC) : (pcell L).getD (k * 5 + o) d = (L.getD k i0).cs.getD o d := by
  have h1 : (pcell L)[k * 5 + o]? = (((pcell L).drop (k * 5)).take 5)[o]? := by
    rw [List.getElem?_take, if_pos ho, List.getElem?_drop]
  rw [pcell_at h] at h1
  simp only [List.getD_eq_getElem?_getD] at h1 ⊢
  rw [h1]
theorem ins_ks (i : Ins) : i.cs.flatMap AC.ks = [] := rfl
theorem pcell_ks : ∀ L : List Ins, (pcell L).flatMap AC.ks = []
  | [] => rfl
  | i :: L => by rw [pcell_cons, List.flatMap_append, pcell_ks L]; rfl
def elt (L : List Ins) (j : Nat) : Ins := L.getD j i0
theorem elt_eq (L : List Ins) (j : Nat) : L.getD j i0 = elt L j := rfl
theorem pcell_elt {L : List Ins} {k : Nat} (h : k < L.length) : ((pcell L).drop (k * 5)).take 5 = (elt L k).cs := pcell_at h
theorem pcell_op {L : List Ins} {k : Nat} (h : k < L.length) (d : AC) : (pcell L).getD (k * 5) d = .i (elt L k).op := pcell_get (o := 0) h (by decide) d
theorem drop_elt {L : List Ins} {k : Nat} (h : k < L.length) : L.drop k = elt L k :: L.drop (k + 1) := drop_at h
abbrev nilSl : AC := AC.v (Value.slice none 0 0) rfl
theorem codeErr_nil : codeErr [] = 2 := rfl
/- of the six, from the one on that has n left: is there one? -/
def anyFrom (p : Nat → Bool) : Nat → Bool
  | 0 => false
  | n + 1 => p (5 - n) || anyFrom p n
theorem lacks_from (u s : V6 Bool) : lacks u s = anyFrom (fun j => u.get j && !s.get j) 6 := by
  simp only [lacks, anyFrom, V6.get, Bool.or_false, Bool.or_assoc]
  rfl
theorem zero_from (s : V6 Bool) (r : V6 (BitVec 64)) : zeroB s r = !anyFrom (fun j => !s.get j && !eqb (r.get j) 0#64) 6 := by
  simp only [zeroB, anyFrom, V6.get, Bool.or_false, Bool.not_or, Bool.not_and, Bool.not_not, Bool.and_assoc]
  rfl
end Go.Proofs.Ytkigmocchaikgaa

/- A call's contract where a program lies in memory, and is not written. -/
namespace Go.Proofs.Ytkigmocchaikgaa
open Go.RowKit
theorem read_of {P : Program} {f : FuncId} {fn : Func} {args : List AV} {H : List (Nat × Ent)} {n : Nat} {v : AV} (hf : P.funcs[f]? = some fn) (hb : fn.body.isSome = true) (hN : Nat.ble args.length fn.ntmps = true) (hB : Begin args H n) (hv : v.ks = []) (hro : ∀ k en, look H k = some en → en.wr = false)
    (h : ∀ w β, ART P f (cx w β n []) fn.ntmps [.code (bodyOf fn)] (Kn.start args H n) (REff w β ⟨v, [], none⟩)) : CallOK P ⟨f, args, H, ⟨v, [], none⟩⟩ :=
  eff_of [] none hf hb hN hB (fun k hk => (by simp only at hk; rw [hv] at hk; cases hk)) (fun _ _ h => (nomatch h)) (fun _ h => (nomatch h)) (ekeys0 hv n) (fun _ _ hm => (nomatch hm)) (fun k en h1 h2 => (by rw [hro k en h1] at h2; cases h2)) fun w β _ => h w β
abbrev pH (L : List Ins) : List (Nat × Ent) := [(0, ⟨false, pcell L, 0⟩)]
theorem pH_look {L : List Ins} {k : Nat} {e : Ent} (h : look (pH L) k = some e) : k = 0 ∧ e = ⟨false, pcell L, 0⟩ := by
  rw [look_cons] at h
  split at h
  · rename_i hk; injection h with h; exact ⟨hk, h.symm⟩
  · cases h
theorem begin_p {L : List Ins} {args : List AV} (h : (keysOf args).all (fun k => Nat.blt k 1) = true) : Begin args (pH L) 1 := by
  refine ⟨fun v hv k hk => ?_, fun k e he => ?_⟩
  · have h1 : k ∈ keysOf args := List.mem_flatMap.2 ⟨v, hv, hk⟩
    have h2 := List.all_eq_true.1 h k h1
    simpa using h2
  · obtain ⟨rfl, rfl⟩ := pH_look he
    exact ⟨by decide, fun c hc j hj => (nk_of (pcell_ks L) hc hj).elim⟩
theorem low_p {L : List Ins} {T : List (Nat × AV)} (h : (T.flatMap fun x => x.2.ks).all (fun k => Nat.blt k 1) = true) : Kn.Low ⟨T, pH L, 1⟩ := by
  refine ⟨fun t v hv k hk => ?_, fun k e he => ?_⟩
  · have h1 : k ∈ T.flatMap fun x => x.2.ks := List.mem_flatMap.2 ⟨(t, v), look_mem hv, hk⟩
    have h2 := List.all_eq_true.1 h k h1
    simpa using h2
  · obtain ⟨rfl, rfl⟩ := pH_look he
    exact ⟨by show 0 < 1; decide, fun c hc j hj => (nk_of (pcell_ks L) hc hj).elim⟩
theorem ro_p {L : List Ins} (k : Nat) (en : Ent) (h : look (pH L) k = some en) : en.wr = false := by
  obtain ⟨_, rfl⟩ := pH_look h; rfl
theorem jl {j : Nat} {L : List Ins} (h : j < L.length) : decide ((j : Int) < (L.length : Int)) = true := decide_eq_true (by omega)
theorem jn {j : Nat} {L : List Ins} (h : ¬ j < L.length) : decide ((j : Int) < (L.length : Int)) = false := decide_eq_false (by omega)
theorem pble {j : Nat} {L : List Ins} (h : j < L.length) : Nat.ble (0 + Int.toNat (j : Int) * 5 + 5) (pcell L).length = true := by
  rw [pcell_length, Nat.ble_eq]; omega
theorem elt_eff {j : Nat} {L : List Ins} (h : j < L.length) : Eff.mk (AV.ag (List.take 5 (List.drop (0 + Int.toNat (j : Int) * 5) (pcell L)))) [] none = Eff.mk (AV.ag (elt L j).cs) [] none := by
  rw [Nat.zero_add, Int.toNat_natCast, pcell_elt h]
theorem wrapS {j : Nat} (h : j ≤ 64) : IntKind.wrap IntKind.i64 ((j : Int) + 1) = ((j + 1 : Nat) : Int) := by
  rw [IntKind.wrap_i64]; omega
def nkH : List (Nat × Ent) → Prop
  | [] => True
  | x :: l => x.2.cells.flatMap AC.ks = [] ∧ nkH l
theorem nkH_look : ∀ {H : List (Nat × Ent)} {k : Nat} {e : Ent}, nkH H → look H k = some e → e.cells.flatMap AC.ks = []
  | [], _, _, _, h => by cases h
  | (j, x) :: l, k, e, hn, h => by
    rw [look_cons] at h
    split at h
    · injection h with h; subst h; exact hn.1
    · exact nkH_look hn.2 h
theorem low_n {T : List (Nat × AV)} {H : List (Nat × Ent)} {n : Nat} (h : (T.flatMap fun x => x.2.ks).all (fun k => Nat.blt k n) = true) (hk : (H.map (·.1)).all (fun k => Nat.blt k n) = true) (hH : nkH H) : Kn.Low ⟨T, H, n⟩ := by
  refine ⟨fun t v hv k hk => ?_, fun k e he => ⟨?_, fun c hc j hj => (nk_of (nkH_look hH he) hc hj).elim⟩⟩
  · have h1 : k ∈ T.flatMap fun x => x.2.ks := List.mem_flatMap.2 ⟨(t, v), look_mem hv, hk⟩
    have h2 := List.all_eq_true.1 h k h1
    simpa using h2
  · have h2 := List.all_eq_true.1 hk k (List.mem_map.2 ⟨(k, e), look_mem he, rfl⟩)
    simpa using h2
/- a call that hands back a new block -/
theorem new_of {P : Program} {f : FuncId} {fn : Func} {args : List AV} {K : Nat} {en : Ent} {v : AV} (hf : P.funcs[f]? = some fn) (hb : fn.body.isSome = true) (hN : Nat.ble args.length fn.ntmps = true) (hk : keysOf args = []) (hv : v.ks = [K]) (hc : en.cells.flatMap AC.ks = [])
    (h : ∀ w β, EKeys 0 [] (some K) ⟨v, [], some (K, en)⟩ → ART P f (cx w β 0 []) fn.ntmps [.code (bodyOf fn)] (Kn.start args [] 0) (REff w β ⟨v, [], some (K, en)⟩)) : CallOK P ⟨f, args, [], ⟨v, [], some (K, en)⟩⟩ := by
  have e : EKeys 0 [] (some K) ⟨v, [], some (K, en)⟩ := by
    refine ⟨fun k hk => Or.inr ?_, fun _ _ hm => (nomatch hm), fun k en' h' => ?_, fun _ h => (nomatch h), fun k h => ⟨Nat.zero_le _, rfl⟩⟩
    · simp only at hk; rw [hv] at hk; rw [List.mem_singleton.1 hk]
    · injection h' with h'; injection h' with _ h'; subst h'; exact hc
  refine eff_of [] (some K) hf hb hN (begin0 hk) (fun k hk => Or.inr ?_) (fun k en' h' => ?_) (fun k h => ⟨en, ?_⟩) e (fun _ _ hm => (nomatch hm)) (fun _ _ h => (nomatch h)) fun w β _ => h w β e
  · simp only at hk; rw [hv] at hk; rw [List.mem_singleton.1 hk]
  · injection h' with h'; injection h' with h' _; rw [h']
  · injection h with h; subst h; rfl
def swp (a b : Nat) (j : Nat) : Nat := if j = a then b else if j = b then a else j
theorem swp_inj (a b : Nat) : ∀ i j, swp a b i = swp a b j → i = j := by
  intro i j h
  unfold swp at h
  split at h <;> split at h <;> (try split at h) <;> (try split at h) <;> omega
end Go.Proofs.Ytkigmocchaikgaa

/- What an argument is that is a machine, or a program; a contract that reads it, as the row asks for it. -/
namespace Go.Proofs.Ytkigmocchaikgaa
open Go.ChangeShapes Go.WideShapes Go.ChangeAt Go.RowKit Go.Joins

theorem isI_of {c : AC} (h : normOkC (.int .i64) c = true) : ∃ n, c = .i n := by
  cases c using AC.tells <;> first | (exact ⟨_, rfl⟩) | (simp [normOkC, AC.isI] at h)
theorem isU_of {c : AC} (h : normOkC (.int .u64) c = true) : ∃ n, c = .u n := by
  cases c using AC.tells <;> first | (exact ⟨_, rfl⟩) | (simp [normOkC, AC.isU] at h)
theorem isB_of {c : AC} (h : normOkC .bool c = true) : ∃ n, c = .b n := by
  cases c using AC.tells <;> first | (exact ⟨_, rfl⟩) | (simp [normOkC, AC.isB] at h)
theorem isS_of {c : AC} (h : normOkC .string c = true) : ∃ n, c = .s n := by
  cases c using AC.tells <;> first | (exact ⟨_, rfl⟩) | (simp [normOkC, AC.isS] at h)
theorem typed_cons {d : TypeDesc} {ds : List TypeDesc} {l : List AC} (h : typed (d :: ds) l = true) : ∃ c r, l = c :: r ∧ normOkC d c = true ∧ typed ds r = true := by
  cases l with
  | nil => cases h
  | cons c r =>
    simp only [typed, Bool.and_eq_true] at h
    exact ⟨c, r, rfl, h.1, h.2⟩
theorem typed_nil {l : List AC} (h : typed [] l = true) : l = [] := by
  cases l with
  | nil => rfl
  | cons c r => cases h
theorem ins_of {l : List AC} (h : typed [.int .i64, .int .i64, .int .i64, .int .u64, .int .i64] l = true) : ∃ i : Ins, l = i.cs := by
  obtain ⟨c0, r, rfl, h0, h⟩ := typed_cons h
  obtain ⟨c1, r, rfl, h1, h⟩ := typed_cons h
  obtain ⟨c2, r, rfl, h2, h⟩ := typed_cons h
  obtain ⟨c3, r, rfl, h3, h⟩ := typed_cons h
  obtain ⟨c4, r, rfl, h4, h⟩ := typed_cons h
  obtain rfl := typed_nil h
  obtain ⟨a, rfl⟩ := isI_of h0
  obtain ⟨b, rfl⟩ := isI_of h1
  obtain ⟨c, rfl⟩ := isI_of h2
  obtain ⟨d, rfl⟩ := isU_of h3
  obtain ⟨e, rfl⟩ := isI_of h4
  exact ⟨⟨a, b, c, d, e⟩, rfl⟩
theorem mach_of {l : List AC} (h : typed [.int .i64, .int .u64, .int .u64, .int .u64, .int .u64, .int .u64, .int .u64, .bool, .bool, .bool, .bool, .bool, .bool, .string, .int .i64] l = true) : ∃ m : Mach, l = m.cs := by
  obtain ⟨c0, q0, rfl, h0, g0⟩ := typed_cons h
  obtain ⟨c1, q1, rfl, h1, g1⟩ := typed_cons g0
  obtain ⟨c2, q2, rfl, h2, g2⟩ := typed_cons g1
  obtain ⟨c3, q3, rfl, h3, g3⟩ := typed_cons g2
  obtain ⟨c4, q4, rfl, h4, g4⟩ := typed_cons g3
  obtain ⟨c5, q5, rfl, h5, g5⟩ := typed_cons g4
  obtain ⟨c6, q6, rfl, h6, g6⟩ := typed_cons g5
  obtain ⟨c7, q7, rfl, h7, g7⟩ := typed_cons g6
  obtain ⟨c8, q8, rfl, h8, g8⟩ := typed_cons g7
  obtain ⟨c9, q9, rfl, h9, g9⟩ := typed_cons g8
  obtain ⟨c10, q10, rfl, h10, g10⟩ := typed_cons g9
  obtain ⟨c11, q11, rfl, h11, g11⟩ := typed_cons g10
  obtain ⟨c12, q12, rfl, h12, g12⟩ := typed_cons g11
  obtain ⟨c13, q13, rfl, h13, g13⟩ := typed_cons g12
  obtain ⟨c14, q14, rfl, h14, g14⟩ := typed_cons g13
  obtain rfl := typed_nil g14
  obtain ⟨t, rfl⟩ := isI_of h0
  obtain ⟨r0, rfl⟩ := isU_of h1
  obtain ⟨r1, rfl⟩ := isU_of h2
  obtain ⟨r2, rfl⟩ := isU_of h3
  obtain ⟨r3, rfl⟩ := isU_of h4
  obtain ⟨r4, rfl⟩ := isU_of h5
  obtain ⟨r5, rfl⟩ := isU_of h6
  obtain ⟨s0, rfl⟩ := isB_of h7
  obtain ⟨s1, rfl⟩ := isB_of h8
  obtain ⟨s2, rfl⟩ := isB_of h9
  obtain ⟨s3, rfl⟩ := isB_of h10
  obtain ⟨s4, rfl⟩ := isB_of h11
  obtain ⟨s5, rfl⟩ := isB_of h12
  obtain ⟨mem, rfl⟩ := isS_of h13
  obtain ⟨fin, rfl⟩ := isI_of h14
  exact ⟨⟨t, ⟨r0, r1, r2, r3, r4, r5⟩, ⟨s0, s1, s2, s3, s4, s5⟩, mem, fin⟩, rfl⟩
theorem Try.leafsIns : leafs Try.prog 8 112 = some [.int .i64, .int .i64, .int .i64, .int .u64, .int .i64] := by kernel_rfl
theorem Try.cellsIns : Try.prog.cellsOf 112 = 5 := by kernel_rfl
theorem Try.leafsMach : leafs Try.prog 8 78 = some [.int .i64, .int .u64, .int .u64, .int .u64, .int .u64, .int .u64, .int .u64, .bool, .bool, .bool, .bool, .bool, .bool, .string, .int .i64] := by kernel_rfl
theorem Try.cellsMach : Try.prog.cellsOf 78 = 15 := by kernel_rfl
section
variable {H : Type} {enc : TypeId × Value → H} {W : World} {b0 : Nat} {spare : Nat → Bool} {held : Bool} {v : Value} {d : DataW H} {p : List MemPlace}
set_option maxRecDepth 100000 in
theorem arg_mach (hv : Value.okWide Try.prog W .any b0 78 v) (h : DataW.Trod enc Try.prog W 0 spare held 78 v d p) : ∃ m : Mach, ∀ β, v = (AV.ag m.cs).g β := by
  obtain ⟨cs, rfl, hsz⟩ := okWide_struct Try.underlying78 hv
  obtain ⟨fuel, hf⟩ := h
  obtain ⟨l, h1, _, h3⟩ := trod_leaf 8 _ _ Try.leafsMach Try.cellsMach.symm _ ⟨fuel, _, hf⟩
  obtain ⟨m, rfl⟩ := mach_of h1
  refine ⟨m, fun β => ?_⟩
  have := h3 β
  show Value.agg cs = Value.agg (m.cs.map (AC.g β)).toArray
  rw [← this]
  simp [Value.cells]
set_option maxRecDepth 100000 in
theorem arg_str (hv : Value.okWide Try.prog W .any b0 9 v) : ∃ s, v = .string s := okWide_string Try.underlying9 hv
/- a program: none, or one that lies in memory from a place on -/
def PAt (W : World) (b o : Nat) (L : List Ins) : Prop := b < W.heap.size ∧ ∀ j c, (pcell L)[j]? = some c → ∀ β, W.cell? ⟨b, o + j, none⟩ = some (AC.g β c)
theorem pcell_app (L M : List Ins) : pcell (L ++ M) = pcell L ++ pcell M := by simp [pcell]
theorem prog_read {b o : Nat} (hb : b < W.heap.size) : ∀ n : Nat, (∀ i, i < n → ∃ ins : Ins, ∀ j, j < 5 → ∀ β, W.cell? ⟨b, o + i * 5 + j, none⟩ = ins.cs[j]?.map (AC.g β)) → ∃ L : List Ins, L.length = n ∧ PAt W b o L
  | 0, _ => ⟨[], rfl, hb, fun j c h => by simp [pcell] at h⟩
  | n + 1, h => by
    obtain ⟨L, hL, _, hC⟩ := prog_read hb n (fun i hi => h i (by omega))
    obtain ⟨ins, hi⟩ := h n (by omega)
    refine ⟨L ++ [ins], by simp [hL], hb, fun j c hj β => ?_⟩
    have e : pcell [ins] = ins.cs := by simp [pcell]
    rw [pcell_app, e] at hj
    have hl := pcell_length L
    rcases Nat.lt_or_ge j (pcell L).length with h1 | h1
    · rw [List.getElem?_append_left h1] at hj
      exact hC j c hj β
    · rw [List.getElem?_append_right h1] at hj
      have h5 : j - (pcell L).length < 5 := by
        rcases Nat.lt_or_ge (j - (pcell L).length) 5 with h2 | h2
        · exact h2
        · rw [List.getElem?_eq_none (by simpa [Ins.cs] using h2)] at hj; cases hj
      have := hi _ h5 β
      rw [hj] at this
      rw [show o + j = o + n * 5 + (j - (pcell L).length) by omega]
      exact this
set_option maxRecDepth 100000 in
theorem arg_prog (hv : Value.okWide Try.prog W .any b0 74 v) (h : DataW.Trod enc Try.prog W 0 spare held 74 v d p) : v = .slice none 0 0 ∨ ∃ b o L c, v = .slice (some ⟨b, o, none⟩) L.length c ∧ PAt W b o L := by
  obtain ⟨a, len, cap, rfl⟩ := okWide_slice Try.underlying74 hv
  obtain ⟨fuel, hf⟩ := h
  rcases DataW.trod_slice Try.underlying74 hf with ⟨h1, _⟩ | ⟨a', len', cap', elems, rest, n, _, h1, _, _, _, _, hle, hel, _, _⟩
  · left; simpa [Value.cells] using h1
  · right
    simp [Value.cells] at h1
    obtain ⟨rfl, rfl, rfl⟩ := h1
    have hsp : a'.spot = none ∧ a'.block < W.heap.size := by
      simp only [Value.okWide, Try.underlying74, Cell.okWide, Cell.ok] at hv
      obtain ⟨_, _, hh⟩ := hv
      unfold World.has at hh
      obtain ⟨_, h2, row, cells, h3, _⟩ := hh
      refine ⟨h2, ?_⟩
      unfold World.shape? at h3
      rcases Nat.lt_or_ge a'.block W.heap.size with h4 | h4
      · exact h4
      · rw [Array.getElem?_eq_none h4] at h3; cases h3
    obtain ⟨b, o, sp⟩ := a'
    obtain ⟨rfl, hb⟩ := hsp
    simp only at hb
    have hadd : ∀ o k, Addr.add ⟨b, o, none⟩ k = ⟨b, o + k, none⟩ := fun o k => by
      unfold Addr.add
      split
      · rename_i h; subst h; rfl
      · rfl
    obtain ⟨L, hL, hP⟩ := prog_read (o := o) hb len (fun i hi => by
      have h2 := hel i hi
      rw [List.getElem?_eq_getElem (by omega), Try.cellsIns] at h2
      obtain ⟨cs, h3, h4⟩ := Option.bind_eq_some_iff.1 h2
      obtain ⟨l, h5, _, h6⟩ := trod_leaf 8 _ _ Try.leafsIns Try.cellsIns.symm _ ⟨n, _, h4⟩
      obtain ⟨ins, rfl⟩ := ins_of h5
      refine ⟨ins, fun j hj β => ?_⟩
      unfold World.cells? at h3
      rw [if_pos (Nat.zero_le _)] at h3
      have h7 := mapM_some_get h3 j j (by simp [hj])
      rw [hadd, hadd] at h7
      rw [h7, h6 β, List.getElem?_map])
    exact ⟨b, o, L, cap, by rw [hL], hP⟩
end
theorem calls_read {P : Program} {f : FuncId} {A : Array Value} {args : List AV} {L : List Ins} {W : World} {b o c : Nat} (hP : PAt W b o L) (hA : (args.map (AV.g (fun _ => (b, o, c)))).toArray = A) (h : CallOK P ⟨f, args, pH L, ⟨.c (.b true), [], none⟩⟩) :
    Calls P f A W fun e w' => e = .returned (.bool true) ∧ Below W.heap.size W w' := by
  have := h.call (fun _ => (b, o, c)) W (fun k e he => ?_) (fun k e _ _ he _ _ hw => ?_)
  · rw [← hA]
    refine this.mono fun e w' ⟨β', he, hu⟩ => ⟨by rw [he]; rfl, ?_⟩
    exact ⟨hu.frame.os, hu.frame.tape, hu.frame.output, hu.frame.size, fun k hk => hu.frame.block k hk fun ⟨_, _, hm, _⟩ => by cases hm⟩
  · obtain ⟨rfl, rfl⟩ := pH_look he
    exact ⟨hP.1, fun j c hj => hP.2 j c hj _, (fun h => by cases h), fun h => absurd rfl h⟩
  · rw [ro_p k e he] at hw; cases hw
end Go.Proofs.Ytkigmocchaikgaa

/- The laws' own programs and memory. -/
namespace Go.Proofs.Ytkigmocchaikgaa
def gL : List Ins := [⟨1, 0, -1, 0#64, 0⟩, ⟨14, 1, -1, 64#64, 1⟩, ⟨15, 0, 0, 0#64, 0⟩, ⟨10, 0, 1, 1#64, 0⟩, ⟨2, 0, -1, 1#64, 0⟩, ⟨15, 0, 0, 0#64, 0⟩]
def g2 : List Ins := [⟨10, 0, 1, 8#64, 0⟩, ⟨15, 0, 0, 0#64, 0⟩]
def memB : ByteArray := strOf ((List.range 64).map fun j => AC.y (BitVec.ofNat 8 (j + 1)))
def m1 : Mach := ⟨1, ⟨0#64, 9#64, 0#64, 0#64, 0#64, 0#64⟩, ⟨true, true, false, false, false, false⟩, memB, 0⟩
end Go.Proofs.Ytkigmocchaikgaa

/- Ways of bodies, written by a program (ways.py): what each asks for, and hands back. -/
namespace Go.Proofs.Ytkigmocchaikgaa
open Go.RowKit

theorem guarded_w0 {w : World} {β : Bs} {n : Nat} (hk : EKeys n [] (some 7) ⟨AV.c (AC.sl 7 0 6 6), [], some (7, Ent.mk true [AC.i 1, AC.i 0, AC.i (-1), AC.u 0#64, AC.i 0, AC.i 14, AC.i 1, AC.i (-1), AC.u 64#64, AC.i 1, AC.i 15, AC.i 0, AC.i 0, AC.u 0#64, AC.i 0, AC.i 10, AC.i 0, AC.i 1, AC.u 1#64, AC.i 0, AC.i 2, AC.i 0, AC.i (-1), AC.u 1#64, AC.i 0, AC.i 15, AC.i 0, AC.i 0, AC.u 0#64, AC.i 0] 0)⟩) :
    ART Try.prog 109 (cx w β n []) Try.f109.ntmps ([Item.code (bodyOf Try.f109)]) (Kn.start [] [] 0) (REff w β ⟨AV.c (AC.sl 7 0 6 6), [], some (7, Ent.mk true [AC.i 1, AC.i 0, AC.i (-1), AC.u 0#64, AC.i 0, AC.i 14, AC.i 1, AC.i (-1), AC.u 64#64, AC.i 1, AC.i 15, AC.i 0, AC.i 0, AC.u 0#64, AC.i 0, AC.i 10, AC.i 0, AC.i 1, AC.u 1#64, AC.i 0, AC.i 2, AC.i 0, AC.i (-1), AC.u 1#64, AC.i 0, AC.i 15, AC.i 0, AC.i 0, AC.u 0#64, AC.i 0] 0)⟩) :=
  run_eff [] (some 7) 2000 [] [] ([]) [] Try.func109 hk (by kernel_rfl) rfl cr_nil
theorem memF_w0 :
    CallOK Try.prog ⟨110, [], [], ⟨AV.c (AC.s (strOf (List.take 64 (List.drop 0 (splice (splice (splice (splice (splice (splice (splice (splice (splice (splice (splice (splice (splice (splice (splice (splice (splice (splice (splice (splice (splice (splice (splice (splice (splice (splice (splice (splice (splice (splice (splice (splice (splice (splice (splice (splice (splice (splice (splice (splice (splice (splice (splice (splice (splice (splice (splice (splice (splice (splice (splice (splice (splice (splice (splice (splice (splice (splice (splice (splice (splice (splice (splice (splice (rows 64 [AC.y 0#8]) 0 [AC.y (BitVec.ofInt 8 1)]) 1 [AC.y (BitVec.ofInt 8 2)]) 2 [AC.y (BitVec.ofInt 8 3)]) 3 [AC.y (BitVec.ofInt 8 4)]) 4 [AC.y (BitVec.ofInt 8 5)]) 5 [AC.y (BitVec.ofInt 8 6)]) 6 [AC.y (BitVec.ofInt 8 7)]) 7 [AC.y (BitVec.ofInt 8 8)]) 8 [AC.y (BitVec.ofInt 8 9)]) 9 [AC.y (BitVec.ofInt 8 10)]) 10 [AC.y (BitVec.ofInt 8 11)]) 11 [AC.y (BitVec.ofInt 8 12)]) 12 [AC.y (BitVec.ofInt 8 13)]) 13 [AC.y (BitVec.ofInt 8 14)]) 14 [AC.y (BitVec.ofInt 8 15)]) 15 [AC.y (BitVec.ofInt 8 16)]) 16 [AC.y (BitVec.ofInt 8 17)]) 17 [AC.y (BitVec.ofInt 8 18)]) 18 [AC.y (BitVec.ofInt 8 19)]) 19 [AC.y (BitVec.ofInt 8 20)]) 20 [AC.y (BitVec.ofInt 8 21)]) 21 [AC.y (BitVec.ofInt 8 22)]) 22 [AC.y (BitVec.ofInt 8 23)]) 23 [AC.y (BitVec.ofInt 8 24)]) 24 [AC.y (BitVec.ofInt 8 25)]) 25 [AC.y (BitVec.ofInt 8 26)]) 26 [AC.y (BitVec.ofInt 8 27)]) 27 [AC.y (BitVec.ofInt 8 28)]) 28 [AC.y (BitVec.ofInt 8 29)]) 29 [AC.y (BitVec.ofInt 8 30)]) 30 [AC.y (BitVec.ofInt 8 31)]) 31 [AC.y (BitVec.ofInt 8 32)]) 32 [AC.y (BitVec.ofInt 8 33)]) 33 [AC.y (BitVec.ofInt 8 34)]) 34 [AC.y (BitVec.ofInt 8 35)]) 35 [AC.y (BitVec.ofInt 8 36)]) 36 [AC.y (BitVec.ofInt 8 37)]) 37 [AC.y (BitVec.ofInt 8 38)]) 38 [AC.y (BitVec.ofInt 8 39)]) 39 [AC.y (BitVec.ofInt 8 40)]) 40 [AC.y (BitVec.ofInt 8 41)]) 41 [AC.y (BitVec.ofInt 8 42)]) 42 [AC.y (BitVec.ofInt 8 43)]) 43 [AC.y (BitVec.ofInt 8 44)]) 44 [AC.y (BitVec.ofInt 8 45)]) 45 [AC.y (BitVec.ofInt 8 46)]) 46 [AC.y (BitVec.ofInt 8 47)]) 47 [AC.y (BitVec.ofInt 8 48)]) 48 [AC.y (BitVec.ofInt 8 49)]) 49 [AC.y (BitVec.ofInt 8 50)]) 50 [AC.y (BitVec.ofInt 8 51)]) 51 [AC.y (BitVec.ofInt 8 52)]) 52 [AC.y (BitVec.ofInt 8 53)]) 53 [AC.y (BitVec.ofInt 8 54)]) 54 [AC.y (BitVec.ofInt 8 55)]) 55 [AC.y (BitVec.ofInt 8 56)]) 56 [AC.y (BitVec.ofInt 8 57)]) 57 [AC.y (BitVec.ofInt 8 58)]) 58 [AC.y (BitVec.ofInt 8 59)]) 59 [AC.y (BitVec.ofInt 8 60)]) 60 [AC.y (BitVec.ofInt 8 61)]) 61 [AC.y (BitVec.ofInt 8 62)]) 62 [AC.y (BitVec.ofInt 8 63)]) 63 [AC.y (BitVec.ofInt 8 64)]))))), [], none⟩⟩ :=
  val_run 2000 [] ([true, true, true, true, true, true, true, true, true, true, true, true, true, true, true, true, true, true, true, true, true, true, true, true, true, true, true, true, true, true, true, true, true, true, true, true, true, true, true, true] ++ [true, true, true, true, true, true, true, true, true, true, true, true, true, true, true, true, true, true, true, true, true, true, true, true, false]) (List.replicate 65 false) [] Try.func110 rfl rfl rfl rfl (by kernel_rfl) rfl cr_nil
theorem runBegun_w0 (c0 : CallOK Try.prog (CallRec.mk 109 [] [] (Eff.mk (AV.c (AC.sl 1 0 6 6)) [] (some (1, Ent.mk true (pcell gL) 0))))) (c1 : CallOK Try.prog (CallRec.mk 110 [] [] (Eff.mk (AV.c (AC.s memB)) [] none))) (c2 : CallOK Try.prog (CallRec.mk 67 [AV.c (AC.sl 1 0 6 6), AV.c (AC.s memB), AV.c (AC.u 7#64)] [(1, Ent.mk true (pcell gL) 0)] (Eff.mk (AV.tu [AT.ag (Outc.cs (Outc.mk 3 5 5 (9#64) memB)), AT.c (AC.i 0)]) [] none))) (c3 : CallOK Try.prog (CallRec.mk 109 [] [] (Eff.mk (AV.c (AC.sl 10 0 6 6)) [] (some (10, Ent.mk true (pcell gL) 0))))) (c4 : CallOK Try.prog (CallRec.mk 110 [] [] (Eff.mk (AV.c (AC.s memB)) [] none))) (c5 : CallOK Try.prog (CallRec.mk 67 [AV.c (AC.sl 10 0 6 6), AV.c (AC.s memB), AV.c (AC.u 64#64)] [(10, Ent.mk true (pcell gL) 0)] (Eff.mk (AV.tu [AT.ag (Outc.cs (Outc.mk 3 2 3 (0#64) memB)), AT.c (AC.i 0)]) [] none))) (c6 : CallOK Try.prog (CallRec.mk 110 [] [] (Eff.mk (AV.c (AC.s memB)) [] none))) (c7 : CallOK Try.prog (CallRec.mk 60 [AV.c (AC.s memB), AV.c (AC.u 9#64)] [] (Eff.mk (AV.tu [AT.ag (Mach.cs (startM memB 9#64)), AT.c (AC.i 0)]) [] none))) (c8 : CallOK Try.prog (CallRec.mk 109 [] [] (Eff.mk (AV.c (AC.sl 27 0 6 6)) [] (some (27, Ent.mk true (pcell gL) 0))))) (c9 : CallOK Try.prog (CallRec.mk 59 [AV.c (AC.sl 27 0 6 6), AV.ag [AC.i 0, AC.u 0#64, AC.u 9#64, AC.u 0#64, AC.u 0#64, AC.u 0#64, AC.u 0#64, AC.b false, AC.b true, AC.b false, AC.b false, AC.b false, AC.b false, AC.s memB, AC.i 0]] [(27, Ent.mk true (pcell gL) 0)] (Eff.mk (AV.tu [AT.ag (Mach.cs m1), AT.c (AC.i 0)]) [] none))) (c10 : CallOK Try.prog (CallRec.mk 59 [AV.c (AC.sl 37 0 2 2), AV.ag [AC.i 1, AC.u 0#64, AC.u 9#64, AC.u 0#64, AC.u 0#64, AC.u 0#64, AC.u 0#64, AC.b true, AC.b true, AC.b false, AC.b false, AC.b false, AC.b false, AC.s memB, AC.i 0]] [(37, Ent.mk true [AC.i 10, AC.i 0, AC.i 1, AC.u 8#64, AC.i 0, AC.i 15, AC.i 0, AC.i 0, AC.u 0#64, AC.i 0] 0)] (Eff.mk (AV.tu [AT.ag (Mach.cs (stepRes g2 m1)), AT.c (AC.i 0)]) [] none))) (c11 : CallOK Try.prog (CallRec.mk 110 [] [] (Eff.mk (AV.c (AC.s memB)) [] none))) (c12 : CallOK Try.prog (CallRec.mk 110 [] [] (Eff.mk (AV.c (AC.s memB)) [] none))) :
    CallOK Try.prog ⟨65, [], [], ⟨AV.c (AC.b true), [], none⟩⟩ :=
  val_run 2000 [Eff.mk (AV.c (AC.sl 1 0 6 6)) [] (some (1, Ent.mk true (pcell gL) 0)), Eff.mk (AV.c (AC.s memB)) [] none, Eff.mk (AV.tu [AT.ag (Outc.cs (Outc.mk 3 5 5 (9#64) memB)), AT.c (AC.i 0)]) [] none, Eff.mk (AV.c (AC.sl 10 0 6 6)) [] (some (10, Ent.mk true (pcell gL) 0)), Eff.mk (AV.c (AC.s memB)) [] none, Eff.mk (AV.tu [AT.ag (Outc.cs (Outc.mk 3 2 3 (0#64) memB)), AT.c (AC.i 0)]) [] none, Eff.mk (AV.c (AC.s memB)) [] none, Eff.mk (AV.tu [AT.ag (Mach.cs (startM memB 9#64)), AT.c (AC.i 0)]) [] none, Eff.mk (AV.c (AC.sl 27 0 6 6)) [] (some (27, Ent.mk true (pcell gL) 0)), Eff.mk (AV.tu [AT.ag (Mach.cs m1), AT.c (AC.i 0)]) [] none, Eff.mk (AV.tu [AT.ag (Mach.cs (stepRes g2 m1)), AT.c (AC.i 0)]) [] none, Eff.mk (AV.c (AC.s memB)) [] none, Eff.mk (AV.c (AC.s memB)) [] none] [true, true, true, true, true, true, true, true] ([]) [] Try.func65 rfl rfl rfl rfl (by kernel_rfl) rfl (cr_cons c0 (cr_cons c1 (cr_cons c2 (cr_cons c3 (cr_cons c4 (cr_cons c5 (cr_cons c6 (cr_cons c7 (cr_cons c8 (cr_cons c9 (cr_cons c10 (cr_cons c11 (cr_cons c12 cr_nil)))))))))))))
end Go.Proofs.Ytkigmocchaikgaa

/- Ways of bodies, written by a program (ways.py): what each asks for, and hands back. -/
namespace Go.Proofs.Ytkigmocchaikgaa
open Go.RowKit

theorem rsAy_w0 {L : List Ins} {c : Nat} {m : Mach} {n1 : Mach} {b1 : Mach} {b2 : Mach} {s : ByteArray} {x : BitVec 64} {e : Int} {f : Int} {ce : Int} {me : Int} {w : World} {β : Bs} {n : Nat} (h : (!ce == 0 && (!ce == 0 && (!ce == 0 && ((↑(ByteArray.size s) : Int) == 64 && (me == me && (e == ce && (eqCs (Mach.cs n1) [AC.i 0, AC.u 0#64, AC.u 0#64, AC.u 0#64, AC.u 0#64, AC.u 0#64, AC.u 0#64, AC.b false, AC.b false, AC.b false, AC.b false, AC.b false, AC.b false, AC.s (ByteArray.mk #[]), AC.i 0] && (f == 0 && true)))))))) = true) (c0 : CallOK Try.prog (CallRec.mk 59 [AV.c (AC.sl 0 0 (List.length L) c), AV.ag (Mach.cs m)] [(0, Ent.mk false (pcell L) 0)] (Eff.mk (AV.tu [AT.ag (Mach.cs n1), AT.c (AC.i e)]) [] none))) (c1 : CallOK Try.prog (CallRec.mk 60 [AV.c (AC.s s), AV.c (AC.u x)] [] (Eff.mk (AV.tu [AT.ag (Mach.cs b1), AT.c (AC.i f)]) [] none))) (c2 : CallOK Try.prog (CallRec.mk 61 [AV.c (AC.sl 0 0 (List.length L) c)] [(0, Ent.mk false (pcell L) 0)] (Eff.mk (AV.c (AC.i ce)) [] none))) (c3 : CallOK Try.prog (CallRec.mk 64 [AV.c (AC.s s), AV.c (AC.u x)] [] (Eff.mk (AV.ag (Mach.cs b2)) [] none))) (c4 : CallOK Try.prog (CallRec.mk 65 [] [] (Eff.mk (AV.c (AC.b true)) [] none))) (c5 : CallOK Try.prog (CallRec.mk 66 [AV.ag (Mach.cs m)] [] (Eff.mk (AV.c (AC.i me)) [] none))) (c6 : CallOK Try.prog (CallRec.mk 62 [AV.ag (Mach.cs m)] [] (Eff.mk (AV.c (AC.i me)) [] none))) :
    ART Try.prog 11 (cx w β n []) Try.f11.ntmps ([Item.code (bodyOf Try.f11)]) (Kn.start [AV.c (AC.sl 0 0 (List.length L) c), AV.ag (Mach.cs m), AV.c (AC.s s), AV.c (AC.u x)] [(0, Ent.mk false (pcell L) 0)] 1) (REff w β ⟨AV.c (AC.b (eqCs (Mach.cs b1) (Mach.cs b2))), [], none⟩) :=
  run_eff [] (none) 2000 [Eff.mk (AV.tu [AT.ag (Mach.cs n1), AT.c (AC.i e)]) [] none, Eff.mk (AV.tu [AT.ag (Mach.cs b1), AT.c (AC.i f)]) [] none, Eff.mk (AV.c (AC.i ce)) [] none, Eff.mk (AV.ag (Mach.cs b2)) [] none, Eff.mk (AV.c (AC.b true)) [] none, Eff.mk (AV.c (AC.i me)) [] none, Eff.mk (AV.c (AC.i me)) [] none] [false, false, false, false, true, true, true, true, true, true] [] [] Try.func11 (ekeys0 rfl n) (by kernel_rfl) h (cr_cons c0 (cr_cons c1 (cr_cons c2 (cr_cons c3 (cr_cons c4 (cr_cons c5 (cr_cons c6 cr_nil)))))))
theorem rsBy_w0 {L : List Ins} {c : Nat} {m : Mach} {n1 : Mach} {b1 : Mach} {b2 : Mach} {s : ByteArray} {x : BitVec 64} {e : Int} {f : Int} {ce : Int} {me : Int} {w : World} {β : Bs} {n : Nat} (h : (ce == 0 && (!me == 0 && (!me == 0 && ((↑(ByteArray.size s) : Int) == 64 && (me == me && (e == me && (eqCs (Mach.cs n1) [AC.i 0, AC.u 0#64, AC.u 0#64, AC.u 0#64, AC.u 0#64, AC.u 0#64, AC.u 0#64, AC.b false, AC.b false, AC.b false, AC.b false, AC.b false, AC.b false, AC.s (ByteArray.mk #[]), AC.i 0] && (f == 0 && true)))))))) = true) (c0 : CallOK Try.prog (CallRec.mk 59 [AV.c (AC.sl 0 0 (List.length L) c), AV.ag (Mach.cs m)] [(0, Ent.mk false (pcell L) 0)] (Eff.mk (AV.tu [AT.ag (Mach.cs n1), AT.c (AC.i e)]) [] none))) (c1 : CallOK Try.prog (CallRec.mk 60 [AV.c (AC.s s), AV.c (AC.u x)] [] (Eff.mk (AV.tu [AT.ag (Mach.cs b1), AT.c (AC.i f)]) [] none))) (c2 : CallOK Try.prog (CallRec.mk 61 [AV.c (AC.sl 0 0 (List.length L) c)] [(0, Ent.mk false (pcell L) 0)] (Eff.mk (AV.c (AC.i ce)) [] none))) (c3 : CallOK Try.prog (CallRec.mk 62 [AV.ag (Mach.cs m)] [] (Eff.mk (AV.c (AC.i me)) [] none))) (c4 : CallOK Try.prog (CallRec.mk 64 [AV.c (AC.s s), AV.c (AC.u x)] [] (Eff.mk (AV.ag (Mach.cs b2)) [] none))) (c5 : CallOK Try.prog (CallRec.mk 65 [] [] (Eff.mk (AV.c (AC.b true)) [] none))) (c6 : CallOK Try.prog (CallRec.mk 66 [AV.ag (Mach.cs m)] [] (Eff.mk (AV.c (AC.i me)) [] none))) (c7 : CallOK Try.prog (CallRec.mk 62 [AV.ag (Mach.cs m)] [] (Eff.mk (AV.c (AC.i me)) [] none))) :
    ART Try.prog 11 (cx w β n []) Try.f11.ntmps ([Item.code (bodyOf Try.f11)]) (Kn.start [AV.c (AC.sl 0 0 (List.length L) c), AV.ag (Mach.cs m), AV.c (AC.s s), AV.c (AC.u x)] [(0, Ent.mk false (pcell L) 0)] 1) (REff w β ⟨AV.c (AC.b (eqCs (Mach.cs b1) (Mach.cs b2))), [], none⟩) :=
  run_eff [] (none) 2000 [Eff.mk (AV.tu [AT.ag (Mach.cs n1), AT.c (AC.i e)]) [] none, Eff.mk (AV.tu [AT.ag (Mach.cs b1), AT.c (AC.i f)]) [] none, Eff.mk (AV.c (AC.i ce)) [] none, Eff.mk (AV.c (AC.i me)) [] none, Eff.mk (AV.ag (Mach.cs b2)) [] none, Eff.mk (AV.c (AC.b true)) [] none, Eff.mk (AV.c (AC.i me)) [] none, Eff.mk (AV.c (AC.i me)) [] none] [true, false, false, false, true, true, true, true, true, true] [] [] Try.func11 (ekeys0 rfl n) (by kernel_rfl) h (cr_cons c0 (cr_cons c1 (cr_cons c2 (cr_cons c3 (cr_cons c4 (cr_cons c5 (cr_cons c6 (cr_cons c7 cr_nil))))))))
theorem rsCy_w0 {L : List Ins} {c : Nat} {m : Mach} {n1 : Mach} {b1 : Mach} {b2 : Mach} {s : ByteArray} {x : BitVec 64} {e : Int} {f : Int} {ce : Int} {me : Int} {w : World} {β : Bs} {n : Nat} (h : (ce == 0 && (me == 0 && (decide ((↑(List.length L) : Int) ≤ Mach.t m) && ((↑(ByteArray.size s) : Int) == 64 && (me == me && (e == 3 && (eqCs (Mach.cs n1) [AC.i 0, AC.u 0#64, AC.u 0#64, AC.u 0#64, AC.u 0#64, AC.u 0#64, AC.u 0#64, AC.b false, AC.b false, AC.b false, AC.b false, AC.b false, AC.b false, AC.s (ByteArray.mk #[]), AC.i 0] && (f == 0 && true)))))))) = true) (c0 : CallOK Try.prog (CallRec.mk 59 [AV.c (AC.sl 0 0 (List.length L) c), AV.ag (Mach.cs m)] [(0, Ent.mk false (pcell L) 0)] (Eff.mk (AV.tu [AT.ag (Mach.cs n1), AT.c (AC.i e)]) [] none))) (c1 : CallOK Try.prog (CallRec.mk 60 [AV.c (AC.s s), AV.c (AC.u x)] [] (Eff.mk (AV.tu [AT.ag (Mach.cs b1), AT.c (AC.i f)]) [] none))) (c2 : CallOK Try.prog (CallRec.mk 61 [AV.c (AC.sl 0 0 (List.length L) c)] [(0, Ent.mk false (pcell L) 0)] (Eff.mk (AV.c (AC.i ce)) [] none))) (c3 : CallOK Try.prog (CallRec.mk 62 [AV.ag (Mach.cs m)] [] (Eff.mk (AV.c (AC.i me)) [] none))) (c4 : CallOK Try.prog (CallRec.mk 64 [AV.c (AC.s s), AV.c (AC.u x)] [] (Eff.mk (AV.ag (Mach.cs b2)) [] none))) (c5 : CallOK Try.prog (CallRec.mk 65 [] [] (Eff.mk (AV.c (AC.b true)) [] none))) (c6 : CallOK Try.prog (CallRec.mk 66 [AV.ag (Mach.cs m)] [] (Eff.mk (AV.c (AC.i me)) [] none))) (c7 : CallOK Try.prog (CallRec.mk 62 [AV.ag (Mach.cs m)] [] (Eff.mk (AV.c (AC.i me)) [] none))) :
    ART Try.prog 11 (cx w β n []) Try.f11.ntmps ([Item.code (bodyOf Try.f11)]) (Kn.start [AV.c (AC.sl 0 0 (List.length L) c), AV.ag (Mach.cs m), AV.c (AC.s s), AV.c (AC.u x)] [(0, Ent.mk false (pcell L) 0)] 1) (REff w β ⟨AV.c (AC.b (eqCs (Mach.cs b1) (Mach.cs b2))), [], none⟩) :=
  run_eff [] (none) 2000 [Eff.mk (AV.tu [AT.ag (Mach.cs n1), AT.c (AC.i e)]) [] none, Eff.mk (AV.tu [AT.ag (Mach.cs b1), AT.c (AC.i f)]) [] none, Eff.mk (AV.c (AC.i ce)) [] none, Eff.mk (AV.c (AC.i me)) [] none, Eff.mk (AV.ag (Mach.cs b2)) [] none, Eff.mk (AV.c (AC.b true)) [] none, Eff.mk (AV.c (AC.i me)) [] none, Eff.mk (AV.c (AC.i me)) [] none] [true, true, true, false, true, true, true, true, true, true] [] [] Try.func11 (ekeys0 rfl n) (by kernel_rfl) h (cr_cons c0 (cr_cons c1 (cr_cons c2 (cr_cons c3 (cr_cons c4 (cr_cons c5 (cr_cons c6 (cr_cons c7 cr_nil))))))))
theorem rsDy_w0 {L : List Ins} {c : Nat} {m : Mach} {n1 : Mach} {n2 : Mach} {b1 : Mach} {b2 : Mach} {s : ByteArray} {x : BitVec 64} {e : Int} {f : Int} {ce : Int} {me : Int} {w : World} {β : Bs} {n : Nat} (h : (ce == 0 && (me == 0 && (!decide ((↑(List.length L) : Int) ≤ Mach.t m) && (me == 0 && ((↑(ByteArray.size s) : Int) == 64 && (me == me && (e == me && (eqCs (Mach.cs n1) (Mach.cs n2) && (f == 0 && true))))))))) = true) (c0 : CallOK Try.prog (CallRec.mk 59 [AV.c (AC.sl 0 0 (List.length L) c), AV.ag (Mach.cs m)] [(0, Ent.mk false (pcell L) 0)] (Eff.mk (AV.tu [AT.ag (Mach.cs n1), AT.c (AC.i e)]) [] none))) (c1 : CallOK Try.prog (CallRec.mk 60 [AV.c (AC.s s), AV.c (AC.u x)] [] (Eff.mk (AV.tu [AT.ag (Mach.cs b1), AT.c (AC.i f)]) [] none))) (c2 : CallOK Try.prog (CallRec.mk 61 [AV.c (AC.sl 0 0 (List.length L) c)] [(0, Ent.mk false (pcell L) 0)] (Eff.mk (AV.c (AC.i ce)) [] none))) (c3 : CallOK Try.prog (CallRec.mk 62 [AV.ag (Mach.cs m)] [] (Eff.mk (AV.c (AC.i me)) [] none))) (c4 : CallOK Try.prog (CallRec.mk 63 [AV.c (AC.sl 0 0 (List.length L) c), AV.ag (Mach.cs m)] [(0, Ent.mk false (pcell L) 0)] (Eff.mk (AV.ag (Mach.cs n2)) [] none))) (c5 : CallOK Try.prog (CallRec.mk 64 [AV.c (AC.s s), AV.c (AC.u x)] [] (Eff.mk (AV.ag (Mach.cs b2)) [] none))) (c6 : CallOK Try.prog (CallRec.mk 65 [] [] (Eff.mk (AV.c (AC.b true)) [] none))) (c7 : CallOK Try.prog (CallRec.mk 66 [AV.ag (Mach.cs m)] [] (Eff.mk (AV.c (AC.i me)) [] none))) (c8 : CallOK Try.prog (CallRec.mk 62 [AV.ag (Mach.cs m)] [] (Eff.mk (AV.c (AC.i me)) [] none))) :
    ART Try.prog 11 (cx w β n []) Try.f11.ntmps ([Item.code (bodyOf Try.f11)]) (Kn.start [AV.c (AC.sl 0 0 (List.length L) c), AV.ag (Mach.cs m), AV.c (AC.s s), AV.c (AC.u x)] [(0, Ent.mk false (pcell L) 0)] 1) (REff w β ⟨AV.c (AC.b (eqCs (Mach.cs b1) (Mach.cs b2))), [], none⟩) :=
  run_eff [] (none) 2000 [Eff.mk (AV.tu [AT.ag (Mach.cs n1), AT.c (AC.i e)]) [] none, Eff.mk (AV.tu [AT.ag (Mach.cs b1), AT.c (AC.i f)]) [] none, Eff.mk (AV.c (AC.i ce)) [] none, Eff.mk (AV.c (AC.i me)) [] none, Eff.mk (AV.ag (Mach.cs n2)) [] none, Eff.mk (AV.ag (Mach.cs b2)) [] none, Eff.mk (AV.c (AC.b true)) [] none, Eff.mk (AV.c (AC.i me)) [] none, Eff.mk (AV.c (AC.i me)) [] none] [true, true, false, true, true, true, true, true, true, true] [] [] Try.func11 (ekeys0 rfl n) (by kernel_rfl) h (cr_cons c0 (cr_cons c1 (cr_cons c2 (cr_cons c3 (cr_cons c4 (cr_cons c5 (cr_cons c6 (cr_cons c7 (cr_cons c8 cr_nil)))))))))
theorem rsAn_w0 {L : List Ins} {c : Nat} {m : Mach} {n1 : Mach} {b1 : Mach} {s : ByteArray} {x : BitVec 64} {e : Int} {f : Int} {ce : Int} {me : Int} {w : World} {β : Bs} {n : Nat} (h : (!ce == 0 && (!ce == 0 && (!ce == 0 && (!(↑(ByteArray.size s) : Int) == 64 && (me == me && (e == ce && (eqCs (Mach.cs n1) [AC.i 0, AC.u 0#64, AC.u 0#64, AC.u 0#64, AC.u 0#64, AC.u 0#64, AC.u 0#64, AC.b false, AC.b false, AC.b false, AC.b false, AC.b false, AC.b false, AC.s (ByteArray.mk #[]), AC.i 0] && (f == 1 && true)))))))) = true) (c0 : CallOK Try.prog (CallRec.mk 59 [AV.c (AC.sl 0 0 (List.length L) c), AV.ag (Mach.cs m)] [(0, Ent.mk false (pcell L) 0)] (Eff.mk (AV.tu [AT.ag (Mach.cs n1), AT.c (AC.i e)]) [] none))) (c1 : CallOK Try.prog (CallRec.mk 60 [AV.c (AC.s s), AV.c (AC.u x)] [] (Eff.mk (AV.tu [AT.ag (Mach.cs b1), AT.c (AC.i f)]) [] none))) (c2 : CallOK Try.prog (CallRec.mk 61 [AV.c (AC.sl 0 0 (List.length L) c)] [(0, Ent.mk false (pcell L) 0)] (Eff.mk (AV.c (AC.i ce)) [] none))) (c3 : CallOK Try.prog (CallRec.mk 65 [] [] (Eff.mk (AV.c (AC.b true)) [] none))) (c4 : CallOK Try.prog (CallRec.mk 66 [AV.ag (Mach.cs m)] [] (Eff.mk (AV.c (AC.i me)) [] none))) (c5 : CallOK Try.prog (CallRec.mk 62 [AV.ag (Mach.cs m)] [] (Eff.mk (AV.c (AC.i me)) [] none))) :
    ART Try.prog 11 (cx w β n []) Try.f11.ntmps ([Item.code (bodyOf Try.f11)]) (Kn.start [AV.c (AC.sl 0 0 (List.length L) c), AV.ag (Mach.cs m), AV.c (AC.s s), AV.c (AC.u x)] [(0, Ent.mk false (pcell L) 0)] 1) (REff w β ⟨AV.c (AC.b (eqCs (Mach.cs b1) [AC.i 0, AC.u 0#64, AC.u 0#64, AC.u 0#64, AC.u 0#64, AC.u 0#64, AC.u 0#64, AC.b false, AC.b false, AC.b false, AC.b false, AC.b false, AC.b false, AC.s (ByteArray.mk #[]), AC.i 0])), [], none⟩) :=
  run_eff [] (none) 2000 [Eff.mk (AV.tu [AT.ag (Mach.cs n1), AT.c (AC.i e)]) [] none, Eff.mk (AV.tu [AT.ag (Mach.cs b1), AT.c (AC.i f)]) [] none, Eff.mk (AV.c (AC.i ce)) [] none, Eff.mk (AV.c (AC.b true)) [] none, Eff.mk (AV.c (AC.i me)) [] none, Eff.mk (AV.c (AC.i me)) [] none] [false, false, false, false, false, true, true, true, true, true] [] [] Try.func11 (ekeys0 rfl n) (by kernel_rfl) h (cr_cons c0 (cr_cons c1 (cr_cons c2 (cr_cons c3 (cr_cons c4 (cr_cons c5 cr_nil))))))
theorem rsBn_w0 {L : List Ins} {c : Nat} {m : Mach} {n1 : Mach} {b1 : Mach} {s : ByteArray} {x : BitVec 64} {e : Int} {f : Int} {ce : Int} {me : Int} {w : World} {β : Bs} {n : Nat} (h : (ce == 0 && (!me == 0 && (!me == 0 && (!(↑(ByteArray.size s) : Int) == 64 && (me == me && (e == me && (eqCs (Mach.cs n1) [AC.i 0, AC.u 0#64, AC.u 0#64, AC.u 0#64, AC.u 0#64, AC.u 0#64, AC.u 0#64, AC.b false, AC.b false, AC.b false, AC.b false, AC.b false, AC.b false, AC.s (ByteArray.mk #[]), AC.i 0] && (f == 1 && true)))))))) = true) (c0 : CallOK Try.prog (CallRec.mk 59 [AV.c (AC.sl 0 0 (List.length L) c), AV.ag (Mach.cs m)] [(0, Ent.mk false (pcell L) 0)] (Eff.mk (AV.tu [AT.ag (Mach.cs n1), AT.c (AC.i e)]) [] none))) (c1 : CallOK Try.prog (CallRec.mk 60 [AV.c (AC.s s), AV.c (AC.u x)] [] (Eff.mk (AV.tu [AT.ag (Mach.cs b1), AT.c (AC.i f)]) [] none))) (c2 : CallOK Try.prog (CallRec.mk 61 [AV.c (AC.sl 0 0 (List.length L) c)] [(0, Ent.mk false (pcell L) 0)] (Eff.mk (AV.c (AC.i ce)) [] none))) (c3 : CallOK Try.prog (CallRec.mk 62 [AV.ag (Mach.cs m)] [] (Eff.mk (AV.c (AC.i me)) [] none))) (c4 : CallOK Try.prog (CallRec.mk 65 [] [] (Eff.mk (AV.c (AC.b true)) [] none))) (c5 : CallOK Try.prog (CallRec.mk 66 [AV.ag (Mach.cs m)] [] (Eff.mk (AV.c (AC.i me)) [] none))) (c6 : CallOK Try.prog (CallRec.mk 62 [AV.ag (Mach.cs m)] [] (Eff.mk (AV.c (AC.i me)) [] none))) :
    ART Try.prog 11 (cx w β n []) Try.f11.ntmps ([Item.code (bodyOf Try.f11)]) (Kn.start [AV.c (AC.sl 0 0 (List.length L) c), AV.ag (Mach.cs m), AV.c (AC.s s), AV.c (AC.u x)] [(0, Ent.mk false (pcell L) 0)] 1) (REff w β ⟨AV.c (AC.b (eqCs (Mach.cs b1) [AC.i 0, AC.u 0#64, AC.u 0#64, AC.u 0#64, AC.u 0#64, AC.u 0#64, AC.u 0#64, AC.b false, AC.b false, AC.b false, AC.b false, AC.b false, AC.b false, AC.s (ByteArray.mk #[]), AC.i 0])), [], none⟩) :=
  run_eff [] (none) 2000 [Eff.mk (AV.tu [AT.ag (Mach.cs n1), AT.c (AC.i e)]) [] none, Eff.mk (AV.tu [AT.ag (Mach.cs b1), AT.c (AC.i f)]) [] none, Eff.mk (AV.c (AC.i ce)) [] none, Eff.mk (AV.c (AC.i me)) [] none, Eff.mk (AV.c (AC.b true)) [] none, Eff.mk (AV.c (AC.i me)) [] none, Eff.mk (AV.c (AC.i me)) [] none] [true, false, false, false, false, true, true, true, true, true] [] [] Try.func11 (ekeys0 rfl n) (by kernel_rfl) h (cr_cons c0 (cr_cons c1 (cr_cons c2 (cr_cons c3 (cr_cons c4 (cr_cons c5 (cr_cons c6 cr_nil)))))))
theorem rsCn_w0 {L : List Ins} {c : Nat} {m : Mach} {n1 : Mach} {b1 : Mach} {s : ByteArray} {x : BitVec 64} {e : Int} {f : Int} {ce : Int} {me : Int} {w : World} {β : Bs} {n : Nat} (h : (ce == 0 && (me == 0 && (decide ((↑(List.length L) : Int) ≤ Mach.t m) && (!(↑(ByteArray.size s) : Int) == 64 && (me == me && (e == 3 && (eqCs (Mach.cs n1) [AC.i 0, AC.u 0#64, AC.u 0#64, AC.u 0#64, AC.u 0#64, AC.u 0#64, AC.u 0#64, AC.b false, AC.b false, AC.b false, AC.b false, AC.b false, AC.b false, AC.s (ByteArray.mk #[]), AC.i 0] && (f == 1 && true)))))))) = true) (c0 : CallOK Try.prog (CallRec.mk 59 [AV.c (AC.sl 0 0 (List.length L) c), AV.ag (Mach.cs m)] [(0, Ent.mk false (pcell L) 0)] (Eff.mk (AV.tu [AT.ag (Mach.cs n1), AT.c (AC.i e)]) [] none))) (c1 : CallOK Try.prog (CallRec.mk 60 [AV.c (AC.s s), AV.c (AC.u x)] [] (Eff.mk (AV.tu [AT.ag (Mach.cs b1), AT.c (AC.i f)]) [] none))) (c2 : CallOK Try.prog (CallRec.mk 61 [AV.c (AC.sl 0 0 (List.length L) c)] [(0, Ent.mk false (pcell L) 0)] (Eff.mk (AV.c (AC.i ce)) [] none))) (c3 : CallOK Try.prog (CallRec.mk 62 [AV.ag (Mach.cs m)] [] (Eff.mk (AV.c (AC.i me)) [] none))) (c4 : CallOK Try.prog (CallRec.mk 65 [] [] (Eff.mk (AV.c (AC.b true)) [] none))) (c5 : CallOK Try.prog (CallRec.mk 66 [AV.ag (Mach.cs m)] [] (Eff.mk (AV.c (AC.i me)) [] none))) (c6 : CallOK Try.prog (CallRec.mk 62 [AV.ag (Mach.cs m)] [] (Eff.mk (AV.c (AC.i me)) [] none))) :
    ART Try.prog 11 (cx w β n []) Try.f11.ntmps ([Item.code (bodyOf Try.f11)]) (Kn.start [AV.c (AC.sl 0 0 (List.length L) c), AV.ag (Mach.cs m), AV.c (AC.s s), AV.c (AC.u x)] [(0, Ent.mk false (pcell L) 0)] 1) (REff w β ⟨AV.c (AC.b (eqCs (Mach.cs b1) [AC.i 0, AC.u 0#64, AC.u 0#64, AC.u 0#64, AC.u 0#64, AC.u 0#64, AC.u 0#64, AC.b false, AC.b false, AC.b false, AC.b false, AC.b false, AC.b false, AC.s (ByteArray.mk #[]), AC.i 0])), [], none⟩) :=
  run_eff [] (none) 2000 [Eff.mk (AV.tu [AT.ag (Mach.cs n1), AT.c (AC.i e)]) [] none, Eff.mk (AV.tu [AT.ag (Mach.cs b1), AT.c (AC.i f)]) [] none, Eff.mk (AV.c (AC.i ce)) [] none, Eff.mk (AV.c (AC.i me)) [] none, Eff.mk (AV.c (AC.b true)) [] none, Eff.mk (AV.c (AC.i me)) [] none, Eff.mk (AV.c (AC.i me)) [] none] [true, true, true, false, false, true, true, true, true, true] [] [] Try.func11 (ekeys0 rfl n) (by kernel_rfl) h (cr_cons c0 (cr_cons c1 (cr_cons c2 (cr_cons c3 (cr_cons c4 (cr_cons c5 (cr_cons c6 cr_nil)))))))
theorem rsDn_w0 {L : List Ins} {c : Nat} {m : Mach} {n1 : Mach} {n2 : Mach} {b1 : Mach} {s : ByteArray} {x : BitVec 64} {e : Int} {f : Int} {ce : Int} {me : Int} {w : World} {β : Bs} {n : Nat} (h : (ce == 0 && (me == 0 && (!decide ((↑(List.length L) : Int) ≤ Mach.t m) && (me == 0 && (!(↑(ByteArray.size s) : Int) == 64 && (me == me && (e == me && (eqCs (Mach.cs n1) (Mach.cs n2) && (f == 1 && true))))))))) = true) (c0 : CallOK Try.prog (CallRec.mk 59 [AV.c (AC.sl 0 0 (List.length L) c), AV.ag (Mach.cs m)] [(0, Ent.mk false (pcell L) 0)] (Eff.mk (AV.tu [AT.ag (Mach.cs n1), AT.c (AC.i e)]) [] none))) (c1 : CallOK Try.prog (CallRec.mk 60 [AV.c (AC.s s), AV.c (AC.u x)] [] (Eff.mk (AV.tu [AT.ag (Mach.cs b1), AT.c (AC.i f)]) [] none))) (c2 : CallOK Try.prog (CallRec.mk 61 [AV.c (AC.sl 0 0 (List.length L) c)] [(0, Ent.mk false (pcell L) 0)] (Eff.mk (AV.c (AC.i ce)) [] none))) (c3 : CallOK Try.prog (CallRec.mk 62 [AV.ag (Mach.cs m)] [] (Eff.mk (AV.c (AC.i me)) [] none))) (c4 : CallOK Try.prog (CallRec.mk 63 [AV.c (AC.sl 0 0 (List.length L) c), AV.ag (Mach.cs m)] [(0, Ent.mk false (pcell L) 0)] (Eff.mk (AV.ag (Mach.cs n2)) [] none))) (c5 : CallOK Try.prog (CallRec.mk 65 [] [] (Eff.mk (AV.c (AC.b true)) [] none))) (c6 : CallOK Try.prog (CallRec.mk 66 [AV.ag (Mach.cs m)] [] (Eff.mk (AV.c (AC.i me)) [] none))) (c7 : CallOK Try.prog (CallRec.mk 62 [AV.ag (Mach.cs m)] [] (Eff.mk (AV.c (AC.i me)) [] none))) :
    ART Try.prog 11 (cx w β n []) Try.f11.ntmps ([Item.code (bodyOf Try.f11)]) (Kn.start [AV.c (AC.sl 0 0 (List.length L) c), AV.ag (Mach.cs m), AV.c (AC.s s), AV.c (AC.u x)] [(0, Ent.mk false (pcell L) 0)] 1) (REff w β ⟨AV.c (AC.b (eqCs (Mach.cs b1) [AC.i 0, AC.u 0#64, AC.u 0#64, AC.u 0#64, AC.u 0#64, AC.u 0#64, AC.u 0#64, AC.b false, AC.b false, AC.b false, AC.b false, AC.b false, AC.b false, AC.s (ByteArray.mk #[]), AC.i 0])), [], none⟩) :=
  run_eff [] (none) 2000 [Eff.mk (AV.tu [AT.ag (Mach.cs n1), AT.c (AC.i e)]) [] none, Eff.mk (AV.tu [AT.ag (Mach.cs b1), AT.c (AC.i f)]) [] none, Eff.mk (AV.c (AC.i ce)) [] none, Eff.mk (AV.c (AC.i me)) [] none, Eff.mk (AV.ag (Mach.cs n2)) [] none, Eff.mk (AV.c (AC.b true)) [] none, Eff.mk (AV.c (AC.i me)) [] none, Eff.mk (AV.c (AC.i me)) [] none] [true, true, false, true, false, true, true, true, true, true] [] [] Try.func11 (ekeys0 rfl n) (by kernel_rfl) h (cr_cons c0 (cr_cons c1 (cr_cons c2 (cr_cons c3 (cr_cons c4 (cr_cons c5 (cr_cons c6 (cr_cons c7 cr_nil))))))))
theorem rsNAy_w0 {m : Mach} {n1 : Mach} {b1 : Mach} {b2 : Mach} {s : ByteArray} {x : BitVec 64} {e : Int} {f : Int} {ce : Int} {me : Int} (h : (!ce == 0 && (!ce == 0 && (!ce == 0 && ((↑(ByteArray.size s) : Int) == 64 && (me == me && (e == ce && (eqCs (Mach.cs n1) [AC.i 0, AC.u 0#64, AC.u 0#64, AC.u 0#64, AC.u 0#64, AC.u 0#64, AC.u 0#64, AC.b false, AC.b false, AC.b false, AC.b false, AC.b false, AC.b false, AC.s (ByteArray.mk #[]), AC.i 0] && (f == 0 && true)))))))) = true) (c0 : CallOK Try.prog (CallRec.mk 59 [AV.c nilSl, AV.ag (Mach.cs m)] [] (Eff.mk (AV.tu [AT.ag (Mach.cs n1), AT.c (AC.i e)]) [] none))) (c1 : CallOK Try.prog (CallRec.mk 60 [AV.c (AC.s s), AV.c (AC.u x)] [] (Eff.mk (AV.tu [AT.ag (Mach.cs b1), AT.c (AC.i f)]) [] none))) (c2 : CallOK Try.prog (CallRec.mk 61 [AV.c nilSl] [] (Eff.mk (AV.c (AC.i ce)) [] none))) (c3 : CallOK Try.prog (CallRec.mk 64 [AV.c (AC.s s), AV.c (AC.u x)] [] (Eff.mk (AV.ag (Mach.cs b2)) [] none))) (c4 : CallOK Try.prog (CallRec.mk 65 [] [] (Eff.mk (AV.c (AC.b true)) [] none))) (c5 : CallOK Try.prog (CallRec.mk 66 [AV.ag (Mach.cs m)] [] (Eff.mk (AV.c (AC.i me)) [] none))) (c6 : CallOK Try.prog (CallRec.mk 62 [AV.ag (Mach.cs m)] [] (Eff.mk (AV.c (AC.i me)) [] none))) :
    CallOK Try.prog ⟨11, [AV.c nilSl, AV.ag (Mach.cs m), AV.c (AC.s s), AV.c (AC.u x)], [], ⟨AV.c (AC.b (eqCs (Mach.cs b1) (Mach.cs b2))), [], none⟩⟩ :=
  val_run 2000 [Eff.mk (AV.tu [AT.ag (Mach.cs n1), AT.c (AC.i e)]) [] none, Eff.mk (AV.tu [AT.ag (Mach.cs b1), AT.c (AC.i f)]) [] none, Eff.mk (AV.c (AC.i ce)) [] none, Eff.mk (AV.ag (Mach.cs b2)) [] none, Eff.mk (AV.c (AC.b true)) [] none, Eff.mk (AV.c (AC.i me)) [] none, Eff.mk (AV.c (AC.i me)) [] none] [false, false, false, false, true, true, true, true, true, true] [] [] Try.func11 rfl rfl rfl rfl (by kernel_rfl) h (cr_cons c0 (cr_cons c1 (cr_cons c2 (cr_cons c3 (cr_cons c4 (cr_cons c5 (cr_cons c6 cr_nil)))))))
theorem rsNAn_w0 {m : Mach} {n1 : Mach} {b1 : Mach} {s : ByteArray} {x : BitVec 64} {e : Int} {f : Int} {ce : Int} {me : Int} (h : (!ce == 0 && (!ce == 0 && (!ce == 0 && (!(↑(ByteArray.size s) : Int) == 64 && (me == me && (e == ce && (eqCs (Mach.cs n1) [AC.i 0, AC.u 0#64, AC.u 0#64, AC.u 0#64, AC.u 0#64, AC.u 0#64, AC.u 0#64, AC.b false, AC.b false, AC.b false, AC.b false, AC.b false, AC.b false, AC.s (ByteArray.mk #[]), AC.i 0] && (f == 1 && true)))))))) = true) (c0 : CallOK Try.prog (CallRec.mk 59 [AV.c nilSl, AV.ag (Mach.cs m)] [] (Eff.mk (AV.tu [AT.ag (Mach.cs n1), AT.c (AC.i e)]) [] none))) (c1 : CallOK Try.prog (CallRec.mk 60 [AV.c (AC.s s), AV.c (AC.u x)] [] (Eff.mk (AV.tu [AT.ag (Mach.cs b1), AT.c (AC.i f)]) [] none))) (c2 : CallOK Try.prog (CallRec.mk 61 [AV.c nilSl] [] (Eff.mk (AV.c (AC.i ce)) [] none))) (c3 : CallOK Try.prog (CallRec.mk 65 [] [] (Eff.mk (AV.c (AC.b true)) [] none))) (c4 : CallOK Try.prog (CallRec.mk 66 [AV.ag (Mach.cs m)] [] (Eff.mk (AV.c (AC.i me)) [] none))) (c5 : CallOK Try.prog (CallRec.mk 62 [AV.ag (Mach.cs m)] [] (Eff.mk (AV.c (AC.i me)) [] none))) :
    CallOK Try.prog ⟨11, [AV.c nilSl, AV.ag (Mach.cs m), AV.c (AC.s s), AV.c (AC.u x)], [], ⟨AV.c (AC.b (eqCs (Mach.cs b1) [AC.i 0, AC.u 0#64, AC.u 0#64, AC.u 0#64, AC.u 0#64, AC.u 0#64, AC.u 0#64, AC.b false, AC.b false, AC.b false, AC.b false, AC.b false, AC.b false, AC.s (ByteArray.mk #[]), AC.i 0])), [], none⟩⟩ :=
  val_run 2000 [Eff.mk (AV.tu [AT.ag (Mach.cs n1), AT.c (AC.i e)]) [] none, Eff.mk (AV.tu [AT.ag (Mach.cs b1), AT.c (AC.i f)]) [] none, Eff.mk (AV.c (AC.i ce)) [] none, Eff.mk (AV.c (AC.b true)) [] none, Eff.mk (AV.c (AC.i me)) [] none, Eff.mk (AV.c (AC.i me)) [] none] [false, false, false, false, false, true, true, true, true, true] [] [] Try.func11 rfl rfl rfl rfl (by kernel_rfl) h (cr_cons c0 (cr_cons c1 (cr_cons c2 (cr_cons c3 (cr_cons c4 (cr_cons c5 cr_nil))))))
theorem rrA_w0 {L : List Ins} {c : Nat} {r1 : Outc} {s : ByteArray} {x : BitVec 64} {e : Int} {ce : Int} {w : World} {β : Bs} {n : Nat} (h : (!ce == 0 && (!ce == 0 && (e == ce && true))) = true) (c0 : CallOK Try.prog (CallRec.mk 67 [AV.c (AC.sl 0 0 (List.length L) c), AV.c (AC.s s), AV.c (AC.u x)] [(0, Ent.mk false (pcell L) 0)] (Eff.mk (AV.tu [AT.ag (Outc.cs r1), AT.c (AC.i e)]) [] none))) (c1 : CallOK Try.prog (CallRec.mk 61 [AV.c (AC.sl 0 0 (List.length L) c)] [(0, Ent.mk false (pcell L) 0)] (Eff.mk (AV.c (AC.i ce)) [] none))) (c2 : CallOK Try.prog (CallRec.mk 65 [] [] (Eff.mk (AV.c (AC.b true)) [] none))) :
    ART Try.prog 12 (cx w β n []) Try.f12.ntmps ([Item.code (bodyOf Try.f12)]) (Kn.start [AV.c (AC.sl 0 0 (List.length L) c), AV.c (AC.s s), AV.c (AC.u x)] [(0, Ent.mk false (pcell L) 0)] 1) (REff w β ⟨AV.c (AC.b (eqCs (Outc.cs r1) [AC.i 0, AC.i 0, AC.i 0, AC.u 0#64, AC.s (ByteArray.mk #[])])), [], none⟩) :=
  run_eff [] (none) 2000 [Eff.mk (AV.tu [AT.ag (Outc.cs r1), AT.c (AC.i e)]) [] none, Eff.mk (AV.c (AC.i ce)) [] none, Eff.mk (AV.c (AC.b true)) [] none] [false, false, false, true, true] [] [] Try.func12 (ekeys0 rfl n) (by kernel_rfl) h (cr_cons c0 (cr_cons c1 (cr_cons c2 cr_nil)))
theorem rrB_w0 {L : List Ins} {c : Nat} {r1 : Outc} {s : ByteArray} {x : BitVec 64} {e : Int} {ce : Int} {w : World} {β : Bs} {n : Nat} (h : (ce == 0 && ((↑(ByteArray.size s) : Int) != 64 && (e == 1 && true))) = true) (c0 : CallOK Try.prog (CallRec.mk 67 [AV.c (AC.sl 0 0 (List.length L) c), AV.c (AC.s s), AV.c (AC.u x)] [(0, Ent.mk false (pcell L) 0)] (Eff.mk (AV.tu [AT.ag (Outc.cs r1), AT.c (AC.i e)]) [] none))) (c1 : CallOK Try.prog (CallRec.mk 61 [AV.c (AC.sl 0 0 (List.length L) c)] [(0, Ent.mk false (pcell L) 0)] (Eff.mk (AV.c (AC.i ce)) [] none))) (c2 : CallOK Try.prog (CallRec.mk 65 [] [] (Eff.mk (AV.c (AC.b true)) [] none))) :
    ART Try.prog 12 (cx w β n []) Try.f12.ntmps ([Item.code (bodyOf Try.f12)]) (Kn.start [AV.c (AC.sl 0 0 (List.length L) c), AV.c (AC.s s), AV.c (AC.u x)] [(0, Ent.mk false (pcell L) 0)] 1) (REff w β ⟨AV.c (AC.b (eqCs (Outc.cs r1) [AC.i 0, AC.i 0, AC.i 0, AC.u 0#64, AC.s (ByteArray.mk #[])])), [], none⟩) :=
  run_eff [] (none) 2000 [Eff.mk (AV.tu [AT.ag (Outc.cs r1), AT.c (AC.i e)]) [] none, Eff.mk (AV.c (AC.i ce)) [] none, Eff.mk (AV.c (AC.b true)) [] none] [true, true, false, true, true] [] [] Try.func12 (ekeys0 rfl n) (by kernel_rfl) h (cr_cons c0 (cr_cons c1 (cr_cons c2 cr_nil)))
theorem rrD_w0 {L : List Ins} {c : Nat} {r1 : Outc} {r2 : Outc} {s : ByteArray} {x : BitVec 64} {e : Int} {ce : Int} {w : World} {β : Bs} {n : Nat} (h : (ce == 0 && (!(↑(ByteArray.size s) : Int) != 64 && (ce == 0 && (e == ce && true)))) = true) (c0 : CallOK Try.prog (CallRec.mk 67 [AV.c (AC.sl 0 0 (List.length L) c), AV.c (AC.s s), AV.c (AC.u x)] [(0, Ent.mk false (pcell L) 0)] (Eff.mk (AV.tu [AT.ag (Outc.cs r1), AT.c (AC.i e)]) [] none))) (c1 : CallOK Try.prog (CallRec.mk 61 [AV.c (AC.sl 0 0 (List.length L) c)] [(0, Ent.mk false (pcell L) 0)] (Eff.mk (AV.c (AC.i ce)) [] none))) (c2 : CallOK Try.prog (CallRec.mk 68 [AV.c (AC.sl 0 0 (List.length L) c), AV.c (AC.s s), AV.c (AC.u x)] [(0, Ent.mk false (pcell L) 0)] (Eff.mk (AV.ag (Outc.cs r2)) [] none))) (c3 : CallOK Try.prog (CallRec.mk 65 [] [] (Eff.mk (AV.c (AC.b true)) [] none))) :
    ART Try.prog 12 (cx w β n []) Try.f12.ntmps ([Item.code (bodyOf Try.f12)]) (Kn.start [AV.c (AC.sl 0 0 (List.length L) c), AV.c (AC.s s), AV.c (AC.u x)] [(0, Ent.mk false (pcell L) 0)] 1) (REff w β ⟨AV.c (AC.b (eqCs (Outc.cs r1) (Outc.cs r2))), [], none⟩) :=
  run_eff [] (none) 2000 [Eff.mk (AV.tu [AT.ag (Outc.cs r1), AT.c (AC.i e)]) [] none, Eff.mk (AV.c (AC.i ce)) [] none, Eff.mk (AV.ag (Outc.cs r2)) [] none, Eff.mk (AV.c (AC.b true)) [] none] [true, false, true, true, true] [] [] Try.func12 (ekeys0 rfl n) (by kernel_rfl) h (cr_cons c0 (cr_cons c1 (cr_cons c2 (cr_cons c3 cr_nil))))
theorem rrNA_w0 {r1 : Outc} {s : ByteArray} {x : BitVec 64} {e : Int} {ce : Int} (h : (!ce == 0 && (!ce == 0 && (e == ce && true))) = true) (c0 : CallOK Try.prog (CallRec.mk 67 [AV.c nilSl, AV.c (AC.s s), AV.c (AC.u x)] [] (Eff.mk (AV.tu [AT.ag (Outc.cs r1), AT.c (AC.i e)]) [] none))) (c1 : CallOK Try.prog (CallRec.mk 61 [AV.c nilSl] [] (Eff.mk (AV.c (AC.i ce)) [] none))) (c2 : CallOK Try.prog (CallRec.mk 65 [] [] (Eff.mk (AV.c (AC.b true)) [] none))) :
    CallOK Try.prog ⟨12, [AV.c nilSl, AV.c (AC.s s), AV.c (AC.u x)], [], ⟨AV.c (AC.b (eqCs (Outc.cs r1) [AC.i 0, AC.i 0, AC.i 0, AC.u 0#64, AC.s (ByteArray.mk #[])])), [], none⟩⟩ :=
  val_run 2000 [Eff.mk (AV.tu [AT.ag (Outc.cs r1), AT.c (AC.i e)]) [] none, Eff.mk (AV.c (AC.i ce)) [] none, Eff.mk (AV.c (AC.b true)) [] none] [false, false, false, true, true] [] [] Try.func12 rfl rfl rfl rfl (by kernel_rfl) h (cr_cons c0 (cr_cons c1 (cr_cons c2 cr_nil)))
end Go.Proofs.Ytkigmocchaikgaa
