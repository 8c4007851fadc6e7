/- The contracts of the reference's InsideBits and BitsHave. -/
import Derived.Test.YtglollajdjgciaaW1
namespace Go.Proofs.Ytglollajdjgciaa
open Go.RowKit
attribute [local go_sem] w_and w_or w_xor w_andNot w_and1 w_and63 w_add w_sub w_mul w_sub1 w_add1 w_shl w_shl1 w_shr c_beq c_bne c_beq0 c_bne0 c_beq1 c_bne1 wrap_nv

def hasB (v m x : BitVec 64) : Bool := eqb (band v m) zero && eqb (bandn x m) v
set_option maxHeartbeats 400000 in
theorem bitsHave_any (v m x : BitVec 64) (w : World) :
    Calls Try.prog 25 #[Bt v m, U x] w fun e w' => e = .returned (.bool (hasB v m x)) ∧ Below w.heap.size w w' := by
  have Hh : Hid (hasB v m x = (eqb (band v m) zero && eqb (bandn x m) v)) := rfl
  cases hr : eqb (band v m) zero
  all_goals
    rw [hr] at Hh
    have Hr : Hid (eqb (band v m) zero = _) := hr
    clear hr
    go_enter Try.func25, Try.ntmps25
    go_wp2_with fail
    refine (right_is Hr.out _).mono ?_
    rintro e w1 ⟨rfl, hb1⟩
    obtain ⟨hc1, hf1, hs1⟩ := bk (w.heap.size + 1) hb1 (by simp)
    go_wp2_with fail
    go_ret
    rw [Hh.out]
    exact ⟨rfl, (by repeat (first | exact Below.refl _ _ | assumption | refine below_drewN ?_ _ | refine Below.drew ?_ | refine Below.alloc ?_ (by first | exact Nat.le_refl _ | (simp; done) | (simp; omega) | omega) _ | refine Below.setCell ?_ (by first | exact Nat.le_refl _ | (simp; done) | (simp; omega) | omega) _ | refine Below.trans ?_ (Below.mono (by assumption) (by first | exact Nat.le_refl _ | (simp; done) | (simp; omega) | omega))))⟩

set_option maxHeartbeats 600000 in
theorem insideBits_wrong (av am bv bm : BitVec 64) (hr : (eqb (band av am) zero && eqb (band bv bm) zero) = false) (w : World) :
    Calls Try.prog 27 #[Bt av am, Bt bv bm] w fun e w' => e = .returned (.bool false) ∧ Below w.heap.size w w' := by
  cases ha : eqb (band av am) zero
  · have Ha : Hid (eqb (band av am) zero = _) := ha
    clear hr ha
    go_enter Try.func27, Try.ntmps27
    go_wp2_with fail
    refine (right_is Ha.out _).mono ?_
    rintro e w1 ⟨rfl, hb1⟩
    obtain ⟨hc1, hf1, hs1⟩ := bk (w.heap.size + 1 + 1) hb1 (by simp)
    go_wp2_with fail
    go_ret
    exact ⟨rfl, (by repeat (first | exact Below.refl _ _ | assumption | refine below_drewN ?_ _ | refine Below.drew ?_ | refine Below.alloc ?_ (by first | exact Nat.le_refl _ | (simp; done) | (simp; omega) | omega) _ | refine Below.setCell ?_ (by first | exact Nat.le_refl _ | (simp; done) | (simp; omega) | omega) _ | refine Below.trans ?_ (Below.mono (by assumption) (by first | exact Nat.le_refl _ | (simp; done) | (simp; omega) | omega))))⟩
  · rw [ha, Bool.true_and] at hr
    have Ha : Hid (eqb (band av am) zero = _) := ha
    have Hb : Hid (eqb (band bv bm) zero = _) := hr
    clear hr ha
    go_enter Try.func27, Try.ntmps27
    go_wp2_with fail
    refine (right_is Ha.out _).mono ?_
    rintro e w1 ⟨rfl, hb1⟩
    obtain ⟨hc1, hf1, hs1⟩ := bk (w.heap.size + 1 + 1) hb1 (by simp)
    go_wp2_with fail
    refine (right_is Hb.out _).mono ?_
    rintro e w2 ⟨rfl, hb2⟩
    obtain ⟨hc2, hf2, hs2⟩ := bk (w.heap.size + 1 + 1) hb2 hs1
    go_wp2_with fail
    go_ret
    exact ⟨rfl, (by repeat (first | exact Below.refl _ _ | assumption | refine below_drewN ?_ _ | refine Below.drew ?_ | refine Below.alloc ?_ (by first | exact Nat.le_refl _ | (simp; done) | (simp; omega) | omega) _ | refine Below.setCell ?_ (by first | exact Nat.le_refl _ | (simp; done) | (simp; omega) | omega) _ | refine Below.trans ?_ (Below.mono (by assumption) (by first | exact Nat.le_refl _ | (simp; done) | (simp; omega) | omega))))⟩

set_option maxHeartbeats 600000 in
theorem insideBits_yes (av am bv bm : BitVec 64) (ha : Hid (eqb (band av am) zero = true)) (hb : Hid (eqb (band bv bm) zero = true)) (hok : Hid (∀ j, j < 64 → insOk av am bv bm j = true)) (w : World) :
    Calls Try.prog 27 #[Bt av am, Bt bv bm] w fun e w' => e = .returned (.bool true) ∧ Below w.heap.size w w' := by
  go_enter Try.func27, Try.ntmps27
  go_wp2_with fail
  refine (right_is ha.out _).mono ?_
  rintro e w1 ⟨rfl, hb1⟩
  obtain ⟨hc1, hf1, hs1⟩ := bk (w.heap.size + 1 + 1) hb1 (by simp)
  go_wp2_with fail
  refine (right_is hb.out _).mono ?_
  rintro e w2 ⟨rfl, hb2⟩
  obtain ⟨hc2, hf2, hs2⟩ := bk (w.heap.size + 1 + 1) hb2 hs1
  go_wp2_with fail
  have hst : Below (w.heap.size + 1 + 1) ((w.alloc (.cells #[U av, U am] 24)).alloc (.cells #[U bv, U bm] 24)) w2 := (hb1.mono (by simp)).trans (hb2.mono hs1)
  clear hb1 hb2 hc1 hf1 hc2 hf2 hs1
  go_loopw [5] (fun i wr => ∃ k : Nat, k ≤ 64 ∧ i = N k
      ∧ Below (w.heap.size + 1 + 1) ((w.alloc (.cells #[U av, U am] 24)).alloc (.cells #[U bv, U bm] 24)) wr
      ∧ w.heap.size + 1 + 1 ≤ wr.heap.size) (fun i _ => 64 - (intOf i).toNat)
  case atStart => exact ⟨0, by omega, rfl, hst, hs2⟩
  case round =>
    clear hst hs2
    obtain ⟨k, hk, rfl, hbel, hsz⟩ := hrel
    obtain ⟨hc, hf⟩ := bl hbel
    by_cases hlt : k < 64
    · obtain ⟨z1, o1, H1, H2⟩ := may_eq av am k
      obtain ⟨z2, o2, H3, H4⟩ := may_eq bv bm k
      have Hok : Hid ((!(z1 && !z2) && !(o1 && !o2)) = true) := by rw [H1.out, H2.out, H3.out, H4.out]; exact hok.out k hlt
      go_wp2_with fail
      refine (may_any hlt H1 H2 _).mono ?_
      rintro e w1 ⟨rfl, hb1⟩
      obtain ⟨hc1, hf1, hs1⟩ := bk _ hb1 hsz
      go_wp2_with fail
      refine (may_any hlt H3 H4 _).mono ?_
      rintro e w2 ⟨rfl, hb2⟩
      obtain ⟨hc2, hf2, hs2⟩ := bk _ hb2 hs1
      cases z1 <;> cases o1 <;> cases z2 <;> cases o2 <;> first
        | exact absurd Hok.out (by decide)
        | (clear Hok
           go_wp2_with fail
           exact ⟨⟨k + 1, by omega, by go_num, (hbel.trans (hb1.mono hsz)).trans (hb2.mono hs1), hs2⟩, by simp [intOf]; omega⟩)
    · have hk64 : k = 64 := by omega
      subst hk64
      go_wp2_with fail
      go_ret
      exact ⟨rfl, (by repeat (first | exact Below.refl _ _ | assumption | refine below_drewN ?_ _ | refine Below.drew ?_ | refine Below.alloc ?_ (by first | exact Nat.le_refl _ | (simp; done) | (simp; omega) | omega) _ | refine Below.setCell ?_ (by first | exact Nat.le_refl _ | (simp; done) | (simp; omega) | omega) _ | refine Below.trans ?_ (Below.mono (by assumption) (by first | exact Nat.le_refl _ | (simp; done) | (simp; omega) | omega))))⟩

set_option maxHeartbeats 600000 in
theorem insideBits_no (av am bv bm : BitVec 64) (ha : Hid (eqb (band av am) zero = true)) (hb : Hid (eqb (band bv bm) zero = true)) (j0 : Nat) (hj : j0 < 64) (hno : Hid (insOk av am bv bm j0 = false))
    (hok : Hid (∀ j, j < j0 → insOk av am bv bm j = true)) (w : World) :
    Calls Try.prog 27 #[Bt av am, Bt bv bm] w fun e w' => e = .returned (.bool false) ∧ Below w.heap.size w w' := by
  go_enter Try.func27, Try.ntmps27
  go_wp2_with fail
  refine (right_is ha.out _).mono ?_
  rintro e w1 ⟨rfl, hb1⟩
  obtain ⟨hc1, hf1, hs1⟩ := bk (w.heap.size + 1 + 1) hb1 (by simp)
  go_wp2_with fail
  refine (right_is hb.out _).mono ?_
  rintro e w2 ⟨rfl, hb2⟩
  obtain ⟨hc2, hf2, hs2⟩ := bk (w.heap.size + 1 + 1) hb2 hs1
  go_wp2_with fail
  have hst : Below (w.heap.size + 1 + 1) ((w.alloc (.cells #[U av, U am] 24)).alloc (.cells #[U bv, U bm] 24)) w2 := (hb1.mono (by simp)).trans (hb2.mono hs1)
  clear hb1 hb2 hc1 hf1 hc2 hf2 hs1
  go_loopw [5] (fun i wr => ∃ k : Nat, k ≤ j0 ∧ i = N k
      ∧ Below (w.heap.size + 1 + 1) ((w.alloc (.cells #[U av, U am] 24)).alloc (.cells #[U bv, U bm] 24)) wr
      ∧ w.heap.size + 1 + 1 ≤ wr.heap.size) (fun i _ => 64 - (intOf i).toNat)
  case atStart => exact ⟨0, by omega, rfl, hst, hs2⟩
  case round =>
    clear hst hs2
    obtain ⟨k, hk, rfl, hbel, hsz⟩ := hrel
    obtain ⟨hc, hf⟩ := bl hbel
    have hlt : k < 64 := by omega
    obtain ⟨z1, o1, H1, H2⟩ := may_eq av am k
    obtain ⟨z2, o2, H3, H4⟩ := may_eq bv bm k
    by_cases hlj : k < j0
    · have Hok : Hid ((!(z1 && !z2) && !(o1 && !o2)) = true) := by rw [H1.out, H2.out, H3.out, H4.out]; exact hok.out k hlj
      go_wp2_with fail
      refine (may_any hlt H1 H2 _).mono ?_
      rintro e w1 ⟨rfl, hb1⟩
      obtain ⟨hc1, hf1, hs1⟩ := bk _ hb1 hsz
      go_wp2_with fail
      refine (may_any hlt H3 H4 _).mono ?_
      rintro e w2 ⟨rfl, hb2⟩
      obtain ⟨hc2, hf2, hs2⟩ := bk _ hb2 hs1
      cases z1 <;> cases o1 <;> cases z2 <;> cases o2 <;> first
        | exact absurd Hok.out (by decide)
        | (clear Hok
           go_wp2_with fail
           exact ⟨⟨k + 1, by omega, by go_num, (hbel.trans (hb1.mono hsz)).trans (hb2.mono hs1), hs2⟩, by simp [intOf]; omega⟩)
    · have ek : k = j0 := by omega
      have Hno : Hid ((!(z1 && !z2) && !(o1 && !o2)) = false) := by rw [H1.out, H2.out, H3.out, H4.out, ek]; exact hno.out
      clear ek
      go_wp2_with fail
      refine (may_any hlt H1 H2 _).mono ?_
      rintro e w1 ⟨rfl, hb1⟩
      obtain ⟨hc1, hf1, hs1⟩ := bk _ hb1 hsz
      go_wp2_with fail
      refine (may_any hlt H3 H4 _).mono ?_
      rintro e w2 ⟨rfl, hb2⟩
      obtain ⟨hc2, hf2, hs2⟩ := bk _ hb2 hs1
      cases z1 <;> cases o1 <;> cases z2 <;> cases o2 <;> first
        | exact absurd Hno.out (by decide)
        | (clear Hno
           go_wp2_with fail
           go_ret
           exact ⟨rfl, (by repeat (first | exact Below.refl _ _ | assumption | refine below_drewN ?_ _ | refine Below.drew ?_ | refine Below.alloc ?_ (by first | exact Nat.le_refl _ | (simp; done) | (simp; omega) | omega) _ | refine Below.setCell ?_ (by first | exact Nat.le_refl _ | (simp; done) | (simp; omega) | omega) _ | refine Below.trans ?_ (Below.mono (by assumption) (by first | exact Nat.le_refl _ | (simp; done) | (simp; omega) | omega))))⟩)

end Go.Proofs.Ytglollajdjgciaa
