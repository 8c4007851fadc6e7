/- The contracts of package val's Has, Inside, Of, Any and Join, and of the reference's RightVal, ValHas, InsideVal, ValOf, ValAny. -/
import Derived.Test.YtglollajdjgciaaW14
namespace Go.Proofs.Ytglollajdjgciaa
open Go.RowKit
attribute [local go_sem] w_and w_or w_xor w_andNot w_and1 w_and63 w_add w_sub w_mul w_sub1 w_add1 w_shl w_shl1 w_shr c_beq c_bne c_beq0 c_bne0 c_beq1 c_bne1 wrap_nv
attribute [local go_sem] eqb_self

theorem checkV {v m l h : BitVec 64} {b : Bool} (hv : valB v m l h = b) (w : World) :
    Calls Try.prog 37 #[Vl v m l h] w fun e w' => e = .returned (N (er b)) ∧ Below w.heap.size w w' := hv ▸ valCheck_any v m l h w

set_option maxHeartbeats 1000000 in
theorem rightVal_any (v m l h : BitVec 64) (w : World) :
    Calls Try.prog 34 #[Vl v m l h] w fun e w' => e = .returned (.bool (valB v m l h)) ∧ Below w.heap.size w w' := by
  obtain ⟨r, hr⟩ : ∃ r, Hid (eqb (band v m) zero = r) := ⟨_, rfl⟩
  cases r
  · have Hv : Hid (valB v m l h = false) := val_wrong hr.out
    rw [Hv.out]
    go_enter Try.func34, Try.ntmps34
    go_wp2_with fail
    refine (right_is hr.out _).mono ?_
    rintro e w1 ⟨rfl, hb1⟩
    have hK := ((Kp.start w).add4 _ _ _ _ _).keep hb1
    go_wp2_with fail
    go_ret
    exact ⟨rfl, hK.bel⟩
  · have hrt := (rt_iff v m).1 hr.out
    obtain ⟨o, ho⟩ : ∃ o, Hid (normOk v m l h = o) := ⟨_, rfl⟩
    have Hv : Hid (valB v m l h = (normOk v m l h && normSame v m l h)) := val_iff hrt l h
    rw [ho.out] at Hv
    cases o
    · have HN : Hid (∀ w, Calls Try.prog 33 #[Vl v m l h] w fun e w' => e = .returned (.tuple #[V0, .bool false]) ∧ Below w.heap.size w w') := fun w => normVal_none hr ho w
      rw [Hv.out]
      clear Hv ho hrt
      go_enter Try.func34, Try.ntmps34
      go_wp2_with fail
      refine (right_is hr.out _).mono ?_
      rintro e w1 ⟨rfl, hb1⟩
      have hK := ((Kp.start w).add4 _ _ _ _ _).keep hb1
      obtain ⟨a0, a1, a2, a3, a4, a5, a6, a7, a8⟩ := hK.box.head.four
      go_wp2_with fail
      refine (HN.out _).mono ?_
      rintro e w2 ⟨rfl, hb2⟩
      have hK2 := hK.keep hb2
      go_wp2_with fail
      go_ret
      exact ⟨rfl, (hK2.add4 _ _ _ _ _).bel⟩
    · have HN : Hid (∀ w, Calls Try.prog 33 #[Vl v m l h] w fun e w' => e = .returned (.tuple #[Vl (nV v m l h) (nM m (nLo v m l) (nHi v m h)) (nLo v m l) (nHi v m h), .bool true]) ∧ Below w.heap.size w w') := fun w => normVal_yes hr ho w
      have Hs : Hid (normSame v m l h = (eqb (nV v m l h) v && (eqb (nM m (nLo v m l) (nHi v m h)) m && (eqb (nLo v m l) l && eqb (nHi v m h) h)))) := rfl
      rw [Hs.out] at Hv
      rw [Hv.out]
      clear Hv Hs ho hrt
      generalize nM m (nLo v m l) (nHi v m h) = rm at HN ⊢
      generalize nV v m l h = rv at HN ⊢
      generalize nLo v m l = lo at HN ⊢
      generalize nHi v m h = hi at HN ⊢
      go_enter Try.func34, Try.ntmps34
      go_wp2_with fail
      refine (right_is hr.out _).mono ?_
      rintro e w1 ⟨rfl, hb1⟩
      have hK := ((Kp.start w).add4 _ _ _ _ _).keep hb1
      obtain ⟨a0, a1, a2, a3, a4, a5, a6, a7, a8⟩ := hK.box.head.four
      go_wp2_with fail
      refine (HN.out _).mono ?_
      rintro e w2 ⟨rfl, hb2⟩
      have hK2 := hK.keep hb2
      clear a0 a1 a2 a3 a4 a5 a6 a7 a8
      obtain ⟨a0, a1, a2, a3, a4, a5, a6, a7, a8⟩ := hK2.box.head.four
      cases h1 : eqb rv v
      · go_wp2_with fail
        go_ret
        exact ⟨by rw [h1]; rfl, (hK2.add4 _ _ _ _ _).bel⟩
      cases h2 : eqb rm m
      · go_wp2_with fail
        go_ret
        exact ⟨by rw [h1, h2]; rfl, (hK2.add4 _ _ _ _ _).bel⟩
      cases h3 : eqb lo l
      · go_wp2_with fail
        go_ret
        exact ⟨by rw [h1, h2, h3]; rfl, (hK2.add4 _ _ _ _ _).bel⟩
      cases h4 : eqb hi h
      all_goals
        go_wp2_with fail
        go_ret
        exact ⟨by rw [h1, h2, h3, h4]; rfl, (hK2.add4 _ _ _ _ _).bel⟩
theorem rightV {v m l h : BitVec 64} {b : Bool} (hv : valB v m l h = b) (w : World) :
    Calls Try.prog 34 #[Vl v m l h] w fun e w' => e = .returned (.bool b) ∧ Below w.heap.size w w' := hv ▸ rightVal_any v m l h w

set_option maxHeartbeats 1000000 in
theorem valHas_any (v m l h x : BitVec 64) (w : World) :
    Calls Try.prog 38 #[Vl v m l h, U x] w fun e w' => e = .returned (.bool (hasV v m l h x)) ∧ Below w.heap.size w w' := by
  have Hh : Hid (hasV v m l h x = (valB v m l h && (hasB v m x && (decide (nv l ≤ nv x) && decide (nv x ≤ nv h))))) := rfl
  obtain ⟨b1, H1⟩ : ∃ b, Hid (valB v m l h = b) := ⟨_, rfl⟩
  obtain ⟨b2, H2⟩ : ∃ b, Hid (hasB v m x = b) := ⟨_, rfl⟩
  rw [H1.out, H2.out] at Hh
  rw [Hh.out]
  clear Hh
  go_enter Try.func38, Try.ntmps38
  go_wp2_with fail
  refine (checkV H1.out _).mono ?_
  rintro e w1 ⟨rfl, hb1⟩
  have hK := ((Kp.start w).add4 _ _ _ _ _).keep hb1
  obtain ⟨a0, a1, a2, a3, a4, a5, a6, a7, a8⟩ := hK.box.head.four
  cases b1
  · rw [er_f]
    go_wp2_with fail
    go_ret
    exact ⟨rfl, hK.bel⟩
  · rw [er_t]
    go_wp2_with fail
    refine (hasC H2.out _).mono ?_
    rintro e w2 ⟨rfl, hb2⟩
    have hK2 := hK.keep hb2
    clear a0 a1 a2 a3 a4 a5 a6 a7 a8
    obtain ⟨a0, a1, a2, a3, a4, a5, a6, a7, a8⟩ := hK2.box.head.four
    cases b2
    · go_wp2_with fail
      go_ret
      exact ⟨rfl, hK2.bel⟩
    · by_cases h1 : nv l ≤ nv x
      · go_wp2_with fail
        go_ret
        exact ⟨by simp <;> omega, hK2.bel⟩
      · have h1' : nv x < nv l := by omega
        go_wp2_with fail
        go_ret
        exact ⟨by simp <;> omega, hK2.bel⟩
set_option maxHeartbeats 1000000 in
theorem refValHas_any (v m l h x : BitVec 64) (w : World) :
    Calls Try.prog 39 #[Vl v m l h, U x] w fun e w' => e = .returned (.bool (hasV v m l h x)) ∧ Below w.heap.size w w' := by
  have Hh : Hid (hasV v m l h x = (valB v m l h && (hasB v m x && (decide (nv l ≤ nv x) && decide (nv x ≤ nv h))))) := rfl
  obtain ⟨b1, H1⟩ : ∃ b, Hid (valB v m l h = b) := ⟨_, rfl⟩
  obtain ⟨b2, H2⟩ : ∃ b, Hid (hasB v m x = b) := ⟨_, rfl⟩
  rw [H1.out, H2.out] at Hh
  rw [Hh.out]
  clear Hh
  go_enter Try.func39, Try.ntmps39
  go_wp2_with fail
  refine (rightV H1.out _).mono ?_
  rintro e w1 ⟨rfl, hb1⟩
  have hK := ((Kp.start w).add4 _ _ _ _ _).keep hb1
  obtain ⟨a0, a1, a2, a3, a4, a5, a6, a7, a8⟩ := hK.box.head.four
  cases b1
  · go_wp2_with fail
    go_ret
    exact ⟨rfl, hK.bel⟩
  · go_wp2_with fail
    refine (has_is H2.out _).mono ?_
    rintro e w2 ⟨rfl, hb2⟩
    have hK2 := hK.keep hb2
    clear a0 a1 a2 a3 a4 a5 a6 a7 a8
    obtain ⟨a0, a1, a2, a3, a4, a5, a6, a7, a8⟩ := hK2.box.head.four
    cases b2
    · go_wp2_with fail
      go_ret
      exact ⟨rfl, hK2.bel⟩
    · by_cases h1 : nv l ≤ nv x
      · go_wp2_with fail
        go_ret
        exact ⟨by simp <;> omega, hK2.bel⟩
      · have h1' : nv x < nv l := by omega
        go_wp2_with fail
        go_ret
        exact ⟨by simp <;> omega, hK2.bel⟩
set_option maxHeartbeats 1000000 in
theorem valOf_any (x : BitVec 64) (w : World) :
    Calls Try.prog 40 #[U x] w fun e w' => e = .returned (Vl x zero x x) ∧ Below w.heap.size w w' := by
  go_enter Try.func40, Try.ntmps40
  go_wp2_with fail
  exact bodyPost_ret (v := Vl x zero x x) (by simp [results, Try.results40, go_sem, nv_zero]) rfl ⟨rfl, (by repeat (first | exact Below.refl _ _ | assumption | refine below_drewN ?_ _ | refine Below.drew ?_ | refine Below.alloc ?_ (by first | exact Nat.le_refl _ | (simp; done) | (simp; omega) | omega) _ | refine Below.setCell ?_ (by first | exact Nat.le_refl _ | (simp; done) | (simp; omega) | omega) _ | refine Below.trans ?_ (Below.mono (by assumption) (by first | exact Nat.le_refl _ | (simp; done) | (simp; omega) | omega))))⟩
set_option maxHeartbeats 1000000 in
theorem refValOf_any (x : BitVec 64) (w : World) :
    Calls Try.prog 41 #[U x] w fun e w' => e = .returned (Vl x zero x x) ∧ Below w.heap.size w w' := by
  go_enter Try.func41, Try.ntmps41
  go_wp2_with fail
  exact bodyPost_ret (v := Vl x zero x x) (by simp [results, Try.results41, go_sem, nv_zero]) rfl ⟨rfl, (by repeat (first | exact Below.refl _ _ | assumption | refine below_drewN ?_ _ | refine Below.drew ?_ | refine Below.alloc ?_ (by first | exact Nat.le_refl _ | (simp; done) | (simp; omega) | omega) _ | refine Below.setCell ?_ (by first | exact Nat.le_refl _ | (simp; done) | (simp; omega) | omega) _ | refine Below.trans ?_ (Below.mono (by assumption) (by first | exact Nat.le_refl _ | (simp; done) | (simp; omega) | omega))))⟩
set_option maxHeartbeats 1000000 in
theorem valAny_any (w : World) :
    Calls Try.prog 42 #[] w fun e w' => e = .returned (Vl zero top zero top) ∧ Below w.heap.size w w' := by
  go_enter Try.func42, Try.ntmps42
  go_wp2_with fail
  exact bodyPost_ret (v := Vl zero top zero top) (by simp [results, Try.results42, go_sem, nv_zero, nv_top]) rfl ⟨rfl, (by repeat (first | exact Below.refl _ _ | assumption | refine below_drewN ?_ _ | refine Below.drew ?_ | refine Below.alloc ?_ (by first | exact Nat.le_refl _ | (simp; done) | (simp; omega) | omega) _ | refine Below.setCell ?_ (by first | exact Nat.le_refl _ | (simp; done) | (simp; omega) | omega) _ | refine Below.trans ?_ (Below.mono (by assumption) (by first | exact Nat.le_refl _ | (simp; done) | (simp; omega) | omega))))⟩
set_option maxHeartbeats 1000000 in
theorem refValAny_any (w : World) :
    Calls Try.prog 43 #[] w fun e w' => e = .returned (Vl zero top zero top) ∧ Below w.heap.size w w' := by
  go_enter Try.func43, Try.ntmps43
  go_wp2_with fail
  exact bodyPost_ret (v := Vl zero top zero top) (by simp [results, Try.results43, go_sem, nv_zero, nv_top]) rfl ⟨rfl, (by repeat (first | exact Below.refl _ _ | assumption | refine below_drewN ?_ _ | refine Below.drew ?_ | refine Below.alloc ?_ (by first | exact Nat.le_refl _ | (simp; done) | (simp; omega) | omega) _ | refine Below.setCell ?_ (by first | exact Nat.le_refl _ | (simp; done) | (simp; omega) | omega) _ | refine Below.trans ?_ (Below.mono (by assumption) (by first | exact Nat.le_refl _ | (simp; done) | (simp; omega) | omega))))⟩

end Go.Proofs.Ytglollajdjgciaa
