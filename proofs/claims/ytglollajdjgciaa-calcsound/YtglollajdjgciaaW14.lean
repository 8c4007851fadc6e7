/- The contracts of package val's Check, and of the reference's NormVal and RightVal. -/
import Derived.Test.YtglollajdjgciaaW13
import Derived.Test.YtglollajdjgciaaW11
import Derived.Test.YtglollajdjgciaaW10
import Derived.Test.YtglollajdjgciaaL1b
import Derived.Deep.RegionWith
import Derived.Deep.CutBlock
import Derived.Deep.DeepCutAuto
namespace Go.Proofs.Ytglollajdjgciaa
open Go.RowKit
attribute [local go_sem] w_and w_or w_xor w_andNot w_and1 w_and63 w_add w_sub w_mul w_sub1 w_add1 w_shl w_shl1 w_shr c_beq c_bne c_beq0 c_bne0 c_beq1 c_bne1 wrap_nv

set_option maxHeartbeats 1000000 in
theorem valCheck_any (v m l h : BitVec 64) (w : World) :
    Calls Try.prog 37 #[Vl v m l h] w fun e w' => e = .returned (N (er (valB v m l h))) ∧ Below w.heap.size w w' := by
  have Hv : Hid (valB v m l h = (hasB v m l && (hasB v m h && (decide (nv l ≤ nv h) && insB v m (spV l h) (sM l h))))) := rfl
  obtain ⟨b1, H1⟩ : ∃ b, Hid (hasB v m l = b) := ⟨_, rfl⟩
  obtain ⟨b2, H2⟩ : ∃ b, Hid (hasB v m h = b) := ⟨_, rfl⟩
  obtain ⟨b3, H3⟩ : ∃ b, Hid (insB v m (spV l h) (sM l h) = b) := ⟨_, rfl⟩
  rw [H1.out, H2.out, H3.out] at Hv
  go_enter Try.func37, Try.ntmps37
  go_wp2_with fail
  refine (hasC H1.out _).mono ?_
  rintro e w1 ⟨rfl, hb1⟩
  have hK := ((Kp.start w).add4 _ _ _ _ _).keep hb1
  obtain ⟨a0, a1, a2, a3, a4, a5, a6, a7, a8⟩ := hK.box.head.four
  cases b1
  · go_wp2_with fail
    go_ret
    rw [Hv.out]
    exact ⟨rfl, hK.bel⟩
  · go_wp2_with fail
    refine (hasC H2.out _).mono ?_
    rintro e w2 ⟨rfl, hb2⟩
    have hK2 := hK.keep hb2
    clear a0 a1 a2 a3 a4 a5 a6 a7 a8
    obtain ⟨a0, a1, a2, a3, a4, a5, a6, a7, a8⟩ := hK2.box.head.four
    cases b2
    · go_wp2_with fail
      go_ret
      rw [Hv.out]
      exact ⟨rfl, hK2.bel⟩
    · by_cases hle : nv l ≤ nv h
      · have Hd : Hid (decide (nv l ≤ nv h) = true) := decide_eq_true hle
        have HS : Hid (∀ w, Calls Try.prog 16 #[U l, U h] w fun e w' => e = .returned (.tuple #[Bt (spV l h) (sM l h), N 0]) ∧ Below w.heap.size w w') := fun w => span_ok hle w
        rw [Hd.out] at Hv
        clear hle Hd
        generalize spV l h = sv at HS H3
        generalize sM l h = sm at HS H3
        go_wp2_with fail
        refine (HS.out _).mono ?_
        rintro e w3 ⟨rfl, hb3⟩
        have hK3 := hK2.keep hb3
        clear a0 a1 a2 a3 a4 a5 a6 a7 a8
        obtain ⟨a0, a1, a2, a3, a4, a5, a6, a7, a8⟩ := hK3.box.head.four
        go_wp2_with fail
        refine (insC H3.out _).mono ?_
        rintro e w4 ⟨rfl, hb4⟩
        have hK4 := (hK3.add2 _ _ _).keep hb4
        cases b3
        all_goals
          go_wp2_with fail
          go_ret
          rw [Hv.out]
          exact ⟨rfl, hK4.bel⟩
      · have Hd : Hid (decide (nv l ≤ nv h) = false) := decide_eq_false hle
        have HS : Hid (∀ w, Calls Try.prog 16 #[U l, U h] w fun e w' => e = .returned (.tuple #[Bt zero zero, N 3]) ∧ Below w.heap.size w w') := fun w => span_no (by omega) w
        rw [Hd.out] at Hv
        clear hle Hd
        go_wp2_with fail
        refine (HS.out _).mono ?_
        rintro e w3 ⟨rfl, hb3⟩
        have hK3 := hK2.keep hb3
        go_wp2_with fail
        go_ret
        rw [Hv.out]
        exact ⟨rfl, (hK3.add2 _ _ _).bel⟩

/- the reference's -/
set_option maxHeartbeats 1000000 in
theorem normVal_none {v m l h : BitVec 64} (hr : Hid (eqb (band v m) zero = true)) (ho : Hid (normOk v m l h = false)) (w : World) :
    Calls Try.prog 33 #[Vl v m l h] w fun e w' => e = .returned (.tuple #[V0, .bool false]) ∧ Below w.heap.size w w' := by
  have hrt := (rt_iff v m).1 hr.out
  have hs := least_same hrt l
  have hg := great_same hrt h
  have HL : Hid (∀ w, Calls Try.prog 84 #[Bt v m, U l] w fun e w' => e = .returned (.tuple #[U (scanL v m l 64).1, .bool (scanL v m l 64).2]) ∧ Below w.heap.size w w') := fun w => refLeast_any v m l w
  have HG : Hid (∀ w, Calls Try.prog 85 #[Bt v m, U h] w fun e w' => e = .returned (.tuple #[U (scanG v m h 64).1, .bool (scanG v m h 64).2]) ∧ Below w.heap.size w w') := fun w => refGreat_any v m h w
  have Ho : Hid (((scanL v m l 64).2 && ((scanG v m h 64).2 && decide (nv (scanL v m l 64).1 ≤ nv (scanG v m h 64).1))) = false) := by
    have := ho.out
    unfold normOk nLo nHi at this
    show _ = false
    rw [hs.1, hg.1]
    cases e1 : (leastV v m l).2
    · rfl
    · cases e2 : (greatV v m h).2
      · rfl
      · rw [hs.2 e1, hg.2 e2]
        rw [e1, e2] at this
        exact this
  clear ho hs hg hrt hr
  generalize scanL v m l 64 = L at HL Ho
  generalize scanG v m h 64 = G at HG Ho
  obtain ⟨lo, lb⟩ := L
  obtain ⟨hi, gb⟩ := G
  go_enter Try.func33, Try.ntmps33
  go_wp2_with fail
  refine (HL.out _).mono ?_
  rintro e w2 ⟨rfl, hb2⟩
  have hK2 := (((Kp.start w).add4 _ _ _ _ _).add4 _ _ _ _ _).keep hb2
  simp only [World.size_alloc] at hK2
  obtain ⟨r0, r1, r2, r3, r4, r5, r6, r7, r8⟩ := hK2.box.head.four
  obtain ⟨a0, a1, a2, a3, a4, a5, a6, a7, a8⟩ := hK2.box.tail.head.four
  go_wp2_with fail
  refine (HG.out _).mono ?_
  rintro e w3 ⟨rfl, hb3⟩
  have hK3 := hK2.keep hb3
  clear r0 r1 r2 r3 r4 r5 r6 r7 r8 a0 a1 a2 a3 a4 a5 a6 a7 a8
  obtain ⟨r0, r1, r2, r3, r4, r5, r6, r7, r8⟩ := hK3.box.head.four
  obtain ⟨a0, a1, a2, a3, a4, a5, a6, a7, a8⟩ := hK3.box.tail.head.four
  cases lb
  · go_wp2_with fail
    exact bodyPost_ret (v := .tuple #[V0, .bool false]) (by simp [results, Try.results33, go_sem, nv_zero, r0, r1, r2, r3]) rfl ⟨rfl, (hK3.set4 0 rfl).bel⟩
  · cases gb
    · go_wp2_with fail
      exact bodyPost_ret (v := .tuple #[V0, .bool false]) (by simp [results, Try.results33, go_sem, nv_zero, r0, r1, r2, r3]) rfl ⟨rfl, (hK3.set4 0 rfl).bel⟩
    · have hlt : nv hi < nv lo := by
        have := Ho.out
        simp only [Bool.true_and, decide_eq_false_iff_not] at this
        omega
      clear Ho
      go_wp2_with fail
      exact bodyPost_ret (v := .tuple #[V0, .bool false]) (by simp [results, Try.results33, go_sem, nv_zero, r0, r1, r2, r3]) rfl ⟨rfl, (hK3.set4 0 rfl).bel⟩

set_option maxRecDepth 100000 in
set_option maxHeartbeats 8000000 in
theorem normVal_yes {v m l h : BitVec 64} (hr : Hid (eqb (band v m) zero = true)) (ho : Hid (normOk v m l h = true)) (w : World) :
    Calls Try.prog 33 #[Vl v m l h] w fun e w' => e = .returned (.tuple #[Vl (nV v m l h) (nM m (nLo v m l) (nHi v m h)) (nLo v m l) (nHi v m h), .bool true]) ∧ Below w.heap.size w w' := by
  have hrt := (rt_iff v m).1 hr.out
  have hfa := norm_facts hrt ho.out
  have ho' := ho.out
  unfold normOk at ho'
  simp only [Bool.and_eq_true] at ho'
  have hs := least_same hrt l
  have hg := great_same hrt h
  have HL : Hid (∀ w, Calls Try.prog 84 #[Bt v m, U l] w fun e w' => e = .returned (.tuple #[U (nLo v m l), .bool true]) ∧ Below w.heap.size w w') := fun w => by
    have := refLeast_any v m l w; rw [hs.1, hs.2 ho'.1, ho'.1] at this; exact this
  have HG : Hid (∀ w, Calls Try.prog 85 #[Bt v m, U h] w fun e w' => e = .returned (.tuple #[U (nHi v m h), .bool true]) ∧ Below w.heap.size w w') := fun w => by
    have := refGreat_any v m h w; rw [hg.1, hg.2 ho'.2.1, ho'.2.1] at this; exact this
  have HS : Hid (∀ w, Calls Try.prog 21 #[U (nLo v m l), U (nHi v m h)] w fun e w' => e = .returned (Bt (spV (nLo v m l) (nHi v m h)) (sM (nLo v m l) (nHi v m h))) ∧ Below w.heap.size w w') := fun w => by
    have hh := spanBits_any (nLo v m l) (nHi v m h) w
    rw [(span_eq _ _).1, (span_eq _ _).2] at hh
    exact hh
  have HM : Hid (∀ w, Calls Try.prog 19 #[Bt v m, Bt (spV (nLo v m l) (nHi v m h)) (sM (nLo v m l) (nHi v m h))] w fun e w' => e = .returned (.tuple #[Bt (nV v m l h) (nM m (nLo v m l) (nHi v m h)), .bool true]) ∧ Below w.heap.size w w') := fun w => by
    obtain ⟨h1, h2, h3⟩ := meet_eq (both_right hrt (span_rt (nLo v m l) (nHi v m h))).out (meet_span hrt hfa.1 (Int.le_refl _) hfa.2.2.1)
    have h := meetBits_ok v m _ _ h1 w
    rw [h2, h3] at h
    exact h
  have hle := hfa.2.2.1
  clear hfa ho' ho hrt hs hg hr
  generalize nV v m l h = rv at HM ⊢
  generalize nM m (nLo v m l) (nHi v m h) = rm at HM ⊢
  generalize spV (nLo v m l) (nHi v m h) = sv at HM HS
  generalize sM (nLo v m l) (nHi v m h) = sm at HM HS
  generalize nLo v m l = lo at HL HS hle ⊢
  generalize nHi v m h = hi at HG HS hle ⊢
  go_enter Try.func33, Try.ntmps33
  go_wp2_with fail
  refine (HL.out _).mono ?_
  rintro e w2 ⟨rfl, hb2⟩
  have hK2 := (((Kp.start w).add4 _ _ _ _ _).add4 _ _ _ _ _).keep hb2
  simp only [World.size_alloc] at hK2
  obtain ⟨r0, r1, r2, r3, r4, r5, r6, r7, r8⟩ := hK2.box.head.four
  obtain ⟨a0, a1, a2, a3, a4, a5, a6, a7, a8⟩ := hK2.box.tail.head.four
  go_wp2_with fail
  refine (HG.out _).mono ?_
  rintro e w3 ⟨rfl, hb3⟩
  have hK3 := hK2.keep hb3
  clear r0 r1 r2 r3 r4 r5 r6 r7 r8 a0 a1 a2 a3 a4 a5 a6 a7 a8
  obtain ⟨r0, r1, r2, r3, r4, r5, r6, r7, r8⟩ := hK3.box.head.four
  obtain ⟨a0, a1, a2, a3, a4, a5, a6, a7, a8⟩ := hK3.box.tail.head.four
  go_wp2_with fail
  go_cut [8, 9] (fun p f wc => ∃ b, p = .pointer (some ⟨b, 0, none⟩) ∧ f = .bool true ∧ Kp w wc [(b, [U rv, U rm]), (w.heap.size + 1, [.int .u64 0, .int .u64 0, .int .u64 0, .int .u64 0]), (w.heap.size, [U v, U m, U l, U h])])
  case first =>
    go_region_with (first
        | (go_at_call 21; refine (HS.out _).mono ?_; rintro e w4 ⟨rfl, hb4⟩; clear r0 r1 r2 r3 r4 r5 r6 r7 a0 a1 a2 a3 a4 a5 a6 a7; first | (have hK4 := (hK3.keep (Below.drew (Below.refl _ _))).keep hb4; obtain ⟨r0, r1, r2, r3, r4, r5, r6, r7, r8⟩ := hK4.box.head.four; obtain ⟨a0, a1, a2, a3, a4, a5, a6, a7, a8⟩ := hK4.box.tail.head.four) | (have hK4 := ((hK3.keep (Below.drew (Below.refl _ _))).add2 _ _ _).keep hb4; rw [show w3.drew.heap.size = w3.heap.size from rfl] at hK4; obtain ⟨q0, q1, q2, q3, q4⟩ := hK4.box.head.two; obtain ⟨r0, r1, r2, r3, r4, r5, r6, r7, r8⟩ := hK4.box.tail.head.four; obtain ⟨a0, a1, a2, a3, a4, a5, a6, a7, a8⟩ := hK4.box.tail.tail.head.four))
        | (go_at_call 19; refine (HM.out _).mono ?_; rintro e w5 ⟨rfl, hb5⟩; clear r0 r1 r2 r3 r4 r5 r6 r7 a0 a1 a2 a3 a4 a5 a6 a7; first | (have hK5 := hK4.keep hb5; obtain ⟨q0, q1, q2, q3, q4⟩ := hK5.box.head.two; obtain ⟨r0, r1, r2, r3, r4, r5, r6, r7, r8⟩ := hK5.box.tail.head.four; obtain ⟨a0, a1, a2, a3, a4, a5, a6, a7, a8⟩ := hK5.box.tail.tail.head.four) | (have hK5 := hK4.keep hb5; obtain ⟨r0, r1, r2, r3, r4, r5, r6, r7, r8⟩ := hK5.box.head.four; obtain ⟨a0, a1, a2, a3, a4, a5, a6, a7, a8⟩ := hK5.box.tail.head.four) | (have hK5 := (hK4.add2 _ _ _).keep hb5; obtain ⟨q0, q1, q2, q3, q4⟩ := hK5.box.head.two; obtain ⟨r0, r1, r2, r3, r4, r5, r6, r7, r8⟩ := hK5.box.tail.head.four; obtain ⟨a0, a1, a2, a3, a4, a5, a6, a7, a8⟩ := hK5.box.tail.tail.head.four)))
    all_goals
      go_wp2_with fail
      go_meet
      case rel => first | exact ⟨_, rfl, rfl, hK5.add2 _ _ _⟩ | exact ⟨_, rfl, rfl, hK5.set2 0 rfl⟩
  case rest =>
    clear r0 r1 r2 r3 r4 r5 r6 r7 r8 a0 a1 a2 a3 a4 a5 a6 a7 a8
    obtain ⟨b, rfl, rfl, hK6⟩ := hcut
    obtain ⟨q0, q1, q2, q3, q4⟩ := hK6.box.head.two
    obtain ⟨r0, r1, r2, r3, r4, r5, r6, r7, r8⟩ := hK6.box.tail.head.four
    obtain ⟨a0, a1, a2, a3, a4, a5, a6, a7, a8⟩ := hK6.box.tail.tail.head.four
    have hne : w.heap.size + 1 < b := hK6.box.2.1 _ (List.Mem.head _)
    go_wp2_with fail
    exact bodyPost_ret (v := .tuple #[Vl rv rm lo hi, .bool true]) (by simp [results, Try.results33, go_sem, r0, r1, r2, r3]) rfl ⟨rfl, (hK6.set4 1 rfl).bel⟩

end Go.Proofs.Ytglollajdjgciaa
