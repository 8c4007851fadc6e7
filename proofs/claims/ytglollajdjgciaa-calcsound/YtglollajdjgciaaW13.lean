/- The contracts of package val's Norm and Check. -/
import Derived.Test.YtglollajdjgciaaM9
import Derived.Test.YtglollajdjgciaaW12
namespace Go.Proofs.Ytglollajdjgciaa
open Go.RowKit
attribute [local go_sem] w_and w_or w_xor w_andNot w_and1 w_and63 w_add w_sub w_mul w_sub1 w_add1 w_shl w_shl1 w_shr c_beq c_bne c_beq0 c_bne0 c_beq1 c_bne1 wrap_nv

abbrev V0 : Value := Vl zero zero zero zero
set_option maxHeartbeats 1000000 in
theorem norm_wrong {v m l h : BitVec 64} (hr : Hid (eqb (band v m) zero = false)) (w : World) :
    Calls Try.prog 31 #[Vl v m l h] w fun e w' => e = .returned (.tuple #[V0, .bool false, N 1]) ∧ Below w.heap.size w w' := by
  go_enter Try.func31, Try.ntmps31
  go_wp2_with fail
  refine (check_any hr _).mono ?_
  rintro e w1 ⟨rfl, hb1⟩
  have hK := (((Kp.start w).add4 _ _ _ _ _).add4 _ _ _ _ _).keep hb1
  simp only [World.size_alloc] at hK
  obtain ⟨r0, r1, r2, r3, r4, r5, r6, r7, r8⟩ := hK.box.head.four
  obtain ⟨a0, a1, a2, a3, a4, a5, a6, a7, a8⟩ := hK.box.tail.head.four
  first | rw [er_t] | rw [er_f]
  go_wp2_with fail
  exact bodyPost_ret (v := .tuple #[V0, .bool false, N 1]) (by simp [results, Try.results31, go_sem, nv_zero, r0, r1, r2, r3]) rfl ⟨rfl, (hK.set4 0 rfl).bel⟩
set_option maxHeartbeats 1000000 in
theorem norm_none {v m l h : BitVec 64} (hr : Hid (eqb (band v m) zero = true)) (ho : Hid (normOk v m l h = false)) (w : World) :
    Calls Try.prog 31 #[Vl v m l h] w fun e w' => e = .returned (.tuple #[V0, .bool false, N 0]) ∧ Below w.heap.size w w' := by
  have HL : Hid (∀ w, Calls Try.prog 82 #[Bt v m, U l] w fun e w' => e = .returned (.tuple #[U (leastV v m l).1, .bool (leastV v m l).2]) ∧ Below w.heap.size w w') := fun w => valLeast_any v m l w
  have HG : Hid (∀ w, Calls Try.prog 83 #[Bt v m, U h] w fun e w' => e = .returned (.tuple #[U (greatV v m h).1, .bool (greatV v m h).2]) ∧ Below w.heap.size w w') := fun w => valGreat_any v m h w
  have Ho : Hid (((leastV v m l).2 && ((greatV v m h).2 && decide (nv (leastV v m l).1 ≤ nv (greatV v m h).1))) = false) := ho
  clear ho
  generalize leastV v m l = L at HL Ho
  generalize greatV v m h = G at HG Ho
  obtain ⟨lo, lb⟩ := L
  obtain ⟨hi, gb⟩ := G
  go_enter Try.func31, Try.ntmps31
  go_wp2_with fail
  refine (check_any hr _).mono ?_
  rintro e w1 ⟨rfl, hb1⟩
  have hK := (((Kp.start w).add4 _ _ _ _ _).add4 _ _ _ _ _).keep hb1
  simp only [World.size_alloc] at hK
  obtain ⟨r0, r1, r2, r3, r4, r5, r6, r7, r8⟩ := hK.box.head.four
  obtain ⟨a0, a1, a2, a3, a4, a5, a6, a7, a8⟩ := hK.box.tail.head.four
  first | rw [er_t] | rw [er_f]
  go_wp2_with fail
  refine (HL.out _).mono ?_
  rintro e w2 ⟨rfl, hb2⟩
  have hK2 := hK.keep hb2
  clear r0 r1 r2 r3 r4 r5 r6 r7 r8 a0 a1 a2 a3 a4 a5 a6 a7 a8
  obtain ⟨r0, r1, r2, r3, r4, r5, r6, r7, r8⟩ := hK2.box.head.four
  obtain ⟨a0, a1, a2, a3, a4, a5, a6, a7, a8⟩ := hK2.box.tail.head.four
  go_wp2_with fail
  refine (HG.out _).mono ?_
  rintro e w3 ⟨rfl, hb3⟩
  have hK3 := hK2.keep hb3
  clear r0 r1 r2 r3 r4 r5 r6 r7 r8 a0 a1 a2 a3 a4 a5 a6 a7 a8
  obtain ⟨r0, r1, r2, r3, r4, r5, r6, r7, r8⟩ := hK3.box.head.four
  obtain ⟨a0, a1, a2, a3, a4, a5, a6, a7, a8⟩ := hK3.box.tail.head.four
  cases lb
  · go_wp2_with fail
    exact bodyPost_ret (v := .tuple #[V0, .bool false, N 0]) (by simp [results, Try.results31, go_sem, nv_zero, r0, r1, r2, r3]) rfl ⟨rfl, (hK3.set4 0 rfl).bel⟩
  · cases gb
    · go_wp2_with fail
      exact bodyPost_ret (v := .tuple #[V0, .bool false, N 0]) (by simp [results, Try.results31, go_sem, nv_zero, r0, r1, r2, r3]) rfl ⟨rfl, (hK3.set4 0 rfl).bel⟩
    · have hlt : nv hi < nv lo := by
        have := Ho.out
        simp only [Bool.true_and, decide_eq_false_iff_not] at this
        omega
      clear Ho
      go_wp2_with fail
      exact bodyPost_ret (v := .tuple #[V0, .bool false, N 0]) (by simp [results, Try.results31, go_sem, nv_zero, r0, r1, r2, r3]) rfl ⟨rfl, (hK3.set4 0 rfl).bel⟩

theorem both_right {v m v' m' : BitVec 64} (h1 : RtB v m) (h2 : RtB v' m') : Hid ((eqb (band v m) zero && eqb (band v' m') zero) = true) := by
  show _ = true
  rw [(rt_iff _ _).2 h1, (rt_iff _ _).2 h2]; rfl
set_option maxHeartbeats 1000000 in
theorem norm_yes {v m l h : BitVec 64} (hr : Hid (eqb (band v m) zero = true)) (ho : Hid (normOk v m l h = true)) (w : World) :
    Calls Try.prog 31 #[Vl v m l h] w fun e w' => e = .returned (.tuple #[Vl (nV v m l h) (nM m (nLo v m l) (nHi v m h)) (nLo v m l) (nHi v m h), .bool true, N 0]) ∧ Below w.heap.size w w' := by
  have hrt := (rt_iff v m).1 hr.out
  have hfa := norm_facts hrt ho.out
  have ho' := ho.out
  unfold normOk at ho'
  simp only [Bool.and_eq_true] at ho'
  have HL : Hid (∀ w, Calls Try.prog 82 #[Bt v m, U l] w fun e w' => e = .returned (.tuple #[U (nLo v m l), .bool true]) ∧ Below w.heap.size w w') := fun w => by
    have := valLeast_any v m l w; rw [ho'.1] at this; exact this
  have HG : Hid (∀ w, Calls Try.prog 83 #[Bt v m, U h] w fun e w' => e = .returned (.tuple #[U (nHi v m h), .bool true]) ∧ Below w.heap.size w w') := fun w => by
    have := valGreat_any v m h w; rw [ho'.2.1] at this; exact this
  have HS : Hid (∀ w, Calls Try.prog 16 #[U (nLo v m l), U (nHi v m h)] w fun e w' => e = .returned (.tuple #[Bt (spV (nLo v m l) (nHi v m h)) (sM (nLo v m l) (nHi v m h)), N 0]) ∧ Below w.heap.size w w') := fun w => span_ok hfa.2.2.1 w
  have HM : Hid (∀ w, Calls Try.prog 14 #[Bt v m, Bt (spV (nLo v m l) (nHi v m h)) (sM (nLo v m l) (nHi v m h))] w fun e w' => e = .returned (.tuple #[Bt (nV v m l h) (nM m (nLo v m l) (nHi v m h)), .bool true, N 0]) ∧ Below w.heap.size w w') := fun w =>
    meet_ok (both_right hrt (span_rt _ _)) (meet_span hrt hfa.1 (Int.le_refl _) hfa.2.2.1) w
  have hle := hfa.2.2.1
  clear hfa ho' ho hrt
  generalize nV v m l h = rv at HM ⊢
  generalize nM m (nLo v m l) (nHi v m h) = rm at HM ⊢
  generalize spV (nLo v m l) (nHi v m h) = sv at HM HS
  generalize sM (nLo v m l) (nHi v m h) = sm at HM HS
  generalize nLo v m l = lo at HL HS hle ⊢
  generalize nHi v m h = hi at HG HS hle ⊢
  go_enter Try.func31, Try.ntmps31
  go_wp2_with fail
  refine (check_any hr _).mono ?_
  rintro e w1 ⟨rfl, hb1⟩
  have hK := (((Kp.start w).add4 _ _ _ _ _).add4 _ _ _ _ _).keep hb1
  simp only [World.size_alloc] at hK
  obtain ⟨r0, r1, r2, r3, r4, r5, r6, r7, r8⟩ := hK.box.head.four
  obtain ⟨a0, a1, a2, a3, a4, a5, a6, a7, a8⟩ := hK.box.tail.head.four
  first | rw [er_t] | rw [er_f]
  go_wp2_with fail
  refine (HL.out _).mono ?_
  rintro e w2 ⟨rfl, hb2⟩
  have hK2 := hK.keep hb2
  clear r0 r1 r2 r3 r4 r5 r6 r7 r8 a0 a1 a2 a3 a4 a5 a6 a7 a8
  obtain ⟨r0, r1, r2, r3, r4, r5, r6, r7, r8⟩ := hK2.box.head.four
  obtain ⟨a0, a1, a2, a3, a4, a5, a6, a7, a8⟩ := hK2.box.tail.head.four
  go_wp2_with fail
  refine (HG.out _).mono ?_
  rintro e w3 ⟨rfl, hb3⟩
  have hK3 := hK2.keep hb3
  clear r0 r1 r2 r3 r4 r5 r6 r7 r8 a0 a1 a2 a3 a4 a5 a6 a7 a8
  obtain ⟨r0, r1, r2, r3, r4, r5, r6, r7, r8⟩ := hK3.box.head.four
  obtain ⟨a0, a1, a2, a3, a4, a5, a6, a7, a8⟩ := hK3.box.tail.head.four
  go_wp2_with fail
  refine (HS.out _).mono ?_
  rintro e w4 ⟨rfl, hb4⟩
  have hK4 := hK3.keep hb4
  clear r0 r1 r2 r3 r4 r5 r6 r7 r8 a0 a1 a2 a3 a4 a5 a6 a7 a8
  obtain ⟨r0, r1, r2, r3, r4, r5, r6, r7, r8⟩ := hK4.box.head.four
  obtain ⟨a0, a1, a2, a3, a4, a5, a6, a7, a8⟩ := hK4.box.tail.head.four
  go_wp2_with fail
  refine (HM.out _).mono ?_
  rintro e w5 ⟨rfl, hb5⟩
  have hK5 := (hK4.add2 _ _ _).keep hb5
  clear r0 r1 r2 r3 r4 r5 r6 r7 r8 a0 a1 a2 a3 a4 a5 a6 a7 a8
  obtain ⟨s0, s1, s2, s3, s4⟩ := hK5.box.head.two
  obtain ⟨r0, r1, r2, r3, r4, r5, r6, r7, r8⟩ := hK5.box.tail.head.four
  obtain ⟨a0, a1, a2, a3, a4, a5, a6, a7, a8⟩ := hK5.box.tail.tail.head.four
  go_wp2_with fail
  exact bodyPost_ret (v := .tuple #[Vl rv rm lo hi, .bool true, N 0]) (by simp [results, Try.results31, go_sem, r0, r1, r2, r3, r8]) rfl ⟨rfl, ((hK5.set4 1 rfl).add2 _ _ _).bel⟩

end Go.Proofs.Ytglollajdjgciaa
