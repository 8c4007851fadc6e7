/- The contracts of package calc's shift and reckon. -/
import Derived.Test.YtglollajdjgciaaW21
import Derived.Test.YtglollajdjgciaaW9
namespace Go.Proofs.Ytglollajdjgciaa
open Go.RowKit
attribute [local go_sem] w_and w_or w_xor w_andNot w_and1 w_and63 w_add w_sub w_mul w_sub1 w_add1 w_shl w_shl1 w_shr c_beq c_bne c_beq0 c_bne0 c_beq1 c_bne1 wrap_nv

set_option maxRecDepth 100000 in
set_option maxHeartbeats 1000000 in
theorem shift_wide8 {v m l g v' m' l' g' : BitVec 64} (ha : Hid (eqb l' g' = false)) (w : World) :
    Calls Try.prog 112 #[N 8, Vl v m l g, Vl v' m' l' g'] w fun e w' => e = .returned (Vl zero top zero top) ∧ Below w.heap.size w w' := by
  go_enter Try.func112, Try.ntmps112
  go_wp2_with fail
  refine (alone_is ha.out _).mono ?_
  rintro e w1 ⟨rfl, hb1⟩
  have hK := ((((Kp.start w).add4 _ _ _ _ _).add4 _ _ _ _ _).add4 _ _ _ _ _).keep hb1
  simp only [World.size_alloc] at hK
  obtain ⟨r0, r1, r2, r3, r4, r5, r6, r7, r8⟩ := hK.box.head.four
  obtain ⟨b0, b1, b2, b3, b4, b5, b6, b7, b8⟩ := hK.box.tail.head.four
  obtain ⟨a0, a1, a2, a3, a4, a5, a6, a7, a8⟩ := hK.box.tail.tail.head.four
  go_wp2_with fail
  exact bodyPost_ret (v := Vl zero top zero top) (by simp [results, Try.results112, go_sem, nv_zero, nv_top, r0, r1, r2, r3]) rfl ⟨rfl, (hK.set4 0 rfl).bel⟩
set_option maxRecDepth 100000 in
set_option maxHeartbeats 1000000 in
theorem shift_wide9 {v m l g v' m' l' g' : BitVec 64} (ha : Hid (eqb l' g' = false)) (w : World) :
    Calls Try.prog 112 #[N 9, Vl v m l g, Vl v' m' l' g'] w fun e w' => e = .returned (Vl zero top zero g) ∧ Below w.heap.size w w' := by
  go_enter Try.func112, Try.ntmps112
  go_wp2_with fail
  refine (alone_is ha.out _).mono ?_
  rintro e w1 ⟨rfl, hb1⟩
  have hK := ((((Kp.start w).add4 _ _ _ _ _).add4 _ _ _ _ _).add4 _ _ _ _ _).keep hb1
  simp only [World.size_alloc] at hK
  obtain ⟨r0, r1, r2, r3, r4, r5, r6, r7, r8⟩ := hK.box.head.four
  obtain ⟨b0, b1, b2, b3, b4, b5, b6, b7, b8⟩ := hK.box.tail.head.four
  obtain ⟨a0, a1, a2, a3, a4, a5, a6, a7, a8⟩ := hK.box.tail.tail.head.four
  go_wp2_with fail
  exact bodyPost_ret (v := Vl zero top zero g) (by simp [results, Try.results112, go_sem, nv_zero, nv_top, r0, r1, r2, r3]) rfl ⟨rfl, (hK.set4 0 rfl).bel⟩
set_option maxRecDepth 100000 in
set_option maxHeartbeats 1000000 in
theorem shift_one8 {v m l h v' m' l' h' : BitVec 64} (hr : Hid (eqb (band v m) zero = true)) (ha : Hid (eqb l' h' = true)) (w : World) :
    Calls Try.prog 112 #[N 8, Vl v m l h, Vl v' m' l' h'] w fun e w' => e = .returned (Vl (bshl v (six l')) (bshl m (six l')) (shlB l h (six l')).1 (shlB l h (six l')).2) ∧ Below w.heap.size w w' := by
  have h6 := six_nv l'
  have h7 := six_lt l'
  have HS : Hid (∀ w, Calls Try.prog 15 #[N 8, Bt v m, N (six l')] w fun e w' => e = .returned (.tuple #[Bt (bshl v (six l')) (bshl m (six l')), N 0]) ∧ Below w.heap.size w w') := fun w => shift_up hr h7 w
  have HB : Hid (∀ w, Calls Try.prog 125 #[N 8, Vl v m l h, U (band l' 63#64)] w fun e w' => e = .returned (.tuple #[U (shlB l h (six l')).1, U (shlB l h (six l')).2]) ∧ Below w.heap.size w w') := fun w => shiftBounds_shl v m l h l' w
  generalize shlB l h (six l') = S at HB ⊢
  obtain ⟨lo, hi⟩ := S
  generalize bshl v (six l') = sv at HS ⊢
  generalize bshl m (six l') = sm at HS ⊢
  go_enter Try.func112, Try.ntmps112
  go_wp2_with fail
  refine (alone_is ha.out _).mono ?_
  rintro e w1 ⟨rfl, hb1⟩
  have hK := ((((Kp.start w).add4 _ _ _ _ _).add4 _ _ _ _ _).add4 _ _ _ _ _).keep hb1
  simp only [World.size_alloc] at hK
  obtain ⟨r0, r1, r2, r3, r4, r5, r6, r7, r8⟩ := hK.box.head.four
  obtain ⟨b0, b1, b2, b3, b4, b5, b6, b7, b8⟩ := hK.box.tail.head.four
  obtain ⟨a0, a1, a2, a3, a4, a5, a6, a7, a8⟩ := hK.box.tail.tail.head.four
  go_wp2_with fail
  refine (HS.out _).mono ?_
  rintro e w2 ⟨rfl, hb2⟩
  have hK2 := hK.keep hb2
  clear r0 r1 r2 r3 r4 r5 r6 r7 r8 b0 b1 b2 b3 b4 b5 b6 b7 b8 a0 a1 a2 a3 a4 a5 a6 a7 a8
  obtain ⟨r0, r1, r2, r3, r4, r5, r6, r7, r8⟩ := hK2.box.head.four
  obtain ⟨b0, b1, b2, b3, b4, b5, b6, b7, b8⟩ := hK2.box.tail.head.four
  obtain ⟨a0, a1, a2, a3, a4, a5, a6, a7, a8⟩ := hK2.box.tail.tail.head.four
  go_wp2_with fail
  refine (HB.out _).mono ?_
  rintro e w3 ⟨rfl, hb3⟩
  have hK3 := (hK2.add2 _ _ _).keep hb3
  clear r0 r1 r2 r3 r4 r5 r6 r7 r8 b0 b1 b2 b3 b4 b5 b6 b7 b8 a0 a1 a2 a3 a4 a5 a6 a7 a8
  obtain ⟨s0, s1, s2, s3, s4⟩ := hK3.box.head.two
  obtain ⟨r0, r1, r2, r3, r4, r5, r6, r7, r8⟩ := hK3.box.tail.head.four
  obtain ⟨b0, b1, b2, b3, b4, b5, b6, b7, b8⟩ := hK3.box.tail.tail.head.four
  obtain ⟨a0, a1, a2, a3, a4, a5, a6, a7, a8⟩ := hK3.box.tail.tail.tail.head.four
  go_wp2_with fail
  exact bodyPost_ret (v := Vl sv sm lo hi) (by simp [results, Try.results112, go_sem, r0, r1, r2, r3]) rfl ⟨rfl, (hK3.set4 1 rfl).bel⟩
set_option maxRecDepth 100000 in
set_option maxHeartbeats 1000000 in
theorem shift_one9 {v m l h v' m' l' h' : BitVec 64} (hr : Hid (eqb (band v m) zero = true)) (ha : Hid (eqb l' h' = true)) (w : World) :
    Calls Try.prog 112 #[N 9, Vl v m l h, Vl v' m' l' h'] w fun e w' => e = .returned (Vl (bshr v (six l')) (bshr m (six l')) (bshr l (six l')) (bshr h (six l'))) ∧ Below w.heap.size w w' := by
  have h6 := six_nv l'
  have h7 := six_lt l'
  have HS : Hid (∀ w, Calls Try.prog 15 #[N 9, Bt v m, N (six l')] w fun e w' => e = .returned (.tuple #[Bt (bshr v (six l')) (bshr m (six l')), N 0]) ∧ Below w.heap.size w w') := fun w => shift_down hr h7 w
  have HB : Hid (∀ w, Calls Try.prog 125 #[N 9, Vl v m l h, U (band l' 63#64)] w fun e w' => e = .returned (.tuple #[U (bshr l (six l')), U (bshr h (six l'))]) ∧ Below w.heap.size w w') := fun w => shiftBounds_shr v m l h l' w
  generalize bshr l (six l') = lo at HB ⊢
  generalize bshr h (six l') = hi at HB ⊢
  generalize bshr v (six l') = sv at HS ⊢
  generalize bshr m (six l') = sm at HS ⊢
  go_enter Try.func112, Try.ntmps112
  go_wp2_with fail
  refine (alone_is ha.out _).mono ?_
  rintro e w1 ⟨rfl, hb1⟩
  have hK := ((((Kp.start w).add4 _ _ _ _ _).add4 _ _ _ _ _).add4 _ _ _ _ _).keep hb1
  simp only [World.size_alloc] at hK
  obtain ⟨r0, r1, r2, r3, r4, r5, r6, r7, r8⟩ := hK.box.head.four
  obtain ⟨b0, b1, b2, b3, b4, b5, b6, b7, b8⟩ := hK.box.tail.head.four
  obtain ⟨a0, a1, a2, a3, a4, a5, a6, a7, a8⟩ := hK.box.tail.tail.head.four
  go_wp2_with fail
  refine (HS.out _).mono ?_
  rintro e w2 ⟨rfl, hb2⟩
  have hK2 := hK.keep hb2
  clear r0 r1 r2 r3 r4 r5 r6 r7 r8 b0 b1 b2 b3 b4 b5 b6 b7 b8 a0 a1 a2 a3 a4 a5 a6 a7 a8
  obtain ⟨r0, r1, r2, r3, r4, r5, r6, r7, r8⟩ := hK2.box.head.four
  obtain ⟨b0, b1, b2, b3, b4, b5, b6, b7, b8⟩ := hK2.box.tail.head.four
  obtain ⟨a0, a1, a2, a3, a4, a5, a6, a7, a8⟩ := hK2.box.tail.tail.head.four
  go_wp2_with fail
  refine (HB.out _).mono ?_
  rintro e w3 ⟨rfl, hb3⟩
  have hK3 := (hK2.add2 _ _ _).keep hb3
  clear r0 r1 r2 r3 r4 r5 r6 r7 r8 b0 b1 b2 b3 b4 b5 b6 b7 b8 a0 a1 a2 a3 a4 a5 a6 a7 a8
  obtain ⟨s0, s1, s2, s3, s4⟩ := hK3.box.head.two
  obtain ⟨r0, r1, r2, r3, r4, r5, r6, r7, r8⟩ := hK3.box.tail.head.four
  obtain ⟨b0, b1, b2, b3, b4, b5, b6, b7, b8⟩ := hK3.box.tail.tail.head.four
  obtain ⟨a0, a1, a2, a3, a4, a5, a6, a7, a8⟩ := hK3.box.tail.tail.tail.head.four
  go_wp2_with fail
  exact bodyPost_ret (v := Vl sv sm lo hi) (by simp [results, Try.results112, go_sem, r0, r1, r2, r3]) rfl ⟨rfl, (hK3.set4 1 rfl).bel⟩

end Go.Proofs.Ytglollajdjgciaa
