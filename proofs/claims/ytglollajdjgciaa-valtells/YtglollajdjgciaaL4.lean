/- ValTells, walked. (Written by gen_l4.py.) -/
import Derived.Test.YtglollajdjgciaaL5
import Derived.Test.YtglollajdjgciaaW18
import Derived.Test.YtglollajdjgciaaCls
import Derived.Deep.RegionWith
namespace Go.Proofs.Ytglollajdjgciaa
open Go.RowKit Go.BigFrame
attribute [local go_sem] w_and w_or w_xor w_andNot w_and1 w_and63 w_add w_sub w_mul w_sub1 w_add1 w_shl w_shl1 w_shr c_beq c_bne c_beq0 c_bne0 c_beq1 c_bne1 wrap_nv
attribute [local go_sem] eqb_self

theorem all_norm (v m l h : BitVec 64) (r : Bool) (hr : eqb (band v m) zero = r) : ∃ a b c d i,
    Hid (∀ w, Calls Try.prog 31 #[Vl v m l h] w fun o w' => o = .returned (.tuple #[Vl a b c d, .bool i, N (er r)]) ∧ Below w.heap.size w w')
    ∧ Hid ((r = false ∧ i = false ∧ a = zero ∧ b = zero ∧ c = zero ∧ d = zero) ∨ (r = true ∧ Hid (∀ w, Calls Try.prog 33 #[Vl v m l h] w fun o w' => o = .returned (.tuple #[Vl a b c d, .bool i]) ∧ Below w.heap.size w w'))) := by
  cases r
  · exact ⟨zero, zero, zero, zero, false, hid (fun w => norm_wrong hr w), Or.inl ⟨rfl, rfl, rfl, rfl, rfl, rfl⟩⟩
  · cases ho : normOk v m l h
    · exact ⟨zero, zero, zero, zero, false, hid (fun w => norm_none hr ho w), Or.inr ⟨rfl, hid (fun w => normVal_none hr ho w)⟩⟩
    · exact ⟨_, _, _, _, true, hid (fun w => norm_yes hr ho w), Or.inr ⟨rfl, hid (fun w => normVal_yes hr ho w)⟩⟩
theorem all_vjoin (v m l h v' m' l' h' : BitVec 64) (r : Bool) (hr : (valB v m l h && valB v' m' l' h') = r) : ∃ a b c d,
    Hid (∀ w, Calls Try.prog 32 #[Vl v m l h, Vl v' m' l' h'] w fun o w' => o = .returned (.tuple #[Vl a b c d, N (er r)]) ∧ Below w.heap.size w w')
    ∧ Hid ((r = false ∧ a = zero ∧ b = zero ∧ c = zero ∧ d = zero) ∨ (r = true ∧ Hid (∀ w, Calls Try.prog 35 #[Vl v m l h, Vl v' m' l' h'] w fun o w' => o = .returned (Vl a b c d) ∧ Below w.heap.size w w'))) := by
  cases r
  · exact ⟨zero, zero, zero, zero, hid (fun w => valJoin_no hr w), Or.inl ⟨rfl, rfl, rfl, rfl, rfl⟩⟩
  · exact ⟨_, _, _, _, hid (fun w => valJoin_yes hr w), Or.inr ⟨rfl, hid (fun w => joinVal_yes hr w)⟩⟩

set_option maxRecDepth 100000 in
set_option maxHeartbeats 8000000 in
theorem valTells_any (v m l h v' m' l' h' x : BitVec 64) (w : World) :
    Calls Try.prog 6 #[Vl v m l h, Vl v' m' l' h', U x] w fun e w' => e = .returned (.bool true) ∧ Below w.heap.size w w' := by
  obtain ⟨ra, hra⟩ : ∃ r, Hid (eqb (band v m) zero = r) := ⟨_, rfl⟩
  obtain ⟨r1, V1⟩ : ∃ r, Hid (valB v m l h = r) := ⟨_, rfl⟩
  obtain ⟨r2, V2⟩ : ∃ r, Hid (valB v' m' l' h' = r) := ⟨_, rfl⟩
  obtain ⟨r, hr⟩ : ∃ r, Hid (r = (r1 && r2)) := ⟨_, rfl⟩
  have hab : (valB v m l h && valB v' m' l' h') = r := by rw [V1.out, V2.out, hr.out]
  obtain ⟨a, b, c, d, i, N1, N2⟩ := all_norm v m l h ra hra.out
  obtain ⟨ja, jb, jc, jd, J1, J2⟩ := all_vjoin v m l h v' m' l' h' r hab
  clear hab
  go_enter Try.func6, Try.ntmps6
  go_wp2_with fail
  refine (N1.out _).mono ?_
  rintro e w1 ⟨rfl, hb1⟩
  have hB1 := (((Kp.start w).add4 _ _ _ _ _).add4 _ _ _ _ _).keep hb1
  simp only [World.size_alloc] at hB1
  obtain ⟨g0, g1, g2, g3, g4, g5, g6, g7, g8⟩ := hB1.box.head.four
  obtain ⟨f0, f1, f2, f3, f4, f5, f6, f7, f8⟩ := hB1.box.tail.head.four
  go_wp2_with fail
  refine (J1.out _).mono ?_
  rintro e w2 ⟨rfl, hb2⟩
  have hB2 := (hB1.add4 _ _ _ _ _).keep hb2
  clear g0 g1 g2 g3 g4 g5 g6 g7 g8 f0 f1 f2 f3 f4 f5 f6 f7 f8
  have hZ := ((hB2.add4 (U ja) (U jb) (U jc) (U jd) 49).add4 (.int .u64 0) (.int .u64 0) (.int .u64 0) (.int .u64 0) 49).add4 (.int .u64 0) (.int .u64 0) (.int .u64 0) (.int .u64 0) 49
  simp only [World.size_alloc] at hZ
  go_upto_region 6 with fail
  obtain ⟨f0, f1, f2, f3, f4, f5, f6, f7, f8⟩ := hZ.box.tail.tail.tail.tail.tail.head.four
  go_wp2_with fail
  refine (right_is hra.out _).mono ?_
  rintro e w3 ⟨rfl, hb3⟩
  have hB3 := hZ.keep hb3
  clear f0 f1 f2 f3 f4 f5 f6 f7 f8
  clear hZ
  go_upto_if 31 with fail
  clear hB1 hB2 hb1 hb2 hb3 N1 J1
  go_cut [12, 16] (fun u t wd => u = N (er ra) ∧ t = .bool i ∧ Kp w wd [(w2.heap.size + 1 + 1, [.int .u64 0, .int .u64 0, .int .u64 0, .int .u64 0]), (w2.heap.size + 1, [U a, U b, U c, U d]), (w2.heap.size, [U ja, U jb, U jc, U jd]), (w1.heap.size, [U a, U b, U c, U d]), (w.heap.size + 1, [U v', U m', U l', U h']), (w.heap.size, [U v, U m, U l, U h])])
  case first =>
    as_aux_lemma =>
      clear J2 hr V1 V2
      obtain ⟨j0, j1, j2, j3, j4, j5, j6, j7, j8⟩ := hB3.box.head.four
      obtain ⟨n0, n1, n2, n3, n4, n5, n6, n7, n8⟩ := hB3.box.tail.head.four
      obtain ⟨g0, g1, g2, g3, g4, g5, g6, g7, g8⟩ := hB3.box.tail.tail.tail.tail.head.four
      obtain ⟨f0, f1, f2, f3, f4, f5, f6, f7, f8⟩ := hB3.box.tail.tail.tail.tail.tail.head.four
      rcases N2.out with ⟨rfl, rfl, rfl, rfl, rfl, rfl⟩ | ⟨rfl, N3⟩
      · go_wp2_with fail
        go_meet
        case rel => exact ⟨rfl, rfl, hB3⟩
      · go_wp2_with fail
        refine (N3.out _).mono ?_
        rintro e w4 ⟨rfl, hb4⟩
        have hB4 := hB3.keep hb4
        clear j0 j1 j2 j3 j4 j5 j6 j7 j8 n0 n1 n2 n3 n4 n5 n6 n7 n8 g0 g1 g2 g3 g4 g5 g6 g7 g8 f0 f1 f2 f3 f4 f5 f6 f7 f8
        obtain ⟨j0, j1, j2, j3, j4, j5, j6, j7, j8⟩ := hB4.box.head.four
        obtain ⟨n0, n1, n2, n3, n4, n5, n6, n7, n8⟩ := hB4.box.tail.head.four
        obtain ⟨g0, g1, g2, g3, g4, g5, g6, g7, g8⟩ := hB4.box.tail.tail.tail.tail.head.four
        obtain ⟨f0, f1, f2, f3, f4, f5, f6, f7, f8⟩ := hB4.box.tail.tail.tail.tail.tail.head.four
        go_wp2_with fail
        go_meet
        case rel => exact ⟨rfl, rfl, hB4.set4 1 rfl⟩
  case rest =>
  clear hB3 N2
  obtain ⟨rfl, rfl, hK1⟩ := hcut
  go_upto_region 9 with fail
  go_cut [42] (fun t wd => t = .bool r ∧ Kp w wd [(w2.heap.size + 1 + 1, [.int .u64 0, .int .u64 0, .int .u64 0, .int .u64 0]), (w2.heap.size + 1, [U a, U b, U c, U d]), (w2.heap.size, [U ja, U jb, U jc, U jd]), (w1.heap.size, [U a, U b, U c, U d]), (w.heap.size + 1, [U v', U m', U l', U h']), (w.heap.size, [U v, U m, U l, U h])])
  case first =>
    as_aux_lemma =>
      clear J2 hra
      obtain ⟨g0, g1, g2, g3, g4, g5, g6, g7, g8⟩ := hK1.box.tail.tail.tail.tail.head.four
      obtain ⟨f0, f1, f2, f3, f4, f5, f6, f7, f8⟩ := hK1.box.tail.tail.tail.tail.tail.head.four
      go_wp2_with fail
      refine (rightV V1.out _).mono ?_
      rintro e w3 ⟨rfl, hb3⟩
      have hK2 := hK1.keep hb3
      clear g0 g1 g2 g3 g4 g5 g6 g7 g8 f0 f1 f2 f3 f4 f5 f6 f7 f8
      obtain ⟨g0, g1, g2, g3, g4, g5, g6, g7, g8⟩ := hK2.box.tail.tail.tail.tail.head.four
      obtain ⟨f0, f1, f2, f3, f4, f5, f6, f7, f8⟩ := hK2.box.tail.tail.tail.tail.tail.head.four
      cases r1
      · go_wp2_with fail
        go_meet
        case rel => exact ⟨by rw [hr.out]; rfl, hK2⟩
      · go_wp2_with fail
        refine (rightV V2.out _).mono ?_
        rintro e w4 ⟨rfl, hb4⟩
        have hK3 := hK2.keep hb4
        go_wp2_with fail
        go_meet
        case rel => exact ⟨by rw [hr.out]; rfl, hK3⟩
  case rest =>
  clear hK1 hr
  obtain ⟨rfl, hK1⟩ := hcut
  go_upto_if 42 with fail
  go_cut [13] (fun t wd => t = N (er r) ∧ Kp w wd [(w2.heap.size + 1 + 1, [U ja, U jb, U jc, U jd]), (w2.heap.size + 1, [U a, U b, U c, U d]), (w2.heap.size, [U ja, U jb, U jc, U jd]), (w1.heap.size, [U a, U b, U c, U d]), (w.heap.size + 1, [U v', U m', U l', U h']), (w.heap.size, [U v, U m, U l, U h])])
  case first =>
    as_aux_lemma =>
      clear hra V1 V2
      obtain ⟨j0, j1, j2, j3, j4, j5, j6, j7, j8⟩ := hK1.box.head.four
      obtain ⟨n0, n1, n2, n3, n4, n5, n6, n7, n8⟩ := hK1.box.tail.head.four
      obtain ⟨g0, g1, g2, g3, g4, g5, g6, g7, g8⟩ := hK1.box.tail.tail.tail.tail.head.four
      obtain ⟨f0, f1, f2, f3, f4, f5, f6, f7, f8⟩ := hK1.box.tail.tail.tail.tail.tail.head.four
      rcases J2.out with ⟨rfl, rfl, rfl, rfl, rfl⟩ | ⟨rfl, J3⟩
      · go_wp2_with fail
        go_meet
        case rel => exact ⟨rfl, hK1⟩
      · go_wp2_with fail
        refine (J3.out _).mono ?_
        rintro e w4 ⟨rfl, hb4⟩
        have hK2 := hK1.keep hb4
        clear j0 j1 j2 j3 j4 j5 j6 j7 j8 n0 n1 n2 n3 n4 n5 n6 n7 n8 g0 g1 g2 g3 g4 g5 g6 g7 g8 f0 f1 f2 f3 f4 f5 f6 f7 f8
        obtain ⟨j0, j1, j2, j3, j4, j5, j6, j7, j8⟩ := hK2.box.head.four
        obtain ⟨n0, n1, n2, n3, n4, n5, n6, n7, n8⟩ := hK2.box.tail.head.four
        obtain ⟨g0, g1, g2, g3, g4, g5, g6, g7, g8⟩ := hK2.box.tail.tail.tail.tail.head.four
        obtain ⟨f0, f1, f2, f3, f4, f5, f6, f7, f8⟩ := hK2.box.tail.tail.tail.tail.tail.head.four
        go_wp2_with fail
        go_meet
        case rel => exact ⟨rfl, hK2.set4 0 rfl⟩
  case rest =>
  clear hK1 J2 V2
  obtain ⟨rfl, hK1⟩ := hcut
  have hEE : (er r1 == 0) = r1 := er_eq0 r1
  go_upto_region 12 with fail
  as_aux_lemma =>
    simp only [List.append]
    refine region_class (fun w' => ∃ n : Cl w [(w2.heap.size + 1 + 1, [U ja, U jb, U jc, U jd]), (w2.heap.size + 1, [U a, U b, U c, U d]), (w2.heap.size, [U ja, U jb, U jc, U jd]), (w1.heap.size, [U a, U b, U c, U d]), (w.heap.size + 1, [U v', U m', U l', U h']), (w.heap.size, [U v, U m, U l, U h])], w' = n.val) (by kernel_rfl) (by kernel_rfl) (Cl.start hK1) ?_
    haveI : Nonempty (Cl w [(w2.heap.size + 1 + 1, [U ja, U jb, U jc, U jd]), (w2.heap.size + 1, [U a, U b, U c, U d]), (w2.heap.size, [U ja, U jb, U jc, U jd]), (w1.heap.size, [U a, U b, U c, U d]), (w.heap.size + 1, [U v', U m', U l', U h']), (w.heap.size, [U v, U m, U l, U h])]) := Cl.some hK1
    have hq0x0 : ∀ n : Cl w [(w2.heap.size + 1 + 1, [U ja, U jb, U jc, U jd]), (w2.heap.size + 1, [U a, U b, U c, U d]), (w2.heap.size, [U ja, U jb, U jc, U jd]), (w1.heap.size, [U a, U b, U c, U d]), (w.heap.size + 1, [U v', U m', U l', U h']), (w.heap.size, [U v, U m, U l, U h])], n.val.cell? ⟨w2.heap.size + 1 + 1, 0, none⟩ = some (U ja) := fun n => (n.kp.box.head.four).1
    have hq0x1 : ∀ n : Cl w [(w2.heap.size + 1 + 1, [U ja, U jb, U jc, U jd]), (w2.heap.size + 1, [U a, U b, U c, U d]), (w2.heap.size, [U ja, U jb, U jc, U jd]), (w1.heap.size, [U a, U b, U c, U d]), (w.heap.size + 1, [U v', U m', U l', U h']), (w.heap.size, [U v, U m, U l, U h])], n.val.cell? ⟨w2.heap.size + 1 + 1, 1, none⟩ = some (U jb) := fun n => (n.kp.box.head.four).2.1
    have hq0x2 : ∀ n : Cl w [(w2.heap.size + 1 + 1, [U ja, U jb, U jc, U jd]), (w2.heap.size + 1, [U a, U b, U c, U d]), (w2.heap.size, [U ja, U jb, U jc, U jd]), (w1.heap.size, [U a, U b, U c, U d]), (w.heap.size + 1, [U v', U m', U l', U h']), (w.heap.size, [U v, U m, U l, U h])], n.val.cell? ⟨w2.heap.size + 1 + 1, 2, none⟩ = some (U jc) := fun n => (n.kp.box.head.four).2.2.1
    have hq0x3 : ∀ n : Cl w [(w2.heap.size + 1 + 1, [U ja, U jb, U jc, U jd]), (w2.heap.size + 1, [U a, U b, U c, U d]), (w2.heap.size, [U ja, U jb, U jc, U jd]), (w1.heap.size, [U a, U b, U c, U d]), (w.heap.size + 1, [U v', U m', U l', U h']), (w.heap.size, [U v, U m, U l, U h])], n.val.cell? ⟨w2.heap.size + 1 + 1, 3, none⟩ = some (U jd) := fun n => (n.kp.box.head.four).2.2.2.1
    have hq1x0 : ∀ n : Cl w [(w2.heap.size + 1 + 1, [U ja, U jb, U jc, U jd]), (w2.heap.size + 1, [U a, U b, U c, U d]), (w2.heap.size, [U ja, U jb, U jc, U jd]), (w1.heap.size, [U a, U b, U c, U d]), (w.heap.size + 1, [U v', U m', U l', U h']), (w.heap.size, [U v, U m, U l, U h])], n.val.cell? ⟨w2.heap.size + 1, 0, none⟩ = some (U a) := fun n => (n.kp.box.tail.head.four).1
    have hq1x1 : ∀ n : Cl w [(w2.heap.size + 1 + 1, [U ja, U jb, U jc, U jd]), (w2.heap.size + 1, [U a, U b, U c, U d]), (w2.heap.size, [U ja, U jb, U jc, U jd]), (w1.heap.size, [U a, U b, U c, U d]), (w.heap.size + 1, [U v', U m', U l', U h']), (w.heap.size, [U v, U m, U l, U h])], n.val.cell? ⟨w2.heap.size + 1, 1, none⟩ = some (U b) := fun n => (n.kp.box.tail.head.four).2.1
    have hq1x2 : ∀ n : Cl w [(w2.heap.size + 1 + 1, [U ja, U jb, U jc, U jd]), (w2.heap.size + 1, [U a, U b, U c, U d]), (w2.heap.size, [U ja, U jb, U jc, U jd]), (w1.heap.size, [U a, U b, U c, U d]), (w.heap.size + 1, [U v', U m', U l', U h']), (w.heap.size, [U v, U m, U l, U h])], n.val.cell? ⟨w2.heap.size + 1, 2, none⟩ = some (U c) := fun n => (n.kp.box.tail.head.four).2.2.1
    have hq1x3 : ∀ n : Cl w [(w2.heap.size + 1 + 1, [U ja, U jb, U jc, U jd]), (w2.heap.size + 1, [U a, U b, U c, U d]), (w2.heap.size, [U ja, U jb, U jc, U jd]), (w1.heap.size, [U a, U b, U c, U d]), (w.heap.size + 1, [U v', U m', U l', U h']), (w.heap.size, [U v, U m, U l, U h])], n.val.cell? ⟨w2.heap.size + 1, 3, none⟩ = some (U d) := fun n => (n.kp.box.tail.head.four).2.2.2.1
    have hq2x0 : ∀ n : Cl w [(w2.heap.size + 1 + 1, [U ja, U jb, U jc, U jd]), (w2.heap.size + 1, [U a, U b, U c, U d]), (w2.heap.size, [U ja, U jb, U jc, U jd]), (w1.heap.size, [U a, U b, U c, U d]), (w.heap.size + 1, [U v', U m', U l', U h']), (w.heap.size, [U v, U m, U l, U h])], n.val.cell? ⟨w2.heap.size, 0, none⟩ = some (U ja) := fun n => (n.kp.box.tail.tail.head.four).1
    have hq2x1 : ∀ n : Cl w [(w2.heap.size + 1 + 1, [U ja, U jb, U jc, U jd]), (w2.heap.size + 1, [U a, U b, U c, U d]), (w2.heap.size, [U ja, U jb, U jc, U jd]), (w1.heap.size, [U a, U b, U c, U d]), (w.heap.size + 1, [U v', U m', U l', U h']), (w.heap.size, [U v, U m, U l, U h])], n.val.cell? ⟨w2.heap.size, 1, none⟩ = some (U jb) := fun n => (n.kp.box.tail.tail.head.four).2.1
    have hq2x2 : ∀ n : Cl w [(w2.heap.size + 1 + 1, [U ja, U jb, U jc, U jd]), (w2.heap.size + 1, [U a, U b, U c, U d]), (w2.heap.size, [U ja, U jb, U jc, U jd]), (w1.heap.size, [U a, U b, U c, U d]), (w.heap.size + 1, [U v', U m', U l', U h']), (w.heap.size, [U v, U m, U l, U h])], n.val.cell? ⟨w2.heap.size, 2, none⟩ = some (U jc) := fun n => (n.kp.box.tail.tail.head.four).2.2.1
    have hq2x3 : ∀ n : Cl w [(w2.heap.size + 1 + 1, [U ja, U jb, U jc, U jd]), (w2.heap.size + 1, [U a, U b, U c, U d]), (w2.heap.size, [U ja, U jb, U jc, U jd]), (w1.heap.size, [U a, U b, U c, U d]), (w.heap.size + 1, [U v', U m', U l', U h']), (w.heap.size, [U v, U m, U l, U h])], n.val.cell? ⟨w2.heap.size, 3, none⟩ = some (U jd) := fun n => (n.kp.box.tail.tail.head.four).2.2.2.1
    have hq3x0 : ∀ n : Cl w [(w2.heap.size + 1 + 1, [U ja, U jb, U jc, U jd]), (w2.heap.size + 1, [U a, U b, U c, U d]), (w2.heap.size, [U ja, U jb, U jc, U jd]), (w1.heap.size, [U a, U b, U c, U d]), (w.heap.size + 1, [U v', U m', U l', U h']), (w.heap.size, [U v, U m, U l, U h])], n.val.cell? ⟨w1.heap.size, 0, none⟩ = some (U a) := fun n => (n.kp.box.tail.tail.tail.head.four).1
    have hq3x1 : ∀ n : Cl w [(w2.heap.size + 1 + 1, [U ja, U jb, U jc, U jd]), (w2.heap.size + 1, [U a, U b, U c, U d]), (w2.heap.size, [U ja, U jb, U jc, U jd]), (w1.heap.size, [U a, U b, U c, U d]), (w.heap.size + 1, [U v', U m', U l', U h']), (w.heap.size, [U v, U m, U l, U h])], n.val.cell? ⟨w1.heap.size, 1, none⟩ = some (U b) := fun n => (n.kp.box.tail.tail.tail.head.four).2.1
    have hq3x2 : ∀ n : Cl w [(w2.heap.size + 1 + 1, [U ja, U jb, U jc, U jd]), (w2.heap.size + 1, [U a, U b, U c, U d]), (w2.heap.size, [U ja, U jb, U jc, U jd]), (w1.heap.size, [U a, U b, U c, U d]), (w.heap.size + 1, [U v', U m', U l', U h']), (w.heap.size, [U v, U m, U l, U h])], n.val.cell? ⟨w1.heap.size, 2, none⟩ = some (U c) := fun n => (n.kp.box.tail.tail.tail.head.four).2.2.1
    have hq3x3 : ∀ n : Cl w [(w2.heap.size + 1 + 1, [U ja, U jb, U jc, U jd]), (w2.heap.size + 1, [U a, U b, U c, U d]), (w2.heap.size, [U ja, U jb, U jc, U jd]), (w1.heap.size, [U a, U b, U c, U d]), (w.heap.size + 1, [U v', U m', U l', U h']), (w.heap.size, [U v, U m, U l, U h])], n.val.cell? ⟨w1.heap.size, 3, none⟩ = some (U d) := fun n => (n.kp.box.tail.tail.tail.head.four).2.2.2.1
    have hq4x0 : ∀ n : Cl w [(w2.heap.size + 1 + 1, [U ja, U jb, U jc, U jd]), (w2.heap.size + 1, [U a, U b, U c, U d]), (w2.heap.size, [U ja, U jb, U jc, U jd]), (w1.heap.size, [U a, U b, U c, U d]), (w.heap.size + 1, [U v', U m', U l', U h']), (w.heap.size, [U v, U m, U l, U h])], n.val.cell? ⟨w.heap.size + 1, 0, none⟩ = some (U v') := fun n => (n.kp.box.tail.tail.tail.tail.head.four).1
    have hq4x1 : ∀ n : Cl w [(w2.heap.size + 1 + 1, [U ja, U jb, U jc, U jd]), (w2.heap.size + 1, [U a, U b, U c, U d]), (w2.heap.size, [U ja, U jb, U jc, U jd]), (w1.heap.size, [U a, U b, U c, U d]), (w.heap.size + 1, [U v', U m', U l', U h']), (w.heap.size, [U v, U m, U l, U h])], n.val.cell? ⟨w.heap.size + 1, 1, none⟩ = some (U m') := fun n => (n.kp.box.tail.tail.tail.tail.head.four).2.1
    have hq4x2 : ∀ n : Cl w [(w2.heap.size + 1 + 1, [U ja, U jb, U jc, U jd]), (w2.heap.size + 1, [U a, U b, U c, U d]), (w2.heap.size, [U ja, U jb, U jc, U jd]), (w1.heap.size, [U a, U b, U c, U d]), (w.heap.size + 1, [U v', U m', U l', U h']), (w.heap.size, [U v, U m, U l, U h])], n.val.cell? ⟨w.heap.size + 1, 2, none⟩ = some (U l') := fun n => (n.kp.box.tail.tail.tail.tail.head.four).2.2.1
    have hq4x3 : ∀ n : Cl w [(w2.heap.size + 1 + 1, [U ja, U jb, U jc, U jd]), (w2.heap.size + 1, [U a, U b, U c, U d]), (w2.heap.size, [U ja, U jb, U jc, U jd]), (w1.heap.size, [U a, U b, U c, U d]), (w.heap.size + 1, [U v', U m', U l', U h']), (w.heap.size, [U v, U m, U l, U h])], n.val.cell? ⟨w.heap.size + 1, 3, none⟩ = some (U h') := fun n => (n.kp.box.tail.tail.tail.tail.head.four).2.2.2.1
    have hq5x0 : ∀ n : Cl w [(w2.heap.size + 1 + 1, [U ja, U jb, U jc, U jd]), (w2.heap.size + 1, [U a, U b, U c, U d]), (w2.heap.size, [U ja, U jb, U jc, U jd]), (w1.heap.size, [U a, U b, U c, U d]), (w.heap.size + 1, [U v', U m', U l', U h']), (w.heap.size, [U v, U m, U l, U h])], n.val.cell? ⟨w.heap.size, 0, none⟩ = some (U v) := fun n => (n.kp.box.tail.tail.tail.tail.tail.head.four).1
    have hq5x1 : ∀ n : Cl w [(w2.heap.size + 1 + 1, [U ja, U jb, U jc, U jd]), (w2.heap.size + 1, [U a, U b, U c, U d]), (w2.heap.size, [U ja, U jb, U jc, U jd]), (w1.heap.size, [U a, U b, U c, U d]), (w.heap.size + 1, [U v', U m', U l', U h']), (w.heap.size, [U v, U m, U l, U h])], n.val.cell? ⟨w.heap.size, 1, none⟩ = some (U m) := fun n => (n.kp.box.tail.tail.tail.tail.tail.head.four).2.1
    have hq5x2 : ∀ n : Cl w [(w2.heap.size + 1 + 1, [U ja, U jb, U jc, U jd]), (w2.heap.size + 1, [U a, U b, U c, U d]), (w2.heap.size, [U ja, U jb, U jc, U jd]), (w1.heap.size, [U a, U b, U c, U d]), (w.heap.size + 1, [U v', U m', U l', U h']), (w.heap.size, [U v, U m, U l, U h])], n.val.cell? ⟨w.heap.size, 2, none⟩ = some (U l) := fun n => (n.kp.box.tail.tail.tail.tail.tail.head.four).2.2.1
    have hq5x3 : ∀ n : Cl w [(w2.heap.size + 1 + 1, [U ja, U jb, U jc, U jd]), (w2.heap.size + 1, [U a, U b, U c, U d]), (w2.heap.size, [U ja, U jb, U jc, U jd]), (w1.heap.size, [U a, U b, U c, U d]), (w.heap.size + 1, [U v', U m', U l', U h']), (w.heap.size, [U v, U m, U l, U h])], n.val.cell? ⟨w.heap.size, 3, none⟩ = some (U h) := fun n => (n.kp.box.tail.tail.tail.tail.tail.head.four).2.2.2.1
    repeat (go_big_quiet_step (first | (go_at_call 36; exact Cl.of (valBegun_any _)) | (go_at_call 37; exact Cl.of (checkV V1.out _)) | (go_at_call 34; exact Cl.of (rightV V1.out _)) | (go_at_call 38; exact Cl.of (valHas_any _ _ _ _ _ _)) | (go_at_call 39; exact Cl.of (refValHas_any _ _ _ _ _ _)) | (go_at_call 40; exact Cl.of (valOf_any _ _)) | (go_at_call 41; exact Cl.of (refValOf_any _ _)) | (go_at_call 42; exact Cl.of (valAny_any _)) | (go_at_call 43; exact Cl.of (refValAny_any _)) | (go_at_call 44; exact Cl.of (valInside_any _ _ _ _ _ _ _ _ _)) | (go_at_call 45; exact Cl.of (insideVal_any _ _ _ _ _ _ _ _ _))))
    refine wpQuiet_nil ?_
    rintro _ ⟨⟨wq, hq⟩, rfl⟩
    go_wp2
    go_ret
    exact ⟨rfl, hq.bel⟩

end Go.Proofs.Ytglollajdjgciaa
