/- CalcSound, walked. (Written by gen_l6.py.) -/
import Derived.Test.YtglollajdjgciaaL6b
import Derived.Test.YtglollajdjgciaaL5
import Derived.Deep.RegionWith
namespace Go.Proofs.Ytglollajdjgciaa
open Go.RowKit Go.BigFrame
attribute [local go_sem] w_and w_or w_xor w_andNot w_and1 w_and63 w_add w_sub w_mul w_sub1 w_add1 w_shl w_shl1 w_shr c_beq c_bne c_beq0 c_bne0 c_beq1 c_bne1 wrap_nv
attribute [local go_sem] eqb_self

set_option maxRecDepth 100000 in
set_option maxHeartbeats 8000000 in
theorem calcSound_any (op : Int) (v m l g v' m' l' g' x y : BitVec 64) (w : World) :
    Calls Try.prog 10 #[N op, Vl v m l g, Vl v' m' l' g', U x, U y] w fun e w' => e = .returned (.bool true) ∧ Below w.heap.size w w' := by
  obtain ⟨p, P1⟩ : ∃ b, Hid (hasV v m l g x = b) := ⟨_, rfl⟩
  obtain ⟨q, Q1⟩ : ∃ b, Hid (hasV v' m' l' g' y = b) := ⟨_, rfl⟩
  cases p
  · go_enter Try.func10, Try.ntmps10
    go_wp2_with fail
    refine (hasVC P1.out _).mono ?_
    rintro e w1 ⟨rfl, hb1⟩
    have hK := (((Kp.start w).add4 _ _ _ _ _).add4 _ _ _ _ _).keep hb1
    go_wp2_with fail
    refine (calcBegun_any _).mono ?_
    rintro e w2 ⟨rfl, hb2⟩
    go_wp2_with fail
    go_ret
    exact ⟨rfl, (hK.keep hb2).bel⟩
  cases q
  · go_enter Try.func10, Try.ntmps10
    go_wp2_with fail
    refine (hasVC P1.out _).mono ?_
    rintro e w1 ⟨rfl, hb1⟩
    have hK := (((Kp.start w).add4 _ _ _ _ _).add4 _ _ _ _ _).keep hb1
    simp only [World.size_alloc] at hK
    obtain ⟨og0, og1, og2, og3, og4, og5, og6, og7, og8⟩ := hK.box.head.four
    obtain ⟨of0, of1, of2, of3, of4, of5, of6, of7, of8⟩ := hK.box.tail.head.four
    go_wp2_with fail
    refine (hasVC Q1.out _).mono ?_
    rintro e w2 ⟨rfl, hb2⟩
    go_wp2_with fail
    refine (calcBegun_any _).mono ?_
    rintro e w3 ⟨rfl, hb3⟩
    go_wp2_with fail
    go_ret
    exact ⟨rfl, ((hK.keep hb2).keep hb3).bel⟩
  obtain ⟨tt1, tt2, tt3, tt4, te, T1, T2⟩ := cs_two op P1.out Q1.out
  obtain ⟨aa1, aa2, aa3, aa4, bb1, bb2, bb3, bb4, q1, E1, E2⟩ := cs_equal P1.out Q1.out
  obtain ⟨cc1, cc2, cc3, cc4, dd1, dd2, dd3, dd4, q2, O1, O2⟩ := cs_other P1.out Q1.out
  obtain ⟨ii1, ii2, ii3, ii4, hh1, hh2, hh3, hh4, q3, L1, L2⟩ := cs_less P1.out Q1.out
  obtain ⟨kk1, kk2, kk3, kk4, ll1, ll2, ll3, ll4, q4, M1, M2⟩ := cs_notLess P1.out Q1.out
  go_enter Try.func10, Try.ntmps10
  go_wp2_with fail
  refine (hasVC P1.out _).mono ?_
  rintro e w1 ⟨rfl, hb1⟩
  have hK1 := (((Kp.start w).add4 _ _ _ _ _).add4 _ _ _ _ _).keep hb1
  simp only [World.size_alloc] at hK1
  obtain ⟨og0, og1, og2, og3, og4, og5, og6, og7, og8⟩ := hK1.box.head.four
  obtain ⟨of0, of1, of2, of3, of4, of5, of6, of7, of8⟩ := hK1.box.tail.head.four
  go_wp2_with fail
  refine (hasVC Q1.out _).mono ?_
  rintro e w2 ⟨rfl, hb2⟩
  have hK2 := hK1.keep hb2
  clear og0 og1 og2 og3 og4 og5 og6 og7 og8 of0 of1 of2 of3 of4 of5 of6 of7 of8
  obtain ⟨og0, og1, og2, og3, og4, og5, og6, og7, og8⟩ := hK2.box.head.four
  obtain ⟨of0, of1, of2, of3, of4, of5, of6, of7, of8⟩ := hK2.box.tail.head.four
  go_wp2_with fail
  refine (T1.out _).mono ?_
  rintro e w3 ⟨rfl, hb3⟩
  have hK3 := (hK2.keep hb3).add4 (U tt1) (U tt2) (U tt3) (U tt4) 49
  clear og0 og1 og2 og3 og4 og5 og6 og7 og8 of0 of1 of2 of3 of4 of5 of6 of7 of8
  go_upto_region 4 with fail
  clear hb1 hb2 hb3 hK1 hK2 T1 P1 Q1
  go_cut [61] (fun t wc => t = .bool false ∧ Kp w wc [(w3.heap.size, [U tt1, U tt2, U tt3, U tt4]), (w.heap.size + 1, [U v', U m', U l', U g']), (w.heap.size, [U v, U m, U l, U g])])
  case first =>
    as_aux_lemma =>
      clear E1 E2 O1 O2 L1 L2 M1 M2
      rcases T2.out with rfl | ⟨rfl, z, N1, N2, N3⟩
      · clear T2
        refine region_class (fun w' => ∃ n : Cl w [(w3.heap.size, [U tt1, U tt2, U tt3, U tt4]), (w.heap.size + 1, [U v', U m', U l', U g']), (w.heap.size, [U v, U m, U l, U g])], w' = n.val) (by kernel_rfl) (by kernel_rfl) (Cl.start hK3) ?_
        haveI : Nonempty (Cl w [(w3.heap.size, [U tt1, U tt2, U tt3, U tt4]), (w.heap.size + 1, [U v', U m', U l', U g']), (w.heap.size, [U v, U m, U l, U g])]) := Cl.some hK3
        have hq0x0 : ∀ n : Cl w [(w3.heap.size, [U tt1, U tt2, U tt3, U tt4]), (w.heap.size + 1, [U v', U m', U l', U g']), (w.heap.size, [U v, U m, U l, U g])], n.val.cell? ⟨w3.heap.size, 0, none⟩ = some (U tt1) := fun n => (n.kp.box.head.four).1
        have hq0x1 : ∀ n : Cl w [(w3.heap.size, [U tt1, U tt2, U tt3, U tt4]), (w.heap.size + 1, [U v', U m', U l', U g']), (w.heap.size, [U v, U m, U l, U g])], n.val.cell? ⟨w3.heap.size, 1, none⟩ = some (U tt2) := fun n => (n.kp.box.head.four).2.1
        have hq0x2 : ∀ n : Cl w [(w3.heap.size, [U tt1, U tt2, U tt3, U tt4]), (w.heap.size + 1, [U v', U m', U l', U g']), (w.heap.size, [U v, U m, U l, U g])], n.val.cell? ⟨w3.heap.size, 2, none⟩ = some (U tt3) := fun n => (n.kp.box.head.four).2.2.1
        have hq0x3 : ∀ n : Cl w [(w3.heap.size, [U tt1, U tt2, U tt3, U tt4]), (w.heap.size + 1, [U v', U m', U l', U g']), (w.heap.size, [U v, U m, U l, U g])], n.val.cell? ⟨w3.heap.size, 3, none⟩ = some (U tt4) := fun n => (n.kp.box.head.four).2.2.2.1
        repeat (go_big_quiet_step (fail))
        refine wpQuiet_nil ?_
        rintro _ ⟨⟨wq, hq⟩, rfl⟩
        go_wp2
        go_meet
        case rel => exact ⟨rfl, hq⟩
      · clear T2
        have k0 : (er true == 0) = true := rfl
        have k1 : (er true != 0) = false := rfl
        refine region_class (fun w' => ∃ n : Cl w [(w3.heap.size, [U tt1, U tt2, U tt3, U tt4]), (w.heap.size + 1, [U v', U m', U l', U g']), (w.heap.size, [U v, U m, U l, U g])], w' = n.val) (by kernel_rfl) (by kernel_rfl) (Cl.start hK3) ?_
        haveI : Nonempty (Cl w [(w3.heap.size, [U tt1, U tt2, U tt3, U tt4]), (w.heap.size + 1, [U v', U m', U l', U g']), (w.heap.size, [U v, U m, U l, U g])]) := Cl.some hK3
        have hq0x0 : ∀ n : Cl w [(w3.heap.size, [U tt1, U tt2, U tt3, U tt4]), (w.heap.size + 1, [U v', U m', U l', U g']), (w.heap.size, [U v, U m, U l, U g])], n.val.cell? ⟨w3.heap.size, 0, none⟩ = some (U tt1) := fun n => (n.kp.box.head.four).1
        have hq0x1 : ∀ n : Cl w [(w3.heap.size, [U tt1, U tt2, U tt3, U tt4]), (w.heap.size + 1, [U v', U m', U l', U g']), (w.heap.size, [U v, U m, U l, U g])], n.val.cell? ⟨w3.heap.size, 1, none⟩ = some (U tt2) := fun n => (n.kp.box.head.four).2.1
        have hq0x2 : ∀ n : Cl w [(w3.heap.size, [U tt1, U tt2, U tt3, U tt4]), (w.heap.size + 1, [U v', U m', U l', U g']), (w.heap.size, [U v, U m, U l, U g])], n.val.cell? ⟨w3.heap.size, 2, none⟩ = some (U tt3) := fun n => (n.kp.box.head.four).2.2.1
        have hq0x3 : ∀ n : Cl w [(w3.heap.size, [U tt1, U tt2, U tt3, U tt4]), (w.heap.size + 1, [U v', U m', U l', U g']), (w.heap.size, [U v, U m, U l, U g])], n.val.cell? ⟨w3.heap.size, 3, none⟩ = some (U tt4) := fun n => (n.kp.box.head.four).2.2.2.1
        repeat (go_big_quiet_step (first | (go_at_call 30; exact Cl.of (N1.out _)) | (go_at_call 38; exact Cl.of (hasVC N2.out _)) | (go_at_call 37; exact Cl.of (checkV N3.out _))))
        refine wpQuiet_nil ?_
        rintro _ ⟨⟨wq, hq⟩, rfl⟩
        go_wp2
        go_meet
        case rel => exact ⟨rfl, hq⟩
  case rest =>
  clear hK3 T2
  obtain ⟨rfl, hK1⟩ := hcut
  obtain ⟨oc0, oc1, oc2, oc3, oc4, oc5, oc6, oc7, oc8⟩ := hK1.box.head.four
  obtain ⟨og0, og1, og2, og3, og4, og5, og6, og7, og8⟩ := hK1.box.tail.head.four
  obtain ⟨of0, of1, of2, of3, of4, of5, of6, of7, of8⟩ := hK1.box.tail.tail.head.four
  go_wp2_with fail
  refine (E1.out _).mono ?_
  rintro e w4 ⟨rfl, hb4⟩
  have hK2 := hK1.keep hb4
  have hK3 := (hK2.add4 (U aa1) (U aa2) (U aa3) (U aa4) 49).add4 (U bb1) (U bb2) (U bb3) (U bb4) 49
  simp only [World.size_alloc] at hK3
  clear oc0 oc1 oc2 oc3 oc4 oc5 oc6 oc7 oc8 og0 og1 og2 og3 og4 og5 og6 og7 og8 of0 of1 of2 of3 of4 of5 of6 of7 of8
  go_upto_region 7 with fail
  obtain ⟨og0, og1, og2, og3, og4, og5, og6, og7, og8⟩ := hK3.box.tail.tail.tail.head.four
  obtain ⟨of0, of1, of2, of3, of4, of5, of6, of7, of8⟩ := hK3.box.tail.tail.tail.tail.head.four
  go_wp2_with fail
  refine (O1.out _).mono ?_
  rintro e w5 ⟨rfl, hb5⟩
  have hK4 := hK3.keep hb5
  clear og0 og1 og2 og3 og4 og5 og6 og7 og8 of0 of1 of2 of3 of4 of5 of6 of7 of8
  obtain ⟨oc0, oc1, oc2, oc3, oc4, oc5, oc6, oc7, oc8⟩ := hK4.box.tail.tail.head.four
  obtain ⟨og0, og1, og2, og3, og4, og5, og6, og7, og8⟩ := hK4.box.tail.tail.tail.head.four
  obtain ⟨of0, of1, of2, of3, of4, of5, of6, of7, of8⟩ := hK4.box.tail.tail.tail.tail.head.four
  have hK5 := (hK4.set4 (x := U cc1) (y := U cc2) (z := U cc3) (t := U cc4) 2 rfl).add4 (U dd1) (U dd2) (U dd3) (U dd4) 49
  simp only [World.size_setCell] at hK5
  go_upto_region 8 with fail
  clear oc0 oc1 oc2 oc3 oc4 oc5 oc6 oc7 oc8 og0 og1 og2 og3 og4 og5 og6 og7 og8 of0 of1 of2 of3 of4 of5 of6 of7 of8
  clear hb4 hb5 hK1 hK2 hK3 hK4 E1 O1
  obtain ⟨og0, og1, og2, og3, og4, og5, og6, og7, og8⟩ := hK5.box.tail.tail.tail.tail.head.four
  obtain ⟨of0, of1, of2, of3, of4, of5, of6, of7, of8⟩ := hK5.box.tail.tail.tail.tail.tail.head.four
  go_wp2_with fail
  refine (L1.out _).mono ?_
  rintro e w6 ⟨rfl, hb6⟩
  have hK6 := hK5.keep hb6
  have hK7 := (hK6.add4 (U ii1) (U ii2) (U ii3) (U ii4) 49).add4 (U hh1) (U hh2) (U hh3) (U hh4) 49
  simp only [World.size_alloc] at hK7
  clear og0 og1 og2 og3 og4 og5 og6 og7 og8 of0 of1 of2 of3 of4 of5 of6 of7 of8
  go_upto_region 9 with fail
  obtain ⟨og0, og1, og2, og3, og4, og5, og6, og7, og8⟩ := hK7.box.tail.tail.tail.tail.tail.tail.head.four
  obtain ⟨of0, of1, of2, of3, of4, of5, of6, of7, of8⟩ := hK7.box.tail.tail.tail.tail.tail.tail.tail.head.four
  go_wp2_with fail
  refine (M1.out _).mono ?_
  rintro e w7 ⟨rfl, hb7⟩
  have hK8 := hK7.keep hb7
  have hK9 := (hK8.add4 (U kk1) (U kk2) (U kk3) (U kk4) 49).add4 (U ll1) (U ll2) (U ll3) (U ll4) 49
  simp only [World.size_alloc] at hK9
  clear og0 og1 og2 og3 og4 og5 og6 og7 og8 of0 of1 of2 of3 of4 of5 of6 of7 of8
  clear hb6 hb7 hK5 hK6 hK7 hK8 L1 M1
  go_upto_region 12 with fail
  have hK1 : Kp w _ [(w7.heap.size + 1, [U ll1, U ll2, U ll3, U ll4]), (w7.heap.size, [U kk1, U kk2, U kk3, U kk4]), (w6.heap.size + 1, [U hh1, U hh2, U hh3, U hh4]), (w6.heap.size, [U ii1, U ii2, U ii3, U ii4]), (w5.heap.size, [U dd1, U dd2, U dd3, U dd4]), (w4.heap.size + 1, [U bb1, U bb2, U bb3, U bb4]), (w4.heap.size, [U aa1, U aa2, U aa3, U aa4]), (w3.heap.size, [U cc1, U cc2, U cc3, U cc4]), (w.heap.size + 1, [U v', U m', U l', U g']), (w.heap.size, [U v, U m, U l, U g])] := hK9
  clear hK9
  go_cut [143] (fun t wd => t = .bool false ∧ Kp w wd [(w7.heap.size + 1, [U ll1, U ll2, U ll3, U ll4]), (w7.heap.size, [U kk1, U kk2, U kk3, U kk4]), (w6.heap.size + 1, [U hh1, U hh2, U hh3, U hh4]), (w6.heap.size, [U ii1, U ii2, U ii3, U ii4]), (w5.heap.size, [U dd1, U dd2, U dd3, U dd4]), (w4.heap.size + 1, [U bb1, U bb2, U bb3, U bb4]), (w4.heap.size, [U aa1, U aa2, U aa3, U aa4]), (w3.heap.size, [U cc1, U cc2, U cc3, U cc4]), (w.heap.size + 1, [U v', U m', U l', U g']), (w.heap.size, [U v, U m, U l, U g])])
  case first =>
    as_aux_lemma =>
      clear L2 M2
      obtain ⟨od0, od1, od2, od3, od4, od5, od6, od7, od8⟩ := hK1.box.tail.tail.tail.tail.head.four
      obtain ⟨ob0, ob1, ob2, ob3, ob4, ob5, ob6, ob7, ob8⟩ := hK1.box.tail.tail.tail.tail.tail.head.four
      obtain ⟨oa0, oa1, oa2, oa3, oa4, oa5, oa6, oa7, oa8⟩ := hK1.box.tail.tail.tail.tail.tail.tail.head.four
      obtain ⟨oc0, oc1, oc2, oc3, oc4, oc5, oc6, oc7, oc8⟩ := hK1.box.tail.tail.tail.tail.tail.tail.tail.head.four
      cases he : eqb x y
      · obtain ⟨rfl, H1, H2⟩ := O2.out ((eqb_false _ _).1 he)
        have G1 : Hid _ := H1
        have G2 : Hid _ := H2
        clear O2 E2 H1 H2
        go_wp2_with fail
        refine (hasVC G1.out _).mono ?_
        rintro e w8 ⟨rfl, hb8⟩
        have hK2 := hK1.keep hb8
        clear od0 od1 od2 od3 od4 od5 od6 od7 od8 ob0 ob1 ob2 ob3 ob4 ob5 ob6 ob7 ob8 oa0 oa1 oa2 oa3 oa4 oa5 oa6 oa7 oa8 oc0 oc1 oc2 oc3 oc4 oc5 oc6 oc7 oc8
        obtain ⟨od0, od1, od2, od3, od4, od5, od6, od7, od8⟩ := hK2.box.tail.tail.tail.tail.head.four
        obtain ⟨ob0, ob1, ob2, ob3, ob4, ob5, ob6, ob7, ob8⟩ := hK2.box.tail.tail.tail.tail.tail.head.four
        obtain ⟨oa0, oa1, oa2, oa3, oa4, oa5, oa6, oa7, oa8⟩ := hK2.box.tail.tail.tail.tail.tail.tail.head.four
        obtain ⟨oc0, oc1, oc2, oc3, oc4, oc5, oc6, oc7, oc8⟩ := hK2.box.tail.tail.tail.tail.tail.tail.tail.head.four
        go_wp2_with fail
        refine (hasVC G2.out _).mono ?_
        rintro e w9 ⟨rfl, hb9⟩
        have hK3 := hK2.keep hb9
        go_wp2_with fail
        go_meet
        case rel => exact ⟨rfl, hK3⟩
      · obtain ⟨rfl, H1, H2⟩ := E2.out ((eqb_iff _ _).1 he)
        have G1 : Hid _ := H1
        have G2 : Hid _ := H2
        clear O2 E2 H1 H2
        go_wp2_with fail
        refine (hasVC G1.out _).mono ?_
        rintro e w8 ⟨rfl, hb8⟩
        have hK2 := hK1.keep hb8
        clear od0 od1 od2 od3 od4 od5 od6 od7 od8 ob0 ob1 ob2 ob3 ob4 ob5 ob6 ob7 ob8 oa0 oa1 oa2 oa3 oa4 oa5 oa6 oa7 oa8 oc0 oc1 oc2 oc3 oc4 oc5 oc6 oc7 oc8
        obtain ⟨od0, od1, od2, od3, od4, od5, od6, od7, od8⟩ := hK2.box.tail.tail.tail.tail.head.four
        obtain ⟨ob0, ob1, ob2, ob3, ob4, ob5, ob6, ob7, ob8⟩ := hK2.box.tail.tail.tail.tail.tail.head.four
        obtain ⟨oa0, oa1, oa2, oa3, oa4, oa5, oa6, oa7, oa8⟩ := hK2.box.tail.tail.tail.tail.tail.tail.head.four
        obtain ⟨oc0, oc1, oc2, oc3, oc4, oc5, oc6, oc7, oc8⟩ := hK2.box.tail.tail.tail.tail.tail.tail.tail.head.four
        go_wp2_with fail
        refine (hasVC G2.out _).mono ?_
        rintro e w9 ⟨rfl, hb9⟩
        have hK3 := hK2.keep hb9
        go_wp2_with fail
        go_meet
        case rel => exact ⟨rfl, hK3⟩
  case rest =>
  clear hK1 E2 O2
  obtain ⟨rfl, hK1⟩ := hcut
  go_upto_region 14 with fail
  go_cut [179] (fun t wd => t = .bool false ∧ Kp w wd [(w7.heap.size + 1, [U ll1, U ll2, U ll3, U ll4]), (w7.heap.size, [U kk1, U kk2, U kk3, U kk4]), (w6.heap.size + 1, [U hh1, U hh2, U hh3, U hh4]), (w6.heap.size, [U ii1, U ii2, U ii3, U ii4]), (w5.heap.size, [U dd1, U dd2, U dd3, U dd4]), (w4.heap.size + 1, [U bb1, U bb2, U bb3, U bb4]), (w4.heap.size, [U aa1, U aa2, U aa3, U aa4]), (w3.heap.size, [U cc1, U cc2, U cc3, U cc4]), (w.heap.size + 1, [U v', U m', U l', U g']), (w.heap.size, [U v, U m, U l, U g])])
  case first =>
    as_aux_lemma =>
      obtain ⟨ol0, ol1, ol2, ol3, ol4, ol5, ol6, ol7, ol8⟩ := hK1.box.head.four
      obtain ⟨ok0, ok1, ok2, ok3, ok4, ok5, ok6, ok7, ok8⟩ := hK1.box.tail.head.four
      obtain ⟨oh0, oh1, oh2, oh3, oh4, oh5, oh6, oh7, oh8⟩ := hK1.box.tail.tail.head.four
      obtain ⟨oi0, oi1, oi2, oi3, oi4, oi5, oi6, oi7, oi8⟩ := hK1.box.tail.tail.tail.head.four
      by_cases hlt : nv x < nv y
      · obtain ⟨rfl, H1, H2⟩ := L2.out hlt
        have G1 : Hid _ := H1
        have G2 : Hid _ := H2
        clear L2 M2 H1 H2
        go_wp2_with fail
        refine (hasVC G1.out _).mono ?_
        rintro e w8 ⟨rfl, hb8⟩
        have hK2 := hK1.keep hb8
        clear ol0 ol1 ol2 ol3 ol4 ol5 ol6 ol7 ol8 ok0 ok1 ok2 ok3 ok4 ok5 ok6 ok7 ok8 oh0 oh1 oh2 oh3 oh4 oh5 oh6 oh7 oh8 oi0 oi1 oi2 oi3 oi4 oi5 oi6 oi7 oi8
        obtain ⟨ol0, ol1, ol2, ol3, ol4, ol5, ol6, ol7, ol8⟩ := hK2.box.head.four
        obtain ⟨ok0, ok1, ok2, ok3, ok4, ok5, ok6, ok7, ok8⟩ := hK2.box.tail.head.four
        obtain ⟨oh0, oh1, oh2, oh3, oh4, oh5, oh6, oh7, oh8⟩ := hK2.box.tail.tail.head.four
        obtain ⟨oi0, oi1, oi2, oi3, oi4, oi5, oi6, oi7, oi8⟩ := hK2.box.tail.tail.tail.head.four
        go_wp2_with fail
        refine (hasVC G2.out _).mono ?_
        rintro e w9 ⟨rfl, hb9⟩
        have hK3 := hK2.keep hb9
        go_wp2_with fail
        go_meet
        case rel => exact ⟨rfl, hK3⟩
      · have hle : nv y ≤ nv x := by omega
        clear hlt
        obtain ⟨rfl, H1, H2⟩ := M2.out hle
        have G1 : Hid _ := H1
        have G2 : Hid _ := H2
        clear L2 M2 H1 H2
        go_wp2_with fail
        refine (hasVC G1.out _).mono ?_
        rintro e w8 ⟨rfl, hb8⟩
        have hK2 := hK1.keep hb8
        clear ol0 ol1 ol2 ol3 ol4 ol5 ol6 ol7 ol8 ok0 ok1 ok2 ok3 ok4 ok5 ok6 ok7 ok8 oh0 oh1 oh2 oh3 oh4 oh5 oh6 oh7 oh8 oi0 oi1 oi2 oi3 oi4 oi5 oi6 oi7 oi8
        obtain ⟨ol0, ol1, ol2, ol3, ol4, ol5, ol6, ol7, ol8⟩ := hK2.box.head.four
        obtain ⟨ok0, ok1, ok2, ok3, ok4, ok5, ok6, ok7, ok8⟩ := hK2.box.tail.head.four
        obtain ⟨oh0, oh1, oh2, oh3, oh4, oh5, oh6, oh7, oh8⟩ := hK2.box.tail.tail.head.four
        obtain ⟨oi0, oi1, oi2, oi3, oi4, oi5, oi6, oi7, oi8⟩ := hK2.box.tail.tail.tail.head.four
        go_wp2_with fail
        refine (hasVC G2.out _).mono ?_
        rintro e w9 ⟨rfl, hb9⟩
        have hK3 := hK2.keep hb9
        go_wp2_with fail
        go_meet
        case rel => exact ⟨rfl, hK3⟩
  case rest =>
  clear hK1 L2 M2
  obtain ⟨rfl, hK1⟩ := hcut
  go_wp2_with fail
  refine (calcBegun_any _).mono ?_
  rintro e w8 ⟨rfl, hb8⟩
  go_wp2_with fail
  go_ret
  exact ⟨rfl, (hK1.keep hb8).bel⟩

end Go.Proofs.Ytglollajdjgciaa
