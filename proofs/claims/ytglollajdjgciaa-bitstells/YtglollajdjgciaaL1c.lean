/- BitsTells, walked. -/
import Derived.Test.YtglollajdjgciaaL1b
import Derived.Deep.RegionHeld3
import Derived.Deep.CutBlock
import Derived.Deep.DeepCutAuto
namespace Go.Proofs.Ytglollajdjgciaa
open Go.RowKit
attribute [local go_sem] w_and w_or w_xor w_andNot w_and1 w_and63 w_add w_sub w_mul w_sub1 w_add1 w_shl w_shl1 w_shr c_beq c_bne c_beq0 c_bne0 c_beq1 c_bne1 wrap_nv
attribute [local go_sem] eqb_self

set_option maxRecDepth 100000 in
set_option maxHeartbeats 8000000 in
theorem bitsTells_any (av am bv bm x l h : BitVec 64) (op n : Int) (w : World) :
    Calls Try.prog 3 #[Bt av am, Bt bv bm, U x, N op, N n, U l, U h] w fun e w' => e = .returned (.bool true) ∧ Below w.heap.size w w' := by
  obtain ⟨ra, hra⟩ : ∃ r, Hid (eqb (band av am) zero = r) := ⟨_, rfl⟩
  obtain ⟨rb, hrb⟩ : ∃ r, Hid (eqb (band bv bm) zero = r) := ⟨_, rfl⟩
  obtain ⟨r, hr⟩ : ∃ r, Hid (r = (ra && rb)) := ⟨_, rfl⟩
  have hab : (eqb (band av am) zero && eqb (band bv bm) zero) = r := by rw [hra.out, hrb.out, hr.out]
  obtain ⟨jv, jm, J1, J2, J3⟩ := all_join av am bv bm r hab
  obtain ⟨mv, mm, mi, M1, M2, M3⟩ := all_meet av am bv bm r hab
  obtain ⟨sv, sm, sc, S1, S2⟩ := all_shift op n av am ra hra.out
  obtain ⟨pv, pm, pc, P1, P2⟩ := all_span l h
  obtain ⟨ii, I1, I2⟩ := both_inside av am bv bm
  obtain ⟨hh, H1, H2⟩ := has_h av am x
  have S2' : Hid _ := S2
  have P2' : Hid _ := P2
  clear hab S2 P2
  have hE := er_eq0 r
  go_enter Try.func3, Try.ntmps3
  go_wp2_with fail
  refine (J1.out _).mono ?_
  rintro e w1 ⟨rfl, hb1⟩
  have hB1 := (((Kp.start w).add2 _ _ _).add2 _ _ _).keep hb1
  simp only [World.size_alloc] at hB1
  obtain ⟨b0, b1, b2, b3, b4⟩ := hB1.box.head.two
  obtain ⟨a0, a1, a2, a3, a4⟩ := hB1.box.tail.head.two
  go_wp2_with fail
  refine (M1.out _).mono ?_
  rintro e w2 ⟨rfl, hb2⟩
  have hB2 := (hB1.add2 _ _ _).keep hb2
  clear b0 b1 b2 b3 b4 a0 a1 a2 a3 a4
  obtain ⟨j0, j1, j2, j3, j4⟩ := hB2.box.head.two
  obtain ⟨b0, b1, b2, b3, b4⟩ := hB2.box.tail.head.two
  obtain ⟨a0, a1, a2, a3, a4⟩ := hB2.box.tail.tail.head.two
  go_wp2_with fail
  refine (S1.out _).mono ?_
  rintro e w3 ⟨rfl, hb3⟩
  have hB3 := (hB2.add2 _ _ _).keep hb3
  clear j0 j1 j2 j3 j4 b0 b1 b2 b3 b4 a0 a1 a2 a3 a4
  obtain ⟨m0, m1, m2, m3, m4⟩ := hB3.box.head.two
  obtain ⟨j0, j1, j2, j3, j4⟩ := hB3.box.tail.head.two
  obtain ⟨b0, b1, b2, b3, b4⟩ := hB3.box.tail.tail.head.two
  obtain ⟨a0, a1, a2, a3, a4⟩ := hB3.box.tail.tail.tail.head.two
  go_wp2_with fail
  refine (P1.out _).mono ?_
  rintro e w4 ⟨rfl, hb4⟩
  have hB4 := (hB3.add2 _ _ _).keep hb4
  clear m0 m1 m2 m3 m4 j0 j1 j2 j3 j4 b0 b1 b2 b3 b4 a0 a1 a2 a3 a4
  obtain ⟨s0, s1, s2, s3, s4⟩ := hB4.box.head.two
  obtain ⟨m0, m1, m2, m3, m4⟩ := hB4.box.tail.head.two
  obtain ⟨j0, j1, j2, j3, j4⟩ := hB4.box.tail.tail.head.two
  obtain ⟨b0, b1, b2, b3, b4⟩ := hB4.box.tail.tail.tail.head.two
  obtain ⟨a0, a1, a2, a3, a4⟩ := hB4.box.tail.tail.tail.tail.head.two
  clear hb1 hb2 hb3 hb4 hB1 hB2 hB3 J1 M1 S1 P1
  go_upto_region 6 with fail
  have hB5 := hB4.add2 (U pv) (U pm) 24
  clear s0 s1 s2 s3 s4 m0 m1 m2 m3 m4 j0 j1 j2 j3 j4 b0 b1 b2 b3 b4 a0 a1 a2 a3 a4
  go_cut [65] (fun t wc => t = .bool (!r) ∧ Kp w wc [(w4.heap.size, [U pv, U pm]), (w3.heap.size, [U sv, U sm]), (w2.heap.size, [U mv, U mm]), (w1.heap.size, [U jv, U jm]), (w.heap.size + 1, [U bv, U bm]), (w.heap.size, [U av, U am])])
  case first =>
    as_aux_lemma =>
      obtain ⟨p0, p1, p2, p3, p4⟩ := hB5.box.head.two
      obtain ⟨s0, s1, s2, s3, s4⟩ := hB5.box.tail.head.two
      obtain ⟨m0, m1, m2, m3, m4⟩ := hB5.box.tail.tail.head.two
      obtain ⟨j0, j1, j2, j3, j4⟩ := hB5.box.tail.tail.tail.head.two
      obtain ⟨b0, b1, b2, b3, b4⟩ := hB5.box.tail.tail.tail.tail.head.two
      obtain ⟨a0, a1, a2, a3, a4⟩ := hB5.box.tail.tail.tail.tail.tail.head.two
      cases ra
      · go_wp2_with fail
        refine (right_is hra.out _).mono ?_
        rintro e w5 ⟨rfl, hb5⟩
        go_wp2_with fail
        go_meet
        case rel => exact ⟨by rw [hr.out]; rfl, hB5.keep hb5⟩
      · go_wp2_with fail
        refine (right_is hra.out _).mono ?_
        rintro e w5 ⟨rfl, hb5⟩
        have hB6 := hB5.keep hb5
        clear p0 p1 p2 p3 p4 s0 s1 s2 s3 s4 m0 m1 m2 m3 m4 j0 j1 j2 j3 j4 b0 b1 b2 b3 b4 a0 a1 a2 a3 a4
        obtain ⟨p0, p1, p2, p3, p4⟩ := hB6.box.head.two
        obtain ⟨s0, s1, s2, s3, s4⟩ := hB6.box.tail.head.two
        obtain ⟨m0, m1, m2, m3, m4⟩ := hB6.box.tail.tail.head.two
        obtain ⟨j0, j1, j2, j3, j4⟩ := hB6.box.tail.tail.tail.head.two
        obtain ⟨b0, b1, b2, b3, b4⟩ := hB6.box.tail.tail.tail.tail.head.two
        obtain ⟨a0, a1, a2, a3, a4⟩ := hB6.box.tail.tail.tail.tail.tail.head.two
        go_wp2_with fail
        refine (right_is hrb.out _).mono ?_
        rintro e w6 ⟨rfl, hb6⟩
        go_wp2_with fail
        go_meet
        case rel => exact ⟨by rw [hr.out]; rfl, hB6.keep hb6⟩
  case rest =>
    clear hB4 hB5
    obtain ⟨rfl, hK5⟩ := hcut
    go_upto_if 65 with fail
    go_cut [24] (fun t wd => t = N (er r) ∧ wd = wc)
    case first =>
      as_aux_lemma =>
        clear hK5
        cases r
        all_goals
          go_wp2_with fail
          go_meet
          case rel => exact ⟨rfl, rfl⟩
    case rest =>
    obtain ⟨rfl, hwc⟩ := hcut
    subst hwc
    obtain ⟨c0, hc0⟩ : ∃ c, c = wc.heap.size := ⟨_, rfl⟩
    have hZ := (((hK5.add2 (.int .u64 0) (.int .u64 0) 24).add2 (.int .u64 0) (.int .u64 0) 24).add2 (.int .u64 0) (.int .u64 0) 24).add2 (.int .u64 0) (.int .u64 0) 24
    simp only [World.size_alloc] at hZ
    rw [← hc0] at hZ
    have hc0' : wc.heap.size = c0 := hc0.symm
    clear hc0
    go_upto_if 67 with fail
    clear hc0'
    go_cut [29] (fun t wd => t = .bool mi ∧ Kp w wd [(c0 + 1 + 1 + 1, [.int .u64 0, .int .u64 0]), (c0 + 1 + 1, [.int .u64 0, .int .u64 0]), (c0 + 1, [U mv, U mm]), (c0, [U jv, U jm]), (w4.heap.size, [U pv, U pm]), (w3.heap.size, [U sv, U sm]), (w2.heap.size, [U mv, U mm]), (w1.heap.size, [U jv, U jm]), (w.heap.size + 1, [U bv, U bm]), (w.heap.size, [U av, U am])])
    case first =>
      as_aux_lemma =>
        obtain ⟨b0, b1, b2, b3, b4⟩ := hZ.box.tail.tail.tail.tail.tail.tail.tail.tail.head.two
        obtain ⟨a0, a1, a2, a3, a4⟩ := hZ.box.tail.tail.tail.tail.tail.tail.tail.tail.tail.head.two
        cases r
        · obtain ⟨rfl, rfl⟩ := J3.out rfl
          obtain ⟨rfl, rfl, rfl⟩ := M3.out rfl
          go_wp2_with fail
          go_meet
          case rel => exact ⟨rfl, hZ⟩
        · have J4 : Hid _ := J2.out rfl
          have M4 : Hid _ := M2.out rfl
          clear J2 M2 J3 M3
          go_wp2_with fail
          refine (J4.out _).mono ?_
          rintro e w5 ⟨rfl, hb5⟩
          have hB6 := hZ.keep hb5
          clear b0 b1 b2 b3 b4 a0 a1 a2 a3 a4
          obtain ⟨pr0, pr1, pr2, pr3, pr4⟩ := hB6.box.head.two
          obtain ⟨sr0, sr1, sr2, sr3, sr4⟩ := hB6.box.tail.head.two
          obtain ⟨mr0, mr1, mr2, mr3, mr4⟩ := hB6.box.tail.tail.head.two
          obtain ⟨jr0, jr1, jr2, jr3, jr4⟩ := hB6.box.tail.tail.tail.head.two
          obtain ⟨p0, p1, p2, p3, p4⟩ := hB6.box.tail.tail.tail.tail.head.two
          obtain ⟨s0, s1, s2, s3, s4⟩ := hB6.box.tail.tail.tail.tail.tail.head.two
          obtain ⟨m0, m1, m2, m3, m4⟩ := hB6.box.tail.tail.tail.tail.tail.tail.head.two
          obtain ⟨j0, j1, j2, j3, j4⟩ := hB6.box.tail.tail.tail.tail.tail.tail.tail.head.two
          obtain ⟨b0, b1, b2, b3, b4⟩ := hB6.box.tail.tail.tail.tail.tail.tail.tail.tail.head.two
          obtain ⟨a0, a1, a2, a3, a4⟩ := hB6.box.tail.tail.tail.tail.tail.tail.tail.tail.tail.head.two
          have hB7 := hB6.set2 (x := U jv) (y := U jm) 3 rfl
          obtain ⟨bb0, bb1, bb2, bb3, bb4⟩ := hB7.box.tail.tail.tail.tail.tail.tail.tail.tail.head.two
          obtain ⟨aa0, aa1, aa2, aa3, aa4⟩ := hB7.box.tail.tail.tail.tail.tail.tail.tail.tail.tail.head.two
          go_wp2_with fail
          refine (M4.out _).mono ?_
          rintro e w6 ⟨rfl, hb6⟩
          have hB8 := hB7.keep hb6
          clear pr0 pr1 pr2 pr3 pr4 sr0 sr1 sr2 sr3 sr4 mr0 mr1 mr2 mr3 mr4 jr0 jr1 jr2 jr3 jr4 p0 p1 p2 p3 p4 s0 s1 s2 s3 s4 m0 m1 m2 m3 m4 j0 j1 j2 j3 j4 b0 b1 b2 b3 b4 a0 a1 a2 a3 a4
          clear bb0 bb1 bb2 bb3 bb4 aa0 aa1 aa2 aa3 aa4
          obtain ⟨pr0, pr1, pr2, pr3, pr4⟩ := hB8.box.head.two
          obtain ⟨sr0, sr1, sr2, sr3, sr4⟩ := hB8.box.tail.head.two
          obtain ⟨mr0, mr1, mr2, mr3, mr4⟩ := hB8.box.tail.tail.head.two
          obtain ⟨jr0, jr1, jr2, jr3, jr4⟩ := hB8.box.tail.tail.tail.head.two
          obtain ⟨p0, p1, p2, p3, p4⟩ := hB8.box.tail.tail.tail.tail.head.two
          obtain ⟨s0, s1, s2, s3, s4⟩ := hB8.box.tail.tail.tail.tail.tail.head.two
          obtain ⟨m0, m1, m2, m3, m4⟩ := hB8.box.tail.tail.tail.tail.tail.tail.head.two
          obtain ⟨j0, j1, j2, j3, j4⟩ := hB8.box.tail.tail.tail.tail.tail.tail.tail.head.two
          obtain ⟨b0, b1, b2, b3, b4⟩ := hB8.box.tail.tail.tail.tail.tail.tail.tail.tail.head.two
          obtain ⟨a0, a1, a2, a3, a4⟩ := hB8.box.tail.tail.tail.tail.tail.tail.tail.tail.tail.head.two
          have hB9 := hB8.set2 (x := U mv) (y := U mm) 2 rfl
          go_wp2_with fail
          go_meet
          case rel => exact ⟨rfl, hB9⟩
    case rest =>
    clear hK5 hZ
    obtain ⟨rfl, hK6⟩ := hcut
    go_upto_block 0 with fail
    go_cut [30] (fun t wd => t = N sc ∧ Kp w wd [(c0 + 1 + 1 + 1, [.int .u64 0, .int .u64 0]), (c0 + 1 + 1, [U sv, U sm]), (c0 + 1, [U mv, U mm]), (c0, [U jv, U jm]), (w4.heap.size, [U pv, U pm]), (w3.heap.size, [U sv, U sm]), (w2.heap.size, [U mv, U mm]), (w1.heap.size, [U jv, U jm]), (w.heap.size + 1, [U bv, U bm]), (w.heap.size, [U av, U am])])
    case first =>
      as_aux_lemma =>
        obtain ⟨pr0, pr1, pr2, pr3, pr4⟩ := hK6.box.head.two
        obtain ⟨sr0, sr1, sr2, sr3, sr4⟩ := hK6.box.tail.head.two
        obtain ⟨mr0, mr1, mr2, mr3, mr4⟩ := hK6.box.tail.tail.head.two
        obtain ⟨jr0, jr1, jr2, jr3, jr4⟩ := hK6.box.tail.tail.tail.head.two
        obtain ⟨p0, p1, p2, p3, p4⟩ := hK6.box.tail.tail.tail.tail.head.two
        obtain ⟨s0, s1, s2, s3, s4⟩ := hK6.box.tail.tail.tail.tail.tail.head.two
        obtain ⟨m0, m1, m2, m3, m4⟩ := hK6.box.tail.tail.tail.tail.tail.tail.head.two
        obtain ⟨j0, j1, j2, j3, j4⟩ := hK6.box.tail.tail.tail.tail.tail.tail.tail.head.two
        obtain ⟨b0, b1, b2, b3, b4⟩ := hK6.box.tail.tail.tail.tail.tail.tail.tail.tail.head.two
        obtain ⟨a0, a1, a2, a3, a4⟩ := hK6.box.tail.tail.tail.tail.tail.tail.tail.tail.tail.head.two
        go_wp2_with fail
        refine (right_is hra.out _).mono ?_
        rintro e w5 ⟨rfl, hb5⟩
        have hB6 := hK6.keep hb5
        clear pr0 pr1 pr2 pr3 pr4 sr0 sr1 sr2 sr3 sr4 mr0 mr1 mr2 mr3 mr4 jr0 jr1 jr2 jr3 jr4 p0 p1 p2 p3 p4 s0 s1 s2 s3 s4 m0 m1 m2 m3 m4 j0 j1 j2 j3 j4 b0 b1 b2 b3 b4 a0 a1 a2 a3 a4
        obtain ⟨pr0, pr1, pr2, pr3, pr4⟩ := hB6.box.head.two
        obtain ⟨sr0, sr1, sr2, sr3, sr4⟩ := hB6.box.tail.head.two
        obtain ⟨mr0, mr1, mr2, mr3, mr4⟩ := hB6.box.tail.tail.head.two
        obtain ⟨jr0, jr1, jr2, jr3, jr4⟩ := hB6.box.tail.tail.tail.head.two
        obtain ⟨p0, p1, p2, p3, p4⟩ := hB6.box.tail.tail.tail.tail.head.two
        obtain ⟨s0, s1, s2, s3, s4⟩ := hB6.box.tail.tail.tail.tail.tail.head.two
        obtain ⟨m0, m1, m2, m3, m4⟩ := hB6.box.tail.tail.tail.tail.tail.tail.head.two
        obtain ⟨j0, j1, j2, j3, j4⟩ := hB6.box.tail.tail.tail.tail.tail.tail.tail.head.two
        obtain ⟨b0, b1, b2, b3, b4⟩ := hB6.box.tail.tail.tail.tail.tail.tail.tail.tail.head.two
        obtain ⟨a0, a1, a2, a3, a4⟩ := hB6.box.tail.tail.tail.tail.tail.tail.tail.tail.tail.head.two
        rcases S2'.out with ⟨rfl, rfl, rfl, rfl⟩ | ⟨rfl, ⟨h8, h9⟩, rfl, rfl, rfl⟩ | ⟨rfl, hop, hn, rfl, rfl, rfl⟩ | ⟨rfl, hop, hn, rfl, S3⟩
        · go_wp2_with fail
          go_meet
          case rel => exact ⟨rfl, hB6⟩
        · have h8' : (op != 8) = true := by simpa using h8
          have h9' : (op != 9) = true := by simpa using h9
          clear h8 h9
          go_wp2_with fail
          go_meet
          case rel => exact ⟨rfl, hB6⟩
        · have hnn : Hid (n < 0 ∨ 63 < n) := hn
          clear hn
          rcases hop with rfl | rfl <;> rcases hnn.out with hn | hn
          all_goals
            go_wp2_with fail
            go_meet
            case rel => exact ⟨rfl, hB6⟩
        · rcases hop with rfl | rfl
          all_goals
            go_wp2_with fail
            refine (S3.out _).mono ?_
            rintro e w6 ⟨rfl, hb6⟩
            have hB7 := hB6.keep hb6
            clear pr0 pr1 pr2 pr3 pr4 sr0 sr1 sr2 sr3 sr4 mr0 mr1 mr2 mr3 mr4 jr0 jr1 jr2 jr3 jr4 p0 p1 p2 p3 p4 s0 s1 s2 s3 s4 m0 m1 m2 m3 m4 j0 j1 j2 j3 j4 b0 b1 b2 b3 b4 a0 a1 a2 a3 a4
            obtain ⟨pr0, pr1, pr2, pr3, pr4⟩ := hB7.box.head.two
            obtain ⟨sr0, sr1, sr2, sr3, sr4⟩ := hB7.box.tail.head.two
            obtain ⟨mr0, mr1, mr2, mr3, mr4⟩ := hB7.box.tail.tail.head.two
            obtain ⟨jr0, jr1, jr2, jr3, jr4⟩ := hB7.box.tail.tail.tail.head.two
            obtain ⟨p0, p1, p2, p3, p4⟩ := hB7.box.tail.tail.tail.tail.head.two
            obtain ⟨s0, s1, s2, s3, s4⟩ := hB7.box.tail.tail.tail.tail.tail.head.two
            obtain ⟨m0, m1, m2, m3, m4⟩ := hB7.box.tail.tail.tail.tail.tail.tail.head.two
            obtain ⟨j0, j1, j2, j3, j4⟩ := hB7.box.tail.tail.tail.tail.tail.tail.tail.head.two
            obtain ⟨b0, b1, b2, b3, b4⟩ := hB7.box.tail.tail.tail.tail.tail.tail.tail.tail.head.two
            obtain ⟨a0, a1, a2, a3, a4⟩ := hB7.box.tail.tail.tail.tail.tail.tail.tail.tail.tail.head.two
            have hB8 := hB7.set2 (x := U sv) (y := U sm) 1 rfl
            go_wp2_with fail
            go_meet
            case rel => exact ⟨rfl, hB8⟩
    case rest =>
    clear hK6
    obtain ⟨rfl, hK7⟩ := hcut
    go_upto_if 101 with fail
    go_cut [31] (fun t wd => t = N pc ∧ Kp w wd [(c0 + 1 + 1 + 1, [U pv, U pm]), (c0 + 1 + 1, [U sv, U sm]), (c0 + 1, [U mv, U mm]), (c0, [U jv, U jm]), (w4.heap.size, [U pv, U pm]), (w3.heap.size, [U sv, U sm]), (w2.heap.size, [U mv, U mm]), (w1.heap.size, [U jv, U jm]), (w.heap.size + 1, [U bv, U bm]), (w.heap.size, [U av, U am])])
    case first =>
      as_aux_lemma =>
        obtain ⟨pr0, pr1, pr2, pr3, pr4⟩ := hK7.box.head.two
        obtain ⟨sr0, sr1, sr2, sr3, sr4⟩ := hK7.box.tail.head.two
        obtain ⟨mr0, mr1, mr2, mr3, mr4⟩ := hK7.box.tail.tail.head.two
        obtain ⟨jr0, jr1, jr2, jr3, jr4⟩ := hK7.box.tail.tail.tail.head.two
        obtain ⟨p0, p1, p2, p3, p4⟩ := hK7.box.tail.tail.tail.tail.head.two
        obtain ⟨s0, s1, s2, s3, s4⟩ := hK7.box.tail.tail.tail.tail.tail.head.two
        obtain ⟨m0, m1, m2, m3, m4⟩ := hK7.box.tail.tail.tail.tail.tail.tail.head.two
        obtain ⟨j0, j1, j2, j3, j4⟩ := hK7.box.tail.tail.tail.tail.tail.tail.tail.head.two
        obtain ⟨b0, b1, b2, b3, b4⟩ := hK7.box.tail.tail.tail.tail.tail.tail.tail.tail.head.two
        obtain ⟨a0, a1, a2, a3, a4⟩ := hK7.box.tail.tail.tail.tail.tail.tail.tail.tail.tail.head.two
        rcases P2'.out with ⟨hl, rfl, rfl, rfl⟩ | ⟨hl, rfl, P3⟩
        · go_wp2_with fail
          go_meet
          case rel => exact ⟨rfl, hK7⟩
        · go_wp2_with fail
          refine (P3.out _).mono ?_
          rintro e w6 ⟨rfl, hb6⟩
          have hB7 := hK7.keep hb6
          clear pr0 pr1 pr2 pr3 pr4 sr0 sr1 sr2 sr3 sr4 mr0 mr1 mr2 mr3 mr4 jr0 jr1 jr2 jr3 jr4 p0 p1 p2 p3 p4 s0 s1 s2 s3 s4 m0 m1 m2 m3 m4 j0 j1 j2 j3 j4 b0 b1 b2 b3 b4 a0 a1 a2 a3 a4
          obtain ⟨pr0, pr1, pr2, pr3, pr4⟩ := hB7.box.head.two
          obtain ⟨sr0, sr1, sr2, sr3, sr4⟩ := hB7.box.tail.head.two
          obtain ⟨mr0, mr1, mr2, mr3, mr4⟩ := hB7.box.tail.tail.head.two
          obtain ⟨jr0, jr1, jr2, jr3, jr4⟩ := hB7.box.tail.tail.tail.head.two
          obtain ⟨p0, p1, p2, p3, p4⟩ := hB7.box.tail.tail.tail.tail.head.two
          obtain ⟨s0, s1, s2, s3, s4⟩ := hB7.box.tail.tail.tail.tail.tail.head.two
          obtain ⟨m0, m1, m2, m3, m4⟩ := hB7.box.tail.tail.tail.tail.tail.tail.head.two
          obtain ⟨j0, j1, j2, j3, j4⟩ := hB7.box.tail.tail.tail.tail.tail.tail.tail.head.two
          obtain ⟨b0, b1, b2, b3, b4⟩ := hB7.box.tail.tail.tail.tail.tail.tail.tail.tail.head.two
          obtain ⟨a0, a1, a2, a3, a4⟩ := hB7.box.tail.tail.tail.tail.tail.tail.tail.tail.tail.head.two
          have hB8 := hB7.set2 (x := U pv) (y := U pm) 0 rfl
          go_wp2_with fail
          go_meet
          case rel => exact ⟨rfl, hB8⟩
    case rest =>
    clear hK7
    obtain ⟨rfl, hK8⟩ := hcut
    clear J2 J3 M2 M3 S2' P2' hr hrb
    as_aux_lemma =>
      have HS : Hid (∀ w', Kp w w' [(c0 + 1 + 1 + 1, [U pv, U pm]), (c0 + 1 + 1, [U sv, U sm]), (c0 + 1, [U mv, U mm]), (c0, [U jv, U jm]), (w4.heap.size, [U pv, U pm]), (w3.heap.size, [U sv, U sm]), (w2.heap.size, [U mv, U mm]), (w1.heap.size, [U jv, U jm]), (w.heap.size + 1, [U bv, U bm]), (w.heap.size, [U av, U am])] → Kp w w' [(c0 + 1 + 1 + 1, [U pv, U pm]), (c0 + 1 + 1, [U sv, U sm]), (c0 + 1, [U mv, U mm]), (c0, [U jv, U jm]), (w4.heap.size, [U pv, U pm]), (w3.heap.size, [U sv, U sm]), (w2.heap.size, [U mv, U mm]), (w1.heap.size, [U jv, U jm]), (w.heap.size + 1, [U bv, U bm]), (w.heap.size, [U av, U am])] ∧ w'.cell? ⟨c0 + 1 + 1 + 1, 0, none⟩ = some (U pv) ∧ w'.cell? ⟨c0 + 1 + 1 + 1, 1, none⟩ = some (U pm) ∧ w'.cell? ⟨c0 + 1 + 1, 0, none⟩ = some (U sv) ∧ w'.cell? ⟨c0 + 1 + 1, 1, none⟩ = some (U sm) ∧ w'.cell? ⟨c0 + 1, 0, none⟩ = some (U mv) ∧ w'.cell? ⟨c0 + 1, 1, none⟩ = some (U mm) ∧ w'.cell? ⟨c0, 0, none⟩ = some (U jv) ∧ w'.cell? ⟨c0, 1, none⟩ = some (U jm) ∧ w'.cell? ⟨w4.heap.size, 0, none⟩ = some (U pv) ∧ w'.cell? ⟨w4.heap.size, 1, none⟩ = some (U pm) ∧ w'.cell? ⟨w3.heap.size, 0, none⟩ = some (U sv) ∧ w'.cell? ⟨w3.heap.size, 1, none⟩ = some (U sm) ∧ w'.cell? ⟨w2.heap.size, 0, none⟩ = some (U mv) ∧ w'.cell? ⟨w2.heap.size, 1, none⟩ = some (U mm) ∧ w'.cell? ⟨w1.heap.size, 0, none⟩ = some (U jv) ∧ w'.cell? ⟨w1.heap.size, 1, none⟩ = some (U jm) ∧ w'.cell? ⟨w.heap.size + 1, 0, none⟩ = some (U bv) ∧ w'.cell? ⟨w.heap.size + 1, 1, none⟩ = some (U bm) ∧ w'.cell? ⟨w.heap.size, 0, none⟩ = some (U av) ∧ w'.cell? ⟨w.heap.size, 1, none⟩ = some (U am)) := by
        intro w' hk
        obtain ⟨pr0, pr1, pr2, pr3, pr4⟩ := hk.box.head.two
        obtain ⟨sr0, sr1, sr2, sr3, sr4⟩ := hk.box.tail.head.two
        obtain ⟨mr0, mr1, mr2, mr3, mr4⟩ := hk.box.tail.tail.head.two
        obtain ⟨jr0, jr1, jr2, jr3, jr4⟩ := hk.box.tail.tail.tail.head.two
        obtain ⟨p0, p1, p2, p3, p4⟩ := hk.box.tail.tail.tail.tail.head.two
        obtain ⟨s0, s1, s2, s3, s4⟩ := hk.box.tail.tail.tail.tail.tail.head.two
        obtain ⟨m0, m1, m2, m3, m4⟩ := hk.box.tail.tail.tail.tail.tail.tail.head.two
        obtain ⟨j0, j1, j2, j3, j4⟩ := hk.box.tail.tail.tail.tail.tail.tail.tail.head.two
        obtain ⟨b0, b1, b2, b3, b4⟩ := hk.box.tail.tail.tail.tail.tail.tail.tail.tail.head.two
        obtain ⟨a0, a1, a2, a3, a4⟩ := hk.box.tail.tail.tail.tail.tail.tail.tail.tail.tail.head.two
        exact ⟨hk, pr0, pr1, sr0, sr1, mr0, mr1, jr0, jr1, p0, p1, s0, s1, m0, m1, j0, j1, b0, b1, a0, a1⟩
      have hEE : (er ra == 0) = ra := er_eq0 ra
      go_wp2_with fail
      simp only [List.append]
      go_region_held3 (fun w' => Kp w w' [(c0 + 1 + 1 + 1, [U pv, U pm]), (c0 + 1 + 1, [U sv, U sm]), (c0 + 1, [U mv, U mm]), (c0, [U jv, U jm]), (w4.heap.size, [U pv, U pm]), (w3.heap.size, [U sv, U sm]), (w2.heap.size, [U mv, U mm]), (w1.heap.size, [U jv, U jm]), (w.heap.size + 1, [U bv, U bm]), (w.heap.size, [U av, U am])] ∧ w'.cell? ⟨c0 + 1 + 1 + 1, 0, none⟩ = some (U pv) ∧ w'.cell? ⟨c0 + 1 + 1 + 1, 1, none⟩ = some (U pm) ∧ w'.cell? ⟨c0 + 1 + 1, 0, none⟩ = some (U sv) ∧ w'.cell? ⟨c0 + 1 + 1, 1, none⟩ = some (U sm) ∧ w'.cell? ⟨c0 + 1, 0, none⟩ = some (U mv) ∧ w'.cell? ⟨c0 + 1, 1, none⟩ = some (U mm) ∧ w'.cell? ⟨c0, 0, none⟩ = some (U jv) ∧ w'.cell? ⟨c0, 1, none⟩ = some (U jm) ∧ w'.cell? ⟨w4.heap.size, 0, none⟩ = some (U pv) ∧ w'.cell? ⟨w4.heap.size, 1, none⟩ = some (U pm) ∧ w'.cell? ⟨w3.heap.size, 0, none⟩ = some (U sv) ∧ w'.cell? ⟨w3.heap.size, 1, none⟩ = some (U sm) ∧ w'.cell? ⟨w2.heap.size, 0, none⟩ = some (U mv) ∧ w'.cell? ⟨w2.heap.size, 1, none⟩ = some (U mm) ∧ w'.cell? ⟨w1.heap.size, 0, none⟩ = some (U jv) ∧ w'.cell? ⟨w1.heap.size, 1, none⟩ = some (U jm) ∧ w'.cell? ⟨w.heap.size + 1, 0, none⟩ = some (U bv) ∧ w'.cell? ⟨w.heap.size + 1, 1, none⟩ = some (U bm) ∧ w'.cell? ⟨w.heap.size, 0, none⟩ = some (U av) ∧ w'.cell? ⟨w.heap.size, 1, none⟩ = some (U am))
        (first | exact HS.out _ (hK8.keep (Below.drew (Below.refl _ _))) | (refine HS.out _ (Kp.keep ?_ (by assumption)); exact And.left (by assumption)))
        (first
          | (go_at_call 22; refine (bitsBegun_any _).mono ?_; rintro e w' ⟨rfl, hb⟩)
          | (go_at_call 23; refine (check_any hra _).mono ?_; rintro e w' ⟨rfl, hb⟩)
          | (go_at_call 17; refine (right_is hra.out _).mono ?_; rintro e w' ⟨rfl, hb⟩)
          | (go_at_call 24; refine (H1.out _).mono ?_; rintro e w' ⟨rfl, hb⟩)
          | (go_at_call 25; refine (H2.out _).mono ?_; rintro e w' ⟨rfl, hb⟩)
          | (go_at_call 26; refine (I1.out _).mono ?_; rintro e w' ⟨rfl, hb⟩)
          | (go_at_call 27; refine (I2.out _).mono ?_; rintro e w' ⟨rfl, hb⟩))
      all_goals
        go_wp2
        go_ret
        exact ⟨rfl, by first | exact hK8.bel | exact (And.left (by assumption) : Kp w _ _).bel⟩
end Go.Proofs.Ytglollajdjgciaa
