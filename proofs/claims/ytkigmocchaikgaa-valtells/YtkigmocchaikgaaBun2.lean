import Derived.Test.YtkigmocchaikgaaBun1
import Derived.Deep.RegionHeld3
import Derived.Deep.CutBlock
import Derived.Deep.DeepCutAuto
import Derived.Test.YtkigmocchaikgaaRows
import Derived.WalkKit
import Derived.ProofKit
import Derived.OpenShut
import Derived.ShutString
import Derived.ChangeOld
import Derived.Below
import Derived.Lib.SmallJoins
import Derived.Deep.Strs
import Derived.BigQuiet
import Derived.Deep.RegionWith
/- BitsTells, walked. -/
namespace Go.Proofs.Ytkigmocchaikgaa
open Go.RowKit
attribute [local go_sem] w_and w_or w_xor w_andNot w_and1 w_and63 w_add w_sub w_mul w_sub1 w_add1 w_shl w_shl1 w_shr c_beq c_bne c_beq0 c_bne0 c_beq1 c_bne1 wrap_nv
attribute [local go_sem] eqb_self

set_option maxRecDepth 100000 in
set_option maxHeartbeats 8000000 in
theorem bitsTells_any (av am bv bm x l h : BitVec 64) (op n : Int) (w : World) :
    Calls Try.prog 3 #[Bt av am, Bt bv bm, U x, N op, N n, U l, U h] w fun e w' => e = .returned (.bool true) ∧ Below w.heap.size w w' := by
  obtain ⟨ra, hra⟩ : ∃ r, Hid (eqb (band av am) zero = r) := ⟨_, rfl⟩
  obtain ⟨rb, hrb⟩ : ∃ r, Hid (eqb (band bv bm) zero = r) := ⟨_, rfl⟩
  obtain ⟨r, hr⟩ : ∃ r, Hid (r = (ra && rb)) := ⟨_, rfl⟩
  have hab : (eqb (band av am) zero && eqb (band bv bm) zero) = r := by rw [hra.out, hrb.out, hr.out]
  obtain ⟨jv, jm, J1, J2, J3⟩ := all_join av am bv bm r hab
  obtain ⟨mv, mm, mi, M1, M2, M3⟩ := all_meet av am bv bm r hab
  obtain ⟨sv, sm, sc, S1, S2⟩ := all_shift op n av am ra hra.out
  obtain ⟨pv, pm, pc, P1, P2⟩ := all_span l h
  obtain ⟨ii, I1, I2⟩ := both_inside av am bv bm
  obtain ⟨hh, H1, H2⟩ := has_h av am x
  have S2' : Hid _ := S2
  have P2' : Hid _ := P2
  clear hab S2 P2
  have hE := er_eq0 r
  go_enter Try.func3, Try.ntmps3
  go_wp2_with fail
  refine (J1.out _).mono ?_
  rintro e w1 ⟨rfl, hb1⟩
  have hB1 := (((Kp.start w).add2 _ _ _).add2 _ _ _).keep hb1
  simp only [World.size_alloc] at hB1
  obtain ⟨b0, b1, b2, b3, b4⟩ := hB1.box.head.two
  obtain ⟨a0, a1, a2, a3, a4⟩ := hB1.box.tail.head.two
  go_wp2_with fail
  refine (M1.out _).mono ?_
  rintro e w2 ⟨rfl, hb2⟩
  have hB2 := (hB1.add2 _ _ _).keep hb2
  clear b0 b1 b2 b3 b4 a0 a1 a2 a3 a4
  obtain ⟨j0, j1, j2, j3, j4⟩ := hB2.box.head.two
  obtain ⟨b0, b1, b2, b3, b4⟩ := hB2.box.tail.head.two
  obtain ⟨a0, a1, a2, a3, a4⟩ := hB2.box.tail.tail.head.two
  go_wp2_with fail
  refine (S1.out _).mono ?_
  rintro e w3 ⟨rfl, hb3⟩
  have hB3 := (hB2.add2 _ _ _).keep hb3
  clear j0 j1 j2 j3 j4 b0 b1 b2 b3 b4 a0 a1 a2 a3 a4
  obtain ⟨m0, m1, m2, m3, m4⟩ := hB3.box.head.two
  obtain ⟨j0, j1, j2, j3, j4⟩ := hB3.box.tail.head.two
  obtain ⟨b0, b1, b2, b3, b4⟩ := hB3.box.tail.tail.head.two
  obtain ⟨a0, a1, a2, a3, a4⟩ := hB3.box.tail.tail.tail.head.two
  go_wp2_with fail
  refine (P1.out _).mono ?_
  rintro e w4 ⟨rfl, hb4⟩
  have hB4 := (hB3.add2 _ _ _).keep hb4
  clear m0 m1 m2 m3 m4 j0 j1 j2 j3 j4 b0 b1 b2 b3 b4 a0 a1 a2 a3 a4
  obtain ⟨s0, s1, s2, s3, s4⟩ := hB4.box.head.two
  obtain ⟨m0, m1, m2, m3, m4⟩ := hB4.box.tail.head.two
  obtain ⟨j0, j1, j2, j3, j4⟩ := hB4.box.tail.tail.head.two
  obtain ⟨b0, b1, b2, b3, b4⟩ := hB4.box.tail.tail.tail.head.two
  obtain ⟨a0, a1, a2, a3, a4⟩ := hB4.box.tail.tail.tail.tail.head.two
  clear hb1 hb2 hb3 hb4 hB1 hB2 hB3 J1 M1 S1 P1
  go_upto_region 6 with fail
  have hB5 := hB4.add2 (U pv) (U pm) 24
  clear s0 s1 s2 s3 s4 m0 m1 m2 m3 m4 j0 j1 j2 j3 j4 b0 b1 b2 b3 b4 a0 a1 a2 a3 a4
  go_cut [65] (fun t wc => t = .bool (!r) ∧ Kp w wc [(w4.heap.size, [U pv, U pm]), (w3.heap.size, [U sv, U sm]), (w2.heap.size, [U mv, U mm]), (w1.heap.size, [U jv, U jm]), (w.heap.size + 1, [U bv, U bm]), (w.heap.size, [U av, U am])])
  case first =>
    as_aux_lemma =>
      obtain ⟨p0, p1, p2, p3, p4⟩ := hB5.box.head.two
      obtain ⟨s0, s1, s2, s3, s4⟩ := hB5.box.tail.head.two
      obtain ⟨m0, m1, m2, m3, m4⟩ := hB5.box.tail.tail.head.two
      obtain ⟨j0, j1, j2, j3, j4⟩ := hB5.box.tail.tail.tail.head.two
      obtain ⟨b0, b1, b2, b3, b4⟩ := hB5.box.tail.tail.tail.tail.head.two
      obtain ⟨a0, a1, a2, a3, a4⟩ := hB5.box.tail.tail.tail.tail.tail.head.two
      cases ra
      · go_wp2_with fail
        refine (right_is hra.out _).mono ?_
        rintro e w5 ⟨rfl, hb5⟩
        go_wp2_with fail
        go_meet
        case rel => exact ⟨by rw [hr.out]; rfl, hB5.keep hb5⟩
      · go_wp2_with fail
        refine (right_is hra.out _).mono ?_
        rintro e w5 ⟨rfl, hb5⟩
        have hB6 := hB5.keep hb5
        clear p0 p1 p2 p3 p4 s0 s1 s2 s3 s4 m0 m1 m2 m3 m4 j0 j1 j2 j3 j4 b0 b1 b2 b3 b4 a0 a1 a2 a3 a4
        obtain ⟨p0, p1, p2, p3, p4⟩ := hB6.box.head.two
        obtain ⟨s0, s1, s2, s3, s4⟩ := hB6.box.tail.head.two
        obtain ⟨m0, m1, m2, m3, m4⟩ := hB6.box.tail.tail.head.two
        obtain ⟨j0, j1, j2, j3, j4⟩ := hB6.box.tail.tail.tail.head.two
        obtain ⟨b0, b1, b2, b3, b4⟩ := hB6.box.tail.tail.tail.tail.head.two
        obtain ⟨a0, a1, a2, a3, a4⟩ := hB6.box.tail.tail.tail.tail.tail.head.two
        go_wp2_with fail
        refine (right_is hrb.out _).mono ?_
        rintro e w6 ⟨rfl, hb6⟩
        go_wp2_with fail
        go_meet
        case rel => exact ⟨by rw [hr.out]; rfl, hB6.keep hb6⟩
  case rest =>
    clear hB4 hB5
    obtain ⟨rfl, hK5⟩ := hcut
    go_upto_if 65 with fail
    go_cut [24] (fun t wd => t = N (er r) ∧ wd = wc)
    case first =>
      as_aux_lemma =>
        clear hK5
        cases r
        all_goals
          go_wp2_with fail
          go_meet
          case rel => exact ⟨rfl, rfl⟩
    case rest =>
    obtain ⟨rfl, hwc⟩ := hcut
    subst hwc
    obtain ⟨c0, hc0⟩ : ∃ c, c = wc.heap.size := ⟨_, rfl⟩
    have hZ := (((hK5.add2 (.int .u64 0) (.int .u64 0) 24).add2 (.int .u64 0) (.int .u64 0) 24).add2 (.int .u64 0) (.int .u64 0) 24).add2 (.int .u64 0) (.int .u64 0) 24
    simp only [World.size_alloc] at hZ
    rw [← hc0] at hZ
    have hc0' : wc.heap.size = c0 := hc0.symm
    clear hc0
    go_upto_if 67 with fail
    clear hc0'
    go_cut [29] (fun t wd => t = .bool mi ∧ Kp w wd [(c0 + 1 + 1 + 1, [.int .u64 0, .int .u64 0]), (c0 + 1 + 1, [.int .u64 0, .int .u64 0]), (c0 + 1, [U mv, U mm]), (c0, [U jv, U jm]), (w4.heap.size, [U pv, U pm]), (w3.heap.size, [U sv, U sm]), (w2.heap.size, [U mv, U mm]), (w1.heap.size, [U jv, U jm]), (w.heap.size + 1, [U bv, U bm]), (w.heap.size, [U av, U am])])
    case first =>
      as_aux_lemma =>
        obtain ⟨b0, b1, b2, b3, b4⟩ := hZ.box.tail.tail.tail.tail.tail.tail.tail.tail.head.two
        obtain ⟨a0, a1, a2, a3, a4⟩ := hZ.box.tail.tail.tail.tail.tail.tail.tail.tail.tail.head.two
        cases r
        · obtain ⟨rfl, rfl⟩ := J3.out rfl
          obtain ⟨rfl, rfl, rfl⟩ := M3.out rfl
          go_wp2_with fail
          go_meet
          case rel => exact ⟨rfl, hZ⟩
        · have J4 : Hid _ := J2.out rfl
          have M4 : Hid _ := M2.out rfl
          clear J2 M2 J3 M3
          go_wp2_with fail
          refine (J4.out _).mono ?_
          rintro e w5 ⟨rfl, hb5⟩
          have hB6 := hZ.keep hb5
          clear b0 b1 b2 b3 b4 a0 a1 a2 a3 a4
          obtain ⟨pr0, pr1, pr2, pr3, pr4⟩ := hB6.box.head.two
          obtain ⟨sr0, sr1, sr2, sr3, sr4⟩ := hB6.box.tail.head.two
          obtain ⟨mr0, mr1, mr2, mr3, mr4⟩ := hB6.box.tail.tail.head.two
          obtain ⟨jr0, jr1, jr2, jr3, jr4⟩ := hB6.box.tail.tail.tail.head.two
          obtain ⟨p0, p1, p2, p3, p4⟩ := hB6.box.tail.tail.tail.tail.head.two
          obtain ⟨s0, s1, s2, s3, s4⟩ := hB6.box.tail.tail.tail.tail.tail.head.two
          obtain ⟨m0, m1, m2, m3, m4⟩ := hB6.box.tail.tail.tail.tail.tail.tail.head.two
          obtain ⟨j0, j1, j2, j3, j4⟩ := hB6.box.tail.tail.tail.tail.tail.tail.tail.head.two
          obtain ⟨b0, b1, b2, b3, b4⟩ := hB6.box.tail.tail.tail.tail.tail.tail.tail.tail.head.two
          obtain ⟨a0, a1, a2, a3, a4⟩ := hB6.box.tail.tail.tail.tail.tail.tail.tail.tail.tail.head.two
          have hB7 := hB6.set2 (x := U jv) (y := U jm) 3 rfl
          obtain ⟨bb0, bb1, bb2, bb3, bb4⟩ := hB7.box.tail.tail.tail.tail.tail.tail.tail.tail.head.two
          obtain ⟨aa0, aa1, aa2, aa3, aa4⟩ := hB7.box.tail.tail.tail.tail.tail.tail.tail.tail.tail.head.two
          go_wp2_with fail
          refine (M4.out _).mono ?_
          rintro e w6 ⟨rfl, hb6⟩
          have hB8 := hB7.keep hb6
          clear pr0 pr1 pr2 pr3 pr4 sr0 sr1 sr2 sr3 sr4 mr0 mr1 mr2 mr3 mr4 jr0 jr1 jr2 jr3 jr4 p0 p1 p2 p3 p4 s0 s1 s2 s3 s4 m0 m1 m2 m3 m4 j0 j1 j2 j3 j4 b0 b1 b2 b3 b4 a0 a1 a2 a3 a4
          clear bb0 bb1 bb2 bb3 bb4 aa0 aa1 aa2 aa3 aa4
          obtain ⟨pr0, pr1, pr2, pr3, pr4⟩ := hB8.box.head.two
          obtain ⟨sr0, sr1, sr2, sr3, sr4⟩ := hB8.box.tail.head.two
          obtain ⟨mr0, mr1, mr2, mr3, mr4⟩ := hB8.box.tail.tail.head.two
          obtain ⟨jr0, jr1, jr2, jr3, jr4⟩ := hB8.box.tail.tail.tail.head.two
          obtain ⟨p0, p1, p2, p3, p4⟩ := hB8.box.tail.tail.tail.tail.head.two
          obtain ⟨s0, s1, s2, s3, s4⟩ := hB8.box.tail.tail.tail.tail.tail.head.two
          obtain ⟨m0, m1, m2, m3, m4⟩ := hB8.box.tail.tail.tail.tail.tail.tail.head.two
          obtain ⟨j0, j1, j2, j3, j4⟩ := hB8.box.tail.tail.tail.tail.tail.tail.tail.head.two
          obtain ⟨b0, b1, b2, b3, b4⟩ := hB8.box.tail.tail.tail.tail.tail.tail.tail.tail.head.two
          obtain ⟨a0, a1, a2, a3, a4⟩ := hB8.box.tail.tail.tail.tail.tail.tail.tail.tail.tail.head.two
          have hB9 := hB8.set2 (x := U mv) (y := U mm) 2 rfl
          go_wp2_with fail
          go_meet
          case rel => exact ⟨rfl, hB9⟩
    case rest =>
    clear hK5 hZ
    obtain ⟨rfl, hK6⟩ := hcut
    go_upto_block 0 with fail
    go_cut [30] (fun t wd => t = N sc ∧ Kp w wd [(c0 + 1 + 1 + 1, [.int .u64 0, .int .u64 0]), (c0 + 1 + 1, [U sv, U sm]), (c0 + 1, [U mv, U mm]), (c0, [U jv, U jm]), (w4.heap.size, [U pv, U pm]), (w3.heap.size, [U sv, U sm]), (w2.heap.size, [U mv, U mm]), (w1.heap.size, [U jv, U jm]), (w.heap.size + 1, [U bv, U bm]), (w.heap.size, [U av, U am])])
    case first =>
      as_aux_lemma =>
        obtain ⟨pr0, pr1, pr2, pr3, pr4⟩ := hK6.box.head.two
        obtain ⟨sr0, sr1, sr2, sr3, sr4⟩ := hK6.box.tail.head.two
        obtain ⟨mr0, mr1, mr2, mr3, mr4⟩ := hK6.box.tail.tail.head.two
        obtain ⟨jr0, jr1, jr2, jr3, jr4⟩ := hK6.box.tail.tail.tail.head.two
        obtain ⟨p0, p1, p2, p3, p4⟩ := hK6.box.tail.tail.tail.tail.head.two
        obtain ⟨s0, s1, s2, s3, s4⟩ := hK6.box.tail.tail.tail.tail.tail.head.two
        obtain ⟨m0, m1, m2, m3, m4⟩ := hK6.box.tail.tail.tail.tail.tail.tail.head.two
        obtain ⟨j0, j1, j2, j3, j4⟩ := hK6.box.tail.tail.tail.tail.tail.tail.tail.head.two
        obtain ⟨b0, b1, b2, b3, b4⟩ := hK6.box.tail.tail.tail.tail.tail.tail.tail.tail.head.two
        obtain ⟨a0, a1, a2, a3, a4⟩ := hK6.box.tail.tail.tail.tail.tail.tail.tail.tail.tail.head.two
        go_wp2_with fail
        refine (right_is hra.out _).mono ?_
        rintro e w5 ⟨rfl, hb5⟩
        have hB6 := hK6.keep hb5
        clear pr0 pr1 pr2 pr3 pr4 sr0 sr1 sr2 sr3 sr4 mr0 mr1 mr2 mr3 mr4 jr0 jr1 jr2 jr3 jr4 p0 p1 p2 p3 p4 s0 s1 s2 s3 s4 m0 m1 m2 m3 m4 j0 j1 j2 j3 j4 b0 b1 b2 b3 b4 a0 a1 a2 a3 a4
        obtain ⟨pr0, pr1, pr2, pr3, pr4⟩ := hB6.box.head.two
        obtain ⟨sr0, sr1, sr2, sr3, sr4⟩ := hB6.box.tail.head.two
        obtain ⟨mr0, mr1, mr2, mr3, mr4⟩ := hB6.box.tail.tail.head.two
        obtain ⟨jr0, jr1, jr2, jr3, jr4⟩ := hB6.box.tail.tail.tail.head.two
        obtain ⟨p0, p1, p2, p3, p4⟩ := hB6.box.tail.tail.tail.tail.head.two
        obtain ⟨s0, s1, s2, s3, s4⟩ := hB6.box.tail.tail.tail.tail.tail.head.two
        obtain ⟨m0, m1, m2, m3, m4⟩ := hB6.box.tail.tail.tail.tail.tail.tail.head.two
        obtain ⟨j0, j1, j2, j3, j4⟩ := hB6.box.tail.tail.tail.tail.tail.tail.tail.head.two
        obtain ⟨b0, b1, b2, b3, b4⟩ := hB6.box.tail.tail.tail.tail.tail.tail.tail.tail.head.two
        obtain ⟨a0, a1, a2, a3, a4⟩ := hB6.box.tail.tail.tail.tail.tail.tail.tail.tail.tail.head.two
        rcases S2'.out with ⟨rfl, rfl, rfl, rfl⟩ | ⟨rfl, ⟨h8, h9⟩, rfl, rfl, rfl⟩ | ⟨rfl, hop, hn, rfl, rfl, rfl⟩ | ⟨rfl, hop, hn, rfl, S3⟩
        · go_wp2_with fail
          go_meet
          case rel => exact ⟨rfl, hB6⟩
        · have h8' : (op != 8) = true := by simpa using h8
          have h9' : (op != 9) = true := by simpa using h9
          clear h8 h9
          go_wp2_with fail
          go_meet
          case rel => exact ⟨rfl, hB6⟩
        · have hnn : Hid (n < 0 ∨ 63 < n) := hn
          clear hn
          rcases hop with rfl | rfl <;> rcases hnn.out with hn | hn
          all_goals
            go_wp2_with fail
            go_meet
            case rel => exact ⟨rfl, hB6⟩
        · rcases hop with rfl | rfl
          all_goals
            go_wp2_with fail
            refine (S3.out _).mono ?_
            rintro e w6 ⟨rfl, hb6⟩
            have hB7 := hB6.keep hb6
            clear pr0 pr1 pr2 pr3 pr4 sr0 sr1 sr2 sr3 sr4 mr0 mr1 mr2 mr3 mr4 jr0 jr1 jr2 jr3 jr4 p0 p1 p2 p3 p4 s0 s1 s2 s3 s4 m0 m1 m2 m3 m4 j0 j1 j2 j3 j4 b0 b1 b2 b3 b4 a0 a1 a2 a3 a4
            obtain ⟨pr0, pr1, pr2, pr3, pr4⟩ := hB7.box.head.two
            obtain ⟨sr0, sr1, sr2, sr3, sr4⟩ := hB7.box.tail.head.two
            obtain ⟨mr0, mr1, mr2, mr3, mr4⟩ := hB7.box.tail.tail.head.two
            obtain ⟨jr0, jr1, jr2, jr3, jr4⟩ := hB7.box.tail.tail.tail.head.two
            obtain ⟨p0, p1, p2, p3, p4⟩ := hB7.box.tail.tail.tail.tail.head.two
            obtain ⟨s0, s1, s2, s3, s4⟩ := hB7.box.tail.tail.tail.tail.tail.head.two
            obtain ⟨m0, m1, m2, m3, m4⟩ := hB7.box.tail.tail.tail.tail.tail.tail.head.two
            obtain ⟨j0, j1, j2, j3, j4⟩ := hB7.box.tail.tail.tail.tail.tail.tail.tail.head.two
            obtain ⟨b0, b1, b2, b3, b4⟩ := hB7.box.tail.tail.tail.tail.tail.tail.tail.tail.head.two
            obtain ⟨a0, a1, a2, a3, a4⟩ := hB7.box.tail.tail.tail.tail.tail.tail.tail.tail.tail.head.two
            have hB8 := hB7.set2 (x := U sv) (y := U sm) 1 rfl
            go_wp2_with fail
            go_meet
            case rel => exact ⟨rfl, hB8⟩
    case rest =>
    clear hK6
    obtain ⟨rfl, hK7⟩ := hcut
    go_upto_if 101 with fail
    go_cut [31] (fun t wd => t = N pc ∧ Kp w wd [(c0 + 1 + 1 + 1, [U pv, U pm]), (c0 + 1 + 1, [U sv, U sm]), (c0 + 1, [U mv, U mm]), (c0, [U jv, U jm]), (w4.heap.size, [U pv, U pm]), (w3.heap.size, [U sv, U sm]), (w2.heap.size, [U mv, U mm]), (w1.heap.size, [U jv, U jm]), (w.heap.size + 1, [U bv, U bm]), (w.heap.size, [U av, U am])])
    case first =>
      as_aux_lemma =>
        obtain ⟨pr0, pr1, pr2, pr3, pr4⟩ := hK7.box.head.two
        obtain ⟨sr0, sr1, sr2, sr3, sr4⟩ := hK7.box.tail.head.two
        obtain ⟨mr0, mr1, mr2, mr3, mr4⟩ := hK7.box.tail.tail.head.two
        obtain ⟨jr0, jr1, jr2, jr3, jr4⟩ := hK7.box.tail.tail.tail.head.two
        obtain ⟨p0, p1, p2, p3, p4⟩ := hK7.box.tail.tail.tail.tail.head.two
        obtain ⟨s0, s1, s2, s3, s4⟩ := hK7.box.tail.tail.tail.tail.tail.head.two
        obtain ⟨m0, m1, m2, m3, m4⟩ := hK7.box.tail.tail.tail.tail.tail.tail.head.two
        obtain ⟨j0, j1, j2, j3, j4⟩ := hK7.box.tail.tail.tail.tail.tail.tail.tail.head.two
        obtain ⟨b0, b1, b2, b3, b4⟩ := hK7.box.tail.tail.tail.tail.tail.tail.tail.tail.head.two
        obtain ⟨a0, a1, a2, a3, a4⟩ := hK7.box.tail.tail.tail.tail.tail.tail.tail.tail.tail.head.two
        rcases P2'.out with ⟨hl, rfl, rfl, rfl⟩ | ⟨hl, rfl, P3⟩
        · go_wp2_with fail
          go_meet
          case rel => exact ⟨rfl, hK7⟩
        · go_wp2_with fail
          refine (P3.out _).mono ?_
          rintro e w6 ⟨rfl, hb6⟩
          have hB7 := hK7.keep hb6
          clear pr0 pr1 pr2 pr3 pr4 sr0 sr1 sr2 sr3 sr4 mr0 mr1 mr2 mr3 mr4 jr0 jr1 jr2 jr3 jr4 p0 p1 p2 p3 p4 s0 s1 s2 s3 s4 m0 m1 m2 m3 m4 j0 j1 j2 j3 j4 b0 b1 b2 b3 b4 a0 a1 a2 a3 a4
          obtain ⟨pr0, pr1, pr2, pr3, pr4⟩ := hB7.box.head.two
          obtain ⟨sr0, sr1, sr2, sr3, sr4⟩ := hB7.box.tail.head.two
          obtain ⟨mr0, mr1, mr2, mr3, mr4⟩ := hB7.box.tail.tail.head.two
          obtain ⟨jr0, jr1, jr2, jr3, jr4⟩ := hB7.box.tail.tail.tail.head.two
          obtain ⟨p0, p1, p2, p3, p4⟩ := hB7.box.tail.tail.tail.tail.head.two
          obtain ⟨s0, s1, s2, s3, s4⟩ := hB7.box.tail.tail.tail.tail.tail.head.two
          obtain ⟨m0, m1, m2, m3, m4⟩ := hB7.box.tail.tail.tail.tail.tail.tail.head.two
          obtain ⟨j0, j1, j2, j3, j4⟩ := hB7.box.tail.tail.tail.tail.tail.tail.tail.head.two
          obtain ⟨b0, b1, b2, b3, b4⟩ := hB7.box.tail.tail.tail.tail.tail.tail.tail.tail.head.two
          obtain ⟨a0, a1, a2, a3, a4⟩ := hB7.box.tail.tail.tail.tail.tail.tail.tail.tail.tail.head.two
          have hB8 := hB7.set2 (x := U pv) (y := U pm) 0 rfl
          go_wp2_with fail
          go_meet
          case rel => exact ⟨rfl, hB8⟩
    case rest =>
    clear hK7
    obtain ⟨rfl, hK8⟩ := hcut
    clear J2 J3 M2 M3 S2' P2' hr hrb
    as_aux_lemma =>
      have HS : Hid (∀ w', Kp w w' [(c0 + 1 + 1 + 1, [U pv, U pm]), (c0 + 1 + 1, [U sv, U sm]), (c0 + 1, [U mv, U mm]), (c0, [U jv, U jm]), (w4.heap.size, [U pv, U pm]), (w3.heap.size, [U sv, U sm]), (w2.heap.size, [U mv, U mm]), (w1.heap.size, [U jv, U jm]), (w.heap.size + 1, [U bv, U bm]), (w.heap.size, [U av, U am])] → Kp w w' [(c0 + 1 + 1 + 1, [U pv, U pm]), (c0 + 1 + 1, [U sv, U sm]), (c0 + 1, [U mv, U mm]), (c0, [U jv, U jm]), (w4.heap.size, [U pv, U pm]), (w3.heap.size, [U sv, U sm]), (w2.heap.size, [U mv, U mm]), (w1.heap.size, [U jv, U jm]), (w.heap.size + 1, [U bv, U bm]), (w.heap.size, [U av, U am])] ∧ w'.cell? ⟨c0 + 1 + 1 + 1, 0, none⟩ = some (U pv) ∧ w'.cell? ⟨c0 + 1 + 1 + 1, 1, none⟩ = some (U pm) ∧ w'.cell? ⟨c0 + 1 + 1, 0, none⟩ = some (U sv) ∧ w'.cell? ⟨c0 + 1 + 1, 1, none⟩ = some (U sm) ∧ w'.cell? ⟨c0 + 1, 0, none⟩ = some (U mv) ∧ w'.cell? ⟨c0 + 1, 1, none⟩ = some (U mm) ∧ w'.cell? ⟨c0, 0, none⟩ = some (U jv) ∧ w'.cell? ⟨c0, 1, none⟩ = some (U jm) ∧ w'.cell? ⟨w4.heap.size, 0, none⟩ = some (U pv) ∧ w'.cell? ⟨w4.heap.size, 1, none⟩ = some (U pm) ∧ w'.cell? ⟨w3.heap.size, 0, none⟩ = some (U sv) ∧ w'.cell? ⟨w3.heap.size, 1, none⟩ = some (U sm) ∧ w'.cell? ⟨w2.heap.size, 0, none⟩ = some (U mv) ∧ w'.cell? ⟨w2.heap.size, 1, none⟩ = some (U mm) ∧ w'.cell? ⟨w1.heap.size, 0, none⟩ = some (U jv) ∧ w'.cell? ⟨w1.heap.size, 1, none⟩ = some (U jm) ∧ w'.cell? ⟨w.heap.size + 1, 0, none⟩ = some (U bv) ∧ w'.cell? ⟨w.heap.size + 1, 1, none⟩ = some (U bm) ∧ w'.cell? ⟨w.heap.size, 0, none⟩ = some (U av) ∧ w'.cell? ⟨w.heap.size, 1, none⟩ = some (U am)) := by
        intro w' hk
        obtain ⟨pr0, pr1, pr2, pr3, pr4⟩ := hk.box.head.two
        obtain ⟨sr0, sr1, sr2, sr3, sr4⟩ := hk.box.tail.head.two
        obtain ⟨mr0, mr1, mr2, mr3, mr4⟩ := hk.box.tail.tail.head.two
        obtain ⟨jr0, jr1, jr2, jr3, jr4⟩ := hk.box.tail.tail.tail.head.two
        obtain ⟨p0, p1, p2, p3, p4⟩ := hk.box.tail.tail.tail.tail.head.two
        obtain ⟨s0, s1, s2, s3, s4⟩ := hk.box.tail.tail.tail.tail.tail.head.two
        obtain ⟨m0, m1, m2, m3, m4⟩ := hk.box.tail.tail.tail.tail.tail.tail.head.two
        obtain ⟨j0, j1, j2, j3, j4⟩ := hk.box.tail.tail.tail.tail.tail.tail.tail.head.two
        obtain ⟨b0, b1, b2, b3, b4⟩ := hk.box.tail.tail.tail.tail.tail.tail.tail.tail.head.two
        obtain ⟨a0, a1, a2, a3, a4⟩ := hk.box.tail.tail.tail.tail.tail.tail.tail.tail.tail.head.two
        exact ⟨hk, pr0, pr1, sr0, sr1, mr0, mr1, jr0, jr1, p0, p1, s0, s1, m0, m1, j0, j1, b0, b1, a0, a1⟩
      have hEE : (er ra == 0) = ra := er_eq0 ra
      go_wp2_with fail
      simp only [List.append]
      go_region_held3 (fun w' => Kp w w' [(c0 + 1 + 1 + 1, [U pv, U pm]), (c0 + 1 + 1, [U sv, U sm]), (c0 + 1, [U mv, U mm]), (c0, [U jv, U jm]), (w4.heap.size, [U pv, U pm]), (w3.heap.size, [U sv, U sm]), (w2.heap.size, [U mv, U mm]), (w1.heap.size, [U jv, U jm]), (w.heap.size + 1, [U bv, U bm]), (w.heap.size, [U av, U am])] ∧ w'.cell? ⟨c0 + 1 + 1 + 1, 0, none⟩ = some (U pv) ∧ w'.cell? ⟨c0 + 1 + 1 + 1, 1, none⟩ = some (U pm) ∧ w'.cell? ⟨c0 + 1 + 1, 0, none⟩ = some (U sv) ∧ w'.cell? ⟨c0 + 1 + 1, 1, none⟩ = some (U sm) ∧ w'.cell? ⟨c0 + 1, 0, none⟩ = some (U mv) ∧ w'.cell? ⟨c0 + 1, 1, none⟩ = some (U mm) ∧ w'.cell? ⟨c0, 0, none⟩ = some (U jv) ∧ w'.cell? ⟨c0, 1, none⟩ = some (U jm) ∧ w'.cell? ⟨w4.heap.size, 0, none⟩ = some (U pv) ∧ w'.cell? ⟨w4.heap.size, 1, none⟩ = some (U pm) ∧ w'.cell? ⟨w3.heap.size, 0, none⟩ = some (U sv) ∧ w'.cell? ⟨w3.heap.size, 1, none⟩ = some (U sm) ∧ w'.cell? ⟨w2.heap.size, 0, none⟩ = some (U mv) ∧ w'.cell? ⟨w2.heap.size, 1, none⟩ = some (U mm) ∧ w'.cell? ⟨w1.heap.size, 0, none⟩ = some (U jv) ∧ w'.cell? ⟨w1.heap.size, 1, none⟩ = some (U jm) ∧ w'.cell? ⟨w.heap.size + 1, 0, none⟩ = some (U bv) ∧ w'.cell? ⟨w.heap.size + 1, 1, none⟩ = some (U bm) ∧ w'.cell? ⟨w.heap.size, 0, none⟩ = some (U av) ∧ w'.cell? ⟨w.heap.size, 1, none⟩ = some (U am))
        (first | exact HS.out _ (hK8.keep (Below.drew (Below.refl _ _))) | (refine HS.out _ (Kp.keep ?_ (by assumption)); exact And.left (by assumption)))
        (first
          | (go_at_call 22; refine (bitsBegun_any _).mono ?_; rintro e w' ⟨rfl, hb⟩)
          | (go_at_call 23; refine (check_any hra _).mono ?_; rintro e w' ⟨rfl, hb⟩)
          | (go_at_call 17; refine (right_is hra.out _).mono ?_; rintro e w' ⟨rfl, hb⟩)
          | (go_at_call 24; refine (H1.out _).mono ?_; rintro e w' ⟨rfl, hb⟩)
          | (go_at_call 25; refine (H2.out _).mono ?_; rintro e w' ⟨rfl, hb⟩)
          | (go_at_call 26; refine (I1.out _).mono ?_; rintro e w' ⟨rfl, hb⟩)
          | (go_at_call 27; refine (I2.out _).mono ?_; rintro e w' ⟨rfl, hb⟩))
      all_goals
        go_wp2
        go_ret
        exact ⟨rfl, by first | exact hK8.bel | exact (And.left (by assumption) : Kp w _ _).bel⟩
end Go.Proofs.Ytkigmocchaikgaa

/- What an argument is, by its type. -/
namespace Go.Proofs.Ytkigmocchaikgaa
open Go.ChangeShapes Go.WideShapes Go.ChangeAt Go.RowKit Go.Joins

theorem Try.own : ownKnob Try.prog.godebug = none := by kernel_rfl
theorem Try.laidOut : laidOutB Try.prog = true := by kernel_rfl
theorem Try.cellsBits : Try.prog.cellsOf 24 = 2 := by kernel_rfl

theorem u64_of_wf {n : Int} (h : (Lit.int .u64 n).wf = true) : ∃ x, n = nv x := by
  have hb : 0 ≤ n ∧ n ≤ 18446744073709551615 := by
    simpa [Lit.wf, IntKind.min, IntKind.max, IntKind.signed, IntKind.bits] using h
  exact ex_nv n hb.1 (by omega)
set_option maxRecDepth 100000 in
theorem arg_u64 {H : Type} {enc : TypeId × Value → H} {W : World} {base b0 : Nat} {spare : Nat → Bool} {held : Bool} {v : Value} {d : DataW H} {p : List MemPlace}
    (hv : Value.okWide Try.prog W .any b0 22 v) (h : DataW.Trod enc Try.prog W base spare held 22 v d p) : ∃ x, v = U x := by
  obtain ⟨n, rfl, _, _, wn⟩ := open_int Try.underlying22 hv h
  obtain ⟨x, rfl⟩ := u64_of_wf wn
  exact ⟨x, rfl⟩
set_option maxRecDepth 100000 in
theorem arg_int {H : Type} {enc : TypeId × Value → H} {W : World} {base b0 : Nat} {spare : Nat → Bool} {held : Bool} {v : Value} {d : DataW H} {p : List MemPlace}
    (hv : Value.okWide Try.prog W .any b0 3 v) (h : DataW.Trod enc Try.prog W base spare held 3 v d p) : ∃ n, v = N n ∧ (Lit.int .i64 n).wf = true := by
  obtain ⟨n, rfl, _, _, wn⟩ := open_int Try.underlying3 hv h
  exact ⟨n, rfl, wn⟩
set_option maxRecDepth 100000 in
theorem arg_bits {H : Type} {enc : TypeId × Value → H} {W : World} {base b0 : Nat} {spare : Nat → Bool} {held : Bool} {v : Value} {d : DataW H} {p : List MemPlace}
    (hv : Value.okWide Try.prog W .any b0 24 v) (h : DataW.Trod enc Try.prog W base spare held 24 v d p) : ∃ x y, v = Bt x y := by
  obtain ⟨c0, c1, y0, y1, m, rfl, _, _, hy0, hy1⟩ := open_agg2 Try.underlying24 (by kernel_rfl) Try.cellsBits hv h
  obtain ⟨a, e0, _, wa⟩ := DataW.trod_int Try.underlying22 hy0
  obtain ⟨b, e1, _, wb⟩ := DataW.trod_int Try.underlying22 hy1
  simp at e0 e1
  subst e0 e1
  obtain ⟨x, rfl⟩ := u64_of_wf wa
  obtain ⟨y, rfl⟩ := u64_of_wf wb
  exact ⟨x, y, rfl⟩

end Go.Proofs.Ytkigmocchaikgaa

/- The contract of the reference's bitOf; what twoBits comes to, as plain functions. -/
namespace Go.Proofs.Ytkigmocchaikgaa
open Go.RowKit
attribute [local go_sem] w_and w_or w_xor w_andNot w_and1 w_and63 w_add w_sub w_mul w_sub1 w_add1 w_shl w_shl1 w_shr c_beq c_bne c_beq0 c_bne0 c_beq1 c_bne1 wrap_nv

def bi (b : Bool) : Int := if b then 1 else 0
/- one bit of an operation, and what goes over -/
def bo (op : Int) (x y c : Bool) : Bool × Bool :=
  if op = 2 then ((x ^^ y) ^^ c, (x && y) || (c && (x || y)))
  else if op = 3 then ((x ^^ y) ^^ c, (!x && y) || (c && (!x || y)))
  else if op = 5 then (x && y, false)
  else if op = 6 then (x || y, false)
  else (x ^^ y, false)

theorem bo_else {op : Int} (h2 : op ≠ 2) (h3 : op ≠ 3) (h5 : op ≠ 5) (h6 : op ≠ 6) (x y c : Bool) : bo op x y c = (x ^^ y, false) := by
  unfold bo; rw [if_neg h2, if_neg h3, if_neg h5, if_neg h6]
set_option maxHeartbeats 4000000 in
theorem bitOf_any (op : Int) (x y c : Bool) (w : World) :
    Calls Try.prog 111 #[N op, N (bi x), N (bi y), N (bi c)] w fun e w' => e = .returned (.tuple #[N (bi (bo op x y c).1), N (bi (bo op x y c).2)]) ∧ w = w' := by
  by_cases hop : op = 2 ∨ op = 3 ∨ op = 5 ∨ op = 6
  · generalize h1 : bi (bo op x y c).1 = r1
    generalize h2 : bi (bo op x y c).2 = r2
    have H1 : Hid (bi (bo op x y c).1 = r1) := h1
    have H2 : Hid (bi (bo op x y c).2 = r2) := h2
    clear h1 h2
    rcases hop with rfl | rfl | rfl | rfl <;> cases x <;> cases y <;> cases c
    all_goals
      simp only [bi, if_true, if_false, Bool.false_eq_true]
      go_enter Try.func111, Try.ntmps111
      go_wp2_with fail
      go_ret2
      rw [← H1.out, ← H2.out]
      exact ⟨rfl, rfl⟩
  · have h2 : op ≠ 2 := by omega
    have h3 : op ≠ 3 := by omega
    have h5 : op ≠ 5 := by omega
    have h6 : op ≠ 6 := by omega
    generalize g1 : bi (bo op x y c).1 = r1
    generalize g2 : bi (bo op x y c).2 = r2
    rw [bo_else h2 h3 h5 h6] at g1 g2
    have H1 : Hid (bi (x ^^ y) = r1) := g1
    have H2 : Hid (bi false = r2) := g2
    clear g1 g2
    have e2 : (op == 2) = false := by simpa using h2
    have e3 : (op == 3) = false := by simpa using h3
    have e5 : (op == 5) = false := by simpa using h5
    have e6 : (op == 6) = false := by simpa using h6
    clear h2 h3 h5 h6 hop
    cases x <;> cases y <;> cases c
    all_goals
      simp only [bi, if_true, if_false, Bool.false_eq_true]
      go_enter Try.func111, Try.ntmps111
      go_wp2_with fail
      go_ret2
      rw [← H1.out, ← H2.out]
      exact ⟨rfl, rfl⟩

end Go.Proofs.Ytkigmocchaikgaa

/- What twoBits comes to, as plain functions; one cell of a box written. -/
namespace Go.Proofs.Ytkigmocchaikgaa
open Go.RowKit

theorem Kp.set1 {w0 w : World} {b i : Nat} {v u : Value} {vs : List Value} {L : List (Nat × List Value)} (k : Nat) (h : Kp w0 w L) (e : L[k]? = some (b, vs)) (hi : vs[i]? = some u) :
    Kp w0 (w.setCell ⟨b, i, none⟩ v) (L.set k (b, vs.set i v)) := by
  have hlo : w0.heap.size ≤ b := h.lo _ (List.mem_of_getElem? e)
  refine ⟨h.bel.setCell hlo v, Boxes.setOne k h.box e hi, fun p hp => ?_⟩
  rcases List.mem_or_eq_of_mem_set hp with h1 | h1
  · exact h.lo p h1
  · rw [h1]; exact hlo

def kx (k : Nat) : Bool := k % 2 == 1
def ky (k : Nat) : Bool := k / 2 % 2 == 1
def kc (k : Nat) : Bool := k / 4 == 1
def alw (z o u p c0 c1 : Bool) (k : Nat) : Bool := (if kx k then o else z) && (if ky k then p else u) && (if kc k then c1 else c0)
def put1 (q : Bool × Bool) (b : Bool) : Bool × Bool := if b then (q.1, true) else (true, q.2)
/- the inner loop: which results, and which that go over, the first k of the eight ways give -/
def inn (op : Int) (z o u p c0 c1 : Bool) : Nat → (Bool × Bool) × (Bool × Bool)
  | 0 => ((false, false), (false, false))
  | k + 1 => if alw z o u p c0 c1 k then (put1 (inn op z o u p c0 c1 k).1 (bo op (kx k) (ky k) (kc k)).1, put1 (inn op z o u p c0 c1 k).2 (bo op (kx k) (ky k) (kc k)).2) else inn op z o u p c0 c1 k
theorem inn_no {op : Int} {z o u p c0 c1 : Bool} {k : Nat} {s : (Bool × Bool) × (Bool × Bool)} (h : inn op z o u p c0 c1 k = s) (ha : alw z o u p c0 c1 k = false) : inn op z o u p c0 c1 (k + 1) = s := by
  simp only [inn]; rw [if_neg (by rw [ha]; decide), h]
theorem inn_yes {op : Int} {z o u p c0 c1 : Bool} {k : Nat} {s : (Bool × Bool) × (Bool × Bool)} {b1 b2 x y c : Bool} (h : inn op z o u p c0 c1 k = s) (ha : alw z o u p c0 c1 k = true)
    (hx : kx k = x) (hy : ky k = y) (hc : kc k = c) (hb : bo op x y c = (b1, b2)) : inn op z o u p c0 c1 (k + 1) = (put1 s.1 b1, put1 s.2 b2) := by
  simp only [inn]; rw [if_pos ha, h, hx, hy, hc, hb]
/- the outer loop -/
def twoC (op : Int) (av am bv bm : BitVec 64) : Nat → Bool × Bool
  | 0 => (true, false)
  | i + 1 => (inn op (mz av i) (mo av am i) (mz bv i) (mo bv bm i) (twoC op av am bv bm i).1 (twoC op av am bv bm i).2 8).2
def twoR (op : Int) (av am bv bm : BitVec 64) (i : Nat) : Bool × Bool :=
  (inn op (mz av i) (mo av am i) (mz bv i) (mo bv bm i) (twoC op av am bv bm i).1 (twoC op av am bv bm i).2 8).1
def twoV (op : Int) (av am bv bm : BitVec 64) (k : Nat) : BitVec 64 := acc (fun j => (twoR op av am bv bm j).2 && !(twoR op av am bv bm j).1) k
def twoM (op : Int) (av am bv bm : BitVec 64) (k : Nat) : BitVec 64 := acc (fun j => (twoR op av am bv bm j).2 && (twoR op av am bv bm j).1) k
theorem twoV_succ (op : Int) (av am bv bm : BitVec 64) (k : Nat) : putV (twoV op av am bv bm k) k (twoR op av am bv bm k).1 (twoR op av am bv bm k).2 = twoV op av am bv bm (k + 1) := putV_acc (fun j => (twoR op av am bv bm j).1) (fun j => (twoR op av am bv bm j).2) k
theorem twoM_succ (op : Int) (av am bv bm : BitVec 64) (k : Nat) : putM (twoM op av am bv bm k) k (twoR op av am bv bm k).1 (twoR op av am bv bm k).2 = twoM op av am bv bm (k + 1) := putM_acc (fun j => (twoR op av am bv bm j).1) (fun j => (twoR op av am bv bm j).2) k
theorem bitOf_is {op : Int} {x y c b1 b2 : Bool} (h : Hid (bo op x y c = (b1, b2))) (w : World) :
    Calls Try.prog 111 #[N op, N (bi x), N (bi y), N (bi c)] w fun e w' => e = .returned (.tuple #[N (bi b1), N (bi b2)]) ∧ w = w' := by
  have := bitOf_any op x y c w
  rw [h.out] at this
  exact this
theorem bo_ex (op : Int) (x y c : Bool) : ∃ b1 b2, Hid (bo op x y c = (b1, b2)) := ⟨_, _, rfl⟩

end Go.Proofs.Ytkigmocchaikgaa

/- The contract of the reference's twoBits. -/
namespace Go.Proofs.Ytkigmocchaikgaa
open Go.RowKit
attribute [local go_sem] w_and w_or w_xor w_andNot w_and1 w_and63 w_add w_sub w_mul w_sub1 w_add1 w_shl w_shl1 w_shr c_beq c_bne c_beq0 c_bne0 c_beq1 c_bne1 wrap_nv

theorem ba0 : bits .and .i64 0 1 = 0 := by decide
theorem ba1 : bits .and .i64 1 1 = 1 := by decide
theorem ba2 : bits .and .i64 2 1 = 0 := by decide
theorem ba3 : bits .and .i64 3 1 = 1 := by decide
theorem ba4 : bits .and .i64 4 1 = 0 := by decide
theorem ba5 : bits .and .i64 5 1 = 1 := by decide
theorem ba6 : bits .and .i64 6 1 = 0 := by decide
theorem ba7 : bits .and .i64 7 1 = 1 := by decide
attribute [local go_sem] ba0 ba1 ba2 ba3 ba4 ba5 ba6 ba7
theorem bi_t : bi true = 1 := rfl
theorem bi_f : bi false = 0 := rfl
theorem k_cases {k : Nat} (h : k < 8) : k = 0 ∨ k = 1 ∨ k = 2 ∨ k = 3 ∨ k = 4 ∨ k = 5 ∨ k = 6 ∨ k = 7 := by omega

set_option maxRecDepth 100000 in
set_option maxHeartbeats 8000000 in
theorem twoBits_any (op : Int) (av am bv bm : BitVec 64) (w : World) :
    Calls Try.prog 81 #[N op, Bt av am, Bt bv bm] w fun e w' => e = .returned (Bt (twoV op av am bv bm 64) (twoM op av am bv bm 64)) ∧ Below w.heap.size w w' := by
  go_enter Try.func81, Try.ntmps81
  go_wp2_with fail
  have hK0 := (((((Kp.start w).add2 (U av) (U am) 24).add2 (U bv) (U bm) 24).add2 (.int .u64 0) (.int .u64 0) 24).add2 (.int .u64 0) (.int .u64 0) 24).add2 (.bool true) (.bool false) 123
  simp only [World.size_alloc] at hK0
  go_loopw [9] (fun t wr => ∃ (i : Nat) (c0 c1 : Bool) (V M : BitVec 64), i ≤ 64 ∧ t = N i ∧ twoC op av am bv bm i = (c0, c1) ∧ twoV op av am bv bm i = V ∧ twoM op av am bv bm i = M
      ∧ Kp w wr [(w.heap.size + 1 + 1 + 1 + 1, [.bool c0, .bool c1]), (w.heap.size + 1 + 1 + 1, [U V, U M]), (w.heap.size + 1 + 1, [.int .u64 0, .int .u64 0]), (w.heap.size + 1, [U bv, U bm]), (w.heap.size, [U av, U am])]) (fun t _ => 64 - (intOf t).toNat)
  case atStart => exact ⟨0, true, false, zero, zero, by omega, rfl, rfl, rfl, rfl, hK0⟩
  case round =>
    clear hK0
    obtain ⟨i, c0, c1, V, M, hi, rfl, hC, hV, hM, hK⟩ := hrel
    have HC : Hid _ := hC
    have HV : Hid _ := hV
    have HM : Hid _ := hM
    clear hC hV hM
    by_cases hlt : i < 64
    · obtain ⟨z, o, H1, H2⟩ := may_eq av am i
      obtain ⟨u, p, H3, H4⟩ := may_eq bv bm i
      obtain ⟨R, hR⟩ : ∃ R, R = wr.heap.size := ⟨_, rfl⟩
      have hK1 := (hK.add2 (.bool false) (.bool false) 123).add2 (.bool false) (.bool false) 123
      simp only [World.size_alloc] at hK1
      rw [← hR] at hK1
      have hR' : wr.heap.size = R := hR.symm
      clear hR hK
      have hd : decide ((i : Int) < 64) = true := by simp; omega
      go_wp2_with fail
      clear hR'
      go_loopw [12] (fun t ws => ∃ (k : Nat) (r0 r1 v0 v1 : Bool), k ≤ 8 ∧ t = N k ∧ inn op z o u p c0 c1 k = ((r0, r1), (v0, v1))
          ∧ Kp w ws [(R + 1, [.bool v0, .bool v1]), (R, [.bool r0, .bool r1]), (w.heap.size + 1 + 1 + 1 + 1, [.bool c0, .bool c1]), (w.heap.size + 1 + 1 + 1, [U V, U M]), (w.heap.size + 1 + 1, [.int .u64 0, .int .u64 0]), (w.heap.size + 1, [U bv, U bm]), (w.heap.size, [U av, U am])]) (fun t _ => 8 - (intOf t).toNat)
      case atStart => exact ⟨0, false, false, false, false, by omega, rfl, rfl, hK1⟩
      case round =>
        clear hK1
        obtain ⟨k, r0, r1, v0, v1, hk, rfl, hs, hK⟩ := hrel
        have Hs : Hid _ := hs
        clear hs
        obtain ⟨vv0, vv1, vv2, vv3, vv4⟩ := hK.box.head.two
        obtain ⟨rr0, rr1, rr2, rr3, rr4⟩ := hK.box.tail.head.two
        obtain ⟨cc0, cc1, cc2, cc3, cc4⟩ := hK.box.tail.tail.head.two
        obtain ⟨oo0, oo1, oo2, oo3, oo4⟩ := hK.box.tail.tail.tail.head.two
        obtain ⟨b0, b1, b2, b3, b4⟩ := hK.box.tail.tail.tail.tail.tail.head.two
        obtain ⟨a0, a1, a2, a3, a4⟩ := hK.box.tail.tail.tail.tail.tail.tail.head.two
        by_cases hk8 : k < 8
        · rcases k_cases hk8 with rfl | rfl | rfl | rfl | rfl | rfl | rfl | rfl
          · as_aux_lemma =>
            obtain ⟨q1, q2, Hb⟩ := bo_ex op false false false
            go_wp2_with fail
            refine (may_any hlt H1 H2 _).mono ?_
            rintro e w1 ⟨rfl, hb1⟩
            have hK1 := hK.keep hb1
            clear vv0 vv1 vv2 vv3 vv4 rr0 rr1 rr2 rr3 rr4 cc0 cc1 cc2 cc3 cc4 oo0 oo1 oo2 oo3 oo4 b0 b1 b2 b3 b4 a0 a1 a2 a3 a4
            obtain ⟨vv0, vv1, vv2, vv3, vv4⟩ := hK1.box.head.two
            obtain ⟨rr0, rr1, rr2, rr3, rr4⟩ := hK1.box.tail.head.two
            obtain ⟨cc0, cc1, cc2, cc3, cc4⟩ := hK1.box.tail.tail.head.two
            obtain ⟨oo0, oo1, oo2, oo3, oo4⟩ := hK1.box.tail.tail.tail.head.two
            obtain ⟨b0, b1, b2, b3, b4⟩ := hK1.box.tail.tail.tail.tail.tail.head.two
            obtain ⟨a0, a1, a2, a3, a4⟩ := hK1.box.tail.tail.tail.tail.tail.tail.head.two
            go_wp2_with fail
            refine (may_any hlt H3 H4 _).mono ?_
            rintro e w2 ⟨rfl, hb2⟩
            have hK2 := hK1.keep hb2
            clear vv0 vv1 vv2 vv3 vv4 rr0 rr1 rr2 rr3 rr4 cc0 cc1 cc2 cc3 cc4 oo0 oo1 oo2 oo3 oo4 b0 b1 b2 b3 b4 a0 a1 a2 a3 a4
            obtain ⟨vv0, vv1, vv2, vv3, vv4⟩ := hK2.box.head.two
            obtain ⟨rr0, rr1, rr2, rr3, rr4⟩ := hK2.box.tail.head.two
            obtain ⟨cc0, cc1, cc2, cc3, cc4⟩ := hK2.box.tail.tail.head.two
            obtain ⟨oo0, oo1, oo2, oo3, oo4⟩ := hK2.box.tail.tail.tail.head.two
            obtain ⟨b0, b1, b2, b3, b4⟩ := hK2.box.tail.tail.tail.tail.tail.head.two
            obtain ⟨a0, a1, a2, a3, a4⟩ := hK2.box.tail.tail.tail.tail.tail.tail.head.two
            clear hb1 hb2 hK1 hK H1 H2 H3 H4
            cases z
            · as_aux_lemma =>
                go_wp2_with fail
                go_roundw
                case rel => exact ⟨0 + 1, r0, r1, v0, v1, by omega, rfl, inn_no Hs.out rfl, hK2⟩
                case measure => simp [intOf]
            · cases u
              · as_aux_lemma =>
                  go_wp2_with fail
                  go_roundw
                  case rel => exact ⟨0 + 1, r0, r1, v0, v1, by omega, rfl, inn_no Hs.out rfl, hK2⟩
                  case measure => simp [intOf]
              · cases c0
                · as_aux_lemma =>
                    go_wp2_with fail
                    go_roundw
                    case rel => exact ⟨0 + 1, r0, r1, v0, v1, by omega, rfl, inn_no Hs.out rfl, hK2⟩
                    case measure => simp [intOf]
                · as_aux_lemma =>
                    go_wp2_with fail
                    refine (bitOf_is Hb _).mono ?_
                    rintro e w3 ⟨rfl, rfl⟩
                    cases q1 <;> cases q2
                    all_goals
                      first | rw [bi_t] | rw [bi_f]
                      try first | rw [bi_t] | rw [bi_f]
                      go_wp2_with fail
                      go_roundw
                      case rel => exact ⟨0 + 1, _, _, _, _, by omega, rfl, inn_yes Hs.out rfl rfl rfl rfl Hb.out, (hK2.set1 1 rfl rfl).set1 0 rfl rfl⟩
                      case measure => simp [intOf]
          · as_aux_lemma =>
            obtain ⟨q1, q2, Hb⟩ := bo_ex op true false false
            go_wp2_with fail
            refine (may_any hlt H1 H2 _).mono ?_
            rintro e w1 ⟨rfl, hb1⟩
            have hK1 := hK.keep hb1
            clear vv0 vv1 vv2 vv3 vv4 rr0 rr1 rr2 rr3 rr4 cc0 cc1 cc2 cc3 cc4 oo0 oo1 oo2 oo3 oo4 b0 b1 b2 b3 b4 a0 a1 a2 a3 a4
            obtain ⟨vv0, vv1, vv2, vv3, vv4⟩ := hK1.box.head.two
            obtain ⟨rr0, rr1, rr2, rr3, rr4⟩ := hK1.box.tail.head.two
            obtain ⟨cc0, cc1, cc2, cc3, cc4⟩ := hK1.box.tail.tail.head.two
            obtain ⟨oo0, oo1, oo2, oo3, oo4⟩ := hK1.box.tail.tail.tail.head.two
            obtain ⟨b0, b1, b2, b3, b4⟩ := hK1.box.tail.tail.tail.tail.tail.head.two
            obtain ⟨a0, a1, a2, a3, a4⟩ := hK1.box.tail.tail.tail.tail.tail.tail.head.two
            go_wp2_with fail
            refine (may_any hlt H3 H4 _).mono ?_
            rintro e w2 ⟨rfl, hb2⟩
            have hK2 := hK1.keep hb2
            clear vv0 vv1 vv2 vv3 vv4 rr0 rr1 rr2 rr3 rr4 cc0 cc1 cc2 cc3 cc4 oo0 oo1 oo2 oo3 oo4 b0 b1 b2 b3 b4 a0 a1 a2 a3 a4
            obtain ⟨vv0, vv1, vv2, vv3, vv4⟩ := hK2.box.head.two
            obtain ⟨rr0, rr1, rr2, rr3, rr4⟩ := hK2.box.tail.head.two
            obtain ⟨cc0, cc1, cc2, cc3, cc4⟩ := hK2.box.tail.tail.head.two
            obtain ⟨oo0, oo1, oo2, oo3, oo4⟩ := hK2.box.tail.tail.tail.head.two
            obtain ⟨b0, b1, b2, b3, b4⟩ := hK2.box.tail.tail.tail.tail.tail.head.two
            obtain ⟨a0, a1, a2, a3, a4⟩ := hK2.box.tail.tail.tail.tail.tail.tail.head.two
            clear hb1 hb2 hK1 hK H1 H2 H3 H4
            cases o
            · as_aux_lemma =>
                go_wp2_with fail
                go_roundw
                case rel => exact ⟨1 + 1, r0, r1, v0, v1, by omega, rfl, inn_no Hs.out rfl, hK2⟩
                case measure => simp [intOf]
            · cases u
              · as_aux_lemma =>
                  go_wp2_with fail
                  go_roundw
                  case rel => exact ⟨1 + 1, r0, r1, v0, v1, by omega, rfl, inn_no Hs.out rfl, hK2⟩
                  case measure => simp [intOf]
              · cases c0
                · as_aux_lemma =>
                    go_wp2_with fail
                    go_roundw
                    case rel => exact ⟨1 + 1, r0, r1, v0, v1, by omega, rfl, inn_no Hs.out rfl, hK2⟩
                    case measure => simp [intOf]
                · as_aux_lemma =>
                    go_wp2_with fail
                    refine (bitOf_is Hb _).mono ?_
                    rintro e w3 ⟨rfl, rfl⟩
                    cases q1 <;> cases q2
                    all_goals
                      first | rw [bi_t] | rw [bi_f]
                      try first | rw [bi_t] | rw [bi_f]
                      go_wp2_with fail
                      go_roundw
                      case rel => exact ⟨1 + 1, _, _, _, _, by omega, rfl, inn_yes Hs.out rfl rfl rfl rfl Hb.out, (hK2.set1 1 rfl rfl).set1 0 rfl rfl⟩
                      case measure => simp [intOf]
          · as_aux_lemma =>
            obtain ⟨q1, q2, Hb⟩ := bo_ex op false true false
            go_wp2_with fail
            refine (may_any hlt H1 H2 _).mono ?_
            rintro e w1 ⟨rfl, hb1⟩
            have hK1 := hK.keep hb1
            clear vv0 vv1 vv2 vv3 vv4 rr0 rr1 rr2 rr3 rr4 cc0 cc1 cc2 cc3 cc4 oo0 oo1 oo2 oo3 oo4 b0 b1 b2 b3 b4 a0 a1 a2 a3 a4
            obtain ⟨vv0, vv1, vv2, vv3, vv4⟩ := hK1.box.head.two
            obtain ⟨rr0, rr1, rr2, rr3, rr4⟩ := hK1.box.tail.head.two
            obtain ⟨cc0, cc1, cc2, cc3, cc4⟩ := hK1.box.tail.tail.head.two
            obtain ⟨oo0, oo1, oo2, oo3, oo4⟩ := hK1.box.tail.tail.tail.head.two
            obtain ⟨b0, b1, b2, b3, b4⟩ := hK1.box.tail.tail.tail.tail.tail.head.two
            obtain ⟨a0, a1, a2, a3, a4⟩ := hK1.box.tail.tail.tail.tail.tail.tail.head.two
            go_wp2_with fail
            refine (may_any hlt H3 H4 _).mono ?_
            rintro e w2 ⟨rfl, hb2⟩
            have hK2 := hK1.keep hb2
            clear vv0 vv1 vv2 vv3 vv4 rr0 rr1 rr2 rr3 rr4 cc0 cc1 cc2 cc3 cc4 oo0 oo1 oo2 oo3 oo4 b0 b1 b2 b3 b4 a0 a1 a2 a3 a4
            obtain ⟨vv0, vv1, vv2, vv3, vv4⟩ := hK2.box.head.two
            obtain ⟨rr0, rr1, rr2, rr3, rr4⟩ := hK2.box.tail.head.two
            obtain ⟨cc0, cc1, cc2, cc3, cc4⟩ := hK2.box.tail.tail.head.two
            obtain ⟨oo0, oo1, oo2, oo3, oo4⟩ := hK2.box.tail.tail.tail.head.two
            obtain ⟨b0, b1, b2, b3, b4⟩ := hK2.box.tail.tail.tail.tail.tail.head.two
            obtain ⟨a0, a1, a2, a3, a4⟩ := hK2.box.tail.tail.tail.tail.tail.tail.head.two
            clear hb1 hb2 hK1 hK H1 H2 H3 H4
            cases z
            · as_aux_lemma =>
                go_wp2_with fail
                go_roundw
                case rel => exact ⟨2 + 1, r0, r1, v0, v1, by omega, rfl, inn_no Hs.out rfl, hK2⟩
                case measure => simp [intOf]
            · cases p
              · as_aux_lemma =>
                  go_wp2_with fail
                  go_roundw
                  case rel => exact ⟨2 + 1, r0, r1, v0, v1, by omega, rfl, inn_no Hs.out rfl, hK2⟩
                  case measure => simp [intOf]
              · cases c0
                · as_aux_lemma =>
                    go_wp2_with fail
                    go_roundw
                    case rel => exact ⟨2 + 1, r0, r1, v0, v1, by omega, rfl, inn_no Hs.out rfl, hK2⟩
                    case measure => simp [intOf]
                · as_aux_lemma =>
                    go_wp2_with fail
                    refine (bitOf_is Hb _).mono ?_
                    rintro e w3 ⟨rfl, rfl⟩
                    cases q1 <;> cases q2
                    all_goals
                      first | rw [bi_t] | rw [bi_f]
                      try first | rw [bi_t] | rw [bi_f]
                      go_wp2_with fail
                      go_roundw
                      case rel => exact ⟨2 + 1, _, _, _, _, by omega, rfl, inn_yes Hs.out rfl rfl rfl rfl Hb.out, (hK2.set1 1 rfl rfl).set1 0 rfl rfl⟩
                      case measure => simp [intOf]
          · as_aux_lemma =>
            obtain ⟨q1, q2, Hb⟩ := bo_ex op true true false
            go_wp2_with fail
            refine (may_any hlt H1 H2 _).mono ?_
            rintro e w1 ⟨rfl, hb1⟩
            have hK1 := hK.keep hb1
            clear vv0 vv1 vv2 vv3 vv4 rr0 rr1 rr2 rr3 rr4 cc0 cc1 cc2 cc3 cc4 oo0 oo1 oo2 oo3 oo4 b0 b1 b2 b3 b4 a0 a1 a2 a3 a4
            obtain ⟨vv0, vv1, vv2, vv3, vv4⟩ := hK1.box.head.two
            obtain ⟨rr0, rr1, rr2, rr3, rr4⟩ := hK1.box.tail.head.two
            obtain ⟨cc0, cc1, cc2, cc3, cc4⟩ := hK1.box.tail.tail.head.two
            obtain ⟨oo0, oo1, oo2, oo3, oo4⟩ := hK1.box.tail.tail.tail.head.two
            obtain ⟨b0, b1, b2, b3, b4⟩ := hK1.box.tail.tail.tail.tail.tail.head.two
            obtain ⟨a0, a1, a2, a3, a4⟩ := hK1.box.tail.tail.tail.tail.tail.tail.head.two
            go_wp2_with fail
            refine (may_any hlt H3 H4 _).mono ?_
            rintro e w2 ⟨rfl, hb2⟩
            have hK2 := hK1.keep hb2
            clear vv0 vv1 vv2 vv3 vv4 rr0 rr1 rr2 rr3 rr4 cc0 cc1 cc2 cc3 cc4 oo0 oo1 oo2 oo3 oo4 b0 b1 b2 b3 b4 a0 a1 a2 a3 a4
            obtain ⟨vv0, vv1, vv2, vv3, vv4⟩ := hK2.box.head.two
            obtain ⟨rr0, rr1, rr2, rr3, rr4⟩ := hK2.box.tail.head.two
            obtain ⟨cc0, cc1, cc2, cc3, cc4⟩ := hK2.box.tail.tail.head.two
            obtain ⟨oo0, oo1, oo2, oo3, oo4⟩ := hK2.box.tail.tail.tail.head.two
            obtain ⟨b0, b1, b2, b3, b4⟩ := hK2.box.tail.tail.tail.tail.tail.head.two
            obtain ⟨a0, a1, a2, a3, a4⟩ := hK2.box.tail.tail.tail.tail.tail.tail.head.two
            clear hb1 hb2 hK1 hK H1 H2 H3 H4
            cases o
            · as_aux_lemma =>
                go_wp2_with fail
                go_roundw
                case rel => exact ⟨3 + 1, r0, r1, v0, v1, by omega, rfl, inn_no Hs.out rfl, hK2⟩
                case measure => simp [intOf]
            · cases p
              · as_aux_lemma =>
                  go_wp2_with fail
                  go_roundw
                  case rel => exact ⟨3 + 1, r0, r1, v0, v1, by omega, rfl, inn_no Hs.out rfl, hK2⟩
                  case measure => simp [intOf]
              · cases c0
                · as_aux_lemma =>
                    go_wp2_with fail
                    go_roundw
                    case rel => exact ⟨3 + 1, r0, r1, v0, v1, by omega, rfl, inn_no Hs.out rfl, hK2⟩
                    case measure => simp [intOf]
                · as_aux_lemma =>
                    go_wp2_with fail
                    refine (bitOf_is Hb _).mono ?_
                    rintro e w3 ⟨rfl, rfl⟩
                    cases q1 <;> cases q2
                    all_goals
                      first | rw [bi_t] | rw [bi_f]
                      try first | rw [bi_t] | rw [bi_f]
                      go_wp2_with fail
                      go_roundw
                      case rel => exact ⟨3 + 1, _, _, _, _, by omega, rfl, inn_yes Hs.out rfl rfl rfl rfl Hb.out, (hK2.set1 1 rfl rfl).set1 0 rfl rfl⟩
                      case measure => simp [intOf]
          · as_aux_lemma =>
            obtain ⟨q1, q2, Hb⟩ := bo_ex op false false true
            go_wp2_with fail
            refine (may_any hlt H1 H2 _).mono ?_
            rintro e w1 ⟨rfl, hb1⟩
            have hK1 := hK.keep hb1
            clear vv0 vv1 vv2 vv3 vv4 rr0 rr1 rr2 rr3 rr4 cc0 cc1 cc2 cc3 cc4 oo0 oo1 oo2 oo3 oo4 b0 b1 b2 b3 b4 a0 a1 a2 a3 a4
            obtain ⟨vv0, vv1, vv2, vv3, vv4⟩ := hK1.box.head.two
            obtain ⟨rr0, rr1, rr2, rr3, rr4⟩ := hK1.box.tail.head.two
            obtain ⟨cc0, cc1, cc2, cc3, cc4⟩ := hK1.box.tail.tail.head.two
            obtain ⟨oo0, oo1, oo2, oo3, oo4⟩ := hK1.box.tail.tail.tail.head.two
            obtain ⟨b0, b1, b2, b3, b4⟩ := hK1.box.tail.tail.tail.tail.tail.head.two
            obtain ⟨a0, a1, a2, a3, a4⟩ := hK1.box.tail.tail.tail.tail.tail.tail.head.two
            go_wp2_with fail
            refine (may_any hlt H3 H4 _).mono ?_
            rintro e w2 ⟨rfl, hb2⟩
            have hK2 := hK1.keep hb2
            clear vv0 vv1 vv2 vv3 vv4 rr0 rr1 rr2 rr3 rr4 cc0 cc1 cc2 cc3 cc4 oo0 oo1 oo2 oo3 oo4 b0 b1 b2 b3 b4 a0 a1 a2 a3 a4
            obtain ⟨vv0, vv1, vv2, vv3, vv4⟩ := hK2.box.head.two
            obtain ⟨rr0, rr1, rr2, rr3, rr4⟩ := hK2.box.tail.head.two
            obtain ⟨cc0, cc1, cc2, cc3, cc4⟩ := hK2.box.tail.tail.head.two
            obtain ⟨oo0, oo1, oo2, oo3, oo4⟩ := hK2.box.tail.tail.tail.head.two
            obtain ⟨b0, b1, b2, b3, b4⟩ := hK2.box.tail.tail.tail.tail.tail.head.two
            obtain ⟨a0, a1, a2, a3, a4⟩ := hK2.box.tail.tail.tail.tail.tail.tail.head.two
            clear hb1 hb2 hK1 hK H1 H2 H3 H4
            cases z
            · as_aux_lemma =>
                go_wp2_with fail
                go_roundw
                case rel => exact ⟨4 + 1, r0, r1, v0, v1, by omega, rfl, inn_no Hs.out rfl, hK2⟩
                case measure => simp [intOf]
            · cases u
              · as_aux_lemma =>
                  go_wp2_with fail
                  go_roundw
                  case rel => exact ⟨4 + 1, r0, r1, v0, v1, by omega, rfl, inn_no Hs.out rfl, hK2⟩
                  case measure => simp [intOf]
              · cases c1
                · as_aux_lemma =>
                    go_wp2_with fail
                    go_roundw
                    case rel => exact ⟨4 + 1, r0, r1, v0, v1, by omega, rfl, inn_no Hs.out rfl, hK2⟩
                    case measure => simp [intOf]
                · as_aux_lemma =>
                    go_wp2_with fail
                    refine (bitOf_is Hb _).mono ?_
                    rintro e w3 ⟨rfl, rfl⟩
                    cases q1 <;> cases q2
                    all_goals
                      first | rw [bi_t] | rw [bi_f]
                      try first | rw [bi_t] | rw [bi_f]
                      go_wp2_with fail
                      go_roundw
                      case rel => exact ⟨4 + 1, _, _, _, _, by omega, rfl, inn_yes Hs.out rfl rfl rfl rfl Hb.out, (hK2.set1 1 rfl rfl).set1 0 rfl rfl⟩
                      case measure => simp [intOf]
          · as_aux_lemma =>
            obtain ⟨q1, q2, Hb⟩ := bo_ex op true false true
            go_wp2_with fail
            refine (may_any hlt H1 H2 _).mono ?_
            rintro e w1 ⟨rfl, hb1⟩
            have hK1 := hK.keep hb1
            clear vv0 vv1 vv2 vv3 vv4 rr0 rr1 rr2 rr3 rr4 cc0 cc1 cc2 cc3 cc4 oo0 oo1 oo2 oo3 oo4 b0 b1 b2 b3 b4 a0 a1 a2 a3 a4
            obtain ⟨vv0, vv1, vv2, vv3, vv4⟩ := hK1.box.head.two
            obtain ⟨rr0, rr1, rr2, rr3, rr4⟩ := hK1.box.tail.head.two
            obtain ⟨cc0, cc1, cc2, cc3, cc4⟩ := hK1.box.tail.tail.head.two
            obtain ⟨oo0, oo1, oo2, oo3, oo4⟩ := hK1.box.tail.tail.tail.head.two
            obtain ⟨b0, b1, b2, b3, b4⟩ := hK1.box.tail.tail.tail.tail.tail.head.two
            obtain ⟨a0, a1, a2, a3, a4⟩ := hK1.box.tail.tail.tail.tail.tail.tail.head.two
            go_wp2_with fail
            refine (may_any hlt H3 H4 _).mono ?_
            rintro e w2 ⟨rfl, hb2⟩
            have hK2 := hK1.keep hb2
            clear vv0 vv1 vv2 vv3 vv4 rr0 rr1 rr2 rr3 rr4 cc0 cc1 cc2 cc3 cc4 oo0 oo1 oo2 oo3 oo4 b0 b1 b2 b3 b4 a0 a1 a2 a3 a4
            obtain ⟨vv0, vv1, vv2, vv3, vv4⟩ := hK2.box.head.two
            obtain ⟨rr0, rr1, rr2, rr3, rr4⟩ := hK2.box.tail.head.two
            obtain ⟨cc0, cc1, cc2, cc3, cc4⟩ := hK2.box.tail.tail.head.two
            obtain ⟨oo0, oo1, oo2, oo3, oo4⟩ := hK2.box.tail.tail.tail.head.two
            obtain ⟨b0, b1, b2, b3, b4⟩ := hK2.box.tail.tail.tail.tail.tail.head.two
            obtain ⟨a0, a1, a2, a3, a4⟩ := hK2.box.tail.tail.tail.tail.tail.tail.head.two
            clear hb1 hb2 hK1 hK H1 H2 H3 H4
            cases o
            · as_aux_lemma =>
                go_wp2_with fail
                go_roundw
                case rel => exact ⟨5 + 1, r0, r1, v0, v1, by omega, rfl, inn_no Hs.out rfl, hK2⟩
                case measure => simp [intOf]
            · cases u
              · as_aux_lemma =>
                  go_wp2_with fail
                  go_roundw
                  case rel => exact ⟨5 + 1, r0, r1, v0, v1, by omega, rfl, inn_no Hs.out rfl, hK2⟩
                  case measure => simp [intOf]
              · cases c1
                · as_aux_lemma =>
                    go_wp2_with fail
                    go_roundw
                    case rel => exact ⟨5 + 1, r0, r1, v0, v1, by omega, rfl, inn_no Hs.out rfl, hK2⟩
                    case measure => simp [intOf]
                · as_aux_lemma =>
                    go_wp2_with fail
                    refine (bitOf_is Hb _).mono ?_
                    rintro e w3 ⟨rfl, rfl⟩
                    cases q1 <;> cases q2
                    all_goals
                      first | rw [bi_t] | rw [bi_f]
                      try first | rw [bi_t] | rw [bi_f]
                      go_wp2_with fail
                      go_roundw
                      case rel => exact ⟨5 + 1, _, _, _, _, by omega, rfl, inn_yes Hs.out rfl rfl rfl rfl Hb.out, (hK2.set1 1 rfl rfl).set1 0 rfl rfl⟩
                      case measure => simp [intOf]
          · as_aux_lemma =>
            obtain ⟨q1, q2, Hb⟩ := bo_ex op false true true
            go_wp2_with fail
            refine (may_any hlt H1 H2 _).mono ?_
            rintro e w1 ⟨rfl, hb1⟩
            have hK1 := hK.keep hb1
            clear vv0 vv1 vv2 vv3 vv4 rr0 rr1 rr2 rr3 rr4 cc0 cc1 cc2 cc3 cc4 oo0 oo1 oo2 oo3 oo4 b0 b1 b2 b3 b4 a0 a1 a2 a3 a4
            obtain ⟨vv0, vv1, vv2, vv3, vv4⟩ := hK1.box.head.two
            obtain ⟨rr0, rr1, rr2, rr3, rr4⟩ := hK1.box.tail.head.two
            obtain ⟨cc0, cc1, cc2, cc3, cc4⟩ := hK1.box.tail.tail.head.two
            obtain ⟨oo0, oo1, oo2, oo3, oo4⟩ := hK1.box.tail.tail.tail.head.two
            obtain ⟨b0, b1, b2, b3, b4⟩ := hK1.box.tail.tail.tail.tail.tail.head.two
            obtain ⟨a0, a1, a2, a3, a4⟩ := hK1.box.tail.tail.tail.tail.tail.tail.head.two
            go_wp2_with fail
            refine (may_any hlt H3 H4 _).mono ?_
            rintro e w2 ⟨rfl, hb2⟩
            have hK2 := hK1.keep hb2
            clear vv0 vv1 vv2 vv3 vv4 rr0 rr1 rr2 rr3 rr4 cc0 cc1 cc2 cc3 cc4 oo0 oo1 oo2 oo3 oo4 b0 b1 b2 b3 b4 a0 a1 a2 a3 a4
            obtain ⟨vv0, vv1, vv2, vv3, vv4⟩ := hK2.box.head.two
            obtain ⟨rr0, rr1, rr2, rr3, rr4⟩ := hK2.box.tail.head.two
            obtain ⟨cc0, cc1, cc2, cc3, cc4⟩ := hK2.box.tail.tail.head.two
            obtain ⟨oo0, oo1, oo2, oo3, oo4⟩ := hK2.box.tail.tail.tail.head.two
            obtain ⟨b0, b1, b2, b3, b4⟩ := hK2.box.tail.tail.tail.tail.tail.head.two
            obtain ⟨a0, a1, a2, a3, a4⟩ := hK2.box.tail.tail.tail.tail.tail.tail.head.two
            clear hb1 hb2 hK1 hK H1 H2 H3 H4
            cases z
            · as_aux_lemma =>
                go_wp2_with fail
                go_roundw
                case rel => exact ⟨6 + 1, r0, r1, v0, v1, by omega, rfl, inn_no Hs.out rfl, hK2⟩
                case measure => simp [intOf]
            · cases p
              · as_aux_lemma =>
                  go_wp2_with fail
                  go_roundw
                  case rel => exact ⟨6 + 1, r0, r1, v0, v1, by omega, rfl, inn_no Hs.out rfl, hK2⟩
                  case measure => simp [intOf]
              · cases c1
                · as_aux_lemma =>
                    go_wp2_with fail
                    go_roundw
                    case rel => exact ⟨6 + 1, r0, r1, v0, v1, by omega, rfl, inn_no Hs.out rfl, hK2⟩
                    case measure => simp [intOf]
                · as_aux_lemma =>
                    go_wp2_with fail
                    refine (bitOf_is Hb _).mono ?_
                    rintro e w3 ⟨rfl, rfl⟩
                    cases q1 <;> cases q2
                    all_goals
                      first | rw [bi_t] | rw [bi_f]
                      try first | rw [bi_t] | rw [bi_f]
                      go_wp2_with fail
                      go_roundw
                      case rel => exact ⟨6 + 1, _, _, _, _, by omega, rfl, inn_yes Hs.out rfl rfl rfl rfl Hb.out, (hK2.set1 1 rfl rfl).set1 0 rfl rfl⟩
                      case measure => simp [intOf]
          · as_aux_lemma =>
            obtain ⟨q1, q2, Hb⟩ := bo_ex op true true true
            go_wp2_with fail
            refine (may_any hlt H1 H2 _).mono ?_
            rintro e w1 ⟨rfl, hb1⟩
            have hK1 := hK.keep hb1
            clear vv0 vv1 vv2 vv3 vv4 rr0 rr1 rr2 rr3 rr4 cc0 cc1 cc2 cc3 cc4 oo0 oo1 oo2 oo3 oo4 b0 b1 b2 b3 b4 a0 a1 a2 a3 a4
            obtain ⟨vv0, vv1, vv2, vv3, vv4⟩ := hK1.box.head.two
            obtain ⟨rr0, rr1, rr2, rr3, rr4⟩ := hK1.box.tail.head.two
            obtain ⟨cc0, cc1, cc2, cc3, cc4⟩ := hK1.box.tail.tail.head.two
            obtain ⟨oo0, oo1, oo2, oo3, oo4⟩ := hK1.box.tail.tail.tail.head.two
            obtain ⟨b0, b1, b2, b3, b4⟩ := hK1.box.tail.tail.tail.tail.tail.head.two
            obtain ⟨a0, a1, a2, a3, a4⟩ := hK1.box.tail.tail.tail.tail.tail.tail.head.two
            go_wp2_with fail
            refine (may_any hlt H3 H4 _).mono ?_
            rintro e w2 ⟨rfl, hb2⟩
            have hK2 := hK1.keep hb2
            clear vv0 vv1 vv2 vv3 vv4 rr0 rr1 rr2 rr3 rr4 cc0 cc1 cc2 cc3 cc4 oo0 oo1 oo2 oo3 oo4 b0 b1 b2 b3 b4 a0 a1 a2 a3 a4
            obtain ⟨vv0, vv1, vv2, vv3, vv4⟩ := hK2.box.head.two
            obtain ⟨rr0, rr1, rr2, rr3, rr4⟩ := hK2.box.tail.head.two
            obtain ⟨cc0, cc1, cc2, cc3, cc4⟩ := hK2.box.tail.tail.head.two
            obtain ⟨oo0, oo1, oo2, oo3, oo4⟩ := hK2.box.tail.tail.tail.head.two
            obtain ⟨b0, b1, b2, b3, b4⟩ := hK2.box.tail.tail.tail.tail.tail.head.two
            obtain ⟨a0, a1, a2, a3, a4⟩ := hK2.box.tail.tail.tail.tail.tail.tail.head.two
            clear hb1 hb2 hK1 hK H1 H2 H3 H4
            cases o
            · as_aux_lemma =>
                go_wp2_with fail
                go_roundw
                case rel => exact ⟨7 + 1, r0, r1, v0, v1, by omega, rfl, inn_no Hs.out rfl, hK2⟩
                case measure => simp [intOf]
            · cases p
              · as_aux_lemma =>
                  go_wp2_with fail
                  go_roundw
                  case rel => exact ⟨7 + 1, r0, r1, v0, v1, by omega, rfl, inn_no Hs.out rfl, hK2⟩
                  case measure => simp [intOf]
              · cases c1
                · as_aux_lemma =>
                    go_wp2_with fail
                    go_roundw
                    case rel => exact ⟨7 + 1, r0, r1, v0, v1, by omega, rfl, inn_no Hs.out rfl, hK2⟩
                    case measure => simp [intOf]
                · as_aux_lemma =>
                    go_wp2_with fail
                    refine (bitOf_is Hb _).mono ?_
                    rintro e w3 ⟨rfl, rfl⟩
                    cases q1 <;> cases q2
                    all_goals
                      first | rw [bi_t] | rw [bi_f]
                      try first | rw [bi_t] | rw [bi_f]
                      go_wp2_with fail
                      go_roundw
                      case rel => exact ⟨7 + 1, _, _, _, _, by omega, rfl, inn_yes Hs.out rfl rfl rfl rfl Hb.out, (hK2.set1 1 rfl rfl).set1 0 rfl rfl⟩
                      case measure => simp [intOf]
        · have e8 : k = 8 := by omega
          subst e8
          go_wp2_with fail
          refine (put_any _ _ i hlt _ _ _).mono ?_
          rintro e w1 ⟨rfl, hb1⟩
          have hK1 := hK.keep hb1
          clear vv0 vv1 vv2 vv3 vv4 rr0 rr1 rr2 rr3 rr4 cc0 cc1 cc2 cc3 cc4 oo0 oo1 oo2 oo3 oo4 b0 b1 b2 b3 b4 a0 a1 a2 a3 a4
          obtain ⟨vv0, vv1, vv2, vv3, vv4⟩ := hK1.box.head.two
          obtain ⟨rr0, rr1, rr2, rr3, rr4⟩ := hK1.box.tail.head.two
          obtain ⟨cc0, cc1, cc2, cc3, cc4⟩ := hK1.box.tail.tail.head.two
          obtain ⟨oo0, oo1, oo2, oo3, oo4⟩ := hK1.box.tail.tail.tail.head.two
          obtain ⟨b0, b1, b2, b3, b4⟩ := hK1.box.tail.tail.tail.tail.tail.head.two
          obtain ⟨a0, a1, a2, a3, a4⟩ := hK1.box.tail.tail.tail.tail.tail.tail.head.two
          have hK2 := hK1.set2 (x := U (putV V i r0 r1)) (y := U (putM M i r0 r1)) 3 rfl
          obtain ⟨vvv0, vvv1, vvv2, vvv3, vvv4⟩ := hK2.box.head.two
          obtain ⟨ccc0, ccc1, ccc2, ccc3, ccc4⟩ := hK2.box.tail.tail.head.two
          go_wp2_with fail
          have hS : inn op (mz av i) (mo av am i) (mz bv i) (mo bv bm i) (twoC op av am bv bm i).1 (twoC op av am bv bm i).2 8 = ((r0, r1), (v0, v1)) := by
            rw [← H1.out, ← H2.out, ← H3.out, ← H4.out, HC.out]; exact Hs.out
          have hR1 : twoR op av am bv bm i = (r0, r1) := by unfold twoR; rw [hS]
          exact ⟨⟨i + 1, v0, v1, _, _, by omega, by go_num, by show (inn op (mz av i) (mo av am i) (mz bv i) (mo bv bm i) (twoC op av am bv bm i).1 (twoC op av am bv bm i).2 8).2 = _; rw [hS],
            by rw [← twoV_succ, hR1, HV.out], by rw [← twoM_succ, hR1, HM.out], ⟨((hK2.set2 (x := .bool v0) (y := .bool v1) 2 rfl)).bel, ((hK2.set2 (x := .bool v0) (y := .bool v1) 2 rfl)).box.tail.tail, fun q hq => ((hK2.set2 (x := .bool v0) (y := .bool v1) 2 rfl)).lo q (List.mem_cons_of_mem _ (List.mem_cons_of_mem _ hq))⟩⟩, by simp [intOf]; omega⟩
    · have e64 : i = 64 := by omega
      subst e64
      obtain ⟨cc0, cc1, cc2, cc3, cc4⟩ := hK.box.head.two
      obtain ⟨oo0, oo1, oo2, oo3, oo4⟩ := hK.box.tail.head.two
      obtain ⟨zz0, zz1, zz2, zz3, zz4⟩ := hK.box.tail.tail.head.two
      obtain ⟨b0, b1, b2, b3, b4⟩ := hK.box.tail.tail.tail.head.two
      obtain ⟨a0, a1, a2, a3, a4⟩ := hK.box.tail.tail.tail.tail.head.two
      go_wp2_with fail
      rw [← HV.out, ← HM.out] at *
      exact bodyPost_ret (v := Bt (twoV op av am bv bm 64) (twoM op av am bv bm 64)) (by simp [results, Try.results81, go_sem, zz0, zz1]) rfl ⟨rfl, (hK.set2 (x := _) (y := _) 2 rfl).bel⟩

end Go.Proofs.Ytkigmocchaikgaa

/- Sums and differences of what is known of two numbers: carries; plain facts. -/
namespace Go.Proofs.Ytkigmocchaikgaa

/- what is carried into bit i of x + y -/
def cy (x y : BitVec 64) (i : Nat) : Bool := BitVec.carry i x y false
theorem cy_zero (x y : BitVec 64) : cy x y 0 = false := by unfold cy; rw [BitVec.carry_zero]
theorem cy_succ (x y : BitVec 64) (i : Nat) : cy x y (i + 1) = ((bit x i && bit y i) || (cy x y i && (bit x i || bit y i))) := by
  unfold cy bit
  rw [BitVec.carry_succ]
  unfold Bool.atLeastTwo
  cases x.getLsbD i <;> cases y.getLsbD i <;> cases BitVec.carry i x y false <;> rfl
theorem bit_add (x y : BitVec 64) (i : Nat) (hi : i < 64) : bit (badd x y) i = (bit x i ^^ bit y i ^^ cy x y i) := by
  unfold bit badd cy
  rw [BitVec.getLsbD_add hi]
  cases x.getLsbD i <;> cases y.getLsbD i <;> cases BitVec.carry i x y false <;> rfl
theorem cy_mono (x y x' y' : BitVec 64) (hx : ∀ j, bit x j = true → bit x' j = true) (hy : ∀ j, bit y j = true → bit y' j = true) (i : Nat) : cy x y i = true → cy x' y' i = true := by
  induction i with
  | zero => intro h; rw [cy_zero] at h; cases h
  | succ i ih =>
    rw [cy_succ, cy_succ]
    have h1 := hx i; have h2 := hy i
    revert ih h1 h2
    cases bit x i <;> cases bit y i <;> cases cy x y i <;> cases bit x' i <;> cases bit y' i <;> cases cy x' y' i <;> simp

/- x is one of the numbers of (v, m) -/
theorem has_iff (v m x : BitVec 64) : eqb (bandn x m) v = true ↔ ∀ j, j < 64 → (bit x j && !bit m j) = bit v j := by
  rw [eqb_iff]
  constructor
  · intro h j hj; rw [← bit_andn _ _ _ hj, h]
  · intro h; apply ext64; intro j hj; rw [bit_andn _ _ _ hj]; exact h j hj

/- disjoint bits: their sum is their or -/
theorem add_or {v m : BitVec 64} (hr : ∀ j, (bit v j && bit m j) = false) : badd v m = bor v m := by
  have hc : ∀ i, cy v m i = false := by
    intro i
    induction i with
    | zero => exact cy_zero _ _
    | succ i ih =>
      rw [cy_succ, ih]
      have := hr i
      revert this
      cases bit v i <;> cases bit m i <;> simp
  apply ext64; intro j hj
  rw [bit_add _ _ _ hj, hc j, bit_or]
  have := hr j
  revert this
  cases bit v j <;> cases bit m j <;> simp

theorem add_swap (a b c d : BitVec 64) : badd (badd (badd a b) c) d = badd (badd a c) (badd b d) := by
  unfold badd
  rw [BitVec.add_assoc, BitVec.add_assoc, BitVec.add_assoc]
  congr 1
  rw [← BitVec.add_assoc, ← BitVec.add_assoc, BitVec.add_comm b c]

/- the mask of a sum, bit by bit: unknown, or carried in by the greatest and not by the least -/
theorem addM_bit {av am bv bm : BitVec 64} (ha : ∀ j, (bit av j && bit am j) = false) (hb : ∀ j, (bit bv j && bit bm j) = false) (j : Nat) (hj : j < 64) :
    bit (bor (bor (bxor (badd av bv) (badd (badd (badd av bv) am) bm)) am) bm) j = (bit am j || bit bm j || (!cy av bv j && cy (bor av am) (bor bv bm) j)) := by
  rw [bit_or, bit_or, bit_xor, add_swap, add_or ha, add_or hb, bit_add _ _ _ hj, bit_add _ _ _ hj, bit_or, bit_or]
  have hm := cy_mono av bv (bor av am) (bor bv bm) (fun i h => by rw [bit_or, h]; rfl) (fun i h => by rw [bit_or, h]; rfl) j
  have h1 := ha j; have h2 := hb j
  revert hm h1 h2
  cases bit av j <;> cases bit am j <;> cases bit bv j <;> cases bit bm j <;> cases cy av bv j <;> cases cy (bor av am) (bor bv bm) j <;> simp

/- what x and y are, their sum's bits are where the mask says known -/
theorem add_sound {av am bv bm x y : BitVec 64} (ha : ∀ j, (bit av j && bit am j) = false) (hb : ∀ j, (bit bv j && bit bm j) = false)
    (hx : ∀ j, j < 64 → (bit x j && !bit am j) = bit av j) (hy : ∀ j, j < 64 → (bit y j && !bit bm j) = bit bv j) (M : BitVec 64)
    (hM : M = bor (bor (bxor (badd av bv) (badd (badd (badd av bv) am) bm)) am) bm) : ∀ j, j < 64 → (bit (badd x y) j && !bit M j) = bit (bandn (badd av bv) M) j := by
  intro j hj
  rw [bit_andn _ _ _ hj, hM, addM_bit ha hb j hj, bit_add _ _ _ hj, bit_add _ _ _ hj]
  have lx : ∀ i, bit av i = true → bit x i = true := fun i h => by
    by_cases hi : i < 64
    · have := hx i hi; rw [h] at this; revert this; cases bit x i <;> simp
    · rw [bit_big _ _ (by omega)] at h; cases h
  have ly : ∀ i, bit bv i = true → bit y i = true := fun i h => by
    by_cases hi : i < 64
    · have := hy i hi; rw [h] at this; revert this; cases bit y i <;> simp
    · rw [bit_big _ _ (by omega)] at h; cases h
  have ux : ∀ i, bit x i = true → bit (bor av am) i = true := fun i h => by
    by_cases hi : i < 64
    · have := hx i hi; rw [bit_or]; rw [h] at this; revert this; cases bit av i <;> cases bit am i <;> simp
    · rw [bit_big _ _ (by omega)] at h; cases h
  have uy : ∀ i, bit y i = true → bit (bor bv bm) i = true := fun i h => by
    by_cases hi : i < 64
    · have := hy i hi; rw [bit_or]; rw [h] at this; revert this; cases bit bv i <;> cases bit bm i <;> simp
    · rw [bit_big _ _ (by omega)] at h; cases h
  have m1 := cy_mono av bv x y lx ly j
  have m2 := cy_mono x y (bor av am) (bor bv bm) ux uy j
  have h1 := hx j hj; have h2 := hy j hj
  revert m1 m2 h1 h2
  cases bit x j <;> cases bit y j <;> cases bit av j <;> cases bit am j <;> cases bit bv j <;> cases bit bm j <;> cases cy av bv j <;> cases cy x y j <;> cases cy (bor av am) (bor bv bm) j <;> simp

/- differences by sums: x - y is not (not x + y) -/
theorem sub_not (x y : BitVec 64) : bsub x y = bnot (badd (bnot x) y) := by
  unfold bsub bnot badd
  apply BitVec.eq_of_toNat_eq
  rw [BitVec.toNat_sub, BitVec.toNat_not, BitVec.toNat_add, BitVec.toNat_not]
  have := x.isLt; have := y.isLt
  omega
/- what is borrowed from bit i of x - y -/
def bw (x y : BitVec 64) (i : Nat) : Bool := cy (bnot x) y i
theorem bit_sub (x y : BitVec 64) (i : Nat) (hi : i < 64) : bit (bsub x y) i = (bit x i ^^ bit y i ^^ bw x y i) := by
  rw [sub_not, bit_not _ _ hi, bit_add _ _ _ hi, bit_not _ _ hi]
  unfold bw
  cases bit x i <;> cases bit y i <;> cases cy (bnot x) y i <;> rfl
theorem bw_zero (x y : BitVec 64) : bw x y 0 = false := cy_zero _ _
theorem bw_succ (x y : BitVec 64) (i : Nat) (hi : i < 64) : bw x y (i + 1) = ((!bit x i && bit y i) || (bw x y i && (!bit x i || bit y i))) := by
  unfold bw; rw [cy_succ, bit_not _ _ hi]
theorem bw_mono (x y x' y' : BitVec 64) (hx : ∀ j, bit x' j = true → bit x j = true) (hy : ∀ j, bit y j = true → bit y' j = true) (i : Nat) : bw x y i = true → bw x' y' i = true := by
  unfold bw
  refine cy_mono _ _ _ _ (fun j h => ?_) hy i
  by_cases hj : j < 64
  · rw [bit_not _ _ hj] at h ⊢
    have := hx j
    revert this h
    cases bit x j <;> cases bit x' j <;> simp
  · rw [bit_big _ _ (by omega)] at h; cases h
theorem sub_add (a b c : BitVec 64) : badd (bsub a b) c = bsub (badd a c) b := by
  unfold badd bsub
  apply BitVec.eq_of_toNat_eq
  simp only [BitVec.toNat_add, BitVec.toNat_sub]
  have := a.isLt; have := b.isLt; have := c.isLt
  omega
theorem sub_sub (a b c : BitVec 64) : bsub (bsub a b) c = bsub a (badd b c) := by
  unfold badd bsub
  apply BitVec.eq_of_toNat_eq
  simp only [BitVec.toNat_add, BitVec.toNat_sub]
  have := a.isLt; have := b.isLt; have := c.isLt
  omega
theorem subM_bit {av am bv bm : BitVec 64} (ha : ∀ j, (bit av j && bit am j) = false) (hb : ∀ j, (bit bv j && bit bm j) = false) (j : Nat) (hj : j < 64) :
    bit (bor (bor (bxor (badd (bsub av bv) am) (bsub (bsub av bv) bm)) am) bm) j = (bit am j || bit bm j || (!bw (bor av am) bv j && bw av (bor bv bm) j)) := by
  rw [bit_or, bit_or, bit_xor, sub_add, sub_sub, add_or ha, add_or hb, bit_sub _ _ _ hj, bit_sub _ _ _ hj, bit_or, bit_or]
  have hm := bw_mono (bor av am) bv av (bor bv bm) (fun i h => by rw [bit_or, h]; rfl) (fun i h => by rw [bit_or, h]; rfl) j
  have h1 := ha j; have h2 := hb j
  revert hm h1 h2
  cases bit av j <;> cases bit am j <;> cases bit bv j <;> cases bit bm j <;> cases bw (bor av am) bv j <;> cases bw av (bor bv bm) j <;> simp
/- bounds of what a pair has -/
theorem lo_of {v m x : BitVec 64} (hx : ∀ j, j < 64 → (bit x j && !bit m j) = bit v j) (i : Nat) (h : bit v i = true) : bit x i = true := by
  by_cases hi : i < 64
  · have := hx i hi; rw [h] at this; revert this; cases bit x i <;> simp
  · rw [bit_big _ _ (by omega)] at h; cases h
theorem hi_of {v m x : BitVec 64} (hx : ∀ j, j < 64 → (bit x j && !bit m j) = bit v j) (i : Nat) (h : bit x i = true) : bit (bor v m) i = true := by
  by_cases hi : i < 64
  · have := hx i hi; rw [bit_or]; rw [h] at this; revert this; cases bit v i <;> cases bit m i <;> simp
  · rw [bit_big _ _ (by omega)] at h; cases h
theorem sub_sound {av am bv bm x y : BitVec 64} (ha : ∀ j, (bit av j && bit am j) = false) (hb : ∀ j, (bit bv j && bit bm j) = false)
    (hx : ∀ j, j < 64 → (bit x j && !bit am j) = bit av j) (hy : ∀ j, j < 64 → (bit y j && !bit bm j) = bit bv j) (M : BitVec 64)
    (hM : M = bor (bor (bxor (badd (bsub av bv) am) (bsub (bsub av bv) bm)) am) bm) : ∀ j, j < 64 → (bit (bsub x y) j && !bit M j) = bit (bandn (bsub av bv) M) j := by
  intro j hj
  rw [bit_andn _ _ _ hj, hM, subM_bit ha hb j hj, bit_sub _ _ _ hj, bit_sub _ _ _ hj]
  have m1 := bw_mono (bor av am) bv x y (hi_of hx) (lo_of hy) j
  have m2 := bw_mono x y av (bor bv bm) (lo_of hx) (hi_of hy) j
  have m3 := bw_mono (bor av am) bv av bv (fun i h => by rw [bit_or, h]; rfl) (fun i h => h) j
  have m4 := bw_mono av bv av (bor bv bm) (fun i h => h) (fun i h => by rw [bit_or, h]; rfl) j
  have h1 := hx j hj; have h2 := hy j hj
  revert m1 m2 m3 m4 h1 h2
  cases bit x j <;> cases bit y j <;> cases bit av j <;> cases bit am j <;> cases bit bv j <;> cases bit bm j <;> cases bw (bor av am) bv j <;> cases bw x y j <;> cases bw av bv j <;> cases bw av (bor bv bm) j <;> simp

end Go.Proofs.Ytkigmocchaikgaa

/- That twoBits' answers are package bits' own: add, sub, and, or, xor; plain facts. -/
namespace Go.Proofs.Ytkigmocchaikgaa

/- the eight ways of one bit, decided -/
theorem inn_add : ∀ a m b n cm cM : Bool, (a && m) = false → (b && n) = false → (cm = true → cM = true) →
    (inn 2 (!a) (a || m) (!b) (b || n) (!cm) cM 8).2 = (!((a && b) || (cm && (a || b))), ((a || m) && (b || n)) || (cM && ((a || m) || (b || n))))
    ∧ ((inn 2 (!a) (a || m) (!b) (b || n) (!cm) cM 8).1.2 && (inn 2 (!a) (a || m) (!b) (b || n) (!cm) cM 8).1.1) = (m || n || (!cm && cM))
    ∧ ((inn 2 (!a) (a || m) (!b) (b || n) (!cm) cM 8).1.2 && !(inn 2 (!a) (a || m) (!b) (b || n) (!cm) cM 8).1.1) = (((a ^^ b) ^^ cm) && !(m || n || (!cm && cM))) := by
  decide
theorem inn_sub : ∀ a m b n cm cM : Bool, (a && m) = false → (b && n) = false → (cm = true → cM = true) →
    (inn 3 (!a) (a || m) (!b) (b || n) (!cm) cM 8).2 = (!((!(a || m) && b) || (cm && (!(a || m) || b))), (!a && (b || n)) || (cM && (!a || (b || n))))
    ∧ ((inn 3 (!a) (a || m) (!b) (b || n) (!cm) cM 8).1.2 && (inn 3 (!a) (a || m) (!b) (b || n) (!cm) cM 8).1.1) = (m || n || (!cm && cM))
    ∧ ((inn 3 (!a) (a || m) (!b) (b || n) (!cm) cM 8).1.2 && !(inn 3 (!a) (a || m) (!b) (b || n) (!cm) cM 8).1.1) = (((a ^^ b) ^^ cm) && !(m || n || (!cm && cM))) := by
  decide
theorem inn_and : ∀ a m b n : Bool, (a && m) = false → (b && n) = false →
    (inn 5 (!a) (a || m) (!b) (b || n) true false 8).2 = (true, false)
    ∧ ((inn 5 (!a) (a || m) (!b) (b || n) true false 8).1.2 && (inn 5 (!a) (a || m) (!b) (b || n) true false 8).1.1) = (((a || m) && (b || n)) && !(a && b))
    ∧ ((inn 5 (!a) (a || m) (!b) (b || n) true false 8).1.2 && !(inn 5 (!a) (a || m) (!b) (b || n) true false 8).1.1) = (a && b) := by
  decide
theorem inn_or : ∀ a m b n : Bool, (a && m) = false → (b && n) = false →
    (inn 6 (!a) (a || m) (!b) (b || n) true false 8).2 = (true, false)
    ∧ ((inn 6 (!a) (a || m) (!b) (b || n) true false 8).1.2 && (inn 6 (!a) (a || m) (!b) (b || n) true false 8).1.1) = ((m || n) && !(a || b))
    ∧ ((inn 6 (!a) (a || m) (!b) (b || n) true false 8).1.2 && !(inn 6 (!a) (a || m) (!b) (b || n) true false 8).1.1) = (a || b) := by
  decide
theorem inn_xor : ∀ a m b n : Bool, (a && m) = false → (b && n) = false →
    (inn 7 (!a) (a || m) (!b) (b || n) true false 8).2 = (true, false)
    ∧ ((inn 7 (!a) (a || m) (!b) (b || n) true false 8).1.2 && (inn 7 (!a) (a || m) (!b) (b || n) true false 8).1.1) = (m || n)
    ∧ ((inn 7 (!a) (a || m) (!b) (b || n) true false 8).1.2 && !(inn 7 (!a) (a || m) (!b) (b || n) true false 8).1.1) = ((a ^^ b) && !(m || n)) := by
  decide


theorem cy_le (av am bv bm : BitVec 64) (i : Nat) : cy av bv i = true → cy (bor av am) (bor bv bm) i = true :=
  cy_mono av bv (bor av am) (bor bv bm) (fun i h => by rw [bit_or, h]; rfl) (fun i h => by rw [bit_or, h]; rfl) i
theorem bw_le (av am bv bm : BitVec 64) (i : Nat) : bw (bor av am) bv i = true → bw av (bor bv bm) i = true :=
  bw_mono (bor av am) bv av (bor bv bm) (fun i h => by rw [bit_or, h]; rfl) (fun i h => by rw [bit_or, h]; rfl) i

theorem twoC_add {av am bv bm : BitVec 64} (ha : ∀ j, (bit av j && bit am j) = false) (hb : ∀ j, (bit bv j && bit bm j) = false) (i : Nat) : twoC 2 av am bv bm i = (!cy av bv i, cy (bor av am) (bor bv bm) i) := by
  induction i with
  | zero => rw [cy_zero, cy_zero]; rfl
  | succ i ih =>
    simp only [twoC]
    rw [ih, cy_succ, cy_succ, bit_or, bit_or]
    exact (inn_add (bit av i) (bit am i) (bit bv i) (bit bm i) (cy av bv i) (cy (bor av am) (bor bv bm) i) (ha i) (hb i) (cy_le av am bv bm i)).1
theorem two_add {av am bv bm : BitVec 64} (ha : ∀ j, (bit av j && bit am j) = false) (hb : ∀ j, (bit bv j && bit bm j) = false) : twoV 2 av am bv bm 64 = bandn (badd av bv) (addM av am bv bm) ∧ twoM 2 av am bv bm 64 = addM av am bv bm := by
  have key := fun j => inn_add (bit av j) (bit am j) (bit bv j) (bit bm j) (cy av bv j) (cy (bor av am) (bor bv bm) j) (ha j) (hb j) (cy_le av am bv bm j)
  constructor
  · apply acc_eq; intro j hj
    simp only [twoR]
    rw [twoC_add ha hb j, bit_andn _ _ _ hj, bit_add _ _ _ hj]
    unfold addM
    rw [addM_bit ha hb j hj]
    exact (key j).2.2
  · apply acc_eq; intro j hj
    simp only [twoR]
    rw [twoC_add ha hb j]
    unfold addM
    rw [addM_bit ha hb j hj]
    exact (key j).2.1
theorem twoC_sub {av am bv bm : BitVec 64} (ha : ∀ j, (bit av j && bit am j) = false) (hb : ∀ j, (bit bv j && bit bm j) = false) (i : Nat) (hi : i ≤ 64) : twoC 3 av am bv bm i = (!bw (bor av am) bv i, bw av (bor bv bm) i) := by
  induction i with
  | zero => rw [bw_zero, bw_zero]; rfl
  | succ i ih =>
    simp only [twoC]
    rw [ih (by omega), bw_succ _ _ _ (by omega), bw_succ _ _ _ (by omega), bit_or, bit_or]
    exact (inn_sub (bit av i) (bit am i) (bit bv i) (bit bm i) (bw (bor av am) bv i) (bw av (bor bv bm) i) (ha i) (hb i) (bw_le av am bv bm i)).1
theorem two_sub {av am bv bm : BitVec 64} (ha : ∀ j, (bit av j && bit am j) = false) (hb : ∀ j, (bit bv j && bit bm j) = false) : twoV 3 av am bv bm 64 = bandn (bsub av bv) (subM av am bv bm) ∧ twoM 3 av am bv bm 64 = subM av am bv bm := by
  have key := fun j => inn_sub (bit av j) (bit am j) (bit bv j) (bit bm j) (bw (bor av am) bv j) (bw av (bor bv bm) j) (ha j) (hb j) (bw_le av am bv bm j)
  constructor
  · apply acc_eq; intro j hj
    simp only [twoR]
    rw [twoC_sub ha hb j (by omega), bit_andn _ _ _ hj, bit_sub _ _ _ hj]
    unfold subM
    rw [subM_bit ha hb j hj]
    have h1 := (key j).2.2
    have m3 := bw_mono (bor av am) bv av bv (fun i h => by rw [bit_or, h]; rfl) (fun i h => h) j
    have m4 := bw_mono av bv av (bor bv bm) (fun i h => h) (fun i h => by rw [bit_or, h]; rfl) j
    refine h1.trans ?_
    revert m3 m4
    cases bit av j <;> cases bit am j <;> cases bit bv j <;> cases bit bm j <;> cases bw (bor av am) bv j <;> cases bw av bv j <;> cases bw av (bor bv bm) j <;> simp
  · apply acc_eq; intro j hj
    simp only [twoR]
    rw [twoC_sub ha hb j (by omega)]
    unfold subM
    rw [subM_bit ha hb j hj]
    exact (key j).2.1
theorem twoC_and {av am bv bm : BitVec 64} (ha : ∀ j, (bit av j && bit am j) = false) (hb : ∀ j, (bit bv j && bit bm j) = false) (i : Nat) : twoC 5 av am bv bm i = (true, false) := by
  induction i with
  | zero => rfl
  | succ i ih => simp only [twoC]; rw [ih]; exact (inn_and (bit av i) (bit am i) (bit bv i) (bit bm i) (ha i) (hb i)).1
theorem two_and {av am bv bm : BitVec 64} (ha : ∀ j, (bit av j && bit am j) = false) (hb : ∀ j, (bit bv j && bit bm j) = false) : twoV 5 av am bv bm 64 = band av bv ∧ twoM 5 av am bv bm 64 = bandn (band (bor av am) (bor bv bm)) (band av bv) := by
  have key := fun j => inn_and (bit av j) (bit am j) (bit bv j) (bit bm j) (ha j) (hb j)
  constructor
  · apply acc_eq; intro j hj
    simp only [twoR]
    rw [twoC_and ha hb j, bit_and']
    exact (key j).2.2
  · apply acc_eq; intro j hj
    simp only [twoR]
    rw [twoC_and ha hb j, bit_andn _ _ _ hj, bit_and', bit_and', bit_or, bit_or]
    exact (key j).2.1
theorem twoC_or {av am bv bm : BitVec 64} (ha : ∀ j, (bit av j && bit am j) = false) (hb : ∀ j, (bit bv j && bit bm j) = false) (i : Nat) : twoC 6 av am bv bm i = (true, false) := by
  induction i with
  | zero => rfl
  | succ i ih => simp only [twoC]; rw [ih]; exact (inn_or (bit av i) (bit am i) (bit bv i) (bit bm i) (ha i) (hb i)).1
theorem two_or {av am bv bm : BitVec 64} (ha : ∀ j, (bit av j && bit am j) = false) (hb : ∀ j, (bit bv j && bit bm j) = false) : twoV 6 av am bv bm 64 = bor av bv ∧ twoM 6 av am bv bm 64 = bandn (bor am bm) (bor av bv) := by
  have key := fun j => inn_or (bit av j) (bit am j) (bit bv j) (bit bm j) (ha j) (hb j)
  constructor
  · apply acc_eq; intro j hj
    simp only [twoR]
    rw [twoC_or ha hb j, bit_or]
    exact (key j).2.2
  · apply acc_eq; intro j hj
    simp only [twoR]
    rw [twoC_or ha hb j, bit_andn _ _ _ hj, bit_or, bit_or]
    exact (key j).2.1
theorem twoC_xor {av am bv bm : BitVec 64} (ha : ∀ j, (bit av j && bit am j) = false) (hb : ∀ j, (bit bv j && bit bm j) = false) (i : Nat) : twoC 7 av am bv bm i = (true, false) := by
  induction i with
  | zero => rfl
  | succ i ih => simp only [twoC]; rw [ih]; exact (inn_xor (bit av i) (bit am i) (bit bv i) (bit bm i) (ha i) (hb i)).1
theorem two_xor {av am bv bm : BitVec 64} (ha : ∀ j, (bit av j && bit am j) = false) (hb : ∀ j, (bit bv j && bit bm j) = false) : twoV 7 av am bv bm 64 = bandn (bxor av bv) (bor am bm) ∧ twoM 7 av am bv bm 64 = bor am bm := by
  have key := fun j => inn_xor (bit av j) (bit am j) (bit bv j) (bit bm j) (ha j) (hb j)
  constructor
  · apply acc_eq; intro j hj
    simp only [twoR]
    rw [twoC_xor ha hb j, bit_andn _ _ _ hj, bit_xor, bit_or]
    exact (key j).2.2
  · apply acc_eq; intro j hj
    simp only [twoR]
    rw [twoC_xor ha hb j, bit_or]
    exact (key j).2.1
end Go.Proofs.Ytkigmocchaikgaa

/- The contract of the reference's TwoBits. -/
namespace Go.Proofs.Ytkigmocchaikgaa
open Go.RowKit
attribute [local go_sem] w_and w_or w_xor w_andNot w_and1 w_and63 w_add w_sub w_mul w_sub1 w_add1 w_shl w_shl1 w_shr c_beq c_bne c_beq0 c_bne0 c_beq1 c_bne1 wrap_nv

/- what comes of sums is right again -/
theorem addP_right {a b : BitVec 64 × BitVec 64} : eqb (band (addP a b).1 (addP a b).2) zero = true := by
  rw [right_iff]; intro j
  by_cases hj : j < 64
  · simp only [addP]; rw [bit_andn _ _ _ hj]; cases bit (badd a.1 b.1) j <;> cases bit (addM a.1 a.2 b.1 b.2) j <;> rfl
  · rw [bit_big _ _ (by omega)]; rfl
theorem mulS_right (av am bv bm : BitVec 64) (k : Nat) : eqb (band (mulS av am bv bm k).1 (mulS av am bv bm k).2) zero = true := by
  induction k with
  | zero => exact (by decide : eqb (band zero zero) zero = true)
  | succ k ih =>
    simp only [mulS]
    by_cases h1 : bit av k = true
    · rw [if_pos h1]; exact addP_right
    · rw [if_neg h1]
      by_cases h2 : bit am k = true
      · rw [if_pos h2]; exact addP_right
      · rw [if_neg h2]; exact ih
theorem shl_right {v m : BitVec 64} (h : eqb (band v m) zero = true) (k : Nat) : eqb (band (bshl v k) (bshl m k)) zero = true := by
  rw [right_iff] at h ⊢
  intro j
  by_cases hj : j < 64
  · rw [bit_shl _ _ _ hj, bit_shl _ _ _ hj]
    have := h (j - k)
    revert this
    cases decide (k ≤ j) <;> cases bit v (j - k) <;> cases bit m (j - k) <;> simp
  · rw [bit_big _ _ (by omega)]; rfl
theorem zero_right (m : BitVec 64) : eqb (band zero m) zero = true := by
  rw [right_iff]; intro j; rw [bit_zero]; rfl
/- a sum, by twoBits -/
theorem twoBits_add {av am bv bm : BitVec 64} (ha : eqb (band av am) zero = true) (hb : eqb (band bv bm) zero = true) (w : World) :
    Calls Try.prog 81 #[N 2, Bt av am, Bt bv bm] w fun e w' => e = .returned (Bt (addP (av, am) (bv, bm)).1 (addP (av, am) (bv, bm)).2) ∧ Below w.heap.size w w' := by
  have h := twoBits_any 2 av am bv bm w
  rw [(two_add ((right_iff _ _).1 ha) ((right_iff _ _).1 hb)).1, (two_add ((right_iff _ _).1 ha) ((right_iff _ _).1 hb)).2] at h
  exact h
theorem twoBits_is {op : Int} {av am bv bm : BitVec 64} (hop : op = 2 ∨ op = 3 ∨ op = 5 ∨ op = 6 ∨ op = 7) (ha : eqb (band av am) zero = true) (hb : eqb (band bv bm) zero = true) (w : World) :
    Calls Try.prog 81 #[N op, Bt av am, Bt bv bm] w fun e w' => e = .returned (Bt (twoP op av am bv bm).1 (twoP op av am bv bm).2) ∧ Below w.heap.size w w' := by
  have h := twoBits_any op av am bv bm w
  have ra := (right_iff _ _).1 ha
  have rb := (right_iff _ _).1 hb
  rcases hop with rfl | rfl | rfl | rfl | rfl
  · rw [(two_add ra rb).1, (two_add ra rb).2] at h; exact h
  · rw [(two_sub ra rb).1, (two_sub ra rb).2] at h; exact h
  · rw [(two_and ra rb).1, (two_and ra rb).2] at h; exact h
  · rw [(two_or ra rb).1, (two_or ra rb).2] at h; exact h
  · rw [(two_xor ra rb).1, (two_xor ra rb).2] at h; exact h
theorem shiftUp_is {v m : BitVec 64} (h : eqb (band v m) zero = true) {n : Nat} (hn : n < 64) (w : World) :
    Calls Try.prog 20 #[N 8, Bt v m, N n] w fun e w' => e = .returned (Bt (bshl v n) (bshl m n)) ∧ Below w.heap.size w w' := by
  have hh := shiftBits_any true 8 rfl v m n hn w
  rw [(sh_up_eq h n).1, (sh_up_eq h n).2] at hh
  exact hh

set_option maxRecDepth 100000 in
set_option maxHeartbeats 2000000 in
theorem TwoBits_plain {op : Int} {av am bv bm : BitVec 64} (hop : Hid (op = 2 ∨ op = 3 ∨ op = 5 ∨ op = 6 ∨ op = 7)) (ha : Hid (eqb (band av am) zero = true)) (hb : Hid (eqb (band bv bm) zero = true)) (w : World) :
    Calls Try.prog 29 #[N op, Bt av am, Bt bv bm] w fun e w' => e = .returned (Bt (twoP op av am bv bm).1 (twoP op av am bv bm).2) ∧ Below w.heap.size w w' := by
  have h4 : (op != 4) = true := by rcases hop.out with rfl | rfl | rfl | rfl | rfl <;> decide
  go_enter Try.func29, Try.ntmps29
  go_wp2_with fail
  refine (twoBits_is hop.out ha.out hb.out _).mono ?_
  rintro e w1 ⟨rfl, hb1⟩
  obtain ⟨hc1, hf1, hs1⟩ := bk (w.heap.size + 1 + 1 + 1) hb1 (by simp)
  go_wp2_with fail
  exact bodyPost_ret (v := Bt (twoP op av am bv bm).1 (twoP op av am bv bm).2) (by simp [results, Try.results29, go_sem, hc1]) rfl ⟨rfl, (by repeat (first | exact Below.refl _ _ | assumption | refine below_drewN ?_ _ | refine Below.drew ?_ | refine Below.alloc ?_ (by first | exact Nat.le_refl _ | (simp; done) | (simp; omega) | omega) _ | refine Below.setCell ?_ (by first | exact Nat.le_refl _ | (simp; done) | (simp; omega) | omega) _ | refine Below.trans ?_ (Below.mono (by assumption) (by first | exact Nat.le_refl _ | (simp; done) | (simp; omega) | omega))))⟩

set_option maxRecDepth 100000 in
set_option maxHeartbeats 2000000 in
theorem TwoBits_mul {av am bv bm : BitVec 64} (hb : Hid (eqb (band bv bm) zero = true)) (w : World) :
    Calls Try.prog 29 #[N 4, Bt av am, Bt bv bm] w fun e w' => e = .returned (Bt (mulS av am bv bm 64).1 (mulS av am bv bm 64).2) ∧ Below w.heap.size w w' := by
  go_enter Try.func29, Try.ntmps29
  go_wp2_with fail
  go_loopw [8] (fun i wr => ∃ k : Nat, k ≤ 64 ∧ i = N k
      ∧ Below (w.heap.size + 1 + 1 + 1) (((w.alloc (.cells #[U av, U am] 24)).alloc (.cells #[U bv, U bm] 24)).alloc (.cells #[.int .u64 0, .int .u64 0] 24)) wr
      ∧ wr.cell? ⟨w.heap.size + 1 + 1 + 1, 0, none⟩ = some (U (mulS av am bv bm k).1) ∧ wr.cell? ⟨w.heap.size + 1 + 1 + 1, 1, none⟩ = some (U (mulS av am bv bm k).2)
      ∧ (∀ o, wr.frozen? ⟨w.heap.size + 1 + 1 + 1, o, none⟩ = false)
      ∧ w.heap.size + 1 + 1 + 1 + 1 ≤ wr.heap.size) (fun i _ => 64 - (intOf i).toNat)
  case atStart =>
    exact ⟨0, by omega, rfl, (by repeat (first | exact Below.refl _ _ | assumption | refine below_drewN ?_ _ | refine Below.drew ?_ | refine Below.alloc ?_ (by first | exact Nat.le_refl _ | (simp; done) | (simp; omega) | omega) _ | refine Below.setCell ?_ (by first | exact Nat.le_refl _ | (simp; done) | (simp; omega) | omega) _ | refine Below.trans ?_ (Below.mono (by assumption) (by first | exact Nat.le_refl _ | (simp; done) | (simp; omega) | omega)))), by simp [mulS, nv_zero, go_sem], by simp [mulS, nv_zero, go_sem], by simp [go_sem], by simp⟩
  case round =>
    obtain ⟨k, hk, rfl, hbel, ho0, ho1, hfo, hsz⟩ := hrel
    obtain ⟨hc, hf⟩ := bl hbel
    by_cases hlt : k < 64
    · obtain ⟨z, o, H1, H2⟩ := may_eq av am k
      have Hr : Hid (eqb (band (mulS av am bv bm k).1 (mulS av am bv bm k).2) zero = true) := mulS_right av am bv bm k
      have Hs : Hid (mulS av am bv bm (k + 1) = if bit av k then addP (mulS av am bv bm k) (bshl bv k, bshl bm k)
        else if bit am k then addP (mulS av am bv bm k) (zero, bor (bshl bv k) (bshl bm k)) else mulS av am bv bm k) := rfl
      generalize mulS av am bv bm k = S at ho0 ho1 Hs Hr
      obtain ⟨sv, sm⟩ := S
      simp only at ho0 ho1
      have Hu : Hid (eqb (band (bshl bv k) (bshl bm k)) zero = true) := shl_right hb.out k
      go_wp2_with fail
      refine (may_any hlt H1 H2 _).mono ?_
      rintro e w1 ⟨rfl, hb1⟩
      obtain ⟨hc1, hf1, hs1⟩ := bk _ hb1 hsz
      go_wp2_with fail
      refine (shiftUp_is hb.out hlt _).mono ?_
      rintro e w2 ⟨rfl, hb2⟩
      obtain ⟨hc2, hf2, hs2⟩ := bk _ hb2 hs1
      have hlt1 : w.heap.size + 1 + 1 + 1 < w2.heap.size := by omega
      have hlt2 : w.heap.size + 1 + 1 < w2.heap.size := by omega
      have hlt3 : w.heap.size + 1 < w2.heap.size := by omega
      have hlt4 : w.heap.size < w2.heap.size := by omega
      have hb12 : Below wr.heap.size wr w2 := hb1.trans (hb2.mono hb1.size)
      have Hz := H1.out
      have Ho := H2.out
      unfold mz at Hz
      unfold mo at Ho
      cases hA : bit av k <;> cases hM : bit am k
      all_goals
        rw [hA] at Hz
        rw [hA, hM] at Ho
        rw [hA, hM] at Hs
        simp only [Bool.not_true, Bool.not_false, Bool.or_false, Bool.or_true] at Hz Ho
        subst Hz
        subst Ho
        clear H1 H2 hA hM
      · go_wp2_with fail
        exact ⟨⟨k + 1, by omega, by go_num, keep_rel hbel (hb12.trans (((Below.refl _ _).alloc (Nat.le_refl _) _).mono hb12.size)) hsz ho0 ho1 hfo (by rw [Hs.out]; rfl) (by rw [Hs.out]; rfl)⟩, by simp [intOf]; omega⟩
      · go_wp2_with fail
        refine (twoBits_add (bv := zero) Hr.out (zero_right _) _).mono ?_
        rintro e w3 ⟨rfl, hb3⟩
        obtain ⟨hc3, hf3, hs3⟩ := bk (w.heap.size + 1 + 1 + 1 + 1) hb3 (by simp; omega)
        go_wp2_with fail
        exact ⟨⟨k + 1, by omega, by go_num, out_rel hbel (hb12.trans ((((Below.refl _ _).alloc (Nat.le_refl _) _).trans (hb3.mono (by simp))).mono hb12.size)) hsz ho0 ho1 hfo (by rw [Hs.out]; rfl) (by rw [Hs.out]; rfl)⟩, by simp [intOf]; omega⟩
      all_goals
        go_wp2_with fail
        refine (twoBits_add Hr.out Hu.out _).mono ?_
        rintro e w3 ⟨rfl, hb3⟩
        obtain ⟨hc3, hf3, hs3⟩ := bk (w.heap.size + 1 + 1 + 1 + 1) hb3 (by simp; omega)
        go_wp2_with fail
        exact ⟨⟨k + 1, by omega, by go_num, out_rel hbel (hb12.trans ((((Below.refl _ _).alloc (Nat.le_refl _) _).trans (hb3.mono (by simp))).mono hb12.size)) hsz ho0 ho1 hfo (by rw [Hs.out]; rfl) (by rw [Hs.out]; rfl)⟩, by simp [intOf]; omega⟩
    · have hk64 : k = 64 := by omega
      subst hk64
      go_wp2_with fail
      exact bodyPost_ret (v := Bt (mulS av am bv bm 64).1 (mulS av am bv bm 64).2) (by simp [results, Try.results29, go_sem, hc]) rfl ⟨rfl, (by repeat (first | exact Below.refl _ _ | assumption | refine below_drewN ?_ _ | refine Below.drew ?_ | refine Below.alloc ?_ (by first | exact Nat.le_refl _ | (simp; done) | (simp; omega) | omega) _ | refine Below.setCell ?_ (by first | exact Nat.le_refl _ | (simp; done) | (simp; omega) | omega) _ | refine Below.trans ?_ (Below.mono (by assumption) (by first | exact Nat.le_refl _ | (simp; done) | (simp; omega) | omega))))⟩

end Go.Proofs.Ytkigmocchaikgaa

/- BitsTwo, walked. -/
namespace Go.Proofs.Ytkigmocchaikgaa
open Go.RowKit
attribute [local go_sem] w_and w_or w_xor w_andNot w_and1 w_and63 w_add w_sub w_mul w_sub1 w_add1 w_shl w_shl1 w_shr c_beq c_bne c_beq0 c_bne0 c_beq1 c_bne1 wrap_nv
attribute [local go_sem] eqb_self

theorem all_two (op : Int) (av am bv bm : BitVec 64) (r : Bool) (hr : (eqb (band av am) zero && eqb (band bv bm) zero) = r) : ∃ v m c,
    Hid (∀ w, Calls Try.prog 28 #[N op, Bt av am, Bt bv bm] w fun e w' => e = .returned (.tuple #[Bt v m, N c]) ∧ Below w.heap.size w w')
    ∧ ((r = false ∧ c = 1 ∧ v = zero ∧ m = zero) ∨ (r = true ∧ (op < 2 ∨ 7 < op) ∧ c = 4 ∧ v = zero ∧ m = zero)
      ∨ (r = true ∧ (2 ≤ op ∧ op ≤ 7) ∧ c = 0 ∧ Hid (∀ w, Calls Try.prog 29 #[N op, Bt av am, Bt bv bm] w fun e w' => e = .returned (Bt v m) ∧ Below w.heap.size w w'))) := by
  cases r
  · exact ⟨zero, zero, 1, hid (fun w => two_wrong hr w), Or.inl ⟨rfl, rfl, rfl, rfl⟩⟩
  · by_cases hop : 2 ≤ op ∧ op ≤ 7
    · have hr2 := hr
      rw [Bool.and_eq_true] at hr2
      refine ⟨(twoP op av am bv bm).1, (twoP op av am bv bm).2, 0, hid (fun w => two_ok hr hop w), Or.inr (Or.inr ⟨rfl, hop, rfl, hid (fun w => ?_)⟩)⟩
      by_cases h4 : op = 4
      · subst h4; exact TwoBits_mul (av := av) (am := am) hr2.2 w
      · exact TwoBits_plain (hid (by omega)) hr2.1 hr2.2 w
    · have hop' : op < 2 ∨ 7 < op := by omega
      exact ⟨zero, zero, 4, hid (fun w => two_kind hr hop' w), Or.inr (Or.inl ⟨rfl, hop', rfl, rfl, rfl⟩)⟩

set_option maxRecDepth 100000 in
set_option maxHeartbeats 4000000 in
theorem bitsTwo_any (op : Int) (av am bv bm : BitVec 64) (w : World) :
    Calls Try.prog 4 #[N op, Bt av am, Bt bv bm] w fun e w' => e = .returned (.bool true) ∧ Below w.heap.size w w' := by
  obtain ⟨ra, hra⟩ : ∃ r, Hid (eqb (band av am) zero = r) := ⟨_, rfl⟩
  obtain ⟨rb, hrb⟩ : ∃ r, Hid (eqb (band bv bm) zero = r) := ⟨_, rfl⟩
  obtain ⟨r, hr⟩ : ∃ r, Hid (r = (ra && rb)) := ⟨_, rfl⟩
  have hab : (eqb (band av am) zero && eqb (band bv bm) zero) = r := by rw [hra.out, hrb.out, hr.out]
  obtain ⟨v, m, c, T1, T2⟩ := all_two op av am bv bm r hab
  have T2' : Hid _ := T2
  clear hab T2
  go_enter Try.func4, Try.ntmps4
  go_wp2_with fail
  refine (T1.out _).mono ?_
  rintro e w1 ⟨rfl, hb1⟩
  have hB1 := (((Kp.start w).add2 _ _ _).add2 _ _ _).keep hb1
  simp only [World.size_alloc] at hB1
  have hB2 := (hB1.add2 (U v) (U m) 24).add2 (.int .u64 0) (.int .u64 0) 24
  simp only [World.size_alloc] at hB2
  obtain ⟨b0, b1, b2, b3, b4⟩ := hB1.box.head.two
  obtain ⟨a0, a1, a2, a3, a4⟩ := hB1.box.tail.head.two
  go_upto_block 0 with fail
  clear hb1
  clear b0 b1 b2 b3 b4 a0 a1 a2 a3 a4
  go_cut [9] (fun t wd => t = N c ∧ Kp w wd [(w1.heap.size + 1, [U v, U m]), (w1.heap.size, [U v, U m]), (w.heap.size + 1, [U bv, U bm]), (w.heap.size, [U av, U am])])
  case first =>
    obtain ⟨x0, x1, x2, x3, x4⟩ := hB2.box.head.two
    obtain ⟨y0, y1, y2, y3, y4⟩ := hB2.box.tail.head.two
    obtain ⟨b0, b1, b2, b3, b4⟩ := hB2.box.tail.tail.head.two
    obtain ⟨a0, a1, a2, a3, a4⟩ := hB2.box.tail.tail.tail.head.two
    go_wp2_with fail
    refine (right_is hra.out _).mono ?_
    rintro e w2 ⟨rfl, hb2⟩
    have hB3 := hB2.keep hb2
    clear x0 x1 x2 x3 x4 y0 y1 y2 y3 y4 b0 b1 b2 b3 b4 a0 a1 a2 a3 a4
    obtain ⟨x0, x1, x2, x3, x4⟩ := hB3.box.head.two
    obtain ⟨y0, y1, y2, y3, y4⟩ := hB3.box.tail.head.two
    obtain ⟨b0, b1, b2, b3, b4⟩ := hB3.box.tail.tail.head.two
    obtain ⟨a0, a1, a2, a3, a4⟩ := hB3.box.tail.tail.tail.head.two
    cases ra
    · have er0 : r = false := hr.out
      rcases T2'.out with ⟨_, rfl, rfl, rfl⟩ | ⟨h1, _⟩ | ⟨h1, _⟩
      · clear er0
        go_wp2_with fail
        go_meet
        case rel => exact ⟨rfl, hB3⟩
      · rw [er0] at h1; cases h1
      · rw [er0] at h1; cases h1
    · go_wp2_with fail
      refine (right_is hrb.out _).mono ?_
      rintro e w3 ⟨rfl, hb3⟩
      have hB4 := hB3.keep hb3
      clear x0 x1 x2 x3 x4 y0 y1 y2 y3 y4 b0 b1 b2 b3 b4 a0 a1 a2 a3 a4
      obtain ⟨x0, x1, x2, x3, x4⟩ := hB4.box.head.two
      obtain ⟨y0, y1, y2, y3, y4⟩ := hB4.box.tail.head.two
      obtain ⟨b0, b1, b2, b3, b4⟩ := hB4.box.tail.tail.head.two
      obtain ⟨a0, a1, a2, a3, a4⟩ := hB4.box.tail.tail.tail.head.two
      have er0 : r = rb := by rw [hr.out]; rfl
      rcases T2'.out with ⟨h1, rfl, rfl, rfl⟩ | ⟨h1, hop, rfl, rfl, rfl⟩ | ⟨h1, hop, rfl, T3⟩
      all_goals
        rw [er0] at h1
        subst h1
        clear er0 hr T2' T1
      · go_wp2_with fail
        go_meet
        case rel => exact ⟨rfl, hB4⟩
      · rcases hop with hop | hop
        all_goals
          go_wp2_with fail
          go_meet
          case rel => exact ⟨rfl, hB4⟩
      · go_wp2_with fail
        refine (T3.out _).mono ?_
        rintro e w4 ⟨rfl, hb4⟩
        have hB5 := hB4.keep hb4
        clear x0 x1 x2 x3 x4 y0 y1 y2 y3 y4 b0 b1 b2 b3 b4 a0 a1 a2 a3 a4
        obtain ⟨x0, x1, x2, x3, x4⟩ := hB5.box.head.two
        obtain ⟨y0, y1, y2, y3, y4⟩ := hB5.box.tail.head.two
        obtain ⟨b0, b1, b2, b3, b4⟩ := hB5.box.tail.tail.head.two
        obtain ⟨a0, a1, a2, a3, a4⟩ := hB5.box.tail.tail.tail.head.two
        go_wp2_with fail
        go_meet
        case rel => exact ⟨rfl, hB5.set2 (x := U v) (y := U m) 0 rfl⟩
  case rest =>
    clear hB1 hB2 T2' T1 hr hra hrb
    obtain ⟨rfl, hK⟩ := hcut
    obtain ⟨x0, x1, x2, x3, x4⟩ := hK.box.head.two
    obtain ⟨y0, y1, y2, y3, y4⟩ := hK.box.tail.head.two
    obtain ⟨b0, b1, b2, b3, b4⟩ := hK.box.tail.tail.head.two
    obtain ⟨a0, a1, a2, a3, a4⟩ := hK.box.tail.tail.tail.head.two
    go_wp2_with fail
    refine (bitsBegun_any _).mono ?_
    rintro e w5 ⟨rfl, hb5⟩
    have hK5 := hK.keep hb5
    clear x0 x1 x2 x3 x4 y0 y1 y2 y3 y4 b0 b1 b2 b3 b4 a0 a1 a2 a3 a4
    obtain ⟨x0, x1, x2, x3, x4⟩ := hK5.box.head.two
    obtain ⟨y0, y1, y2, y3, y4⟩ := hK5.box.tail.head.two
    obtain ⟨b0, b1, b2, b3, b4⟩ := hK5.box.tail.tail.head.two
    obtain ⟨a0, a1, a2, a3, a4⟩ := hK5.box.tail.tail.tail.head.two
    go_wp2_with fail
    go_ret
    exact ⟨rfl, hK5.bel⟩

end Go.Proofs.Ytkigmocchaikgaa

/- A region that draws its order, walked once, in the order of the text, over a class of worlds: the library's law, for the worlds in which a call's own blocks are kept. -/
namespace Go.Proofs.Ytkigmocchaikgaa
open Go.RowKit

theorem region_class (C : World → Prop) {P : Program} {id : Nat} {Q : Exit → Act → World → Prop} {a : Act} {w : World} {l : List Oper} (hm : P.follows .mixedOrders = true) (hB : Region.lexB .any l.toArray = true)
    (hC : C w.drew) (h : wpQuiet P l.toArray C (fun a' => ∀ w', C w' → Q .normal a' w') l a) : (Code.region id l.toArray true).wp P Q a w :=
  wp_region_quiet (C := C) hm hB hC (by simpa using h)
structure Cl (w0 : World) (L : List (Nat × List Value)) where
  val : World
  kp : Kp w0 val L
theorem Cl.of {P : Program} {f : FuncId} {args : Array Value} {w0 : World} {L : List (Nat × List Value)} {n : Cl w0 L} {v : Value}
    (h : Calls P f args n.val fun e w' => e = .returned v ∧ Below n.val.heap.size n.val w') : Calls P f args n.val fun e w'' => e = .returned v ∧ ∃ m : Cl w0 L, w'' = m.val :=
  h.mono fun _ _ ⟨he, hb⟩ => ⟨he, ⟨⟨_, n.kp.keep hb⟩, rfl⟩⟩
theorem Cl.start {w0 w : World} {L : List (Nat × List Value)} (h : Kp w0 w L) : ∃ n : Cl w0 L, w.drew = n.val := ⟨⟨_, h.keep (Below.drew (Below.refl _ _))⟩, rfl⟩
theorem Cl.some {w0 w : World} {L : List (Nat × List Value)} (h : Kp w0 w L) : Nonempty (Cl w0 L) := ⟨⟨_, h⟩⟩

end Go.Proofs.Ytkigmocchaikgaa

/- What the one has and the other has, reckoned together, the answer has: plain facts. -/
namespace Go.Proofs.Ytkigmocchaikgaa

/- x is one of the numbers of (v, m), bit by bit -/
def InB (v m x : BitVec 64) : Prop := ∀ j, j < 64 → (bit x j && !bit m j) = bit v j
def RtB (v m : BitVec 64) : Prop := ∀ j, (bit v j && bit m j) = false

theorem addP_sound {a b : BitVec 64 × BitVec 64} {x y : BitVec 64} (ha : RtB a.1 a.2) (hb : RtB b.1 b.2) (hx : InB a.1 a.2 x) (hy : InB b.1 b.2 y) : InB (addP a b).1 (addP a b).2 (badd x y) :=
  add_sound ha hb hx hy _ rfl
theorem addP_rt (a b : BitVec 64 × BitVec 64) : RtB (addP a b).1 (addP a b).2 := by
  intro j
  by_cases hj : j < 64
  · simp only [addP]; rw [bit_andn _ _ _ hj]; cases bit (badd a.1 b.1) j <;> cases bit (addM a.1 a.2 b.1 b.2) j <;> rfl
  · rw [bit_big _ _ (by omega)]; rfl
theorem mulS_rt (av am bv bm : BitVec 64) (k : Nat) : RtB (mulS av am bv bm k).1 (mulS av am bv bm k).2 := by
  induction k with
  | zero => intro j; simp only [mulS]; rw [bit_zero]; rfl
  | succ k ih =>
    simp only [mulS]
    by_cases h1 : bit av k = true
    · rw [if_pos h1]; exact addP_rt _ _
    · rw [if_neg h1]
      by_cases h2 : bit am k = true
      · rw [if_pos h2]; exact addP_rt _ _
      · rw [if_neg h2]; exact ih
/- the product, summed up bit by bit -/
def psum (x y : BitVec 64) : Nat → BitVec 64
  | 0 => zero
  | k + 1 => if bit x k then badd (psum x y k) (bshl y k) else psum x y k
theorem psum_rec (x y : BitVec 64) (k : Nat) : psum x y (k + 1) = BitVec.mulRec y x k := by
  induction k with
  | zero =>
    simp only [psum]
    rw [BitVec.mulRec_zero_eq]
    unfold bit
    cases x.getLsbD 0 <;> simp [badd, bshl, zero]
  | succ k ih =>
    rw [psum, ih, BitVec.mulRec_succ_eq]
    unfold bit badd bshl
    cases x.getLsbD (k + 1) <;> simp
theorem psum_mul (x y : BitVec 64) : psum x y 64 = bmul x y := by
  rw [psum_rec x y 63, BitVec.mulRec_eq_mul_signExtend_setWidth]
  unfold bmul
  simp [BitVec.mul_comm]
theorem shl_in {v m y : BitVec 64} (h : InB v m y) (k : Nat) : InB (bshl v k) (bshl m k) (bshl y k) := by
  intro j hj
  rw [bit_shl _ _ _ hj, bit_shl _ _ _ hj, bit_shl _ _ _ hj]
  by_cases hk : k ≤ j
  · have := h (j - k) (by omega)
    revert this
    cases bit y (j - k) <;> cases bit m (j - k) <;> cases bit v (j - k) <;> simp [hk]
  · simp [hk]
theorem shl_rt {v m : BitVec 64} (h : RtB v m) (k : Nat) : RtB (bshl v k) (bshl m k) := by
  intro j
  by_cases hj : j < 64
  · rw [bit_shl _ _ _ hj, bit_shl _ _ _ hj]
    have := h (j - k)
    revert this
    cases decide (k ≤ j) <;> cases bit v (j - k) <;> cases bit m (j - k) <;> simp
  · rw [bit_big _ _ (by omega)]; rfl
theorem zero_rt (m : BitVec 64) : RtB zero m := by intro j; rw [bit_zero]; rfl
theorem badd_zero (x : BitVec 64) : badd x zero = x := by unfold badd zero; simp
theorem mulS_sound {av am bv bm x y : BitVec 64} (hb : RtB bv bm) (hx : InB av am x) (hy : InB bv bm y) (k : Nat) (hk : k ≤ 64) : InB (mulS av am bv bm k).1 (mulS av am bv bm k).2 (psum x y k) := by
  induction k with
  | zero => intro j hj; simp only [mulS, psum]; rw [bit_zero]; rfl
  | succ k ih =>
    have ih := ih (by omega)
    have h := hx k (by omega)
    simp only [mulS, psum]
    by_cases h1 : bit av k = true
    · have hxk : bit x k = true := by rw [h1] at h; revert h; cases bit x k <;> simp
      rw [if_pos h1, if_pos hxk]
      exact addP_sound (mulS_rt _ _ _ _ _) (shl_rt hb k) ih (shl_in hy k)
    · rw [if_neg h1]
      by_cases h2 : bit am k = true
      · rw [if_pos h2]
        have hp : ∀ z, (∀ j, j < 64 → bit z j = true → bit (bor (bshl bv k) (bshl bm k)) j = true) → InB zero (bor (bshl bv k) (bshl bm k)) z := by
          intro z hz j hj
          have := hz j hj
          rw [bit_zero]
          revert this
          cases bit z j <;> cases bit (bor (bshl bv k) (bshl bm k)) j <;> simp
        by_cases hxk : bit x k = true
        · rw [if_pos hxk]
          exact addP_sound (mulS_rt _ _ _ _ _) (zero_rt _) ih (hp _ (fun j _ h => hi_of (shl_in hy k) j h))
        · rw [if_neg hxk]
          have := addP_sound (b := (zero, bor (bshl bv k) (bshl bm k))) (mulS_rt av am bv bm k) (zero_rt _) ih (hp zero (fun j _ h => by rw [bit_zero] at h; cases h))
          rw [badd_zero] at this
          exact this
      · rw [if_neg h2]
        have hxk : ¬ bit x k = true := by
          intro hx1; rw [hx1] at h
          revert h h1 h2
          cases bit av k <;> cases bit am k <;> simp
        rw [if_neg hxk]
        exact ih

/- x op y, of the six operations -/
def numB (op : Int) (x y : BitVec 64) : BitVec 64 :=
  if op = 2 then badd x y else if op = 3 then bsub x y else if op = 4 then bmul x y else if op = 5 then band x y else if op = 6 then bor x y else bxor x y
theorem two_sound {op : Int} {av am bv bm x y : BitVec 64} (hop : 2 ≤ op ∧ op ≤ 7) (ha : RtB av am) (hb : RtB bv bm) (hx : InB av am x) (hy : InB bv bm y) :
    InB (twoP op av am bv bm).1 (twoP op av am bv bm).2 (numB op x y) := by
  rcases op_cases hop with rfl | rfl | rfl | rfl | rfl | rfl
  · exact add_sound ha hb hx hy _ rfl
  · exact sub_sound ha hb hx hy _ rfl
  · show InB (mulS av am bv bm 64).1 (mulS av am bv bm 64).2 (bmul x y)
    rw [← psum_mul]
    exact mulS_sound hb hx hy 64 (Nat.le_refl _)
  · intro j hj
    show (bit (band x y) j && !bit (bandn (band (bor av am) (bor bv bm)) (band av bv)) j) = bit (band av bv) j
    rw [bit_andn _ _ _ hj, bit_and', bit_and', bit_and', bit_or, bit_or]
    have h1 := hx j hj; have h2 := hy j hj; have h3 := ha j; have h4 := hb j
    revert h1 h2 h3 h4
    cases bit x j <;> cases bit y j <;> cases bit av j <;> cases bit am j <;> cases bit bv j <;> cases bit bm j <;> simp
  · intro j hj
    show (bit (bor x y) j && !bit (bandn (bor am bm) (bor av bv)) j) = bit (bor av bv) j
    rw [bit_andn _ _ _ hj, bit_or, bit_or, bit_or]
    have h1 := hx j hj; have h2 := hy j hj; have h3 := ha j; have h4 := hb j
    revert h1 h2 h3 h4
    cases bit x j <;> cases bit y j <;> cases bit av j <;> cases bit am j <;> cases bit bv j <;> cases bit bm j <;> simp
  · intro j hj
    show (bit (bxor x y) j && !bit (bor am bm) j) = bit (bandn (bxor av bv) (bor am bm)) j
    rw [bit_andn _ _ _ hj, bit_or, bit_xor, bit_xor]
    have h1 := hx j hj; have h2 := hy j hj; have h3 := ha j; have h4 := hb j
    revert h1 h2 h3 h4
    cases bit x j <;> cases bit y j <;> cases bit av j <;> cases bit am j <;> cases bit bv j <;> cases bit bm j <;> simp
theorem two_rt {op : Int} {av am bv bm : BitVec 64} (hop : 2 ≤ op ∧ op ≤ 7) : RtB (twoP op av am bv bm).1 (twoP op av am bv bm).2 := by
  have hn : ∀ p q : BitVec 64, RtB (bandn p q) q := by
    intro p q j
    by_cases hj : j < 64
    · rw [bit_andn _ _ _ hj]; cases bit p j <;> cases bit q j <;> rfl
    · rw [bit_big _ _ (by omega)]; rfl
  have hn' : ∀ p q : BitVec 64, RtB q (bandn p q) := by
    intro p q j
    by_cases hj : j < 64
    · rw [bit_andn _ _ _ hj]; cases bit p j <;> cases bit q j <;> rfl
    · rw [bit_big _ _ (by omega)]; rfl
  rcases op_cases hop with rfl | rfl | rfl | rfl | rfl | rfl
  · exact hn _ _
  · exact hn _ _
  · exact mulS_rt _ _ _ _ _
  · exact hn' _ _
  · exact hn' _ _
  · exact hn _ _

end Go.Proofs.Ytkigmocchaikgaa

/- Has, Two, Join, Meet, Inside and Shift: who has which numbers: plain facts. -/
namespace Go.Proofs.Ytkigmocchaikgaa

theorem rt_iff (v m : BitVec 64) : eqb (band v m) zero = true ↔ RtB v m := right_iff v m
theorem hasB_iff (v m x : BitVec 64) : hasB v m x = true ↔ RtB v m ∧ InB v m x := by
  unfold hasB
  rw [Bool.and_eq_true, rt_iff, has_iff]; rfl

theorem sound_two {op : Int} {av am bv bm x y : BitVec 64} (hop : 2 ≤ op ∧ op ≤ 7) (hx : hasB av am x = true) (hy : hasB bv bm y = true) :
    hasB (twoP op av am bv bm).1 (twoP op av am bv bm).2 (numB op x y) = true := by
  rw [hasB_iff] at hx hy ⊢
  exact ⟨two_rt hop, two_sound hop hx.1 hy.1 hx.2 hy.2⟩
theorem sound_join {av am bv bm x : BitVec 64} (ha : RtB av am) (hb : RtB bv bm) (hx : (hasB av am x || hasB bv bm x) = true) : hasB (bandn av (jM av am bv bm)) (jM av am bv bm) x = true := by
  rw [Bool.or_eq_true, hasB_iff, hasB_iff] at hx
  rw [hasB_iff]
  refine ⟨fun j => ?_, fun j hj => ?_⟩
  · by_cases hj : j < 64
    · rw [bit_andn _ _ _ hj]; cases bit av j <;> cases bit (jM av am bv bm) j <;> rfl
    · rw [bit_big _ _ (by omega)]; rfl
  · rw [bit_andn _ _ _ hj]
    unfold jM
    rw [bit_or, bit_or, bit_xor]
    have h3 := ha j; have h4 := hb j
    rcases hx with ⟨_, h⟩ | ⟨_, h⟩
    all_goals
      have h1 := h j hj
      revert h1 h3 h4
      cases bit x j <;> cases bit av j <;> cases bit am j <;> cases bit bv j <;> cases bit bm j <;> simp
theorem sound_meet {av am bv bm x : BitVec 64} (ha : RtB av am) (hb : RtB bv bm) :
    (hasB av am x && hasB bv bm x) = (eqb (bandn (bxor av bv) (bor am bm)) zero && hasB (bor av bv) (band am bm) x) := by
  rw [Bool.eq_iff_iff, Bool.and_eq_true, Bool.and_eq_true, hasB_iff, hasB_iff, hasB_iff]
  have key : eqb (bandn (bxor av bv) (bor am bm)) zero = true ↔ ∀ j, j < 64 → ((bit av j ^^ bit bv j) && !(bit am j || bit bm j)) = false := by
    unfold eqb
    rw [beq_iff_eq]
    constructor
    · intro h j hj
      rw [← bit_xor, ← bit_or, ← bit_andn _ _ _ hj, h, bit_zero]
    · intro h
      apply BitVec.eq_of_getLsbD_eq
      intro j hj
      have := h j hj
      rw [← bit_xor, ← bit_or, ← bit_andn _ _ _ hj] at this
      unfold bit at this
      rw [this]
      exact (bit_zero j).symm
  rw [key]
  constructor
  · rintro ⟨⟨_, h1⟩, ⟨_, h2⟩⟩
    refine ⟨fun j hj => ?_, fun j => ?_, fun j hj => ?_⟩
    · have a1 := h1 j hj; have a2 := h2 j hj
      revert a1 a2
      cases bit x j <;> cases bit av j <;> cases bit am j <;> cases bit bv j <;> cases bit bm j <;> simp
    · rw [bit_or, bit_and']
      have h3 := ha j; have h4 := hb j
      revert h3 h4
      cases bit av j <;> cases bit am j <;> cases bit bv j <;> cases bit bm j <;> simp
    · rw [bit_or, bit_and']
      have a1 := h1 j hj; have a2 := h2 j hj; have h3 := ha j; have h4 := hb j
      revert a1 a2 h3 h4
      cases bit x j <;> cases bit av j <;> cases bit am j <;> cases bit bv j <;> cases bit bm j <;> simp
  · rintro ⟨h0, _, h1⟩
    refine ⟨⟨ha, fun j hj => ?_⟩, ⟨hb, fun j hj => ?_⟩⟩
    all_goals
      have a0 := h0 j hj; have a1 := h1 j hj; have h3 := ha j; have h4 := hb j
      rw [bit_or, bit_and'] at a1
      revert a0 a1 h3 h4
      cases bit x j <;> cases bit av j <;> cases bit am j <;> cases bit bv j <;> cases bit bm j <;> simp
theorem ins_iff (av am bv bm : BitVec 64) : insB av am bv bm = true ↔ RtB av am ∧ RtB bv bm ∧ ∀ j, j < 64 → (bit am j && !bit bm j) = false ∧ (bit av j && !bit bm j) = bit bv j := by
  unfold insB
  have : eqb (bandn am bm) zero = true ↔ ∀ j, j < 64 → (bit am j && !bit bm j) = false := by
    rw [has_iff]
    constructor
    · intro h j hj; rw [h j hj, bit_zero]
    · intro h j hj; rw [h j hj, bit_zero]
  rw [Bool.and_eq_true, Bool.and_eq_true, Bool.and_eq_true, rt_iff, rt_iff, this, has_iff, and_assoc]
  exact ⟨fun ⟨h1, h2, h3, h4⟩ => ⟨h1, h2, fun j hj => ⟨h3 j hj, h4 j hj⟩⟩, fun ⟨h1, h2, h3⟩ => ⟨h1, h2, fun j hj => (h3 j hj).1, fun j hj => (h3 j hj).2⟩⟩
theorem sound_inside {av am bv bm x : BitVec 64} (hi : insB av am bv bm = true) (hx : hasB av am x = true) : hasB bv bm x = true := by
  rw [ins_iff] at hi
  rw [hasB_iff] at hx ⊢
  refine ⟨hi.2.1, fun j hj => ?_⟩
  have h1 := hi.2.2 j hj; have h2 := hx.2 j hj
  revert h1 h2
  cases bit x j <;> cases bit av j <;> cases bit am j <;> cases bit bv j <;> cases bit bm j <;> simp
theorem sound_shl {v m x : BitVec 64} (hx : hasB v m x = true) (n : Nat) : hasB (bshl v n) (bshl m n) (bshl x n) = true := by
  rw [hasB_iff] at hx ⊢
  exact ⟨shl_rt hx.1 n, shl_in hx.2 n⟩
theorem sound_shr {v m x : BitVec 64} (hx : hasB v m x = true) (n : Nat) : hasB (bshr v n) (bshr m n) (bshr x n) = true := by
  rw [hasB_iff] at hx ⊢
  refine ⟨fun j => ?_, fun j hj => ?_⟩
  · rw [bit_shr, bit_shr]; exact hx.1 _
  · rw [bit_shr, bit_shr, bit_shr]
    by_cases h : n + j < 64
    · exact hx.2 _ h
    · rw [bit_big x _ (by omega), bit_big v _ (by omega)]; rfl

end Go.Proofs.Ytkigmocchaikgaa

/- The reference's Number, and val's and calc's plain numbers: x op y. -/
namespace Go.Proofs.Ytkigmocchaikgaa
open Go.RowKit
attribute [local go_sem] w_and w_or w_xor w_andNot w_and1 w_and63 w_add w_sub w_mul w_sub1 w_add1 w_shl w_shl1 w_shr c_beq c_bne c_beq0 c_bne0 c_beq1 c_bne1 wrap_nv

def six (y : BitVec 64) : Nat := (nv (band y 63#64)).toNat
theorem six_lt (y : BitVec 64) : six y < 64 := by
  unfold six nv band
  rw [BitVec.toNat_and]
  have : y.toNat &&& (63#64).toNat ≤ (63#64).toNat := Nat.and_le_right
  have h63 : (63#64).toNat = 63 := rfl
  omega
theorem six_nv (y : BitVec 64) : nv (band y 63#64) = (six y : Int) := by
  unfold six; have := nv_nonneg (band y 63#64); omega
def numN (op : Int) (x y : BitVec 64) : BitVec 64 :=
  if op = 1 then y else if 2 ≤ op ∧ op ≤ 7 then numB op x y else if op = 8 then bshl x (six y) else bshr x (six y)

set_option maxHeartbeats 1000000 in
theorem number_two {op : Int} (hop : Hid (2 ≤ op ∧ op ≤ 7)) (x y : BitVec 64) (w : World) :
    Calls Try.prog 30 #[N op, U x, U y] w fun e w' => e = .returned (U (numB op x y)) ∧ Below w.heap.size w w' := by
  rcases op_cases hop.out with rfl | rfl | rfl | rfl | rfl | rfl
  all_goals
    clear hop
    go_enter Try.func30, Try.ntmps30
    go_wp2
    go_ret
    exact ⟨rfl, (by repeat (first | exact Below.refl _ _ | assumption | refine below_drewN ?_ _ | refine Below.drew ?_ | refine Below.alloc ?_ (by first | exact Nat.le_refl _ | (simp; done) | (simp; omega) | omega) _ | refine Below.setCell ?_ (by first | exact Nat.le_refl _ | (simp; done) | (simp; omega) | omega) _ | refine Below.trans ?_ (Below.mono (by assumption) (by first | exact Nat.le_refl _ | (simp; done) | (simp; omega) | omega))))⟩
set_option maxHeartbeats 1000000 in
theorem number_shl (x y : BitVec 64) (w : World) :
    Calls Try.prog 30 #[N 8, U x, U y] w fun e w' => e = .returned (U (bshl x (six y))) ∧ Below w.heap.size w w' := by
  have h6 := six_nv y
  have h7 := six_lt y
  go_enter Try.func30, Try.ntmps30
  go_wp2
  go_ret
  exact ⟨rfl, (by repeat (first | exact Below.refl _ _ | assumption | refine below_drewN ?_ _ | refine Below.drew ?_ | refine Below.alloc ?_ (by first | exact Nat.le_refl _ | (simp; done) | (simp; omega) | omega) _ | refine Below.setCell ?_ (by first | exact Nat.le_refl _ | (simp; done) | (simp; omega) | omega) _ | refine Below.trans ?_ (Below.mono (by assumption) (by first | exact Nat.le_refl _ | (simp; done) | (simp; omega) | omega))))⟩
set_option maxHeartbeats 1000000 in
theorem number_shr (x y : BitVec 64) (w : World) :
    Calls Try.prog 30 #[N 9, U x, U y] w fun e w' => e = .returned (U (bshr x (six y))) ∧ Below w.heap.size w w' := by
  have h6 := six_nv y
  have h7 := six_lt y
  go_enter Try.func30, Try.ntmps30
  go_wp2
  go_ret
  exact ⟨rfl, (by repeat (first | exact Below.refl _ _ | assumption | refine below_drewN ?_ _ | refine Below.drew ?_ | refine Below.alloc ?_ (by first | exact Nat.le_refl _ | (simp; done) | (simp; omega) | omega) _ | refine Below.setCell ?_ (by first | exact Nat.le_refl _ | (simp; done) | (simp; omega) | omega) _ | refine Below.trans ?_ (Below.mono (by assumption) (by first | exact Nat.le_refl _ | (simp; done) | (simp; omega) | omega))))⟩

theorem hasC {v m x : BitVec 64} {b : Bool} (h : hasB v m x = b) (w : World) :
    Calls Try.prog 24 #[Bt v m, U x] w fun e w' => e = .returned (.bool b) ∧ Below w.heap.size w w' := h ▸ has_any v m x w
theorem insC {av am bv bm : BitVec 64} {b : Bool} (h : insB av am bv bm = b) (w : World) :
    Calls Try.prog 26 #[Bt av am, Bt bv bm] w fun e w' => e = .returned (.bool b) ∧ Below w.heap.size w w' := h ▸ inside_any av am bv bm w

end Go.Proofs.Ytkigmocchaikgaa

/- BitsSound, walked. -/
namespace Go.Proofs.Ytkigmocchaikgaa
open Go.RowKit Go.BigFrame
attribute [local go_sem] w_and w_or w_xor w_andNot w_and1 w_and63 w_add w_sub w_mul w_sub1 w_add1 w_shl w_shl1 w_shr c_beq c_bne c_beq0 c_bne0 c_beq1 c_bne1 wrap_nv

theorem six_six (y : BitVec 64) : six (band y 63#64) = six y := by
  unfold six
  have : band (band y 63#64) 63#64 = band y 63#64 := by
    unfold band
    rw [BitVec.and_assoc, BitVec.and_self]
  rw [this]
theorem snd_two (op : Int) (av am bv bm x y : BitVec 64) : ∃ v m c,
    Hid (∀ w, Calls Try.prog 28 #[N op, Bt av am, Bt bv bm] w fun e w' => e = .returned (.tuple #[Bt v m, N c]) ∧ Below w.heap.size w w')
    ∧ Hid (c = 1 ∨ c = 4 ∨ (c = 0 ∧ ∃ z, Hid (∀ w, Calls Try.prog 30 #[N op, U x, U y] w fun e w' => e = .returned (U z) ∧ Below w.heap.size w w')
      ∧ Hid (hasB av am x = true → hasB bv bm y = true → hasB v m z = true))) := by
  cases hr : (eqb (band av am) zero && eqb (band bv bm) zero)
  · exact ⟨zero, zero, 1, hid (fun w => two_wrong hr w), Or.inl rfl⟩
  · by_cases hop : 2 ≤ op ∧ op ≤ 7
    · exact ⟨_, _, 0, hid (fun w => two_ok hr hop w), Or.inr (Or.inr ⟨rfl, _, hid (fun w => number_two hop x y w), hid (fun h1 h2 => sound_two hop h1 h2)⟩)⟩
    · exact ⟨zero, zero, 4, hid (fun w => two_kind hr (by omega) w), Or.inr (Or.inl rfl)⟩
theorem snd_join (av am bv bm x : BitVec 64) : ∃ v m r,
    Hid (∀ w, Calls Try.prog 13 #[Bt av am, Bt bv bm] w fun e w' => e = .returned (.tuple #[Bt v m, N (er r)]) ∧ Below w.heap.size w w')
    ∧ Hid (r = true → (hasB av am x || hasB bv bm x) = true → hasB v m x = true) := by
  cases hr : (eqb (band av am) zero && eqb (band bv bm) zero)
  · exact ⟨zero, zero, false, hid (fun w => join_no hr w), hid (fun h => by cases h)⟩
  · exact ⟨_, _, true, hid (fun w => join_ok hr w), hid (fun _ h => sound_join (rightP hr).1 (rightP hr).2 h)⟩
theorem snd_meet (av am bv bm x : BitVec 64) : ∃ v m i r,
    Hid (∀ w, Calls Try.prog 14 #[Bt av am, Bt bv bm] w fun e w' => e = .returned (.tuple #[Bt v m, .bool i, N (er r)]) ∧ Below w.heap.size w w')
    ∧ Hid (r = true → (hasB av am x && hasB bv bm x) = (i && hasB v m x)) := by
  cases hr : (eqb (band av am) zero && eqb (band bv bm) zero)
  · exact ⟨zero, zero, false, false, hid (fun w => meet_wrong hr w), hid (fun h => by cases h)⟩
  · have hs := sound_meet (x := x) (rightP hr).1 (rightP hr).2
    cases hm : eqb (bandn (bxor av bv) (bor am bm)) zero
    · rw [hm] at hs
      exact ⟨zero, zero, false, true, hid (fun w => meet_no hr hm w), hid (fun _ => hs)⟩
    · rw [hm] at hs
      exact ⟨_, _, true, true, hid (fun w => meet_ok hr hm w), hid (fun _ => hs)⟩
theorem snd_shift (op : Int) (av am x y : BitVec 64) : ∃ v m c,
    Hid (∀ w, Calls Try.prog 15 #[N op, Bt av am, N (six y)] w fun e w' => e = .returned (.tuple #[Bt v m, N c]) ∧ Below w.heap.size w w')
    ∧ Hid (c = 1 ∨ c = 4 ∨ (c = 0 ∧ ∃ z, Hid (∀ w, Calls Try.prog 30 #[N op, U x, U (band y 63#64)] w fun e w' => e = .returned (U z) ∧ Below w.heap.size w w')
      ∧ Hid (hasB av am x = true → hasB v m z = true))) := by
  cases hr : eqb (band av am) zero
  · exact ⟨zero, zero, 1, hid (fun w => shift_wrong hr w), Or.inl rfl⟩
  · by_cases h8 : op = 8
    · subst h8
      exact ⟨_, _, 0, hid (fun w => shift_up hr (six_lt y) w), Or.inr (Or.inr ⟨rfl, _, hid (fun w => number_shl x _ w), hid (fun h => by rw [six_six]; exact sound_shl h _)⟩)⟩
    · by_cases h9 : op = 9
      · subst h9
        exact ⟨_, _, 0, hid (fun w => shift_down hr (six_lt y) w), Or.inr (Or.inr ⟨rfl, _, hid (fun w => number_shr x _ w), hid (fun h => by rw [six_six]; exact sound_shr h _)⟩)⟩
      · exact ⟨zero, zero, 4, hid (fun w => shift_kind hr (by simpa using h8) (by simpa using h9) w), Or.inr (Or.inl rfl)⟩

set_option maxRecDepth 100000 in
set_option maxHeartbeats 8000000 in
theorem bitsSound_any (op : Int) (av am bv bm x y : BitVec 64) (w : World) :
    Calls Try.prog 5 #[N op, Bt av am, Bt bv bm, U x, U y] w fun e w' => e = .returned (.bool true) ∧ Below w.heap.size w w' := by
  obtain ⟨cv, cm, cc, C1, C2⟩ := snd_two op av am bv bm x y
  obtain ⟨jv, jm, jr, J1, J2⟩ := snd_join av am bv bm x
  obtain ⟨mv, mm, mi, mr, M1, M2⟩ := snd_meet av am bv bm x
  obtain ⟨sv, sm, sc, S1, S2⟩ := snd_shift op av am x y
  have I2 : Hid (insB av am bv bm = true → hasB av am x = true → hasB bv bm x = true) := fun h1 h2 => sound_inside h1 h2
  have I1 : Hid (∀ w, Calls Try.prog 26 #[Bt av am, Bt bv bm] w fun e w' => e = .returned (.bool (insB av am bv bm)) ∧ Below w.heap.size w w') := fun w => inside_any av am bv bm w
  generalize insB av am bv bm = ii at I1 I2
  obtain ⟨ax, HA⟩ : ∃ b, Hid (hasB av am x = b) := ⟨_, rfl⟩
  obtain ⟨bx, HB⟩ : ∃ b, Hid (hasB bv bm x = b) := ⟨_, rfl⟩
  obtain ⟨by', HY⟩ : ∃ b, Hid (hasB bv bm y = b) := ⟨_, rfl⟩
  obtain ⟨jx, HJ⟩ : ∃ b, Hid (hasB jv jm x = b) := ⟨_, rfl⟩
  obtain ⟨mx, HM⟩ : ∃ b, Hid (hasB mv mm x = b) := ⟨_, rfl⟩
  rw [HA.out, HY.out] at C2
  rw [HA.out, HB.out, HJ.out] at J2
  rw [HA.out, HB.out, HM.out] at M2
  rw [HA.out] at S2
  rw [HA.out, HB.out] at I2
  have h6 := six_nv y
  have h64 := six_lt y
  go_enter Try.func5, Try.ntmps5
  go_wp2_with fail
  refine (C1.out _).mono ?_
  rintro e w1 ⟨rfl, hb1⟩
  have hB1 := (((Kp.start w).add2 _ _ _).add2 _ _ _).keep hb1
  simp only [World.size_alloc] at hB1
  have hB2 := hB1.add2 (U cv) (U cm) 24
  obtain ⟨b0, b1, b2, b3, b4⟩ := hB1.box.head.two
  obtain ⟨a0, a1, a2, a3, a4⟩ := hB1.box.tail.head.two
  go_upto_region 2 with fail
  clear hb1
  clear b0 b1 b2 b3 b4 a0 a1 a2 a3 a4
  clear hB1 C1
  go_cut [47] (fun t wc => t = .bool false ∧ Kp w wc [(w1.heap.size, [U cv, U cm]), (w.heap.size + 1, [U bv, U bm]), (w.heap.size, [U av, U am])])
  case first =>
    as_aux_lemma =>
      clear J1 J2 M1 M2 S1 S2 I1 I2 HJ HM HB h6 h64
      obtain ⟨c0, c1, c2, c3, c4⟩ := hB2.box.head.two
      obtain ⟨b0, b1, b2, b3, b4⟩ := hB2.box.tail.head.two
      obtain ⟨a0, a1, a2, a3, a4⟩ := hB2.box.tail.tail.head.two
      clear c0 c1 c2 c3 c4 b0 b1 b2 b3 b4 a0 a1 a2 a3 a4
      rcases C2.out with rfl | rfl | ⟨rfl, z, N1, N2⟩
      iterate 2
        · clear C2
          refine region_class (fun w' => ∃ n : Cl w [(w1.heap.size, [U cv, U cm]), (w.heap.size + 1, [U bv, U bm]), (w.heap.size, [U av, U am])], w' = n.val) (by kernel_rfl) (by kernel_rfl) (Cl.start hB2) ?_
          haveI : Nonempty (Cl w [(w1.heap.size, [U cv, U cm]), (w.heap.size + 1, [U bv, U bm]), (w.heap.size, [U av, U am])]) := Cl.some hB2
          have hq0x0 : ∀ n : Cl w [(w1.heap.size, [U cv, U cm]), (w.heap.size + 1, [U bv, U bm]), (w.heap.size, [U av, U am])], n.val.cell? ⟨w1.heap.size, 0, none⟩ = some (U cv) := fun n => (n.kp.box.head.two).1
          have hq0x1 : ∀ n : Cl w [(w1.heap.size, [U cv, U cm]), (w.heap.size + 1, [U bv, U bm]), (w.heap.size, [U av, U am])], n.val.cell? ⟨w1.heap.size, 1, none⟩ = some (U cm) := fun n => (n.kp.box.head.two).2.1
          have hq1x0 : ∀ n : Cl w [(w1.heap.size, [U cv, U cm]), (w.heap.size + 1, [U bv, U bm]), (w.heap.size, [U av, U am])], n.val.cell? ⟨w.heap.size + 1, 0, none⟩ = some (U bv) := fun n => (n.kp.box.tail.head.two).1
          have hq1x1 : ∀ n : Cl w [(w1.heap.size, [U cv, U cm]), (w.heap.size + 1, [U bv, U bm]), (w.heap.size, [U av, U am])], n.val.cell? ⟨w.heap.size + 1, 1, none⟩ = some (U bm) := fun n => (n.kp.box.tail.head.two).2.1
          have hq2x0 : ∀ n : Cl w [(w1.heap.size, [U cv, U cm]), (w.heap.size + 1, [U bv, U bm]), (w.heap.size, [U av, U am])], n.val.cell? ⟨w.heap.size, 0, none⟩ = some (U av) := fun n => (n.kp.box.tail.tail.head.two).1
          have hq2x1 : ∀ n : Cl w [(w1.heap.size, [U cv, U cm]), (w.heap.size + 1, [U bv, U bm]), (w.heap.size, [U av, U am])], n.val.cell? ⟨w.heap.size, 1, none⟩ = some (U am) := fun n => (n.kp.box.tail.tail.head.two).2.1
          repeat (go_big_quiet_step (fail))
          refine wpQuiet_nil ?_
          rintro _ ⟨⟨wq, hq⟩, rfl⟩
          go_wp2
          go_meet
          case rel => exact ⟨rfl, hq⟩

      · clear C2
        cases ax
        · skip
          refine region_class (fun w' => ∃ n : Cl w [(w1.heap.size, [U cv, U cm]), (w.heap.size + 1, [U bv, U bm]), (w.heap.size, [U av, U am])], w' = n.val) (by kernel_rfl) (by kernel_rfl) (Cl.start hB2) ?_
          haveI : Nonempty (Cl w [(w1.heap.size, [U cv, U cm]), (w.heap.size + 1, [U bv, U bm]), (w.heap.size, [U av, U am])]) := Cl.some hB2
          have hq0x0 : ∀ n : Cl w [(w1.heap.size, [U cv, U cm]), (w.heap.size + 1, [U bv, U bm]), (w.heap.size, [U av, U am])], n.val.cell? ⟨w1.heap.size, 0, none⟩ = some (U cv) := fun n => (n.kp.box.head.two).1
          have hq0x1 : ∀ n : Cl w [(w1.heap.size, [U cv, U cm]), (w.heap.size + 1, [U bv, U bm]), (w.heap.size, [U av, U am])], n.val.cell? ⟨w1.heap.size, 1, none⟩ = some (U cm) := fun n => (n.kp.box.head.two).2.1
          have hq1x0 : ∀ n : Cl w [(w1.heap.size, [U cv, U cm]), (w.heap.size + 1, [U bv, U bm]), (w.heap.size, [U av, U am])], n.val.cell? ⟨w.heap.size + 1, 0, none⟩ = some (U bv) := fun n => (n.kp.box.tail.head.two).1
          have hq1x1 : ∀ n : Cl w [(w1.heap.size, [U cv, U cm]), (w.heap.size + 1, [U bv, U bm]), (w.heap.size, [U av, U am])], n.val.cell? ⟨w.heap.size + 1, 1, none⟩ = some (U bm) := fun n => (n.kp.box.tail.head.two).2.1
          have hq2x0 : ∀ n : Cl w [(w1.heap.size, [U cv, U cm]), (w.heap.size + 1, [U bv, U bm]), (w.heap.size, [U av, U am])], n.val.cell? ⟨w.heap.size, 0, none⟩ = some (U av) := fun n => (n.kp.box.tail.tail.head.two).1
          have hq2x1 : ∀ n : Cl w [(w1.heap.size, [U cv, U cm]), (w.heap.size + 1, [U bv, U bm]), (w.heap.size, [U av, U am])], n.val.cell? ⟨w.heap.size, 1, none⟩ = some (U am) := fun n => (n.kp.box.tail.tail.head.two).2.1
          repeat (go_big_quiet_step (first | (go_at_call_of 24 (av); exact Cl.of (hasC HA.out _))))
          refine wpQuiet_nil ?_
          rintro _ ⟨⟨wq, hq⟩, rfl⟩
          go_wp2
          go_meet
          case rel => exact ⟨rfl, hq⟩

        · cases by'
          · skip
            refine region_class (fun w' => ∃ n : Cl w [(w1.heap.size, [U cv, U cm]), (w.heap.size + 1, [U bv, U bm]), (w.heap.size, [U av, U am])], w' = n.val) (by kernel_rfl) (by kernel_rfl) (Cl.start hB2) ?_
            haveI : Nonempty (Cl w [(w1.heap.size, [U cv, U cm]), (w.heap.size + 1, [U bv, U bm]), (w.heap.size, [U av, U am])]) := Cl.some hB2
            have hq0x0 : ∀ n : Cl w [(w1.heap.size, [U cv, U cm]), (w.heap.size + 1, [U bv, U bm]), (w.heap.size, [U av, U am])], n.val.cell? ⟨w1.heap.size, 0, none⟩ = some (U cv) := fun n => (n.kp.box.head.two).1
            have hq0x1 : ∀ n : Cl w [(w1.heap.size, [U cv, U cm]), (w.heap.size + 1, [U bv, U bm]), (w.heap.size, [U av, U am])], n.val.cell? ⟨w1.heap.size, 1, none⟩ = some (U cm) := fun n => (n.kp.box.head.two).2.1
            have hq1x0 : ∀ n : Cl w [(w1.heap.size, [U cv, U cm]), (w.heap.size + 1, [U bv, U bm]), (w.heap.size, [U av, U am])], n.val.cell? ⟨w.heap.size + 1, 0, none⟩ = some (U bv) := fun n => (n.kp.box.tail.head.two).1
            have hq1x1 : ∀ n : Cl w [(w1.heap.size, [U cv, U cm]), (w.heap.size + 1, [U bv, U bm]), (w.heap.size, [U av, U am])], n.val.cell? ⟨w.heap.size + 1, 1, none⟩ = some (U bm) := fun n => (n.kp.box.tail.head.two).2.1
            have hq2x0 : ∀ n : Cl w [(w1.heap.size, [U cv, U cm]), (w.heap.size + 1, [U bv, U bm]), (w.heap.size, [U av, U am])], n.val.cell? ⟨w.heap.size, 0, none⟩ = some (U av) := fun n => (n.kp.box.tail.tail.head.two).1
            have hq2x1 : ∀ n : Cl w [(w1.heap.size, [U cv, U cm]), (w.heap.size + 1, [U bv, U bm]), (w.heap.size, [U av, U am])], n.val.cell? ⟨w.heap.size, 1, none⟩ = some (U am) := fun n => (n.kp.box.tail.tail.head.two).2.1
            repeat (go_big_quiet_step (first | (go_at_call_of 24 (av); exact Cl.of (hasC HA.out _)) | (go_at_call_of 24 (bv); exact Cl.of (hasC HY.out _))))
            refine wpQuiet_nil ?_
            rintro _ ⟨⟨wq, hq⟩, rfl⟩
            go_wp2
            go_meet
            case rel => exact ⟨rfl, hq⟩

          · have N3 : Hid (hasB cv cm z = true) := N2.out rfl rfl
            clear N2
            refine region_class (fun w' => ∃ n : Cl w [(w1.heap.size, [U cv, U cm]), (w.heap.size + 1, [U bv, U bm]), (w.heap.size, [U av, U am])], w' = n.val) (by kernel_rfl) (by kernel_rfl) (Cl.start hB2) ?_
            haveI : Nonempty (Cl w [(w1.heap.size, [U cv, U cm]), (w.heap.size + 1, [U bv, U bm]), (w.heap.size, [U av, U am])]) := Cl.some hB2
            have hq0x0 : ∀ n : Cl w [(w1.heap.size, [U cv, U cm]), (w.heap.size + 1, [U bv, U bm]), (w.heap.size, [U av, U am])], n.val.cell? ⟨w1.heap.size, 0, none⟩ = some (U cv) := fun n => (n.kp.box.head.two).1
            have hq0x1 : ∀ n : Cl w [(w1.heap.size, [U cv, U cm]), (w.heap.size + 1, [U bv, U bm]), (w.heap.size, [U av, U am])], n.val.cell? ⟨w1.heap.size, 1, none⟩ = some (U cm) := fun n => (n.kp.box.head.two).2.1
            have hq1x0 : ∀ n : Cl w [(w1.heap.size, [U cv, U cm]), (w.heap.size + 1, [U bv, U bm]), (w.heap.size, [U av, U am])], n.val.cell? ⟨w.heap.size + 1, 0, none⟩ = some (U bv) := fun n => (n.kp.box.tail.head.two).1
            have hq1x1 : ∀ n : Cl w [(w1.heap.size, [U cv, U cm]), (w.heap.size + 1, [U bv, U bm]), (w.heap.size, [U av, U am])], n.val.cell? ⟨w.heap.size + 1, 1, none⟩ = some (U bm) := fun n => (n.kp.box.tail.head.two).2.1
            have hq2x0 : ∀ n : Cl w [(w1.heap.size, [U cv, U cm]), (w.heap.size + 1, [U bv, U bm]), (w.heap.size, [U av, U am])], n.val.cell? ⟨w.heap.size, 0, none⟩ = some (U av) := fun n => (n.kp.box.tail.tail.head.two).1
            have hq2x1 : ∀ n : Cl w [(w1.heap.size, [U cv, U cm]), (w.heap.size + 1, [U bv, U bm]), (w.heap.size, [U av, U am])], n.val.cell? ⟨w.heap.size, 1, none⟩ = some (U am) := fun n => (n.kp.box.tail.tail.head.two).2.1
            repeat (go_big_quiet_step (first | (go_at_call 30; exact Cl.of (N1.out _)) | (go_at_call_of 24 (av); exact Cl.of (hasC HA.out _)) | (go_at_call_of 24 (bv); exact Cl.of (hasC HY.out _)) | (go_at_call_of 24 (z); exact Cl.of (hasC N3.out _))))
            refine wpQuiet_nil ?_
            rintro _ ⟨⟨wq, hq⟩, rfl⟩
            go_wp2
            go_meet
            case rel => exact ⟨rfl, hq⟩

  case rest =>
    clear hB2 C2 HY
    obtain ⟨rfl, hK1⟩ := hcut
    obtain ⟨c0, c1, c2, c3, c4⟩ := hK1.box.head.two
    obtain ⟨b0, b1, b2, b3, b4⟩ := hK1.box.tail.head.two
    obtain ⟨a0, a1, a2, a3, a4⟩ := hK1.box.tail.tail.head.two
    go_wp2_with fail
    refine (J1.out _).mono ?_
    rintro e w2 ⟨rfl, hb2⟩
    have hK2 := hK1.keep hb2
    clear c0 c1 c2 c3 c4 b0 b1 b2 b3 b4 a0 a1 a2 a3 a4
    obtain ⟨c0, c1, c2, c3, c4⟩ := hK2.box.head.two
    obtain ⟨b0, b1, b2, b3, b4⟩ := hK2.box.tail.head.two
    obtain ⟨a0, a1, a2, a3, a4⟩ := hK2.box.tail.tail.head.two
    go_wp2_with fail
    refine (M1.out _).mono ?_
    rintro e w3 ⟨rfl, hb3⟩
    have hK3 := (hK2.add2 _ _ _).keep hb3
    have hK4 := hK3.add2 (U mv) (U mm) 24
    clear c0 c1 c2 c3 c4 b0 b1 b2 b3 b4 a0 a1 a2 a3 a4
    obtain ⟨j0, j1, j2, j3, j4⟩ := hK3.box.head.two
    obtain ⟨c0, c1, c2, c3, c4⟩ := hK3.box.tail.head.two
    obtain ⟨b0, b1, b2, b3, b4⟩ := hK3.box.tail.tail.head.two
    obtain ⟨a0, a1, a2, a3, a4⟩ := hK3.box.tail.tail.tail.head.two
    go_upto_region 6 with fail
    clear hK1 hK2 hb2 hb3 J1 M1
    clear j0 j1 j2 j3 j4 c0 c1 c2 c3 c4 b0 b1 b2 b3 b4 a0 a1 a2 a3 a4
    go_cut [78] (fun t wd => t = .bool false ∧ Kp w wd [(w3.heap.size, [U mv, U mm]), (w2.heap.size, [U jv, U jm]), (w1.heap.size, [U cv, U cm]), (w.heap.size + 1, [U bv, U bm]), (w.heap.size, [U av, U am])])
    case first =>
      as_aux_lemma =>
        clear S1 S2 I1 I2 M2 HM h6 h64 hK3
        obtain ⟨m0, m1, m2, m3, m4⟩ := hK4.box.head.two
        obtain ⟨j0, j1, j2, j3, j4⟩ := hK4.box.tail.head.two
        obtain ⟨c0, c1, c2, c3, c4⟩ := hK4.box.tail.tail.head.two
        obtain ⟨b0, b1, b2, b3, b4⟩ := hK4.box.tail.tail.tail.head.two
        obtain ⟨a0, a1, a2, a3, a4⟩ := hK4.box.tail.tail.tail.tail.head.two
        cases jr
        · have hE : (er false == 0) = false := rfl
          go_wp2_with fail
          go_meet
          case rel => exact ⟨rfl, hK4⟩
        · have hE : (er true == 0) = true := rfl
          have J3 : Hid _ := J2.out rfl
          clear J2
          go_wp2_with fail
          refine (hasC HA.out _).mono ?_
          rintro e w4 ⟨rfl, hb4⟩
          have hK5 := hK4.keep hb4
          clear m0 m1 m2 m3 m4 j0 j1 j2 j3 j4 c0 c1 c2 c3 c4 b0 b1 b2 b3 b4 a0 a1 a2 a3 a4
          obtain ⟨m0, m1, m2, m3, m4⟩ := hK5.box.head.two
          obtain ⟨j0, j1, j2, j3, j4⟩ := hK5.box.tail.head.two
          obtain ⟨c0, c1, c2, c3, c4⟩ := hK5.box.tail.tail.head.two
          obtain ⟨b0, b1, b2, b3, b4⟩ := hK5.box.tail.tail.tail.head.two
          obtain ⟨a0, a1, a2, a3, a4⟩ := hK5.box.tail.tail.tail.tail.head.two
          cases ax
          · go_wp2_with fail
            refine (hasC HB.out _).mono ?_
            rintro e w5 ⟨rfl, hb5⟩
            have hK6 := hK5.keep hb5
            clear m0 m1 m2 m3 m4 j0 j1 j2 j3 j4 c0 c1 c2 c3 c4 b0 b1 b2 b3 b4 a0 a1 a2 a3 a4
            obtain ⟨m0, m1, m2, m3, m4⟩ := hK6.box.head.two
            obtain ⟨j0, j1, j2, j3, j4⟩ := hK6.box.tail.head.two
            obtain ⟨c0, c1, c2, c3, c4⟩ := hK6.box.tail.tail.head.two
            obtain ⟨b0, b1, b2, b3, b4⟩ := hK6.box.tail.tail.tail.head.two
            obtain ⟨a0, a1, a2, a3, a4⟩ := hK6.box.tail.tail.tail.tail.head.two
            cases bx
            · go_wp2_with fail
              go_meet
              case rel => exact ⟨rfl, hK6⟩
            · obtain rfl : jx = true := J3.out rfl
              go_wp2_with fail
              refine (hasC HJ.out _).mono ?_
              rintro e w6 ⟨rfl, hb6⟩
              have hK7 := hK6.keep hb6
              go_wp2_with fail
              go_meet
              case rel => exact ⟨rfl, hK7⟩
          · obtain rfl : jx = true := J3.out rfl
            go_wp2_with fail
            refine (hasC HJ.out _).mono ?_
            rintro e w6 ⟨rfl, hb6⟩
            have hK7 := hK5.keep hb6
            go_wp2_with fail
            go_meet
            case rel => exact ⟨rfl, hK7⟩
    case rest =>
    clear hK3 hK4 J2 HJ
    obtain ⟨rfl, hK1⟩ := hcut
    go_upto_region 8 with fail
    go_cut [97] (fun t wd => t = .bool false ∧ Kp w wd [(w3.heap.size, [U mv, U mm]), (w2.heap.size, [U jv, U jm]), (w1.heap.size, [U cv, U cm]), (w.heap.size + 1, [U bv, U bm]), (w.heap.size, [U av, U am])])
    case first =>
      as_aux_lemma =>
        clear S1 S2 I1 I2 h6 h64
        obtain ⟨m0, m1, m2, m3, m4⟩ := hK1.box.head.two
        obtain ⟨j0, j1, j2, j3, j4⟩ := hK1.box.tail.head.two
        obtain ⟨c0, c1, c2, c3, c4⟩ := hK1.box.tail.tail.head.two
        obtain ⟨b0, b1, b2, b3, b4⟩ := hK1.box.tail.tail.tail.head.two
        obtain ⟨a0, a1, a2, a3, a4⟩ := hK1.box.tail.tail.tail.tail.head.two
        cases mr
        · have hE : (er false == 0) = false := rfl
          go_wp2_with fail
          go_meet
          case rel => exact ⟨rfl, hK1⟩
        · have hE : (er true == 0) = true := rfl
          have M3 : Hid _ := M2.out rfl
          clear M2
          go_wp2_with fail
          refine (hasC HA.out _).mono ?_
          rintro e w4 ⟨rfl, hb4⟩
          have hK5 := hK1.keep hb4
          clear m0 m1 m2 m3 m4 j0 j1 j2 j3 j4 c0 c1 c2 c3 c4 b0 b1 b2 b3 b4 a0 a1 a2 a3 a4
          obtain ⟨m0, m1, m2, m3, m4⟩ := hK5.box.head.two
          obtain ⟨j0, j1, j2, j3, j4⟩ := hK5.box.tail.head.two
          obtain ⟨c0, c1, c2, c3, c4⟩ := hK5.box.tail.tail.head.two
          obtain ⟨b0, b1, b2, b3, b4⟩ := hK5.box.tail.tail.tail.head.two
          obtain ⟨a0, a1, a2, a3, a4⟩ := hK5.box.tail.tail.tail.tail.head.two
          cases ax
          · cases mi
            · go_wp2_with fail
              go_meet
              case rel => exact ⟨rfl, hK5⟩
            · obtain rfl : mx = false := M3.out.symm
              go_wp2_with fail
              refine (hasC HM.out _).mono ?_
              rintro e w5 ⟨rfl, hb5⟩
              have hK6 := hK5.keep hb5
              go_wp2_with fail
              go_meet
              case rel => exact ⟨rfl, hK6⟩
          · go_wp2_with fail
            refine (hasC HB.out _).mono ?_
            rintro e w5 ⟨rfl, hb5⟩
            have hK6 := hK5.keep hb5
            clear m0 m1 m2 m3 m4 j0 j1 j2 j3 j4 c0 c1 c2 c3 c4 b0 b1 b2 b3 b4 a0 a1 a2 a3 a4
            obtain ⟨m0, m1, m2, m3, m4⟩ := hK6.box.head.two
            obtain ⟨j0, j1, j2, j3, j4⟩ := hK6.box.tail.head.two
            obtain ⟨c0, c1, c2, c3, c4⟩ := hK6.box.tail.tail.head.two
            obtain ⟨b0, b1, b2, b3, b4⟩ := hK6.box.tail.tail.tail.head.two
            obtain ⟨a0, a1, a2, a3, a4⟩ := hK6.box.tail.tail.tail.tail.head.two
            cases mi
            · obtain rfl : bx = false := M3.out
              go_wp2_with fail
              go_meet
              case rel => exact ⟨rfl, hK6⟩
            · obtain rfl : bx = mx := M3.out
              go_wp2_with fail
              refine (hasC HM.out _).mono ?_
              rintro e w6 ⟨rfl, hb6⟩
              have hK7 := hK6.keep hb6
              cases bx
              all_goals
                go_wp2_with fail
                go_meet
                case rel => exact ⟨rfl, hK7⟩
    case rest =>
    clear hK1 M2 HM
    obtain ⟨rfl, hK1⟩ := hcut
    go_upto_region 10 with fail
    go_cut [111] (fun t wd => t = .bool false ∧ Kp w wd [(w3.heap.size, [U mv, U mm]), (w2.heap.size, [U jv, U jm]), (w1.heap.size, [U cv, U cm]), (w.heap.size + 1, [U bv, U bm]), (w.heap.size, [U av, U am])])
    case first =>
      as_aux_lemma =>
        clear S1 S2 h6 h64
        obtain ⟨m0, m1, m2, m3, m4⟩ := hK1.box.head.two
        obtain ⟨j0, j1, j2, j3, j4⟩ := hK1.box.tail.head.two
        obtain ⟨c0, c1, c2, c3, c4⟩ := hK1.box.tail.tail.head.two
        obtain ⟨b0, b1, b2, b3, b4⟩ := hK1.box.tail.tail.tail.head.two
        obtain ⟨a0, a1, a2, a3, a4⟩ := hK1.box.tail.tail.tail.tail.head.two
        go_wp2_with fail
        refine (I1.out _).mono ?_
        rintro e w4 ⟨rfl, hb4⟩
        have hK5 := hK1.keep hb4
        clear m0 m1 m2 m3 m4 j0 j1 j2 j3 j4 c0 c1 c2 c3 c4 b0 b1 b2 b3 b4 a0 a1 a2 a3 a4
        obtain ⟨m0, m1, m2, m3, m4⟩ := hK5.box.head.two
        obtain ⟨j0, j1, j2, j3, j4⟩ := hK5.box.tail.head.two
        obtain ⟨c0, c1, c2, c3, c4⟩ := hK5.box.tail.tail.head.two
        obtain ⟨b0, b1, b2, b3, b4⟩ := hK5.box.tail.tail.tail.head.two
        obtain ⟨a0, a1, a2, a3, a4⟩ := hK5.box.tail.tail.tail.tail.head.two
        cases ii
        · go_wp2_with fail
          go_meet
          case rel => exact ⟨rfl, hK5⟩
        · have I3 : Hid _ := I2.out rfl
          clear I2
          go_wp2_with fail
          refine (hasC HA.out _).mono ?_
          rintro e w5 ⟨rfl, hb5⟩
          have hK6 := hK5.keep hb5
          clear m0 m1 m2 m3 m4 j0 j1 j2 j3 j4 c0 c1 c2 c3 c4 b0 b1 b2 b3 b4 a0 a1 a2 a3 a4
          obtain ⟨m0, m1, m2, m3, m4⟩ := hK6.box.head.two
          obtain ⟨j0, j1, j2, j3, j4⟩ := hK6.box.tail.head.two
          obtain ⟨c0, c1, c2, c3, c4⟩ := hK6.box.tail.tail.head.two
          obtain ⟨b0, b1, b2, b3, b4⟩ := hK6.box.tail.tail.tail.head.two
          obtain ⟨a0, a1, a2, a3, a4⟩ := hK6.box.tail.tail.tail.tail.head.two
          cases ax
          · go_wp2_with fail
            go_meet
            case rel => exact ⟨rfl, hK6⟩
          · obtain rfl : bx = true := I3.out rfl
            go_wp2_with fail
            refine (hasC HB.out _).mono ?_
            rintro e w6 ⟨rfl, hb6⟩
            have hK7 := hK6.keep hb6
            go_wp2_with fail
            go_meet
            case rel => exact ⟨rfl, hK7⟩
    case rest =>
    clear hK1 I1 I2 HB
    obtain ⟨rfl, hK1⟩ := hcut
    obtain ⟨m0, m1, m2, m3, m4⟩ := hK1.box.head.two
    obtain ⟨j0, j1, j2, j3, j4⟩ := hK1.box.tail.head.two
    obtain ⟨c0, c1, c2, c3, c4⟩ := hK1.box.tail.tail.head.two
    obtain ⟨b0, b1, b2, b3, b4⟩ := hK1.box.tail.tail.tail.head.two
    obtain ⟨a0, a1, a2, a3, a4⟩ := hK1.box.tail.tail.tail.tail.head.two
    go_wp2_with fail
    refine (S1.out _).mono ?_
    rintro e w4 ⟨rfl, hb4⟩
    have hK2 := hK1.keep hb4
    have hK3 := hK2.add2 (U sv) (U sm) 24
    clear m0 m1 m2 m3 m4 j0 j1 j2 j3 j4 c0 c1 c2 c3 c4 b0 b1 b2 b3 b4 a0 a1 a2 a3 a4
    go_upto_region 13 with fail
    clear hK1 hK2 hb4 S1
    rcases S2.out with rfl | rfl | ⟨rfl, z, N1, N2⟩
    iterate 2
      · clear S2
        refine region_class (fun w' => ∃ n : Cl w [(w4.heap.size, [U sv, U sm]), (w3.heap.size, [U mv, U mm]), (w2.heap.size, [U jv, U jm]), (w1.heap.size, [U cv, U cm]), (w.heap.size + 1, [U bv, U bm]), (w.heap.size, [U av, U am])], w' = n.val) (by kernel_rfl) (by kernel_rfl) (Cl.start hK3) ?_
        haveI : Nonempty (Cl w [(w4.heap.size, [U sv, U sm]), (w3.heap.size, [U mv, U mm]), (w2.heap.size, [U jv, U jm]), (w1.heap.size, [U cv, U cm]), (w.heap.size + 1, [U bv, U bm]), (w.heap.size, [U av, U am])]) := Cl.some hK3
        have hq0x0 : ∀ n : Cl w [(w4.heap.size, [U sv, U sm]), (w3.heap.size, [U mv, U mm]), (w2.heap.size, [U jv, U jm]), (w1.heap.size, [U cv, U cm]), (w.heap.size + 1, [U bv, U bm]), (w.heap.size, [U av, U am])], n.val.cell? ⟨w4.heap.size, 0, none⟩ = some (U sv) := fun n => (n.kp.box.head.two).1
        have hq0x1 : ∀ n : Cl w [(w4.heap.size, [U sv, U sm]), (w3.heap.size, [U mv, U mm]), (w2.heap.size, [U jv, U jm]), (w1.heap.size, [U cv, U cm]), (w.heap.size + 1, [U bv, U bm]), (w.heap.size, [U av, U am])], n.val.cell? ⟨w4.heap.size, 1, none⟩ = some (U sm) := fun n => (n.kp.box.head.two).2.1
        have hq5x0 : ∀ n : Cl w [(w4.heap.size, [U sv, U sm]), (w3.heap.size, [U mv, U mm]), (w2.heap.size, [U jv, U jm]), (w1.heap.size, [U cv, U cm]), (w.heap.size + 1, [U bv, U bm]), (w.heap.size, [U av, U am])], n.val.cell? ⟨w.heap.size, 0, none⟩ = some (U av) := fun n => (n.kp.box.tail.tail.tail.tail.tail.head.two).1
        have hq5x1 : ∀ n : Cl w [(w4.heap.size, [U sv, U sm]), (w3.heap.size, [U mv, U mm]), (w2.heap.size, [U jv, U jm]), (w1.heap.size, [U cv, U cm]), (w.heap.size + 1, [U bv, U bm]), (w.heap.size, [U av, U am])], n.val.cell? ⟨w.heap.size, 1, none⟩ = some (U am) := fun n => (n.kp.box.tail.tail.tail.tail.tail.head.two).2.1
        repeat (go_big_quiet_step (first | (go_at_call 22; exact Cl.of (bitsBegun_any _))))
        refine wpQuiet_nil ?_
        rintro _ ⟨⟨wq, hq⟩, rfl⟩
        go_wp2
        go_ret
        exact ⟨rfl, hq.bel⟩

    · clear S2
      cases ax
      · skip
        refine region_class (fun w' => ∃ n : Cl w [(w4.heap.size, [U sv, U sm]), (w3.heap.size, [U mv, U mm]), (w2.heap.size, [U jv, U jm]), (w1.heap.size, [U cv, U cm]), (w.heap.size + 1, [U bv, U bm]), (w.heap.size, [U av, U am])], w' = n.val) (by kernel_rfl) (by kernel_rfl) (Cl.start hK3) ?_
        haveI : Nonempty (Cl w [(w4.heap.size, [U sv, U sm]), (w3.heap.size, [U mv, U mm]), (w2.heap.size, [U jv, U jm]), (w1.heap.size, [U cv, U cm]), (w.heap.size + 1, [U bv, U bm]), (w.heap.size, [U av, U am])]) := Cl.some hK3
        have hq0x0 : ∀ n : Cl w [(w4.heap.size, [U sv, U sm]), (w3.heap.size, [U mv, U mm]), (w2.heap.size, [U jv, U jm]), (w1.heap.size, [U cv, U cm]), (w.heap.size + 1, [U bv, U bm]), (w.heap.size, [U av, U am])], n.val.cell? ⟨w4.heap.size, 0, none⟩ = some (U sv) := fun n => (n.kp.box.head.two).1
        have hq0x1 : ∀ n : Cl w [(w4.heap.size, [U sv, U sm]), (w3.heap.size, [U mv, U mm]), (w2.heap.size, [U jv, U jm]), (w1.heap.size, [U cv, U cm]), (w.heap.size + 1, [U bv, U bm]), (w.heap.size, [U av, U am])], n.val.cell? ⟨w4.heap.size, 1, none⟩ = some (U sm) := fun n => (n.kp.box.head.two).2.1
        have hq5x0 : ∀ n : Cl w [(w4.heap.size, [U sv, U sm]), (w3.heap.size, [U mv, U mm]), (w2.heap.size, [U jv, U jm]), (w1.heap.size, [U cv, U cm]), (w.heap.size + 1, [U bv, U bm]), (w.heap.size, [U av, U am])], n.val.cell? ⟨w.heap.size, 0, none⟩ = some (U av) := fun n => (n.kp.box.tail.tail.tail.tail.tail.head.two).1
        have hq5x1 : ∀ n : Cl w [(w4.heap.size, [U sv, U sm]), (w3.heap.size, [U mv, U mm]), (w2.heap.size, [U jv, U jm]), (w1.heap.size, [U cv, U cm]), (w.heap.size + 1, [U bv, U bm]), (w.heap.size, [U av, U am])], n.val.cell? ⟨w.heap.size, 1, none⟩ = some (U am) := fun n => (n.kp.box.tail.tail.tail.tail.tail.head.two).2.1
        repeat (go_big_quiet_step (first | (go_at_call 22; exact Cl.of (bitsBegun_any _)) | (go_at_call_of 24 (av); exact Cl.of (hasC HA.out _))))
        refine wpQuiet_nil ?_
        rintro _ ⟨⟨wq, hq⟩, rfl⟩
        go_wp2
        go_ret
        exact ⟨rfl, hq.bel⟩

      · have N3 : Hid (hasB sv sm z = true) := N2.out rfl
        clear N2
        refine region_class (fun w' => ∃ n : Cl w [(w4.heap.size, [U sv, U sm]), (w3.heap.size, [U mv, U mm]), (w2.heap.size, [U jv, U jm]), (w1.heap.size, [U cv, U cm]), (w.heap.size + 1, [U bv, U bm]), (w.heap.size, [U av, U am])], w' = n.val) (by kernel_rfl) (by kernel_rfl) (Cl.start hK3) ?_
        haveI : Nonempty (Cl w [(w4.heap.size, [U sv, U sm]), (w3.heap.size, [U mv, U mm]), (w2.heap.size, [U jv, U jm]), (w1.heap.size, [U cv, U cm]), (w.heap.size + 1, [U bv, U bm]), (w.heap.size, [U av, U am])]) := Cl.some hK3
        have hq0x0 : ∀ n : Cl w [(w4.heap.size, [U sv, U sm]), (w3.heap.size, [U mv, U mm]), (w2.heap.size, [U jv, U jm]), (w1.heap.size, [U cv, U cm]), (w.heap.size + 1, [U bv, U bm]), (w.heap.size, [U av, U am])], n.val.cell? ⟨w4.heap.size, 0, none⟩ = some (U sv) := fun n => (n.kp.box.head.two).1
        have hq0x1 : ∀ n : Cl w [(w4.heap.size, [U sv, U sm]), (w3.heap.size, [U mv, U mm]), (w2.heap.size, [U jv, U jm]), (w1.heap.size, [U cv, U cm]), (w.heap.size + 1, [U bv, U bm]), (w.heap.size, [U av, U am])], n.val.cell? ⟨w4.heap.size, 1, none⟩ = some (U sm) := fun n => (n.kp.box.head.two).2.1
        have hq5x0 : ∀ n : Cl w [(w4.heap.size, [U sv, U sm]), (w3.heap.size, [U mv, U mm]), (w2.heap.size, [U jv, U jm]), (w1.heap.size, [U cv, U cm]), (w.heap.size + 1, [U bv, U bm]), (w.heap.size, [U av, U am])], n.val.cell? ⟨w.heap.size, 0, none⟩ = some (U av) := fun n => (n.kp.box.tail.tail.tail.tail.tail.head.two).1
        have hq5x1 : ∀ n : Cl w [(w4.heap.size, [U sv, U sm]), (w3.heap.size, [U mv, U mm]), (w2.heap.size, [U jv, U jm]), (w1.heap.size, [U cv, U cm]), (w.heap.size + 1, [U bv, U bm]), (w.heap.size, [U av, U am])], n.val.cell? ⟨w.heap.size, 1, none⟩ = some (U am) := fun n => (n.kp.box.tail.tail.tail.tail.tail.head.two).2.1
        repeat (go_big_quiet_step (first | (go_at_call 22; exact Cl.of (bitsBegun_any _)) | (go_at_call 30; exact Cl.of (N1.out _)) | (go_at_call_of 24 (av); exact Cl.of (hasC HA.out _)) | (go_at_call_of 24 (z); exact Cl.of (hasC N3.out _))))
        refine wpQuiet_nil ?_
        rintro _ ⟨⟨wq, hq⟩, rfl⟩
        go_wp2
        go_ret
        exact ⟨rfl, hq.bel⟩


end Go.Proofs.Ytkigmocchaikgaa
