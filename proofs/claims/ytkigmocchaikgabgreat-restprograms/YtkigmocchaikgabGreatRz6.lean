import Derived.Test.YtkigmocchaikgabGreatRz5
import Derived.Test.YtkigmocchaikgabGreatRz3
import Derived.Test.YtkigmocchaikgabGreatRz4
import Derived.Test.YtkigmocchaikgabGreatRz2
import Derived.Test.YtkigmocchaikgabGreatProg
/- The contract of the reference's twoBits. -/
namespace Go.Proofs.YtkigmocchaikgabGreat
open Go.RowKit
section
attribute [local go_sem] w_and w_or w_xor w_andNot w_and1 w_and63 w_add w_sub w_mul w_sub1 w_add1 w_shl w_shl1 w_shr c_beq c_bne c_beq0 c_bne0 c_beq1 c_bne1 wrap_nv
theorem ba0 : bits .and .i64 0 1 = 0 := by decide
theorem ba1 : bits .and .i64 1 1 = 1 := by decide
theorem ba2 : bits .and .i64 2 1 = 0 := by decide
theorem ba3 : bits .and .i64 3 1 = 1 := by decide
theorem ba4 : bits .and .i64 4 1 = 0 := by decide
theorem ba5 : bits .and .i64 5 1 = 1 := by decide
theorem ba6 : bits .and .i64 6 1 = 0 := by decide
theorem ba7 : bits .and .i64 7 1 = 1 := by decide
attribute [local go_sem] ba0 ba1 ba2 ba3 ba4 ba5 ba6 ba7
theorem bi_t : bi true = 1 := rfl
theorem bi_f : bi false = 0 := rfl
theorem k_cases {k : Nat} (h : k < 8) : k = 0 ∨ k = 1 ∨ k = 2 ∨ k = 3 ∨ k = 4 ∨ k = 5 ∨ k = 6 ∨ k = 7 := by omega
set_option maxRecDepth 100000 in
set_option maxHeartbeats 8000000 in
theorem twoBits_any (op : Int) (av am bv bm : BitVec 64) (w : World) :
  Calls Tryz.prog 118 #[N op, Bt av am, Bt bv bm] w fun e w' => e = .returned (Bt (twoV op av am bv bm 64) (twoM op av am bv bm 64)) ∧ Below w.heap.size w w' := by
 go_enter Tryz.func118, Tryz.ntmps118
 go_wp2_with fail
 have hK0 := (((((Kp.start w).add2 (U av) (U am) 27).add2 (U bv) (U bm) 27).add2 (.int .u64 0) (.int .u64 0) 27).add2 (.int .u64 0) (.int .u64 0) 27).add2 (.bool true) (.bool false) 147
 simp only [World.size_alloc] at hK0
 go_loopw [9] (fun t wr => ∃ (i : Nat) (c0 c1 : Bool) (V M : BitVec 64), i ≤ 64 ∧ t = N i ∧ twoC op av am bv bm i = (c0, c1) ∧ twoV op av am bv bm i = V ∧ twoM op av am bv bm i = M
   ∧ Kp w wr [(w.heap.size + 1 + 1 + 1 + 1, [.bool c0, .bool c1]), (w.heap.size + 1 + 1 + 1, [U V, U M]), (w.heap.size + 1 + 1, [.int .u64 0, .int .u64 0]), (w.heap.size + 1, [U bv, U bm]), (w.heap.size, [U av, U am])]) (fun t _ => 64 - (intOf t).toNat)
 case atStart => exact ⟨0, true, false, zero, zero, by omega, rfl, rfl, rfl, rfl, hK0⟩
 case round =>
  clear hK0
  obtain ⟨i, c0, c1, V, M, hi, rfl, hC, hV, hM, hK⟩ := hrel
  have HC : Hid _ := hC
  have HV : Hid _ := hV
  have HM : Hid _ := hM
  clear hC hV hM
  by_cases hlt : i < 64
  ·obtain ⟨z, o, H1, H2⟩ := may_eq av am i
   obtain ⟨u, p, H3, H4⟩ := may_eq bv bm i
   obtain ⟨R, hR⟩ : ∃ R, R = wr.heap.size := ⟨_, rfl⟩
   have hK1 := (hK.add2 (.bool false) (.bool false) 147).add2 (.bool false) (.bool false) 147
   simp only [World.size_alloc] at hK1
   rw [← hR] at hK1
   have hR' : wr.heap.size = R := hR.symm
   clear hR hK
   have hd : decide ((i : Int) < 64) = true := by simp; omega
   go_wp2_with fail
   clear hR'
   go_loopw [12] (fun t ws => ∃ (k : Nat) (r0 r1 v0 v1 : Bool), k ≤ 8 ∧ t = N k ∧ inn op z o u p c0 c1 k = ((r0, r1), (v0, v1))
     ∧ Kp w ws [(R + 1, [.bool v0, .bool v1]), (R, [.bool r0, .bool r1]), (w.heap.size + 1 + 1 + 1 + 1, [.bool c0, .bool c1]), (w.heap.size + 1 + 1 + 1, [U V, U M]), (w.heap.size + 1 + 1, [.int .u64 0, .int .u64 0]), (w.heap.size + 1, [U bv, U bm]), (w.heap.size, [U av, U am])]) (fun t _ => 8 - (intOf t).toNat)
   case atStart => exact ⟨0, false, false, false, false, by omega, rfl, rfl, hK1⟩
   case round =>
    clear hK1
    obtain ⟨k, r0, r1, v0, v1, hk, rfl, hs, hK⟩ := hrel
    have Hs : Hid _ := hs
    clear hs
    obtain ⟨vv0, vv1, vv2, vv3, vv4⟩ := hK.box.head.two
    obtain ⟨rr0, rr1, rr2, rr3, rr4⟩ := hK.box.tail.head.two
    obtain ⟨cc0, cc1, cc2, cc3, cc4⟩ := hK.box.tail.tail.head.two
    obtain ⟨oo0, oo1, oo2, oo3, oo4⟩ := hK.box.tail.tail.tail.head.two
    obtain ⟨b0, b1, b2, b3, b4⟩ := hK.box.tail.tail.tail.tail.tail.head.two
    obtain ⟨a0, a1, a2, a3, a4⟩ := hK.box.tail.tail.tail.tail.tail.tail.head.two
    by_cases hk8 : k < 8
    ·rcases k_cases hk8 with rfl | rfl | rfl | rfl | rfl | rfl | rfl | rfl
     ·as_aux_lemma =>
      obtain ⟨q1, q2, Hb⟩ := bo_ex op false false false
      go_wp2_with fail
      refine (may_any hlt H1 H2 _).mono ?_
      rintro e w1 ⟨rfl, hb1⟩
      have hK1 := hK.keep hb1
      clear vv0 vv1 vv2 vv3 vv4 rr0 rr1 rr2 rr3 rr4 cc0 cc1 cc2 cc3 cc4 oo0 oo1 oo2 oo3 oo4 b0 b1 b2 b3 b4 a0 a1 a2 a3 a4
      obtain ⟨vv0, vv1, vv2, vv3, vv4⟩ := hK1.box.head.two
      obtain ⟨rr0, rr1, rr2, rr3, rr4⟩ := hK1.box.tail.head.two
      obtain ⟨cc0, cc1, cc2, cc3, cc4⟩ := hK1.box.tail.tail.head.two
      obtain ⟨oo0, oo1, oo2, oo3, oo4⟩ := hK1.box.tail.tail.tail.head.two
      obtain ⟨b0, b1, b2, b3, b4⟩ := hK1.box.tail.tail.tail.tail.tail.head.two
      obtain ⟨a0, a1, a2, a3, a4⟩ := hK1.box.tail.tail.tail.tail.tail.tail.head.two
      go_wp2_with fail
      refine (may_any hlt H3 H4 _).mono ?_
      rintro e w2 ⟨rfl, hb2⟩
      have hK2 := hK1.keep hb2
      clear vv0 vv1 vv2 vv3 vv4 rr0 rr1 rr2 rr3 rr4 cc0 cc1 cc2 cc3 cc4 oo0 oo1 oo2 oo3 oo4 b0 b1 b2 b3 b4 a0 a1 a2 a3 a4
      obtain ⟨vv0, vv1, vv2, vv3, vv4⟩ := hK2.box.head.two
      obtain ⟨rr0, rr1, rr2, rr3, rr4⟩ := hK2.box.tail.head.two
      obtain ⟨cc0, cc1, cc2, cc3, cc4⟩ := hK2.box.tail.tail.head.two
      obtain ⟨oo0, oo1, oo2, oo3, oo4⟩ := hK2.box.tail.tail.tail.head.two
      obtain ⟨b0, b1, b2, b3, b4⟩ := hK2.box.tail.tail.tail.tail.tail.head.two
      obtain ⟨a0, a1, a2, a3, a4⟩ := hK2.box.tail.tail.tail.tail.tail.tail.head.two
      clear hb1 hb2 hK1 hK H1 H2 H3 H4
      cases z
      ·as_aux_lemma =>
        go_wp2_with fail
        go_roundw
        case rel => exact ⟨0 + 1, r0, r1, v0, v1, by omega, rfl, inn_no Hs.out rfl, hK2⟩
        case measure => simp [intOf]
      ·cases u
       ·as_aux_lemma =>
         go_wp2_with fail
         go_roundw
         case rel => exact ⟨0 + 1, r0, r1, v0, v1, by omega, rfl, inn_no Hs.out rfl, hK2⟩
         case measure => simp [intOf]
       ·cases c0
        ·as_aux_lemma =>
          go_wp2_with fail
          go_roundw
          case rel => exact ⟨0 + 1, r0, r1, v0, v1, by omega, rfl, inn_no Hs.out rfl, hK2⟩
          case measure => simp [intOf]
        ·as_aux_lemma =>
          go_wp2_with fail
          refine (bitOf_is Hb _).mono ?_
          rintro e w3 ⟨rfl, rfl⟩
          cases q1 <;> cases q2
          all_goals
           first | rw [bi_t] | rw [bi_f]
           try first | rw [bi_t] | rw [bi_f]
           go_wp2_with fail
           go_roundw
           case rel => exact ⟨0 + 1, _, _, _, _, by omega, rfl, inn_yes Hs.out rfl rfl rfl rfl Hb.out, (hK2.set1 1 rfl rfl).set1 0 rfl rfl⟩
           case measure => simp [intOf]
     ·as_aux_lemma =>
      obtain ⟨q1, q2, Hb⟩ := bo_ex op true false false
      go_wp2_with fail
      refine (may_any hlt H1 H2 _).mono ?_
      rintro e w1 ⟨rfl, hb1⟩
      have hK1 := hK.keep hb1
      clear vv0 vv1 vv2 vv3 vv4 rr0 rr1 rr2 rr3 rr4 cc0 cc1 cc2 cc3 cc4 oo0 oo1 oo2 oo3 oo4 b0 b1 b2 b3 b4 a0 a1 a2 a3 a4
      obtain ⟨vv0, vv1, vv2, vv3, vv4⟩ := hK1.box.head.two
      obtain ⟨rr0, rr1, rr2, rr3, rr4⟩ := hK1.box.tail.head.two
      obtain ⟨cc0, cc1, cc2, cc3, cc4⟩ := hK1.box.tail.tail.head.two
      obtain ⟨oo0, oo1, oo2, oo3, oo4⟩ := hK1.box.tail.tail.tail.head.two
      obtain ⟨b0, b1, b2, b3, b4⟩ := hK1.box.tail.tail.tail.tail.tail.head.two
      obtain ⟨a0, a1, a2, a3, a4⟩ := hK1.box.tail.tail.tail.tail.tail.tail.head.two
      go_wp2_with fail
      refine (may_any hlt H3 H4 _).mono ?_
      rintro e w2 ⟨rfl, hb2⟩
      have hK2 := hK1.keep hb2
      clear vv0 vv1 vv2 vv3 vv4 rr0 rr1 rr2 rr3 rr4 cc0 cc1 cc2 cc3 cc4 oo0 oo1 oo2 oo3 oo4 b0 b1 b2 b3 b4 a0 a1 a2 a3 a4
      obtain ⟨vv0, vv1, vv2, vv3, vv4⟩ := hK2.box.head.two
      obtain ⟨rr0, rr1, rr2, rr3, rr4⟩ := hK2.box.tail.head.two
      obtain ⟨cc0, cc1, cc2, cc3, cc4⟩ := hK2.box.tail.tail.head.two
      obtain ⟨oo0, oo1, oo2, oo3, oo4⟩ := hK2.box.tail.tail.tail.head.two
      obtain ⟨b0, b1, b2, b3, b4⟩ := hK2.box.tail.tail.tail.tail.tail.head.two
      obtain ⟨a0, a1, a2, a3, a4⟩ := hK2.box.tail.tail.tail.tail.tail.tail.head.two
      clear hb1 hb2 hK1 hK H1 H2 H3 H4
      cases o
      ·as_aux_lemma =>
        go_wp2_with fail
        go_roundw
        case rel => exact ⟨1 + 1, r0, r1, v0, v1, by omega, rfl, inn_no Hs.out rfl, hK2⟩
        case measure => simp [intOf]
      ·cases u
       ·as_aux_lemma =>
         go_wp2_with fail
         go_roundw
         case rel => exact ⟨1 + 1, r0, r1, v0, v1, by omega, rfl, inn_no Hs.out rfl, hK2⟩
         case measure => simp [intOf]
       ·cases c0
        ·as_aux_lemma =>
          go_wp2_with fail
          go_roundw
          case rel => exact ⟨1 + 1, r0, r1, v0, v1, by omega, rfl, inn_no Hs.out rfl, hK2⟩
          case measure => simp [intOf]
        ·as_aux_lemma =>
          go_wp2_with fail
          refine (bitOf_is Hb _).mono ?_
          rintro e w3 ⟨rfl, rfl⟩
          cases q1 <;> cases q2
          all_goals
           first | rw [bi_t] | rw [bi_f]
           try first | rw [bi_t] | rw [bi_f]
           go_wp2_with fail
           go_roundw
           case rel => exact ⟨1 + 1, _, _, _, _, by omega, rfl, inn_yes Hs.out rfl rfl rfl rfl Hb.out, (hK2.set1 1 rfl rfl).set1 0 rfl rfl⟩
           case measure => simp [intOf]
     ·as_aux_lemma =>
      obtain ⟨q1, q2, Hb⟩ := bo_ex op false true false
      go_wp2_with fail
      refine (may_any hlt H1 H2 _).mono ?_
      rintro e w1 ⟨rfl, hb1⟩
      have hK1 := hK.keep hb1
      clear vv0 vv1 vv2 vv3 vv4 rr0 rr1 rr2 rr3 rr4 cc0 cc1 cc2 cc3 cc4 oo0 oo1 oo2 oo3 oo4 b0 b1 b2 b3 b4 a0 a1 a2 a3 a4
      obtain ⟨vv0, vv1, vv2, vv3, vv4⟩ := hK1.box.head.two
      obtain ⟨rr0, rr1, rr2, rr3, rr4⟩ := hK1.box.tail.head.two
      obtain ⟨cc0, cc1, cc2, cc3, cc4⟩ := hK1.box.tail.tail.head.two
      obtain ⟨oo0, oo1, oo2, oo3, oo4⟩ := hK1.box.tail.tail.tail.head.two
      obtain ⟨b0, b1, b2, b3, b4⟩ := hK1.box.tail.tail.tail.tail.tail.head.two
      obtain ⟨a0, a1, a2, a3, a4⟩ := hK1.box.tail.tail.tail.tail.tail.tail.head.two
      go_wp2_with fail
      refine (may_any hlt H3 H4 _).mono ?_
      rintro e w2 ⟨rfl, hb2⟩
      have hK2 := hK1.keep hb2
      clear vv0 vv1 vv2 vv3 vv4 rr0 rr1 rr2 rr3 rr4 cc0 cc1 cc2 cc3 cc4 oo0 oo1 oo2 oo3 oo4 b0 b1 b2 b3 b4 a0 a1 a2 a3 a4
      obtain ⟨vv0, vv1, vv2, vv3, vv4⟩ := hK2.box.head.two
      obtain ⟨rr0, rr1, rr2, rr3, rr4⟩ := hK2.box.tail.head.two
      obtain ⟨cc0, cc1, cc2, cc3, cc4⟩ := hK2.box.tail.tail.head.two
      obtain ⟨oo0, oo1, oo2, oo3, oo4⟩ := hK2.box.tail.tail.tail.head.two
      obtain ⟨b0, b1, b2, b3, b4⟩ := hK2.box.tail.tail.tail.tail.tail.head.two
      obtain ⟨a0, a1, a2, a3, a4⟩ := hK2.box.tail.tail.tail.tail.tail.tail.head.two
      clear hb1 hb2 hK1 hK H1 H2 H3 H4
      cases z
      ·as_aux_lemma =>
        go_wp2_with fail
        go_roundw
        case rel => exact ⟨2 + 1, r0, r1, v0, v1, by omega, rfl, inn_no Hs.out rfl, hK2⟩
        case measure => simp [intOf]
      ·cases p
       ·as_aux_lemma =>
         go_wp2_with fail
         go_roundw
         case rel => exact ⟨2 + 1, r0, r1, v0, v1, by omega, rfl, inn_no Hs.out rfl, hK2⟩
         case measure => simp [intOf]
       ·cases c0
        ·as_aux_lemma =>
          go_wp2_with fail
          go_roundw
          case rel => exact ⟨2 + 1, r0, r1, v0, v1, by omega, rfl, inn_no Hs.out rfl, hK2⟩
          case measure => simp [intOf]
        ·as_aux_lemma =>
          go_wp2_with fail
          refine (bitOf_is Hb _).mono ?_
          rintro e w3 ⟨rfl, rfl⟩
          cases q1 <;> cases q2
          all_goals
           first | rw [bi_t] | rw [bi_f]
           try first | rw [bi_t] | rw [bi_f]
           go_wp2_with fail
           go_roundw
           case rel => exact ⟨2 + 1, _, _, _, _, by omega, rfl, inn_yes Hs.out rfl rfl rfl rfl Hb.out, (hK2.set1 1 rfl rfl).set1 0 rfl rfl⟩
           case measure => simp [intOf]
     ·as_aux_lemma =>
      obtain ⟨q1, q2, Hb⟩ := bo_ex op true true false
      go_wp2_with fail
      refine (may_any hlt H1 H2 _).mono ?_
      rintro e w1 ⟨rfl, hb1⟩
      have hK1 := hK.keep hb1
      clear vv0 vv1 vv2 vv3 vv4 rr0 rr1 rr2 rr3 rr4 cc0 cc1 cc2 cc3 cc4 oo0 oo1 oo2 oo3 oo4 b0 b1 b2 b3 b4 a0 a1 a2 a3 a4
      obtain ⟨vv0, vv1, vv2, vv3, vv4⟩ := hK1.box.head.two
      obtain ⟨rr0, rr1, rr2, rr3, rr4⟩ := hK1.box.tail.head.two
      obtain ⟨cc0, cc1, cc2, cc3, cc4⟩ := hK1.box.tail.tail.head.two
      obtain ⟨oo0, oo1, oo2, oo3, oo4⟩ := hK1.box.tail.tail.tail.head.two
      obtain ⟨b0, b1, b2, b3, b4⟩ := hK1.box.tail.tail.tail.tail.tail.head.two
      obtain ⟨a0, a1, a2, a3, a4⟩ := hK1.box.tail.tail.tail.tail.tail.tail.head.two
      go_wp2_with fail
      refine (may_any hlt H3 H4 _).mono ?_
      rintro e w2 ⟨rfl, hb2⟩
      have hK2 := hK1.keep hb2
      clear vv0 vv1 vv2 vv3 vv4 rr0 rr1 rr2 rr3 rr4 cc0 cc1 cc2 cc3 cc4 oo0 oo1 oo2 oo3 oo4 b0 b1 b2 b3 b4 a0 a1 a2 a3 a4
      obtain ⟨vv0, vv1, vv2, vv3, vv4⟩ := hK2.box.head.two
      obtain ⟨rr0, rr1, rr2, rr3, rr4⟩ := hK2.box.tail.head.two
      obtain ⟨cc0, cc1, cc2, cc3, cc4⟩ := hK2.box.tail.tail.head.two
      obtain ⟨oo0, oo1, oo2, oo3, oo4⟩ := hK2.box.tail.tail.tail.head.two
      obtain ⟨b0, b1, b2, b3, b4⟩ := hK2.box.tail.tail.tail.tail.tail.head.two
      obtain ⟨a0, a1, a2, a3, a4⟩ := hK2.box.tail.tail.tail.tail.tail.tail.head.two
      clear hb1 hb2 hK1 hK H1 H2 H3 H4
      cases o
      ·as_aux_lemma =>
        go_wp2_with fail
        go_roundw
        case rel => exact ⟨3 + 1, r0, r1, v0, v1, by omega, rfl, inn_no Hs.out rfl, hK2⟩
        case measure => simp [intOf]
      ·cases p
       ·as_aux_lemma =>
         go_wp2_with fail
         go_roundw
         case rel => exact ⟨3 + 1, r0, r1, v0, v1, by omega, rfl, inn_no Hs.out rfl, hK2⟩
         case measure => simp [intOf]
       ·cases c0
        ·as_aux_lemma =>
          go_wp2_with fail
          go_roundw
          case rel => exact ⟨3 + 1, r0, r1, v0, v1, by omega, rfl, inn_no Hs.out rfl, hK2⟩
          case measure => simp [intOf]
        ·as_aux_lemma =>
          go_wp2_with fail
          refine (bitOf_is Hb _).mono ?_
          rintro e w3 ⟨rfl, rfl⟩
          cases q1 <;> cases q2
          all_goals
           first | rw [bi_t] | rw [bi_f]
           try first | rw [bi_t] | rw [bi_f]
           go_wp2_with fail
           go_roundw
           case rel => exact ⟨3 + 1, _, _, _, _, by omega, rfl, inn_yes Hs.out rfl rfl rfl rfl Hb.out, (hK2.set1 1 rfl rfl).set1 0 rfl rfl⟩
           case measure => simp [intOf]
     ·as_aux_lemma =>
      obtain ⟨q1, q2, Hb⟩ := bo_ex op false false true
      go_wp2_with fail
      refine (may_any hlt H1 H2 _).mono ?_
      rintro e w1 ⟨rfl, hb1⟩
      have hK1 := hK.keep hb1
      clear vv0 vv1 vv2 vv3 vv4 rr0 rr1 rr2 rr3 rr4 cc0 cc1 cc2 cc3 cc4 oo0 oo1 oo2 oo3 oo4 b0 b1 b2 b3 b4 a0 a1 a2 a3 a4
      obtain ⟨vv0, vv1, vv2, vv3, vv4⟩ := hK1.box.head.two
      obtain ⟨rr0, rr1, rr2, rr3, rr4⟩ := hK1.box.tail.head.two
      obtain ⟨cc0, cc1, cc2, cc3, cc4⟩ := hK1.box.tail.tail.head.two
      obtain ⟨oo0, oo1, oo2, oo3, oo4⟩ := hK1.box.tail.tail.tail.head.two
      obtain ⟨b0, b1, b2, b3, b4⟩ := hK1.box.tail.tail.tail.tail.tail.head.two
      obtain ⟨a0, a1, a2, a3, a4⟩ := hK1.box.tail.tail.tail.tail.tail.tail.head.two
      go_wp2_with fail
      refine (may_any hlt H3 H4 _).mono ?_
      rintro e w2 ⟨rfl, hb2⟩
      have hK2 := hK1.keep hb2
      clear vv0 vv1 vv2 vv3 vv4 rr0 rr1 rr2 rr3 rr4 cc0 cc1 cc2 cc3 cc4 oo0 oo1 oo2 oo3 oo4 b0 b1 b2 b3 b4 a0 a1 a2 a3 a4
      obtain ⟨vv0, vv1, vv2, vv3, vv4⟩ := hK2.box.head.two
      obtain ⟨rr0, rr1, rr2, rr3, rr4⟩ := hK2.box.tail.head.two
      obtain ⟨cc0, cc1, cc2, cc3, cc4⟩ := hK2.box.tail.tail.head.two
      obtain ⟨oo0, oo1, oo2, oo3, oo4⟩ := hK2.box.tail.tail.tail.head.two
      obtain ⟨b0, b1, b2, b3, b4⟩ := hK2.box.tail.tail.tail.tail.tail.head.two
      obtain ⟨a0, a1, a2, a3, a4⟩ := hK2.box.tail.tail.tail.tail.tail.tail.head.two
      clear hb1 hb2 hK1 hK H1 H2 H3 H4
      cases z
      ·as_aux_lemma =>
        go_wp2_with fail
        go_roundw
        case rel => exact ⟨4 + 1, r0, r1, v0, v1, by omega, rfl, inn_no Hs.out rfl, hK2⟩
        case measure => simp [intOf]
      ·cases u
       ·as_aux_lemma =>
         go_wp2_with fail
         go_roundw
         case rel => exact ⟨4 + 1, r0, r1, v0, v1, by omega, rfl, inn_no Hs.out rfl, hK2⟩
         case measure => simp [intOf]
       ·cases c1
        ·as_aux_lemma =>
          go_wp2_with fail
          go_roundw
          case rel => exact ⟨4 + 1, r0, r1, v0, v1, by omega, rfl, inn_no Hs.out rfl, hK2⟩
          case measure => simp [intOf]
        ·as_aux_lemma =>
          go_wp2_with fail
          refine (bitOf_is Hb _).mono ?_
          rintro e w3 ⟨rfl, rfl⟩
          cases q1 <;> cases q2
          all_goals
           first | rw [bi_t] | rw [bi_f]
           try first | rw [bi_t] | rw [bi_f]
           go_wp2_with fail
           go_roundw
           case rel => exact ⟨4 + 1, _, _, _, _, by omega, rfl, inn_yes Hs.out rfl rfl rfl rfl Hb.out, (hK2.set1 1 rfl rfl).set1 0 rfl rfl⟩
           case measure => simp [intOf]
     ·as_aux_lemma =>
      obtain ⟨q1, q2, Hb⟩ := bo_ex op true false true
      go_wp2_with fail
      refine (may_any hlt H1 H2 _).mono ?_
      rintro e w1 ⟨rfl, hb1⟩
      have hK1 := hK.keep hb1
      clear vv0 vv1 vv2 vv3 vv4 rr0 rr1 rr2 rr3 rr4 cc0 cc1 cc2 cc3 cc4 oo0 oo1 oo2 oo3 oo4 b0 b1 b2 b3 b4 a0 a1 a2 a3 a4
      obtain ⟨vv0, vv1, vv2, vv3, vv4⟩ := hK1.box.head.two
      obtain ⟨rr0, rr1, rr2, rr3, rr4⟩ := hK1.box.tail.head.two
      obtain ⟨cc0, cc1, cc2, cc3, cc4⟩ := hK1.box.tail.tail.head.two
      obtain ⟨oo0, oo1, oo2, oo3, oo4⟩ := hK1.box.tail.tail.tail.head.two
      obtain ⟨b0, b1, b2, b3, b4⟩ := hK1.box.tail.tail.tail.tail.tail.head.two
      obtain ⟨a0, a1, a2, a3, a4⟩ := hK1.box.tail.tail.tail.tail.tail.tail.head.two
      go_wp2_with fail
      refine (may_any hlt H3 H4 _).mono ?_
      rintro e w2 ⟨rfl, hb2⟩
      have hK2 := hK1.keep hb2
      clear vv0 vv1 vv2 vv3 vv4 rr0 rr1 rr2 rr3 rr4 cc0 cc1 cc2 cc3 cc4 oo0 oo1 oo2 oo3 oo4 b0 b1 b2 b3 b4 a0 a1 a2 a3 a4
      obtain ⟨vv0, vv1, vv2, vv3, vv4⟩ := hK2.box.head.two
      obtain ⟨rr0, rr1, rr2, rr3, rr4⟩ := hK2.box.tail.head.two
      obtain ⟨cc0, cc1, cc2, cc3, cc4⟩ := hK2.box.tail.tail.head.two
      obtain ⟨oo0, oo1, oo2, oo3, oo4⟩ := hK2.box.tail.tail.tail.head.two
      obtain ⟨b0, b1, b2, b3, b4⟩ := hK2.box.tail.tail.tail.tail.tail.head.two
      obtain ⟨a0, a1, a2, a3, a4⟩ := hK2.box.tail.tail.tail.tail.tail.tail.head.two
      clear hb1 hb2 hK1 hK H1 H2 H3 H4
      cases o
      ·as_aux_lemma =>
        go_wp2_with fail
        go_roundw
        case rel => exact ⟨5 + 1, r0, r1, v0, v1, by omega, rfl, inn_no Hs.out rfl, hK2⟩
        case measure => simp [intOf]
      ·cases u
       ·as_aux_lemma =>
         go_wp2_with fail
         go_roundw
         case rel => exact ⟨5 + 1, r0, r1, v0, v1, by omega, rfl, inn_no Hs.out rfl, hK2⟩
         case measure => simp [intOf]
       ·cases c1
        ·as_aux_lemma =>
          go_wp2_with fail
          go_roundw
          case rel => exact ⟨5 + 1, r0, r1, v0, v1, by omega, rfl, inn_no Hs.out rfl, hK2⟩
          case measure => simp [intOf]
        ·as_aux_lemma =>
          go_wp2_with fail
          refine (bitOf_is Hb _).mono ?_
          rintro e w3 ⟨rfl, rfl⟩
          cases q1 <;> cases q2
          all_goals
           first | rw [bi_t] | rw [bi_f]
           try first | rw [bi_t] | rw [bi_f]
           go_wp2_with fail
           go_roundw
           case rel => exact ⟨5 + 1, _, _, _, _, by omega, rfl, inn_yes Hs.out rfl rfl rfl rfl Hb.out, (hK2.set1 1 rfl rfl).set1 0 rfl rfl⟩
           case measure => simp [intOf]
     ·as_aux_lemma =>
      obtain ⟨q1, q2, Hb⟩ := bo_ex op false true true
      go_wp2_with fail
      refine (may_any hlt H1 H2 _).mono ?_
      rintro e w1 ⟨rfl, hb1⟩
      have hK1 := hK.keep hb1
      clear vv0 vv1 vv2 vv3 vv4 rr0 rr1 rr2 rr3 rr4 cc0 cc1 cc2 cc3 cc4 oo0 oo1 oo2 oo3 oo4 b0 b1 b2 b3 b4 a0 a1 a2 a3 a4
      obtain ⟨vv0, vv1, vv2, vv3, vv4⟩ := hK1.box.head.two
      obtain ⟨rr0, rr1, rr2, rr3, rr4⟩ := hK1.box.tail.head.two
      obtain ⟨cc0, cc1, cc2, cc3, cc4⟩ := hK1.box.tail.tail.head.two
      obtain ⟨oo0, oo1, oo2, oo3, oo4⟩ := hK1.box.tail.tail.tail.head.two
      obtain ⟨b0, b1, b2, b3, b4⟩ := hK1.box.tail.tail.tail.tail.tail.head.two
      obtain ⟨a0, a1, a2, a3, a4⟩ := hK1.box.tail.tail.tail.tail.tail.tail.head.two
      go_wp2_with fail
      refine (may_any hlt H3 H4 _).mono ?_
      rintro e w2 ⟨rfl, hb2⟩
      have hK2 := hK1.keep hb2
      clear vv0 vv1 vv2 vv3 vv4 rr0 rr1 rr2 rr3 rr4 cc0 cc1 cc2 cc3 cc4 oo0 oo1 oo2 oo3 oo4 b0 b1 b2 b3 b4 a0 a1 a2 a3 a4
      obtain ⟨vv0, vv1, vv2, vv3, vv4⟩ := hK2.box.head.two
      obtain ⟨rr0, rr1, rr2, rr3, rr4⟩ := hK2.box.tail.head.two
      obtain ⟨cc0, cc1, cc2, cc3, cc4⟩ := hK2.box.tail.tail.head.two
      obtain ⟨oo0, oo1, oo2, oo3, oo4⟩ := hK2.box.tail.tail.tail.head.two
      obtain ⟨b0, b1, b2, b3, b4⟩ := hK2.box.tail.tail.tail.tail.tail.head.two
      obtain ⟨a0, a1, a2, a3, a4⟩ := hK2.box.tail.tail.tail.tail.tail.tail.head.two
      clear hb1 hb2 hK1 hK H1 H2 H3 H4
      cases z
      ·as_aux_lemma =>
        go_wp2_with fail
        go_roundw
        case rel => exact ⟨6 + 1, r0, r1, v0, v1, by omega, rfl, inn_no Hs.out rfl, hK2⟩
        case measure => simp [intOf]
      ·cases p
       ·as_aux_lemma =>
         go_wp2_with fail
         go_roundw
         case rel => exact ⟨6 + 1, r0, r1, v0, v1, by omega, rfl, inn_no Hs.out rfl, hK2⟩
         case measure => simp [intOf]
       ·cases c1
        ·as_aux_lemma =>
          go_wp2_with fail
          go_roundw
          case rel => exact ⟨6 + 1, r0, r1, v0, v1, by omega, rfl, inn_no Hs.out rfl, hK2⟩
          case measure => simp [intOf]
        ·as_aux_lemma =>
          go_wp2_with fail
          refine (bitOf_is Hb _).mono ?_
          rintro e w3 ⟨rfl, rfl⟩
          cases q1 <;> cases q2
          all_goals
           first | rw [bi_t] | rw [bi_f]
           try first | rw [bi_t] | rw [bi_f]
           go_wp2_with fail
           go_roundw
           case rel => exact ⟨6 + 1, _, _, _, _, by omega, rfl, inn_yes Hs.out rfl rfl rfl rfl Hb.out, (hK2.set1 1 rfl rfl).set1 0 rfl rfl⟩
           case measure => simp [intOf]
     ·as_aux_lemma =>
      obtain ⟨q1, q2, Hb⟩ := bo_ex op true true true
      go_wp2_with fail
      refine (may_any hlt H1 H2 _).mono ?_
      rintro e w1 ⟨rfl, hb1⟩
      have hK1 := hK.keep hb1
      clear vv0 vv1 vv2 vv3 vv4 rr0 rr1 rr2 rr3 rr4 cc0 cc1 cc2 cc3 cc4 oo0 oo1 oo2 oo3 oo4 b0 b1 b2 b3 b4 a0 a1 a2 a3 a4
      obtain ⟨vv0, vv1, vv2, vv3, vv4⟩ := hK1.box.head.two
      obtain ⟨rr0, rr1, rr2, rr3, rr4⟩ := hK1.box.tail.head.two
      obtain ⟨cc0, cc1, cc2, cc3, cc4⟩ := hK1.box.tail.tail.head.two
      obtain ⟨oo0, oo1, oo2, oo3, oo4⟩ := hK1.box.tail.tail.tail.head.two
      obtain ⟨b0, b1, b2, b3, b4⟩ := hK1.box.tail.tail.tail.tail.tail.head.two
      obtain ⟨a0, a1, a2, a3, a4⟩ := hK1.box.tail.tail.tail.tail.tail.tail.head.two
      go_wp2_with fail
      refine (may_any hlt H3 H4 _).mono ?_
      rintro e w2 ⟨rfl, hb2⟩
      have hK2 := hK1.keep hb2
      clear vv0 vv1 vv2 vv3 vv4 rr0 rr1 rr2 rr3 rr4 cc0 cc1 cc2 cc3 cc4 oo0 oo1 oo2 oo3 oo4 b0 b1 b2 b3 b4 a0 a1 a2 a3 a4
      obtain ⟨vv0, vv1, vv2, vv3, vv4⟩ := hK2.box.head.two
      obtain ⟨rr0, rr1, rr2, rr3, rr4⟩ := hK2.box.tail.head.two
      obtain ⟨cc0, cc1, cc2, cc3, cc4⟩ := hK2.box.tail.tail.head.two
      obtain ⟨oo0, oo1, oo2, oo3, oo4⟩ := hK2.box.tail.tail.tail.head.two
      obtain ⟨b0, b1, b2, b3, b4⟩ := hK2.box.tail.tail.tail.tail.tail.head.two
      obtain ⟨a0, a1, a2, a3, a4⟩ := hK2.box.tail.tail.tail.tail.tail.tail.head.two
      clear hb1 hb2 hK1 hK H1 H2 H3 H4
      cases o
      ·as_aux_lemma =>
        go_wp2_with fail
        go_roundw
        case rel => exact ⟨7 + 1, r0, r1, v0, v1, by omega, rfl, inn_no Hs.out rfl, hK2⟩
        case measure => simp [intOf]
      ·cases p
       ·as_aux_lemma =>
         go_wp2_with fail
         go_roundw
         case rel => exact ⟨7 + 1, r0, r1, v0, v1, by omega, rfl, inn_no Hs.out rfl, hK2⟩
         case measure => simp [intOf]
       ·cases c1
        ·as_aux_lemma =>
          go_wp2_with fail
          go_roundw
          case rel => exact ⟨7 + 1, r0, r1, v0, v1, by omega, rfl, inn_no Hs.out rfl, hK2⟩
          case measure => simp [intOf]
        ·as_aux_lemma =>
          go_wp2_with fail
          refine (bitOf_is Hb _).mono ?_
          rintro e w3 ⟨rfl, rfl⟩
          cases q1 <;> cases q2
          all_goals
           first | rw [bi_t] | rw [bi_f]
           try first | rw [bi_t] | rw [bi_f]
           go_wp2_with fail
           go_roundw
           case rel => exact ⟨7 + 1, _, _, _, _, by omega, rfl, inn_yes Hs.out rfl rfl rfl rfl Hb.out, (hK2.set1 1 rfl rfl).set1 0 rfl rfl⟩
           case measure => simp [intOf]
    ·have e8 : k = 8 := by omega
     subst e8
     go_wp2_with fail
     refine (put_any _ _ i hlt _ _ _).mono ?_
     rintro e w1 ⟨rfl, hb1⟩
     have hK1 := hK.keep hb1
     clear vv0 vv1 vv2 vv3 vv4 rr0 rr1 rr2 rr3 rr4 cc0 cc1 cc2 cc3 cc4 oo0 oo1 oo2 oo3 oo4 b0 b1 b2 b3 b4 a0 a1 a2 a3 a4
     obtain ⟨vv0, vv1, vv2, vv3, vv4⟩ := hK1.box.head.two
     obtain ⟨rr0, rr1, rr2, rr3, rr4⟩ := hK1.box.tail.head.two
     obtain ⟨cc0, cc1, cc2, cc3, cc4⟩ := hK1.box.tail.tail.head.two
     obtain ⟨oo0, oo1, oo2, oo3, oo4⟩ := hK1.box.tail.tail.tail.head.two
     obtain ⟨b0, b1, b2, b3, b4⟩ := hK1.box.tail.tail.tail.tail.tail.head.two
     obtain ⟨a0, a1, a2, a3, a4⟩ := hK1.box.tail.tail.tail.tail.tail.tail.head.two
     have hK2 := hK1.set2 (x := U (putV V i r0 r1)) (y := U (putM M i r0 r1)) 3 rfl
     obtain ⟨vvv0, vvv1, vvv2, vvv3, vvv4⟩ := hK2.box.head.two
     obtain ⟨ccc0, ccc1, ccc2, ccc3, ccc4⟩ := hK2.box.tail.tail.head.two
     go_wp2_with fail
     have hS : inn op (mz av i) (mo av am i) (mz bv i) (mo bv bm i) (twoC op av am bv bm i).1 (twoC op av am bv bm i).2 8 = ((r0, r1), (v0, v1)) := by
      rw [← H1.out, ← H2.out, ← H3.out, ← H4.out, HC.out]; exact Hs.out
     have hR1 : twoR op av am bv bm i = (r0, r1) := by unfold twoR; rw [hS]
     exact ⟨⟨i + 1, v0, v1, _, _, by omega, by go_num, by show (inn op (mz av i) (mo av am i) (mz bv i) (mo bv bm i) (twoC op av am bv bm i).1 (twoC op av am bv bm i).2 8).2 = _; rw [hS],
      by rw [← twoV_succ, hR1, HV.out], by rw [← twoM_succ, hR1, HM.out], ⟨((hK2.set2 (x := .bool v0) (y := .bool v1) 2 rfl)).bel, ((hK2.set2 (x := .bool v0) (y := .bool v1) 2 rfl)).box.tail.tail, fun q hq => ((hK2.set2 (x := .bool v0) (y := .bool v1) 2 rfl)).lo q (List.mem_cons_of_mem _ (List.mem_cons_of_mem _ hq))⟩⟩, by simp [intOf]; omega⟩
  ·have e64 : i = 64 := by omega
   subst e64
   obtain ⟨cc0, cc1, cc2, cc3, cc4⟩ := hK.box.head.two
   obtain ⟨oo0, oo1, oo2, oo3, oo4⟩ := hK.box.tail.head.two
   obtain ⟨zz0, zz1, zz2, zz3, zz4⟩ := hK.box.tail.tail.head.two
   obtain ⟨b0, b1, b2, b3, b4⟩ := hK.box.tail.tail.tail.head.two
   obtain ⟨a0, a1, a2, a3, a4⟩ := hK.box.tail.tail.tail.tail.head.two
   go_wp2_with fail
   rw [← HV.out, ← HM.out] at *
   exact bodyPost_ret (v := Bt (twoV op av am bv bm 64) (twoM op av am bv bm 64)) (by simp [results, Tryz.results118, go_sem, zz0, zz1]) rfl ⟨rfl, (hK.set2 (x := _) (y := _) 2 rfl).bel⟩
end
end Go.Proofs.YtkigmocchaikgabGreat
/- That twoBits' answers are package bits' own: add, sub, and, or, xor; plain facts. -/
namespace Go.Proofs.YtkigmocchaikgabGreat
/- the eight ways of one bit, decided -/
theorem inn_add : ∀ a m b n cm cM : Bool, (a && m) = false → (b && n) = false → (cm = true → cM = true) →
  (inn 2 (!a) (a || m) (!b) (b || n) (!cm) cM 8).2 = (!((a && b) || (cm && (a || b))), ((a || m) && (b || n)) || (cM && ((a || m) || (b || n))))
  ∧ ((inn 2 (!a) (a || m) (!b) (b || n) (!cm) cM 8).1.2 && (inn 2 (!a) (a || m) (!b) (b || n) (!cm) cM 8).1.1) = (m || n || (!cm && cM))
  ∧ ((inn 2 (!a) (a || m) (!b) (b || n) (!cm) cM 8).1.2 && !(inn 2 (!a) (a || m) (!b) (b || n) (!cm) cM 8).1.1) = (((a ^^ b) ^^ cm) && !(m || n || (!cm && cM))) := by
 decide
theorem inn_sub : ∀ a m b n cm cM : Bool, (a && m) = false → (b && n) = false → (cm = true → cM = true) →
  (inn 3 (!a) (a || m) (!b) (b || n) (!cm) cM 8).2 = (!((!(a || m) && b) || (cm && (!(a || m) || b))), (!a && (b || n)) || (cM && (!a || (b || n))))
  ∧ ((inn 3 (!a) (a || m) (!b) (b || n) (!cm) cM 8).1.2 && (inn 3 (!a) (a || m) (!b) (b || n) (!cm) cM 8).1.1) = (m || n || (!cm && cM))
  ∧ ((inn 3 (!a) (a || m) (!b) (b || n) (!cm) cM 8).1.2 && !(inn 3 (!a) (a || m) (!b) (b || n) (!cm) cM 8).1.1) = (((a ^^ b) ^^ cm) && !(m || n || (!cm && cM))) := by
 decide
theorem inn_and : ∀ a m b n : Bool, (a && m) = false → (b && n) = false →
  (inn 5 (!a) (a || m) (!b) (b || n) true false 8).2 = (true, false)
  ∧ ((inn 5 (!a) (a || m) (!b) (b || n) true false 8).1.2 && (inn 5 (!a) (a || m) (!b) (b || n) true false 8).1.1) = (((a || m) && (b || n)) && !(a && b))
  ∧ ((inn 5 (!a) (a || m) (!b) (b || n) true false 8).1.2 && !(inn 5 (!a) (a || m) (!b) (b || n) true false 8).1.1) = (a && b) := by
 decide
theorem inn_or : ∀ a m b n : Bool, (a && m) = false → (b && n) = false →
  (inn 6 (!a) (a || m) (!b) (b || n) true false 8).2 = (true, false)
  ∧ ((inn 6 (!a) (a || m) (!b) (b || n) true false 8).1.2 && (inn 6 (!a) (a || m) (!b) (b || n) true false 8).1.1) = ((m || n) && !(a || b))
  ∧ ((inn 6 (!a) (a || m) (!b) (b || n) true false 8).1.2 && !(inn 6 (!a) (a || m) (!b) (b || n) true false 8).1.1) = (a || b) := by
 decide
theorem inn_xor : ∀ a m b n : Bool, (a && m) = false → (b && n) = false →
  (inn 7 (!a) (a || m) (!b) (b || n) true false 8).2 = (true, false)
  ∧ ((inn 7 (!a) (a || m) (!b) (b || n) true false 8).1.2 && (inn 7 (!a) (a || m) (!b) (b || n) true false 8).1.1) = (m || n)
  ∧ ((inn 7 (!a) (a || m) (!b) (b || n) true false 8).1.2 && !(inn 7 (!a) (a || m) (!b) (b || n) true false 8).1.1) = ((a ^^ b) && !(m || n)) := by
 decide
theorem cy_le (av am bv bm : BitVec 64) (i : Nat) : cy av bv i = true → cy (bor av am) (bor bv bm) i = true :=
 cy_mono av bv (bor av am) (bor bv bm) (fun i h => by rw [bit_or, h]; rfl) (fun i h => by rw [bit_or, h]; rfl) i
theorem bw_le (av am bv bm : BitVec 64) (i : Nat) : bw (bor av am) bv i = true → bw av (bor bv bm) i = true :=
 bw_mono (bor av am) bv av (bor bv bm) (fun i h => by rw [bit_or, h]; rfl) (fun i h => by rw [bit_or, h]; rfl) i
theorem twoC_add {av am bv bm : BitVec 64} (ha : ∀ j, (bit av j && bit am j) = false) (hb : ∀ j, (bit bv j && bit bm j) = false) (i : Nat) : twoC 2 av am bv bm i = (!cy av bv i, cy (bor av am) (bor bv bm) i) := by
 induction i with
 | zero => rw [cy_zero, cy_zero]; rfl
 | succ i ih =>
  simp only [twoC]
  rw [ih, cy_succ, cy_succ, bit_or, bit_or]
  exact (inn_add (bit av i) (bit am i) (bit bv i) (bit bm i) (cy av bv i) (cy (bor av am) (bor bv bm) i) (ha i) (hb i) (cy_le av am bv bm i)).1
theorem two_add {av am bv bm : BitVec 64} (ha : ∀ j, (bit av j && bit am j) = false) (hb : ∀ j, (bit bv j && bit bm j) = false) : twoV 2 av am bv bm 64 = bandn (badd av bv) (addM av am bv bm) ∧ twoM 2 av am bv bm 64 = addM av am bv bm := by
 have key := fun j => inn_add (bit av j) (bit am j) (bit bv j) (bit bm j) (cy av bv j) (cy (bor av am) (bor bv bm) j) (ha j) (hb j) (cy_le av am bv bm j)
 constructor
 ·apply acc_eq; intro j hj
  simp only [twoR]
  rw [twoC_add ha hb j, bit_andn _ _ _ hj, bit_add _ _ _ hj]
  unfold addM
  rw [addM_bit ha hb j hj]
  exact (key j).2.2
 ·apply acc_eq; intro j hj
  simp only [twoR]
  rw [twoC_add ha hb j]
  unfold addM
  rw [addM_bit ha hb j hj]
  exact (key j).2.1
theorem twoC_sub {av am bv bm : BitVec 64} (ha : ∀ j, (bit av j && bit am j) = false) (hb : ∀ j, (bit bv j && bit bm j) = false) (i : Nat) (hi : i ≤ 64) : twoC 3 av am bv bm i = (!bw (bor av am) bv i, bw av (bor bv bm) i) := by
 induction i with
 | zero => rw [bw_zero, bw_zero]; rfl
 | succ i ih =>
  simp only [twoC]
  rw [ih (by omega), bw_succ _ _ _ (by omega), bw_succ _ _ _ (by omega), bit_or, bit_or]
  exact (inn_sub (bit av i) (bit am i) (bit bv i) (bit bm i) (bw (bor av am) bv i) (bw av (bor bv bm) i) (ha i) (hb i) (bw_le av am bv bm i)).1
theorem two_sub {av am bv bm : BitVec 64} (ha : ∀ j, (bit av j && bit am j) = false) (hb : ∀ j, (bit bv j && bit bm j) = false) : twoV 3 av am bv bm 64 = bandn (bsub av bv) (subM av am bv bm) ∧ twoM 3 av am bv bm 64 = subM av am bv bm := by
 have key := fun j => inn_sub (bit av j) (bit am j) (bit bv j) (bit bm j) (bw (bor av am) bv j) (bw av (bor bv bm) j) (ha j) (hb j) (bw_le av am bv bm j)
 constructor
 ·apply acc_eq; intro j hj
  simp only [twoR]
  rw [twoC_sub ha hb j (by omega), bit_andn _ _ _ hj, bit_sub _ _ _ hj]
  unfold subM
  rw [subM_bit ha hb j hj]
  have h1 := (key j).2.2
  have m3 := bw_mono (bor av am) bv av bv (fun i h => by rw [bit_or, h]; rfl) (fun i h => h) j
  have m4 := bw_mono av bv av (bor bv bm) (fun i h => h) (fun i h => by rw [bit_or, h]; rfl) j
  refine h1.trans ?_
  revert m3 m4
  cases bit av j <;> cases bit am j <;> cases bit bv j <;> cases bit bm j <;> cases bw (bor av am) bv j <;> cases bw av bv j <;> cases bw av (bor bv bm) j <;> simp
 ·apply acc_eq; intro j hj
  simp only [twoR]
  rw [twoC_sub ha hb j (by omega)]
  unfold subM
  rw [subM_bit ha hb j hj]
  exact (key j).2.1
theorem twoC_and {av am bv bm : BitVec 64} (ha : ∀ j, (bit av j && bit am j) = false) (hb : ∀ j, (bit bv j && bit bm j) = false) (i : Nat) : twoC 5 av am bv bm i = (true, false) := by
 induction i with
 | zero => rfl
 | succ i ih => simp only [twoC]; rw [ih]; exact (inn_and (bit av i) (bit am i) (bit bv i) (bit bm i) (ha i) (hb i)).1
theorem two_and {av am bv bm : BitVec 64} (ha : ∀ j, (bit av j && bit am j) = false) (hb : ∀ j, (bit bv j && bit bm j) = false) : twoV 5 av am bv bm 64 = band av bv ∧ twoM 5 av am bv bm 64 = bandn (band (bor av am) (bor bv bm)) (band av bv) := by
 have key := fun j => inn_and (bit av j) (bit am j) (bit bv j) (bit bm j) (ha j) (hb j)
 constructor
 ·apply acc_eq; intro j hj
  simp only [twoR]
  rw [twoC_and ha hb j, bit_and']
  exact (key j).2.2
 ·apply acc_eq; intro j hj
  simp only [twoR]
  rw [twoC_and ha hb j, bit_andn _ _ _ hj, bit_and', bit_and', bit_or, bit_or]
  exact (key j).2.1
theorem twoC_or {av am bv bm : BitVec 64} (ha : ∀ j, (bit av j && bit am j) = false) (hb : ∀ j, (bit bv j && bit bm j) = false) (i : Nat) : twoC 6 av am bv bm i = (true, false) := by
 induction i with
 | zero => rfl
 | succ i ih => simp only [twoC]; rw [ih]; exact (inn_or (bit av i) (bit am i) (bit bv i) (bit bm i) (ha i) (hb i)).1
theorem two_or {av am bv bm : BitVec 64} (ha : ∀ j, (bit av j && bit am j) = false) (hb : ∀ j, (bit bv j && bit bm j) = false) : twoV 6 av am bv bm 64 = bor av bv ∧ twoM 6 av am bv bm 64 = bandn (bor am bm) (bor av bv) := by
 have key := fun j => inn_or (bit av j) (bit am j) (bit bv j) (bit bm j) (ha j) (hb j)
 constructor
 ·apply acc_eq; intro j hj
  simp only [twoR]
  rw [twoC_or ha hb j, bit_or]
  exact (key j).2.2
 ·apply acc_eq; intro j hj
  simp only [twoR]
  rw [twoC_or ha hb j, bit_andn _ _ _ hj, bit_or, bit_or]
  exact (key j).2.1
theorem twoC_xor {av am bv bm : BitVec 64} (ha : ∀ j, (bit av j && bit am j) = false) (hb : ∀ j, (bit bv j && bit bm j) = false) (i : Nat) : twoC 7 av am bv bm i = (true, false) := by
 induction i with
 | zero => rfl
 | succ i ih => simp only [twoC]; rw [ih]; exact (inn_xor (bit av i) (bit am i) (bit bv i) (bit bm i) (ha i) (hb i)).1
theorem two_xor {av am bv bm : BitVec 64} (ha : ∀ j, (bit av j && bit am j) = false) (hb : ∀ j, (bit bv j && bit bm j) = false) : twoV 7 av am bv bm 64 = bandn (bxor av bv) (bor am bm) ∧ twoM 7 av am bv bm 64 = bor am bm := by
 have key := fun j => inn_xor (bit av j) (bit am j) (bit bv j) (bit bm j) (ha j) (hb j)
 constructor
 ·apply acc_eq; intro j hj
  simp only [twoR]
  rw [twoC_xor ha hb j, bit_andn _ _ _ hj, bit_xor, bit_or]
  exact (key j).2.2
 ·apply acc_eq; intro j hj
  simp only [twoR]
  rw [twoC_xor ha hb j, bit_or]
  exact (key j).2.1
end Go.Proofs.YtkigmocchaikgabGreat
/- The contract of the reference's TwoBits. -/
namespace Go.Proofs.YtkigmocchaikgabGreat
open Go.RowKit
section
attribute [local go_sem] w_and w_or w_xor w_andNot w_and1 w_and63 w_add w_sub w_mul w_sub1 w_add1 w_shl w_shl1 w_shr c_beq c_bne c_beq0 c_bne0 c_beq1 c_bne1 wrap_nv
/- what comes of sums is right again -/
theorem addP_right {a b : BitVec 64 × BitVec 64} : eqb (band (addP a b).1 (addP a b).2) zero = true := by
 rw [right_iff]; intro j
 by_cases hj : j < 64
 ·simp only [addP]; rw [bit_andn _ _ _ hj]; cases bit (badd a.1 b.1) j <;> cases bit (addM a.1 a.2 b.1 b.2) j <;> rfl
 ·rw [bit_big _ _ (by omega)]; rfl
theorem mulS_right (av am bv bm : BitVec 64) (k : Nat) : eqb (band (mulS av am bv bm k).1 (mulS av am bv bm k).2) zero = true := by
 induction k with
 | zero => exact (by decide : eqb (band zero zero) zero = true)
 | succ k ih =>
  simp only [mulS]
  by_cases h1 : bit av k = true
  ·rw [if_pos h1]; exact addP_right
  ·rw [if_neg h1]
   by_cases h2 : bit am k = true
   ·rw [if_pos h2]; exact addP_right
   ·rw [if_neg h2]; exact ih
theorem shl_right {v m : BitVec 64} (h : eqb (band v m) zero = true) (k : Nat) : eqb (band (bshl v k) (bshl m k)) zero = true := by
 rw [right_iff] at h ⊢
 intro j
 by_cases hj : j < 64
 ·rw [bit_shl _ _ _ hj, bit_shl _ _ _ hj]
  have := h (j - k)
  revert this
  cases decide (k ≤ j) <;> cases bit v (j - k) <;> cases bit m (j - k) <;> simp
 ·rw [bit_big _ _ (by omega)]; rfl
theorem zero_right (m : BitVec 64) : eqb (band zero m) zero = true := by
 rw [right_iff]; intro j; rw [bit_zero]; rfl
/- a sum, by twoBits -/
theorem twoBits_add {av am bv bm : BitVec 64} (ha : eqb (band av am) zero = true) (hb : eqb (band bv bm) zero = true) (w : World) :
  Calls Tryz.prog 118 #[N 2, Bt av am, Bt bv bm] w fun e w' => e = .returned (Bt (addP (av, am) (bv, bm)).1 (addP (av, am) (bv, bm)).2) ∧ Below w.heap.size w w' := by
 have h := twoBits_any 2 av am bv bm w
 rw [(two_add ((right_iff _ _).1 ha) ((right_iff _ _).1 hb)).1, (two_add ((right_iff _ _).1 ha) ((right_iff _ _).1 hb)).2] at h
 exact h
theorem twoBits_is {op : Int} {av am bv bm : BitVec 64} (hop : op = 2 ∨ op = 3 ∨ op = 5 ∨ op = 6 ∨ op = 7) (ha : eqb (band av am) zero = true) (hb : eqb (band bv bm) zero = true) (w : World) :
  Calls Tryz.prog 118 #[N op, Bt av am, Bt bv bm] w fun e w' => e = .returned (Bt (twoP op av am bv bm).1 (twoP op av am bv bm).2) ∧ Below w.heap.size w w' := by
 have h := twoBits_any op av am bv bm w
 have ra := (right_iff _ _).1 ha
 have rb := (right_iff _ _).1 hb
 rcases hop with rfl | rfl | rfl | rfl | rfl
 ·rw [(two_add ra rb).1, (two_add ra rb).2] at h; exact h
 ·rw [(two_sub ra rb).1, (two_sub ra rb).2] at h; exact h
 ·rw [(two_and ra rb).1, (two_and ra rb).2] at h; exact h
 ·rw [(two_or ra rb).1, (two_or ra rb).2] at h; exact h
 ·rw [(two_xor ra rb).1, (two_xor ra rb).2] at h; exact h
theorem shiftUp_is {v m : BitVec 64} (h : eqb (band v m) zero = true) {n : Nat} (hn : n < 64) (w : World) :
  Calls Tryz.prog 82 #[N 8, Bt v m, N n] w fun e w' => e = .returned (Bt (bshl v n) (bshl m n)) ∧ Below w.heap.size w w' := by
 have hh := shiftBits_any true 8 rfl v m n hn w
 rw [(sh_up_eq h n).1, (sh_up_eq h n).2] at hh
 exact hh
set_option maxRecDepth 100000 in
set_option maxHeartbeats 2000000 in
theorem TwoBits_plain {op : Int} {av am bv bm : BitVec 64} (hop : Hid (op = 2 ∨ op = 3 ∨ op = 5 ∨ op = 6 ∨ op = 7)) (ha : Hid (eqb (band av am) zero = true)) (hb : Hid (eqb (band bv bm) zero = true)) (w : World) :
  Calls Tryz.prog 80 #[N op, Bt av am, Bt bv bm] w fun e w' => e = .returned (Bt (twoP op av am bv bm).1 (twoP op av am bv bm).2) ∧ Below w.heap.size w w' := by
 have h4 : (op != 4) = true := by rcases hop.out with rfl | rfl | rfl | rfl | rfl <;> decide
 go_enter Tryz.func80, Tryz.ntmps80
 go_wp2_with fail
 refine (twoBits_is hop.out ha.out hb.out _).mono ?_
 rintro e w1 ⟨rfl, hb1⟩
 obtain ⟨hc1, hf1, hs1⟩ := bk (w.heap.size + 1 + 1 + 1) hb1 (by simp)
 go_wp2_with fail
 exact bodyPost_ret (v := Bt (twoP op av am bv bm).1 (twoP op av am bv bm).2) (by simp [results, Tryz.results80, go_sem, hc1]) rfl ⟨rfl, (by repeat (first | exact Below.refl _ _ | assumption | refine below_drewN ?_ _ | refine Below.drew ?_ | refine Below.alloc ?_ (by first | exact Nat.le_refl _ | (simp; done) | (simp; omega) | omega) _ | refine Below.setCell ?_ (by first | exact Nat.le_refl _ | (simp; done) | (simp; omega) | omega) _ | refine Below.trans ?_ (Below.mono (by assumption) (by first | exact Nat.le_refl _ | (simp; done) | (simp; omega) | omega))))⟩
set_option maxRecDepth 100000 in
set_option maxHeartbeats 2000000 in
theorem TwoBits_mul {av am bv bm : BitVec 64} (hb : Hid (eqb (band bv bm) zero = true)) (w : World) :
  Calls Tryz.prog 80 #[N 4, Bt av am, Bt bv bm] w fun e w' => e = .returned (Bt (mulS av am bv bm 64).1 (mulS av am bv bm 64).2) ∧ Below w.heap.size w w' := by
 go_enter Tryz.func80, Tryz.ntmps80
 go_wp2_with fail
 go_loopw [8] (fun i wr => ∃ k : Nat, k ≤ 64 ∧ i = N k
   ∧ Below (w.heap.size + 1 + 1 + 1) (((w.alloc (.cells #[U av, U am] 27)).alloc (.cells #[U bv, U bm] 27)).alloc (.cells #[.int .u64 0, .int .u64 0] 27)) wr
   ∧ wr.cell? ⟨w.heap.size + 1 + 1 + 1, 0, none⟩ = some (U (mulS av am bv bm k).1) ∧ wr.cell? ⟨w.heap.size + 1 + 1 + 1, 1, none⟩ = some (U (mulS av am bv bm k).2)
   ∧ (∀ o, wr.frozen? ⟨w.heap.size + 1 + 1 + 1, o, none⟩ = false)
   ∧ w.heap.size + 1 + 1 + 1 + 1 ≤ wr.heap.size) (fun i _ => 64 - (intOf i).toNat)
 case atStart =>
  exact ⟨0, by omega, rfl, (by repeat (first | exact Below.refl _ _ | assumption | refine below_drewN ?_ _ | refine Below.drew ?_ | refine Below.alloc ?_ (by first | exact Nat.le_refl _ | (simp; done) | (simp; omega) | omega) _ | refine Below.setCell ?_ (by first | exact Nat.le_refl _ | (simp; done) | (simp; omega) | omega) _ | refine Below.trans ?_ (Below.mono (by assumption) (by first | exact Nat.le_refl _ | (simp; done) | (simp; omega) | omega)))), by simp [mulS, nv_zero, go_sem], by simp [mulS, nv_zero, go_sem], by simp [go_sem], by simp⟩
 case round =>
  obtain ⟨k, hk, rfl, hbel, ho0, ho1, hfo, hsz⟩ := hrel
  obtain ⟨hc, hf⟩ := bl hbel
  by_cases hlt : k < 64
  ·obtain ⟨z, o, H1, H2⟩ := may_eq av am k
   have Hr : Hid (eqb (band (mulS av am bv bm k).1 (mulS av am bv bm k).2) zero = true) := mulS_right av am bv bm k
   have Hs : Hid (mulS av am bv bm (k + 1) = if bit av k then addP (mulS av am bv bm k) (bshl bv k, bshl bm k)
    else if bit am k then addP (mulS av am bv bm k) (zero, bor (bshl bv k) (bshl bm k)) else mulS av am bv bm k) := rfl
   generalize mulS av am bv bm k = S at ho0 ho1 Hs Hr
   obtain ⟨sv, sm⟩ := S
   simp only at ho0 ho1
   have Hu : Hid (eqb (band (bshl bv k) (bshl bm k)) zero = true) := shl_right hb.out k
   go_wp2_with fail
   refine (may_any hlt H1 H2 _).mono ?_
   rintro e w1 ⟨rfl, hb1⟩
   obtain ⟨hc1, hf1, hs1⟩ := bk _ hb1 hsz
   go_wp2_with fail
   refine (shiftUp_is hb.out hlt _).mono ?_
   rintro e w2 ⟨rfl, hb2⟩
   obtain ⟨hc2, hf2, hs2⟩ := bk _ hb2 hs1
   have hlt1 : w.heap.size + 1 + 1 + 1 < w2.heap.size := by omega
   have hlt2 : w.heap.size + 1 + 1 < w2.heap.size := by omega
   have hlt3 : w.heap.size + 1 < w2.heap.size := by omega
   have hlt4 : w.heap.size < w2.heap.size := by omega
   have hb12 : Below wr.heap.size wr w2 := hb1.trans (hb2.mono hb1.size)
   have Hz := H1.out
   have Ho := H2.out
   unfold mz at Hz
   unfold mo at Ho
   cases hA : bit av k <;> cases hM : bit am k
   all_goals
    rw [hA] at Hz
    rw [hA, hM] at Ho
    rw [hA, hM] at Hs
    simp only [Bool.not_true, Bool.not_false, Bool.or_false, Bool.or_true] at Hz Ho
    subst Hz
    subst Ho
    clear H1 H2 hA hM
   ·go_wp2_with fail
    exact ⟨⟨k + 1, by omega, by go_num, keep_rel hbel (hb12.trans (((Below.refl _ _).alloc (Nat.le_refl _) _).mono hb12.size)) hsz ho0 ho1 hfo (by rw [Hs.out]; rfl) (by rw [Hs.out]; rfl)⟩, by simp [intOf]; omega⟩
   ·go_wp2_with fail
    refine (twoBits_add (bv := zero) Hr.out (zero_right _) _).mono ?_
    rintro e w3 ⟨rfl, hb3⟩
    obtain ⟨hc3, hf3, hs3⟩ := bk (w.heap.size + 1 + 1 + 1 + 1) hb3 (by simp; omega)
    go_wp2_with fail
    exact ⟨⟨k + 1, by omega, by go_num, out_rel hbel (hb12.trans ((((Below.refl _ _).alloc (Nat.le_refl _) _).trans (hb3.mono (by simp))).mono hb12.size)) hsz ho0 ho1 hfo (by rw [Hs.out]; rfl) (by rw [Hs.out]; rfl)⟩, by simp [intOf]; omega⟩
   all_goals
    go_wp2_with fail
    refine (twoBits_add Hr.out Hu.out _).mono ?_
    rintro e w3 ⟨rfl, hb3⟩
    obtain ⟨hc3, hf3, hs3⟩ := bk (w.heap.size + 1 + 1 + 1 + 1) hb3 (by simp; omega)
    go_wp2_with fail
    exact ⟨⟨k + 1, by omega, by go_num, out_rel hbel (hb12.trans ((((Below.refl _ _).alloc (Nat.le_refl _) _).trans (hb3.mono (by simp))).mono hb12.size)) hsz ho0 ho1 hfo (by rw [Hs.out]; rfl) (by rw [Hs.out]; rfl)⟩, by simp [intOf]; omega⟩
  ·have hk64 : k = 64 := by omega
   subst hk64
   go_wp2_with fail
   exact bodyPost_ret (v := Bt (mulS av am bv bm 64).1 (mulS av am bv bm 64).2) (by simp [results, Tryz.results80, go_sem, hc]) rfl ⟨rfl, (by repeat (first | exact Below.refl _ _ | assumption | refine below_drewN ?_ _ | refine Below.drew ?_ | refine Below.alloc ?_ (by first | exact Nat.le_refl _ | (simp; done) | (simp; omega) | omega) _ | refine Below.setCell ?_ (by first | exact Nat.le_refl _ | (simp; done) | (simp; omega) | omega) _ | refine Below.trans ?_ (Below.mono (by assumption) (by first | exact Nat.le_refl _ | (simp; done) | (simp; omega) | omega))))⟩
end
theorem okc {f : Nat} {A : Array Value} {V : Value} {args : List AV} {v : AV} (h : ∀ w, Calls Tryz.prog f A w fun e w' => e = .returned V ∧ Below w.heap.size w w') (hA : ∀ β, (args.map (AV.g β)).toArray = A) (hV : ∀ β, v.g β = V) (hv : v.ks = []) : Ok f args v :=
 ok_of_calls hA hV hv h
theorem V4.rt_of {a : V4} (h : a.ok = true) : a.rt = true := (rt_iff _ _).2 (val_facts h).1
theorem both_rt {a b : V4} (ha : a.rt = true) (hb : b.rt = true) : (eqb (band a.v a.m) zero && eqb (band b.v b.m) zero) = true := by
 rw [show eqb (band a.v a.m) zero = true from ha, show eqb (band b.v b.m) zero = true from hb]; rfl
theorem both_ok {a b : V4} (ha : a.ok = true) (hb : b.ok = true) : (valB a.v a.m a.l a.h && valB b.v b.m b.l b.h) = true := by
 rw [show valB a.v a.m a.l a.h = true from ha, show valB b.v b.m b.l b.h = true from hb]; rfl
theorem valCheck_ok (a : V4) : Ok 23 [.ag a.cs] (.c (.i (er a.ok))) := okc (valCheck_any a.v a.m a.l a.h) (fun _ => rfl) (fun _ => rfl) rfl
theorem valOf_ok (x : BitVec 64) : Ok 101 [.c (.u x)] (.ag (V4.of x).cs) := okc (valOf_any x) (fun _ => rfl) (fun _ => rfl) rfl
theorem valAny_ok : Ok 24 [] (.ag V4.any.cs) := okc valAny_any (fun _ => rfl) (fun _ => rfl) rfl
theorem valJoin_ok {a b : V4} (ha : a.ok = true) (hb : b.ok = true) : Ok 79 [.ag a.cs, .ag b.cs] (.tu [.ag (a.join b).cs, .c (.i 0)]) :=
 okc (valJoin_yes (both_ok ha hb)) (fun _ => rfl) (fun _ => rfl) rfl
theorem refOf_ok (x : BitVec 64) : Ok 37 [.c (.u x)] (.ag (V4.of x).cs) := okc (refValOf_any x) (fun _ => rfl) (fun _ => rfl) rfl
theorem refAny_ok : Ok 86 [] (.ag V4.any.cs) := okc refValAny_any (fun _ => rfl) (fun _ => rfl) rfl
theorem refNorm_ok {a : V4} (hr : a.rt = true) : Ok 78 [.ag a.cs] (.tu [.ag a.norm.cs, .c (.b a.nok)]) := by
 unfold V4.norm
 cases hn : a.nok
 ·exact okc (normVal_none hr hn) (fun _ => rfl) (fun _ => rfl) rfl
 ·exact okc (normVal_yes hr hn) (fun _ => rfl) (fun _ => rfl) rfl
theorem refMeet_ok {a b : V4} (ha : a.rt = true) (hb : b.rt = true) :
  Ok 85 [.ag [.u a.v, .u a.m], .ag [.u b.v, .u b.m]] (.tu [.ag (if a.meets b then [.u (bor a.v b.v), .u (band a.m b.m)] else [.u zero, .u zero]), .c (.b (a.meets b))]) := by
 cases hm : a.meets b
 ·obtain ⟨j, hj, hno, hok⟩ := meet_ne hm
  exact okc (fun w => meetBits_no a.v a.m b.v b.m j hj hno hok w) (fun _ => rfl) (fun _ => rfl) rfl
 ·obtain ⟨h1, h2, h3⟩ := meet_eq (both_rt ha hb) hm
  refine okc (A := #[Bt a.v a.m, Bt b.v b.m]) (V := .tuple #[Bt (bor a.v b.v) (band a.m b.m), .bool true]) (fun w => ?_) (fun _ => rfl) (fun _ => rfl) rfl
  have h := meetBits_ok a.v a.m b.v b.m h1 w
  rw [h2, h3] at h
  exact h
theorem refShift_ok {a : V4} {op : Int} (hop : op = 8 ∨ op = 9) (hr : a.rt = true) {n : Nat} (hn : n < 64) :
  Ok 82 [.c (.i op), .ag [.u a.v, .u a.m], .c (.i n)] (.ag (if op = 8 then [.u (bshl a.v n), .u (bshl a.m n)] else [.u (bshr a.v n), .u (bshr a.m n)])) := by
 rcases hop with rfl | rfl
 ·refine okc (A := #[N 8, Bt a.v a.m, N n]) (V := Bt (bshl a.v n) (bshl a.m n)) (fun w => ?_) (fun _ => rfl) (fun _ => rfl) rfl
  have h := shiftBits_any true 8 rfl a.v a.m n hn w
  rw [(sh_up_eq hr n).1, (sh_up_eq hr n).2] at h
  exact h
 ·refine okc (A := #[N 9, Bt a.v a.m, N n]) (V := Bt (bshr a.v n) (bshr a.m n)) (fun w => ?_) (fun _ => rfl) (fun _ => rfl) rfl
  have h := shiftBits_any false 9 rfl a.v a.m n hn w
  rw [(sh_down_eq hr n).1, (sh_down_eq hr n).2] at h
  exact h
theorem refTwoBits_ok {a b : V4} {op : Int} (hop : 2 ≤ op ∧ op ≤ 7) (ha : a.rt = true) (hb : b.rt = true) :
  Ok 80 [.c (.i op), .ag [.u a.v, .u a.m], .ag [.u b.v, .u b.m]] (.ag [.u (twoP op a.v a.m b.v b.m).1, .u (twoP op a.v a.m b.v b.m).2]) := by
 by_cases h4 : op = 4
 ·subst h4; exact okc (TwoBits_mul hb) (fun _ => rfl) (fun _ => rfl) rfl
 ·exact okc (TwoBits_plain (hid (by omega)) ha hb) (fun _ => rfl) (fun _ => rfl) rfl
/- the reference's functions on two values -/
theorem refAlone_ok (a : V4) : Ok 59 [.ag a.cs] (.c (.b a.alone)) := refAlone_w0
theorem refBoth_ok (a b : V4) (i1 i2 : Bool) : Ok 84 [.ag a.cs, .c (.b i1), .ag b.cs, .c (.b i2)] (.tu [.ag (lvV (i1 && i2) a).cs, .ag (lvV (i1 && i2) b).cs, .c (.b (i1 && i2))]) := by
 cases i1
 ·exact refBoth_w0 rfl
 ·cases i2
  ·exact refBoth_w1 rfl
  ·exact refBoth_w2 rfl
theorem norm_lv (a : V4) : a.norm = lvV a.nok a.nrm := rfl
theorem lv_lv (p q : Bool) (a : V4) : lvV p (lvV q a) = lvV (p && q) a := by cases p <;> cases q <;> rfl
theorem refEqual_ok {a b : V4} (ha : a.ok = true) (hb : b.ok = true) : Ok 41 [.ag a.cs, .ag b.cs] (.tu [.ag (a.equal b).1.cs, .ag (a.equal b).2.1.cs, .c (.b (a.equal b).2.2)]) := by
 have hm := refMeet_ok (V4.rt_of ha) (V4.rt_of hb)
 unfold V4.equal
 cases h : a.meets b with
 | false => rw [h] at hm; exact refEqual_w0 rfl hm
 | true =>
  rw [h] at hm
  have hrt : (a.rawEqual b).rt = true := (rt_iff _ _).2 (by
   have r1 := (val_facts ha).1
   have r2 := (val_facts hb).1
   intro j
   have h3 := r1 j; have h4 := r2 j
   show (bit (bor a.v b.v) j && bit (band a.m b.m) j) = false
   rw [bit_or, bit_and']
   revert h3 h4
   cases bit a.v j <;> cases bit a.m j <;> cases bit b.v j <;> cases bit b.m j <;> simp)
  have hn := refNorm_ok hrt
  have hbt := refBoth_ok (a.rawEqual b).norm (a.rawEqual b).norm (a.rawEqual b).nok (a.rawEqual b).nok
  have := refEqual_w1 rfl hm hn hbt
  rw [norm_lv, lv_lv] at this
  simp only [if_true, left2, Bool.true_and]
  cases hk : (a.rawEqual b).nok <;> rw [hk] at this <;> exact this
theorem refLess_ok {a b : V4} (ha : a.ok = true) (hb : b.ok = true) : Ok 44 [.ag a.cs, .ag b.cs] (.tu [.ag (a.less b).1.cs, .ag (a.less b).2.1.cs, .c (.b (a.less b).2.2)]) := by
 unfold V4.less
 cases h1 : eqb b.h zero with
 | true => exact refLess_w0 (by rw [show eqb b.h 0#64 = true from h1]; rfl)
 | false =>
  cases h2 : eqb a.l top with
  | true => exact refLess_w1 (by rw [show eqb b.h 0#64 = false from h1, show eqb a.l 18446744073709551615#64 = true from h2]; rfl)
  | false =>
   have n1 := refNorm_ok (a := ⟨a.v, a.m, a.l, bmin a.h (bsub b.h one)⟩) (show a.rt = true from V4.rt_of ha)
   have n2 := refNorm_ok (a := ⟨b.v, b.m, bmax b.l (badd a.l one), b.h⟩) (show b.rt = true from V4.rt_of hb)
   have := refLess_w2 (a := a) (b := b) (by rw [show eqb b.h 0#64 = false from h1, show eqb a.l 18446744073709551615#64 = false from h2]; rfl) n1 n2 (refBoth_ok _ _ _ _)
   rw [norm_lv, norm_lv, lv_lv, lv_lv] at this
   simp only [Bool.or_self, Bool.false_eq_true, if_false, left2, Bool.true_and]
   revert this
   generalize V4.nok _ = k1
   generalize V4.nok _ = k2
   intro this
   cases k1 <;> cases k2 <;> exact this
theorem refNotLess_ok {a b : V4} (ha : a.ok = true) (hb : b.ok = true) : Ok 43 [.ag a.cs, .ag b.cs] (.tu [.ag (a.notLess b).1.cs, .ag (a.notLess b).2.1.cs, .c (.b (a.notLess b).2.2)]) := by
 have n1 := refNorm_ok (a := ⟨a.v, a.m, bmax a.l b.l, a.h⟩) (show a.rt = true from V4.rt_of ha)
 have n2 := refNorm_ok (a := ⟨b.v, b.m, b.l, bmin b.h a.h⟩) (show b.rt = true from V4.rt_of hb)
 have := refNotLess_w0 (a := a) (b := b) n1 n2 (refBoth_ok _ _ _ _)
 rw [norm_lv, norm_lv, lv_lv, lv_lv] at this
 unfold V4.notLess
 simp only [left2, Bool.true_and]
 revert this
 generalize V4.nok _ = k1
 generalize V4.nok _ = k2
 intro this
 cases k1 <;> cases k2 <;> exact this
theorem refRid_ok {a : V4} (hr : a.rt = true) (x : BitVec 64) :
  Ok 83 [.ag a.cs, .c (.u x)] (.tu [.ag (lvV (!(a.alone && eqb a.l x)) (a.without (V4.of x)).norm).cs, .c (.b (!(a.alone && eqb a.l x) && (a.without (V4.of x)).nok))]) := by
 have hx : eqb x x = true := eqb_self x
 have hal := refAlone_ok a
 have e0 : a.without (V4.of x) = ⟨a.v, a.m, if eqb a.l x then badd a.l one else a.l, if !eqb a.l x && eqb a.h x then bsub a.h one else a.h⟩ := by
  simp only [V4.without, V4.of, woL, woH, hx, Bool.true_and]
 have hn : ∀ l h, Ok 78 [.ag (V4.cs ⟨a.v, a.m, l, h⟩)] (.tu [.ag (V4.norm ⟨a.v, a.m, l, h⟩).cs, .c (.b (V4.nok ⟨a.v, a.m, l, h⟩))]) := fun l h => refNorm_ok (a := ⟨a.v, a.m, l, h⟩) (show a.rt = true from hr)
 rw [e0]
 cases h1 : eqb a.l x with
 | true =>
  cases h2 : a.alone with
  | true => rw [h2] at hal; exact refRid_w0 (by rw [h1]; rfl) hal
  | false => rw [h2] at hal; exact refRid_w3 (by rw [h1]; rfl) hal (hn (badd a.l one) a.h)
 | false =>
  cases h2 : a.alone with
  | true =>
   rw [h2] at hal
   cases h3 : eqb a.h x with
   | true => exact refRid_w1 (by rw [h1, h3]; rfl) hal (hn a.l (bsub a.h one))
   | false => exact refRid_w2 (by rw [h1, h3]; rfl) hal (hn a.l a.h)
  | false =>
   rw [h2] at hal
   cases h3 : eqb a.h x with
   | true => exact refRid_w4 (by rw [h1, h3]; rfl) hal (hn a.l (bsub a.h one))
   | false => exact refRid_w5 (by rw [h1, h3]; rfl) hal (hn a.l a.h)
theorem V4.norm_ok {a : V4} (h : a.ok = true) : a.nok = true ∧ a.nrm = a ∧ a.norm = a := by
 obtain ⟨h1, h2, h3, h4, h5⟩ := norm_stays h
 have e : a.nrm = a := by cases a; simp only [V4.nrm] at *; rw [h2, h3, h4, h5]
 refine ⟨h1, e, ?_⟩
 unfold V4.norm
 rw [show a.nok = true from h1]
 exact e
theorem without_not {a b : V4} (h : b.alone = false) : a.without b = a := by
 have h' : eqb b.l b.h = false := h
 simp only [V4.without, woL, woH, h', Bool.false_and]
 rfl
theorem without_alone {a b : V4} (h : b.alone = true) : a.without b = a.without (V4.of b.l) := by
 have h' : eqb b.l b.h = true := h
 simp only [V4.without, V4.of, woL, woH, h', eqb_self]
theorem refOther_ok {a b : V4} (ha : a.ok = true) (hb : b.ok = true) : Ok 40 [.ag a.cs, .ag b.cs] (.tu [.ag (a.other b).1.cs, .ag (a.other b).2.1.cs, .c (.b (a.other b).2.2)]) := by
 have a1 := refAlone_ok a
 have b1 := refAlone_ok b
 have na := V4.norm_ok ha
 have nb := V4.norm_ok hb
 have ra := refRid_ok (V4.rt_of ha) b.l
 have rb := refRid_ok (V4.rt_of hb) a.l
 unfold V4.other
 cases h1 : b.alone with
 | true =>
  cases h2 : a.alone with
  | true =>
   rw [h1] at b1; rw [h2] at a1
   rw [h2] at ra; rw [h1] at rb
   have hsym : eqb b.l a.l = eqb a.l b.l := by rw [Bool.eq_iff_iff, eqb_iff, eqb_iff]; exact eq_comm
   have := refOther_w0 rfl b1 ra a1 rb (refBoth_ok _ _ _ _)
   rw [hsym, norm_lv, norm_lv] at this
   rw [without_alone h1, without_alone h2]
   simp only [left2]
   revert this
   generalize V4.nrm _ = n1
   generalize V4.nrm _ = n2
   generalize V4.nok _ = k1
   generalize V4.nok _ = k2
   generalize eqb a.l b.l = q
   intro this
   cases k1 <;> cases k2 <;> cases q <;> exact this
  | false =>
   rw [h1] at b1; rw [h2] at a1
   rw [h2] at ra
   have := refOtherB_w0 rfl b1 ra a1 (refBoth_ok _ b _ _)
   rw [norm_lv] at this
   rw [without_alone h1, without_not h2]
   simp only [left2, nb.1, nb.2.1]
   revert this
   generalize V4.nrm _ = n1
   generalize V4.nok _ = k1
   intro this
   cases k1 <;> exact this
 | false =>
  cases h2 : a.alone with
  | true =>
   rw [h1] at b1; rw [h2] at a1
   rw [h1] at rb
   have := refOtherA_w0 rfl b1 a1 rb (refBoth_ok a _ _ _)
   rw [norm_lv] at this
   rw [without_alone h2, without_not h1]
   simp only [left2, na.1, na.2.1]
   revert this
   generalize V4.nrm _ = n1
   generalize V4.nok _ = k1
   intro this
   cases k1 <;> exact this
  | false =>
   rw [h1] at b1; rw [h2] at a1
   have := refOtherN_w0 rfl b1 a1 (refBoth_ok a b _ _)
   rw [without_not h2, without_not h1]
   simp only [left2, na.1, na.2.1, nb.1, nb.2.1]
   exact this
/- the program's -/
theorem valNorm_c {n : V4} (hr : n.rt = true) : Hid (∀ w, Calls Tryz.prog 113 #[Vl n.v n.m n.l n.h] w fun e w' => e = .returned (.tuple #[Vl n.norm.v n.norm.m n.norm.l n.norm.h, .bool n.nok, N 0]) ∧ Below w.heap.size w w') := by
 intro w
 unfold V4.norm
 cases hn : n.nok
 ·exact norm_none hr hn w
 ·exact norm_yes hr hn w
def Four (f : Nat) (a b : V4) (r : V4 × V4 × Bool) : Prop := Ok f [.ag a.cs, .ag b.cs] (.tu [.ag r.1.cs, .ag r.2.1.cs, .c (.b r.2.2), .c (.i 0)])
theorem four_of {f : Nat} {a b x y : V4} {may : Bool} (h : ∀ w, Calls Tryz.prog f #[Vl a.v a.m a.l a.h, Vl b.v b.m b.l b.h] w fun e w' => e = .returned (.tuple #[lv (may && (x.nok && y.nok)) (Vl x.norm.v x.norm.m x.norm.l x.norm.h), lv (may && (x.nok && y.nok)) (Vl y.norm.v y.norm.m y.norm.l y.norm.h), .bool (may && (x.nok && y.nok)), N 0]) ∧ Below w.heap.size w w') :
  Four f a b (left2 may x y) := by
 refine okc h (fun _ => rfl) (fun _ => ?_) ?_
 ·simp only [left2, V4.norm]
  cases may <;> cases x.nok <;> cases y.nok <;> rfl
 ·rfl
theorem calcEqual_ok {a b : V4} (ha : a.ok = true) (hb : b.ok = true) : Four 71 a b (a.equal b) := by
 have r1 := V4.rt_of ha
 have r2 := V4.rt_of hb
 have hbb := both_ok ha hb
 unfold V4.equal
 cases hm : a.meets b with
 | false =>
  have n := valNorm_c (n := ⟨zero, zero, bmax a.l b.l, bmin a.h b.h⟩) ((rt_iff _ _).2 (zero_rt zero))
  have := four_of (f := 71) (a := a) (b := b) (may := false) fun w => calcEqual_right hbb w (hid (fun B w' hc => equal1_is hc (hid (fun w => meet_no (both_rt r1 r2) hm w)) rfl rfl)) n n
  exact this
 | true =>
  have hrt : (a.rawEqual b).rt = true := (rt_iff _ _).2 (by
   have r1 := (val_facts ha).1
   have r2 := (val_facts hb).1
   intro j
   have h3 := r1 j; have h4 := r2 j
   show (bit (bor a.v b.v) j && bit (band a.m b.m) j) = false
   rw [bit_or, bit_and']
   revert h3 h4
   cases bit a.v j <;> cases bit a.m j <;> cases bit b.v j <;> cases bit b.m j <;> simp)
  exact four_of (f := 71) (a := a) (b := b) (may := true) fun w => calcEqual_right hbb w (hid (fun B w' hc => equal1_is hc (hid (fun w => meet_ok (both_rt r1 r2) hm w)) rfl rfl)) (valNorm_c hrt) (valNorm_c hrt)
theorem calcOther_ok {a b : V4} (ha : a.ok = true) (hb : b.ok = true) : Four 70 a b (a.other b) :=
 four_of (f := 70) (a := a) (b := b) fun w => calcOther_right (both_ok ha hb) w (hid (fun _ _ hc => other1_is hc rfl)) (valNorm_c (n := a.without b) (show a.rt = true from V4.rt_of ha)) (valNorm_c (n := b.without a) (show b.rt = true from V4.rt_of hb))
theorem calcLess_ok {a b : V4} (ha : a.ok = true) (hb : b.ok = true) : Four 73 a b (a.less b) := by
 unfold V4.less
 cases hz : (eqb b.h zero || eqb a.l top) with
 | true =>
  have := four_of (f := 73) (a := a) (b := b) (may := false) fun w => calcLess_right (both_ok ha hb) w (hid (fun B w' hc => less1_no hc hz)) (valNorm_c (V4.rt_of ha)) (valNorm_c (V4.rt_of hb))
  exact this
 | false =>
  rw [Bool.or_eq_false_iff] at hz
  have n1 := valNorm_c (n := ⟨a.v, a.m, bmax a.l a.l, bmin a.h (bsub b.h one)⟩) (show a.rt = true from V4.rt_of ha)
  have n2 := valNorm_c (n := ⟨b.v, b.m, bmax b.l (badd a.l one), bmin b.h b.h⟩) (show b.rt = true from V4.rt_of hb)
  have := four_of (f := 73) (a := a) (b := b) (may := true) fun w => calcLess_right (both_ok ha hb) w (hid (fun B w' hc => less1_yes hc hz.1 hz.2)) n1 n2
  rw [bmax_self, bmin_self] at this
  exact this
theorem calcNotLess_ok {a b : V4} (ha : a.ok = true) (hb : b.ok = true) : Four 72 a b (a.notLess b) := by
 have n1 := valNorm_c (n := ⟨a.v, a.m, bmax a.l b.l, bmin a.h a.h⟩) (show a.rt = true from V4.rt_of ha)
 have n2 := valNorm_c (n := ⟨b.v, b.m, bmax b.l b.l, bmin b.h a.h⟩) (show b.rt = true from V4.rt_of hb)
 have := four_of (f := 72) (a := a) (b := b) (may := true) fun w => calcNotLess_right (both_ok ha hb) w (hid (fun B w' hc => notLess1_is hc)) n1 n2
 rw [bmax_self, bmin_self] at this
 exact this
theorem wrap_six (y : BitVec 64) : IntKind.wrap IntKind.i64 (nv (band y 63#64)) = (six y : Int) := by
 have h := six_lt y
 rw [six_nv, IntKind.wrap_i64]
 omega
theorem has_low {a : V4} (h : a.ok = true) : hasV a.v a.m a.l a.h a.l = true := by
 obtain ⟨_, h2, _, h4, _⟩ := val_facts h
 unfold hasV
 rw [show valB a.v a.m a.l a.h = true from h, h2]
 simp [h4]
theorem raw2_rt {a b : V4} {op : Int} (hop : 2 ≤ op ∧ op ≤ 9) (ha : a.ok = true) (hb : b.ok = true) : (V4.raw2 op a b).rt = true :=
 (rt_iff _ _).2 (rk_sound hop (has_low ha) (has_low hb)).1
theorem calcTwo_ok {a b : V4} {op : Int} (hop : 2 ≤ op ∧ op ≤ 9) (ha : a.ok = true) (hb : b.ok = true) : Ok 75 [.c (.i op), .ag a.cs, .ag b.cs] (.tu [.ag (V4.two op a b).cs, .c (.i 0)]) := by
 have hr := raw2_rt hop ha hb
 unfold V4.two V4.norm
 cases hn : (V4.raw2 op a b).nok
 ·exact okc (calcTwo_none (both_ok ha hb) hop hr hn) (fun _ => rfl) (fun _ => rfl) rfl
 ·exact okc (calcTwo_yes (both_ok ha hb) hop hr hn) (fun _ => rfl) (fun _ => rfl) rfl
theorem refOver_ok (x y : BitVec 64) : Ok 81 [.c (.u x), .c (.u y)] (.c (.b (overB x y))) := by
 unfold overB
 cases h : eqb y zero with
 | true => exact refOver_w1 (by rw [show eqb y 0#64 = true from h]; rfl)
 | false =>
  have e : decide (18446744073709551615 / nv y < nv x) = decide (nv (18446744073709551615#64 / y) < nv x) := by
   have : nv (18446744073709551615#64 / y) = 18446744073709551615 / nv y := by
    unfold nv
    rw [BitVec.toNat_udiv]
    rfl
   rw [this]
  rw [e]
  exact refOver_w0 (by rw [show eqb y 0#64 = false from h, h]; rfl)
theorem refTwo_ok {a b : V4} {op : Int} (hop : 2 ≤ op ∧ op ≤ 9) (ha : a.ok = true) (hb : b.ok = true) : Ok 39 [.c (.i op), .ag a.cs, .ag b.cs] (.ag (V4.two op a b).cs) := by
 have ra := V4.rt_of ha
 have rb := V4.rt_of hb
 have hrt := raw2_rt hop ha hb
 have hn := refNorm_ok hrt
 have hcase : op = 2 ∨ op = 3 ∨ op = 4 ∨ op = 5 ∨ op = 6 ∨ op = 7 ∨ op = 8 ∨ op = 9 := by omega
 rcases hcase with rfl | rfl | rfl | rfl | rfl | rfl | rfl | rfl
 ·have ht := refTwoBits_ok (op := 2) (by decide) ra rb
  by_cases hc : decide (nv (badd a.l b.l) < nv a.l) = decide (nv (badd a.h b.h) < nv a.h)
  ·have e : V4.raw2 2 a b = ⟨(twoP 2 a.v a.m b.v b.m).1, (twoP 2 a.v a.m b.v b.m).2, badd a.l b.l, badd a.h b.h⟩ := by
    simp only [V4.raw2, rk, boundsP, addB, if_pos hc]; rfl
   unfold V4.two
   rw [e] at hn ⊢
   exact refTwo2_w0 (by rw [hc]; simp) ht hn
  ·have e : V4.raw2 2 a b = ⟨(twoP 2 a.v a.m b.v b.m).1, (twoP 2 a.v a.m b.v b.m).2, zero, top⟩ := by
    simp only [V4.raw2, rk, boundsP, addB, if_neg hc]; rfl
   unfold V4.two
   rw [e] at hn ⊢
   exact refTwo2_w1 (by simpa using hc) ht hn
 ·have ht := refTwoBits_ok (op := 3) (by decide) ra rb
  by_cases hc : decide (nv a.l < nv b.h) = decide (nv a.h < nv b.l)
  ·have e : V4.raw2 3 a b = ⟨(twoP 3 a.v a.m b.v b.m).1, (twoP 3 a.v a.m b.v b.m).2, bsub a.l b.h, bsub a.h b.l⟩ := by
    simp only [V4.raw2, rk, boundsP, subB, if_pos hc]; rfl
   unfold V4.two
   rw [e] at hn ⊢
   exact refTwo3_w0 (by rw [hc]; simp) ht hn
  ·have e : V4.raw2 3 a b = ⟨(twoP 3 a.v a.m b.v b.m).1, (twoP 3 a.v a.m b.v b.m).2, zero, top⟩ := by
    simp only [V4.raw2, rk, boundsP, subB, if_neg hc]; rfl
   unfold V4.two
   rw [e] at hn ⊢
   exact refTwo3_w1 (by simpa using hc) ht hn
 ·have ht := refTwoBits_ok (op := 4) (by decide) ra rb
  have ho := refOver_ok a.h b.h
  cases hc : overB a.h b.h with
  | false =>
   have e : V4.raw2 4 a b = ⟨(twoP 4 a.v a.m b.v b.m).1, (twoP 4 a.v a.m b.v b.m).2, bmul a.l b.l, bmul a.h b.h⟩ := by
    simp only [V4.raw2, rk, boundsP, mulB, hc]; rfl
   unfold V4.two
   rw [e] at hn ⊢
   rw [hc] at ho
   exact refTwo4_w0 rfl ht ho hn
  | true =>
   have e : V4.raw2 4 a b = ⟨(twoP 4 a.v a.m b.v b.m).1, (twoP 4 a.v a.m b.v b.m).2, zero, top⟩ := by
    simp only [V4.raw2, rk, boundsP, mulB, hc]; rfl
   unfold V4.two
   rw [e] at hn ⊢
   rw [hc] at ho
   exact refTwo4_w1 rfl ht ho hn
 ·exact refTwo5_w0 (refTwoBits_ok (op := 5) (by decide) ra rb) hn
 ·exact refTwo6_w0 (refTwoBits_ok (op := 6) (by decide) ra rb) hn
 ·exact refTwo7_w0 (refTwoBits_ok (op := 7) (by decide) ra rb) hn
 ·have hal := refAlone_ok b
  have hlt := six_lt b.l
  cases hc : b.alone with
  | false =>
   have e : V4.raw2 8 a b = ⟨zero, top, zero, top⟩ := by
    have hc' : eqb b.l b.h = false := hc
    simp only [V4.raw2, rk, hc', if_true]; rfl
   unfold V4.two
   rw [e] at hn ⊢
   rw [hc] at hal
   exact refTwo8n_w0 rfl hal hn
  | true =>
   have hc' : eqb b.l b.h = true := hc
   have hs := refShift_ok (a := a) (op := 8) (Or.inl rfl) ra hlt
   rw [hc] at hal
   rw [← wrap_six] at hs
   have e6 : Int.toNat (IntKind.wrap IntKind.i64 (nv (band b.l 63#64))) = six b.l := by rw [wrap_six]; rfl
   unfold V4.two
   cases hq : eqb (bshr (bshl a.h (six b.l)) (six b.l)) a.h with
   | true =>
    have e : V4.raw2 8 a b = ⟨bshl a.v (six b.l), bshl a.m (six b.l), bshl a.l (six b.l), bshl a.h (six b.l)⟩ := by
     simp only [V4.raw2, rk, hc', if_true, shlB, hq]
    rw [e] at hn ⊢
    rw [← e6] at hn
    rw [← e6] at hs
    have := refTwo8y_w0 (a := a) (b := b) (al := true) (by rw [e6, wrap_six, hq]; simp; omega) hal hs hn
    rw [e6] at this
    exact this
   | false =>
    have e : V4.raw2 8 a b = ⟨bshl a.v (six b.l), bshl a.m (six b.l), zero, top⟩ := by
     simp only [V4.raw2, rk, hc', if_true, shlB, hq]; rfl
    rw [e] at hn ⊢
    exact refTwo8y_w1 (a := a) (b := b) (al := true) (by rw [e6, wrap_six, hq]; simp; omega) hal hs hn
 ·have hal := refAlone_ok b
  have hlt := six_lt b.l
  cases hc : b.alone with
  | false =>
   have e : V4.raw2 9 a b = ⟨zero, top, zero, a.h⟩ := by
    have hc' : eqb b.l b.h = false := hc
    simp only [V4.raw2, rk, hc']; rfl
   unfold V4.two
   rw [e] at hn ⊢
   rw [hc] at hal
   exact refTwo9n_w0 rfl hal hn
  | true =>
   have hc' : eqb b.l b.h = true := hc
   have hs := refShift_ok (a := a) (op := 9) (Or.inr rfl) ra hlt
   rw [hc] at hal
   rw [← wrap_six] at hs
   have e6 : Int.toNat (IntKind.wrap IntKind.i64 (nv (band b.l 63#64))) = six b.l := by rw [wrap_six]; rfl
   have e : V4.raw2 9 a b = ⟨bshr a.v (six b.l), bshr a.m (six b.l), bshr a.l (six b.l), bshr a.h (six b.l)⟩ := by
    simp only [V4.raw2, rk, hc']; rfl
   unfold V4.two
   rw [e] at hn ⊢
   rw [← e6] at hn
   rw [← e6] at hs
   have := refTwo9y_w0 (a := a) (b := b) (al := true) (by rw [wrap_six]; simp; omega) hal hs hn
   rw [e6] at this
   exact this
theorem calcBytes_ok {n : Int} (hn : n = 1 ∨ n = 2 ∨ n = 4 ∨ n = 8) : Ok 67 [.c (.i n)] (.tu [.ag (V4.bytes n).cs, .c (.i 0)]) := by
 rcases hn with rfl | rfl | rfl | rfl
 ·exact calcBytes_w0 (by decide +kernel)
 ·exact calcBytes_w1 (by decide +kernel)
 ·exact calcBytes_w2 (by decide +kernel)
 ·exact calcBytes_w3 (by decide +kernel)
theorem refBytes_ok {n : Int} (hn : n = 1 ∨ n = 2 ∨ n = 4 ∨ n = 8) : Ok 46 [.c (.i n)] (.ag (V4.bytes n).cs) := by
 rcases hn with rfl | rfl | rfl | rfl
 ·exact refBytes_w1 (by decide +kernel)
 ·exact refBytes_w1 (by decide +kernel)
 ·exact refBytes_w1 (by decide +kernel)
 ·exact refBytes_w0 rfl refAny_ok
/- what is wrong -/
end Go.Proofs.YtkigmocchaikgabGreat
/- The laws' own programs and memory. -/
namespace Go.Proofs.YtkigmocchaikgabGreat
def g2 : List Ins := [⟨10, 0, 1, 8#64, 0⟩, ⟨15, 0, 0, 0#64, 0⟩]
def memB : ByteArray := strOf ((List.range 64).map fun j => AC.y (BitVec.ofNat 8 (j + 1)))
def m1 : Mach := ⟨1, ⟨0#64, 9#64, 0#64, 0#64, 0#64, 0#64⟩, ⟨true, true, false, false, false, false⟩, memB, 0⟩
end Go.Proofs.YtkigmocchaikgabGreat
/- Ways of bodies, written by a program (ways.py): what each asks for, and hands back. -/
namespace Go.Proofs.YtkigmocchaikgabGreat
open Go.RowKit
section
variable {w : World} {β : Bs} {n : Nat}
end
section
variable {m : Mach} {w : World} {β : Bs} {n c : Nat} {C : Cx} {R : Ending → World → Prop} {E : Eff} {u : V6 Bool} {j e q : Int} {mem : ByteArray} {x : BitVec 64} {V : AV} {L : List Ins}
end
section
variable {i : Ins} {m : Mach} {jp : Bool} {V : AV} {d s of : Int} {im : BitVec 64}
end
section
variable {i : Ins} {m : Mach} {C : Cx} {R : Ending → World → Prop} {u : V6 Bool} {j d s of op : Int} {w : World} {β : Bs} {n : Nat} {E : Eff} {im : BitVec 64}
end
section
variable {m : Mach} {e o r op q j : Int} {x y : BitVec 64} {i : Ins} {V : AV} {t : ByteArray} {C : Cx} {R : Ending → World → Prop} {w : World} {β : Bs} {n : Nat} {E : Eff}
theorem useOf12_w0 (h : (i.op == 12 && true) = true) :
  Ok 65 [.ag i.cs] (.ag [.b false, .b false, .b false, .b false, .b false, .b false]) :=
 val_run2 [true] [] [] Tryz.func65 rfl rfl rfl rfl (by kernel_rfl) h cr_nil
theorem useOf15_w0 (h : (!i.op == 12 && (i.op == 15 && true)) = true) :
  Ok 65 [.ag i.cs] (.ag [.b true, .b false, .b false, .b false, .b false, .b false]) :=
 val_run2 [false, true] [] [] Tryz.func65 rfl rfl rfl rfl (by kernel_rfl) h cr_nil
theorem useOfM_w0 (h : (!i.op == 12 && (!i.op == 15 && (i.op == 1 && (i.op == 1 && (i.s != -1 && (decide (0 ≤ i.s) && decide (i.s < 6) && (Nat.ble ((i.s).toNat * 1 + 1) 6 && true && true))))))) = true) (c0 : we 2 ((bcs no6).set ((i.s).toNat * 1) (.b true)) = we 2 (bcs (no6.set (i.s).toNat true))) :
  Ok 65 [.ag i.cs] (.ag (bcs (no6.set (i.s).toNat true))) :=
 val_run2 [false, false, true, true, true] [] [(12, 3)] Tryz.func65 rfl rfl rfl rfl (by kernel_rfl) h (cr_same c0 cr_nil)
theorem useOfM_w1 (h : (!i.op == 12 && (!i.op == 15 && (i.op == 1 && (i.op == 1 && (!i.s != -1 && true))))) = true) :
  Ok 65 [.ag i.cs] (.ag [.b false, .b false, .b false, .b false, .b false, .b false]) :=
 val_run2 [false, false, true, true, false] [] [(12, 3)] Tryz.func65 rfl rfl rfl rfl (by kernel_rfl) h cr_nil
theorem useOfL_w0 (h : (!i.op == 12 && (!i.op == 15 && (!i.op == 1 && (i.op == 10 && (i.s != -1 && (decide (0 ≤ i.s) && decide (i.s < 6) && (Nat.ble ((i.s).toNat * 1 + 1) 6 && true && true))))))) = true) (c0 : we 2 ((bcs no6).set ((i.s).toNat * 1) (.b true)) = we 2 (bcs (no6.set (i.s).toNat true))) :
  Ok 65 [.ag i.cs] (.ag (bcs (no6.set (i.s).toNat true))) :=
 val_run2 [false, false, false, true, true] [] [(12, 3)] Tryz.func65 rfl rfl rfl rfl (by kernel_rfl) h (cr_same c0 cr_nil)
theorem useOfL_w1 (h : (!i.op == 12 && (!i.op == 15 && (!i.op == 1 && (i.op == 10 && (!i.s != -1 && true))))) = true) :
  Ok 65 [.ag i.cs] (.ag [.b false, .b false, .b false, .b false, .b false, .b false]) :=
 val_run2 [false, false, false, true, false] [] [(12, 3)] Tryz.func65 rfl rfl rfl rfl (by kernel_rfl) h cr_nil
theorem useOfD_w0 (h : (!i.op == 12 && (!i.op == 15 && (!i.op == 1 && (!i.op == 10 && (decide (0 ≤ i.d) && decide (i.d < 6) && (Nat.ble ((i.d).toNat * 1 + 1) 6 && true && (i.s != -1 && (decide (0 ≤ i.s) && decide (i.s < 6) && (Nat.ble ((i.s).toNat * 1 + 1) (bcs (no6.set (i.d).toNat true)).length && true && true))))))))) = true) (c0 : we 2 ((bcs no6).set ((i.d).toNat * 1) (.b true)) = we 2 (bcs (no6.set (i.d).toNat true))) (c1 : we 2 ((bcs (no6.set (i.d).toNat true)).set ((i.s).toNat * 1) (.b true)) = we 2 (bcs ((no6.set (i.d).toNat true).set (i.s).toNat true))) :
  Ok 65 [.ag i.cs] (.ag (bcs ((no6.set (i.d).toNat true).set (i.s).toNat true))) :=
 val_run2 [false, false, false, false, true] [] [(3, 3), (12, 3)] Tryz.func65 rfl rfl rfl rfl (by kernel_rfl) h (cr_same c0 (cr_same c1 cr_nil))
theorem useOfD_w1 (h : (!i.op == 12 && (!i.op == 15 && (!i.op == 1 && (!i.op == 10 && (decide (0 ≤ i.d) && decide (i.d < 6) && (Nat.ble ((i.d).toNat * 1 + 1) 6 && true && (!i.s != -1 && true))))))) = true) (c0 : we 2 ((bcs no6).set ((i.d).toNat * 1) (.b true)) = we 2 (bcs (no6.set (i.d).toNat true))) :
  Ok 65 [.ag i.cs] (.ag (bcs (no6.set (i.d).toNat true))) :=
 val_run2 [false, false, false, false, false] [] [(3, 3), (12, 3)] Tryz.func65 rfl rfl rfl rfl (by kernel_rfl) h (cr_same c0 cr_nil)
end
section
variable {V : AV} {n : Int} {i : Ins}
theorem isReg_w0 {d : Int} (h : (decide (0 ≤ d) && true) = true) :
  Ok 121 [.c (.i d)] (.c (.b (decide (d < 6)))) :=
 val_run2 [true] [] [] Tryz.func121 rfl rfl rfl rfl (by kernel_rfl) h cr_nil
theorem isReg_w1 {d : Int} (h : (!decide (0 ≤ d) && true) = true) :
  Ok 121 [.c (.i d)] (.c (.b false)) :=
 val_run2 [false] [] [] Tryz.func121 rfl rfl rfl rfl (by kernel_rfl) h cr_nil
theorem isReg_all {d : Int}
  (l0 : (decide (0 ≤ d)) = true → (AV.c (.b (decide (d < 6))) = V))
  (l1 : (decide (0 ≤ d)) = false → (AV.c (.b false) = V)) :
  Ok 121 [.c (.i d)] V :=
 (tf (decide (0 ≤ d))).elim (fun h0 => (match l0 h0 with | e => ok_eq (isReg_w0 (and_yes h0 rfl)) e)) (fun h0 => (match l1 h0 with | e => ok_eq (isReg_w1 (and_yes (not_yes h0) rfl)) e))
theorem isSource_w0 {d : Int} (h : (d == -1 && true) = true) :
  Ok 124 [.c (.i d)] (.c (.b true)) :=
 val_run2 [true] [] [] Tryz.func124 rfl rfl rfl rfl (by kernel_rfl) h cr_nil
theorem isSource_w1 {d : Int} (h : (!d == -1 && true) = true) (c0 : Ok 121 [.c (.i d)] (.c (.b (regB d)))) :
  Ok 124 [.c (.i d)] (.c (.b (regB d))) :=
 val_run2 [false] [] [] Tryz.func124 rfl rfl rfl rfl (by kernel_rfl) h (cr_cons c0 cr_nil)
theorem isSource_all {d : Int}
  (l0 : (d == -1) = true → (AV.c (.b true) = V))
  (l1 : (d == -1) = false → (Ok 121 [.c (.i d)] (.c (.b (regB d)))) ∧ (AV.c (.b (regB d)) = V)) :
  Ok 124 [.c (.i d)] V :=
 (tf (d == -1)).elim (fun h0 => (match l0 h0 with | e => ok_eq (isSource_w0 (and_yes h0 rfl)) e)) (fun h0 => (match l1 h0 with | ⟨c0, e⟩ => ok_eq (isSource_w1 (and_yes (not_yes h0) rfl) c0) e))
theorem isSize_w0 {d : BitVec 64} (h : (eqb d 1#64 && true) = true) :
  Ok 122 [.c (.u d)] (.c (.b true)) :=
 val_run2 [true, true, true] [] [] Tryz.func122 rfl rfl rfl rfl (by kernel_rfl) h cr_nil
theorem isSize_w1 {d : BitVec 64} (h : (!eqb d 1#64 && (eqb d 2#64 && true)) = true) :
  Ok 122 [.c (.u d)] (.c (.b true)) :=
 val_run2 [false, true, true] [] [] Tryz.func122 rfl rfl rfl rfl (by kernel_rfl) h cr_nil
theorem isSize_w2 {d : BitVec 64} (h : (!eqb d 1#64 && (!eqb d 2#64 && (eqb d 4#64 && true))) = true) :
  Ok 122 [.c (.u d)] (.c (.b true)) :=
 val_run2 [false, false, true] [] [] Tryz.func122 rfl rfl rfl rfl (by kernel_rfl) h cr_nil
theorem isSize_w3 {d : BitVec 64} (h : (!eqb d 1#64 && (!eqb d 2#64 && (!eqb d 4#64 && true))) = true) :
  Ok 122 [.c (.u d)] (.c (.b (eqb d 8#64))) :=
 val_run2 [false, false, false] [] [] Tryz.func122 rfl rfl rfl rfl (by kernel_rfl) h cr_nil
theorem isSize_all {d : BitVec 64}
  (l0 : (eqb d 1#64) = true → (AV.c (.b true) = V))
  (l1 : (eqb d 1#64) = false → (eqb d 2#64) = true → (AV.c (.b true) = V))
  (l2 : (eqb d 1#64) = false → (eqb d 2#64) = false → (eqb d 4#64) = true → (AV.c (.b true) = V))
  (l3 : (eqb d 1#64) = false → (eqb d 2#64) = false → (eqb d 4#64) = false → (AV.c (.b (eqb d 8#64)) = V)) :
  Ok 122 [.c (.u d)] V :=
 (tf (eqb d 1#64)).elim (fun h0 => (match l0 h0 with | e => ok_eq (isSize_w0 (and_yes h0 rfl)) e)) (fun h0 => (tf (eqb d 2#64)).elim (fun h1 => (match l1 h0 h1 with | e => ok_eq (isSize_w1 (and_yes (not_yes h0) (and_yes h1 rfl))) e)) (fun h1 => (tf (eqb d 4#64)).elim (fun h2 => (match l2 h0 h1 h2 with | e => ok_eq (isSize_w2 (and_yes (not_yes h0) (and_yes (not_yes h1) (and_yes h2 rfl)))) e)) (fun h2 => (match l3 h0 h1 h2 with | e => ok_eq (isSize_w3 (and_yes (not_yes h0) (and_yes (not_yes h1) (and_yes (not_yes h2) rfl)))) e))))
theorem goesOn_w0 {d : Int} (h : (decide (0 ≤ d) && true) = true) :
  Ok 123 [.c (.i d), .c (.i n)] (.c (.b (decide (d < n)))) :=
 val_run2 [true] [] [] Tryz.func123 rfl rfl rfl rfl (by kernel_rfl) h cr_nil
theorem goesOn_w1 {d : Int} (h : (!decide (0 ≤ d) && true) = true) :
  Ok 123 [.c (.i d), .c (.i n)] (.c (.b false)) :=
 val_run2 [false] [] [] Tryz.func123 rfl rfl rfl rfl (by kernel_rfl) h cr_nil
theorem goesOn_all {d : Int}
  (l0 : (decide (0 ≤ d)) = true → (AV.c (.b (decide (d < n))) = V))
  (l1 : (decide (0 ≤ d)) = false → (AV.c (.b false) = V)) :
  Ok 123 [.c (.i d), .c (.i n)] V :=
 (tf (decide (0 ≤ d))).elim (fun h0 => (match l0 h0 with | e => ok_eq (goesOn_w0 (and_yes h0 rfl)) e)) (fun h0 => (match l1 h0 with | e => ok_eq (goesOn_w1 (and_yes (not_yes h0) rfl)) e))
theorem inBounds_w0 (h : (i.op == 10 && (i.op == 10 && (regB i.d && (regB i.s && (sizeB i.im && (decide (-64 ≤ i.of) && true)))))) = true) (c0 : Ok 121 [.c (.i i.d)] (.c (.b (regB i.d)))) (c1 : Ok 121 [.c (.i i.s)] (.c (.b (regB i.s)))) (c2 : Ok 122 [.c (.u i.im)] (.c (.b (sizeB i.im)))) :
  Ok 87 [.ag i.cs, .c (.i n)] (.c (.b (decide (i.of ≤ 64)))) :=
 val_run2 [true, true, true, true, true, true] [] [] Tryz.func87 rfl rfl rfl rfl (by kernel_rfl) h (cr_cons c0 (cr_cons c1 (cr_cons c2 cr_nil)))
theorem inBounds_w1 (h : (i.op == 10 && (i.op == 10 && (regB i.d && (regB i.s && (sizeB i.im && (!decide (-64 ≤ i.of) && true)))))) = true) (c0 : Ok 121 [.c (.i i.d)] (.c (.b (regB i.d)))) (c1 : Ok 121 [.c (.i i.s)] (.c (.b (regB i.s)))) (c2 : Ok 122 [.c (.u i.im)] (.c (.b (sizeB i.im)))) :
  Ok 87 [.ag i.cs, .c (.i n)] (.c (.b false)) :=
 val_run2 [true, true, true, true, true, false] [] [] Tryz.func87 rfl rfl rfl rfl (by kernel_rfl) h (cr_cons c0 (cr_cons c1 (cr_cons c2 cr_nil)))
theorem inBounds_w2 (h : (i.op == 10 && (i.op == 10 && (regB i.d && (regB i.s && (!sizeB i.im && true))))) = true) (c0 : Ok 121 [.c (.i i.d)] (.c (.b (regB i.d)))) (c1 : Ok 121 [.c (.i i.s)] (.c (.b (regB i.s)))) (c2 : Ok 122 [.c (.u i.im)] (.c (.b (sizeB i.im)))) :
  Ok 87 [.ag i.cs, .c (.i n)] (.c (.b false)) :=
 val_run2 [true, true, true, true, false, false] [] [] Tryz.func87 rfl rfl rfl rfl (by kernel_rfl) h (cr_cons c0 (cr_cons c1 (cr_cons c2 cr_nil)))
theorem inBounds_w3 (h : (i.op == 10 && (i.op == 10 && (regB i.d && (!regB i.s && true)))) = true) (c0 : Ok 121 [.c (.i i.d)] (.c (.b (regB i.d)))) (c1 : Ok 121 [.c (.i i.s)] (.c (.b (regB i.s)))) :
  Ok 87 [.ag i.cs, .c (.i n)] (.c (.b false)) :=
 val_run2 [true, true, true, false, false, false] [] [] Tryz.func87 rfl rfl rfl rfl (by kernel_rfl) h (cr_cons c0 (cr_cons c1 cr_nil))
theorem inBounds_w4 (h : (i.op == 10 && (i.op == 10 && (!regB i.d && true))) = true) (c0 : Ok 121 [.c (.i i.d)] (.c (.b (regB i.d)))) :
  Ok 87 [.ag i.cs, .c (.i n)] (.c (.b false)) :=
 val_run2 [true, true, false, false, false, false] [] [] Tryz.func87 rfl rfl rfl rfl (by kernel_rfl) h (cr_cons c0 cr_nil)
theorem inBounds_w5 (h : (!i.op == 10 && (i.op == 11 && (regB i.d && (regB i.s && (sizeB i.im && (decide (-64 ≤ i.of) && true)))))) = true) (c0 : Ok 121 [.c (.i i.d)] (.c (.b (regB i.d)))) (c1 : Ok 121 [.c (.i i.s)] (.c (.b (regB i.s)))) (c2 : Ok 122 [.c (.u i.im)] (.c (.b (sizeB i.im)))) :
  Ok 87 [.ag i.cs, .c (.i n)] (.c (.b (decide (i.of ≤ 64)))) :=
 val_run2 [false, true, true, true, true, true] [] [] Tryz.func87 rfl rfl rfl rfl (by kernel_rfl) h (cr_cons c0 (cr_cons c1 (cr_cons c2 cr_nil)))
theorem inBounds_w6 (h : (!i.op == 10 && (i.op == 11 && (regB i.d && (regB i.s && (sizeB i.im && (!decide (-64 ≤ i.of) && true)))))) = true) (c0 : Ok 121 [.c (.i i.d)] (.c (.b (regB i.d)))) (c1 : Ok 121 [.c (.i i.s)] (.c (.b (regB i.s)))) (c2 : Ok 122 [.c (.u i.im)] (.c (.b (sizeB i.im)))) :
  Ok 87 [.ag i.cs, .c (.i n)] (.c (.b false)) :=
 val_run2 [false, true, true, true, true, false] [] [] Tryz.func87 rfl rfl rfl rfl (by kernel_rfl) h (cr_cons c0 (cr_cons c1 (cr_cons c2 cr_nil)))
theorem inBounds_w7 (h : (!i.op == 10 && (i.op == 11 && (regB i.d && (regB i.s && (!sizeB i.im && true))))) = true) (c0 : Ok 121 [.c (.i i.d)] (.c (.b (regB i.d)))) (c1 : Ok 121 [.c (.i i.s)] (.c (.b (regB i.s)))) (c2 : Ok 122 [.c (.u i.im)] (.c (.b (sizeB i.im)))) :
  Ok 87 [.ag i.cs, .c (.i n)] (.c (.b false)) :=
 val_run2 [false, true, true, true, false, false] [] [] Tryz.func87 rfl rfl rfl rfl (by kernel_rfl) h (cr_cons c0 (cr_cons c1 (cr_cons c2 cr_nil)))
theorem inBounds_w8 (h : (!i.op == 10 && (i.op == 11 && (regB i.d && (!regB i.s && true)))) = true) (c0 : Ok 121 [.c (.i i.d)] (.c (.b (regB i.d)))) (c1 : Ok 121 [.c (.i i.s)] (.c (.b (regB i.s)))) :
  Ok 87 [.ag i.cs, .c (.i n)] (.c (.b false)) :=
 val_run2 [false, true, true, false, false, false] [] [] Tryz.func87 rfl rfl rfl rfl (by kernel_rfl) h (cr_cons c0 (cr_cons c1 cr_nil))
theorem inBounds_w9 (h : (!i.op == 10 && (i.op == 11 && (!regB i.d && true))) = true) (c0 : Ok 121 [.c (.i i.d)] (.c (.b (regB i.d)))) :
  Ok 87 [.ag i.cs, .c (.i n)] (.c (.b false)) :=
 val_run2 [false, true, false, false, false, false] [] [] Tryz.func87 rfl rfl rfl rfl (by kernel_rfl) h (cr_cons c0 cr_nil)
theorem inBounds_w10 (h : (!i.op == 10 && (!i.op == 11 && (i.op == 12 && true))) = true) (c0 : Ok 123 [.c (.i i.of), .c (.i n)] (.c (.b (goesB i.of n)))) :
  Ok 87 [.ag i.cs, .c (.i n)] (.c (.b (goesB i.of n))) :=
 val_run2 [false, false, true] [] [] Tryz.func87 rfl rfl rfl rfl (by kernel_rfl) h (cr_cons c0 cr_nil)
theorem inBounds_w11 (h : (!i.op == 10 && (!i.op == 11 && (!i.op == 12 && (i.op == 13 && (i.op == 13 && (regB i.d && (srcB i.s && true))))))) = true) (c0 : Ok 121 [.c (.i i.d)] (.c (.b (regB i.d)))) (c1 : Ok 124 [.c (.i i.s)] (.c (.b (srcB i.s)))) (c2 : Ok 123 [.c (.i i.of), .c (.i n)] (.c (.b (goesB i.of n)))) :
  Ok 87 [.ag i.cs, .c (.i n)] (.c (.b (goesB i.of n))) :=
 val_run2 [false, false, false, true, true, true, true] [] [] Tryz.func87 rfl rfl rfl rfl (by kernel_rfl) h (cr_cons c0 (cr_cons c1 (cr_cons c2 cr_nil)))
theorem inBounds_w12 (h : (!i.op == 10 && (!i.op == 11 && (!i.op == 12 && (i.op == 13 && (i.op == 13 && (regB i.d && (!srcB i.s && true))))))) = true) (c0 : Ok 121 [.c (.i i.d)] (.c (.b (regB i.d)))) (c1 : Ok 124 [.c (.i i.s)] (.c (.b (srcB i.s)))) :
  Ok 87 [.ag i.cs, .c (.i n)] (.c (.b false)) :=
 val_run2 [false, false, false, true, true, true, false] [] [] Tryz.func87 rfl rfl rfl rfl (by kernel_rfl) h (cr_cons c0 (cr_cons c1 cr_nil))
theorem inBounds_w13 (h : (!i.op == 10 && (!i.op == 11 && (!i.op == 12 && (i.op == 13 && (i.op == 13 && (!regB i.d && true)))))) = true) (c0 : Ok 121 [.c (.i i.d)] (.c (.b (regB i.d)))) :
  Ok 87 [.ag i.cs, .c (.i n)] (.c (.b false)) :=
 val_run2 [false, false, false, true, true, false, false] [] [] Tryz.func87 rfl rfl rfl rfl (by kernel_rfl) h (cr_cons c0 cr_nil)
theorem inBounds_w14 (h : (!i.op == 10 && (!i.op == 11 && (!i.op == 12 && (!i.op == 13 && (i.op == 14 && (regB i.d && (srcB i.s && true))))))) = true) (c0 : Ok 121 [.c (.i i.d)] (.c (.b (regB i.d)))) (c1 : Ok 124 [.c (.i i.s)] (.c (.b (srcB i.s)))) (c2 : Ok 123 [.c (.i i.of), .c (.i n)] (.c (.b (goesB i.of n)))) :
  Ok 87 [.ag i.cs, .c (.i n)] (.c (.b (goesB i.of n))) :=
 val_run2 [false, false, false, false, true, true, true] [] [] Tryz.func87 rfl rfl rfl rfl (by kernel_rfl) h (cr_cons c0 (cr_cons c1 (cr_cons c2 cr_nil)))
theorem inBounds_w15 (h : (!i.op == 10 && (!i.op == 11 && (!i.op == 12 && (!i.op == 13 && (i.op == 14 && (regB i.d && (!srcB i.s && true))))))) = true) (c0 : Ok 121 [.c (.i i.d)] (.c (.b (regB i.d)))) (c1 : Ok 124 [.c (.i i.s)] (.c (.b (srcB i.s)))) :
  Ok 87 [.ag i.cs, .c (.i n)] (.c (.b false)) :=
 val_run2 [false, false, false, false, true, true, false] [] [] Tryz.func87 rfl rfl rfl rfl (by kernel_rfl) h (cr_cons c0 (cr_cons c1 cr_nil))
theorem inBounds_w16 (h : (!i.op == 10 && (!i.op == 11 && (!i.op == 12 && (!i.op == 13 && (i.op == 14 && (!regB i.d && true)))))) = true) (c0 : Ok 121 [.c (.i i.d)] (.c (.b (regB i.d)))) :
  Ok 87 [.ag i.cs, .c (.i n)] (.c (.b false)) :=
 val_run2 [false, false, false, false, true, false, false] [] [] Tryz.func87 rfl rfl rfl rfl (by kernel_rfl) h (cr_cons c0 cr_nil)
theorem inBounds_w17 (h : (!i.op == 10 && (!i.op == 11 && (!i.op == 12 && (!i.op == 13 && (!i.op == 14 && (i.op == 15 && true)))))) = true) :
  Ok 87 [.ag i.cs, .c (.i n)] (.c (.b true)) :=
 val_run2 [false, false, false, false, false, true] [] [] Tryz.func87 rfl rfl rfl rfl (by kernel_rfl) h cr_nil
theorem inBounds_w18 (h : (!i.op == 10 && (!i.op == 11 && (!i.op == 12 && (!i.op == 13 && (!i.op == 14 && (!i.op == 15 && (regB i.d && true))))))) = true) (c0 : Ok 121 [.c (.i i.d)] (.c (.b (regB i.d)))) (c1 : Ok 124 [.c (.i i.s)] (.c (.b (srcB i.s)))) :
  Ok 87 [.ag i.cs, .c (.i n)] (.c (.b (srcB i.s))) :=
 val_run2 [false, false, false, false, false, false, true] [] [] Tryz.func87 rfl rfl rfl rfl (by kernel_rfl) h (cr_cons c0 (cr_cons c1 cr_nil))
theorem inBounds_w19 (h : (!i.op == 10 && (!i.op == 11 && (!i.op == 12 && (!i.op == 13 && (!i.op == 14 && (!i.op == 15 && (!regB i.d && true))))))) = true) (c0 : Ok 121 [.c (.i i.d)] (.c (.b (regB i.d)))) :
  Ok 87 [.ag i.cs, .c (.i n)] (.c (.b false)) :=
 val_run2 [false, false, false, false, false, false, false] [] [] Tryz.func87 rfl rfl rfl rfl (by kernel_rfl) h (cr_cons c0 cr_nil)
theorem inBounds_all
  (l0 : (i.op == 10) = true → (regB i.d) = true → (regB i.s) = true → (sizeB i.im) = true → (decide (-64 ≤ i.of)) = true → (Ok 121 [.c (.i i.d)] (.c (.b (regB i.d)))) ∧ (Ok 121 [.c (.i i.s)] (.c (.b (regB i.s)))) ∧ (Ok 122 [.c (.u i.im)] (.c (.b (sizeB i.im)))) ∧ (AV.c (.b (decide (i.of ≤ 64))) = V))
  (l1 : (i.op == 10) = true → (regB i.d) = true → (regB i.s) = true → (sizeB i.im) = true → (decide (-64 ≤ i.of)) = false → (Ok 121 [.c (.i i.d)] (.c (.b (regB i.d)))) ∧ (Ok 121 [.c (.i i.s)] (.c (.b (regB i.s)))) ∧ (Ok 122 [.c (.u i.im)] (.c (.b (sizeB i.im)))) ∧ (AV.c (.b false) = V))
  (l2 : (i.op == 10) = true → (regB i.d) = true → (regB i.s) = true → (sizeB i.im) = false → (Ok 121 [.c (.i i.d)] (.c (.b (regB i.d)))) ∧ (Ok 121 [.c (.i i.s)] (.c (.b (regB i.s)))) ∧ (Ok 122 [.c (.u i.im)] (.c (.b (sizeB i.im)))) ∧ (AV.c (.b false) = V))
  (l3 : (i.op == 10) = true → (regB i.d) = true → (regB i.s) = false → (Ok 121 [.c (.i i.d)] (.c (.b (regB i.d)))) ∧ (Ok 121 [.c (.i i.s)] (.c (.b (regB i.s)))) ∧ (AV.c (.b false) = V))
  (l4 : (i.op == 10) = true → (regB i.d) = false → (Ok 121 [.c (.i i.d)] (.c (.b (regB i.d)))) ∧ (AV.c (.b false) = V))
  (l5 : (i.op == 10) = false → (i.op == 11) = true → (regB i.d) = true → (regB i.s) = true → (sizeB i.im) = true → (decide (-64 ≤ i.of)) = true → (Ok 121 [.c (.i i.d)] (.c (.b (regB i.d)))) ∧ (Ok 121 [.c (.i i.s)] (.c (.b (regB i.s)))) ∧ (Ok 122 [.c (.u i.im)] (.c (.b (sizeB i.im)))) ∧ (AV.c (.b (decide (i.of ≤ 64))) = V))
  (l6 : (i.op == 10) = false → (i.op == 11) = true → (regB i.d) = true → (regB i.s) = true → (sizeB i.im) = true → (decide (-64 ≤ i.of)) = false → (Ok 121 [.c (.i i.d)] (.c (.b (regB i.d)))) ∧ (Ok 121 [.c (.i i.s)] (.c (.b (regB i.s)))) ∧ (Ok 122 [.c (.u i.im)] (.c (.b (sizeB i.im)))) ∧ (AV.c (.b false) = V))
  (l7 : (i.op == 10) = false → (i.op == 11) = true → (regB i.d) = true → (regB i.s) = true → (sizeB i.im) = false → (Ok 121 [.c (.i i.d)] (.c (.b (regB i.d)))) ∧ (Ok 121 [.c (.i i.s)] (.c (.b (regB i.s)))) ∧ (Ok 122 [.c (.u i.im)] (.c (.b (sizeB i.im)))) ∧ (AV.c (.b false) = V))
  (l8 : (i.op == 10) = false → (i.op == 11) = true → (regB i.d) = true → (regB i.s) = false → (Ok 121 [.c (.i i.d)] (.c (.b (regB i.d)))) ∧ (Ok 121 [.c (.i i.s)] (.c (.b (regB i.s)))) ∧ (AV.c (.b false) = V))
  (l9 : (i.op == 10) = false → (i.op == 11) = true → (regB i.d) = false → (Ok 121 [.c (.i i.d)] (.c (.b (regB i.d)))) ∧ (AV.c (.b false) = V))
  (l10 : (i.op == 10) = false → (i.op == 11) = false → (i.op == 12) = true → (Ok 123 [.c (.i i.of), .c (.i n)] (.c (.b (goesB i.of n)))) ∧ (AV.c (.b (goesB i.of n)) = V))
  (l11 : (i.op == 10) = false → (i.op == 11) = false → (i.op == 12) = false → (i.op == 13) = true → (regB i.d) = true → (srcB i.s) = true → (Ok 121 [.c (.i i.d)] (.c (.b (regB i.d)))) ∧ (Ok 124 [.c (.i i.s)] (.c (.b (srcB i.s)))) ∧ (Ok 123 [.c (.i i.of), .c (.i n)] (.c (.b (goesB i.of n)))) ∧ (AV.c (.b (goesB i.of n)) = V))
  (l12 : (i.op == 10) = false → (i.op == 11) = false → (i.op == 12) = false → (i.op == 13) = true → (regB i.d) = true → (srcB i.s) = false → (Ok 121 [.c (.i i.d)] (.c (.b (regB i.d)))) ∧ (Ok 124 [.c (.i i.s)] (.c (.b (srcB i.s)))) ∧ (AV.c (.b false) = V))
  (l13 : (i.op == 10) = false → (i.op == 11) = false → (i.op == 12) = false → (i.op == 13) = true → (regB i.d) = false → (Ok 121 [.c (.i i.d)] (.c (.b (regB i.d)))) ∧ (AV.c (.b false) = V))
  (l14 : (i.op == 10) = false → (i.op == 11) = false → (i.op == 12) = false → (i.op == 13) = false → (i.op == 14) = true → (regB i.d) = true → (srcB i.s) = true → (Ok 121 [.c (.i i.d)] (.c (.b (regB i.d)))) ∧ (Ok 124 [.c (.i i.s)] (.c (.b (srcB i.s)))) ∧ (Ok 123 [.c (.i i.of), .c (.i n)] (.c (.b (goesB i.of n)))) ∧ (AV.c (.b (goesB i.of n)) = V))
  (l15 : (i.op == 10) = false → (i.op == 11) = false → (i.op == 12) = false → (i.op == 13) = false → (i.op == 14) = true → (regB i.d) = true → (srcB i.s) = false → (Ok 121 [.c (.i i.d)] (.c (.b (regB i.d)))) ∧ (Ok 124 [.c (.i i.s)] (.c (.b (srcB i.s)))) ∧ (AV.c (.b false) = V))
  (l16 : (i.op == 10) = false → (i.op == 11) = false → (i.op == 12) = false → (i.op == 13) = false → (i.op == 14) = true → (regB i.d) = false → (Ok 121 [.c (.i i.d)] (.c (.b (regB i.d)))) ∧ (AV.c (.b false) = V))
  (l17 : (i.op == 10) = false → (i.op == 11) = false → (i.op == 12) = false → (i.op == 13) = false → (i.op == 14) = false → (i.op == 15) = true → (AV.c (.b true) = V))
  (l18 : (i.op == 10) = false → (i.op == 11) = false → (i.op == 12) = false → (i.op == 13) = false → (i.op == 14) = false → (i.op == 15) = false → (regB i.d) = true → (Ok 121 [.c (.i i.d)] (.c (.b (regB i.d)))) ∧ (Ok 124 [.c (.i i.s)] (.c (.b (srcB i.s)))) ∧ (AV.c (.b (srcB i.s)) = V))
  (l19 : (i.op == 10) = false → (i.op == 11) = false → (i.op == 12) = false → (i.op == 13) = false → (i.op == 14) = false → (i.op == 15) = false → (regB i.d) = false → (Ok 121 [.c (.i i.d)] (.c (.b (regB i.d)))) ∧ (AV.c (.b false) = V)) :
  Ok 87 [.ag i.cs, .c (.i n)] V :=
 (tf (i.op == 10)).elim (fun h0 => (tf (regB i.d)).elim (fun h1 => (tf (regB i.s)).elim (fun h2 => (tf (sizeB i.im)).elim (fun h3 => (tf (decide (-64 ≤ i.of))).elim (fun h4 => (match l0 h0 h1 h2 h3 h4 with | ⟨c0, c1, c2, e⟩ => ok_eq (inBounds_w0 (and_yes h0 (and_yes h0 (and_yes h1 (and_yes h2 (and_yes h3 (and_yes h4 rfl)))))) c0 c1 c2) e)) (fun h4 => (match l1 h0 h1 h2 h3 h4 with | ⟨c0, c1, c2, e⟩ => ok_eq (inBounds_w1 (and_yes h0 (and_yes h0 (and_yes h1 (and_yes h2 (and_yes h3 (and_yes (not_yes h4) rfl)))))) c0 c1 c2) e))) (fun h3 => (match l2 h0 h1 h2 h3 with | ⟨c0, c1, c2, e⟩ => ok_eq (inBounds_w2 (and_yes h0 (and_yes h0 (and_yes h1 (and_yes h2 (and_yes (not_yes h3) rfl))))) c0 c1 c2) e))) (fun h2 => (match l3 h0 h1 h2 with | ⟨c0, c1, e⟩ => ok_eq (inBounds_w3 (and_yes h0 (and_yes h0 (and_yes h1 (and_yes (not_yes h2) rfl)))) c0 c1) e))) (fun h1 => (match l4 h0 h1 with | ⟨c0, e⟩ => ok_eq (inBounds_w4 (and_yes h0 (and_yes h0 (and_yes (not_yes h1) rfl))) c0) e))) (fun h0 => (tf (i.op == 11)).elim (fun h1 => (tf (regB i.d)).elim (fun h2 => (tf (regB i.s)).elim (fun h3 => (tf (sizeB i.im)).elim (fun h4 => (tf (decide (-64 ≤ i.of))).elim (fun h5 => (match l5 h0 h1 h2 h3 h4 h5 with | ⟨c0, c1, c2, e⟩ => ok_eq (inBounds_w5 (and_yes (not_yes h0) (and_yes h1 (and_yes h2 (and_yes h3 (and_yes h4 (and_yes h5 rfl)))))) c0 c1 c2) e)) (fun h5 => (match l6 h0 h1 h2 h3 h4 h5 with | ⟨c0, c1, c2, e⟩ => ok_eq (inBounds_w6 (and_yes (not_yes h0) (and_yes h1 (and_yes h2 (and_yes h3 (and_yes h4 (and_yes (not_yes h5) rfl)))))) c0 c1 c2) e))) (fun h4 => (match l7 h0 h1 h2 h3 h4 with | ⟨c0, c1, c2, e⟩ => ok_eq (inBounds_w7 (and_yes (not_yes h0) (and_yes h1 (and_yes h2 (and_yes h3 (and_yes (not_yes h4) rfl))))) c0 c1 c2) e))) (fun h3 => (match l8 h0 h1 h2 h3 with | ⟨c0, c1, e⟩ => ok_eq (inBounds_w8 (and_yes (not_yes h0) (and_yes h1 (and_yes h2 (and_yes (not_yes h3) rfl)))) c0 c1) e))) (fun h2 => (match l9 h0 h1 h2 with | ⟨c0, e⟩ => ok_eq (inBounds_w9 (and_yes (not_yes h0) (and_yes h1 (and_yes (not_yes h2) rfl))) c0) e))) (fun h1 => (tf (i.op == 12)).elim (fun h2 => (match l10 h0 h1 h2 with | ⟨c0, e⟩ => ok_eq (inBounds_w10 (and_yes (not_yes h0) (and_yes (not_yes h1) (and_yes h2 rfl))) c0) e)) (fun h2 => (tf (i.op == 13)).elim (fun h3 => (tf (regB i.d)).elim (fun h4 => (tf (srcB i.s)).elim (fun h5 => (match l11 h0 h1 h2 h3 h4 h5 with | ⟨c0, c1, c2, e⟩ => ok_eq (inBounds_w11 (and_yes (not_yes h0) (and_yes (not_yes h1) (and_yes (not_yes h2) (and_yes h3 (and_yes h3 (and_yes h4 (and_yes h5 rfl))))))) c0 c1 c2) e)) (fun h5 => (match l12 h0 h1 h2 h3 h4 h5 with | ⟨c0, c1, e⟩ => ok_eq (inBounds_w12 (and_yes (not_yes h0) (and_yes (not_yes h1) (and_yes (not_yes h2) (and_yes h3 (and_yes h3 (and_yes h4 (and_yes (not_yes h5) rfl))))))) c0 c1) e))) (fun h4 => (match l13 h0 h1 h2 h3 h4 with | ⟨c0, e⟩ => ok_eq (inBounds_w13 (and_yes (not_yes h0) (and_yes (not_yes h1) (and_yes (not_yes h2) (and_yes h3 (and_yes h3 (and_yes (not_yes h4) rfl)))))) c0) e))) (fun h3 => (tf (i.op == 14)).elim (fun h4 => (tf (regB i.d)).elim (fun h5 => (tf (srcB i.s)).elim (fun h6 => (match l14 h0 h1 h2 h3 h4 h5 h6 with | ⟨c0, c1, c2, e⟩ => ok_eq (inBounds_w14 (and_yes (not_yes h0) (and_yes (not_yes h1) (and_yes (not_yes h2) (and_yes (not_yes h3) (and_yes h4 (and_yes h5 (and_yes h6 rfl))))))) c0 c1 c2) e)) (fun h6 => (match l15 h0 h1 h2 h3 h4 h5 h6 with | ⟨c0, c1, e⟩ => ok_eq (inBounds_w15 (and_yes (not_yes h0) (and_yes (not_yes h1) (and_yes (not_yes h2) (and_yes (not_yes h3) (and_yes h4 (and_yes h5 (and_yes (not_yes h6) rfl))))))) c0 c1) e))) (fun h5 => (match l16 h0 h1 h2 h3 h4 h5 with | ⟨c0, e⟩ => ok_eq (inBounds_w16 (and_yes (not_yes h0) (and_yes (not_yes h1) (and_yes (not_yes h2) (and_yes (not_yes h3) (and_yes h4 (and_yes (not_yes h5) rfl)))))) c0) e))) (fun h4 => (tf (i.op == 15)).elim (fun h5 => (match l17 h0 h1 h2 h3 h4 h5 with | e => ok_eq (inBounds_w17 (and_yes (not_yes h0) (and_yes (not_yes h1) (and_yes (not_yes h2) (and_yes (not_yes h3) (and_yes (not_yes h4) (and_yes h5 rfl))))))) e)) (fun h5 => (tf (regB i.d)).elim (fun h6 => (match l18 h0 h1 h2 h3 h4 h5 h6 with | ⟨c0, c1, e⟩ => ok_eq (inBounds_w18 (and_yes (not_yes h0) (and_yes (not_yes h1) (and_yes (not_yes h2) (and_yes (not_yes h3) (and_yes (not_yes h4) (and_yes (not_yes h5) (and_yes h6 rfl))))))) c0 c1) e)) (fun h6 => (match l19 h0 h1 h2 h3 h4 h5 h6 with | ⟨c0, e⟩ => ok_eq (inBounds_w19 (and_yes (not_yes h0) (and_yes (not_yes h1) (and_yes (not_yes h2) (and_yes (not_yes h3) (and_yes (not_yes h4) (and_yes (not_yes h5) (and_yes (not_yes h6) rfl))))))) c0) e))))))))
theorem bare_w0 (h : (i.op == 10 && (i.op == 10 && true)) = true) :
  Ok 88 [.ag i.cs] (.c (.b true)) :=
 val_run2 [true, true] [] [] Tryz.func88 rfl rfl rfl rfl (by kernel_rfl) h cr_nil
theorem bare_w1 (h : (!i.op == 10 && (i.op == 11 && true)) = true) :
  Ok 88 [.ag i.cs] (.c (.b true)) :=
 val_run2 [false, true] [] [] Tryz.func88 rfl rfl rfl rfl (by kernel_rfl) h cr_nil
theorem bare_w2 (h : (!i.op == 10 && (!i.op == 11 && (i.op == 12 && true))) = true) :
  Ok 88 [.ag i.cs] (.c (.b (eqCs i.cs (splice (splice [.i 0, .i 0, .i 0, .u 0#64, .i 0] 0 [.i 12]) 4 [.i i.of])))) :=
 val_run2 [false, false, true] [] [] Tryz.func88 rfl rfl rfl rfl (by kernel_rfl) h cr_nil
theorem bare_w3 (h : (!i.op == 10 && (!i.op == 11 && (!i.op == 12 && (i.op == 13 && (i.op == 13 && (i.s == -1 && true)))))) = true) :
  Ok 88 [.ag i.cs] (.c (.b true)) :=
 val_run2 [false, false, false, true, true, true] [] [] Tryz.func88 rfl rfl rfl rfl (by kernel_rfl) h cr_nil
theorem bare_w4 (h : (!i.op == 10 && (!i.op == 11 && (!i.op == 12 && (i.op == 13 && (i.op == 13 && (!i.s == -1 && true)))))) = true) :
  Ok 88 [.ag i.cs] (.c (.b (eqb i.im 0#64))) :=
 val_run2 [false, false, false, true, true, false] [] [] Tryz.func88 rfl rfl rfl rfl (by kernel_rfl) h cr_nil
theorem bare_w5 (h : (!i.op == 10 && (!i.op == 11 && (!i.op == 12 && (!i.op == 13 && (i.op == 14 && (i.s == -1 && true)))))) = true) :
  Ok 88 [.ag i.cs] (.c (.b true)) :=
 val_run2 [false, false, false, false, true, true] [] [] Tryz.func88 rfl rfl rfl rfl (by kernel_rfl) h cr_nil
theorem bare_w6 (h : (!i.op == 10 && (!i.op == 11 && (!i.op == 12 && (!i.op == 13 && (i.op == 14 && (!i.s == -1 && true)))))) = true) :
  Ok 88 [.ag i.cs] (.c (.b (eqb i.im 0#64))) :=
 val_run2 [false, false, false, false, true, false] [] [] Tryz.func88 rfl rfl rfl rfl (by kernel_rfl) h cr_nil
theorem bare_w7 (h : (!i.op == 10 && (!i.op == 11 && (!i.op == 12 && (!i.op == 13 && (!i.op == 14 && (i.op == 15 && true)))))) = true) :
  Ok 88 [.ag i.cs] (.c (.b (eqCs i.cs (splice [.i 0, .i 0, .i 0, .u 0#64, .i 0] 0 [.i 15])))) :=
 val_run2 [false, false, false, false, false, true] [] [] Tryz.func88 rfl rfl rfl rfl (by kernel_rfl) h cr_nil
theorem bare_w8 (h : (!i.op == 10 && (!i.op == 11 && (!i.op == 12 && (!i.op == 13 && (!i.op == 14 && (!i.op == 15 && (i.of == 0 && (i.s == -1 && true)))))))) = true) :
  Ok 88 [.ag i.cs] (.c (.b true)) :=
 val_run2 [false, false, false, false, false, false, true, true] [] [] Tryz.func88 rfl rfl rfl rfl (by kernel_rfl) h cr_nil
theorem bare_w9 (h : (!i.op == 10 && (!i.op == 11 && (!i.op == 12 && (!i.op == 13 && (!i.op == 14 && (!i.op == 15 && (i.of == 0 && (!i.s == -1 && true)))))))) = true) :
  Ok 88 [.ag i.cs] (.c (.b (eqb i.im 0#64))) :=
 val_run2 [false, false, false, false, false, false, true, false] [] [] Tryz.func88 rfl rfl rfl rfl (by kernel_rfl) h cr_nil
theorem bare_w10 (h : (!i.op == 10 && (!i.op == 11 && (!i.op == 12 && (!i.op == 13 && (!i.op == 14 && (!i.op == 15 && (!i.of == 0 && true))))))) = true) :
  Ok 88 [.ag i.cs] (.c (.b false)) :=
 val_run2 [false, false, false, false, false, false, false] [] [] Tryz.func88 rfl rfl rfl rfl (by kernel_rfl) h cr_nil
theorem bare_all
  (l0 : (i.op == 10) = true → (AV.c (.b true) = V))
  (l1 : (i.op == 10) = false → (i.op == 11) = true → (AV.c (.b true) = V))
  (l2 : (i.op == 10) = false → (i.op == 11) = false → (i.op == 12) = true → (AV.c (.b (eqCs i.cs (splice (splice [.i 0, .i 0, .i 0, .u 0#64, .i 0] 0 [.i 12]) 4 [.i i.of]))) = V))
  (l3 : (i.op == 10) = false → (i.op == 11) = false → (i.op == 12) = false → (i.op == 13) = true → (i.s == -1) = true → (AV.c (.b true) = V))
  (l4 : (i.op == 10) = false → (i.op == 11) = false → (i.op == 12) = false → (i.op == 13) = true → (i.s == -1) = false → (AV.c (.b (eqb i.im 0#64)) = V))
  (l5 : (i.op == 10) = false → (i.op == 11) = false → (i.op == 12) = false → (i.op == 13) = false → (i.op == 14) = true → (i.s == -1) = true → (AV.c (.b true) = V))
  (l6 : (i.op == 10) = false → (i.op == 11) = false → (i.op == 12) = false → (i.op == 13) = false → (i.op == 14) = true → (i.s == -1) = false → (AV.c (.b (eqb i.im 0#64)) = V))
  (l7 : (i.op == 10) = false → (i.op == 11) = false → (i.op == 12) = false → (i.op == 13) = false → (i.op == 14) = false → (i.op == 15) = true → (AV.c (.b (eqCs i.cs (splice [.i 0, .i 0, .i 0, .u 0#64, .i 0] 0 [.i 15]))) = V))
  (l8 : (i.op == 10) = false → (i.op == 11) = false → (i.op == 12) = false → (i.op == 13) = false → (i.op == 14) = false → (i.op == 15) = false → (i.of == 0) = true → (i.s == -1) = true → (AV.c (.b true) = V))
  (l9 : (i.op == 10) = false → (i.op == 11) = false → (i.op == 12) = false → (i.op == 13) = false → (i.op == 14) = false → (i.op == 15) = false → (i.of == 0) = true → (i.s == -1) = false → (AV.c (.b (eqb i.im 0#64)) = V))
  (l10 : (i.op == 10) = false → (i.op == 11) = false → (i.op == 12) = false → (i.op == 13) = false → (i.op == 14) = false → (i.op == 15) = false → (i.of == 0) = false → (AV.c (.b false) = V)) :
  Ok 88 [.ag i.cs] V :=
 (tf (i.op == 10)).elim (fun h0 => (match l0 h0 with | e => ok_eq (bare_w0 (and_yes h0 (and_yes h0 rfl))) e)) (fun h0 => (tf (i.op == 11)).elim (fun h1 => (match l1 h0 h1 with | e => ok_eq (bare_w1 (and_yes (not_yes h0) (and_yes h1 rfl))) e)) (fun h1 => (tf (i.op == 12)).elim (fun h2 => (match l2 h0 h1 h2 with | e => ok_eq (bare_w2 (and_yes (not_yes h0) (and_yes (not_yes h1) (and_yes h2 rfl)))) e)) (fun h2 => (tf (i.op == 13)).elim (fun h3 => (tf (i.s == -1)).elim (fun h4 => (match l3 h0 h1 h2 h3 h4 with | e => ok_eq (bare_w3 (and_yes (not_yes h0) (and_yes (not_yes h1) (and_yes (not_yes h2) (and_yes h3 (and_yes h3 (and_yes h4 rfl))))))) e)) (fun h4 => (match l4 h0 h1 h2 h3 h4 with | e => ok_eq (bare_w4 (and_yes (not_yes h0) (and_yes (not_yes h1) (and_yes (not_yes h2) (and_yes h3 (and_yes h3 (and_yes (not_yes h4) rfl))))))) e))) (fun h3 => (tf (i.op == 14)).elim (fun h4 => (tf (i.s == -1)).elim (fun h5 => (match l5 h0 h1 h2 h3 h4 h5 with | e => ok_eq (bare_w5 (and_yes (not_yes h0) (and_yes (not_yes h1) (and_yes (not_yes h2) (and_yes (not_yes h3) (and_yes h4 (and_yes h5 rfl))))))) e)) (fun h5 => (match l6 h0 h1 h2 h3 h4 h5 with | e => ok_eq (bare_w6 (and_yes (not_yes h0) (and_yes (not_yes h1) (and_yes (not_yes h2) (and_yes (not_yes h3) (and_yes h4 (and_yes (not_yes h5) rfl))))))) e))) (fun h4 => (tf (i.op == 15)).elim (fun h5 => (match l7 h0 h1 h2 h3 h4 h5 with | e => ok_eq (bare_w7 (and_yes (not_yes h0) (and_yes (not_yes h1) (and_yes (not_yes h2) (and_yes (not_yes h3) (and_yes (not_yes h4) (and_yes h5 rfl))))))) e)) (fun h5 => (tf (i.of == 0)).elim (fun h6 => (tf (i.s == -1)).elim (fun h7 => (match l8 h0 h1 h2 h3 h4 h5 h6 h7 with | e => ok_eq (bare_w8 (and_yes (not_yes h0) (and_yes (not_yes h1) (and_yes (not_yes h2) (and_yes (not_yes h3) (and_yes (not_yes h4) (and_yes (not_yes h5) (and_yes h6 (and_yes h7 rfl))))))))) e)) (fun h7 => (match l9 h0 h1 h2 h3 h4 h5 h6 h7 with | e => ok_eq (bare_w9 (and_yes (not_yes h0) (and_yes (not_yes h1) (and_yes (not_yes h2) (and_yes (not_yes h3) (and_yes (not_yes h4) (and_yes (not_yes h5) (and_yes h6 (and_yes (not_yes h7) rfl))))))))) e))) (fun h6 => (match l10 h0 h1 h2 h3 h4 h5 h6 with | e => ok_eq (bare_w10 (and_yes (not_yes h0) (and_yes (not_yes h1) (and_yes (not_yes h2) (and_yes (not_yes h3) (and_yes (not_yes h4) (and_yes (not_yes h5) (and_yes (not_yes h6) rfl)))))))) e))))))))
end
theorem isReg_ok (d : Int) : Ok 121 [.c (.i d)] (.c (.b (regB d))) := by
 refine isReg_all ?_ ?_ <;> (intro h; rw [regB, h]; rfl)
theorem isSource_ok (d : Int) : Ok 124 [.c (.i d)] (.c (.b (srcB d))) := by
 refine isSource_all ?_ ?_
 ·intro h; simp_all [srcB]
 ·intro h; refine ⟨isReg_ok _, ?_⟩; simp_all [srcB]
theorem isSize_ok (d : BitVec 64) : Ok 122 [.c (.u d)] (.c (.b (sizeB d))) := by
 refine isSize_all ?_ ?_ ?_ ?_ <;> (intros; simp_all [sizeB])
theorem goesOn_ok (d n : Int) : Ok 123 [.c (.i d), .c (.i n)] (.c (.b (goesB d n))) := by
 refine goesOn_all ?_ ?_ <;> (intro h; rw [goesB, h]; rfl)
theorem inBounds_ok (i : Ins) (n : Int) : Ok 87 [.ag i.cs, .c (.i n)] (.c (.b (inB i n))) := by
 apply inBounds_all
 all_goals intros
 all_goals repeat' apply And.intro
 all_goals first
  | exact isReg_ok _
  | exact isSource_ok _
  | exact isSize_ok _
  | exact goesOn_ok _ _
  | (simp_all [inB]; try omega)
theorem bare_ok (i : Ins) : Ok 88 [.ag i.cs] (.c (.b (bareB i))) := by
 apply bare_all
 all_goals intros
 all_goals (simp_all [bareB, eqCs, eqC, splice, Ins.cs, Bool.and_assoc]; try rfl)
theorem wrapN {n : Int} (h0 : -1099511627776 ≤ n) (h1 : n ≤ 1099511627776) : IntKind.i64.wrap n = n := by
 rw [IntKind.wrap_i64]; omega
theorem bcs_set {v : V6 Bool} {r : Int} (h : regB r = true) : (bcs v).set (r.toNat * 1) (.b true) = bcs (v.set r.toNat true) :=
 reg_elim (P := fun r => (bcs v).set (r.toNat * 1) (.b true) = bcs (v.set r.toNat true)) h rfl rfl rfl rfl rfl rfl
theorem bcs_len (v : V6 Bool) : (bcs v).length = 6 := rfl
theorem use_of_ok {i : Ins} (h : i.op = 12 ∨ i.op = 15 ∨ (regB i.d = true ∧ srcB i.s = true)) : Ok 65 [.ag i.cs] (.ag (bcs (useOf i))) := by
 unfold useOf
 by_cases c1 : i.op = 12
 ·rw [if_pos c1]; exact useOf12_w0 (by simp [c1])
 by_cases c2 : i.op = 15
 ·rw [if_neg c1, if_pos c2]; exact useOf15_w0 (by simp [c2])
 obtain ⟨hd, hs⟩ := (h.resolve_left c1).resolve_left c2
 have d1 := regB_iff.1 hd
 have d2 := reg_nat hd
 rw [if_neg c1, if_neg c2]
 rcases srcB_iff.1 hs with e | hs
 ·rw [if_pos e]
  by_cases c3 : i.op = 1
  ·rw [if_pos (Or.inl c3)]; exact useOfM_w1 (by simp [c3, e])
  by_cases c4 : i.op = 10
  ·rw [if_pos (Or.inr c4)]; exact useOfL_w1 (by simp [c4, e])
  rw [if_neg (by omega)]
  refine useOfD_w1 ?_ ?_
  ·simp [c1, c2, c3, c4, d1.1, d1.2, e]; omega
  ·rw [bcs_set hd]
 ·have s1 := regB_iff.1 hs
  have s2 := reg_nat hs
  have e : ¬ i.s = -1 := by omega
  rw [if_neg e]
  by_cases c3 : i.op = 1
  ·rw [if_pos (Or.inl c3)]
   refine useOfM_w0 ?_ ?_
   ·simp [c3, e, s1.1, s1.2]; omega
   ·rw [bcs_set hs]
  by_cases c4 : i.op = 10
  ·rw [if_pos (Or.inr c4)]
   refine useOfL_w0 ?_ ?_
   ·simp [c4, e, s1.1, s1.2]; omega
   ·rw [bcs_set hs]
  rw [if_neg (by omega)]
  refine useOfD_w0 ?_ ?_ ?_
  ·simp [c1, c2, c3, c4, d1.1, d1.2, e, s1.1, s1.2, bcs_len]; omega
  ·rw [bcs_set hd]
  ·rw [bcs_set hs]

section
abbrev ckAK (L : List Ins) (c j : Nat) : Kn := ⟨[(0, .c (.sl 0 0 L.length c)), (17, .c (.sl 0 0 L.length c)), (18, .c (.i (L.length : Int))), (19, .c (.i (j : Int)))], [(0, Ent.mk false (pcell L) 0)], 1⟩
abbrev ckBK (L : List Ins) (c j : Nat) : Kn := ⟨[(0, .c (.sl 0 0 L.length c)), (32, .c (.sl 0 0 L.length c)), (33, .c (.i (L.length : Int))), (34, .c (.i (j : Int)))], [(0, Ent.mk false (pcell L) 0)], 1⟩
abbrev ckCK (L : List Ins) (c j : Nat) : Kn := ⟨[(0, .c (.sl 0 0 L.length c)), (48, .c (.sl 0 0 L.length c)), (49, .c (.i (L.length : Int))), (50, .c (.i (j : Int)))], [(0, Ent.mk false (pcell L) 0)], 1⟩
variable {L : List Ins} {c n j : Nat} {w : World} {β : Bs} {C : Cx} {R : Ending → World → Prop} {E : Eff}
theorem ckTop_w0 (h : ((L.length : Int) == 0 && true) = true) :
  BO 47 Tryz.f47 (cx w β n []) [.c (.sl 0 0 L.length c)] [(0, Ent.mk false (pcell L) 0)] 1 (REff w β ⟨.c (.i 2), [], none⟩) :=
 run_eff2 [] none [true, true] [true] [] Tryz.func47 (ekeys0 rfl n) (by kernel_rfl) h cr_nil
theorem ckTop_w1 (h : (!(L.length : Int) == 0 && (decide (64 < (L.length : Int)) && true)) = true) :
  BO 47 Tryz.f47 (cx w β n []) [.c (.sl 0 0 L.length c)] [(0, Ent.mk false (pcell L) 0)] 1 (REff w β ⟨.c (.i 2), [], none⟩) :=
 run_eff2 [] none [false, true] [true] [] Tryz.func47 (ekeys0 rfl n) (by kernel_rfl) h cr_nil
theorem ckTop_w2 (h : (!(L.length : Int) == 0 && (!decide (64 < (L.length : Int)) && true)) = true) (lo : Kn.Low ⟨[(0, .c (.sl 0 0 L.length c)), (17, .c (.sl 0 0 L.length c)), (18, .c (.i (L.length : Int))), (19, .c (.i 0))], [(0, Ent.mk false (pcell L) 0)], 1⟩) (hF : ∀ k, C.F k → k < 1) (z : AR 47 Tryz.f47 C 0 ⟨[(0, .c (.sl 0 0 L.length c)), (17, .c (.sl 0 0 L.length c)), (18, .c (.i (L.length : Int))), (19, .c (.i 0))], [(0, Ent.mk false (pcell L) 0)], 1⟩ R) :
  BO 47 Tryz.f47 C [.c (.sl 0 0 L.length c)] [(0, Ent.mk false (pcell L) 0)] 1 R :=
 run_cut2 [false, false] [true] [] Tryz.func47 (by kernel_rfl) h cr_nil lo hF z
theorem ckTop_all (hn : n ≤ 1)
  (l0 : ((L.length : Int) == 0) = true → ((⟨.c (.i 2), [], none⟩ : Eff) = E))
  (l1 : ((L.length : Int) == 0) = false → (decide (64 < (L.length : Int))) = true → ((⟨.c (.i 2), [], none⟩ : Eff) = E))
  (l2 : ((L.length : Int) == 0) = false → (decide (64 < (L.length : Int))) = false → Kn.Low ⟨[(0, .c (.sl 0 0 L.length c)), (17, .c (.sl 0 0 L.length c)), (18, .c (.i (L.length : Int))), (19, .c (.i 0))], [(0, Ent.mk false (pcell L) 0)], 1⟩ ∧ AR 47 Tryz.f47 (cx w β n []) 0 ⟨[(0, .c (.sl 0 0 L.length c)), (17, .c (.sl 0 0 L.length c)), (18, .c (.i (L.length : Int))), (19, .c (.i 0))], [(0, Ent.mk false (pcell L) 0)], 1⟩ (REff w β E)) :
  BO 47 Tryz.f47 (cx w β n []) [.c (.sl 0 0 L.length c)] [(0, Ent.mk false (pcell L) 0)] 1 (REff w β E) :=
 (tf ((L.length : Int) == 0)).elim (fun h0 => (match l0 h0 with | e => art_eq (ckTop_w0 (and_yes h0 rfl)) e)) (fun h0 => (tf (decide (64 < (L.length : Int)))).elim (fun h1 => (match l1 h0 h1 with | e => art_eq (ckTop_w1 (and_yes (not_yes h0) (and_yes h1 rfl))) e)) (fun h1 => (match l2 h0 h1 with | ⟨lo, z⟩ => ckTop_w2 (and_yes (not_yes h0) (and_yes (not_yes h1) rfl)) lo (fun _ hk => Nat.lt_of_lt_of_le hk hn) z)))
theorem ckA_w0 (h : (decide ((j : Int) < (L.length : Int)) && (decide ((j : Int) < (L.length : Int)) && (Nat.ble (0 + (j : Int).toNat * 5 + 5) (pcell L).length && (decide ((elt L j).op < 1) && true)))) = true) (c0 : pe (.ag (((pcell L).drop (0 + (j : Int).toNat * 5)).take 5)) = pe (.ag (elt L j).cs)) :
  AR 47 Tryz.f47 (cx w β n []) 0 (ckAK L c j) (REff w β ⟨.c (.i 4), [], none⟩) :=
 run_eff2 [] none [true, true, true] [true] [(5, 1)] Tryz.func47 (ekeys0 rfl n) (by kernel_rfl) h (cr_same c0 cr_nil)
theorem ckA_w1 (h : (decide ((j : Int) < (L.length : Int)) && (decide ((j : Int) < (L.length : Int)) && (Nat.ble (0 + (j : Int).toNat * 5 + 5) (pcell L).length && (!decide ((elt L j).op < 1) && (decide (15 < (elt L j).op) && true))))) = true) (c0 : pe (.ag (((pcell L).drop (0 + (j : Int).toNat * 5)).take 5)) = pe (.ag (elt L j).cs)) :
  AR 47 Tryz.f47 (cx w β n []) 0 (ckAK L c j) (REff w β ⟨.c (.i 4), [], none⟩) :=
 run_eff2 [] none [true, false, true] [true] [(5, 1)] Tryz.func47 (ekeys0 rfl n) (by kernel_rfl) h (cr_same c0 cr_nil)
theorem ckA_w2 (h : (decide ((j : Int) < (L.length : Int)) && (decide ((j : Int) < (L.length : Int)) && (Nat.ble (0 + (j : Int).toNat * 5 + 5) (pcell L).length && (!decide ((elt L j).op < 1) && (!decide (15 < (elt L j).op) && true))))) = true) (c0 : pe (.ag (((pcell L).drop (0 + (j : Int).toNat * 5)).take 5)) = pe (.ag (elt L j).cs)) (lo : Kn.Low ⟨[(0, .c (.sl 0 0 L.length c)), (17, .c (.sl 0 0 L.length c)), (18, .c (.i (L.length : Int))), (19, .c (.i (IntKind.i64.wrap ((j : Int) + 1))))], [(0, Ent.mk false (pcell L) 0)], 1⟩) (hF : ∀ k, C.F k → k < 1) (z : AR 47 Tryz.f47 C 0 ⟨[(0, .c (.sl 0 0 L.length c)), (17, .c (.sl 0 0 L.length c)), (18, .c (.i (L.length : Int))), (19, .c (.i (IntKind.i64.wrap ((j : Int) + 1))))], [(0, Ent.mk false (pcell L) 0)], 1⟩ R) :
  AR 47 Tryz.f47 C 0 (ckAK L c j) R :=
 run_cut2 [true, false, false] [true] [(5, 1)] Tryz.func47 (by kernel_rfl) h (cr_same c0 cr_nil) lo hF z
theorem ckA_all (hn : n ≤ 1)
  (l0 : (decide ((elt L j).op < 1)) = true → (decide ((j : Int) < (L.length : Int))) = true ∧ (decide ((j : Int) < (L.length : Int))) = true ∧ (Nat.ble (0 + (j : Int).toNat * 5 + 5) (pcell L).length) = true ∧ (pe (.ag (((pcell L).drop (0 + (j : Int).toNat * 5)).take 5)) = pe (.ag (elt L j).cs)) ∧ ((⟨.c (.i 4), [], none⟩ : Eff) = E))
  (l1 : (decide ((elt L j).op < 1)) = false → (decide (15 < (elt L j).op)) = true → (decide ((j : Int) < (L.length : Int))) = true ∧ (decide ((j : Int) < (L.length : Int))) = true ∧ (Nat.ble (0 + (j : Int).toNat * 5 + 5) (pcell L).length) = true ∧ (pe (.ag (((pcell L).drop (0 + (j : Int).toNat * 5)).take 5)) = pe (.ag (elt L j).cs)) ∧ ((⟨.c (.i 4), [], none⟩ : Eff) = E))
  (l2 : (decide ((elt L j).op < 1)) = false → (decide (15 < (elt L j).op)) = false → (decide ((j : Int) < (L.length : Int))) = true ∧ (decide ((j : Int) < (L.length : Int))) = true ∧ (Nat.ble (0 + (j : Int).toNat * 5 + 5) (pcell L).length) = true ∧ (pe (.ag (((pcell L).drop (0 + (j : Int).toNat * 5)).take 5)) = pe (.ag (elt L j).cs)) ∧ Kn.Low ⟨[(0, .c (.sl 0 0 L.length c)), (17, .c (.sl 0 0 L.length c)), (18, .c (.i (L.length : Int))), (19, .c (.i (IntKind.i64.wrap ((j : Int) + 1))))], [(0, Ent.mk false (pcell L) 0)], 1⟩ ∧ AR 47 Tryz.f47 (cx w β n []) 0 ⟨[(0, .c (.sl 0 0 L.length c)), (17, .c (.sl 0 0 L.length c)), (18, .c (.i (L.length : Int))), (19, .c (.i (IntKind.i64.wrap ((j : Int) + 1))))], [(0, Ent.mk false (pcell L) 0)], 1⟩ (REff w β E)) :
  AR 47 Tryz.f47 (cx w β n []) 0 (ckAK L c j) (REff w β E) :=
 (tf (decide ((elt L j).op < 1))).elim (fun h0 => (match l0 h0 with | ⟨o0, o1, o2, c0, e⟩ => art_eq (ckA_w0 (and_yes o0 (and_yes o1 (and_yes o2 (and_yes h0 rfl)))) c0) e)) (fun h0 => (tf (decide (15 < (elt L j).op))).elim (fun h1 => (match l1 h0 h1 with | ⟨o0, o1, o2, c0, e⟩ => art_eq (ckA_w1 (and_yes o0 (and_yes o1 (and_yes o2 (and_yes (not_yes h0) (and_yes h1 rfl))))) c0) e)) (fun h1 => (match l2 h0 h1 with | ⟨o0, o1, o2, c0, lo, z⟩ => ckA_w2 (and_yes o0 (and_yes o1 (and_yes o2 (and_yes (not_yes h0) (and_yes (not_yes h1) rfl))))) c0 lo (fun _ hk => Nat.lt_of_lt_of_le hk hn) z)))
theorem ckAx_w0 (h : (!decide ((j : Int) < (L.length : Int)) && true) = true) (lo : Kn.Low ⟨[(0, .c (.sl 0 0 L.length c)), (32, .c (.sl 0 0 L.length c)), (33, .c (.i (L.length : Int))), (34, .c (.i 0))], [(0, Ent.mk false (pcell L) 0)], 1⟩) (hF : ∀ k, C.F k → k < 1) (z : AR 47 Tryz.f47 C 1 ⟨[(0, .c (.sl 0 0 L.length c)), (32, .c (.sl 0 0 L.length c)), (33, .c (.i (L.length : Int))), (34, .c (.i 0))], [(0, Ent.mk false (pcell L) 0)], 1⟩ R) :
  AR 47 Tryz.f47 C 0 (ckAK L c j) R :=
 run_cut2 [false] [true] [] Tryz.func47 (by kernel_rfl) h cr_nil lo hF z
theorem ckB_w0 (h : (decide ((j : Int) < (L.length : Int)) && (decide ((j : Int) < (L.length : Int)) && (Nat.ble (0 + (j : Int).toNat * 5 + 5) (pcell L).length && (!inB (elt L j) (↑(L.length - 1 - j) : Int) && true)))) = true) (c0 : pe (.ag (((pcell L).drop (0 + (j : Int).toNat * 5)).take 5)) = pe (.ag (elt L j).cs)) (c1 : pe (.c (.i (IntKind.i64.wrap (IntKind.i64.wrap ((L.length : Int) - 1) - (j : Int))))) = pe (.c (.i (↑(L.length - 1 - j) : Int)))) (c2 : Ok 87 [.ag (elt L j).cs, .c (.i (↑(L.length - 1 - j) : Int))] (.c (.b (inB (elt L j) (↑(L.length - 1 - j) : Int))))) :
  AR 47 Tryz.f47 (cx w β n []) 1 (ckBK L c j) (REff w β ⟨.c (.i 3), [], none⟩) :=
 run_eff2 [] none [true, true] [true] [(11, 2), (12, 5)] Tryz.func47 (ekeys0 rfl n) (by kernel_rfl) h (cr_same c0 (cr_same c1 (cr_cons c2 cr_nil)))
theorem ckB_w1 (h : (decide ((j : Int) < (L.length : Int)) && (decide ((j : Int) < (L.length : Int)) && (Nat.ble (0 + (j : Int).toNat * 5 + 5) (pcell L).length && (!!inB (elt L j) (↑(L.length - 1 - j) : Int) && true)))) = true) (c0 : pe (.ag (((pcell L).drop (0 + (j : Int).toNat * 5)).take 5)) = pe (.ag (elt L j).cs)) (c1 : pe (.c (.i (IntKind.i64.wrap (IntKind.i64.wrap ((L.length : Int) - 1) - (j : Int))))) = pe (.c (.i (↑(L.length - 1 - j) : Int)))) (c2 : Ok 87 [.ag (elt L j).cs, .c (.i (↑(L.length - 1 - j) : Int))] (.c (.b (inB (elt L j) (↑(L.length - 1 - j) : Int))))) (lo : Kn.Low ⟨[(0, .c (.sl 0 0 L.length c)), (32, .c (.sl 0 0 L.length c)), (33, .c (.i (L.length : Int))), (34, .c (.i (IntKind.i64.wrap ((j : Int) + 1))))], [(0, Ent.mk false (pcell L) 0)], 1⟩) (hF : ∀ k, C.F k → k < 1) (z : AR 47 Tryz.f47 C 1 ⟨[(0, .c (.sl 0 0 L.length c)), (32, .c (.sl 0 0 L.length c)), (33, .c (.i (L.length : Int))), (34, .c (.i (IntKind.i64.wrap ((j : Int) + 1))))], [(0, Ent.mk false (pcell L) 0)], 1⟩ R) :
  AR 47 Tryz.f47 C 1 (ckBK L c j) R :=
 run_cut2 [true, false] [true] [(11, 2), (12, 5)] Tryz.func47 (by kernel_rfl) h (cr_same c0 (cr_same c1 (cr_cons c2 cr_nil))) lo hF z
theorem ckB_all (hn : n ≤ 1)
  (l0 : (!inB (elt L j) (↑(L.length - 1 - j) : Int)) = true → (decide ((j : Int) < (L.length : Int))) = true ∧ (decide ((j : Int) < (L.length : Int))) = true ∧ (Nat.ble (0 + (j : Int).toNat * 5 + 5) (pcell L).length) = true ∧ (pe (.ag (((pcell L).drop (0 + (j : Int).toNat * 5)).take 5)) = pe (.ag (elt L j).cs)) ∧ (pe (.c (.i (IntKind.i64.wrap (IntKind.i64.wrap ((L.length : Int) - 1) - (j : Int))))) = pe (.c (.i (↑(L.length - 1 - j) : Int)))) ∧ (Ok 87 [.ag (elt L j).cs, .c (.i (↑(L.length - 1 - j) : Int))] (.c (.b (inB (elt L j) (↑(L.length - 1 - j) : Int))))) ∧ ((⟨.c (.i 3), [], none⟩ : Eff) = E))
  (l1 : (!inB (elt L j) (↑(L.length - 1 - j) : Int)) = false → (decide ((j : Int) < (L.length : Int))) = true ∧ (decide ((j : Int) < (L.length : Int))) = true ∧ (Nat.ble (0 + (j : Int).toNat * 5 + 5) (pcell L).length) = true ∧ (pe (.ag (((pcell L).drop (0 + (j : Int).toNat * 5)).take 5)) = pe (.ag (elt L j).cs)) ∧ (pe (.c (.i (IntKind.i64.wrap (IntKind.i64.wrap ((L.length : Int) - 1) - (j : Int))))) = pe (.c (.i (↑(L.length - 1 - j) : Int)))) ∧ (Ok 87 [.ag (elt L j).cs, .c (.i (↑(L.length - 1 - j) : Int))] (.c (.b (inB (elt L j) (↑(L.length - 1 - j) : Int))))) ∧ Kn.Low ⟨[(0, .c (.sl 0 0 L.length c)), (32, .c (.sl 0 0 L.length c)), (33, .c (.i (L.length : Int))), (34, .c (.i (IntKind.i64.wrap ((j : Int) + 1))))], [(0, Ent.mk false (pcell L) 0)], 1⟩ ∧ AR 47 Tryz.f47 (cx w β n []) 1 ⟨[(0, .c (.sl 0 0 L.length c)), (32, .c (.sl 0 0 L.length c)), (33, .c (.i (L.length : Int))), (34, .c (.i (IntKind.i64.wrap ((j : Int) + 1))))], [(0, Ent.mk false (pcell L) 0)], 1⟩ (REff w β E)) :
  AR 47 Tryz.f47 (cx w β n []) 1 (ckBK L c j) (REff w β E) :=
 (tf (!inB (elt L j) (↑(L.length - 1 - j) : Int))).elim (fun h0 => (match l0 h0 with | ⟨o0, o1, o2, c0, c1, c2, e⟩ => art_eq (ckB_w0 (and_yes o0 (and_yes o1 (and_yes o2 (and_yes h0 rfl)))) c0 c1 c2) e)) (fun h0 => (match l1 h0 with | ⟨o0, o1, o2, c0, c1, c2, lo, z⟩ => ckB_w1 (and_yes o0 (and_yes o1 (and_yes o2 (and_yes (not_yes h0) rfl)))) c0 c1 c2 lo (fun _ hk => Nat.lt_of_lt_of_le hk hn) z))
theorem ckBx_w0 (h : (!decide ((j : Int) < (L.length : Int)) && true) = true) (lo : Kn.Low ⟨[(0, .c (.sl 0 0 L.length c)), (48, .c (.sl 0 0 L.length c)), (49, .c (.i (L.length : Int))), (50, .c (.i 0))], [(0, Ent.mk false (pcell L) 0)], 1⟩) (hF : ∀ k, C.F k → k < 1) (z : AR 47 Tryz.f47 C 2 ⟨[(0, .c (.sl 0 0 L.length c)), (48, .c (.sl 0 0 L.length c)), (49, .c (.i (L.length : Int))), (50, .c (.i 0))], [(0, Ent.mk false (pcell L) 0)], 1⟩ R) :
  AR 47 Tryz.f47 C 1 (ckBK L c j) R :=
 run_cut2 [false] [true] [] Tryz.func47 (by kernel_rfl) h cr_nil lo hF z
theorem ckC_w0 (h : (decide ((j : Int) < (L.length : Int)) && (decide ((j : Int) < (L.length : Int)) && (Nat.ble (0 + (j : Int).toNat * 5 + 5) (pcell L).length && (!bareB (elt L j) && true)))) = true) (c0 : pe (.ag (((pcell L).drop (0 + (j : Int).toNat * 5)).take 5)) = pe (.ag (elt L j).cs)) (c1 : Ok 88 [.ag (elt L j).cs] (.c (.b (bareB (elt L j))))) :
  AR 47 Tryz.f47 (cx w β n []) 2 (ckCK L c j) (REff w β ⟨.c (.i 1), [], none⟩) :=
 run_eff2 [] none [true, true] [true] [(17, 1)] Tryz.func47 (ekeys0 rfl n) (by kernel_rfl) h (cr_same c0 (cr_cons c1 cr_nil))
theorem ckC_w1 (h : (decide ((j : Int) < (L.length : Int)) && (decide ((j : Int) < (L.length : Int)) && (Nat.ble (0 + (j : Int).toNat * 5 + 5) (pcell L).length && (!!bareB (elt L j) && true)))) = true) (c0 : pe (.ag (((pcell L).drop (0 + (j : Int).toNat * 5)).take 5)) = pe (.ag (elt L j).cs)) (c1 : Ok 88 [.ag (elt L j).cs] (.c (.b (bareB (elt L j))))) (lo : Kn.Low ⟨[(0, .c (.sl 0 0 L.length c)), (48, .c (.sl 0 0 L.length c)), (49, .c (.i (L.length : Int))), (50, .c (.i (IntKind.i64.wrap ((j : Int) + 1))))], [(0, Ent.mk false (pcell L) 0)], 1⟩) (hF : ∀ k, C.F k → k < 1) (z : AR 47 Tryz.f47 C 2 ⟨[(0, .c (.sl 0 0 L.length c)), (48, .c (.sl 0 0 L.length c)), (49, .c (.i (L.length : Int))), (50, .c (.i (IntKind.i64.wrap ((j : Int) + 1))))], [(0, Ent.mk false (pcell L) 0)], 1⟩ R) :
  AR 47 Tryz.f47 C 2 (ckCK L c j) R :=
 run_cut2 [true, false] [true] [(17, 1)] Tryz.func47 (by kernel_rfl) h (cr_same c0 (cr_cons c1 cr_nil)) lo hF z
theorem ckC_all (hn : n ≤ 1)
  (l0 : (!bareB (elt L j)) = true → (decide ((j : Int) < (L.length : Int))) = true ∧ (decide ((j : Int) < (L.length : Int))) = true ∧ (Nat.ble (0 + (j : Int).toNat * 5 + 5) (pcell L).length) = true ∧ (pe (.ag (((pcell L).drop (0 + (j : Int).toNat * 5)).take 5)) = pe (.ag (elt L j).cs)) ∧ (Ok 88 [.ag (elt L j).cs] (.c (.b (bareB (elt L j))))) ∧ ((⟨.c (.i 1), [], none⟩ : Eff) = E))
  (l1 : (!bareB (elt L j)) = false → (decide ((j : Int) < (L.length : Int))) = true ∧ (decide ((j : Int) < (L.length : Int))) = true ∧ (Nat.ble (0 + (j : Int).toNat * 5 + 5) (pcell L).length) = true ∧ (pe (.ag (((pcell L).drop (0 + (j : Int).toNat * 5)).take 5)) = pe (.ag (elt L j).cs)) ∧ (Ok 88 [.ag (elt L j).cs] (.c (.b (bareB (elt L j))))) ∧ Kn.Low ⟨[(0, .c (.sl 0 0 L.length c)), (48, .c (.sl 0 0 L.length c)), (49, .c (.i (L.length : Int))), (50, .c (.i (IntKind.i64.wrap ((j : Int) + 1))))], [(0, Ent.mk false (pcell L) 0)], 1⟩ ∧ AR 47 Tryz.f47 (cx w β n []) 2 ⟨[(0, .c (.sl 0 0 L.length c)), (48, .c (.sl 0 0 L.length c)), (49, .c (.i (L.length : Int))), (50, .c (.i (IntKind.i64.wrap ((j : Int) + 1))))], [(0, Ent.mk false (pcell L) 0)], 1⟩ (REff w β E)) :
  AR 47 Tryz.f47 (cx w β n []) 2 (ckCK L c j) (REff w β E) :=
 (tf (!bareB (elt L j))).elim (fun h0 => (match l0 h0 with | ⟨o0, o1, o2, c0, c1, e⟩ => art_eq (ckC_w0 (and_yes o0 (and_yes o1 (and_yes o2 (and_yes h0 rfl)))) c0 c1) e)) (fun h0 => (match l1 h0 with | ⟨o0, o1, o2, c0, c1, lo, z⟩ => ckC_w1 (and_yes o0 (and_yes o1 (and_yes o2 (and_yes (not_yes h0) rfl)))) c0 c1 lo (fun _ hk => Nat.lt_of_lt_of_le hk hn) z))
theorem ckCx_w0 (h : (!decide ((j : Int) < (L.length : Int)) && (decide (0 ≤ IntKind.i64.wrap ((L.length : Int) - 1)) && decide (IntKind.i64.wrap ((L.length : Int) - 1) < (L.length : Int)) && (AC.isI ((pcell L)[0 + (IntKind.i64.wrap ((L.length : Int) - 1)).toNat * 5 + 0]?.getD (.b false)) && Nat.blt (0 + (IntKind.i64.wrap ((L.length : Int) - 1)).toNat * 5 + 0) (pcell L).length && (lastOp L != 15 && true)))) = true) (c0 : pe (.c (.i (AC.asI ((pcell L)[0 + (IntKind.i64.wrap ((L.length : Int) - 1)).toNat * 5 + 0]?.getD (.b false))))) = pe (.c (.i (lastOp L)))) :
  AR 47 Tryz.f47 (cx w β n []) 2 (ckCK L c j) (REff w β ⟨.c (.i 1), [], none⟩) :=
 run_eff2 [] none [false, true] [true] [(21, 6)] Tryz.func47 (ekeys0 rfl n) (by kernel_rfl) h (cr_same c0 cr_nil)
theorem ckCx_w1 (h : (!decide ((j : Int) < (L.length : Int)) && (decide (0 ≤ IntKind.i64.wrap ((L.length : Int) - 1)) && decide (IntKind.i64.wrap ((L.length : Int) - 1) < (L.length : Int)) && (AC.isI ((pcell L)[0 + (IntKind.i64.wrap ((L.length : Int) - 1)).toNat * 5 + 0]?.getD (.b false)) && Nat.blt (0 + (IntKind.i64.wrap ((L.length : Int) - 1)).toNat * 5 + 0) (pcell L).length && (!lastOp L != 15 && true)))) = true) (c0 : pe (.c (.i (AC.asI ((pcell L)[0 + (IntKind.i64.wrap ((L.length : Int) - 1)).toNat * 5 + 0]?.getD (.b false))))) = pe (.c (.i (lastOp L)))) :
  AR 47 Tryz.f47 (cx w β n []) 2 (ckCK L c j) (REff w β ⟨.c (.i 0), [], none⟩) :=
 run_eff2 [] none [false, false] [true] [(21, 6)] Tryz.func47 (ekeys0 rfl n) (by kernel_rfl) h (cr_same c0 cr_nil)
theorem ckCx_all
  (l0 : (lastOp L != 15) = true → (!decide ((j : Int) < (L.length : Int))) = true ∧ (decide (0 ≤ IntKind.i64.wrap ((L.length : Int) - 1)) && decide (IntKind.i64.wrap ((L.length : Int) - 1) < (L.length : Int))) = true ∧ (AC.isI ((pcell L)[0 + (IntKind.i64.wrap ((L.length : Int) - 1)).toNat * 5 + 0]?.getD (.b false)) && Nat.blt (0 + (IntKind.i64.wrap ((L.length : Int) - 1)).toNat * 5 + 0) (pcell L).length) = true ∧ (pe (.c (.i (AC.asI ((pcell L)[0 + (IntKind.i64.wrap ((L.length : Int) - 1)).toNat * 5 + 0]?.getD (.b false))))) = pe (.c (.i (lastOp L)))) ∧ ((⟨.c (.i 1), [], none⟩ : Eff) = E))
  (l1 : (lastOp L != 15) = false → (!decide ((j : Int) < (L.length : Int))) = true ∧ (decide (0 ≤ IntKind.i64.wrap ((L.length : Int) - 1)) && decide (IntKind.i64.wrap ((L.length : Int) - 1) < (L.length : Int))) = true ∧ (AC.isI ((pcell L)[0 + (IntKind.i64.wrap ((L.length : Int) - 1)).toNat * 5 + 0]?.getD (.b false)) && Nat.blt (0 + (IntKind.i64.wrap ((L.length : Int) - 1)).toNat * 5 + 0) (pcell L).length) = true ∧ (pe (.c (.i (AC.asI ((pcell L)[0 + (IntKind.i64.wrap ((L.length : Int) - 1)).toNat * 5 + 0]?.getD (.b false))))) = pe (.c (.i (lastOp L)))) ∧ ((⟨.c (.i 0), [], none⟩ : Eff) = E)) :
  AR 47 Tryz.f47 (cx w β n []) 2 (ckCK L c j) (REff w β E) :=
 (tf (lastOp L != 15)).elim (fun h0 => (match l0 h0 with | ⟨o0, o1, o2, c0, e⟩ => art_eq (ckCx_w0 (and_yes o0 (and_yes o1 (and_yes o2 (and_yes h0 rfl)))) c0) e)) (fun h0 => (match l1 h0 with | ⟨o0, o1, o2, c0, e⟩ => art_eq (ckCx_w1 (and_yes o0 (and_yes o1 (and_yes o2 (and_yes (not_yes h0) rfl)))) c0) e))
end
section
variable {L : List Ins} {c : Nat} {w : World} {β : Bs} {E : Eff}
abbrev ckKn (L : List Ins) (c a b d : Nat) (j : Int) : Kn := ⟨[(0, .c (.sl 0 0 L.length c)), (a, .c (.sl 0 0 L.length c)), (b, .c (.i L.length)), (d, .c (.i j))], pH L, 1⟩
theorem ckA_loop (hL : L.length ≤ 64) : ∀ n j : Nat, j + n = L.length → ((L.drop j).all kindB = false → ⟨.c (.i 4), [], none⟩ = E) →
  ((L.drop j).all kindB = true → ART Tryz.prog 47 (cx w β 1 []) Tryz.f47.ntmps (cutAt Tryz.f47 1) (ckKn L c 32 33 34 0) (REff w β E)) →
  ART Tryz.prog 47 (cx w β 1 []) Tryz.f47.ntmps (cutAt Tryz.f47 0) (ckKn L c 17 18 19 j) (REff w β E)
 | 0, j, h, hy, hz => by
  refine ckAx_w0 (by rw [jn (by omega)]; rfl) (low_p rfl) (fun _ h => h) (hz ?_)
  rw [List.drop_eq_nil_of_le (by omega)]; rfl
 | n + 1, j, h, hy, hz => by
  have hj : j < L.length := by omega
  rw [drop_elt hj, List.all_cons] at hy hz
  refine ckA_all (by omega) (fun a => ⟨jl hj, jl hj, pble hj, elt_eff hj, hy ?_⟩) (fun a b => ⟨jl hj, jl hj, pble hj, elt_eff hj, hy ?_⟩) (fun a b => ⟨jl hj, jl hj, pble hj, elt_eff hj, low_p rfl, ?_⟩)
  ·have : kindB (elt L j) = false := by simp at a; simp [kindB]; omega
   rw [this]; rfl
  ·have : kindB (elt L j) = false := by simp at b; simp [kindB]; omega
   rw [this]; rfl
  ·have : kindB (elt L j) = true := by simp at a b; simp [kindB]; omega
   rw [this] at hy hz
   rw [wrapS (by omega)]
   exact ckA_loop hL n (j + 1) (by omega) (fun h => hy h) (fun h => hz h)
theorem ckB_loop (hL : L.length ≤ 64) : ∀ n j : Nat, j + n = L.length → (inAll (L.drop j) = false → ⟨.c (.i 3), [], none⟩ = E) →
  (inAll (L.drop j) = true → ART Tryz.prog 47 (cx w β 1 []) Tryz.f47.ntmps (cutAt Tryz.f47 2) (ckKn L c 48 49 50 0) (REff w β E)) →
  ART Tryz.prog 47 (cx w β 1 []) Tryz.f47.ntmps (cutAt Tryz.f47 1) (ckKn L c 32 33 34 j) (REff w β E)
 | 0, j, h, hy, hz => by
  refine ckBx_w0 (by rw [jn (by omega)]; rfl) (low_p rfl) (fun _ h => h) (hz ?_)
  rw [List.drop_eq_nil_of_le (by omega)]; rfl
 | n + 1, j, h, hy, hz => by
  have hj : j < L.length := by omega
  have el : ((L.drop (j + 1)).length : Int) = ((L.length - 1 - j : Nat) : Int) := by rw [List.length_drop]; omega
  rw [drop_elt hj, inAll, el] at hy hz
  have ew : IntKind.wrap IntKind.i64 (IntKind.wrap IntKind.i64 ((L.length : Int) - 1) - (j : Int)) = ((L.length - 1 - j : Nat) : Int) := by
   rw [wrapN (n := (L.length : Int) - 1) (by omega) (by omega), wrapN (by omega) (by omega)]; omega
  have c1 : Eff.mk (AV.c (AC.i (IntKind.wrap IntKind.i64 (IntKind.wrap IntKind.i64 ((L.length : Int) - 1) - (j : Int))))) [] none = Eff.mk (AV.c (AC.i ((L.length - 1 - j : Nat) : Int))) [] none := by rw [ew]
  refine ckB_all (by omega) (fun a => ⟨jl hj, jl hj, pble hj, elt_eff hj, c1, inBounds_ok _ _, hy ?_⟩) (fun a => ⟨jl hj, jl hj, pble hj, elt_eff hj, c1, inBounds_ok _ _, low_p rfl, ?_⟩)
  ·have : inB (elt L j) ((L.length - 1 - j : Nat) : Int) = false := by simpa using a
   rw [this]; rfl
  ·have : inB (elt L j) ((L.length - 1 - j : Nat) : Int) = true := by simpa using a
   rw [this] at hy hz
   rw [wrapS (by omega)]
   exact ckB_loop hL n (j + 1) (by omega) (fun h => hy h) (fun h => hz h)
theorem lastOp_eff (h0 : 0 < L.length) (hL : L.length ≤ 64) : (pcell L)[0 + Int.toNat (IntKind.wrap IntKind.i64 ((L.length : Int) - 1)) * 5 + 0]? = some (.i (lastOp L)) := by
 rw [wrapN (by omega) (by omega), show (0 + ((L.length : Int) - 1).toNat * 5 + 0) = (L.length - 1) * 5 by omega]
 have h1 := pcell_op (L := L) (k := L.length - 1) (by omega) (.b false)
 have h2 : (L.length - 1) * 5 < (pcell L).length := by rw [pcell_length]; omega
 rw [List.getD_eq_getElem?_getD, List.getElem?_eq_getElem h2] at h1
 rw [List.getElem?_eq_getElem h2]
 refine congrArg some (h1.trans ?_)
 unfold lastOp elt
 rw [List.getLast?_eq_getElem?, List.getD_eq_getElem?_getD, List.getElem?_eq_getElem (by omega)]
 rfl
theorem ckC_loop (h0 : 0 < L.length) (hL : L.length ≤ 64) : ∀ n j : Nat, j + n = L.length → ((L.drop j).all bareB = false → ⟨.c (.i 1), [], none⟩ = E) →
  ((L.drop j).all bareB = true → ⟨.c (.i (if lastOp L ≠ 15 then 1 else 0)), [], none⟩ = E) →
  ART Tryz.prog 47 (cx w β 1 []) Tryz.f47.ntmps (cutAt Tryz.f47 2) (ckKn L c 48 49 50 j) (REff w β E)
 | 0, j, h, hy, hz => by
  have hz := hz (by rw [List.drop_eq_nil_of_le (by omega)]; rfl)
  have o0 : (!decide ((j : Int) < (L.length : Int))) = true := by rw [jn (by omega)]; rfl
  have o1 : (decide (0 ≤ IntKind.wrap IntKind.i64 ((L.length : Int) - 1)) && decide (IntKind.wrap IntKind.i64 ((L.length : Int) - 1) < (L.length : Int))) = true := by
   rw [wrapN (by omega) (by omega)]; simp; omega
  have o2 : (AC.isI (Option.getD (pcell L)[0 + Int.toNat (IntKind.wrap IntKind.i64 ((L.length : Int) - 1)) * 5 + 0]? (AC.b false)) && Nat.blt (0 + Int.toNat (IntKind.wrap IntKind.i64 ((L.length : Int) - 1)) * 5 + 0) (pcell L).length) = true := by
   rw [lastOp_eff h0 hL, wrapN (by omega) (by omega), pcell_length]; simp [AC.isI]; omega
  have c0 : Eff.mk (AV.c (AC.i (AC.asI (Option.getD (pcell L)[0 + Int.toNat (IntKind.wrap IntKind.i64 ((L.length : Int) - 1)) * 5 + 0]? (AC.b false))))) [] none = Eff.mk (AV.c (AC.i (lastOp L))) [] none := by rw [lastOp_eff h0 hL]; rfl
  refine ckCx_all (fun a => ⟨o0, o1, o2, c0, ?_⟩) (fun a => ⟨o0, o1, o2, c0, ?_⟩)
  ·rw [← hz, if_pos (by simpa using a)]
  ·rw [← hz, if_neg (by simpa using a)]
 | n + 1, j, h, hy, hz => by
  have hj : j < L.length := by omega
  rw [drop_elt hj, List.all_cons] at hy hz
  refine ckC_all (by omega) (fun a => ⟨jl hj, jl hj, pble hj, elt_eff hj, bare_ok _, hy ?_⟩) (fun a => ⟨jl hj, jl hj, pble hj, elt_eff hj, bare_ok _, low_p rfl, ?_⟩)
  ·have : bareB (elt L j) = false := by simpa using a
   rw [this]; rfl
  ·have : bareB (elt L j) = true := by simpa using a
   rw [this] at hy hz
   rw [wrapS (by omega)]
   exact ckC_loop h0 hL n (j + 1) (by omega) (fun h => hy h) (fun h => hz h)
end
theorem check_ok (L : List Ins) (c : Nat) : CallOK Tryz.prog ⟨47, [.c (.sl 0 0 L.length c)], pH L, ⟨.c (.i (codeErr L)), [], none⟩⟩ := by
 refine read_of Tryz.func47 rfl rfl (begin_p rfl) rfl ro_p fun w β => ?_
 refine ckTop_all (Nat.le_refl 1) (fun a => ?_) (fun a b => ?_) (fun a b => ⟨low_p rfl, ?_⟩)
 ·unfold codeErr
  rw [if_pos (Or.inl (by simpa using a))]
 ·unfold codeErr
  rw [if_pos (Or.inr (by simp at b; omega))]
 ·have h0 : 0 < L.length := by
   have : ¬ ((L.length : Int) = 0) := by simpa using a
   omega
  have h1 : L.length ≤ 64 := by simp at b; omega
  unfold codeErr
  rw [if_neg (by omega)]
  refine ckA_loop h1 L.length 0 (by omega) (fun h => ?_) (fun h => ?_)
  ·rw [if_pos (by simpa using h)]
  ·rw [if_neg (by simpa using h)]
   refine ckB_loop h1 L.length 0 (by omega) (fun h => ?_) (fun h => ?_)
   ·rw [if_pos (by simpa using h)]
   ·rw [if_neg (by simpa using h)]
    refine ckC_loop h0 h1 L.length 0 (by omega) (fun h => ?_) (fun h => ?_)
    ·rw [if_pos (by simpa using h)]
    ·have e : ¬ (L.all bareB = false) := by simpa using h
     rw [if_neg e]
/- where a run is -/
/- a contract that reads a program, under another key, whether it may be written or not -/
theorem p_at {P : Program} {f : Nat} {args args' : List AV} {L : List Ins} {e : Eff} (h : CallOK P ⟨f, args, pH L, e⟩) (K : Nat) (b : Bool) (ha : args.map (AV.ren (swp 0 K)) = args') (he : e.ren (swp 0 K) = e) : CallOK P ⟨f, args', [(K, ⟨b, pcell L, 0⟩)], e⟩ := by
 have h1 := h.ren (swp 0 K) (swp_inj 0 K)
 unfold CallRec.ren at h1
 simp only [ha, he] at h1
 refine h1.more ⟨fun k en hk => ?_⟩
 have e1 : renH (swp 0 K) (pH L) = [(K, ⟨false, pcell L, 0⟩)] := by
  show [(swp 0 K 0, Ent.mk false ((pcell L).map (AC.ren (swp 0 K))) 0)] = _
  rw [ren_nk _ (pcell_ks L)]
  rfl
 rw [e1, look_cons] at hk
 split at hk
 ·rename_i hk'
  injection hk with hk
  subst hk hk'
  exact ⟨⟨b, pcell L, 0⟩, by rw [look_cons, if_pos rfl], rfl, fun h => (by cases h), Or.inl rfl⟩
 ·cases hk
section
abbrev fcRoundK (t : St) (j : Int) : Kn := ⟨[(1, .c (.w 0)), (14, .ag (bcs t.s)), (15, .c (.i j))], [(0, Ent.mk true t.cs 0)], 1⟩
abbrev fjRoundK (t u b : St) (j : Int) : Kn := ⟨[(2, .c (.w 0)), (3, .c (.w 1)), (4, .c (.w 2)), (6, .c (.w 19)), (28, .c (.i j))], [(0, Ent.mk true t.cs 0), (1, Ent.mk true u.cs 0), (2, Ent.mk true St.z.cs 0), (19, Ent.mk true b.cs 0)], 20⟩
variable {t u b b2 : St} {d j e f : Int} {a : V4} {w : World} {β : Bs} {n : Nat} {C : Cx} {R : Ending → World → Prop} {E : Eff} {m : Mach}
theorem fwith_w0 (h : (decide (0 ≤ d) && decide (d < 6) && (Nat.ble (1 + d.toNat * 1 + 1) (t.cs).length && true && (decide (0 ≤ d) && decide (d < 6) && (Nat.ble (7 + d.toNat * 4 + (a.cs).length) ((St.mk t.live ((t.s).set d.toNat true) t.r).cs).length && true && true)))) = true) (c0 : we 0 ((t.cs).set (1 + d.toNat * 1) (.b true)) = we 0 ((St.mk t.live ((t.s).set d.toNat true) t.r).cs)) (c1 : we 0 (splice (St.mk t.live ((t.s).set d.toNat true) t.r).cs (7 + d.toNat * 4) a.cs) = we 0 ((St.wth t d.toNat a).cs)) :
  Ok 68 [.ag t.cs, .c (.i d), .ag a.cs] (.ag [.b t.live, .b ((t.s).set d.toNat true).x0, .b ((t.s).set d.toNat true).x1, .b ((t.s).set d.toNat true).x2, .b ((t.s).set d.toNat true).x3, .b ((t.s).set d.toNat true).x4, .b ((t.s).set d.toNat true).x5, .u (((t.r).set d.toNat a).x0).v, .u (((t.r).set d.toNat a).x0).m, .u (((t.r).set d.toNat a).x0).l, .u (((t.r).set d.toNat a).x0).h, .u (((t.r).set d.toNat a).x1).v, .u (((t.r).set d.toNat a).x1).m, .u (((t.r).set d.toNat a).x1).l, .u (((t.r).set d.toNat a).x1).h, .u (((t.r).set d.toNat a).x2).v, .u (((t.r).set d.toNat a).x2).m, .u (((t.r).set d.toNat a).x2).l, .u (((t.r).set d.toNat a).x2).h, .u (((t.r).set d.toNat a).x3).v, .u (((t.r).set d.toNat a).x3).m, .u (((t.r).set d.toNat a).x3).l, .u (((t.r).set d.toNat a).x3).h, .u (((t.r).set d.toNat a).x4).v, .u (((t.r).set d.toNat a).x4).m, .u (((t.r).set d.toNat a).x4).l, .u (((t.r).set d.toNat a).x4).h, .u (((t.r).set d.toNat a).x5).v, .u (((t.r).set d.toNat a).x5).m, .u (((t.r).set d.toNat a).x5).l, .u (((t.r).set d.toNat a).x5).h]) :=
 val_run2 [] ([]) [(1, 5), (1, 8)] Tryz.func68 rfl rfl rfl rfl (by kernel_rfl) h (cr_same c0 (cr_same c1 cr_nil))
theorem fbegin_w0 (c0 : Ok 24 [] (.ag a.cs)) (c1 : Ok 68 [.ag St.e.cs, .c (.i 1), .ag a.cs] (.ag t.cs)) :
  Ok 33 [] (.ag t.cs) :=
 val_run2 [] ([]) [] Tryz.func33 rfl rfl rfl rfl (by kernel_rfl) rfl (cr_cons c0 (cr_cons c1 cr_nil))
theorem fcTop_w0 (h : (!t.live && (!eqCs t.cs St.z.cs && true)) = true) :
  BO 26 Tryz.f26 (cx w β n []) [.ag t.cs] [] 0 (REff w β ⟨.c (.i 1), [], none⟩) :=
 run_eff2 [] none [true, true] ([true]) [] Tryz.func26 (ekeys0 rfl n) (by kernel_rfl) h cr_nil
theorem fcTop_w1 (h : (!t.live && (!!eqCs t.cs St.z.cs && true)) = true) (lo : Kn.Low (fcRoundK t 0)) (hF : ∀ k, C.F k → k < 1) (z : AR 26 Tryz.f26 C 0 (fcRoundK t 0) R) :
  BO 26 Tryz.f26 C [.ag t.cs] [] 0 R :=
 run_cut2 [true, false] ([true]) [] Tryz.func26 (by kernel_rfl) h cr_nil lo hF z
theorem fcTop_w2 (h : (!!t.live && true) = true) (lo : Kn.Low (fcRoundK t 0)) (hF : ∀ k, C.F k → k < 1) (z : AR 26 Tryz.f26 C 0 (fcRoundK t 0) R) :
  BO 26 Tryz.f26 C [.ag t.cs] [] 0 R :=
 run_cut2 [false, false] ([true]) [] Tryz.func26 (by kernel_rfl) h cr_nil lo hF z
theorem fcTop_all (hn : n ≤ 1)
  (l0 : (!t.live) = true → (!eqCs t.cs St.z.cs) = true → ((⟨.c (.i 1), [], none⟩ : Eff) = E))
  (l1 : (!t.live) = true → (!eqCs t.cs St.z.cs) = false → Kn.Low (fcRoundK t 0) ∧ AR 26 Tryz.f26 (cx w β n []) 0 (fcRoundK t 0) (REff w β E))
  (l2 : (!t.live) = false → Kn.Low (fcRoundK t 0) ∧ AR 26 Tryz.f26 (cx w β n []) 0 (fcRoundK t 0) (REff w β E)) :
  BO 26 Tryz.f26 (cx w β n []) [.ag t.cs] [] 0 (REff w β E) :=
 (tf (!t.live)).elim (fun h0 => (tf (!eqCs t.cs St.z.cs)).elim (fun h1 => (match l0 h0 h1 with | e => art_eq (fcTop_w0 (and_yes h0 (and_yes h1 rfl))) e)) (fun h1 => (match l1 h0 h1 with | ⟨lo, z⟩ => fcTop_w1 (and_yes h0 (and_yes (not_yes h1) rfl)) lo (fun _ hk => Nat.lt_of_lt_of_le hk hn) z))) (fun h0 => (match l2 h0 with | ⟨lo, z⟩ => fcTop_w2 (and_yes (not_yes h0) rfl) lo (fun _ hk => Nat.lt_of_lt_of_le hk hn) z))
theorem fcRound_w0 (h : (decide (j < 6) && (AC.isB ((bcs t.s)[j.toNat * 1]?.getD (.b false)) && Nat.blt (j.toNat * 1) (bcs t.s).length && (decide (0 ≤ j) && decide (j < 6)) && ((t.s).get j.toNat && (decide (0 ≤ j) && decide (j < 6) && (Nat.ble (7 + j.toNat * 4 + 4) (t.cs).length && (er (V4.ok ((t.r).get j.toNat)) != 0 && true)))))) = true) (c0 : pe (.c (.b (AC.asB ((bcs t.s)[j.toNat * 1]?.getD (.b false))))) = pe (.c (.b ((t.s).get j.toNat)))) (c1 : pe (.ag (((t.cs).drop (7 + j.toNat * 4)).take 4)) = pe (.ag ((t.r).get j.toNat).cs)) (c2 : Ok 23 [.ag ((t.r).get j.toNat).cs] (.c (.i (er (V4.ok ((t.r).get j.toNat)))))) :
  AR 26 Tryz.f26 (cx w β n []) 0 (fcRoundK t j) (REff w β ⟨.c (.i 1), [], none⟩) :=
 run_eff2 [] none [true, true, true, true] ([true]) [(5, 1), (6, 5), (6, 16)] Tryz.func26 (ekeys0 rfl n) (by kernel_rfl) h (cr_same c0 (cr_same c1 (cr_cons c2 cr_nil)))
theorem fcRound_w1 (h : (decide (j < 6) && (AC.isB ((bcs t.s)[j.toNat * 1]?.getD (.b false)) && Nat.blt (j.toNat * 1) (bcs t.s).length && (decide (0 ≤ j) && decide (j < 6)) && ((t.s).get j.toNat && (decide (0 ≤ j) && decide (j < 6) && (Nat.ble (7 + j.toNat * 4 + 4) (t.cs).length && (!er (V4.ok ((t.r).get j.toNat)) != 0 && (!!(t.s).get j.toNat && true))))))) = true) (c0 : pe (.c (.b (AC.asB ((bcs t.s)[j.toNat * 1]?.getD (.b false))))) = pe (.c (.b ((t.s).get j.toNat)))) (c1 : pe (.ag (((t.cs).drop (7 + j.toNat * 4)).take 4)) = pe (.ag ((t.r).get j.toNat).cs)) (c2 : Ok 23 [.ag ((t.r).get j.toNat).cs] (.c (.i (er (V4.ok ((t.r).get j.toNat)))))) (lo : Kn.Low (fcRoundK t (IntKind.i64.wrap (j + 1)))) (hF : ∀ k, C.F k → k < 1) (z : AR 26 Tryz.f26 C 0 (fcRoundK t (IntKind.i64.wrap (j + 1))) R) :
  AR 26 Tryz.f26 C 0 (fcRoundK t j) R :=
 run_cut2 [true, true, false, false, false] ([true]) [(5, 1), (6, 5), (6, 16)] Tryz.func26 (by kernel_rfl) h (cr_same c0 (cr_same c1 (cr_cons c2 cr_nil))) lo hF z
theorem fcRound_w2 (h : (decide (j < 6) && (AC.isB ((bcs t.s)[j.toNat * 1]?.getD (.b false)) && Nat.blt (j.toNat * 1) (bcs t.s).length && (decide (0 ≤ j) && decide (j < 6)) && (!(t.s).get j.toNat && (!(t.s).get j.toNat && (decide (0 ≤ j) && decide (j < 6) && (Nat.ble (7 + j.toNat * 4 + 4) (t.cs).length && (!eqCs ((t.r).get j.toNat).cs [.u 0#64, .u 0#64, .u 0#64, .u 0#64] && true))))))) = true) (c0 : pe (.c (.b (AC.asB ((bcs t.s)[j.toNat * 1]?.getD (.b false))))) = pe (.c (.b ((t.s).get j.toNat)))) (c1 : pe (.ag (((t.cs).drop (7 + j.toNat * 4)).take 4)) = pe (.ag ((t.r).get j.toNat).cs)) :
  AR 26 Tryz.f26 (cx w β n []) 0 (fcRoundK t j) (REff w β ⟨.c (.i 1), [], none⟩) :=
 run_eff2 [] none [true, false, false, true, true] ([true]) [(5, 1), (6, 5), (6, 16)] Tryz.func26 (ekeys0 rfl n) (by kernel_rfl) h (cr_same c0 (cr_same c1 cr_nil))
theorem fcRound_w3 (h : (decide (j < 6) && (AC.isB ((bcs t.s)[j.toNat * 1]?.getD (.b false)) && Nat.blt (j.toNat * 1) (bcs t.s).length && (decide (0 ≤ j) && decide (j < 6)) && (!(t.s).get j.toNat && (!(t.s).get j.toNat && (decide (0 ≤ j) && decide (j < 6) && (Nat.ble (7 + j.toNat * 4 + 4) (t.cs).length && (!!eqCs ((t.r).get j.toNat).cs [.u 0#64, .u 0#64, .u 0#64, .u 0#64] && true))))))) = true) (c0 : pe (.c (.b (AC.asB ((bcs t.s)[j.toNat * 1]?.getD (.b false))))) = pe (.c (.b ((t.s).get j.toNat)))) (c1 : pe (.ag (((t.cs).drop (7 + j.toNat * 4)).take 4)) = pe (.ag ((t.r).get j.toNat).cs)) (lo : Kn.Low (fcRoundK t (IntKind.i64.wrap (j + 1)))) (hF : ∀ k, C.F k → k < 1) (z : AR 26 Tryz.f26 C 0 (fcRoundK t (IntKind.i64.wrap (j + 1))) R) :
  AR 26 Tryz.f26 C 0 (fcRoundK t j) R :=
 run_cut2 [true, false, false, true, false] ([true]) [(5, 1), (6, 5), (6, 16)] Tryz.func26 (by kernel_rfl) h (cr_same c0 (cr_same c1 cr_nil)) lo hF z
theorem fcRound_all (hn : n ≤ 1)
  (l0 : ((t.s).get j.toNat) = true → (er (V4.ok ((t.r).get j.toNat)) != 0) = true → (decide (j < 6)) = true ∧ (AC.isB ((bcs t.s)[j.toNat * 1]?.getD (.b false)) && Nat.blt (j.toNat * 1) (bcs t.s).length && (decide (0 ≤ j) && decide (j < 6))) = true ∧ (decide (0 ≤ j) && decide (j < 6)) = true ∧ (Nat.ble (7 + j.toNat * 4 + 4) (t.cs).length) = true ∧ (pe (.c (.b (AC.asB ((bcs t.s)[j.toNat * 1]?.getD (.b false))))) = pe (.c (.b ((t.s).get j.toNat)))) ∧ (pe (.ag (((t.cs).drop (7 + j.toNat * 4)).take 4)) = pe (.ag ((t.r).get j.toNat).cs)) ∧ (Ok 23 [.ag ((t.r).get j.toNat).cs] (.c (.i (er (V4.ok ((t.r).get j.toNat)))))) ∧ ((⟨.c (.i 1), [], none⟩ : Eff) = E))
  (l1 : ((t.s).get j.toNat) = true → (er (V4.ok ((t.r).get j.toNat)) != 0) = false → (decide (j < 6)) = true ∧ (AC.isB ((bcs t.s)[j.toNat * 1]?.getD (.b false)) && Nat.blt (j.toNat * 1) (bcs t.s).length && (decide (0 ≤ j) && decide (j < 6))) = true ∧ (decide (0 ≤ j) && decide (j < 6)) = true ∧ (Nat.ble (7 + j.toNat * 4 + 4) (t.cs).length) = true ∧ (!!(t.s).get j.toNat) = true ∧ (pe (.c (.b (AC.asB ((bcs t.s)[j.toNat * 1]?.getD (.b false))))) = pe (.c (.b ((t.s).get j.toNat)))) ∧ (pe (.ag (((t.cs).drop (7 + j.toNat * 4)).take 4)) = pe (.ag ((t.r).get j.toNat).cs)) ∧ (Ok 23 [.ag ((t.r).get j.toNat).cs] (.c (.i (er (V4.ok ((t.r).get j.toNat)))))) ∧ Kn.Low (fcRoundK t (IntKind.i64.wrap (j + 1))) ∧ AR 26 Tryz.f26 (cx w β n []) 0 (fcRoundK t (IntKind.i64.wrap (j + 1))) (REff w β E))
  (l2 : ((t.s).get j.toNat) = false → (!eqCs ((t.r).get j.toNat).cs [.u 0#64, .u 0#64, .u 0#64, .u 0#64]) = true → (decide (j < 6)) = true ∧ (AC.isB ((bcs t.s)[j.toNat * 1]?.getD (.b false)) && Nat.blt (j.toNat * 1) (bcs t.s).length && (decide (0 ≤ j) && decide (j < 6))) = true ∧ (decide (0 ≤ j) && decide (j < 6)) = true ∧ (Nat.ble (7 + j.toNat * 4 + 4) (t.cs).length) = true ∧ (pe (.c (.b (AC.asB ((bcs t.s)[j.toNat * 1]?.getD (.b false))))) = pe (.c (.b ((t.s).get j.toNat)))) ∧ (pe (.ag (((t.cs).drop (7 + j.toNat * 4)).take 4)) = pe (.ag ((t.r).get j.toNat).cs)) ∧ ((⟨.c (.i 1), [], none⟩ : Eff) = E))
  (l3 : ((t.s).get j.toNat) = false → (!eqCs ((t.r).get j.toNat).cs [.u 0#64, .u 0#64, .u 0#64, .u 0#64]) = false → (decide (j < 6)) = true ∧ (AC.isB ((bcs t.s)[j.toNat * 1]?.getD (.b false)) && Nat.blt (j.toNat * 1) (bcs t.s).length && (decide (0 ≤ j) && decide (j < 6))) = true ∧ (decide (0 ≤ j) && decide (j < 6)) = true ∧ (Nat.ble (7 + j.toNat * 4 + 4) (t.cs).length) = true ∧ (pe (.c (.b (AC.asB ((bcs t.s)[j.toNat * 1]?.getD (.b false))))) = pe (.c (.b ((t.s).get j.toNat)))) ∧ (pe (.ag (((t.cs).drop (7 + j.toNat * 4)).take 4)) = pe (.ag ((t.r).get j.toNat).cs)) ∧ Kn.Low (fcRoundK t (IntKind.i64.wrap (j + 1))) ∧ AR 26 Tryz.f26 (cx w β n []) 0 (fcRoundK t (IntKind.i64.wrap (j + 1))) (REff w β E)) :
  AR 26 Tryz.f26 (cx w β n []) 0 (fcRoundK t j) (REff w β E) :=
 (tf ((t.s).get j.toNat)).elim (fun h0 => (tf (er (V4.ok ((t.r).get j.toNat)) != 0)).elim (fun h1 => (match l0 h0 h1 with | ⟨o0, o1, o2, o3, c0, c1, c2, e⟩ => art_eq (fcRound_w0 (and_yes o0 (and_yes o1 (and_yes h0 (and_yes o2 (and_yes o3 (and_yes h1 rfl)))))) c0 c1 c2) e)) (fun h1 => (match l1 h0 h1 with | ⟨o0, o1, o2, o3, o4, c0, c1, c2, lo, z⟩ => fcRound_w1 (and_yes o0 (and_yes o1 (and_yes h0 (and_yes o2 (and_yes o3 (and_yes (not_yes h1) (and_yes o4 rfl))))))) c0 c1 c2 lo (fun _ hk => Nat.lt_of_lt_of_le hk hn) z))) (fun h0 => (tf (!eqCs ((t.r).get j.toNat).cs [.u 0#64, .u 0#64, .u 0#64, .u 0#64])).elim (fun h1 => (match l2 h0 h1 with | ⟨o0, o1, o2, o3, c0, c1, e⟩ => art_eq (fcRound_w2 (and_yes o0 (and_yes o1 (and_yes (not_yes h0) (and_yes (not_yes h0) (and_yes o2 (and_yes o3 (and_yes h1 rfl))))))) c0 c1) e)) (fun h1 => (match l3 h0 h1 with | ⟨o0, o1, o2, o3, c0, c1, lo, z⟩ => fcRound_w3 (and_yes o0 (and_yes o1 (and_yes (not_yes h0) (and_yes (not_yes h0) (and_yes o2 (and_yes o3 (and_yes (not_yes h1) rfl))))))) c0 c1 lo (fun _ hk => Nat.lt_of_lt_of_le hk hn) z)))
theorem fcEnd_w0 :
  AR 26 Tryz.f26 (cx w β n []) 0 (fcRoundK t 6) (REff w β ⟨.c (.i 0), [], none⟩) :=
 run_eff2 [] none [false] ([true]) [] Tryz.func26 (ekeys0 rfl n) (by kernel_rfl) rfl cr_nil
theorem fjTop_w0 (h : (e != 0 && true) = true) (c0 : Ok 26 [.ag t.cs] (.c (.i e))) :
  BO 35 Tryz.f35 (cx w β n []) [.ag t.cs, .ag u.cs] [] 0 (REff w β ⟨.tu [.ag St.z.cs, .c (.i 1)], [], none⟩) :=
 run_eff2 [] none [true, true] ([true]) [] Tryz.func35 (ekeys0 rfl n) (by kernel_rfl) h (cr_cons c0 cr_nil)
theorem fjTop_w1 (h : (!e != 0 && (f != 0 && true)) = true) (c0 : Ok 26 [.ag t.cs] (.c (.i e))) (c1 : Ok 26 [.ag u.cs] (.c (.i f))) :
  BO 35 Tryz.f35 (cx w β n []) [.ag t.cs, .ag u.cs] [] 0 (REff w β ⟨.tu [.ag St.z.cs, .c (.i 1)], [], none⟩) :=
 run_eff2 [] none [false, true] ([true]) [] Tryz.func35 (ekeys0 rfl n) (by kernel_rfl) h (cr_cons c0 (cr_cons c1 cr_nil))
theorem fjTop_w2 (h : (!e != 0 && (!f != 0 && (!t.live && true))) = true) (c0 : Ok 26 [.ag t.cs] (.c (.i e))) (c1 : Ok 26 [.ag u.cs] (.c (.i f))) :
  BO 35 Tryz.f35 (cx w β n []) [.ag t.cs, .ag u.cs] [] 0 (REff w β ⟨.tu [.ag u.cs, .c (.i 0)], [], none⟩) :=
 run_eff2 [] none [false, false, true] ([true]) [] Tryz.func35 (ekeys0 rfl n) (by kernel_rfl) h (cr_cons c0 (cr_cons c1 cr_nil))
theorem fjTop_w3 (h : (!e != 0 && (!f != 0 && (!!t.live && (!u.live && true)))) = true) (c0 : Ok 26 [.ag t.cs] (.c (.i e))) (c1 : Ok 26 [.ag u.cs] (.c (.i f))) :
  BO 35 Tryz.f35 (cx w β n []) [.ag t.cs, .ag u.cs] [] 0 (REff w β ⟨.tu [.ag t.cs, .c (.i 0)], [], none⟩) :=
 run_eff2 [] none [false, false, false, true] ([true]) [] Tryz.func35 (ekeys0 rfl n) (by kernel_rfl) h (cr_cons c0 (cr_cons c1 cr_nil))
theorem fjTop_w4 (h : (!e != 0 && (!f != 0 && (!!t.live && (!!u.live && true)))) = true) (c0 : Ok 26 [.ag t.cs] (.c (.i e))) (c1 : Ok 26 [.ag u.cs] (.c (.i f))) (lo : Kn.Low ⟨[(2, .c (.w 0)), (3, .c (.w 1)), (4, .c (.w 2)), (6, .c (.w 19)), (28, .c (.i 0))], [(0, Ent.mk true t.cs 0), (1, Ent.mk true u.cs 0), (2, Ent.mk true St.z.cs 0), (19, Ent.mk true St.e.cs 0)], 20⟩) (hF : ∀ k, C.F k → k < 20) (z : AR 35 Tryz.f35 C 0 ⟨[(2, .c (.w 0)), (3, .c (.w 1)), (4, .c (.w 2)), (6, .c (.w 19)), (28, .c (.i 0))], [(0, Ent.mk true t.cs 0), (1, Ent.mk true u.cs 0), (2, Ent.mk true St.z.cs 0), (19, Ent.mk true St.e.cs 0)], 20⟩ R) :
  BO 35 Tryz.f35 C [.ag t.cs, .ag u.cs] [] 0 R :=
 run_cut2 [false, false, false, false] ([true]) [] Tryz.func35 (by kernel_rfl) h (cr_cons c0 (cr_cons c1 cr_nil)) lo hF z
theorem fjTop_all (hn : n ≤ 20)
  (l0 : (e != 0) = true → (Ok 26 [.ag t.cs] (.c (.i e))) ∧ ((⟨.tu [.ag St.z.cs, .c (.i 1)], [], none⟩ : Eff) = E))
  (l1 : (e != 0) = false → (f != 0) = true → (Ok 26 [.ag t.cs] (.c (.i e))) ∧ (Ok 26 [.ag u.cs] (.c (.i f))) ∧ ((⟨.tu [.ag St.z.cs, .c (.i 1)], [], none⟩ : Eff) = E))
  (l2 : (e != 0) = false → (f != 0) = false → (!t.live) = true → (Ok 26 [.ag t.cs] (.c (.i e))) ∧ (Ok 26 [.ag u.cs] (.c (.i f))) ∧ ((⟨.tu [.ag u.cs, .c (.i 0)], [], none⟩ : Eff) = E))
  (l3 : (e != 0) = false → (f != 0) = false → (!t.live) = false → (!u.live) = true → (Ok 26 [.ag t.cs] (.c (.i e))) ∧ (Ok 26 [.ag u.cs] (.c (.i f))) ∧ ((⟨.tu [.ag t.cs, .c (.i 0)], [], none⟩ : Eff) = E))
  (l4 : (e != 0) = false → (f != 0) = false → (!t.live) = false → (!u.live) = false → (Ok 26 [.ag t.cs] (.c (.i e))) ∧ (Ok 26 [.ag u.cs] (.c (.i f))) ∧ Kn.Low ⟨[(2, .c (.w 0)), (3, .c (.w 1)), (4, .c (.w 2)), (6, .c (.w 19)), (28, .c (.i 0))], [(0, Ent.mk true t.cs 0), (1, Ent.mk true u.cs 0), (2, Ent.mk true St.z.cs 0), (19, Ent.mk true St.e.cs 0)], 20⟩ ∧ AR 35 Tryz.f35 (cx w β n []) 0 ⟨[(2, .c (.w 0)), (3, .c (.w 1)), (4, .c (.w 2)), (6, .c (.w 19)), (28, .c (.i 0))], [(0, Ent.mk true t.cs 0), (1, Ent.mk true u.cs 0), (2, Ent.mk true St.z.cs 0), (19, Ent.mk true St.e.cs 0)], 20⟩ (REff w β E)) :
  BO 35 Tryz.f35 (cx w β n []) [.ag t.cs, .ag u.cs] [] 0 (REff w β E) :=
 (tf (e != 0)).elim (fun h0 => (match l0 h0 with | ⟨c0, e⟩ => art_eq (fjTop_w0 (and_yes h0 rfl) c0) e)) (fun h0 => (tf (f != 0)).elim (fun h1 => (match l1 h0 h1 with | ⟨c0, c1, e⟩ => art_eq (fjTop_w1 (and_yes (not_yes h0) (and_yes h1 rfl)) c0 c1) e)) (fun h1 => (tf (!t.live)).elim (fun h2 => (match l2 h0 h1 h2 with | ⟨c0, c1, e⟩ => art_eq (fjTop_w2 (and_yes (not_yes h0) (and_yes (not_yes h1) (and_yes h2 rfl))) c0 c1) e)) (fun h2 => (tf (!u.live)).elim (fun h3 => (match l3 h0 h1 h2 h3 with | ⟨c0, c1, e⟩ => art_eq (fjTop_w3 (and_yes (not_yes h0) (and_yes (not_yes h1) (and_yes (not_yes h2) (and_yes h3 rfl)))) c0 c1) e)) (fun h3 => (match l4 h0 h1 h2 h3 with | ⟨c0, c1, lo, z⟩ => fjTop_w4 (and_yes (not_yes h0) (and_yes (not_yes h1) (and_yes (not_yes h2) (and_yes (not_yes h3) rfl)))) c0 c1 lo (fun _ hk => Nat.lt_of_lt_of_le hk hn) z)))))
theorem fjRound_w0 (h : (decide (j < 6) && (decide (0 ≤ j) && decide (j < 6) && (AC.isB ((t.cs)[1 + j.toNat * 1]?.getD (.b false)) && Nat.blt (1 + j.toNat * 1) (t.cs).length && ((t.s).get j.toNat && (decide (0 ≤ j) && decide (j < 6) && (AC.isB ((u.cs)[1 + j.toNat * 1]?.getD (.b false)) && Nat.blt (1 + j.toNat * 1) (u.cs).length && ((u.s).get j.toNat && (decide (0 ≤ j) && decide (j < 6) && (Nat.ble (7 + j.toNat * 4 + 4) (t.cs).length && (decide (0 ≤ j) && decide (j < 6) && (Nat.ble (7 + j.toNat * 4 + 4) (u.cs).length && true))))))))))) = true) (c0 : pe (.c (.b (AC.asB ((t.cs)[1 + j.toNat * 1]?.getD (.b false))))) = pe (.c (.b ((t.s).get j.toNat)))) (c1 : pe (.c (.b (AC.asB ((u.cs)[1 + j.toNat * 1]?.getD (.b false))))) = pe (.c (.b ((u.s).get j.toNat)))) (c2 : pe (.ag (((t.cs).drop (7 + j.toNat * 4)).take 4)) = pe (.ag ((t.r).get j.toNat).cs)) (c3 : pe (.ag (((u.cs).drop (7 + j.toNat * 4)).take 4)) = pe (.ag ((u.r).get j.toNat).cs)) (c4 : Ok 79 [.ag ((t.r).get j.toNat).cs, .ag ((u.r).get j.toNat).cs] (.tu [.ag a.cs, .c (.i 0)])) (c5 : Ok 68 [.ag b.cs, .c (.i j), .ag a.cs] (.ag b2.cs)) (lo : Kn.Low (fjRoundK t u b2 (IntKind.i64.wrap (j + 1)))) (hF : ∀ k, C.F k → k < 20) (z : AR 35 Tryz.f35 C 0 (fjRoundK t u b2 (IntKind.i64.wrap (j + 1))) R) :
  AR 35 Tryz.f35 C 0 (fjRoundK t u b j) R :=
 run_cut2 [true, true, true] ([true]) [(11, 3), (11, 8), (12, 3), (12, 7)] Tryz.func35 (by kernel_rfl) h (cr_same c0 (cr_same c1 (cr_same c2 (cr_same c3 (cr_cons c4 (cr_cons c5 cr_nil)))))) lo hF z
theorem fjRound_w1 (h : (decide (j < 6) && (decide (0 ≤ j) && decide (j < 6) && (AC.isB ((t.cs)[1 + j.toNat * 1]?.getD (.b false)) && Nat.blt (1 + j.toNat * 1) (t.cs).length && ((t.s).get j.toNat && (decide (0 ≤ j) && decide (j < 6) && (AC.isB ((u.cs)[1 + j.toNat * 1]?.getD (.b false)) && Nat.blt (1 + j.toNat * 1) (u.cs).length && (!(u.s).get j.toNat && true))))))) = true) (c0 : pe (.c (.b (AC.asB ((t.cs)[1 + j.toNat * 1]?.getD (.b false))))) = pe (.c (.b ((t.s).get j.toNat)))) (c1 : pe (.c (.b (AC.asB ((u.cs)[1 + j.toNat * 1]?.getD (.b false))))) = pe (.c (.b ((u.s).get j.toNat)))) (lo : Kn.Low (fjRoundK t u b (IntKind.i64.wrap (j + 1)))) (hF : ∀ k, C.F k → k < 20) (z : AR 35 Tryz.f35 C 0 (fjRoundK t u b (IntKind.i64.wrap (j + 1))) R) :
  AR 35 Tryz.f35 C 0 (fjRoundK t u b j) R :=
 run_cut2 [true, true, false] ([true]) [(11, 3), (11, 8), (12, 3), (12, 7)] Tryz.func35 (by kernel_rfl) h (cr_same c0 (cr_same c1 cr_nil)) lo hF z
theorem fjRound_w2 (h : (decide (j < 6) && (decide (0 ≤ j) && decide (j < 6) && (AC.isB ((t.cs)[1 + j.toNat * 1]?.getD (.b false)) && Nat.blt (1 + j.toNat * 1) (t.cs).length && (!(t.s).get j.toNat && true)))) = true) (c0 : pe (.c (.b (AC.asB ((t.cs)[1 + j.toNat * 1]?.getD (.b false))))) = pe (.c (.b ((t.s).get j.toNat)))) (lo : Kn.Low (fjRoundK t u b (IntKind.i64.wrap (j + 1)))) (hF : ∀ k, C.F k → k < 20) (z : AR 35 Tryz.f35 C 0 (fjRoundK t u b (IntKind.i64.wrap (j + 1))) R) :
  AR 35 Tryz.f35 C 0 (fjRoundK t u b j) R :=
 run_cut2 [true, false, false] ([true]) [(11, 3), (11, 8), (12, 3), (12, 7)] Tryz.func35 (by kernel_rfl) h (cr_same c0 cr_nil) lo hF z
theorem fjRound_all (hn : n ≤ 20)
  (l0 : ((t.s).get j.toNat) = true → ((u.s).get j.toNat) = true → (decide (j < 6)) = true ∧ (decide (0 ≤ j) && decide (j < 6)) = true ∧ (AC.isB ((t.cs)[1 + j.toNat * 1]?.getD (.b false)) && Nat.blt (1 + j.toNat * 1) (t.cs).length) = true ∧ (decide (0 ≤ j) && decide (j < 6)) = true ∧ (AC.isB ((u.cs)[1 + j.toNat * 1]?.getD (.b false)) && Nat.blt (1 + j.toNat * 1) (u.cs).length) = true ∧ (decide (0 ≤ j) && decide (j < 6)) = true ∧ (Nat.ble (7 + j.toNat * 4 + 4) (t.cs).length) = true ∧ (decide (0 ≤ j) && decide (j < 6)) = true ∧ (Nat.ble (7 + j.toNat * 4 + 4) (u.cs).length) = true ∧ (pe (.c (.b (AC.asB ((t.cs)[1 + j.toNat * 1]?.getD (.b false))))) = pe (.c (.b ((t.s).get j.toNat)))) ∧ (pe (.c (.b (AC.asB ((u.cs)[1 + j.toNat * 1]?.getD (.b false))))) = pe (.c (.b ((u.s).get j.toNat)))) ∧ (pe (.ag (((t.cs).drop (7 + j.toNat * 4)).take 4)) = pe (.ag ((t.r).get j.toNat).cs)) ∧ (pe (.ag (((u.cs).drop (7 + j.toNat * 4)).take 4)) = pe (.ag ((u.r).get j.toNat).cs)) ∧ (Ok 79 [.ag ((t.r).get j.toNat).cs, .ag ((u.r).get j.toNat).cs] (.tu [.ag a.cs, .c (.i 0)])) ∧ (Ok 68 [.ag b.cs, .c (.i j), .ag a.cs] (.ag b2.cs)) ∧ Kn.Low (fjRoundK t u b2 (IntKind.i64.wrap (j + 1))) ∧ AR 35 Tryz.f35 (cx w β n []) 0 (fjRoundK t u b2 (IntKind.i64.wrap (j + 1))) (REff w β E))
  (l1 : ((t.s).get j.toNat) = true → ((u.s).get j.toNat) = false → (decide (j < 6)) = true ∧ (decide (0 ≤ j) && decide (j < 6)) = true ∧ (AC.isB ((t.cs)[1 + j.toNat * 1]?.getD (.b false)) && Nat.blt (1 + j.toNat * 1) (t.cs).length) = true ∧ (decide (0 ≤ j) && decide (j < 6)) = true ∧ (AC.isB ((u.cs)[1 + j.toNat * 1]?.getD (.b false)) && Nat.blt (1 + j.toNat * 1) (u.cs).length) = true ∧ (pe (.c (.b (AC.asB ((t.cs)[1 + j.toNat * 1]?.getD (.b false))))) = pe (.c (.b ((t.s).get j.toNat)))) ∧ (pe (.c (.b (AC.asB ((u.cs)[1 + j.toNat * 1]?.getD (.b false))))) = pe (.c (.b ((u.s).get j.toNat)))) ∧ Kn.Low (fjRoundK t u b (IntKind.i64.wrap (j + 1))) ∧ AR 35 Tryz.f35 (cx w β n []) 0 (fjRoundK t u b (IntKind.i64.wrap (j + 1))) (REff w β E))
  (l2 : ((t.s).get j.toNat) = false → (decide (j < 6)) = true ∧ (decide (0 ≤ j) && decide (j < 6)) = true ∧ (AC.isB ((t.cs)[1 + j.toNat * 1]?.getD (.b false)) && Nat.blt (1 + j.toNat * 1) (t.cs).length) = true ∧ (pe (.c (.b (AC.asB ((t.cs)[1 + j.toNat * 1]?.getD (.b false))))) = pe (.c (.b ((t.s).get j.toNat)))) ∧ Kn.Low (fjRoundK t u b (IntKind.i64.wrap (j + 1))) ∧ AR 35 Tryz.f35 (cx w β n []) 0 (fjRoundK t u b (IntKind.i64.wrap (j + 1))) (REff w β E)) :
  AR 35 Tryz.f35 (cx w β n []) 0 (fjRoundK t u b j) (REff w β E) :=
 (tf ((t.s).get j.toNat)).elim (fun h0 => (tf ((u.s).get j.toNat)).elim (fun h1 => (match l0 h0 h1 with | ⟨o0, o1, o2, o3, o4, o5, o6, o7, o8, c0, c1, c2, c3, c4, c5, lo, z⟩ => fjRound_w0 (and_yes o0 (and_yes o1 (and_yes o2 (and_yes h0 (and_yes o3 (and_yes o4 (and_yes h1 (and_yes o5 (and_yes o6 (and_yes o7 (and_yes o8 rfl))))))))))) c0 c1 c2 c3 c4 c5 lo (fun _ hk => Nat.lt_of_lt_of_le hk hn) z)) (fun h1 => (match l1 h0 h1 with | ⟨o0, o1, o2, o3, o4, c0, c1, lo, z⟩ => fjRound_w1 (and_yes o0 (and_yes o1 (and_yes o2 (and_yes h0 (and_yes o3 (and_yes o4 (and_yes (not_yes h1) rfl))))))) c0 c1 lo (fun _ hk => Nat.lt_of_lt_of_le hk hn) z))) (fun h0 => (match l2 h0 with | ⟨o0, o1, o2, c0, lo, z⟩ => fjRound_w2 (and_yes o0 (and_yes o1 (and_yes o2 (and_yes (not_yes h0) rfl)))) c0 lo (fun _ hk => Nat.lt_of_lt_of_le hk hn) z))
theorem fjEnd_w0 :
  AR 35 Tryz.f35 (cx w β n []) 0 (fjRoundK t u b 6) (REff w β ⟨.tu [.ag b.cs, .c (.i 0)], [], none⟩) :=
 run_eff2 [] none [false] ([true]) [] Tryz.func35 (ekeys0 rfl n) (by kernel_rfl) rfl cr_nil
end
end Go.Proofs.YtkigmocchaikgabGreat
/- What a value has, and what is left of two: plain facts. -/
namespace Go.Proofs.YtkigmocchaikgabGreat
theorem V4.ok_rt {a : V4} (h : a.ok = true) : RtB a.v a.m := (val_facts h).1
theorem V4.has_ok {a : V4} {x : BitVec 64} (h : a.has x = true) : a.ok = true := (has_facts h).1
theorem V4.nrm_ok {a : V4} (hr : RtB a.v a.m) (h : a.nok = true) : a.nrm.ok = true := norm_right hr h
theorem V4.nrm_has {a : V4} {x : BitVec 64} (hr : RtB a.v a.m) (hx : rawV a.v a.m a.l a.h x = true) : a.nok = true ∧ a.nrm.has x = true := raw_norm hr hx
theorem V4.has_iff {a : V4} {x : BitVec 64} : a.has x = true ↔ a.ok = true ∧ hasB a.v a.m x = true ∧ nv a.l ≤ nv x ∧ nv x ≤ nv a.h := by
 simp only [V4.has, hasV, V4.ok, Bool.and_eq_true, decide_eq_true_eq]
theorem V4.low_has {a : V4} (h : a.ok = true) : a.has a.l = true := by
 obtain ⟨_, h2, _, h4, _⟩ := val_facts h
 exact V4.has_iff.2 ⟨h, h2, Int.le_refl _, h4⟩
theorem V4.high_has {a : V4} (h : a.ok = true) : a.has a.h = true := by
 obtain ⟨_, _, h3, h4, _⟩ := val_facts h
 exact V4.has_iff.2 ⟨h, h3, h4, Int.le_refl _⟩
theorem V4.le {a : V4} (h : a.ok = true) : nv a.l ≤ nv a.h := (val_facts h).2.2.2.1
theorem V4.stays {a : V4} (h : a.ok = true) : a.nok = true ∧ a.nrm = a := by
 obtain ⟨h1, h2, h3, h4, h5⟩ := norm_stays h
 refine ⟨h1, ?_⟩
 cases a; simp only [V4.nrm] at *; rw [h2, h3, h4, h5]
theorem V4.two_has {op : Int} {a b : V4} {x y : BitVec 64} (hop : 2 ≤ op ∧ op ≤ 9) (hx : a.has x = true) (hy : b.has y = true) : (V4.two op a b).has (numN op x y) = true := by
 obtain ⟨h1, h2⟩ := rk_sound hop hx hy
 obtain ⟨h3, h4⟩ := V4.nrm_has (a := V4.raw2 op a b) h1 h2
 unfold V4.two V4.norm
 rw [if_pos h3]
 exact h4
theorem V4.two_ok {op : Int} {a b : V4} (hop : 2 ≤ op ∧ op ≤ 9) (ha : a.ok = true) (hb : b.ok = true) : (V4.two op a b).ok = true := V4.has_ok (V4.two_has hop (V4.low_has ha) (V4.low_has hb))
theorem V4.join_has {a b : V4} {x : BitVec 64} (ha : a.ok = true) (hb : b.ok = true) (h : a.has x = true ∨ b.has x = true) : (a.join b).has x = true := by
 obtain ⟨_, h2, h3⟩ := join_facts ha hb
 rcases h with h | h
 ·exact insV_has h2 h
 ·exact insV_has h3 h
theorem V4.join_ok {a b : V4} (ha : a.ok = true) (hb : b.ok = true) : (a.join b).ok = true := V4.has_ok (V4.join_has ha hb (Or.inl (V4.low_has ha)))
theorem insB_refl {v m : BitVec 64} (h : RtB v m) : insB v m v m = true := ins_of_all h h fun _ hx => hx
theorem hasB_of (x : BitVec 64) : hasB x zero x = true := by
 have hr : RtB x zero := fun j => by rw [bit_zero]; cases bit x j <;> rfl
 refine (hasB_iff _ _ _).2 ⟨hr, fun j hj => ?_⟩
 rw [bit_zero]; cases bit x j <;> rfl
theorem sM_self (x : BitVec 64) : sM x x = zero := by
 apply bext
 intro j hj
 rw [bit_zero]
 exact (sM_bit x x j hj).2 fun _ _ => rfl
theorem V4.of_ok (x : BitVec 64) : (V4.of x).ok = true := by
 have h := hasB_of x
 have hs : spV x x = x := by
  unfold spV
  rw [sM_self]
  apply bext
  intro j hj
  rw [bit_andn _ _ _ hj, bit_zero]; cases bit x j <;> rfl
 show valB x zero x x = true
 unfold valB
 rw [h, sM_self, hs, insB_refl ((hasB_iff _ _ _).1 h).1]
 simp
theorem V4.of_has {x y : BitVec 64} : (V4.of x).has y = true ↔ y = x := by
 constructor
 ·intro h
  obtain ⟨_, _, h1, h2⟩ := V4.has_iff.1 h
  have h1 : nv x ≤ nv y := h1
  have h2 : nv y ≤ nv x := h2
  exact nv_inj _ _ (by omega)
 ·rintro rfl
  exact V4.low_has (V4.of_ok y)
theorem sM_ends {l h : BitVec 64} {n : Nat} (hn : n < 64) (hl : l = zero) (hb : bit h n = true) : ∀ j, j ≤ n → bit (sM l h) j = true := by
 intro j hj
 cases hc : bit (sM l h) j with
 | true => rfl
 | false =>
  have := (sM_bit l h j (by omega)).1 hc n hj
  rw [hl, bit_zero, hb] at this
  cases this
theorem V4.low_ok {h : BitVec 64} (n : Nat) (hn : n ≤ 64) (hb : ∀ j, j < 64 → bit h j = decide (j < n)) (h0 : 0 < n) : V4.ok ⟨zero, h, zero, h⟩ = true ∧ ∀ x, nv x ≤ nv h → V4.has ⟨zero, h, zero, h⟩ x = true := by
 have hr : RtB zero h := zero_rt h
 have g0 : hasB zero h zero = true := (hasB_iff _ _ _).2 ⟨hr, fun j hj => by rw [bit_zero]; rfl⟩
 have g1 : hasB zero h h = true := (hasB_iff _ _ _).2 ⟨hr, fun j hj => by rw [bit_zero]; cases bit h j <;> rfl⟩
 have hle : nv zero ≤ nv h := (ends h).1
 have sm : sM zero h = h := by
  apply bext
  intro j hj
  rw [hb j hj]
  by_cases c : j < n
  ·rw [sM_ends (n := n - 1) (by omega) rfl (by rw [hb _ (by omega)]; simp; omega) j (by omega)]; simp [c]
  ·have : bit (sM zero h) j = false := (sM_bit _ _ _ hj).2 fun i hi => by
    by_cases c' : i < 64
    ·rw [bit_zero, hb i c']; simp; omega
    ·rw [bit_big _ _ (by omega), bit_big _ _ (by omega)]
   rw [this]; simp [c]
 have sp : spV zero h = zero := by
  unfold spV
  apply bext
  intro j hj
  rw [bit_andn _ _ _ hj, bit_zero]; rfl
 have ho : V4.ok ⟨zero, h, zero, h⟩ = true := by
  show valB zero h zero h = true
  unfold valB
  rw [g0, g1, sm, sp, insB_refl hr]
  simp [hle]
 refine ⟨ho, fun x hx => V4.has_iff.2 ⟨ho, (hasB_iff _ _ _).2 ⟨hr, fun j hj => ?_⟩, (ends x).1, hx⟩⟩
 -- a bit that h lacks, x lacks
 rw [bit_zero]
 have := span_has (l := zero) (h := h) (x := x) (ends x).1 hx
 rw [sm, sp] at this
 have h2 := ((hasB_iff _ _ _).1 this).2 j hj
 rw [bit_zero] at h2
 exact h2
theorem V4.any_has (x : BitVec 64) : V4.any.has x = true := (V4.low_ok (h := top) 64 (Nat.le_refl _) (fun j hj => by rw [bit_top _ hj]; simp [hj]) (by decide)).2 x (ends x).2
theorem V4.any_ok : V4.any.ok = true := V4.has_ok (V4.any_has zero)
theorem byteTop_bits (n : Int) : ∃ k, 0 < k ∧ k ≤ 64 ∧ ∀ j, j < 64 → bit (byteTop n) j = decide (j < k) := by
 have key : ∀ (k : Nat) (x : BitVec 64), (∀ j : Fin 64, x.getLsbD j.1 = decide (j.1 < k)) → ∀ j, j < 64 → bit x j = decide (j < k) := fun k x h j hj => h ⟨j, hj⟩
 unfold byteTop
 split
 ·exact ⟨64, by decide, by decide, fun j hj => by rw [bit_top _ hj]; simp [hj]⟩
 ·split
  ·exact ⟨32, by decide, by decide, key 32 _ (by decide)⟩
  ·split
   ·exact ⟨16, by decide, by decide, key 16 _ (by decide)⟩
   ·exact ⟨8, by decide, by decide, key 8 _ (by decide)⟩
theorem V4.bytes_has (n : Int) (x : BitVec 64) (hx : nv x ≤ nv (byteTop n)) : (V4.bytes n).has x = true := by
 obtain ⟨k, h1, h2, h3⟩ := byteTop_bits n
 exact (V4.low_ok k h2 h3 h1).2 x hx
theorem V4.bytes_ok (n : Int) : (V4.bytes n).ok = true := V4.has_ok (V4.bytes_has n zero (ends _).1)
/- what is left of two -/
theorem left2_ok {may : Bool} {x y : V4} (hx : RtB x.v x.m) (hy : RtB y.v y.m) (h : (left2 may x y).2.2 = true) : (left2 may x y).1.ok = true ∧ (left2 may x y).2.1.ok = true := by
 have h' : (may && (x.nok && y.nok)) = true := h
 simp only [left2, lvV, h', if_true]
 simp only [Bool.and_eq_true] at h'
 exact ⟨V4.nrm_ok hx h'.2.1, V4.nrm_ok hy h'.2.2⟩
theorem left2_has {x y : V4} {p q : BitVec 64} (hx : RtB x.v x.m) (hy : RtB y.v y.m) (h1 : rawV x.v x.m x.l x.h p = true) (h2 : rawV y.v y.m y.l y.h q = true) :
  (left2 true x y).2.2 = true ∧ (left2 true x y).1.has p = true ∧ (left2 true x y).2.1.has q = true := by
 obtain ⟨a1, a2⟩ := V4.nrm_has hx h1
 obtain ⟨b1, b2⟩ := V4.nrm_has hy h2
 simp only [left2, lvV, a1, b1, Bool.and_self, if_true]
 exact ⟨trivial, a2, b2⟩
theorem meet_rt {a b : V4} (ha : a.ok = true) (hb : b.ok = true) : RtB (bor a.v b.v) (band a.m b.m) := by
 have r1 := V4.ok_rt ha
 have r2 := V4.ok_rt hb
 intro j
 have h3 := r1 j; have h4 := r2 j
 rw [bit_or, bit_and']
 revert h3 h4
 cases bit a.v j <;> cases bit a.m j <;> cases bit b.v j <;> cases bit b.m j <;> simp
theorem V4.equal_ok {a b : V4} (ha : a.ok = true) (hb : b.ok = true) (h : (a.equal b).2.2 = true) : (a.equal b).1.ok = true ∧ (a.equal b).2.1.ok = true := by
 unfold V4.equal at h ⊢
 split at h
 ·rename_i hm
  rw [if_pos hm]
  exact left2_ok (meet_rt ha hb) (meet_rt ha hb) h
 ·cases h
theorem V4.equal_has {a b : V4} {x : BitVec 64} (hx : a.has x = true) (hy : b.has x = true) : (a.equal b).2.2 = true ∧ (a.equal b).1.has x = true ∧ (a.equal b).2.1.has x = true := by
 obtain ⟨h1, h2, h3⟩ := left_equal hx hy
 unfold V4.equal
 rw [if_pos (show a.meets b = true from h1)]
 exact left2_has (x := a.rawEqual b) (y := a.rawEqual b) h2 h2 h3 h3
theorem V4.other_ok {a b : V4} (ha : a.ok = true) (hb : b.ok = true) (h : (a.other b).2.2 = true) : (a.other b).1.ok = true ∧ (a.other b).2.1.ok = true :=
 left2_ok (show RtB a.v a.m from V4.ok_rt ha) (show RtB b.v b.m from V4.ok_rt hb) h
theorem V4.other_has {a b : V4} {x y : BitVec 64} (hx : a.has x = true) (hy : b.has y = true) (hne : x ≠ y) : (a.other b).2.2 = true ∧ (a.other b).1.has x = true ∧ (a.other b).2.1.has y = true := by
 have h1 := left_other hx hy hne
 have h2 := left_other hy hx (Ne.symm hne)
 have h3 := may_other hx hy hne
 unfold V4.other
 have e : (!(a.alone && (b.alone && eqb a.l b.l))) = true := by
  show (!(eqb a.l a.h && (eqb b.l b.h && eqb a.l b.l))) = true
  rw [h3]; rfl
 rw [e]
 exact left2_has (x := a.without b) (y := b.without a) (show RtB a.v a.m from V4.ok_rt (V4.has_ok hx)) (show RtB b.v b.m from V4.ok_rt (V4.has_ok hy)) h1 h2
theorem V4.less_ok {a b : V4} (ha : a.ok = true) (hb : b.ok = true) (h : (a.less b).2.2 = true) : (a.less b).1.ok = true ∧ (a.less b).2.1.ok = true := by
 unfold V4.less at h ⊢
 split at h
 ·cases h
 ·rename_i hm
  rw [if_neg hm]
  exact left2_ok (show RtB a.v a.m from V4.ok_rt ha) (show RtB b.v b.m from V4.ok_rt hb) h
theorem V4.less_has {a b : V4} {x y : BitVec 64} (hx : a.has x = true) (hy : b.has y = true) (hlt : nv x < nv y) : (a.less b).2.2 = true ∧ (a.less b).1.has x = true ∧ (a.less b).2.1.has y = true := by
 obtain ⟨h1, h2, h3, h4⟩ := left_less hx hy hlt
 rw [bmax_self] at h3
 rw [bmin_self] at h4
 unfold V4.less
 rw [h1, h2, if_neg (by decide)]
 exact left2_has (x := ⟨a.v, a.m, a.l, bmin a.h (bsub b.h one)⟩) (y := ⟨b.v, b.m, bmax b.l (badd a.l one), b.h⟩) (show RtB a.v a.m from V4.ok_rt (V4.has_ok hx)) (show RtB b.v b.m from V4.ok_rt (V4.has_ok hy)) h3 h4
theorem V4.notLess_ok {a b : V4} (ha : a.ok = true) (hb : b.ok = true) (h : (a.notLess b).2.2 = true) : (a.notLess b).1.ok = true ∧ (a.notLess b).2.1.ok = true :=
 left2_ok (show RtB a.v a.m from V4.ok_rt ha) (show RtB b.v b.m from V4.ok_rt hb) h
theorem V4.notLess_has {a b : V4} {x y : BitVec 64} (hx : a.has x = true) (hy : b.has y = true) (hle : nv y ≤ nv x) : (a.notLess b).2.2 = true ∧ (a.notLess b).1.has x = true ∧ (a.notLess b).2.1.has y = true := by
 obtain ⟨h3, h4⟩ := left_notLess hx hy hle
 rw [bmin_self] at h3
 rw [bmax_self] at h4
 exact left2_has (x := ⟨a.v, a.m, bmax a.l b.l, a.h⟩) (y := ⟨b.v, b.m, b.l, bmin b.h a.h⟩) (show RtB a.v a.m from V4.ok_rt (V4.has_ok hx)) (show RtB b.v b.m from V4.ok_rt (V4.has_ok hy)) h3 h4
/- cells that are the same -/
theorem V4.eq_iff {a b : V4} : eqCs a.cs b.cs = true ↔ a = b := by
 cases a; cases b
 simp [V4.cs, eqCs, eqC, eqb]
end Go.Proofs.YtkigmocchaikgabGreat
