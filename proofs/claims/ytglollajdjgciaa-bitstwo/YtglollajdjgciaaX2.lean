/- The contract of the reference's twoBits. -/
import Derived.Test.YtglollajdjgciaaX1b
namespace Go.Proofs.Ytglollajdjgciaa
open Go.RowKit
attribute [local go_sem] w_and w_or w_xor w_andNot w_and1 w_and63 w_add w_sub w_mul w_sub1 w_add1 w_shl w_shl1 w_shr c_beq c_bne c_beq0 c_bne0 c_beq1 c_bne1 wrap_nv

theorem ba0 : bits .and .i64 0 1 = 0 := by decide
theorem ba1 : bits .and .i64 1 1 = 1 := by decide
theorem ba2 : bits .and .i64 2 1 = 0 := by decide
theorem ba3 : bits .and .i64 3 1 = 1 := by decide
theorem ba4 : bits .and .i64 4 1 = 0 := by decide
theorem ba5 : bits .and .i64 5 1 = 1 := by decide
theorem ba6 : bits .and .i64 6 1 = 0 := by decide
theorem ba7 : bits .and .i64 7 1 = 1 := by decide
attribute [local go_sem] ba0 ba1 ba2 ba3 ba4 ba5 ba6 ba7
theorem bi_t : bi true = 1 := rfl
theorem bi_f : bi false = 0 := rfl
theorem k_cases {k : Nat} (h : k < 8) : k = 0 ∨ k = 1 ∨ k = 2 ∨ k = 3 ∨ k = 4 ∨ k = 5 ∨ k = 6 ∨ k = 7 := by omega

set_option maxRecDepth 100000 in
set_option maxHeartbeats 8000000 in
theorem twoBits_any (op : Int) (av am bv bm : BitVec 64) (w : World) :
    Calls Try.prog 81 #[N op, Bt av am, Bt bv bm] w fun e w' => e = .returned (Bt (twoV op av am bv bm 64) (twoM op av am bv bm 64)) ∧ Below w.heap.size w w' := by
  go_enter Try.func81, Try.ntmps81
  go_wp2_with fail
  have hK0 := (((((Kp.start w).add2 (U av) (U am) 24).add2 (U bv) (U bm) 24).add2 (.int .u64 0) (.int .u64 0) 24).add2 (.int .u64 0) (.int .u64 0) 24).add2 (.bool true) (.bool false) 123
  simp only [World.size_alloc] at hK0
  go_loopw [9] (fun t wr => ∃ (i : Nat) (c0 c1 : Bool) (V M : BitVec 64), i ≤ 64 ∧ t = N i ∧ twoC op av am bv bm i = (c0, c1) ∧ twoV op av am bv bm i = V ∧ twoM op av am bv bm i = M
      ∧ Kp w wr [(w.heap.size + 1 + 1 + 1 + 1, [.bool c0, .bool c1]), (w.heap.size + 1 + 1 + 1, [U V, U M]), (w.heap.size + 1 + 1, [.int .u64 0, .int .u64 0]), (w.heap.size + 1, [U bv, U bm]), (w.heap.size, [U av, U am])]) (fun t _ => 64 - (intOf t).toNat)
  case atStart => exact ⟨0, true, false, zero, zero, by omega, rfl, rfl, rfl, rfl, hK0⟩
  case round =>
    clear hK0
    obtain ⟨i, c0, c1, V, M, hi, rfl, hC, hV, hM, hK⟩ := hrel
    have HC : Hid _ := hC
    have HV : Hid _ := hV
    have HM : Hid _ := hM
    clear hC hV hM
    by_cases hlt : i < 64
    · obtain ⟨z, o, H1, H2⟩ := may_eq av am i
      obtain ⟨u, p, H3, H4⟩ := may_eq bv bm i
      obtain ⟨R, hR⟩ : ∃ R, R = wr.heap.size := ⟨_, rfl⟩
      have hK1 := (hK.add2 (.bool false) (.bool false) 123).add2 (.bool false) (.bool false) 123
      simp only [World.size_alloc] at hK1
      rw [← hR] at hK1
      have hR' : wr.heap.size = R := hR.symm
      clear hR hK
      have hd : decide ((i : Int) < 64) = true := by simp; omega
      go_wp2_with fail
      clear hR'
      go_loopw [12] (fun t ws => ∃ (k : Nat) (r0 r1 v0 v1 : Bool), k ≤ 8 ∧ t = N k ∧ inn op z o u p c0 c1 k = ((r0, r1), (v0, v1))
          ∧ Kp w ws [(R + 1, [.bool v0, .bool v1]), (R, [.bool r0, .bool r1]), (w.heap.size + 1 + 1 + 1 + 1, [.bool c0, .bool c1]), (w.heap.size + 1 + 1 + 1, [U V, U M]), (w.heap.size + 1 + 1, [.int .u64 0, .int .u64 0]), (w.heap.size + 1, [U bv, U bm]), (w.heap.size, [U av, U am])]) (fun t _ => 8 - (intOf t).toNat)
      case atStart => exact ⟨0, false, false, false, false, by omega, rfl, rfl, hK1⟩
      case round =>
        clear hK1
        obtain ⟨k, r0, r1, v0, v1, hk, rfl, hs, hK⟩ := hrel
        have Hs : Hid _ := hs
        clear hs
        obtain ⟨vv0, vv1, vv2, vv3, vv4⟩ := hK.box.head.two
        obtain ⟨rr0, rr1, rr2, rr3, rr4⟩ := hK.box.tail.head.two
        obtain ⟨cc0, cc1, cc2, cc3, cc4⟩ := hK.box.tail.tail.head.two
        obtain ⟨oo0, oo1, oo2, oo3, oo4⟩ := hK.box.tail.tail.tail.head.two
        obtain ⟨b0, b1, b2, b3, b4⟩ := hK.box.tail.tail.tail.tail.tail.head.two
        obtain ⟨a0, a1, a2, a3, a4⟩ := hK.box.tail.tail.tail.tail.tail.tail.head.two
        by_cases hk8 : k < 8
        · rcases k_cases hk8 with rfl | rfl | rfl | rfl | rfl | rfl | rfl | rfl
          · as_aux_lemma =>
            obtain ⟨q1, q2, Hb⟩ := bo_ex op false false false
            go_wp2_with fail
            refine (may_any hlt H1 H2 _).mono ?_
            rintro e w1 ⟨rfl, hb1⟩
            have hK1 := hK.keep hb1
            clear vv0 vv1 vv2 vv3 vv4 rr0 rr1 rr2 rr3 rr4 cc0 cc1 cc2 cc3 cc4 oo0 oo1 oo2 oo3 oo4 b0 b1 b2 b3 b4 a0 a1 a2 a3 a4
            obtain ⟨vv0, vv1, vv2, vv3, vv4⟩ := hK1.box.head.two
            obtain ⟨rr0, rr1, rr2, rr3, rr4⟩ := hK1.box.tail.head.two
            obtain ⟨cc0, cc1, cc2, cc3, cc4⟩ := hK1.box.tail.tail.head.two
            obtain ⟨oo0, oo1, oo2, oo3, oo4⟩ := hK1.box.tail.tail.tail.head.two
            obtain ⟨b0, b1, b2, b3, b4⟩ := hK1.box.tail.tail.tail.tail.tail.head.two
            obtain ⟨a0, a1, a2, a3, a4⟩ := hK1.box.tail.tail.tail.tail.tail.tail.head.two
            go_wp2_with fail
            refine (may_any hlt H3 H4 _).mono ?_
            rintro e w2 ⟨rfl, hb2⟩
            have hK2 := hK1.keep hb2
            clear vv0 vv1 vv2 vv3 vv4 rr0 rr1 rr2 rr3 rr4 cc0 cc1 cc2 cc3 cc4 oo0 oo1 oo2 oo3 oo4 b0 b1 b2 b3 b4 a0 a1 a2 a3 a4
            obtain ⟨vv0, vv1, vv2, vv3, vv4⟩ := hK2.box.head.two
            obtain ⟨rr0, rr1, rr2, rr3, rr4⟩ := hK2.box.tail.head.two
            obtain ⟨cc0, cc1, cc2, cc3, cc4⟩ := hK2.box.tail.tail.head.two
            obtain ⟨oo0, oo1, oo2, oo3, oo4⟩ := hK2.box.tail.tail.tail.head.two
            obtain ⟨b0, b1, b2, b3, b4⟩ := hK2.box.tail.tail.tail.tail.tail.head.two
            obtain ⟨a0, a1, a2, a3, a4⟩ := hK2.box.tail.tail.tail.tail.tail.tail.head.two
            clear hb1 hb2 hK1 hK H1 H2 H3 H4
            cases z
            · as_aux_lemma =>
                go_wp2_with fail
                go_roundw
                case rel => exact ⟨0 + 1, r0, r1, v0, v1, by omega, rfl, inn_no Hs.out rfl, hK2⟩
                case measure => simp [intOf]
            · cases u
              · as_aux_lemma =>
                  go_wp2_with fail
                  go_roundw
                  case rel => exact ⟨0 + 1, r0, r1, v0, v1, by omega, rfl, inn_no Hs.out rfl, hK2⟩
                  case measure => simp [intOf]
              · cases c0
                · as_aux_lemma =>
                    go_wp2_with fail
                    go_roundw
                    case rel => exact ⟨0 + 1, r0, r1, v0, v1, by omega, rfl, inn_no Hs.out rfl, hK2⟩
                    case measure => simp [intOf]
                · as_aux_lemma =>
                    go_wp2_with fail
                    refine (bitOf_is Hb _).mono ?_
                    rintro e w3 ⟨rfl, rfl⟩
                    cases q1 <;> cases q2
                    all_goals
                      first | rw [bi_t] | rw [bi_f]
                      try first | rw [bi_t] | rw [bi_f]
                      go_wp2_with fail
                      go_roundw
                      case rel => exact ⟨0 + 1, _, _, _, _, by omega, rfl, inn_yes Hs.out rfl rfl rfl rfl Hb.out, (hK2.set1 1 rfl rfl).set1 0 rfl rfl⟩
                      case measure => simp [intOf]
          · as_aux_lemma =>
            obtain ⟨q1, q2, Hb⟩ := bo_ex op true false false
            go_wp2_with fail
            refine (may_any hlt H1 H2 _).mono ?_
            rintro e w1 ⟨rfl, hb1⟩
            have hK1 := hK.keep hb1
            clear vv0 vv1 vv2 vv3 vv4 rr0 rr1 rr2 rr3 rr4 cc0 cc1 cc2 cc3 cc4 oo0 oo1 oo2 oo3 oo4 b0 b1 b2 b3 b4 a0 a1 a2 a3 a4
            obtain ⟨vv0, vv1, vv2, vv3, vv4⟩ := hK1.box.head.two
            obtain ⟨rr0, rr1, rr2, rr3, rr4⟩ := hK1.box.tail.head.two
            obtain ⟨cc0, cc1, cc2, cc3, cc4⟩ := hK1.box.tail.tail.head.two
            obtain ⟨oo0, oo1, oo2, oo3, oo4⟩ := hK1.box.tail.tail.tail.head.two
            obtain ⟨b0, b1, b2, b3, b4⟩ := hK1.box.tail.tail.tail.tail.tail.head.two
            obtain ⟨a0, a1, a2, a3, a4⟩ := hK1.box.tail.tail.tail.tail.tail.tail.head.two
            go_wp2_with fail
            refine (may_any hlt H3 H4 _).mono ?_
            rintro e w2 ⟨rfl, hb2⟩
            have hK2 := hK1.keep hb2
            clear vv0 vv1 vv2 vv3 vv4 rr0 rr1 rr2 rr3 rr4 cc0 cc1 cc2 cc3 cc4 oo0 oo1 oo2 oo3 oo4 b0 b1 b2 b3 b4 a0 a1 a2 a3 a4
            obtain ⟨vv0, vv1, vv2, vv3, vv4⟩ := hK2.box.head.two
            obtain ⟨rr0, rr1, rr2, rr3, rr4⟩ := hK2.box.tail.head.two
            obtain ⟨cc0, cc1, cc2, cc3, cc4⟩ := hK2.box.tail.tail.head.two
            obtain ⟨oo0, oo1, oo2, oo3, oo4⟩ := hK2.box.tail.tail.tail.head.two
            obtain ⟨b0, b1, b2, b3, b4⟩ := hK2.box.tail.tail.tail.tail.tail.head.two
            obtain ⟨a0, a1, a2, a3, a4⟩ := hK2.box.tail.tail.tail.tail.tail.tail.head.two
            clear hb1 hb2 hK1 hK H1 H2 H3 H4
            cases o
            · as_aux_lemma =>
                go_wp2_with fail
                go_roundw
                case rel => exact ⟨1 + 1, r0, r1, v0, v1, by omega, rfl, inn_no Hs.out rfl, hK2⟩
                case measure => simp [intOf]
            · cases u
              · as_aux_lemma =>
                  go_wp2_with fail
                  go_roundw
                  case rel => exact ⟨1 + 1, r0, r1, v0, v1, by omega, rfl, inn_no Hs.out rfl, hK2⟩
                  case measure => simp [intOf]
              · cases c0
                · as_aux_lemma =>
                    go_wp2_with fail
                    go_roundw
                    case rel => exact ⟨1 + 1, r0, r1, v0, v1, by omega, rfl, inn_no Hs.out rfl, hK2⟩
                    case measure => simp [intOf]
                · as_aux_lemma =>
                    go_wp2_with fail
                    refine (bitOf_is Hb _).mono ?_
                    rintro e w3 ⟨rfl, rfl⟩
                    cases q1 <;> cases q2
                    all_goals
                      first | rw [bi_t] | rw [bi_f]
                      try first | rw [bi_t] | rw [bi_f]
                      go_wp2_with fail
                      go_roundw
                      case rel => exact ⟨1 + 1, _, _, _, _, by omega, rfl, inn_yes Hs.out rfl rfl rfl rfl Hb.out, (hK2.set1 1 rfl rfl).set1 0 rfl rfl⟩
                      case measure => simp [intOf]
          · as_aux_lemma =>
            obtain ⟨q1, q2, Hb⟩ := bo_ex op false true false
            go_wp2_with fail
            refine (may_any hlt H1 H2 _).mono ?_
            rintro e w1 ⟨rfl, hb1⟩
            have hK1 := hK.keep hb1
            clear vv0 vv1 vv2 vv3 vv4 rr0 rr1 rr2 rr3 rr4 cc0 cc1 cc2 cc3 cc4 oo0 oo1 oo2 oo3 oo4 b0 b1 b2 b3 b4 a0 a1 a2 a3 a4
            obtain ⟨vv0, vv1, vv2, vv3, vv4⟩ := hK1.box.head.two
            obtain ⟨rr0, rr1, rr2, rr3, rr4⟩ := hK1.box.tail.head.two
            obtain ⟨cc0, cc1, cc2, cc3, cc4⟩ := hK1.box.tail.tail.head.two
            obtain ⟨oo0, oo1, oo2, oo3, oo4⟩ := hK1.box.tail.tail.tail.head.two
            obtain ⟨b0, b1, b2, b3, b4⟩ := hK1.box.tail.tail.tail.tail.tail.head.two
            obtain ⟨a0, a1, a2, a3, a4⟩ := hK1.box.tail.tail.tail.tail.tail.tail.head.two
            go_wp2_with fail
            refine (may_any hlt H3 H4 _).mono ?_
            rintro e w2 ⟨rfl, hb2⟩
            have hK2 := hK1.keep hb2
            clear vv0 vv1 vv2 vv3 vv4 rr0 rr1 rr2 rr3 rr4 cc0 cc1 cc2 cc3 cc4 oo0 oo1 oo2 oo3 oo4 b0 b1 b2 b3 b4 a0 a1 a2 a3 a4
            obtain ⟨vv0, vv1, vv2, vv3, vv4⟩ := hK2.box.head.two
            obtain ⟨rr0, rr1, rr2, rr3, rr4⟩ := hK2.box.tail.head.two
            obtain ⟨cc0, cc1, cc2, cc3, cc4⟩ := hK2.box.tail.tail.head.two
            obtain ⟨oo0, oo1, oo2, oo3, oo4⟩ := hK2.box.tail.tail.tail.head.two
            obtain ⟨b0, b1, b2, b3, b4⟩ := hK2.box.tail.tail.tail.tail.tail.head.two
            obtain ⟨a0, a1, a2, a3, a4⟩ := hK2.box.tail.tail.tail.tail.tail.tail.head.two
            clear hb1 hb2 hK1 hK H1 H2 H3 H4
            cases z
            · as_aux_lemma =>
                go_wp2_with fail
                go_roundw
                case rel => exact ⟨2 + 1, r0, r1, v0, v1, by omega, rfl, inn_no Hs.out rfl, hK2⟩
                case measure => simp [intOf]
            · cases p
              · as_aux_lemma =>
                  go_wp2_with fail
                  go_roundw
                  case rel => exact ⟨2 + 1, r0, r1, v0, v1, by omega, rfl, inn_no Hs.out rfl, hK2⟩
                  case measure => simp [intOf]
              · cases c0
                · as_aux_lemma =>
                    go_wp2_with fail
                    go_roundw
                    case rel => exact ⟨2 + 1, r0, r1, v0, v1, by omega, rfl, inn_no Hs.out rfl, hK2⟩
                    case measure => simp [intOf]
                · as_aux_lemma =>
                    go_wp2_with fail
                    refine (bitOf_is Hb _).mono ?_
                    rintro e w3 ⟨rfl, rfl⟩
                    cases q1 <;> cases q2
                    all_goals
                      first | rw [bi_t] | rw [bi_f]
                      try first | rw [bi_t] | rw [bi_f]
                      go_wp2_with fail
                      go_roundw
                      case rel => exact ⟨2 + 1, _, _, _, _, by omega, rfl, inn_yes Hs.out rfl rfl rfl rfl Hb.out, (hK2.set1 1 rfl rfl).set1 0 rfl rfl⟩
                      case measure => simp [intOf]
          · as_aux_lemma =>
            obtain ⟨q1, q2, Hb⟩ := bo_ex op true true false
            go_wp2_with fail
            refine (may_any hlt H1 H2 _).mono ?_
            rintro e w1 ⟨rfl, hb1⟩
            have hK1 := hK.keep hb1
            clear vv0 vv1 vv2 vv3 vv4 rr0 rr1 rr2 rr3 rr4 cc0 cc1 cc2 cc3 cc4 oo0 oo1 oo2 oo3 oo4 b0 b1 b2 b3 b4 a0 a1 a2 a3 a4
            obtain ⟨vv0, vv1, vv2, vv3, vv4⟩ := hK1.box.head.two
            obtain ⟨rr0, rr1, rr2, rr3, rr4⟩ := hK1.box.tail.head.two
            obtain ⟨cc0, cc1, cc2, cc3, cc4⟩ := hK1.box.tail.tail.head.two
            obtain ⟨oo0, oo1, oo2, oo3, oo4⟩ := hK1.box.tail.tail.tail.head.two
            obtain ⟨b0, b1, b2, b3, b4⟩ := hK1.box.tail.tail.tail.tail.tail.head.two
            obtain ⟨a0, a1, a2, a3, a4⟩ := hK1.box.tail.tail.tail.tail.tail.tail.head.two
            go_wp2_with fail
            refine (may_any hlt H3 H4 _).mono ?_
            rintro e w2 ⟨rfl, hb2⟩
            have hK2 := hK1.keep hb2
            clear vv0 vv1 vv2 vv3 vv4 rr0 rr1 rr2 rr3 rr4 cc0 cc1 cc2 cc3 cc4 oo0 oo1 oo2 oo3 oo4 b0 b1 b2 b3 b4 a0 a1 a2 a3 a4
            obtain ⟨vv0, vv1, vv2, vv3, vv4⟩ := hK2.box.head.two
            obtain ⟨rr0, rr1, rr2, rr3, rr4⟩ := hK2.box.tail.head.two
            obtain ⟨cc0, cc1, cc2, cc3, cc4⟩ := hK2.box.tail.tail.head.two
            obtain ⟨oo0, oo1, oo2, oo3, oo4⟩ := hK2.box.tail.tail.tail.head.two
            obtain ⟨b0, b1, b2, b3, b4⟩ := hK2.box.tail.tail.tail.tail.tail.head.two
            obtain ⟨a0, a1, a2, a3, a4⟩ := hK2.box.tail.tail.tail.tail.tail.tail.head.two
            clear hb1 hb2 hK1 hK H1 H2 H3 H4
            cases o
            · as_aux_lemma =>
                go_wp2_with fail
                go_roundw
                case rel => exact ⟨3 + 1, r0, r1, v0, v1, by omega, rfl, inn_no Hs.out rfl, hK2⟩
                case measure => simp [intOf]
            · cases p
              · as_aux_lemma =>
                  go_wp2_with fail
                  go_roundw
                  case rel => exact ⟨3 + 1, r0, r1, v0, v1, by omega, rfl, inn_no Hs.out rfl, hK2⟩
                  case measure => simp [intOf]
              · cases c0
                · as_aux_lemma =>
                    go_wp2_with fail
                    go_roundw
                    case rel => exact ⟨3 + 1, r0, r1, v0, v1, by omega, rfl, inn_no Hs.out rfl, hK2⟩
                    case measure => simp [intOf]
                · as_aux_lemma =>
                    go_wp2_with fail
                    refine (bitOf_is Hb _).mono ?_
                    rintro e w3 ⟨rfl, rfl⟩
                    cases q1 <;> cases q2
                    all_goals
                      first | rw [bi_t] | rw [bi_f]
                      try first | rw [bi_t] | rw [bi_f]
                      go_wp2_with fail
                      go_roundw
                      case rel => exact ⟨3 + 1, _, _, _, _, by omega, rfl, inn_yes Hs.out rfl rfl rfl rfl Hb.out, (hK2.set1 1 rfl rfl).set1 0 rfl rfl⟩
                      case measure => simp [intOf]
          · as_aux_lemma =>
            obtain ⟨q1, q2, Hb⟩ := bo_ex op false false true
            go_wp2_with fail
            refine (may_any hlt H1 H2 _).mono ?_
            rintro e w1 ⟨rfl, hb1⟩
            have hK1 := hK.keep hb1
            clear vv0 vv1 vv2 vv3 vv4 rr0 rr1 rr2 rr3 rr4 cc0 cc1 cc2 cc3 cc4 oo0 oo1 oo2 oo3 oo4 b0 b1 b2 b3 b4 a0 a1 a2 a3 a4
            obtain ⟨vv0, vv1, vv2, vv3, vv4⟩ := hK1.box.head.two
            obtain ⟨rr0, rr1, rr2, rr3, rr4⟩ := hK1.box.tail.head.two
            obtain ⟨cc0, cc1, cc2, cc3, cc4⟩ := hK1.box.tail.tail.head.two
            obtain ⟨oo0, oo1, oo2, oo3, oo4⟩ := hK1.box.tail.tail.tail.head.two
            obtain ⟨b0, b1, b2, b3, b4⟩ := hK1.box.tail.tail.tail.tail.tail.head.two
            obtain ⟨a0, a1, a2, a3, a4⟩ := hK1.box.tail.tail.tail.tail.tail.tail.head.two
            go_wp2_with fail
            refine (may_any hlt H3 H4 _).mono ?_
            rintro e w2 ⟨rfl, hb2⟩
            have hK2 := hK1.keep hb2
            clear vv0 vv1 vv2 vv3 vv4 rr0 rr1 rr2 rr3 rr4 cc0 cc1 cc2 cc3 cc4 oo0 oo1 oo2 oo3 oo4 b0 b1 b2 b3 b4 a0 a1 a2 a3 a4
            obtain ⟨vv0, vv1, vv2, vv3, vv4⟩ := hK2.box.head.two
            obtain ⟨rr0, rr1, rr2, rr3, rr4⟩ := hK2.box.tail.head.two
            obtain ⟨cc0, cc1, cc2, cc3, cc4⟩ := hK2.box.tail.tail.head.two
            obtain ⟨oo0, oo1, oo2, oo3, oo4⟩ := hK2.box.tail.tail.tail.head.two
            obtain ⟨b0, b1, b2, b3, b4⟩ := hK2.box.tail.tail.tail.tail.tail.head.two
            obtain ⟨a0, a1, a2, a3, a4⟩ := hK2.box.tail.tail.tail.tail.tail.tail.head.two
            clear hb1 hb2 hK1 hK H1 H2 H3 H4
            cases z
            · as_aux_lemma =>
                go_wp2_with fail
                go_roundw
                case rel => exact ⟨4 + 1, r0, r1, v0, v1, by omega, rfl, inn_no Hs.out rfl, hK2⟩
                case measure => simp [intOf]
            · cases u
              · as_aux_lemma =>
                  go_wp2_with fail
                  go_roundw
                  case rel => exact ⟨4 + 1, r0, r1, v0, v1, by omega, rfl, inn_no Hs.out rfl, hK2⟩
                  case measure => simp [intOf]
              · cases c1
                · as_aux_lemma =>
                    go_wp2_with fail
                    go_roundw
                    case rel => exact ⟨4 + 1, r0, r1, v0, v1, by omega, rfl, inn_no Hs.out rfl, hK2⟩
                    case measure => simp [intOf]
                · as_aux_lemma =>
                    go_wp2_with fail
                    refine (bitOf_is Hb _).mono ?_
                    rintro e w3 ⟨rfl, rfl⟩
                    cases q1 <;> cases q2
                    all_goals
                      first | rw [bi_t] | rw [bi_f]
                      try first | rw [bi_t] | rw [bi_f]
                      go_wp2_with fail
                      go_roundw
                      case rel => exact ⟨4 + 1, _, _, _, _, by omega, rfl, inn_yes Hs.out rfl rfl rfl rfl Hb.out, (hK2.set1 1 rfl rfl).set1 0 rfl rfl⟩
                      case measure => simp [intOf]
          · as_aux_lemma =>
            obtain ⟨q1, q2, Hb⟩ := bo_ex op true false true
            go_wp2_with fail
            refine (may_any hlt H1 H2 _).mono ?_
            rintro e w1 ⟨rfl, hb1⟩
            have hK1 := hK.keep hb1
            clear vv0 vv1 vv2 vv3 vv4 rr0 rr1 rr2 rr3 rr4 cc0 cc1 cc2 cc3 cc4 oo0 oo1 oo2 oo3 oo4 b0 b1 b2 b3 b4 a0 a1 a2 a3 a4
            obtain ⟨vv0, vv1, vv2, vv3, vv4⟩ := hK1.box.head.two
            obtain ⟨rr0, rr1, rr2, rr3, rr4⟩ := hK1.box.tail.head.two
            obtain ⟨cc0, cc1, cc2, cc3, cc4⟩ := hK1.box.tail.tail.head.two
            obtain ⟨oo0, oo1, oo2, oo3, oo4⟩ := hK1.box.tail.tail.tail.head.two
            obtain ⟨b0, b1, b2, b3, b4⟩ := hK1.box.tail.tail.tail.tail.tail.head.two
            obtain ⟨a0, a1, a2, a3, a4⟩ := hK1.box.tail.tail.tail.tail.tail.tail.head.two
            go_wp2_with fail
            refine (may_any hlt H3 H4 _).mono ?_
            rintro e w2 ⟨rfl, hb2⟩
            have hK2 := hK1.keep hb2
            clear vv0 vv1 vv2 vv3 vv4 rr0 rr1 rr2 rr3 rr4 cc0 cc1 cc2 cc3 cc4 oo0 oo1 oo2 oo3 oo4 b0 b1 b2 b3 b4 a0 a1 a2 a3 a4
            obtain ⟨vv0, vv1, vv2, vv3, vv4⟩ := hK2.box.head.two
            obtain ⟨rr0, rr1, rr2, rr3, rr4⟩ := hK2.box.tail.head.two
            obtain ⟨cc0, cc1, cc2, cc3, cc4⟩ := hK2.box.tail.tail.head.two
            obtain ⟨oo0, oo1, oo2, oo3, oo4⟩ := hK2.box.tail.tail.tail.head.two
            obtain ⟨b0, b1, b2, b3, b4⟩ := hK2.box.tail.tail.tail.tail.tail.head.two
            obtain ⟨a0, a1, a2, a3, a4⟩ := hK2.box.tail.tail.tail.tail.tail.tail.head.two
            clear hb1 hb2 hK1 hK H1 H2 H3 H4
            cases o
            · as_aux_lemma =>
                go_wp2_with fail
                go_roundw
                case rel => exact ⟨5 + 1, r0, r1, v0, v1, by omega, rfl, inn_no Hs.out rfl, hK2⟩
                case measure => simp [intOf]
            · cases u
              · as_aux_lemma =>
                  go_wp2_with fail
                  go_roundw
                  case rel => exact ⟨5 + 1, r0, r1, v0, v1, by omega, rfl, inn_no Hs.out rfl, hK2⟩
                  case measure => simp [intOf]
              · cases c1
                · as_aux_lemma =>
                    go_wp2_with fail
                    go_roundw
                    case rel => exact ⟨5 + 1, r0, r1, v0, v1, by omega, rfl, inn_no Hs.out rfl, hK2⟩
                    case measure => simp [intOf]
                · as_aux_lemma =>
                    go_wp2_with fail
                    refine (bitOf_is Hb _).mono ?_
                    rintro e w3 ⟨rfl, rfl⟩
                    cases q1 <;> cases q2
                    all_goals
                      first | rw [bi_t] | rw [bi_f]
                      try first | rw [bi_t] | rw [bi_f]
                      go_wp2_with fail
                      go_roundw
                      case rel => exact ⟨5 + 1, _, _, _, _, by omega, rfl, inn_yes Hs.out rfl rfl rfl rfl Hb.out, (hK2.set1 1 rfl rfl).set1 0 rfl rfl⟩
                      case measure => simp [intOf]
          · as_aux_lemma =>
            obtain ⟨q1, q2, Hb⟩ := bo_ex op false true true
            go_wp2_with fail
            refine (may_any hlt H1 H2 _).mono ?_
            rintro e w1 ⟨rfl, hb1⟩
            have hK1 := hK.keep hb1
            clear vv0 vv1 vv2 vv3 vv4 rr0 rr1 rr2 rr3 rr4 cc0 cc1 cc2 cc3 cc4 oo0 oo1 oo2 oo3 oo4 b0 b1 b2 b3 b4 a0 a1 a2 a3 a4
            obtain ⟨vv0, vv1, vv2, vv3, vv4⟩ := hK1.box.head.two
            obtain ⟨rr0, rr1, rr2, rr3, rr4⟩ := hK1.box.tail.head.two
            obtain ⟨cc0, cc1, cc2, cc3, cc4⟩ := hK1.box.tail.tail.head.two
            obtain ⟨oo0, oo1, oo2, oo3, oo4⟩ := hK1.box.tail.tail.tail.head.two
            obtain ⟨b0, b1, b2, b3, b4⟩ := hK1.box.tail.tail.tail.tail.tail.head.two
            obtain ⟨a0, a1, a2, a3, a4⟩ := hK1.box.tail.tail.tail.tail.tail.tail.head.two
            go_wp2_with fail
            refine (may_any hlt H3 H4 _).mono ?_
            rintro e w2 ⟨rfl, hb2⟩
            have hK2 := hK1.keep hb2
            clear vv0 vv1 vv2 vv3 vv4 rr0 rr1 rr2 rr3 rr4 cc0 cc1 cc2 cc3 cc4 oo0 oo1 oo2 oo3 oo4 b0 b1 b2 b3 b4 a0 a1 a2 a3 a4
            obtain ⟨vv0, vv1, vv2, vv3, vv4⟩ := hK2.box.head.two
            obtain ⟨rr0, rr1, rr2, rr3, rr4⟩ := hK2.box.tail.head.two
            obtain ⟨cc0, cc1, cc2, cc3, cc4⟩ := hK2.box.tail.tail.head.two
            obtain ⟨oo0, oo1, oo2, oo3, oo4⟩ := hK2.box.tail.tail.tail.head.two
            obtain ⟨b0, b1, b2, b3, b4⟩ := hK2.box.tail.tail.tail.tail.tail.head.two
            obtain ⟨a0, a1, a2, a3, a4⟩ := hK2.box.tail.tail.tail.tail.tail.tail.head.two
            clear hb1 hb2 hK1 hK H1 H2 H3 H4
            cases z
            · as_aux_lemma =>
                go_wp2_with fail
                go_roundw
                case rel => exact ⟨6 + 1, r0, r1, v0, v1, by omega, rfl, inn_no Hs.out rfl, hK2⟩
                case measure => simp [intOf]
            · cases p
              · as_aux_lemma =>
                  go_wp2_with fail
                  go_roundw
                  case rel => exact ⟨6 + 1, r0, r1, v0, v1, by omega, rfl, inn_no Hs.out rfl, hK2⟩
                  case measure => simp [intOf]
              · cases c1
                · as_aux_lemma =>
                    go_wp2_with fail
                    go_roundw
                    case rel => exact ⟨6 + 1, r0, r1, v0, v1, by omega, rfl, inn_no Hs.out rfl, hK2⟩
                    case measure => simp [intOf]
                · as_aux_lemma =>
                    go_wp2_with fail
                    refine (bitOf_is Hb _).mono ?_
                    rintro e w3 ⟨rfl, rfl⟩
                    cases q1 <;> cases q2
                    all_goals
                      first | rw [bi_t] | rw [bi_f]
                      try first | rw [bi_t] | rw [bi_f]
                      go_wp2_with fail
                      go_roundw
                      case rel => exact ⟨6 + 1, _, _, _, _, by omega, rfl, inn_yes Hs.out rfl rfl rfl rfl Hb.out, (hK2.set1 1 rfl rfl).set1 0 rfl rfl⟩
                      case measure => simp [intOf]
          · as_aux_lemma =>
            obtain ⟨q1, q2, Hb⟩ := bo_ex op true true true
            go_wp2_with fail
            refine (may_any hlt H1 H2 _).mono ?_
            rintro e w1 ⟨rfl, hb1⟩
            have hK1 := hK.keep hb1
            clear vv0 vv1 vv2 vv3 vv4 rr0 rr1 rr2 rr3 rr4 cc0 cc1 cc2 cc3 cc4 oo0 oo1 oo2 oo3 oo4 b0 b1 b2 b3 b4 a0 a1 a2 a3 a4
            obtain ⟨vv0, vv1, vv2, vv3, vv4⟩ := hK1.box.head.two
            obtain ⟨rr0, rr1, rr2, rr3, rr4⟩ := hK1.box.tail.head.two
            obtain ⟨cc0, cc1, cc2, cc3, cc4⟩ := hK1.box.tail.tail.head.two
            obtain ⟨oo0, oo1, oo2, oo3, oo4⟩ := hK1.box.tail.tail.tail.head.two
            obtain ⟨b0, b1, b2, b3, b4⟩ := hK1.box.tail.tail.tail.tail.tail.head.two
            obtain ⟨a0, a1, a2, a3, a4⟩ := hK1.box.tail.tail.tail.tail.tail.tail.head.two
            go_wp2_with fail
            refine (may_any hlt H3 H4 _).mono ?_
            rintro e w2 ⟨rfl, hb2⟩
            have hK2 := hK1.keep hb2
            clear vv0 vv1 vv2 vv3 vv4 rr0 rr1 rr2 rr3 rr4 cc0 cc1 cc2 cc3 cc4 oo0 oo1 oo2 oo3 oo4 b0 b1 b2 b3 b4 a0 a1 a2 a3 a4
            obtain ⟨vv0, vv1, vv2, vv3, vv4⟩ := hK2.box.head.two
            obtain ⟨rr0, rr1, rr2, rr3, rr4⟩ := hK2.box.tail.head.two
            obtain ⟨cc0, cc1, cc2, cc3, cc4⟩ := hK2.box.tail.tail.head.two
            obtain ⟨oo0, oo1, oo2, oo3, oo4⟩ := hK2.box.tail.tail.tail.head.two
            obtain ⟨b0, b1, b2, b3, b4⟩ := hK2.box.tail.tail.tail.tail.tail.head.two
            obtain ⟨a0, a1, a2, a3, a4⟩ := hK2.box.tail.tail.tail.tail.tail.tail.head.two
            clear hb1 hb2 hK1 hK H1 H2 H3 H4
            cases o
            · as_aux_lemma =>
                go_wp2_with fail
                go_roundw
                case rel => exact ⟨7 + 1, r0, r1, v0, v1, by omega, rfl, inn_no Hs.out rfl, hK2⟩
                case measure => simp [intOf]
            · cases p
              · as_aux_lemma =>
                  go_wp2_with fail
                  go_roundw
                  case rel => exact ⟨7 + 1, r0, r1, v0, v1, by omega, rfl, inn_no Hs.out rfl, hK2⟩
                  case measure => simp [intOf]
              · cases c1
                · as_aux_lemma =>
                    go_wp2_with fail
                    go_roundw
                    case rel => exact ⟨7 + 1, r0, r1, v0, v1, by omega, rfl, inn_no Hs.out rfl, hK2⟩
                    case measure => simp [intOf]
                · as_aux_lemma =>
                    go_wp2_with fail
                    refine (bitOf_is Hb _).mono ?_
                    rintro e w3 ⟨rfl, rfl⟩
                    cases q1 <;> cases q2
                    all_goals
                      first | rw [bi_t] | rw [bi_f]
                      try first | rw [bi_t] | rw [bi_f]
                      go_wp2_with fail
                      go_roundw
                      case rel => exact ⟨7 + 1, _, _, _, _, by omega, rfl, inn_yes Hs.out rfl rfl rfl rfl Hb.out, (hK2.set1 1 rfl rfl).set1 0 rfl rfl⟩
                      case measure => simp [intOf]
        · have e8 : k = 8 := by omega
          subst e8
          go_wp2_with fail
          refine (put_any _ _ i hlt _ _ _).mono ?_
          rintro e w1 ⟨rfl, hb1⟩
          have hK1 := hK.keep hb1
          clear vv0 vv1 vv2 vv3 vv4 rr0 rr1 rr2 rr3 rr4 cc0 cc1 cc2 cc3 cc4 oo0 oo1 oo2 oo3 oo4 b0 b1 b2 b3 b4 a0 a1 a2 a3 a4
          obtain ⟨vv0, vv1, vv2, vv3, vv4⟩ := hK1.box.head.two
          obtain ⟨rr0, rr1, rr2, rr3, rr4⟩ := hK1.box.tail.head.two
          obtain ⟨cc0, cc1, cc2, cc3, cc4⟩ := hK1.box.tail.tail.head.two
          obtain ⟨oo0, oo1, oo2, oo3, oo4⟩ := hK1.box.tail.tail.tail.head.two
          obtain ⟨b0, b1, b2, b3, b4⟩ := hK1.box.tail.tail.tail.tail.tail.head.two
          obtain ⟨a0, a1, a2, a3, a4⟩ := hK1.box.tail.tail.tail.tail.tail.tail.head.two
          have hK2 := hK1.set2 (x := U (putV V i r0 r1)) (y := U (putM M i r0 r1)) 3 rfl
          obtain ⟨vvv0, vvv1, vvv2, vvv3, vvv4⟩ := hK2.box.head.two
          obtain ⟨ccc0, ccc1, ccc2, ccc3, ccc4⟩ := hK2.box.tail.tail.head.two
          go_wp2_with fail
          have hS : inn op (mz av i) (mo av am i) (mz bv i) (mo bv bm i) (twoC op av am bv bm i).1 (twoC op av am bv bm i).2 8 = ((r0, r1), (v0, v1)) := by
            rw [← H1.out, ← H2.out, ← H3.out, ← H4.out, HC.out]; exact Hs.out
          have hR1 : twoR op av am bv bm i = (r0, r1) := by unfold twoR; rw [hS]
          exact ⟨⟨i + 1, v0, v1, _, _, by omega, by go_num, by show (inn op (mz av i) (mo av am i) (mz bv i) (mo bv bm i) (twoC op av am bv bm i).1 (twoC op av am bv bm i).2 8).2 = _; rw [hS],
            by rw [← twoV_succ, hR1, HV.out], by rw [← twoM_succ, hR1, HM.out], ⟨((hK2.set2 (x := .bool v0) (y := .bool v1) 2 rfl)).bel, ((hK2.set2 (x := .bool v0) (y := .bool v1) 2 rfl)).box.tail.tail, fun q hq => ((hK2.set2 (x := .bool v0) (y := .bool v1) 2 rfl)).lo q (List.mem_cons_of_mem _ (List.mem_cons_of_mem _ hq))⟩⟩, by simp [intOf]; omega⟩
    · have e64 : i = 64 := by omega
      subst e64
      obtain ⟨cc0, cc1, cc2, cc3, cc4⟩ := hK.box.head.two
      obtain ⟨oo0, oo1, oo2, oo3, oo4⟩ := hK.box.tail.head.two
      obtain ⟨zz0, zz1, zz2, zz3, zz4⟩ := hK.box.tail.tail.head.two
      obtain ⟨b0, b1, b2, b3, b4⟩ := hK.box.tail.tail.tail.head.two
      obtain ⟨a0, a1, a2, a3, a4⟩ := hK.box.tail.tail.tail.tail.head.two
      go_wp2_with fail
      rw [← HV.out, ← HM.out] at *
      exact bodyPost_ret (v := Bt (twoV op av am bv bm 64) (twoM op av am bv bm 64)) (by simp [results, Try.results81, go_sem, zz0, zz1]) rfl ⟨rfl, (hK.set2 (x := _) (y := _) 2 rfl).bel⟩

end Go.Proofs.Ytglollajdjgciaa
