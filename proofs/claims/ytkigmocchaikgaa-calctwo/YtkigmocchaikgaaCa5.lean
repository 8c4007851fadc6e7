import Derived.Test.YtkigmocchaikgaaCa4
import Derived.Test.YtkigmocchaikgaaCa2
import Derived.Test.YtkigmocchaikgaaCa3
import Derived.Test.YtkigmocchaikgaaProg
import Derived.BigQuiet
import Derived.Deep.RegionWith
/- The contracts of the functions that Less and Other hand to leave. (Written by gen_w28.py.) -/
namespace Go.Proofs.Ytkigmocchaikgaa
open Go.RowKit
attribute [local go_sem] w_and w_or w_xor w_andNot w_and1 w_and63 w_add w_sub w_mul w_sub1 w_add1 w_shl w_shl1 w_shr c_beq c_bne c_beq0 c_bne0 c_beq1 c_bne1 wrap_nv
theorem c_beqT (x : BitVec 64) : (nv x == 18446744073709551615) = eqb x top := by rw [← nv_top]; exact c_beq x top
attribute [local go_sem] c_beqT

set_option maxRecDepth 100000 in
set_option maxHeartbeats 4000000 in
theorem less1_no {b1 b2 : Nat} {v m l g v' m' l' g' : BitVec 64} {w : World} (hc : Hid (Cap w b1 b2 v' m' l' g' v m l g)) (hn : Hid ((eqb g' zero || eqb l top) = true)) :
    Calls Try.prog 96 #[PT b1, PT b2] w fun e w' => e = .returned (.tuple #[Vl v m l g, Vl v' m' l' g', .bool false]) ∧ Below w.heap.size w w' := by
  obtain ⟨s1, s2, a0, a1, a2, a3, c0, c1, c2, c3⟩ := hc.out
  have hK0 := ((Kp.start w).add4 (.int .u64 0) (.int .u64 0) (.int .u64 0) (.int .u64 0) 49).add4 (.int .u64 0) (.int .u64 0) (.int .u64 0) (.int .u64 0) 49
  simp only [World.size_alloc] at hK0
  obtain ⟨t0, t1, t2, t3, t4, t5, t6, t7, t8⟩ := hK0.box.head.four
  obtain ⟨r0, r1, r2, r3, r4, r5, r6, r7, r8⟩ := hK0.box.tail.head.four
  have n1 : b1 ≠ w.heap.size := by omega
  have n2 : b2 ≠ w.heap.size := by omega
  have n3 : w.heap.size ≠ b1 := by omega
  have n4 : w.heap.size ≠ b2 := by omega
  have n5 : b1 ≠ w.heap.size + 1 := by omega
  have n6 : b2 ≠ w.heap.size + 1 := by omega
  have n7 : w.heap.size + 1 ≠ b1 := by omega
  have n8 : w.heap.size + 1 ≠ b2 := by omega
  cases z1 : eqb g' zero
  · have z2 : eqb l top = true := by have := hn.out; rw [z1] at this; simpa using this
    go_enter Try.func96, Try.ntmps96
    go_wp2_with fail
    go_region
    all_goals
      go_wp2_with fail
      refine bodyPost_ret (v := .tuple #[Vl v m l g, Vl v' m' l' g', .bool false]) ?_ rfl ⟨rfl, ?_⟩
      · simp [results, Try.results96, go_sem]
      · exact (by repeat (first | exact Below.refl _ _ | assumption | refine below_drewN ?_ _ | refine Below.drew ?_ | refine Below.alloc ?_ (by first | exact Nat.le_refl _ | (simp; done) | (simp; omega) | omega) _ | refine Below.setCell ?_ (by first | exact Nat.le_refl _ | (simp; done) | (simp; omega) | omega) _ | refine Below.trans ?_ (Below.mono (by assumption) (by first | exact Nat.le_refl _ | (simp; done) | (simp; omega) | omega))))
  · go_enter Try.func96, Try.ntmps96
    go_wp2_with fail
    go_region
    all_goals
      go_wp2_with fail
      refine bodyPost_ret (v := .tuple #[Vl v m l g, Vl v' m' l' g', .bool false]) ?_ rfl ⟨rfl, ?_⟩
      · simp [results, Try.results96, go_sem]
      · exact (by repeat (first | exact Below.refl _ _ | assumption | refine below_drewN ?_ _ | refine Below.drew ?_ | refine Below.alloc ?_ (by first | exact Nat.le_refl _ | (simp; done) | (simp; omega) | omega) _ | refine Below.setCell ?_ (by first | exact Nat.le_refl _ | (simp; done) | (simp; omega) | omega) _ | refine Below.trans ?_ (Below.mono (by assumption) (by first | exact Nat.le_refl _ | (simp; done) | (simp; omega) | omega))))
set_option maxRecDepth 100000 in
set_option maxHeartbeats 4000000 in
theorem less1_yes {b1 b2 : Nat} {v m l g v' m' l' g' : BitVec 64} {w : World} (hc : Hid (Cap w b1 b2 v' m' l' g' v m l g)) (z1 : eqb g' zero = false) (z2 : eqb l top = false) :
    Calls Try.prog 96 #[PT b1, PT b2] w fun e w' => e = .returned (.tuple #[Vl v m (bmax l l) (bmin g (bsub g' one)), Vl v' m' (bmax l' (badd l one)) (bmin g' g'), .bool true]) ∧ Below w.heap.size w w' := by
  obtain ⟨s1, s2, a0, a1, a2, a3, c0, c1, c2, c3⟩ := hc.out
  have hK0 := ((Kp.start w).add4 (.int .u64 0) (.int .u64 0) (.int .u64 0) (.int .u64 0) 49).add4 (.int .u64 0) (.int .u64 0) (.int .u64 0) (.int .u64 0) 49
  simp only [World.size_alloc] at hK0
  go_enter Try.func96, Try.ntmps96
  go_wp2_with fail
  go_quiet (fail)
  go_wp2_with fail
  have hS0 : Kp w _ [] := (hK0.drew nq).drop'.drop'.keep (Below.drew (Below.refl _ _))
  have hR0 := (hK0.drew nq).keep (Below.drew (Below.refl _ _))
  have HS : Hid (∀ w', Kp w w' [] → Kp w w' [] ∧ w'.cell? ⟨b1, 0, none⟩ = some (U v') ∧ w'.cell? ⟨b1, 1, none⟩ = some (U m') ∧ w'.cell? ⟨b1, 2, none⟩ = some (U l') ∧ w'.cell? ⟨b1, 3, none⟩ = some (U g') ∧ w'.cell? ⟨b2, 0, none⟩ = some (U v) ∧ w'.cell? ⟨b2, 1, none⟩ = some (U m) ∧ w'.cell? ⟨b2, 2, none⟩ = some (U l) ∧ w'.cell? ⟨b2, 3, none⟩ = some (U g)) := by
    intro w' hk
    obtain ⟨_, _, d0, d1, d2, d3, f0, f1, f2, f3⟩ := hc.out.keep hk.bel
    exact ⟨hk, d0, d1, d2, d3, f0, f1, f2, f3⟩
  go_region_held3 (fun w' => Kp w w' [] ∧ w'.cell? ⟨b1, 0, none⟩ = some (U v') ∧ w'.cell? ⟨b1, 1, none⟩ = some (U m') ∧ w'.cell? ⟨b1, 2, none⟩ = some (U l') ∧ w'.cell? ⟨b1, 3, none⟩ = some (U g') ∧ w'.cell? ⟨b2, 0, none⟩ = some (U v) ∧ w'.cell? ⟨b2, 1, none⟩ = some (U m) ∧ w'.cell? ⟨b2, 2, none⟩ = some (U l) ∧ w'.cell? ⟨b2, 3, none⟩ = some (U g))
    ((refine HS.out _ ?_; repeat (first | refine Kp.other4 ?_ _ _ _ _ (by first | exact Nat.le_refl _ | omega) (by simp) | exact hS0 | refine Kp.keep ?_ (by assumption) | refine Kp.keep ?_ (Below.drew (Below.refl _ _)))))
    (first
      | (go_at_call 97; refine (between_any _ _ _ _ _ _ _).mono ?_; rintro e wk ⟨rfl, hb⟩; first | (have hR2 := hR1.keep hb; obtain ⟨t0, t1, t2, t3, t4, t5, t6, t7, t8⟩ := hR2.box.head.four; obtain ⟨r0, r1, r2, r3, r4, r5, r6, r7, r8⟩ := hR2.box.tail.head.four) | (have hR1 := hR0.keep hb)))
  all_goals
    go_wp2_with fail
    refine bodyPost_ret (v := .tuple #[Vl v m (bmax l l) (bmin g (bsub g' one)), Vl v' m' (bmax l' (badd l one)) (bmin g' g'), .bool true]) ?_ rfl ⟨rfl, ?_⟩
    · simp [results, Try.results96, go_sem, t0, t1, t2, t3, r0, r1, r2, r3]
    · exact ((hR2.set4 1 rfl).set4 0 rfl).bel

set_option maxRecDepth 100000 in
set_option maxHeartbeats 4000000 in
theorem other1_is {b1 b2 : Nat} {v m l g v' m' l' g' : BitVec 64} {w : World} {q : Bool} (hc : Hid (Cap w b1 b2 v m l g v' m' l' g')) (hq : Hid (q = (eqb l g && (eqb l' g' && eqb l l')))) :
    Calls Try.prog 93 #[PT b1, PT b2] w fun e w' => e = .returned (.tuple #[Vl v m (woL l l' g') (woH l g l' g'), Vl v' m' (woL l' l g) (woH l' g' l g), .bool (!q)]) ∧ Below w.heap.size w w' := by
  obtain ⟨s1, s2, a0, a1, a2, a3, c0, c1, c2, c3⟩ := hc.out
  obtain ⟨y1, Y1⟩ : ∃ b, Hid (eqb l g = b) := ⟨_, rfl⟩
  obtain ⟨y2, Y2⟩ : ∃ b, Hid (eqb l' g' = b) := ⟨_, rfl⟩
  obtain ⟨y3, Y3⟩ : ∃ b, eqb l l' = b := ⟨_, rfl⟩
  rw [Y1.out, Y2.out, Y3] at hq
  have hK0 := ((Kp.start w).add4 (.int .u64 0) (.int .u64 0) (.int .u64 0) (.int .u64 0) 49).add4 (.int .u64 0) (.int .u64 0) (.int .u64 0) (.int .u64 0) 49
  simp only [World.size_alloc] at hK0
  go_enter Try.func93, Try.ntmps93
  go_upto_region 1 with fail
  go_cut [5] (fun u wc => u = .bool q ∧ Kp w wc [(w.heap.size + 1, [.int .u64 0, .int .u64 0, .int .u64 0, .int .u64 0]), (w.heap.size, [.int .u64 0, .int .u64 0, .int .u64 0, .int .u64 0])])
  case first =>
    go_wp2_with fail
    refine (alone_is Y1.out _).mono ?_
    rintro e w1 ⟨rfl, hb1⟩
    have hK1 := hK0.keep hb1
    clear s1 s2 a0 a1 a2 a3 c0 c1 c2 c3
    obtain ⟨s1, s2, a0, a1, a2, a3, c0, c1, c2, c3⟩ := hc.out.keep hK1.bel
    cases y1
    · go_wp2_with fail
      go_meet
      case rel => exact ⟨by rw [hq.out]; rfl, hK1⟩
    · go_wp2_with fail
      refine (alone_is Y2.out _).mono ?_
      rintro e w2 ⟨rfl, hb2⟩
      have hK2 := hK1.keep hb2
      clear s1 s2 a0 a1 a2 a3 c0 c1 c2 c3
      obtain ⟨s1, s2, a0, a1, a2, a3, c0, c1, c2, c3⟩ := hc.out.keep hK2.bel
      cases y2
      · go_wp2_with fail
        go_meet
        case rel => exact ⟨by rw [hq.out]; rfl, hK2⟩
      · cases y3
        all_goals
          go_wp2_with fail
          go_meet
          case rel => exact ⟨by rw [hq.out]; rfl, hK2⟩
  case rest =>
    clear hK0 hq Y1 Y2 Y3 s1 s2 a0 a1 a2 a3 c0 c1 c2 c3
    obtain ⟨rfl, hK0⟩ := hcut
    obtain ⟨s1, s2, a0, a1, a2, a3, c0, c1, c2, c3⟩ := hc.out.keep hK0.bel
    go_wp2_with fail
    have hS0 : Kp w _ [] := (hK0).drop'.drop'.keep (Below.drew (Below.refl _ _))
    have hR0 := (hK0).keep (Below.drew (Below.refl _ _))
    have HS : Hid (∀ w', Kp w w' [] → Kp w w' [] ∧ w'.cell? ⟨b1, 0, none⟩ = some (U v) ∧ w'.cell? ⟨b1, 1, none⟩ = some (U m) ∧ w'.cell? ⟨b1, 2, none⟩ = some (U l) ∧ w'.cell? ⟨b1, 3, none⟩ = some (U g) ∧ w'.cell? ⟨b2, 0, none⟩ = some (U v') ∧ w'.cell? ⟨b2, 1, none⟩ = some (U m') ∧ w'.cell? ⟨b2, 2, none⟩ = some (U l') ∧ w'.cell? ⟨b2, 3, none⟩ = some (U g')) := by
      intro w' hk
      obtain ⟨_, _, d0, d1, d2, d3, f0, f1, f2, f3⟩ := hc.out.keep hk.bel
      exact ⟨hk, d0, d1, d2, d3, f0, f1, f2, f3⟩
    go_region_held3 (fun w' => Kp w w' [] ∧ w'.cell? ⟨b1, 0, none⟩ = some (U v) ∧ w'.cell? ⟨b1, 1, none⟩ = some (U m) ∧ w'.cell? ⟨b1, 2, none⟩ = some (U l) ∧ w'.cell? ⟨b1, 3, none⟩ = some (U g) ∧ w'.cell? ⟨b2, 0, none⟩ = some (U v') ∧ w'.cell? ⟨b2, 1, none⟩ = some (U m') ∧ w'.cell? ⟨b2, 2, none⟩ = some (U l') ∧ w'.cell? ⟨b2, 3, none⟩ = some (U g'))
      ((refine HS.out _ ?_; repeat (first | refine Kp.other4 ?_ _ _ _ _ (by first | exact Nat.le_refl _ | omega) (by simp) | exact hS0 | refine Kp.keep ?_ (by assumption) | refine Kp.keep ?_ (Below.drew (Below.refl _ _)))))
      (first
        | (go_at_call 95; refine (without_is _ _ _ _ _ _ _ _ _).mono ?_; rintro e wk ⟨rfl, hb⟩; first | (have hR2 := hR1.keep hb; obtain ⟨t0, t1, t2, t3, t4, t5, t6, t7, t8⟩ := hR2.box.head.four; obtain ⟨r0, r1, r2, r3, r4, r5, r6, r7, r8⟩ := hR2.box.tail.head.four) | (have hR1 := hR0.keep hb)))
    all_goals
      go_wp2_with fail
      refine bodyPost_ret (v := .tuple #[Vl v m (woL l l' g') (woH l g l' g'), Vl v' m' (woL l' l g) (woH l' g' l g), .bool (!q)]) ?_ rfl ⟨rfl, ?_⟩
      · simp [results, Try.results93, go_sem, t0, t1, t2, t3, r0, r1, r2, r3]
      · exact ((hR2.set4 1 rfl).set4 0 rfl).bel

end Go.Proofs.Ytkigmocchaikgaa

/- The contracts of package calc's Equal, Other, Less and NotLess, over what leave is handed. (Written by gen_w29.py.) -/
namespace Go.Proofs.Ytkigmocchaikgaa
open Go.RowKit
attribute [local go_sem] w_and w_or w_xor w_andNot w_and1 w_and63 w_add w_sub w_mul w_sub1 w_add1 w_shl w_shl1 w_shr c_beq c_bne c_beq0 c_bne0 c_beq1 c_bne1 wrap_nv

set_option maxRecDepth 100000 in
set_option maxHeartbeats 4000000 in
theorem calcEqual_wrong {v m l g v' m' l' g' : BitVec 64} (hr : Hid ((valB v m l g && valB v' m' l' g') = false)) (w : World) :
    Calls Try.prog 51 #[Vl v m l g, Vl v' m' l' g'] w fun e w' => e = .returned (.tuple #[V0, V0, .bool false, N 1]) ∧ Below w.heap.size w w' := by
  go_enter Try.func51, Try.ntmps51
  go_wp2_with fail
  refine (leave_wrongEqual hr _).mono ?_
  rintro e w1 ⟨rfl, hb1⟩
  have hK := (((((Kp.start w).add4 _ _ _ _ _).add4 _ _ _ _ _).add4 _ _ _ _ _).add4 _ _ _ _ _).keep hb1
  simp only [World.size_alloc] at hK
  obtain ⟨s0, s1, s2, s3, s4, s5, s6, s7, s8⟩ := hK.box.head.four
  obtain ⟨r0, r1, r2, r3, r4, r5, r6, r7, r8⟩ := hK.box.tail.head.four
  obtain ⟨b0, b1, b2, b3, b4, b5, b6, b7, b8⟩ := hK.box.tail.tail.head.four
  obtain ⟨a0, a1, a2, a3, a4, a5, a6, a7, a8⟩ := hK.box.tail.tail.tail.head.four
  go_wp2_with fail
  exact bodyPost_ret (v := .tuple #[V0, V0, .bool false, N 1]) (by simp [results, Try.results51, go_sem, s0, s1, s2, s3, r0, r1, r2, r3]) rfl ⟨rfl, ((hK.set4 1 rfl).set4 0 rfl).bel⟩
set_option maxRecDepth 100000 in
set_option maxHeartbeats 4000000 in
theorem calcEqual_right {v m l g v' m' l' g' a b c d a' b' c' d' x y z t x' y' z' t' : BitVec 64} {may i1 i2 : Bool} {e1 e2 : Int} (hr : Hid ((valB v m l g && valB v' m' l' g') = true)) (w : World)
    (HR : Hid (∀ (B : Nat) w', Cap w' B (B + 1) v m l g v' m' l' g' → Calls Try.prog 92 #[PT B, PT (B + 1)] w' fun e w'' => e = .returned (.tuple #[Vl a b c d, Vl a' b' c' d', .bool may]) ∧ Below w'.heap.size w' w''))
    (N1 : Hid (∀ w, Calls Try.prog 31 #[Vl a b c d] w fun e w' => e = .returned (.tuple #[Vl x y z t, .bool i1, N e1]) ∧ Below w.heap.size w w'))
    (N2 : Hid (∀ w, Calls Try.prog 31 #[Vl a' b' c' d'] w fun e w' => e = .returned (.tuple #[Vl x' y' z' t', .bool i2, N e2]) ∧ Below w.heap.size w w')) :
    Calls Try.prog 51 #[Vl v m l g, Vl v' m' l' g'] w fun e w' => e = .returned (.tuple #[lv (may && (i1 && i2)) (Vl x y z t), lv (may && (i1 && i2)) (Vl x' y' z' t'), .bool (may && (i1 && i2)), N 0]) ∧ Below w.heap.size w w' := by
  have hK0 := ((((Kp.start w).add4 (U v) (U m) (U l) (U g) 49).add4 (U v') (U m') (U l') (U g') 49).add4 (.int .u64 0) (.int .u64 0) (.int .u64 0) (.int .u64 0) 49).add4 (.int .u64 0) (.int .u64 0) (.int .u64 0) (.int .u64 0) 49
  simp only [World.size_alloc] at hK0
  have HC : Hid (∀ w', Below ((((w.alloc (.cells #[U v, U m, U l, U g] 49)).alloc (.cells #[U v', U m', U l', U g'] 49)).alloc (.cells #[.int .u64 0, .int .u64 0, .int .u64 0, .int .u64 0] 49)).alloc (.cells #[.int .u64 0, .int .u64 0, .int .u64 0, .int .u64 0] 49)).heap.size ((((w.alloc (.cells #[U v, U m, U l, U g] 49)).alloc (.cells #[U v', U m', U l', U g'] 49)).alloc (.cells #[.int .u64 0, .int .u64 0, .int .u64 0, .int .u64 0] 49)).alloc (.cells #[.int .u64 0, .int .u64 0, .int .u64 0, .int .u64 0] 49)) w' → Cap w' w.heap.size (w.heap.size + 1) v m l g v' m' l' g') := by
    intro w' hb
    have hk := hK0.keep hb
    obtain ⟨b0, b1, b2, b3, _, _, _, _, b8⟩ := hk.box.tail.tail.head.four
    obtain ⟨a0, a1, a2, a3, _, _, _, _, a8⟩ := hk.box.tail.tail.tail.head.four
    exact ⟨a8, b8, a0, a1, a2, a3, b0, b1, b2, b3⟩
  obtain ⟨q, hq⟩ : ∃ q, Hid (q = (may && (i1 && i2))) := ⟨_, rfl⟩
  have HL : Hid (Calls Try.prog 91 #[Vl v m l g, Vl v' m' l' g', .func (.func 92) #[] #[PT w.heap.size, PT (w.heap.size + 1)]] ((((w.alloc (.cells #[U v, U m, U l, U g] 49)).alloc (.cells #[U v', U m', U l', U g'] 49)).alloc (.cells #[.int .u64 0, .int .u64 0, .int .u64 0, .int .u64 0] 49)).alloc (.cells #[.int .u64 0, .int .u64 0, .int .u64 0, .int .u64 0] 49)) fun e w' => e = .returned (.tuple #[lv q (Vl x y z t), lv q (Vl x' y' z' t'), .bool q, N 0]) ∧ Below ((((w.alloc (.cells #[U v, U m, U l, U g] 49)).alloc (.cells #[U v', U m', U l', U g'] 49)).alloc (.cells #[.int .u64 0, .int .u64 0, .int .u64 0, .int .u64 0] 49)).alloc (.cells #[.int .u64 0, .int .u64 0, .int .u64 0, .int .u64 0] 49)).heap.size ((((w.alloc (.cells #[U v, U m, U l, U g] 49)).alloc (.cells #[U v', U m', U l', U g'] 49)).alloc (.cells #[.int .u64 0, .int .u64 0, .int .u64 0, .int .u64 0] 49)).alloc (.cells #[.int .u64 0, .int .u64 0, .int .u64 0, .int .u64 0] 49)) w') := by
    show Calls _ _ _ _ _
    rw [hq.out]
    exact leave_Equal hr _ (hid (fun w' hb => HR.out w.heap.size w' (HC.out w' hb))) N1 N2
  rw [← hq.out]
  clear hq N1 N2 HR HC hr
  go_enter Try.func51, Try.ntmps51
  go_wp2_with fail
  refine HL.out.mono ?_
  rintro e w1 ⟨rfl, hb1⟩
  have hK := hK0.keep hb1
  clear HL
  obtain ⟨s0, s1, s2, s3, s4, s5, s6, s7, s8⟩ := hK.box.head.four
  obtain ⟨r0, r1, r2, r3, r4, r5, r6, r7, r8⟩ := hK.box.tail.head.four
  obtain ⟨b0, b1, b2, b3, b4, b5, b6, b7, b8⟩ := hK.box.tail.tail.head.four
  obtain ⟨a0, a1, a2, a3, a4, a5, a6, a7, a8⟩ := hK.box.tail.tail.tail.head.four
  cases q
  · have e0 : ∀ a, lv false a = V0 := fun a => rfl
    simp only [e0]
    go_wp2_with fail
    exact bodyPost_ret (v := .tuple #[V0, V0, .bool false, N 0]) (by simp [results, Try.results51, go_sem, s0, s1, s2, s3, r0, r1, r2, r3]) rfl ⟨rfl, ((hK.set4 1 rfl).set4 0 rfl).bel⟩
  · have e0 : ∀ a, lv true a = a := fun a => rfl
    simp only [e0]
    go_wp2_with fail
    exact bodyPost_ret (v := .tuple #[Vl x y z t, Vl x' y' z' t', .bool true, N 0]) (by simp [results, Try.results51, go_sem, s0, s1, s2, s3, r0, r1, r2, r3]) rfl ⟨rfl, ((hK.set4 1 rfl).set4 0 rfl).bel⟩

set_option maxRecDepth 100000 in
set_option maxHeartbeats 4000000 in
theorem calcOther_wrong {v m l g v' m' l' g' : BitVec 64} (hr : Hid ((valB v m l g && valB v' m' l' g') = false)) (w : World) :
    Calls Try.prog 52 #[Vl v m l g, Vl v' m' l' g'] w fun e w' => e = .returned (.tuple #[V0, V0, .bool false, N 1]) ∧ Below w.heap.size w w' := by
  go_enter Try.func52, Try.ntmps52
  go_wp2_with fail
  refine (leave_wrongOther hr _).mono ?_
  rintro e w1 ⟨rfl, hb1⟩
  have hK := (((((Kp.start w).add4 _ _ _ _ _).add4 _ _ _ _ _).add4 _ _ _ _ _).add4 _ _ _ _ _).keep hb1
  simp only [World.size_alloc] at hK
  obtain ⟨s0, s1, s2, s3, s4, s5, s6, s7, s8⟩ := hK.box.head.four
  obtain ⟨r0, r1, r2, r3, r4, r5, r6, r7, r8⟩ := hK.box.tail.head.four
  obtain ⟨b0, b1, b2, b3, b4, b5, b6, b7, b8⟩ := hK.box.tail.tail.head.four
  obtain ⟨a0, a1, a2, a3, a4, a5, a6, a7, a8⟩ := hK.box.tail.tail.tail.head.four
  go_wp2_with fail
  exact bodyPost_ret (v := .tuple #[V0, V0, .bool false, N 1]) (by simp [results, Try.results52, go_sem, s0, s1, s2, s3, r0, r1, r2, r3]) rfl ⟨rfl, ((hK.set4 1 rfl).set4 0 rfl).bel⟩
set_option maxRecDepth 100000 in
set_option maxHeartbeats 4000000 in
theorem calcOther_right {v m l g v' m' l' g' a b c d a' b' c' d' x y z t x' y' z' t' : BitVec 64} {may i1 i2 : Bool} {e1 e2 : Int} (hr : Hid ((valB v m l g && valB v' m' l' g') = true)) (w : World)
    (HR : Hid (∀ (B : Nat) w', Cap w' B (B + 1) v m l g v' m' l' g' → Calls Try.prog 93 #[PT B, PT (B + 1)] w' fun e w'' => e = .returned (.tuple #[Vl a b c d, Vl a' b' c' d', .bool may]) ∧ Below w'.heap.size w' w''))
    (N1 : Hid (∀ w, Calls Try.prog 31 #[Vl a b c d] w fun e w' => e = .returned (.tuple #[Vl x y z t, .bool i1, N e1]) ∧ Below w.heap.size w w'))
    (N2 : Hid (∀ w, Calls Try.prog 31 #[Vl a' b' c' d'] w fun e w' => e = .returned (.tuple #[Vl x' y' z' t', .bool i2, N e2]) ∧ Below w.heap.size w w')) :
    Calls Try.prog 52 #[Vl v m l g, Vl v' m' l' g'] w fun e w' => e = .returned (.tuple #[lv (may && (i1 && i2)) (Vl x y z t), lv (may && (i1 && i2)) (Vl x' y' z' t'), .bool (may && (i1 && i2)), N 0]) ∧ Below w.heap.size w w' := by
  have hK0 := ((((Kp.start w).add4 (U v) (U m) (U l) (U g) 49).add4 (U v') (U m') (U l') (U g') 49).add4 (.int .u64 0) (.int .u64 0) (.int .u64 0) (.int .u64 0) 49).add4 (.int .u64 0) (.int .u64 0) (.int .u64 0) (.int .u64 0) 49
  simp only [World.size_alloc] at hK0
  have HC : Hid (∀ w', Below ((((w.alloc (.cells #[U v, U m, U l, U g] 49)).alloc (.cells #[U v', U m', U l', U g'] 49)).alloc (.cells #[.int .u64 0, .int .u64 0, .int .u64 0, .int .u64 0] 49)).alloc (.cells #[.int .u64 0, .int .u64 0, .int .u64 0, .int .u64 0] 49)).heap.size ((((w.alloc (.cells #[U v, U m, U l, U g] 49)).alloc (.cells #[U v', U m', U l', U g'] 49)).alloc (.cells #[.int .u64 0, .int .u64 0, .int .u64 0, .int .u64 0] 49)).alloc (.cells #[.int .u64 0, .int .u64 0, .int .u64 0, .int .u64 0] 49)) w' → Cap w' w.heap.size (w.heap.size + 1) v m l g v' m' l' g') := by
    intro w' hb
    have hk := hK0.keep hb
    obtain ⟨b0, b1, b2, b3, _, _, _, _, b8⟩ := hk.box.tail.tail.head.four
    obtain ⟨a0, a1, a2, a3, _, _, _, _, a8⟩ := hk.box.tail.tail.tail.head.four
    exact ⟨a8, b8, a0, a1, a2, a3, b0, b1, b2, b3⟩
  obtain ⟨q, hq⟩ : ∃ q, Hid (q = (may && (i1 && i2))) := ⟨_, rfl⟩
  have HL : Hid (Calls Try.prog 91 #[Vl v m l g, Vl v' m' l' g', .func (.func 93) #[] #[PT w.heap.size, PT (w.heap.size + 1)]] ((((w.alloc (.cells #[U v, U m, U l, U g] 49)).alloc (.cells #[U v', U m', U l', U g'] 49)).alloc (.cells #[.int .u64 0, .int .u64 0, .int .u64 0, .int .u64 0] 49)).alloc (.cells #[.int .u64 0, .int .u64 0, .int .u64 0, .int .u64 0] 49)) fun e w' => e = .returned (.tuple #[lv q (Vl x y z t), lv q (Vl x' y' z' t'), .bool q, N 0]) ∧ Below ((((w.alloc (.cells #[U v, U m, U l, U g] 49)).alloc (.cells #[U v', U m', U l', U g'] 49)).alloc (.cells #[.int .u64 0, .int .u64 0, .int .u64 0, .int .u64 0] 49)).alloc (.cells #[.int .u64 0, .int .u64 0, .int .u64 0, .int .u64 0] 49)).heap.size ((((w.alloc (.cells #[U v, U m, U l, U g] 49)).alloc (.cells #[U v', U m', U l', U g'] 49)).alloc (.cells #[.int .u64 0, .int .u64 0, .int .u64 0, .int .u64 0] 49)).alloc (.cells #[.int .u64 0, .int .u64 0, .int .u64 0, .int .u64 0] 49)) w') := by
    show Calls _ _ _ _ _
    rw [hq.out]
    exact leave_Other hr _ (hid (fun w' hb => HR.out w.heap.size w' (HC.out w' hb))) N1 N2
  rw [← hq.out]
  clear hq N1 N2 HR HC hr
  go_enter Try.func52, Try.ntmps52
  go_wp2_with fail
  refine HL.out.mono ?_
  rintro e w1 ⟨rfl, hb1⟩
  have hK := hK0.keep hb1
  clear HL
  obtain ⟨s0, s1, s2, s3, s4, s5, s6, s7, s8⟩ := hK.box.head.four
  obtain ⟨r0, r1, r2, r3, r4, r5, r6, r7, r8⟩ := hK.box.tail.head.four
  obtain ⟨b0, b1, b2, b3, b4, b5, b6, b7, b8⟩ := hK.box.tail.tail.head.four
  obtain ⟨a0, a1, a2, a3, a4, a5, a6, a7, a8⟩ := hK.box.tail.tail.tail.head.four
  cases q
  · have e0 : ∀ a, lv false a = V0 := fun a => rfl
    simp only [e0]
    go_wp2_with fail
    exact bodyPost_ret (v := .tuple #[V0, V0, .bool false, N 0]) (by simp [results, Try.results52, go_sem, s0, s1, s2, s3, r0, r1, r2, r3]) rfl ⟨rfl, ((hK.set4 1 rfl).set4 0 rfl).bel⟩
  · have e0 : ∀ a, lv true a = a := fun a => rfl
    simp only [e0]
    go_wp2_with fail
    exact bodyPost_ret (v := .tuple #[Vl x y z t, Vl x' y' z' t', .bool true, N 0]) (by simp [results, Try.results52, go_sem, s0, s1, s2, s3, r0, r1, r2, r3]) rfl ⟨rfl, ((hK.set4 1 rfl).set4 0 rfl).bel⟩

set_option maxRecDepth 100000 in
set_option maxHeartbeats 4000000 in
theorem calcLess_wrong {v m l g v' m' l' g' : BitVec 64} (hr : Hid ((valB v m l g && valB v' m' l' g') = false)) (w : World) :
    Calls Try.prog 53 #[Vl v m l g, Vl v' m' l' g'] w fun e w' => e = .returned (.tuple #[V0, V0, .bool false, N 1]) ∧ Below w.heap.size w w' := by
  go_enter Try.func53, Try.ntmps53
  go_wp2_with fail
  refine (leave_wrongLess hr _).mono ?_
  rintro e w1 ⟨rfl, hb1⟩
  have hK := (((((Kp.start w).add4 _ _ _ _ _).add4 _ _ _ _ _).add4 _ _ _ _ _).add4 _ _ _ _ _).keep hb1
  simp only [World.size_alloc] at hK
  obtain ⟨s0, s1, s2, s3, s4, s5, s6, s7, s8⟩ := hK.box.head.four
  obtain ⟨r0, r1, r2, r3, r4, r5, r6, r7, r8⟩ := hK.box.tail.head.four
  obtain ⟨b0, b1, b2, b3, b4, b5, b6, b7, b8⟩ := hK.box.tail.tail.head.four
  obtain ⟨a0, a1, a2, a3, a4, a5, a6, a7, a8⟩ := hK.box.tail.tail.tail.head.four
  go_wp2_with fail
  exact bodyPost_ret (v := .tuple #[V0, V0, .bool false, N 1]) (by simp [results, Try.results53, go_sem, s0, s1, s2, s3, r0, r1, r2, r3]) rfl ⟨rfl, ((hK.set4 1 rfl).set4 0 rfl).bel⟩
set_option maxRecDepth 100000 in
set_option maxHeartbeats 4000000 in
theorem calcLess_right {v m l g v' m' l' g' a b c d a' b' c' d' x y z t x' y' z' t' : BitVec 64} {may i1 i2 : Bool} {e1 e2 : Int} (hr : Hid ((valB v m l g && valB v' m' l' g') = true)) (w : World)
    (HR : Hid (∀ (B : Nat) w', Cap w' (B + 1) B v' m' l' g' v m l g → Calls Try.prog 96 #[PT (B + 1), PT B] w' fun e w'' => e = .returned (.tuple #[Vl a b c d, Vl a' b' c' d', .bool may]) ∧ Below w'.heap.size w' w''))
    (N1 : Hid (∀ w, Calls Try.prog 31 #[Vl a b c d] w fun e w' => e = .returned (.tuple #[Vl x y z t, .bool i1, N e1]) ∧ Below w.heap.size w w'))
    (N2 : Hid (∀ w, Calls Try.prog 31 #[Vl a' b' c' d'] w fun e w' => e = .returned (.tuple #[Vl x' y' z' t', .bool i2, N e2]) ∧ Below w.heap.size w w')) :
    Calls Try.prog 53 #[Vl v m l g, Vl v' m' l' g'] w fun e w' => e = .returned (.tuple #[lv (may && (i1 && i2)) (Vl x y z t), lv (may && (i1 && i2)) (Vl x' y' z' t'), .bool (may && (i1 && i2)), N 0]) ∧ Below w.heap.size w w' := by
  have hK0 := ((((Kp.start w).add4 (U v) (U m) (U l) (U g) 49).add4 (U v') (U m') (U l') (U g') 49).add4 (.int .u64 0) (.int .u64 0) (.int .u64 0) (.int .u64 0) 49).add4 (.int .u64 0) (.int .u64 0) (.int .u64 0) (.int .u64 0) 49
  simp only [World.size_alloc] at hK0
  have HC : Hid (∀ w', Below ((((w.alloc (.cells #[U v, U m, U l, U g] 49)).alloc (.cells #[U v', U m', U l', U g'] 49)).alloc (.cells #[.int .u64 0, .int .u64 0, .int .u64 0, .int .u64 0] 49)).alloc (.cells #[.int .u64 0, .int .u64 0, .int .u64 0, .int .u64 0] 49)).heap.size ((((w.alloc (.cells #[U v, U m, U l, U g] 49)).alloc (.cells #[U v', U m', U l', U g'] 49)).alloc (.cells #[.int .u64 0, .int .u64 0, .int .u64 0, .int .u64 0] 49)).alloc (.cells #[.int .u64 0, .int .u64 0, .int .u64 0, .int .u64 0] 49)) w' → Cap w' (w.heap.size + 1) w.heap.size v' m' l' g' v m l g) := by
    intro w' hb
    have hk := hK0.keep hb
    obtain ⟨b0, b1, b2, b3, _, _, _, _, b8⟩ := hk.box.tail.tail.head.four
    obtain ⟨a0, a1, a2, a3, _, _, _, _, a8⟩ := hk.box.tail.tail.tail.head.four
    exact ⟨b8, a8, b0, b1, b2, b3, a0, a1, a2, a3⟩
  obtain ⟨q, hq⟩ : ∃ q, Hid (q = (may && (i1 && i2))) := ⟨_, rfl⟩
  have HL : Hid (Calls Try.prog 91 #[Vl v m l g, Vl v' m' l' g', .func (.func 96) #[] #[PT (w.heap.size + 1), PT w.heap.size]] ((((w.alloc (.cells #[U v, U m, U l, U g] 49)).alloc (.cells #[U v', U m', U l', U g'] 49)).alloc (.cells #[.int .u64 0, .int .u64 0, .int .u64 0, .int .u64 0] 49)).alloc (.cells #[.int .u64 0, .int .u64 0, .int .u64 0, .int .u64 0] 49)) fun e w' => e = .returned (.tuple #[lv q (Vl x y z t), lv q (Vl x' y' z' t'), .bool q, N 0]) ∧ Below ((((w.alloc (.cells #[U v, U m, U l, U g] 49)).alloc (.cells #[U v', U m', U l', U g'] 49)).alloc (.cells #[.int .u64 0, .int .u64 0, .int .u64 0, .int .u64 0] 49)).alloc (.cells #[.int .u64 0, .int .u64 0, .int .u64 0, .int .u64 0] 49)).heap.size ((((w.alloc (.cells #[U v, U m, U l, U g] 49)).alloc (.cells #[U v', U m', U l', U g'] 49)).alloc (.cells #[.int .u64 0, .int .u64 0, .int .u64 0, .int .u64 0] 49)).alloc (.cells #[.int .u64 0, .int .u64 0, .int .u64 0, .int .u64 0] 49)) w') := by
    show Calls _ _ _ _ _
    rw [hq.out]
    exact leave_Less hr _ (hid (fun w' hb => HR.out w.heap.size w' (HC.out w' hb))) N1 N2
  rw [← hq.out]
  clear hq N1 N2 HR HC hr
  go_enter Try.func53, Try.ntmps53
  go_wp2_with fail
  refine HL.out.mono ?_
  rintro e w1 ⟨rfl, hb1⟩
  have hK := hK0.keep hb1
  clear HL
  obtain ⟨s0, s1, s2, s3, s4, s5, s6, s7, s8⟩ := hK.box.head.four
  obtain ⟨r0, r1, r2, r3, r4, r5, r6, r7, r8⟩ := hK.box.tail.head.four
  obtain ⟨b0, b1, b2, b3, b4, b5, b6, b7, b8⟩ := hK.box.tail.tail.head.four
  obtain ⟨a0, a1, a2, a3, a4, a5, a6, a7, a8⟩ := hK.box.tail.tail.tail.head.four
  cases q
  · have e0 : ∀ a, lv false a = V0 := fun a => rfl
    simp only [e0]
    go_wp2_with fail
    exact bodyPost_ret (v := .tuple #[V0, V0, .bool false, N 0]) (by simp [results, Try.results53, go_sem, s0, s1, s2, s3, r0, r1, r2, r3]) rfl ⟨rfl, ((hK.set4 1 rfl).set4 0 rfl).bel⟩
  · have e0 : ∀ a, lv true a = a := fun a => rfl
    simp only [e0]
    go_wp2_with fail
    exact bodyPost_ret (v := .tuple #[Vl x y z t, Vl x' y' z' t', .bool true, N 0]) (by simp [results, Try.results53, go_sem, s0, s1, s2, s3, r0, r1, r2, r3]) rfl ⟨rfl, ((hK.set4 1 rfl).set4 0 rfl).bel⟩

set_option maxRecDepth 100000 in
set_option maxHeartbeats 4000000 in
theorem calcNotLess_wrong {v m l g v' m' l' g' : BitVec 64} (hr : Hid ((valB v m l g && valB v' m' l' g') = false)) (w : World) :
    Calls Try.prog 54 #[Vl v m l g, Vl v' m' l' g'] w fun e w' => e = .returned (.tuple #[V0, V0, .bool false, N 1]) ∧ Below w.heap.size w w' := by
  go_enter Try.func54, Try.ntmps54
  go_wp2_with fail
  refine (leave_wrongNotLess hr _).mono ?_
  rintro e w1 ⟨rfl, hb1⟩
  have hK := (((((Kp.start w).add4 _ _ _ _ _).add4 _ _ _ _ _).add4 _ _ _ _ _).add4 _ _ _ _ _).keep hb1
  simp only [World.size_alloc] at hK
  obtain ⟨s0, s1, s2, s3, s4, s5, s6, s7, s8⟩ := hK.box.head.four
  obtain ⟨r0, r1, r2, r3, r4, r5, r6, r7, r8⟩ := hK.box.tail.head.four
  obtain ⟨b0, b1, b2, b3, b4, b5, b6, b7, b8⟩ := hK.box.tail.tail.head.four
  obtain ⟨a0, a1, a2, a3, a4, a5, a6, a7, a8⟩ := hK.box.tail.tail.tail.head.four
  go_wp2_with fail
  exact bodyPost_ret (v := .tuple #[V0, V0, .bool false, N 1]) (by simp [results, Try.results54, go_sem, s0, s1, s2, s3, r0, r1, r2, r3]) rfl ⟨rfl, ((hK.set4 1 rfl).set4 0 rfl).bel⟩
set_option maxRecDepth 100000 in
set_option maxHeartbeats 4000000 in
theorem calcNotLess_right {v m l g v' m' l' g' a b c d a' b' c' d' x y z t x' y' z' t' : BitVec 64} {may i1 i2 : Bool} {e1 e2 : Int} (hr : Hid ((valB v m l g && valB v' m' l' g') = true)) (w : World)
    (HR : Hid (∀ (B : Nat) w', Cap w' B (B + 1) v m l g v' m' l' g' → Calls Try.prog 98 #[PT B, PT (B + 1)] w' fun e w'' => e = .returned (.tuple #[Vl a b c d, Vl a' b' c' d', .bool may]) ∧ Below w'.heap.size w' w''))
    (N1 : Hid (∀ w, Calls Try.prog 31 #[Vl a b c d] w fun e w' => e = .returned (.tuple #[Vl x y z t, .bool i1, N e1]) ∧ Below w.heap.size w w'))
    (N2 : Hid (∀ w, Calls Try.prog 31 #[Vl a' b' c' d'] w fun e w' => e = .returned (.tuple #[Vl x' y' z' t', .bool i2, N e2]) ∧ Below w.heap.size w w')) :
    Calls Try.prog 54 #[Vl v m l g, Vl v' m' l' g'] w fun e w' => e = .returned (.tuple #[lv (may && (i1 && i2)) (Vl x y z t), lv (may && (i1 && i2)) (Vl x' y' z' t'), .bool (may && (i1 && i2)), N 0]) ∧ Below w.heap.size w w' := by
  have hK0 := ((((Kp.start w).add4 (U v) (U m) (U l) (U g) 49).add4 (U v') (U m') (U l') (U g') 49).add4 (.int .u64 0) (.int .u64 0) (.int .u64 0) (.int .u64 0) 49).add4 (.int .u64 0) (.int .u64 0) (.int .u64 0) (.int .u64 0) 49
  simp only [World.size_alloc] at hK0
  have HC : Hid (∀ w', Below ((((w.alloc (.cells #[U v, U m, U l, U g] 49)).alloc (.cells #[U v', U m', U l', U g'] 49)).alloc (.cells #[.int .u64 0, .int .u64 0, .int .u64 0, .int .u64 0] 49)).alloc (.cells #[.int .u64 0, .int .u64 0, .int .u64 0, .int .u64 0] 49)).heap.size ((((w.alloc (.cells #[U v, U m, U l, U g] 49)).alloc (.cells #[U v', U m', U l', U g'] 49)).alloc (.cells #[.int .u64 0, .int .u64 0, .int .u64 0, .int .u64 0] 49)).alloc (.cells #[.int .u64 0, .int .u64 0, .int .u64 0, .int .u64 0] 49)) w' → Cap w' w.heap.size (w.heap.size + 1) v m l g v' m' l' g') := by
    intro w' hb
    have hk := hK0.keep hb
    obtain ⟨b0, b1, b2, b3, _, _, _, _, b8⟩ := hk.box.tail.tail.head.four
    obtain ⟨a0, a1, a2, a3, _, _, _, _, a8⟩ := hk.box.tail.tail.tail.head.four
    exact ⟨a8, b8, a0, a1, a2, a3, b0, b1, b2, b3⟩
  obtain ⟨q, hq⟩ : ∃ q, Hid (q = (may && (i1 && i2))) := ⟨_, rfl⟩
  have HL : Hid (Calls Try.prog 91 #[Vl v m l g, Vl v' m' l' g', .func (.func 98) #[] #[PT w.heap.size, PT (w.heap.size + 1)]] ((((w.alloc (.cells #[U v, U m, U l, U g] 49)).alloc (.cells #[U v', U m', U l', U g'] 49)).alloc (.cells #[.int .u64 0, .int .u64 0, .int .u64 0, .int .u64 0] 49)).alloc (.cells #[.int .u64 0, .int .u64 0, .int .u64 0, .int .u64 0] 49)) fun e w' => e = .returned (.tuple #[lv q (Vl x y z t), lv q (Vl x' y' z' t'), .bool q, N 0]) ∧ Below ((((w.alloc (.cells #[U v, U m, U l, U g] 49)).alloc (.cells #[U v', U m', U l', U g'] 49)).alloc (.cells #[.int .u64 0, .int .u64 0, .int .u64 0, .int .u64 0] 49)).alloc (.cells #[.int .u64 0, .int .u64 0, .int .u64 0, .int .u64 0] 49)).heap.size ((((w.alloc (.cells #[U v, U m, U l, U g] 49)).alloc (.cells #[U v', U m', U l', U g'] 49)).alloc (.cells #[.int .u64 0, .int .u64 0, .int .u64 0, .int .u64 0] 49)).alloc (.cells #[.int .u64 0, .int .u64 0, .int .u64 0, .int .u64 0] 49)) w') := by
    show Calls _ _ _ _ _
    rw [hq.out]
    exact leave_NotLess hr _ (hid (fun w' hb => HR.out w.heap.size w' (HC.out w' hb))) N1 N2
  rw [← hq.out]
  clear hq N1 N2 HR HC hr
  go_enter Try.func54, Try.ntmps54
  go_wp2_with fail
  refine HL.out.mono ?_
  rintro e w1 ⟨rfl, hb1⟩
  have hK := hK0.keep hb1
  clear HL
  obtain ⟨s0, s1, s2, s3, s4, s5, s6, s7, s8⟩ := hK.box.head.four
  obtain ⟨r0, r1, r2, r3, r4, r5, r6, r7, r8⟩ := hK.box.tail.head.four
  obtain ⟨b0, b1, b2, b3, b4, b5, b6, b7, b8⟩ := hK.box.tail.tail.head.four
  obtain ⟨a0, a1, a2, a3, a4, a5, a6, a7, a8⟩ := hK.box.tail.tail.tail.head.four
  cases q
  · have e0 : ∀ a, lv false a = V0 := fun a => rfl
    simp only [e0]
    go_wp2_with fail
    exact bodyPost_ret (v := .tuple #[V0, V0, .bool false, N 0]) (by simp [results, Try.results54, go_sem, s0, s1, s2, s3, r0, r1, r2, r3]) rfl ⟨rfl, ((hK.set4 1 rfl).set4 0 rfl).bel⟩
  · have e0 : ∀ a, lv true a = a := fun a => rfl
    simp only [e0]
    go_wp2_with fail
    exact bodyPost_ret (v := .tuple #[Vl x y z t, Vl x' y' z' t', .bool true, N 0]) (by simp [results, Try.results54, go_sem, s0, s1, s2, s3, r0, r1, r2, r3]) rfl ⟨rfl, ((hK.set4 1 rfl).set4 0 rfl).bel⟩

end Go.Proofs.Ytkigmocchaikgaa

/- The contract of the reference's bitOf; what twoBits comes to, as plain functions. -/
namespace Go.Proofs.Ytkigmocchaikgaa
open Go.RowKit
attribute [local go_sem] w_and w_or w_xor w_andNot w_and1 w_and63 w_add w_sub w_mul w_sub1 w_add1 w_shl w_shl1 w_shr c_beq c_bne c_beq0 c_bne0 c_beq1 c_bne1 wrap_nv

def bi (b : Bool) : Int := if b then 1 else 0
/- one bit of an operation, and what goes over -/
def bo (op : Int) (x y c : Bool) : Bool × Bool :=
  if op = 2 then ((x ^^ y) ^^ c, (x && y) || (c && (x || y)))
  else if op = 3 then ((x ^^ y) ^^ c, (!x && y) || (c && (!x || y)))
  else if op = 5 then (x && y, false)
  else if op = 6 then (x || y, false)
  else (x ^^ y, false)

theorem bo_else {op : Int} (h2 : op ≠ 2) (h3 : op ≠ 3) (h5 : op ≠ 5) (h6 : op ≠ 6) (x y c : Bool) : bo op x y c = (x ^^ y, false) := by
  unfold bo; rw [if_neg h2, if_neg h3, if_neg h5, if_neg h6]
set_option maxHeartbeats 4000000 in
theorem bitOf_any (op : Int) (x y c : Bool) (w : World) :
    Calls Try.prog 111 #[N op, N (bi x), N (bi y), N (bi c)] w fun e w' => e = .returned (.tuple #[N (bi (bo op x y c).1), N (bi (bo op x y c).2)]) ∧ w = w' := by
  by_cases hop : op = 2 ∨ op = 3 ∨ op = 5 ∨ op = 6
  · generalize h1 : bi (bo op x y c).1 = r1
    generalize h2 : bi (bo op x y c).2 = r2
    have H1 : Hid (bi (bo op x y c).1 = r1) := h1
    have H2 : Hid (bi (bo op x y c).2 = r2) := h2
    clear h1 h2
    rcases hop with rfl | rfl | rfl | rfl <;> cases x <;> cases y <;> cases c
    all_goals
      simp only [bi, if_true, if_false, Bool.false_eq_true]
      go_enter Try.func111, Try.ntmps111
      go_wp2_with fail
      go_ret2
      rw [← H1.out, ← H2.out]
      exact ⟨rfl, rfl⟩
  · have h2 : op ≠ 2 := by omega
    have h3 : op ≠ 3 := by omega
    have h5 : op ≠ 5 := by omega
    have h6 : op ≠ 6 := by omega
    generalize g1 : bi (bo op x y c).1 = r1
    generalize g2 : bi (bo op x y c).2 = r2
    rw [bo_else h2 h3 h5 h6] at g1 g2
    have H1 : Hid (bi (x ^^ y) = r1) := g1
    have H2 : Hid (bi false = r2) := g2
    clear g1 g2
    have e2 : (op == 2) = false := by simpa using h2
    have e3 : (op == 3) = false := by simpa using h3
    have e5 : (op == 5) = false := by simpa using h5
    have e6 : (op == 6) = false := by simpa using h6
    clear h2 h3 h5 h6 hop
    cases x <;> cases y <;> cases c
    all_goals
      simp only [bi, if_true, if_false, Bool.false_eq_true]
      go_enter Try.func111, Try.ntmps111
      go_wp2_with fail
      go_ret2
      rw [← H1.out, ← H2.out]
      exact ⟨rfl, rfl⟩

end Go.Proofs.Ytkigmocchaikgaa

/- What twoBits comes to, as plain functions; one cell of a box written. -/
namespace Go.Proofs.Ytkigmocchaikgaa
open Go.RowKit

theorem Kp.set1 {w0 w : World} {b i : Nat} {v u : Value} {vs : List Value} {L : List (Nat × List Value)} (k : Nat) (h : Kp w0 w L) (e : L[k]? = some (b, vs)) (hi : vs[i]? = some u) :
    Kp w0 (w.setCell ⟨b, i, none⟩ v) (L.set k (b, vs.set i v)) := by
  have hlo : w0.heap.size ≤ b := h.lo _ (List.mem_of_getElem? e)
  refine ⟨h.bel.setCell hlo v, Boxes.setOne k h.box e hi, fun p hp => ?_⟩
  rcases List.mem_or_eq_of_mem_set hp with h1 | h1
  · exact h.lo p h1
  · rw [h1]; exact hlo

def kx (k : Nat) : Bool := k % 2 == 1
def ky (k : Nat) : Bool := k / 2 % 2 == 1
def kc (k : Nat) : Bool := k / 4 == 1
def alw (z o u p c0 c1 : Bool) (k : Nat) : Bool := (if kx k then o else z) && (if ky k then p else u) && (if kc k then c1 else c0)
def put1 (q : Bool × Bool) (b : Bool) : Bool × Bool := if b then (q.1, true) else (true, q.2)
/- the inner loop: which results, and which that go over, the first k of the eight ways give -/
def inn (op : Int) (z o u p c0 c1 : Bool) : Nat → (Bool × Bool) × (Bool × Bool)
  | 0 => ((false, false), (false, false))
  | k + 1 => if alw z o u p c0 c1 k then (put1 (inn op z o u p c0 c1 k).1 (bo op (kx k) (ky k) (kc k)).1, put1 (inn op z o u p c0 c1 k).2 (bo op (kx k) (ky k) (kc k)).2) else inn op z o u p c0 c1 k
theorem inn_no {op : Int} {z o u p c0 c1 : Bool} {k : Nat} {s : (Bool × Bool) × (Bool × Bool)} (h : inn op z o u p c0 c1 k = s) (ha : alw z o u p c0 c1 k = false) : inn op z o u p c0 c1 (k + 1) = s := by
  simp only [inn]; rw [if_neg (by rw [ha]; decide), h]
theorem inn_yes {op : Int} {z o u p c0 c1 : Bool} {k : Nat} {s : (Bool × Bool) × (Bool × Bool)} {b1 b2 x y c : Bool} (h : inn op z o u p c0 c1 k = s) (ha : alw z o u p c0 c1 k = true)
    (hx : kx k = x) (hy : ky k = y) (hc : kc k = c) (hb : bo op x y c = (b1, b2)) : inn op z o u p c0 c1 (k + 1) = (put1 s.1 b1, put1 s.2 b2) := by
  simp only [inn]; rw [if_pos ha, h, hx, hy, hc, hb]
/- the outer loop -/
def twoC (op : Int) (av am bv bm : BitVec 64) : Nat → Bool × Bool
  | 0 => (true, false)
  | i + 1 => (inn op (mz av i) (mo av am i) (mz bv i) (mo bv bm i) (twoC op av am bv bm i).1 (twoC op av am bv bm i).2 8).2
def twoR (op : Int) (av am bv bm : BitVec 64) (i : Nat) : Bool × Bool :=
  (inn op (mz av i) (mo av am i) (mz bv i) (mo bv bm i) (twoC op av am bv bm i).1 (twoC op av am bv bm i).2 8).1
def twoV (op : Int) (av am bv bm : BitVec 64) (k : Nat) : BitVec 64 := acc (fun j => (twoR op av am bv bm j).2 && !(twoR op av am bv bm j).1) k
def twoM (op : Int) (av am bv bm : BitVec 64) (k : Nat) : BitVec 64 := acc (fun j => (twoR op av am bv bm j).2 && (twoR op av am bv bm j).1) k
theorem twoV_succ (op : Int) (av am bv bm : BitVec 64) (k : Nat) : putV (twoV op av am bv bm k) k (twoR op av am bv bm k).1 (twoR op av am bv bm k).2 = twoV op av am bv bm (k + 1) := putV_acc (fun j => (twoR op av am bv bm j).1) (fun j => (twoR op av am bv bm j).2) k
theorem twoM_succ (op : Int) (av am bv bm : BitVec 64) (k : Nat) : putM (twoM op av am bv bm k) k (twoR op av am bv bm k).1 (twoR op av am bv bm k).2 = twoM op av am bv bm (k + 1) := putM_acc (fun j => (twoR op av am bv bm j).1) (fun j => (twoR op av am bv bm j).2) k
theorem bitOf_is {op : Int} {x y c b1 b2 : Bool} (h : Hid (bo op x y c = (b1, b2))) (w : World) :
    Calls Try.prog 111 #[N op, N (bi x), N (bi y), N (bi c)] w fun e w' => e = .returned (.tuple #[N (bi b1), N (bi b2)]) ∧ w = w' := by
  have := bitOf_any op x y c w
  rw [h.out] at this
  exact this
theorem bo_ex (op : Int) (x y c : Bool) : ∃ b1 b2, Hid (bo op x y c = (b1, b2)) := ⟨_, _, rfl⟩

end Go.Proofs.Ytkigmocchaikgaa

/- The contract of the reference's twoBits. -/
namespace Go.Proofs.Ytkigmocchaikgaa
open Go.RowKit
attribute [local go_sem] w_and w_or w_xor w_andNot w_and1 w_and63 w_add w_sub w_mul w_sub1 w_add1 w_shl w_shl1 w_shr c_beq c_bne c_beq0 c_bne0 c_beq1 c_bne1 wrap_nv

theorem ba0 : bits .and .i64 0 1 = 0 := by decide
theorem ba1 : bits .and .i64 1 1 = 1 := by decide
theorem ba2 : bits .and .i64 2 1 = 0 := by decide
theorem ba3 : bits .and .i64 3 1 = 1 := by decide
theorem ba4 : bits .and .i64 4 1 = 0 := by decide
theorem ba5 : bits .and .i64 5 1 = 1 := by decide
theorem ba6 : bits .and .i64 6 1 = 0 := by decide
theorem ba7 : bits .and .i64 7 1 = 1 := by decide
attribute [local go_sem] ba0 ba1 ba2 ba3 ba4 ba5 ba6 ba7
theorem bi_t : bi true = 1 := rfl
theorem bi_f : bi false = 0 := rfl
theorem k_cases {k : Nat} (h : k < 8) : k = 0 ∨ k = 1 ∨ k = 2 ∨ k = 3 ∨ k = 4 ∨ k = 5 ∨ k = 6 ∨ k = 7 := by omega

set_option maxRecDepth 100000 in
set_option maxHeartbeats 8000000 in
theorem twoBits_any (op : Int) (av am bv bm : BitVec 64) (w : World) :
    Calls Try.prog 81 #[N op, Bt av am, Bt bv bm] w fun e w' => e = .returned (Bt (twoV op av am bv bm 64) (twoM op av am bv bm 64)) ∧ Below w.heap.size w w' := by
  go_enter Try.func81, Try.ntmps81
  go_wp2_with fail
  have hK0 := (((((Kp.start w).add2 (U av) (U am) 24).add2 (U bv) (U bm) 24).add2 (.int .u64 0) (.int .u64 0) 24).add2 (.int .u64 0) (.int .u64 0) 24).add2 (.bool true) (.bool false) 123
  simp only [World.size_alloc] at hK0
  go_loopw [9] (fun t wr => ∃ (i : Nat) (c0 c1 : Bool) (V M : BitVec 64), i ≤ 64 ∧ t = N i ∧ twoC op av am bv bm i = (c0, c1) ∧ twoV op av am bv bm i = V ∧ twoM op av am bv bm i = M
      ∧ Kp w wr [(w.heap.size + 1 + 1 + 1 + 1, [.bool c0, .bool c1]), (w.heap.size + 1 + 1 + 1, [U V, U M]), (w.heap.size + 1 + 1, [.int .u64 0, .int .u64 0]), (w.heap.size + 1, [U bv, U bm]), (w.heap.size, [U av, U am])]) (fun t _ => 64 - (intOf t).toNat)
  case atStart => exact ⟨0, true, false, zero, zero, by omega, rfl, rfl, rfl, rfl, hK0⟩
  case round =>
    clear hK0
    obtain ⟨i, c0, c1, V, M, hi, rfl, hC, hV, hM, hK⟩ := hrel
    have HC : Hid _ := hC
    have HV : Hid _ := hV
    have HM : Hid _ := hM
    clear hC hV hM
    by_cases hlt : i < 64
    · obtain ⟨z, o, H1, H2⟩ := may_eq av am i
      obtain ⟨u, p, H3, H4⟩ := may_eq bv bm i
      obtain ⟨R, hR⟩ : ∃ R, R = wr.heap.size := ⟨_, rfl⟩
      have hK1 := (hK.add2 (.bool false) (.bool false) 123).add2 (.bool false) (.bool false) 123
      simp only [World.size_alloc] at hK1
      rw [← hR] at hK1
      have hR' : wr.heap.size = R := hR.symm
      clear hR hK
      have hd : decide ((i : Int) < 64) = true := by simp; omega
      go_wp2_with fail
      clear hR'
      go_loopw [12] (fun t ws => ∃ (k : Nat) (r0 r1 v0 v1 : Bool), k ≤ 8 ∧ t = N k ∧ inn op z o u p c0 c1 k = ((r0, r1), (v0, v1))
          ∧ Kp w ws [(R + 1, [.bool v0, .bool v1]), (R, [.bool r0, .bool r1]), (w.heap.size + 1 + 1 + 1 + 1, [.bool c0, .bool c1]), (w.heap.size + 1 + 1 + 1, [U V, U M]), (w.heap.size + 1 + 1, [.int .u64 0, .int .u64 0]), (w.heap.size + 1, [U bv, U bm]), (w.heap.size, [U av, U am])]) (fun t _ => 8 - (intOf t).toNat)
      case atStart => exact ⟨0, false, false, false, false, by omega, rfl, rfl, hK1⟩
      case round =>
        clear hK1
        obtain ⟨k, r0, r1, v0, v1, hk, rfl, hs, hK⟩ := hrel
        have Hs : Hid _ := hs
        clear hs
        obtain ⟨vv0, vv1, vv2, vv3, vv4⟩ := hK.box.head.two
        obtain ⟨rr0, rr1, rr2, rr3, rr4⟩ := hK.box.tail.head.two
        obtain ⟨cc0, cc1, cc2, cc3, cc4⟩ := hK.box.tail.tail.head.two
        obtain ⟨oo0, oo1, oo2, oo3, oo4⟩ := hK.box.tail.tail.tail.head.two
        obtain ⟨b0, b1, b2, b3, b4⟩ := hK.box.tail.tail.tail.tail.tail.head.two
        obtain ⟨a0, a1, a2, a3, a4⟩ := hK.box.tail.tail.tail.tail.tail.tail.head.two
        by_cases hk8 : k < 8
        · rcases k_cases hk8 with rfl | rfl | rfl | rfl | rfl | rfl | rfl | rfl
          · as_aux_lemma =>
            obtain ⟨q1, q2, Hb⟩ := bo_ex op false false false
            go_wp2_with fail
            refine (may_any hlt H1 H2 _).mono ?_
            rintro e w1 ⟨rfl, hb1⟩
            have hK1 := hK.keep hb1
            clear vv0 vv1 vv2 vv3 vv4 rr0 rr1 rr2 rr3 rr4 cc0 cc1 cc2 cc3 cc4 oo0 oo1 oo2 oo3 oo4 b0 b1 b2 b3 b4 a0 a1 a2 a3 a4
            obtain ⟨vv0, vv1, vv2, vv3, vv4⟩ := hK1.box.head.two
            obtain ⟨rr0, rr1, rr2, rr3, rr4⟩ := hK1.box.tail.head.two
            obtain ⟨cc0, cc1, cc2, cc3, cc4⟩ := hK1.box.tail.tail.head.two
            obtain ⟨oo0, oo1, oo2, oo3, oo4⟩ := hK1.box.tail.tail.tail.head.two
            obtain ⟨b0, b1, b2, b3, b4⟩ := hK1.box.tail.tail.tail.tail.tail.head.two
            obtain ⟨a0, a1, a2, a3, a4⟩ := hK1.box.tail.tail.tail.tail.tail.tail.head.two
            go_wp2_with fail
            refine (may_any hlt H3 H4 _).mono ?_
            rintro e w2 ⟨rfl, hb2⟩
            have hK2 := hK1.keep hb2
            clear vv0 vv1 vv2 vv3 vv4 rr0 rr1 rr2 rr3 rr4 cc0 cc1 cc2 cc3 cc4 oo0 oo1 oo2 oo3 oo4 b0 b1 b2 b3 b4 a0 a1 a2 a3 a4
            obtain ⟨vv0, vv1, vv2, vv3, vv4⟩ := hK2.box.head.two
            obtain ⟨rr0, rr1, rr2, rr3, rr4⟩ := hK2.box.tail.head.two
            obtain ⟨cc0, cc1, cc2, cc3, cc4⟩ := hK2.box.tail.tail.head.two
            obtain ⟨oo0, oo1, oo2, oo3, oo4⟩ := hK2.box.tail.tail.tail.head.two
            obtain ⟨b0, b1, b2, b3, b4⟩ := hK2.box.tail.tail.tail.tail.tail.head.two
            obtain ⟨a0, a1, a2, a3, a4⟩ := hK2.box.tail.tail.tail.tail.tail.tail.head.two
            clear hb1 hb2 hK1 hK H1 H2 H3 H4
            cases z
            · as_aux_lemma =>
                go_wp2_with fail
                go_roundw
                case rel => exact ⟨0 + 1, r0, r1, v0, v1, by omega, rfl, inn_no Hs.out rfl, hK2⟩
                case measure => simp [intOf]
            · cases u
              · as_aux_lemma =>
                  go_wp2_with fail
                  go_roundw
                  case rel => exact ⟨0 + 1, r0, r1, v0, v1, by omega, rfl, inn_no Hs.out rfl, hK2⟩
                  case measure => simp [intOf]
              · cases c0
                · as_aux_lemma =>
                    go_wp2_with fail
                    go_roundw
                    case rel => exact ⟨0 + 1, r0, r1, v0, v1, by omega, rfl, inn_no Hs.out rfl, hK2⟩
                    case measure => simp [intOf]
                · as_aux_lemma =>
                    go_wp2_with fail
                    refine (bitOf_is Hb _).mono ?_
                    rintro e w3 ⟨rfl, rfl⟩
                    cases q1 <;> cases q2
                    all_goals
                      first | rw [bi_t] | rw [bi_f]
                      try first | rw [bi_t] | rw [bi_f]
                      go_wp2_with fail
                      go_roundw
                      case rel => exact ⟨0 + 1, _, _, _, _, by omega, rfl, inn_yes Hs.out rfl rfl rfl rfl Hb.out, (hK2.set1 1 rfl rfl).set1 0 rfl rfl⟩
                      case measure => simp [intOf]
          · as_aux_lemma =>
            obtain ⟨q1, q2, Hb⟩ := bo_ex op true false false
            go_wp2_with fail
            refine (may_any hlt H1 H2 _).mono ?_
            rintro e w1 ⟨rfl, hb1⟩
            have hK1 := hK.keep hb1
            clear vv0 vv1 vv2 vv3 vv4 rr0 rr1 rr2 rr3 rr4 cc0 cc1 cc2 cc3 cc4 oo0 oo1 oo2 oo3 oo4 b0 b1 b2 b3 b4 a0 a1 a2 a3 a4
            obtain ⟨vv0, vv1, vv2, vv3, vv4⟩ := hK1.box.head.two
            obtain ⟨rr0, rr1, rr2, rr3, rr4⟩ := hK1.box.tail.head.two
            obtain ⟨cc0, cc1, cc2, cc3, cc4⟩ := hK1.box.tail.tail.head.two
            obtain ⟨oo0, oo1, oo2, oo3, oo4⟩ := hK1.box.tail.tail.tail.head.two
            obtain ⟨b0, b1, b2, b3, b4⟩ := hK1.box.tail.tail.tail.tail.tail.head.two
            obtain ⟨a0, a1, a2, a3, a4⟩ := hK1.box.tail.tail.tail.tail.tail.tail.head.two
            go_wp2_with fail
            refine (may_any hlt H3 H4 _).mono ?_
            rintro e w2 ⟨rfl, hb2⟩
            have hK2 := hK1.keep hb2
            clear vv0 vv1 vv2 vv3 vv4 rr0 rr1 rr2 rr3 rr4 cc0 cc1 cc2 cc3 cc4 oo0 oo1 oo2 oo3 oo4 b0 b1 b2 b3 b4 a0 a1 a2 a3 a4
            obtain ⟨vv0, vv1, vv2, vv3, vv4⟩ := hK2.box.head.two
            obtain ⟨rr0, rr1, rr2, rr3, rr4⟩ := hK2.box.tail.head.two
            obtain ⟨cc0, cc1, cc2, cc3, cc4⟩ := hK2.box.tail.tail.head.two
            obtain ⟨oo0, oo1, oo2, oo3, oo4⟩ := hK2.box.tail.tail.tail.head.two
            obtain ⟨b0, b1, b2, b3, b4⟩ := hK2.box.tail.tail.tail.tail.tail.head.two
            obtain ⟨a0, a1, a2, a3, a4⟩ := hK2.box.tail.tail.tail.tail.tail.tail.head.two
            clear hb1 hb2 hK1 hK H1 H2 H3 H4
            cases o
            · as_aux_lemma =>
                go_wp2_with fail
                go_roundw
                case rel => exact ⟨1 + 1, r0, r1, v0, v1, by omega, rfl, inn_no Hs.out rfl, hK2⟩
                case measure => simp [intOf]
            · cases u
              · as_aux_lemma =>
                  go_wp2_with fail
                  go_roundw
                  case rel => exact ⟨1 + 1, r0, r1, v0, v1, by omega, rfl, inn_no Hs.out rfl, hK2⟩
                  case measure => simp [intOf]
              · cases c0
                · as_aux_lemma =>
                    go_wp2_with fail
                    go_roundw
                    case rel => exact ⟨1 + 1, r0, r1, v0, v1, by omega, rfl, inn_no Hs.out rfl, hK2⟩
                    case measure => simp [intOf]
                · as_aux_lemma =>
                    go_wp2_with fail
                    refine (bitOf_is Hb _).mono ?_
                    rintro e w3 ⟨rfl, rfl⟩
                    cases q1 <;> cases q2
                    all_goals
                      first | rw [bi_t] | rw [bi_f]
                      try first | rw [bi_t] | rw [bi_f]
                      go_wp2_with fail
                      go_roundw
                      case rel => exact ⟨1 + 1, _, _, _, _, by omega, rfl, inn_yes Hs.out rfl rfl rfl rfl Hb.out, (hK2.set1 1 rfl rfl).set1 0 rfl rfl⟩
                      case measure => simp [intOf]
          · as_aux_lemma =>
            obtain ⟨q1, q2, Hb⟩ := bo_ex op false true false
            go_wp2_with fail
            refine (may_any hlt H1 H2 _).mono ?_
            rintro e w1 ⟨rfl, hb1⟩
            have hK1 := hK.keep hb1
            clear vv0 vv1 vv2 vv3 vv4 rr0 rr1 rr2 rr3 rr4 cc0 cc1 cc2 cc3 cc4 oo0 oo1 oo2 oo3 oo4 b0 b1 b2 b3 b4 a0 a1 a2 a3 a4
            obtain ⟨vv0, vv1, vv2, vv3, vv4⟩ := hK1.box.head.two
            obtain ⟨rr0, rr1, rr2, rr3, rr4⟩ := hK1.box.tail.head.two
            obtain ⟨cc0, cc1, cc2, cc3, cc4⟩ := hK1.box.tail.tail.head.two
            obtain ⟨oo0, oo1, oo2, oo3, oo4⟩ := hK1.box.tail.tail.tail.head.two
            obtain ⟨b0, b1, b2, b3, b4⟩ := hK1.box.tail.tail.tail.tail.tail.head.two
            obtain ⟨a0, a1, a2, a3, a4⟩ := hK1.box.tail.tail.tail.tail.tail.tail.head.two
            go_wp2_with fail
            refine (may_any hlt H3 H4 _).mono ?_
            rintro e w2 ⟨rfl, hb2⟩
            have hK2 := hK1.keep hb2
            clear vv0 vv1 vv2 vv3 vv4 rr0 rr1 rr2 rr3 rr4 cc0 cc1 cc2 cc3 cc4 oo0 oo1 oo2 oo3 oo4 b0 b1 b2 b3 b4 a0 a1 a2 a3 a4
            obtain ⟨vv0, vv1, vv2, vv3, vv4⟩ := hK2.box.head.two
            obtain ⟨rr0, rr1, rr2, rr3, rr4⟩ := hK2.box.tail.head.two
            obtain ⟨cc0, cc1, cc2, cc3, cc4⟩ := hK2.box.tail.tail.head.two
            obtain ⟨oo0, oo1, oo2, oo3, oo4⟩ := hK2.box.tail.tail.tail.head.two
            obtain ⟨b0, b1, b2, b3, b4⟩ := hK2.box.tail.tail.tail.tail.tail.head.two
            obtain ⟨a0, a1, a2, a3, a4⟩ := hK2.box.tail.tail.tail.tail.tail.tail.head.two
            clear hb1 hb2 hK1 hK H1 H2 H3 H4
            cases z
            · as_aux_lemma =>
                go_wp2_with fail
                go_roundw
                case rel => exact ⟨2 + 1, r0, r1, v0, v1, by omega, rfl, inn_no Hs.out rfl, hK2⟩
                case measure => simp [intOf]
            · cases p
              · as_aux_lemma =>
                  go_wp2_with fail
                  go_roundw
                  case rel => exact ⟨2 + 1, r0, r1, v0, v1, by omega, rfl, inn_no Hs.out rfl, hK2⟩
                  case measure => simp [intOf]
              · cases c0
                · as_aux_lemma =>
                    go_wp2_with fail
                    go_roundw
                    case rel => exact ⟨2 + 1, r0, r1, v0, v1, by omega, rfl, inn_no Hs.out rfl, hK2⟩
                    case measure => simp [intOf]
                · as_aux_lemma =>
                    go_wp2_with fail
                    refine (bitOf_is Hb _).mono ?_
                    rintro e w3 ⟨rfl, rfl⟩
                    cases q1 <;> cases q2
                    all_goals
                      first | rw [bi_t] | rw [bi_f]
                      try first | rw [bi_t] | rw [bi_f]
                      go_wp2_with fail
                      go_roundw
                      case rel => exact ⟨2 + 1, _, _, _, _, by omega, rfl, inn_yes Hs.out rfl rfl rfl rfl Hb.out, (hK2.set1 1 rfl rfl).set1 0 rfl rfl⟩
                      case measure => simp [intOf]
          · as_aux_lemma =>
            obtain ⟨q1, q2, Hb⟩ := bo_ex op true true false
            go_wp2_with fail
            refine (may_any hlt H1 H2 _).mono ?_
            rintro e w1 ⟨rfl, hb1⟩
            have hK1 := hK.keep hb1
            clear vv0 vv1 vv2 vv3 vv4 rr0 rr1 rr2 rr3 rr4 cc0 cc1 cc2 cc3 cc4 oo0 oo1 oo2 oo3 oo4 b0 b1 b2 b3 b4 a0 a1 a2 a3 a4
            obtain ⟨vv0, vv1, vv2, vv3, vv4⟩ := hK1.box.head.two
            obtain ⟨rr0, rr1, rr2, rr3, rr4⟩ := hK1.box.tail.head.two
            obtain ⟨cc0, cc1, cc2, cc3, cc4⟩ := hK1.box.tail.tail.head.two
            obtain ⟨oo0, oo1, oo2, oo3, oo4⟩ := hK1.box.tail.tail.tail.head.two
            obtain ⟨b0, b1, b2, b3, b4⟩ := hK1.box.tail.tail.tail.tail.tail.head.two
            obtain ⟨a0, a1, a2, a3, a4⟩ := hK1.box.tail.tail.tail.tail.tail.tail.head.two
            go_wp2_with fail
            refine (may_any hlt H3 H4 _).mono ?_
            rintro e w2 ⟨rfl, hb2⟩
            have hK2 := hK1.keep hb2
            clear vv0 vv1 vv2 vv3 vv4 rr0 rr1 rr2 rr3 rr4 cc0 cc1 cc2 cc3 cc4 oo0 oo1 oo2 oo3 oo4 b0 b1 b2 b3 b4 a0 a1 a2 a3 a4
            obtain ⟨vv0, vv1, vv2, vv3, vv4⟩ := hK2.box.head.two
            obtain ⟨rr0, rr1, rr2, rr3, rr4⟩ := hK2.box.tail.head.two
            obtain ⟨cc0, cc1, cc2, cc3, cc4⟩ := hK2.box.tail.tail.head.two
            obtain ⟨oo0, oo1, oo2, oo3, oo4⟩ := hK2.box.tail.tail.tail.head.two
            obtain ⟨b0, b1, b2, b3, b4⟩ := hK2.box.tail.tail.tail.tail.tail.head.two
            obtain ⟨a0, a1, a2, a3, a4⟩ := hK2.box.tail.tail.tail.tail.tail.tail.head.two
            clear hb1 hb2 hK1 hK H1 H2 H3 H4
            cases o
            · as_aux_lemma =>
                go_wp2_with fail
                go_roundw
                case rel => exact ⟨3 + 1, r0, r1, v0, v1, by omega, rfl, inn_no Hs.out rfl, hK2⟩
                case measure => simp [intOf]
            · cases p
              · as_aux_lemma =>
                  go_wp2_with fail
                  go_roundw
                  case rel => exact ⟨3 + 1, r0, r1, v0, v1, by omega, rfl, inn_no Hs.out rfl, hK2⟩
                  case measure => simp [intOf]
              · cases c0
                · as_aux_lemma =>
                    go_wp2_with fail
                    go_roundw
                    case rel => exact ⟨3 + 1, r0, r1, v0, v1, by omega, rfl, inn_no Hs.out rfl, hK2⟩
                    case measure => simp [intOf]
                · as_aux_lemma =>
                    go_wp2_with fail
                    refine (bitOf_is Hb _).mono ?_
                    rintro e w3 ⟨rfl, rfl⟩
                    cases q1 <;> cases q2
                    all_goals
                      first | rw [bi_t] | rw [bi_f]
                      try first | rw [bi_t] | rw [bi_f]
                      go_wp2_with fail
                      go_roundw
                      case rel => exact ⟨3 + 1, _, _, _, _, by omega, rfl, inn_yes Hs.out rfl rfl rfl rfl Hb.out, (hK2.set1 1 rfl rfl).set1 0 rfl rfl⟩
                      case measure => simp [intOf]
          · as_aux_lemma =>
            obtain ⟨q1, q2, Hb⟩ := bo_ex op false false true
            go_wp2_with fail
            refine (may_any hlt H1 H2 _).mono ?_
            rintro e w1 ⟨rfl, hb1⟩
            have hK1 := hK.keep hb1
            clear vv0 vv1 vv2 vv3 vv4 rr0 rr1 rr2 rr3 rr4 cc0 cc1 cc2 cc3 cc4 oo0 oo1 oo2 oo3 oo4 b0 b1 b2 b3 b4 a0 a1 a2 a3 a4
            obtain ⟨vv0, vv1, vv2, vv3, vv4⟩ := hK1.box.head.two
            obtain ⟨rr0, rr1, rr2, rr3, rr4⟩ := hK1.box.tail.head.two
            obtain ⟨cc0, cc1, cc2, cc3, cc4⟩ := hK1.box.tail.tail.head.two
            obtain ⟨oo0, oo1, oo2, oo3, oo4⟩ := hK1.box.tail.tail.tail.head.two
            obtain ⟨b0, b1, b2, b3, b4⟩ := hK1.box.tail.tail.tail.tail.tail.head.two
            obtain ⟨a0, a1, a2, a3, a4⟩ := hK1.box.tail.tail.tail.tail.tail.tail.head.two
            go_wp2_with fail
            refine (may_any hlt H3 H4 _).mono ?_
            rintro e w2 ⟨rfl, hb2⟩
            have hK2 := hK1.keep hb2
            clear vv0 vv1 vv2 vv3 vv4 rr0 rr1 rr2 rr3 rr4 cc0 cc1 cc2 cc3 cc4 oo0 oo1 oo2 oo3 oo4 b0 b1 b2 b3 b4 a0 a1 a2 a3 a4
            obtain ⟨vv0, vv1, vv2, vv3, vv4⟩ := hK2.box.head.two
            obtain ⟨rr0, rr1, rr2, rr3, rr4⟩ := hK2.box.tail.head.two
            obtain ⟨cc0, cc1, cc2, cc3, cc4⟩ := hK2.box.tail.tail.head.two
            obtain ⟨oo0, oo1, oo2, oo3, oo4⟩ := hK2.box.tail.tail.tail.head.two
            obtain ⟨b0, b1, b2, b3, b4⟩ := hK2.box.tail.tail.tail.tail.tail.head.two
            obtain ⟨a0, a1, a2, a3, a4⟩ := hK2.box.tail.tail.tail.tail.tail.tail.head.two
            clear hb1 hb2 hK1 hK H1 H2 H3 H4
            cases z
            · as_aux_lemma =>
                go_wp2_with fail
                go_roundw
                case rel => exact ⟨4 + 1, r0, r1, v0, v1, by omega, rfl, inn_no Hs.out rfl, hK2⟩
                case measure => simp [intOf]
            · cases u
              · as_aux_lemma =>
                  go_wp2_with fail
                  go_roundw
                  case rel => exact ⟨4 + 1, r0, r1, v0, v1, by omega, rfl, inn_no Hs.out rfl, hK2⟩
                  case measure => simp [intOf]
              · cases c1
                · as_aux_lemma =>
                    go_wp2_with fail
                    go_roundw
                    case rel => exact ⟨4 + 1, r0, r1, v0, v1, by omega, rfl, inn_no Hs.out rfl, hK2⟩
                    case measure => simp [intOf]
                · as_aux_lemma =>
                    go_wp2_with fail
                    refine (bitOf_is Hb _).mono ?_
                    rintro e w3 ⟨rfl, rfl⟩
                    cases q1 <;> cases q2
                    all_goals
                      first | rw [bi_t] | rw [bi_f]
                      try first | rw [bi_t] | rw [bi_f]
                      go_wp2_with fail
                      go_roundw
                      case rel => exact ⟨4 + 1, _, _, _, _, by omega, rfl, inn_yes Hs.out rfl rfl rfl rfl Hb.out, (hK2.set1 1 rfl rfl).set1 0 rfl rfl⟩
                      case measure => simp [intOf]
          · as_aux_lemma =>
            obtain ⟨q1, q2, Hb⟩ := bo_ex op true false true
            go_wp2_with fail
            refine (may_any hlt H1 H2 _).mono ?_
            rintro e w1 ⟨rfl, hb1⟩
            have hK1 := hK.keep hb1
            clear vv0 vv1 vv2 vv3 vv4 rr0 rr1 rr2 rr3 rr4 cc0 cc1 cc2 cc3 cc4 oo0 oo1 oo2 oo3 oo4 b0 b1 b2 b3 b4 a0 a1 a2 a3 a4
            obtain ⟨vv0, vv1, vv2, vv3, vv4⟩ := hK1.box.head.two
            obtain ⟨rr0, rr1, rr2, rr3, rr4⟩ := hK1.box.tail.head.two
            obtain ⟨cc0, cc1, cc2, cc3, cc4⟩ := hK1.box.tail.tail.head.two
            obtain ⟨oo0, oo1, oo2, oo3, oo4⟩ := hK1.box.tail.tail.tail.head.two
            obtain ⟨b0, b1, b2, b3, b4⟩ := hK1.box.tail.tail.tail.tail.tail.head.two
            obtain ⟨a0, a1, a2, a3, a4⟩ := hK1.box.tail.tail.tail.tail.tail.tail.head.two
            go_wp2_with fail
            refine (may_any hlt H3 H4 _).mono ?_
            rintro e w2 ⟨rfl, hb2⟩
            have hK2 := hK1.keep hb2
            clear vv0 vv1 vv2 vv3 vv4 rr0 rr1 rr2 rr3 rr4 cc0 cc1 cc2 cc3 cc4 oo0 oo1 oo2 oo3 oo4 b0 b1 b2 b3 b4 a0 a1 a2 a3 a4
            obtain ⟨vv0, vv1, vv2, vv3, vv4⟩ := hK2.box.head.two
            obtain ⟨rr0, rr1, rr2, rr3, rr4⟩ := hK2.box.tail.head.two
            obtain ⟨cc0, cc1, cc2, cc3, cc4⟩ := hK2.box.tail.tail.head.two
            obtain ⟨oo0, oo1, oo2, oo3, oo4⟩ := hK2.box.tail.tail.tail.head.two
            obtain ⟨b0, b1, b2, b3, b4⟩ := hK2.box.tail.tail.tail.tail.tail.head.two
            obtain ⟨a0, a1, a2, a3, a4⟩ := hK2.box.tail.tail.tail.tail.tail.tail.head.two
            clear hb1 hb2 hK1 hK H1 H2 H3 H4
            cases o
            · as_aux_lemma =>
                go_wp2_with fail
                go_roundw
                case rel => exact ⟨5 + 1, r0, r1, v0, v1, by omega, rfl, inn_no Hs.out rfl, hK2⟩
                case measure => simp [intOf]
            · cases u
              · as_aux_lemma =>
                  go_wp2_with fail
                  go_roundw
                  case rel => exact ⟨5 + 1, r0, r1, v0, v1, by omega, rfl, inn_no Hs.out rfl, hK2⟩
                  case measure => simp [intOf]
              · cases c1
                · as_aux_lemma =>
                    go_wp2_with fail
                    go_roundw
                    case rel => exact ⟨5 + 1, r0, r1, v0, v1, by omega, rfl, inn_no Hs.out rfl, hK2⟩
                    case measure => simp [intOf]
                · as_aux_lemma =>
                    go_wp2_with fail
                    refine (bitOf_is Hb _).mono ?_
                    rintro e w3 ⟨rfl, rfl⟩
                    cases q1 <;> cases q2
                    all_goals
                      first | rw [bi_t] | rw [bi_f]
                      try first | rw [bi_t] | rw [bi_f]
                      go_wp2_with fail
                      go_roundw
                      case rel => exact ⟨5 + 1, _, _, _, _, by omega, rfl, inn_yes Hs.out rfl rfl rfl rfl Hb.out, (hK2.set1 1 rfl rfl).set1 0 rfl rfl⟩
                      case measure => simp [intOf]
          · as_aux_lemma =>
            obtain ⟨q1, q2, Hb⟩ := bo_ex op false true true
            go_wp2_with fail
            refine (may_any hlt H1 H2 _).mono ?_
            rintro e w1 ⟨rfl, hb1⟩
            have hK1 := hK.keep hb1
            clear vv0 vv1 vv2 vv3 vv4 rr0 rr1 rr2 rr3 rr4 cc0 cc1 cc2 cc3 cc4 oo0 oo1 oo2 oo3 oo4 b0 b1 b2 b3 b4 a0 a1 a2 a3 a4
            obtain ⟨vv0, vv1, vv2, vv3, vv4⟩ := hK1.box.head.two
            obtain ⟨rr0, rr1, rr2, rr3, rr4⟩ := hK1.box.tail.head.two
            obtain ⟨cc0, cc1, cc2, cc3, cc4⟩ := hK1.box.tail.tail.head.two
            obtain ⟨oo0, oo1, oo2, oo3, oo4⟩ := hK1.box.tail.tail.tail.head.two
            obtain ⟨b0, b1, b2, b3, b4⟩ := hK1.box.tail.tail.tail.tail.tail.head.two
            obtain ⟨a0, a1, a2, a3, a4⟩ := hK1.box.tail.tail.tail.tail.tail.tail.head.two
            go_wp2_with fail
            refine (may_any hlt H3 H4 _).mono ?_
            rintro e w2 ⟨rfl, hb2⟩
            have hK2 := hK1.keep hb2
            clear vv0 vv1 vv2 vv3 vv4 rr0 rr1 rr2 rr3 rr4 cc0 cc1 cc2 cc3 cc4 oo0 oo1 oo2 oo3 oo4 b0 b1 b2 b3 b4 a0 a1 a2 a3 a4
            obtain ⟨vv0, vv1, vv2, vv3, vv4⟩ := hK2.box.head.two
            obtain ⟨rr0, rr1, rr2, rr3, rr4⟩ := hK2.box.tail.head.two
            obtain ⟨cc0, cc1, cc2, cc3, cc4⟩ := hK2.box.tail.tail.head.two
            obtain ⟨oo0, oo1, oo2, oo3, oo4⟩ := hK2.box.tail.tail.tail.head.two
            obtain ⟨b0, b1, b2, b3, b4⟩ := hK2.box.tail.tail.tail.tail.tail.head.two
            obtain ⟨a0, a1, a2, a3, a4⟩ := hK2.box.tail.tail.tail.tail.tail.tail.head.two
            clear hb1 hb2 hK1 hK H1 H2 H3 H4
            cases z
            · as_aux_lemma =>
                go_wp2_with fail
                go_roundw
                case rel => exact ⟨6 + 1, r0, r1, v0, v1, by omega, rfl, inn_no Hs.out rfl, hK2⟩
                case measure => simp [intOf]
            · cases p
              · as_aux_lemma =>
                  go_wp2_with fail
                  go_roundw
                  case rel => exact ⟨6 + 1, r0, r1, v0, v1, by omega, rfl, inn_no Hs.out rfl, hK2⟩
                  case measure => simp [intOf]
              · cases c1
                · as_aux_lemma =>
                    go_wp2_with fail
                    go_roundw
                    case rel => exact ⟨6 + 1, r0, r1, v0, v1, by omega, rfl, inn_no Hs.out rfl, hK2⟩
                    case measure => simp [intOf]
                · as_aux_lemma =>
                    go_wp2_with fail
                    refine (bitOf_is Hb _).mono ?_
                    rintro e w3 ⟨rfl, rfl⟩
                    cases q1 <;> cases q2
                    all_goals
                      first | rw [bi_t] | rw [bi_f]
                      try first | rw [bi_t] | rw [bi_f]
                      go_wp2_with fail
                      go_roundw
                      case rel => exact ⟨6 + 1, _, _, _, _, by omega, rfl, inn_yes Hs.out rfl rfl rfl rfl Hb.out, (hK2.set1 1 rfl rfl).set1 0 rfl rfl⟩
                      case measure => simp [intOf]
          · as_aux_lemma =>
            obtain ⟨q1, q2, Hb⟩ := bo_ex op true true true
            go_wp2_with fail
            refine (may_any hlt H1 H2 _).mono ?_
            rintro e w1 ⟨rfl, hb1⟩
            have hK1 := hK.keep hb1
            clear vv0 vv1 vv2 vv3 vv4 rr0 rr1 rr2 rr3 rr4 cc0 cc1 cc2 cc3 cc4 oo0 oo1 oo2 oo3 oo4 b0 b1 b2 b3 b4 a0 a1 a2 a3 a4
            obtain ⟨vv0, vv1, vv2, vv3, vv4⟩ := hK1.box.head.two
            obtain ⟨rr0, rr1, rr2, rr3, rr4⟩ := hK1.box.tail.head.two
            obtain ⟨cc0, cc1, cc2, cc3, cc4⟩ := hK1.box.tail.tail.head.two
            obtain ⟨oo0, oo1, oo2, oo3, oo4⟩ := hK1.box.tail.tail.tail.head.two
            obtain ⟨b0, b1, b2, b3, b4⟩ := hK1.box.tail.tail.tail.tail.tail.head.two
            obtain ⟨a0, a1, a2, a3, a4⟩ := hK1.box.tail.tail.tail.tail.tail.tail.head.two
            go_wp2_with fail
            refine (may_any hlt H3 H4 _).mono ?_
            rintro e w2 ⟨rfl, hb2⟩
            have hK2 := hK1.keep hb2
            clear vv0 vv1 vv2 vv3 vv4 rr0 rr1 rr2 rr3 rr4 cc0 cc1 cc2 cc3 cc4 oo0 oo1 oo2 oo3 oo4 b0 b1 b2 b3 b4 a0 a1 a2 a3 a4
            obtain ⟨vv0, vv1, vv2, vv3, vv4⟩ := hK2.box.head.two
            obtain ⟨rr0, rr1, rr2, rr3, rr4⟩ := hK2.box.tail.head.two
            obtain ⟨cc0, cc1, cc2, cc3, cc4⟩ := hK2.box.tail.tail.head.two
            obtain ⟨oo0, oo1, oo2, oo3, oo4⟩ := hK2.box.tail.tail.tail.head.two
            obtain ⟨b0, b1, b2, b3, b4⟩ := hK2.box.tail.tail.tail.tail.tail.head.two
            obtain ⟨a0, a1, a2, a3, a4⟩ := hK2.box.tail.tail.tail.tail.tail.tail.head.two
            clear hb1 hb2 hK1 hK H1 H2 H3 H4
            cases o
            · as_aux_lemma =>
                go_wp2_with fail
                go_roundw
                case rel => exact ⟨7 + 1, r0, r1, v0, v1, by omega, rfl, inn_no Hs.out rfl, hK2⟩
                case measure => simp [intOf]
            · cases p
              · as_aux_lemma =>
                  go_wp2_with fail
                  go_roundw
                  case rel => exact ⟨7 + 1, r0, r1, v0, v1, by omega, rfl, inn_no Hs.out rfl, hK2⟩
                  case measure => simp [intOf]
              · cases c1
                · as_aux_lemma =>
                    go_wp2_with fail
                    go_roundw
                    case rel => exact ⟨7 + 1, r0, r1, v0, v1, by omega, rfl, inn_no Hs.out rfl, hK2⟩
                    case measure => simp [intOf]
                · as_aux_lemma =>
                    go_wp2_with fail
                    refine (bitOf_is Hb _).mono ?_
                    rintro e w3 ⟨rfl, rfl⟩
                    cases q1 <;> cases q2
                    all_goals
                      first | rw [bi_t] | rw [bi_f]
                      try first | rw [bi_t] | rw [bi_f]
                      go_wp2_with fail
                      go_roundw
                      case rel => exact ⟨7 + 1, _, _, _, _, by omega, rfl, inn_yes Hs.out rfl rfl rfl rfl Hb.out, (hK2.set1 1 rfl rfl).set1 0 rfl rfl⟩
                      case measure => simp [intOf]
        · have e8 : k = 8 := by omega
          subst e8
          go_wp2_with fail
          refine (put_any _ _ i hlt _ _ _).mono ?_
          rintro e w1 ⟨rfl, hb1⟩
          have hK1 := hK.keep hb1
          clear vv0 vv1 vv2 vv3 vv4 rr0 rr1 rr2 rr3 rr4 cc0 cc1 cc2 cc3 cc4 oo0 oo1 oo2 oo3 oo4 b0 b1 b2 b3 b4 a0 a1 a2 a3 a4
          obtain ⟨vv0, vv1, vv2, vv3, vv4⟩ := hK1.box.head.two
          obtain ⟨rr0, rr1, rr2, rr3, rr4⟩ := hK1.box.tail.head.two
          obtain ⟨cc0, cc1, cc2, cc3, cc4⟩ := hK1.box.tail.tail.head.two
          obtain ⟨oo0, oo1, oo2, oo3, oo4⟩ := hK1.box.tail.tail.tail.head.two
          obtain ⟨b0, b1, b2, b3, b4⟩ := hK1.box.tail.tail.tail.tail.tail.head.two
          obtain ⟨a0, a1, a2, a3, a4⟩ := hK1.box.tail.tail.tail.tail.tail.tail.head.two
          have hK2 := hK1.set2 (x := U (putV V i r0 r1)) (y := U (putM M i r0 r1)) 3 rfl
          obtain ⟨vvv0, vvv1, vvv2, vvv3, vvv4⟩ := hK2.box.head.two
          obtain ⟨ccc0, ccc1, ccc2, ccc3, ccc4⟩ := hK2.box.tail.tail.head.two
          go_wp2_with fail
          have hS : inn op (mz av i) (mo av am i) (mz bv i) (mo bv bm i) (twoC op av am bv bm i).1 (twoC op av am bv bm i).2 8 = ((r0, r1), (v0, v1)) := by
            rw [← H1.out, ← H2.out, ← H3.out, ← H4.out, HC.out]; exact Hs.out
          have hR1 : twoR op av am bv bm i = (r0, r1) := by unfold twoR; rw [hS]
          exact ⟨⟨i + 1, v0, v1, _, _, by omega, by go_num, by show (inn op (mz av i) (mo av am i) (mz bv i) (mo bv bm i) (twoC op av am bv bm i).1 (twoC op av am bv bm i).2 8).2 = _; rw [hS],
            by rw [← twoV_succ, hR1, HV.out], by rw [← twoM_succ, hR1, HM.out], ⟨((hK2.set2 (x := .bool v0) (y := .bool v1) 2 rfl)).bel, ((hK2.set2 (x := .bool v0) (y := .bool v1) 2 rfl)).box.tail.tail, fun q hq => ((hK2.set2 (x := .bool v0) (y := .bool v1) 2 rfl)).lo q (List.mem_cons_of_mem _ (List.mem_cons_of_mem _ hq))⟩⟩, by simp [intOf]; omega⟩
    · have e64 : i = 64 := by omega
      subst e64
      obtain ⟨cc0, cc1, cc2, cc3, cc4⟩ := hK.box.head.two
      obtain ⟨oo0, oo1, oo2, oo3, oo4⟩ := hK.box.tail.head.two
      obtain ⟨zz0, zz1, zz2, zz3, zz4⟩ := hK.box.tail.tail.head.two
      obtain ⟨b0, b1, b2, b3, b4⟩ := hK.box.tail.tail.tail.head.two
      obtain ⟨a0, a1, a2, a3, a4⟩ := hK.box.tail.tail.tail.tail.head.two
      go_wp2_with fail
      rw [← HV.out, ← HM.out] at *
      exact bodyPost_ret (v := Bt (twoV op av am bv bm 64) (twoM op av am bv bm 64)) (by simp [results, Try.results81, go_sem, zz0, zz1]) rfl ⟨rfl, (hK.set2 (x := _) (y := _) 2 rfl).bel⟩

end Go.Proofs.Ytkigmocchaikgaa

/- That twoBits' answers are package bits' own: add, sub, and, or, xor; plain facts. -/
namespace Go.Proofs.Ytkigmocchaikgaa

/- the eight ways of one bit, decided -/
theorem inn_add : ∀ a m b n cm cM : Bool, (a && m) = false → (b && n) = false → (cm = true → cM = true) →
    (inn 2 (!a) (a || m) (!b) (b || n) (!cm) cM 8).2 = (!((a && b) || (cm && (a || b))), ((a || m) && (b || n)) || (cM && ((a || m) || (b || n))))
    ∧ ((inn 2 (!a) (a || m) (!b) (b || n) (!cm) cM 8).1.2 && (inn 2 (!a) (a || m) (!b) (b || n) (!cm) cM 8).1.1) = (m || n || (!cm && cM))
    ∧ ((inn 2 (!a) (a || m) (!b) (b || n) (!cm) cM 8).1.2 && !(inn 2 (!a) (a || m) (!b) (b || n) (!cm) cM 8).1.1) = (((a ^^ b) ^^ cm) && !(m || n || (!cm && cM))) := by
  decide
theorem inn_sub : ∀ a m b n cm cM : Bool, (a && m) = false → (b && n) = false → (cm = true → cM = true) →
    (inn 3 (!a) (a || m) (!b) (b || n) (!cm) cM 8).2 = (!((!(a || m) && b) || (cm && (!(a || m) || b))), (!a && (b || n)) || (cM && (!a || (b || n))))
    ∧ ((inn 3 (!a) (a || m) (!b) (b || n) (!cm) cM 8).1.2 && (inn 3 (!a) (a || m) (!b) (b || n) (!cm) cM 8).1.1) = (m || n || (!cm && cM))
    ∧ ((inn 3 (!a) (a || m) (!b) (b || n) (!cm) cM 8).1.2 && !(inn 3 (!a) (a || m) (!b) (b || n) (!cm) cM 8).1.1) = (((a ^^ b) ^^ cm) && !(m || n || (!cm && cM))) := by
  decide
theorem inn_and : ∀ a m b n : Bool, (a && m) = false → (b && n) = false →
    (inn 5 (!a) (a || m) (!b) (b || n) true false 8).2 = (true, false)
    ∧ ((inn 5 (!a) (a || m) (!b) (b || n) true false 8).1.2 && (inn 5 (!a) (a || m) (!b) (b || n) true false 8).1.1) = (((a || m) && (b || n)) && !(a && b))
    ∧ ((inn 5 (!a) (a || m) (!b) (b || n) true false 8).1.2 && !(inn 5 (!a) (a || m) (!b) (b || n) true false 8).1.1) = (a && b) := by
  decide
theorem inn_or : ∀ a m b n : Bool, (a && m) = false → (b && n) = false →
    (inn 6 (!a) (a || m) (!b) (b || n) true false 8).2 = (true, false)
    ∧ ((inn 6 (!a) (a || m) (!b) (b || n) true false 8).1.2 && (inn 6 (!a) (a || m) (!b) (b || n) true false 8).1.1) = ((m || n) && !(a || b))
    ∧ ((inn 6 (!a) (a || m) (!b) (b || n) true false 8).1.2 && !(inn 6 (!a) (a || m) (!b) (b || n) true false 8).1.1) = (a || b) := by
  decide
theorem inn_xor : ∀ a m b n : Bool, (a && m) = false → (b && n) = false →
    (inn 7 (!a) (a || m) (!b) (b || n) true false 8).2 = (true, false)
    ∧ ((inn 7 (!a) (a || m) (!b) (b || n) true false 8).1.2 && (inn 7 (!a) (a || m) (!b) (b || n) true false 8).1.1) = (m || n)
    ∧ ((inn 7 (!a) (a || m) (!b) (b || n) true false 8).1.2 && !(inn 7 (!a) (a || m) (!b) (b || n) true false 8).1.1) = ((a ^^ b) && !(m || n)) := by
  decide


theorem cy_le (av am bv bm : BitVec 64) (i : Nat) : cy av bv i = true → cy (bor av am) (bor bv bm) i = true :=
  cy_mono av bv (bor av am) (bor bv bm) (fun i h => by rw [bit_or, h]; rfl) (fun i h => by rw [bit_or, h]; rfl) i
theorem bw_le (av am bv bm : BitVec 64) (i : Nat) : bw (bor av am) bv i = true → bw av (bor bv bm) i = true :=
  bw_mono (bor av am) bv av (bor bv bm) (fun i h => by rw [bit_or, h]; rfl) (fun i h => by rw [bit_or, h]; rfl) i

theorem twoC_add {av am bv bm : BitVec 64} (ha : ∀ j, (bit av j && bit am j) = false) (hb : ∀ j, (bit bv j && bit bm j) = false) (i : Nat) : twoC 2 av am bv bm i = (!cy av bv i, cy (bor av am) (bor bv bm) i) := by
  induction i with
  | zero => rw [cy_zero, cy_zero]; rfl
  | succ i ih =>
    simp only [twoC]
    rw [ih, cy_succ, cy_succ, bit_or, bit_or]
    exact (inn_add (bit av i) (bit am i) (bit bv i) (bit bm i) (cy av bv i) (cy (bor av am) (bor bv bm) i) (ha i) (hb i) (cy_le av am bv bm i)).1
theorem two_add {av am bv bm : BitVec 64} (ha : ∀ j, (bit av j && bit am j) = false) (hb : ∀ j, (bit bv j && bit bm j) = false) : twoV 2 av am bv bm 64 = bandn (badd av bv) (addM av am bv bm) ∧ twoM 2 av am bv bm 64 = addM av am bv bm := by
  have key := fun j => inn_add (bit av j) (bit am j) (bit bv j) (bit bm j) (cy av bv j) (cy (bor av am) (bor bv bm) j) (ha j) (hb j) (cy_le av am bv bm j)
  constructor
  · apply acc_eq; intro j hj
    simp only [twoR]
    rw [twoC_add ha hb j, bit_andn _ _ _ hj, bit_add _ _ _ hj]
    unfold addM
    rw [addM_bit ha hb j hj]
    exact (key j).2.2
  · apply acc_eq; intro j hj
    simp only [twoR]
    rw [twoC_add ha hb j]
    unfold addM
    rw [addM_bit ha hb j hj]
    exact (key j).2.1
theorem twoC_sub {av am bv bm : BitVec 64} (ha : ∀ j, (bit av j && bit am j) = false) (hb : ∀ j, (bit bv j && bit bm j) = false) (i : Nat) (hi : i ≤ 64) : twoC 3 av am bv bm i = (!bw (bor av am) bv i, bw av (bor bv bm) i) := by
  induction i with
  | zero => rw [bw_zero, bw_zero]; rfl
  | succ i ih =>
    simp only [twoC]
    rw [ih (by omega), bw_succ _ _ _ (by omega), bw_succ _ _ _ (by omega), bit_or, bit_or]
    exact (inn_sub (bit av i) (bit am i) (bit bv i) (bit bm i) (bw (bor av am) bv i) (bw av (bor bv bm) i) (ha i) (hb i) (bw_le av am bv bm i)).1
theorem two_sub {av am bv bm : BitVec 64} (ha : ∀ j, (bit av j && bit am j) = false) (hb : ∀ j, (bit bv j && bit bm j) = false) : twoV 3 av am bv bm 64 = bandn (bsub av bv) (subM av am bv bm) ∧ twoM 3 av am bv bm 64 = subM av am bv bm := by
  have key := fun j => inn_sub (bit av j) (bit am j) (bit bv j) (bit bm j) (bw (bor av am) bv j) (bw av (bor bv bm) j) (ha j) (hb j) (bw_le av am bv bm j)
  constructor
  · apply acc_eq; intro j hj
    simp only [twoR]
    rw [twoC_sub ha hb j (by omega), bit_andn _ _ _ hj, bit_sub _ _ _ hj]
    unfold subM
    rw [subM_bit ha hb j hj]
    have h1 := (key j).2.2
    have m3 := bw_mono (bor av am) bv av bv (fun i h => by rw [bit_or, h]; rfl) (fun i h => h) j
    have m4 := bw_mono av bv av (bor bv bm) (fun i h => h) (fun i h => by rw [bit_or, h]; rfl) j
    refine h1.trans ?_
    revert m3 m4
    cases bit av j <;> cases bit am j <;> cases bit bv j <;> cases bit bm j <;> cases bw (bor av am) bv j <;> cases bw av bv j <;> cases bw av (bor bv bm) j <;> simp
  · apply acc_eq; intro j hj
    simp only [twoR]
    rw [twoC_sub ha hb j (by omega)]
    unfold subM
    rw [subM_bit ha hb j hj]
    exact (key j).2.1
theorem twoC_and {av am bv bm : BitVec 64} (ha : ∀ j, (bit av j && bit am j) = false) (hb : ∀ j, (bit bv j && bit bm j) = false) (i : Nat) : twoC 5 av am bv bm i = (true, false) := by
  induction i with
  | zero => rfl
  | succ i ih => simp only [twoC]; rw [ih]; exact (inn_and (bit av i) (bit am i) (bit bv i) (bit bm i) (ha i) (hb i)).1
theorem two_and {av am bv bm : BitVec 64} (ha : ∀ j, (bit av j && bit am j) = false) (hb : ∀ j, (bit bv j && bit bm j) = false) : twoV 5 av am bv bm 64 = band av bv ∧ twoM 5 av am bv bm 64 = bandn (band (bor av am) (bor bv bm)) (band av bv) := by
  have key := fun j => inn_and (bit av j) (bit am j) (bit bv j) (bit bm j) (ha j) (hb j)
  constructor
  · apply acc_eq; intro j hj
    simp only [twoR]
    rw [twoC_and ha hb j, bit_and']
    exact (key j).2.2
  · apply acc_eq; intro j hj
    simp only [twoR]
    rw [twoC_and ha hb j, bit_andn _ _ _ hj, bit_and', bit_and', bit_or, bit_or]
    exact (key j).2.1
theorem twoC_or {av am bv bm : BitVec 64} (ha : ∀ j, (bit av j && bit am j) = false) (hb : ∀ j, (bit bv j && bit bm j) = false) (i : Nat) : twoC 6 av am bv bm i = (true, false) := by
  induction i with
  | zero => rfl
  | succ i ih => simp only [twoC]; rw [ih]; exact (inn_or (bit av i) (bit am i) (bit bv i) (bit bm i) (ha i) (hb i)).1
theorem two_or {av am bv bm : BitVec 64} (ha : ∀ j, (bit av j && bit am j) = false) (hb : ∀ j, (bit bv j && bit bm j) = false) : twoV 6 av am bv bm 64 = bor av bv ∧ twoM 6 av am bv bm 64 = bandn (bor am bm) (bor av bv) := by
  have key := fun j => inn_or (bit av j) (bit am j) (bit bv j) (bit bm j) (ha j) (hb j)
  constructor
  · apply acc_eq; intro j hj
    simp only [twoR]
    rw [twoC_or ha hb j, bit_or]
    exact (key j).2.2
  · apply acc_eq; intro j hj
    simp only [twoR]
    rw [twoC_or ha hb j, bit_andn _ _ _ hj, bit_or, bit_or]
    exact (key j).2.1
theorem twoC_xor {av am bv bm : BitVec 64} (ha : ∀ j, (bit av j && bit am j) = false) (hb : ∀ j, (bit bv j && bit bm j) = false) (i : Nat) : twoC 7 av am bv bm i = (true, false) := by
  induction i with
  | zero => rfl
  | succ i ih => simp only [twoC]; rw [ih]; exact (inn_xor (bit av i) (bit am i) (bit bv i) (bit bm i) (ha i) (hb i)).1
theorem two_xor {av am bv bm : BitVec 64} (ha : ∀ j, (bit av j && bit am j) = false) (hb : ∀ j, (bit bv j && bit bm j) = false) : twoV 7 av am bv bm 64 = bandn (bxor av bv) (bor am bm) ∧ twoM 7 av am bv bm 64 = bor am bm := by
  have key := fun j => inn_xor (bit av j) (bit am j) (bit bv j) (bit bm j) (ha j) (hb j)
  constructor
  · apply acc_eq; intro j hj
    simp only [twoR]
    rw [twoC_xor ha hb j, bit_andn _ _ _ hj, bit_xor, bit_or]
    exact (key j).2.2
  · apply acc_eq; intro j hj
    simp only [twoR]
    rw [twoC_xor ha hb j, bit_or]
    exact (key j).2.1
end Go.Proofs.Ytkigmocchaikgaa

/- The contract of the reference's TwoBits. -/
namespace Go.Proofs.Ytkigmocchaikgaa
open Go.RowKit
attribute [local go_sem] w_and w_or w_xor w_andNot w_and1 w_and63 w_add w_sub w_mul w_sub1 w_add1 w_shl w_shl1 w_shr c_beq c_bne c_beq0 c_bne0 c_beq1 c_bne1 wrap_nv

/- what comes of sums is right again -/
theorem addP_right {a b : BitVec 64 × BitVec 64} : eqb (band (addP a b).1 (addP a b).2) zero = true := by
  rw [right_iff]; intro j
  by_cases hj : j < 64
  · simp only [addP]; rw [bit_andn _ _ _ hj]; cases bit (badd a.1 b.1) j <;> cases bit (addM a.1 a.2 b.1 b.2) j <;> rfl
  · rw [bit_big _ _ (by omega)]; rfl
theorem mulS_right (av am bv bm : BitVec 64) (k : Nat) : eqb (band (mulS av am bv bm k).1 (mulS av am bv bm k).2) zero = true := by
  induction k with
  | zero => exact (by decide : eqb (band zero zero) zero = true)
  | succ k ih =>
    simp only [mulS]
    by_cases h1 : bit av k = true
    · rw [if_pos h1]; exact addP_right
    · rw [if_neg h1]
      by_cases h2 : bit am k = true
      · rw [if_pos h2]; exact addP_right
      · rw [if_neg h2]; exact ih
theorem shl_right {v m : BitVec 64} (h : eqb (band v m) zero = true) (k : Nat) : eqb (band (bshl v k) (bshl m k)) zero = true := by
  rw [right_iff] at h ⊢
  intro j
  by_cases hj : j < 64
  · rw [bit_shl _ _ _ hj, bit_shl _ _ _ hj]
    have := h (j - k)
    revert this
    cases decide (k ≤ j) <;> cases bit v (j - k) <;> cases bit m (j - k) <;> simp
  · rw [bit_big _ _ (by omega)]; rfl
theorem zero_right (m : BitVec 64) : eqb (band zero m) zero = true := by
  rw [right_iff]; intro j; rw [bit_zero]; rfl
/- a sum, by twoBits -/
theorem twoBits_add {av am bv bm : BitVec 64} (ha : eqb (band av am) zero = true) (hb : eqb (band bv bm) zero = true) (w : World) :
    Calls Try.prog 81 #[N 2, Bt av am, Bt bv bm] w fun e w' => e = .returned (Bt (addP (av, am) (bv, bm)).1 (addP (av, am) (bv, bm)).2) ∧ Below w.heap.size w w' := by
  have h := twoBits_any 2 av am bv bm w
  rw [(two_add ((right_iff _ _).1 ha) ((right_iff _ _).1 hb)).1, (two_add ((right_iff _ _).1 ha) ((right_iff _ _).1 hb)).2] at h
  exact h
theorem twoBits_is {op : Int} {av am bv bm : BitVec 64} (hop : op = 2 ∨ op = 3 ∨ op = 5 ∨ op = 6 ∨ op = 7) (ha : eqb (band av am) zero = true) (hb : eqb (band bv bm) zero = true) (w : World) :
    Calls Try.prog 81 #[N op, Bt av am, Bt bv bm] w fun e w' => e = .returned (Bt (twoP op av am bv bm).1 (twoP op av am bv bm).2) ∧ Below w.heap.size w w' := by
  have h := twoBits_any op av am bv bm w
  have ra := (right_iff _ _).1 ha
  have rb := (right_iff _ _).1 hb
  rcases hop with rfl | rfl | rfl | rfl | rfl
  · rw [(two_add ra rb).1, (two_add ra rb).2] at h; exact h
  · rw [(two_sub ra rb).1, (two_sub ra rb).2] at h; exact h
  · rw [(two_and ra rb).1, (two_and ra rb).2] at h; exact h
  · rw [(two_or ra rb).1, (two_or ra rb).2] at h; exact h
  · rw [(two_xor ra rb).1, (two_xor ra rb).2] at h; exact h
theorem shiftUp_is {v m : BitVec 64} (h : eqb (band v m) zero = true) {n : Nat} (hn : n < 64) (w : World) :
    Calls Try.prog 20 #[N 8, Bt v m, N n] w fun e w' => e = .returned (Bt (bshl v n) (bshl m n)) ∧ Below w.heap.size w w' := by
  have hh := shiftBits_any true 8 rfl v m n hn w
  rw [(sh_up_eq h n).1, (sh_up_eq h n).2] at hh
  exact hh

set_option maxRecDepth 100000 in
set_option maxHeartbeats 2000000 in
theorem TwoBits_plain {op : Int} {av am bv bm : BitVec 64} (hop : Hid (op = 2 ∨ op = 3 ∨ op = 5 ∨ op = 6 ∨ op = 7)) (ha : Hid (eqb (band av am) zero = true)) (hb : Hid (eqb (band bv bm) zero = true)) (w : World) :
    Calls Try.prog 29 #[N op, Bt av am, Bt bv bm] w fun e w' => e = .returned (Bt (twoP op av am bv bm).1 (twoP op av am bv bm).2) ∧ Below w.heap.size w w' := by
  have h4 : (op != 4) = true := by rcases hop.out with rfl | rfl | rfl | rfl | rfl <;> decide
  go_enter Try.func29, Try.ntmps29
  go_wp2_with fail
  refine (twoBits_is hop.out ha.out hb.out _).mono ?_
  rintro e w1 ⟨rfl, hb1⟩
  obtain ⟨hc1, hf1, hs1⟩ := bk (w.heap.size + 1 + 1 + 1) hb1 (by simp)
  go_wp2_with fail
  exact bodyPost_ret (v := Bt (twoP op av am bv bm).1 (twoP op av am bv bm).2) (by simp [results, Try.results29, go_sem, hc1]) rfl ⟨rfl, (by repeat (first | exact Below.refl _ _ | assumption | refine below_drewN ?_ _ | refine Below.drew ?_ | refine Below.alloc ?_ (by first | exact Nat.le_refl _ | (simp; done) | (simp; omega) | omega) _ | refine Below.setCell ?_ (by first | exact Nat.le_refl _ | (simp; done) | (simp; omega) | omega) _ | refine Below.trans ?_ (Below.mono (by assumption) (by first | exact Nat.le_refl _ | (simp; done) | (simp; omega) | omega))))⟩

set_option maxRecDepth 100000 in
set_option maxHeartbeats 2000000 in
theorem TwoBits_mul {av am bv bm : BitVec 64} (hb : Hid (eqb (band bv bm) zero = true)) (w : World) :
    Calls Try.prog 29 #[N 4, Bt av am, Bt bv bm] w fun e w' => e = .returned (Bt (mulS av am bv bm 64).1 (mulS av am bv bm 64).2) ∧ Below w.heap.size w w' := by
  go_enter Try.func29, Try.ntmps29
  go_wp2_with fail
  go_loopw [8] (fun i wr => ∃ k : Nat, k ≤ 64 ∧ i = N k
      ∧ Below (w.heap.size + 1 + 1 + 1) (((w.alloc (.cells #[U av, U am] 24)).alloc (.cells #[U bv, U bm] 24)).alloc (.cells #[.int .u64 0, .int .u64 0] 24)) wr
      ∧ wr.cell? ⟨w.heap.size + 1 + 1 + 1, 0, none⟩ = some (U (mulS av am bv bm k).1) ∧ wr.cell? ⟨w.heap.size + 1 + 1 + 1, 1, none⟩ = some (U (mulS av am bv bm k).2)
      ∧ (∀ o, wr.frozen? ⟨w.heap.size + 1 + 1 + 1, o, none⟩ = false)
      ∧ w.heap.size + 1 + 1 + 1 + 1 ≤ wr.heap.size) (fun i _ => 64 - (intOf i).toNat)
  case atStart =>
    exact ⟨0, by omega, rfl, (by repeat (first | exact Below.refl _ _ | assumption | refine below_drewN ?_ _ | refine Below.drew ?_ | refine Below.alloc ?_ (by first | exact Nat.le_refl _ | (simp; done) | (simp; omega) | omega) _ | refine Below.setCell ?_ (by first | exact Nat.le_refl _ | (simp; done) | (simp; omega) | omega) _ | refine Below.trans ?_ (Below.mono (by assumption) (by first | exact Nat.le_refl _ | (simp; done) | (simp; omega) | omega)))), by simp [mulS, nv_zero, go_sem], by simp [mulS, nv_zero, go_sem], by simp [go_sem], by simp⟩
  case round =>
    obtain ⟨k, hk, rfl, hbel, ho0, ho1, hfo, hsz⟩ := hrel
    obtain ⟨hc, hf⟩ := bl hbel
    by_cases hlt : k < 64
    · obtain ⟨z, o, H1, H2⟩ := may_eq av am k
      have Hr : Hid (eqb (band (mulS av am bv bm k).1 (mulS av am bv bm k).2) zero = true) := mulS_right av am bv bm k
      have Hs : Hid (mulS av am bv bm (k + 1) = if bit av k then addP (mulS av am bv bm k) (bshl bv k, bshl bm k)
        else if bit am k then addP (mulS av am bv bm k) (zero, bor (bshl bv k) (bshl bm k)) else mulS av am bv bm k) := rfl
      generalize mulS av am bv bm k = S at ho0 ho1 Hs Hr
      obtain ⟨sv, sm⟩ := S
      simp only at ho0 ho1
      have Hu : Hid (eqb (band (bshl bv k) (bshl bm k)) zero = true) := shl_right hb.out k
      go_wp2_with fail
      refine (may_any hlt H1 H2 _).mono ?_
      rintro e w1 ⟨rfl, hb1⟩
      obtain ⟨hc1, hf1, hs1⟩ := bk _ hb1 hsz
      go_wp2_with fail
      refine (shiftUp_is hb.out hlt _).mono ?_
      rintro e w2 ⟨rfl, hb2⟩
      obtain ⟨hc2, hf2, hs2⟩ := bk _ hb2 hs1
      have hlt1 : w.heap.size + 1 + 1 + 1 < w2.heap.size := by omega
      have hlt2 : w.heap.size + 1 + 1 < w2.heap.size := by omega
      have hlt3 : w.heap.size + 1 < w2.heap.size := by omega
      have hlt4 : w.heap.size < w2.heap.size := by omega
      have hb12 : Below wr.heap.size wr w2 := hb1.trans (hb2.mono hb1.size)
      have Hz := H1.out
      have Ho := H2.out
      unfold mz at Hz
      unfold mo at Ho
      cases hA : bit av k <;> cases hM : bit am k
      all_goals
        rw [hA] at Hz
        rw [hA, hM] at Ho
        rw [hA, hM] at Hs
        simp only [Bool.not_true, Bool.not_false, Bool.or_false, Bool.or_true] at Hz Ho
        subst Hz
        subst Ho
        clear H1 H2 hA hM
      · go_wp2_with fail
        exact ⟨⟨k + 1, by omega, by go_num, keep_rel hbel (hb12.trans (((Below.refl _ _).alloc (Nat.le_refl _) _).mono hb12.size)) hsz ho0 ho1 hfo (by rw [Hs.out]; rfl) (by rw [Hs.out]; rfl)⟩, by simp [intOf]; omega⟩
      · go_wp2_with fail
        refine (twoBits_add (bv := zero) Hr.out (zero_right _) _).mono ?_
        rintro e w3 ⟨rfl, hb3⟩
        obtain ⟨hc3, hf3, hs3⟩ := bk (w.heap.size + 1 + 1 + 1 + 1) hb3 (by simp; omega)
        go_wp2_with fail
        exact ⟨⟨k + 1, by omega, by go_num, out_rel hbel (hb12.trans ((((Below.refl _ _).alloc (Nat.le_refl _) _).trans (hb3.mono (by simp))).mono hb12.size)) hsz ho0 ho1 hfo (by rw [Hs.out]; rfl) (by rw [Hs.out]; rfl)⟩, by simp [intOf]; omega⟩
      all_goals
        go_wp2_with fail
        refine (twoBits_add Hr.out Hu.out _).mono ?_
        rintro e w3 ⟨rfl, hb3⟩
        obtain ⟨hc3, hf3, hs3⟩ := bk (w.heap.size + 1 + 1 + 1 + 1) hb3 (by simp; omega)
        go_wp2_with fail
        exact ⟨⟨k + 1, by omega, by go_num, out_rel hbel (hb12.trans ((((Below.refl _ _).alloc (Nat.le_refl _) _).trans (hb3.mono (by simp))).mono hb12.size)) hsz ho0 ho1 hfo (by rw [Hs.out]; rfl) (by rw [Hs.out]; rfl)⟩, by simp [intOf]; omega⟩
    · have hk64 : k = 64 := by omega
      subst hk64
      go_wp2_with fail
      exact bodyPost_ret (v := Bt (mulS av am bv bm 64).1 (mulS av am bv bm 64).2) (by simp [results, Try.results29, go_sem, hc]) rfl ⟨rfl, (by repeat (first | exact Below.refl _ _ | assumption | refine below_drewN ?_ _ | refine Below.drew ?_ | refine Below.alloc ?_ (by first | exact Nat.le_refl _ | (simp; done) | (simp; omega) | omega) _ | refine Below.setCell ?_ (by first | exact Nat.le_refl _ | (simp; done) | (simp; omega) | omega) _ | refine Below.trans ?_ (Below.mono (by assumption) (by first | exact Nat.le_refl _ | (simp; done) | (simp; omega) | omega))))⟩

end Go.Proofs.Ytkigmocchaikgaa

/- The contracts of val and calc, and of the reference's, over plain values. -/
namespace Go.Proofs.Ytkigmocchaikgaa
open Go.RowKit

theorem okc {f : Nat} {A : Array Value} {V : Value} {args : List AV} {v : AV} (h : ∀ w, Calls Try.prog f A w fun e w' => e = .returned V ∧ Below w.heap.size w w') (hA : ∀ β, (args.map (AV.g β)).toArray = A) (hV : ∀ β, v.g β = V) (hv : v.ks = []) : Ok f args v :=
  ok_of_calls hA hV hv h

theorem V4.rt_of {a : V4} (h : a.ok = true) : a.rt = true := (rt_iff _ _).2 (val_facts h).1
theorem both_rt {a b : V4} (ha : a.rt = true) (hb : b.rt = true) : (eqb (band a.v a.m) zero && eqb (band b.v b.m) zero) = true := by
  rw [show eqb (band a.v a.m) zero = true from ha, show eqb (band b.v b.m) zero = true from hb]; rfl
theorem both_ok {a b : V4} (ha : a.ok = true) (hb : b.ok = true) : (valB a.v a.m a.l a.h && valB b.v b.m b.l b.h) = true := by
  rw [show valB a.v a.m a.l a.h = true from ha, show valB b.v b.m b.l b.h = true from hb]; rfl

theorem valCheck_ok (a : V4) : Ok 37 [.ag a.cs] (.c (.i (er a.ok))) := okc (valCheck_any a.v a.m a.l a.h) (fun _ => rfl) (fun _ => rfl) rfl
theorem valHas_ok (a : V4) (x : BitVec 64) : Ok 38 [.ag a.cs, .c (.u x)] (.c (.b (a.has x))) := okc (valHas_any a.v a.m a.l a.h x) (fun _ => rfl) (fun _ => rfl) rfl
theorem valOf_ok (x : BitVec 64) : Ok 40 [.c (.u x)] (.ag (V4.of x).cs) := okc (valOf_any x) (fun _ => rfl) (fun _ => rfl) rfl
theorem valAny_ok : Ok 42 [] (.ag V4.any.cs) := okc valAny_any (fun _ => rfl) (fun _ => rfl) rfl
theorem valJoin_ok {a b : V4} (ha : a.ok = true) (hb : b.ok = true) : Ok 32 [.ag a.cs, .ag b.cs] (.tu [.ag (a.join b).cs, .c (.i 0)]) :=
  okc (valJoin_yes (both_ok ha hb)) (fun _ => rfl) (fun _ => rfl) rfl
theorem refRight_ok (a : V4) : Ok 34 [.ag a.cs] (.c (.b a.ok)) := okc (rightVal_any a.v a.m a.l a.h) (fun _ => rfl) (fun _ => rfl) rfl
theorem refHas_ok (a : V4) (x : BitVec 64) : Ok 39 [.ag a.cs, .c (.u x)] (.c (.b (a.has x))) := okc (refValHas_any a.v a.m a.l a.h x) (fun _ => rfl) (fun _ => rfl) rfl
theorem refOf_ok (x : BitVec 64) : Ok 41 [.c (.u x)] (.ag (V4.of x).cs) := okc (refValOf_any x) (fun _ => rfl) (fun _ => rfl) rfl
theorem refAny_ok : Ok 43 [] (.ag V4.any.cs) := okc refValAny_any (fun _ => rfl) (fun _ => rfl) rfl
theorem refJoin_ok {a b : V4} (ha : a.ok = true) (hb : b.ok = true) : Ok 35 [.ag a.cs, .ag b.cs] (.ag (a.join b).cs) :=
  okc (joinVal_yes (both_ok ha hb)) (fun _ => rfl) (fun _ => rfl) rfl
theorem refNorm_ok {a : V4} (hr : a.rt = true) : Ok 33 [.ag a.cs] (.tu [.ag a.norm.cs, .c (.b a.nok)]) := by
  unfold V4.norm
  cases hn : a.nok
  · exact okc (normVal_none hr hn) (fun _ => rfl) (fun _ => rfl) rfl
  · exact okc (normVal_yes hr hn) (fun _ => rfl) (fun _ => rfl) rfl
theorem refMeet_ok {a b : V4} (ha : a.rt = true) (hb : b.rt = true) :
    Ok 19 [.ag [.u a.v, .u a.m], .ag [.u b.v, .u b.m]] (.tu [.ag (if a.meets b then [.u (bor a.v b.v), .u (band a.m b.m)] else [.u zero, .u zero]), .c (.b (a.meets b))]) := by
  cases hm : a.meets b
  · obtain ⟨j, hj, hno, hok⟩ := meet_ne hm
    exact okc (fun w => meetBits_no a.v a.m b.v b.m j hj hno hok w) (fun _ => rfl) (fun _ => rfl) rfl
  · obtain ⟨h1, h2, h3⟩ := meet_eq (both_rt ha hb) hm
    refine okc (A := #[Bt a.v a.m, Bt b.v b.m]) (V := .tuple #[Bt (bor a.v b.v) (band a.m b.m), .bool true]) (fun w => ?_) (fun _ => rfl) (fun _ => rfl) rfl
    have h := meetBits_ok a.v a.m b.v b.m h1 w
    rw [h2, h3] at h
    exact h
theorem refShift_ok {a : V4} {op : Int} (hop : op = 8 ∨ op = 9) (hr : a.rt = true) {n : Nat} (hn : n < 64) :
    Ok 20 [.c (.i op), .ag [.u a.v, .u a.m], .c (.i n)] (.ag (if op = 8 then [.u (bshl a.v n), .u (bshl a.m n)] else [.u (bshr a.v n), .u (bshr a.m n)])) := by
  rcases hop with rfl | rfl
  · refine okc (A := #[N 8, Bt a.v a.m, N n]) (V := Bt (bshl a.v n) (bshl a.m n)) (fun w => ?_) (fun _ => rfl) (fun _ => rfl) rfl
    have h := shiftBits_any true 8 rfl a.v a.m n hn w
    rw [(sh_up_eq hr n).1, (sh_up_eq hr n).2] at h
    exact h
  · refine okc (A := #[N 9, Bt a.v a.m, N n]) (V := Bt (bshr a.v n) (bshr a.m n)) (fun w => ?_) (fun _ => rfl) (fun _ => rfl) rfl
    have h := shiftBits_any false 9 rfl a.v a.m n hn w
    rw [(sh_down_eq hr n).1, (sh_down_eq hr n).2] at h
    exact h
theorem refTwoBits_ok {a b : V4} {op : Int} (hop : 2 ≤ op ∧ op ≤ 7) (ha : a.rt = true) (hb : b.rt = true) :
    Ok 29 [.c (.i op), .ag [.u a.v, .u a.m], .ag [.u b.v, .u b.m]] (.ag [.u (twoP op a.v a.m b.v b.m).1, .u (twoP op a.v a.m b.v b.m).2]) := by
  by_cases h4 : op = 4
  · subst h4; exact okc (TwoBits_mul hb) (fun _ => rfl) (fun _ => rfl) rfl
  · exact okc (TwoBits_plain (hid (by omega)) ha hb) (fun _ => rfl) (fun _ => rfl) rfl

/- the reference's functions on two values -/
theorem refAlone_ok (a : V4) : Ok 90 [.ag a.cs] (.c (.b a.alone)) := refAlone_w0
theorem refBoth_ok (a b : V4) (i1 i2 : Bool) : Ok 99 [.ag a.cs, .c (.b i1), .ag b.cs, .c (.b i2)] (.tu [.ag (lvV (i1 && i2) a).cs, .ag (lvV (i1 && i2) b).cs, .c (.b (i1 && i2))]) := by
  cases i1
  · exact refBoth_w0 rfl
  · cases i2
    · exact refBoth_w1 rfl
    · exact refBoth_w2 rfl
theorem norm_lv (a : V4) : a.norm = lvV a.nok a.nrm := rfl
theorem lv_lv (p q : Bool) (a : V4) : lvV p (lvV q a) = lvV (p && q) a := by cases p <;> cases q <;> rfl
theorem refEqual_ok {a b : V4} (ha : a.ok = true) (hb : b.ok = true) : Ok 55 [.ag a.cs, .ag b.cs] (.tu [.ag (a.equal b).1.cs, .ag (a.equal b).2.1.cs, .c (.b (a.equal b).2.2)]) := by
  have hm := refMeet_ok (V4.rt_of ha) (V4.rt_of hb)
  unfold V4.equal
  cases h : a.meets b with
  | false => rw [h] at hm; exact refEqual_w0 rfl hm
  | true =>
    rw [h] at hm
    have hrt : (a.rawEqual b).rt = true := (rt_iff _ _).2 (by
      have r1 := (val_facts ha).1
      have r2 := (val_facts hb).1
      intro j
      have h3 := r1 j; have h4 := r2 j
      show (bit (bor a.v b.v) j && bit (band a.m b.m) j) = false
      rw [bit_or, bit_and']
      revert h3 h4
      cases bit a.v j <;> cases bit a.m j <;> cases bit b.v j <;> cases bit b.m j <;> simp)
    have hn := refNorm_ok hrt
    have hbt := refBoth_ok (a.rawEqual b).norm (a.rawEqual b).norm (a.rawEqual b).nok (a.rawEqual b).nok
    have := refEqual_w1 rfl hm hn hbt
    rw [norm_lv, lv_lv] at this
    simp only [if_true, left2, Bool.true_and]
    cases hk : (a.rawEqual b).nok <;> rw [hk] at this <;> exact this
theorem refLess_ok {a b : V4} (ha : a.ok = true) (hb : b.ok = true) : Ok 57 [.ag a.cs, .ag b.cs] (.tu [.ag (a.less b).1.cs, .ag (a.less b).2.1.cs, .c (.b (a.less b).2.2)]) := by
  unfold V4.less
  cases h1 : eqb b.h zero with
  | true => exact refLess_w0 (by rw [show eqb b.h 0#64 = true from h1]; rfl)
  | false =>
    cases h2 : eqb a.l top with
    | true => exact refLess_w1 (by rw [show eqb b.h 0#64 = false from h1, show eqb a.l 18446744073709551615#64 = true from h2]; rfl)
    | false =>
      have n1 := refNorm_ok (a := ⟨a.v, a.m, a.l, bmin a.h (bsub b.h one)⟩) (show a.rt = true from V4.rt_of ha)
      have n2 := refNorm_ok (a := ⟨b.v, b.m, bmax b.l (badd a.l one), b.h⟩) (show b.rt = true from V4.rt_of hb)
      have := refLess_w2 (a := a) (b := b) (by rw [show eqb b.h 0#64 = false from h1, show eqb a.l 18446744073709551615#64 = false from h2]; rfl) n1 n2 (refBoth_ok _ _ _ _)
      rw [norm_lv, norm_lv, lv_lv, lv_lv] at this
      simp only [Bool.or_self, Bool.false_eq_true, if_false, left2, Bool.true_and]
      revert this
      generalize V4.nok _ = k1
      generalize V4.nok _ = k2
      intro this
      cases k1 <;> cases k2 <;> exact this
theorem refNotLess_ok {a b : V4} (ha : a.ok = true) (hb : b.ok = true) : Ok 58 [.ag a.cs, .ag b.cs] (.tu [.ag (a.notLess b).1.cs, .ag (a.notLess b).2.1.cs, .c (.b (a.notLess b).2.2)]) := by
  have n1 := refNorm_ok (a := ⟨a.v, a.m, bmax a.l b.l, a.h⟩) (show a.rt = true from V4.rt_of ha)
  have n2 := refNorm_ok (a := ⟨b.v, b.m, b.l, bmin b.h a.h⟩) (show b.rt = true from V4.rt_of hb)
  have := refNotLess_w0 (a := a) (b := b) n1 n2 (refBoth_ok _ _ _ _)
  rw [norm_lv, norm_lv, lv_lv, lv_lv] at this
  unfold V4.notLess
  simp only [left2, Bool.true_and]
  revert this
  generalize V4.nok _ = k1
  generalize V4.nok _ = k2
  intro this
  cases k1 <;> cases k2 <;> exact this
end Go.Proofs.Ytkigmocchaikgaa

/- The contracts of calc's Equal, Other, Less, NotLess, and of the reference's OtherVals. -/
namespace Go.Proofs.Ytkigmocchaikgaa
open Go.RowKit

theorem refRid_ok {a : V4} (hr : a.rt = true) (x : BitVec 64) :
    Ok 100 [.ag a.cs, .c (.u x)] (.tu [.ag (lvV (!(a.alone && eqb a.l x)) (a.without (V4.of x)).norm).cs, .c (.b (!(a.alone && eqb a.l x) && (a.without (V4.of x)).nok))]) := by
  have hx : eqb x x = true := eqb_self x
  have hal := refAlone_ok a
  have e0 : a.without (V4.of x) = ⟨a.v, a.m, if eqb a.l x then badd a.l one else a.l, if !eqb a.l x && eqb a.h x then bsub a.h one else a.h⟩ := by
    simp only [V4.without, V4.of, woL, woH, hx, Bool.true_and]
  have hn : ∀ l h, Ok 33 [.ag (V4.cs ⟨a.v, a.m, l, h⟩)] (.tu [.ag (V4.norm ⟨a.v, a.m, l, h⟩).cs, .c (.b (V4.nok ⟨a.v, a.m, l, h⟩))]) := fun l h => refNorm_ok (a := ⟨a.v, a.m, l, h⟩) (show a.rt = true from hr)
  rw [e0]
  cases h1 : eqb a.l x with
  | true =>
    cases h2 : a.alone with
    | true => rw [h2] at hal; exact refRid_w0 (by rw [h1]; rfl) hal
    | false => rw [h2] at hal; exact refRid_w3 (by rw [h1]; rfl) hal (hn (badd a.l one) a.h)
  | false =>
    cases h2 : a.alone with
    | true =>
      rw [h2] at hal
      cases h3 : eqb a.h x with
      | true => exact refRid_w1 (by rw [h1, h3]; rfl) hal (hn a.l (bsub a.h one))
      | false => exact refRid_w2 (by rw [h1, h3]; rfl) hal (hn a.l a.h)
    | false =>
      rw [h2] at hal
      cases h3 : eqb a.h x with
      | true => exact refRid_w4 (by rw [h1, h3]; rfl) hal (hn a.l (bsub a.h one))
      | false => exact refRid_w5 (by rw [h1, h3]; rfl) hal (hn a.l a.h)
theorem V4.norm_ok {a : V4} (h : a.ok = true) : a.nok = true ∧ a.nrm = a ∧ a.norm = a := by
  obtain ⟨h1, h2, h3, h4, h5⟩ := norm_stays h
  have e : a.nrm = a := by cases a; simp only [V4.nrm] at *; rw [h2, h3, h4, h5]
  refine ⟨h1, e, ?_⟩
  unfold V4.norm
  rw [show a.nok = true from h1]
  exact e
theorem without_not {a b : V4} (h : b.alone = false) : a.without b = a := by
  have h' : eqb b.l b.h = false := h
  simp only [V4.without, woL, woH, h', Bool.false_and]
  rfl
theorem without_alone {a b : V4} (h : b.alone = true) : a.without b = a.without (V4.of b.l) := by
  have h' : eqb b.l b.h = true := h
  simp only [V4.without, V4.of, woL, woH, h', eqb_self]
theorem refOther_ok {a b : V4} (ha : a.ok = true) (hb : b.ok = true) : Ok 56 [.ag a.cs, .ag b.cs] (.tu [.ag (a.other b).1.cs, .ag (a.other b).2.1.cs, .c (.b (a.other b).2.2)]) := by
  have a1 := refAlone_ok a
  have b1 := refAlone_ok b
  have na := V4.norm_ok ha
  have nb := V4.norm_ok hb
  have ra := refRid_ok (V4.rt_of ha) b.l
  have rb := refRid_ok (V4.rt_of hb) a.l
  unfold V4.other
  cases h1 : b.alone with
  | true =>
    cases h2 : a.alone with
    | true =>
      rw [h1] at b1; rw [h2] at a1
      rw [h2] at ra; rw [h1] at rb
      have hsym : eqb b.l a.l = eqb a.l b.l := by rw [Bool.eq_iff_iff, eqb_iff, eqb_iff]; exact eq_comm
      have := refOther_w0 rfl b1 ra a1 rb (refBoth_ok _ _ _ _)
      rw [hsym, norm_lv, norm_lv] at this
      rw [without_alone h1, without_alone h2]
      simp only [left2]
      revert this
      generalize V4.nrm _ = n1
      generalize V4.nrm _ = n2
      generalize V4.nok _ = k1
      generalize V4.nok _ = k2
      generalize eqb a.l b.l = q
      intro this
      cases k1 <;> cases k2 <;> cases q <;> exact this
    | false =>
      rw [h1] at b1; rw [h2] at a1
      rw [h2] at ra
      have := refOtherB_w0 rfl b1 ra a1 (refBoth_ok _ b _ _)
      rw [norm_lv] at this
      rw [without_alone h1, without_not h2]
      simp only [left2, nb.1, nb.2.1]
      revert this
      generalize V4.nrm _ = n1
      generalize V4.nok _ = k1
      intro this
      cases k1 <;> exact this
  | false =>
    cases h2 : a.alone with
    | true =>
      rw [h1] at b1; rw [h2] at a1
      rw [h1] at rb
      have := refOtherA_w0 rfl b1 a1 rb (refBoth_ok a _ _ _)
      rw [norm_lv] at this
      rw [without_alone h2, without_not h1]
      simp only [left2, na.1, na.2.1]
      revert this
      generalize V4.nrm _ = n1
      generalize V4.nok _ = k1
      intro this
      cases k1 <;> exact this
    | false =>
      rw [h1] at b1; rw [h2] at a1
      have := refOtherN_w0 rfl b1 a1 (refBoth_ok a b _ _)
      rw [without_not h2, without_not h1]
      simp only [left2, na.1, na.2.1, nb.1, nb.2.1]
      exact this

/- the program's -/
theorem valNorm_c {n : V4} (hr : n.rt = true) : Hid (∀ w, Calls Try.prog 31 #[Vl n.v n.m n.l n.h] w fun e w' => e = .returned (.tuple #[Vl n.norm.v n.norm.m n.norm.l n.norm.h, .bool n.nok, N 0]) ∧ Below w.heap.size w w') := by
  intro w
  unfold V4.norm
  cases hn : n.nok
  · exact norm_none hr hn w
  · exact norm_yes hr hn w
def Four (f : Nat) (a b : V4) (r : V4 × V4 × Bool) : Prop := Ok f [.ag a.cs, .ag b.cs] (.tu [.ag r.1.cs, .ag r.2.1.cs, .c (.b r.2.2), .c (.i 0)])
theorem four_of {f : Nat} {a b x y : V4} {may : Bool} (h : ∀ w, Calls Try.prog f #[Vl a.v a.m a.l a.h, Vl b.v b.m b.l b.h] w fun e w' => e = .returned (.tuple #[lv (may && (x.nok && y.nok)) (Vl x.norm.v x.norm.m x.norm.l x.norm.h), lv (may && (x.nok && y.nok)) (Vl y.norm.v y.norm.m y.norm.l y.norm.h), .bool (may && (x.nok && y.nok)), N 0]) ∧ Below w.heap.size w w') :
    Four f a b (left2 may x y) := by
  refine okc h (fun _ => rfl) (fun _ => ?_) ?_
  · simp only [left2, V4.norm]
    cases may <;> cases x.nok <;> cases y.nok <;> rfl
  · rfl
theorem calcEqual_ok {a b : V4} (ha : a.ok = true) (hb : b.ok = true) : Four 51 a b (a.equal b) := by
  have r1 := V4.rt_of ha
  have r2 := V4.rt_of hb
  have hbb := both_ok ha hb
  unfold V4.equal
  cases hm : a.meets b with
  | false =>
    have n := valNorm_c (n := ⟨zero, zero, bmax a.l b.l, bmin a.h b.h⟩) ((rt_iff _ _).2 (zero_rt zero))
    have := four_of (f := 51) (a := a) (b := b) (may := false) fun w => calcEqual_right hbb w (hid (fun B w' hc => equal1_is hc (hid (fun w => meet_no (both_rt r1 r2) hm w)) rfl rfl)) n n
    exact this
  | true =>
    have hrt : (a.rawEqual b).rt = true := (rt_iff _ _).2 (by
      have r1 := (val_facts ha).1
      have r2 := (val_facts hb).1
      intro j
      have h3 := r1 j; have h4 := r2 j
      show (bit (bor a.v b.v) j && bit (band a.m b.m) j) = false
      rw [bit_or, bit_and']
      revert h3 h4
      cases bit a.v j <;> cases bit a.m j <;> cases bit b.v j <;> cases bit b.m j <;> simp)
    exact four_of (f := 51) (a := a) (b := b) (may := true) fun w => calcEqual_right hbb w (hid (fun B w' hc => equal1_is hc (hid (fun w => meet_ok (both_rt r1 r2) hm w)) rfl rfl)) (valNorm_c hrt) (valNorm_c hrt)
theorem calcOther_ok {a b : V4} (ha : a.ok = true) (hb : b.ok = true) : Four 52 a b (a.other b) :=
  four_of (f := 52) (a := a) (b := b) fun w => calcOther_right (both_ok ha hb) w (hid (fun _ _ hc => other1_is hc rfl)) (valNorm_c (n := a.without b) (show a.rt = true from V4.rt_of ha)) (valNorm_c (n := b.without a) (show b.rt = true from V4.rt_of hb))
theorem calcLess_ok {a b : V4} (ha : a.ok = true) (hb : b.ok = true) : Four 53 a b (a.less b) := by
  unfold V4.less
  cases hz : (eqb b.h zero || eqb a.l top) with
  | true =>
    have := four_of (f := 53) (a := a) (b := b) (may := false) fun w => calcLess_right (both_ok ha hb) w (hid (fun B w' hc => less1_no hc hz)) (valNorm_c (V4.rt_of ha)) (valNorm_c (V4.rt_of hb))
    exact this
  | false =>
    rw [Bool.or_eq_false_iff] at hz
    have n1 := valNorm_c (n := ⟨a.v, a.m, bmax a.l a.l, bmin a.h (bsub b.h one)⟩) (show a.rt = true from V4.rt_of ha)
    have n2 := valNorm_c (n := ⟨b.v, b.m, bmax b.l (badd a.l one), bmin b.h b.h⟩) (show b.rt = true from V4.rt_of hb)
    have := four_of (f := 53) (a := a) (b := b) (may := true) fun w => calcLess_right (both_ok ha hb) w (hid (fun B w' hc => less1_yes hc hz.1 hz.2)) n1 n2
    rw [bmax_self, bmin_self] at this
    exact this
theorem calcNotLess_ok {a b : V4} (ha : a.ok = true) (hb : b.ok = true) : Four 54 a b (a.notLess b) := by
  have n1 := valNorm_c (n := ⟨a.v, a.m, bmax a.l b.l, bmin a.h a.h⟩) (show a.rt = true from V4.rt_of ha)
  have n2 := valNorm_c (n := ⟨b.v, b.m, bmax b.l b.l, bmin b.h a.h⟩) (show b.rt = true from V4.rt_of hb)
  have := four_of (f := 54) (a := a) (b := b) (may := true) fun w => calcNotLess_right (both_ok ha hb) w (hid (fun B w' hc => notLess1_is hc)) n1 n2
  rw [bmax_self, bmin_self] at this
  exact this
end Go.Proofs.Ytkigmocchaikgaa

/- The contracts of calc's Two and Bytes, and of the reference's TwoVals and ByteVal. -/
namespace Go.Proofs.Ytkigmocchaikgaa
open Go.RowKit

theorem wrap_six (y : BitVec 64) : IntKind.wrap IntKind.i64 (nv (band y 63#64)) = (six y : Int) := by
  have h := six_lt y
  rw [six_nv, IntKind.wrap_i64]
  omega
theorem has_low {a : V4} (h : a.ok = true) : hasV a.v a.m a.l a.h a.l = true := by
  obtain ⟨_, h2, _, h4, _⟩ := val_facts h
  unfold hasV
  rw [show valB a.v a.m a.l a.h = true from h, h2]
  simp [h4]
theorem raw2_rt {a b : V4} {op : Int} (hop : 2 ≤ op ∧ op ≤ 9) (ha : a.ok = true) (hb : b.ok = true) : (V4.raw2 op a b).rt = true :=
  (rt_iff _ _).2 (rk_sound hop (has_low ha) (has_low hb)).1
theorem calcTwo_ok {a b : V4} {op : Int} (hop : 2 ≤ op ∧ op ≤ 9) (ha : a.ok = true) (hb : b.ok = true) : Ok 46 [.c (.i op), .ag a.cs, .ag b.cs] (.tu [.ag (V4.two op a b).cs, .c (.i 0)]) := by
  have hr := raw2_rt hop ha hb
  unfold V4.two V4.norm
  cases hn : (V4.raw2 op a b).nok
  · exact okc (calcTwo_none (both_ok ha hb) hop hr hn) (fun _ => rfl) (fun _ => rfl) rfl
  · exact okc (calcTwo_yes (both_ok ha hb) hop hr hn) (fun _ => rfl) (fun _ => rfl) rfl
theorem refOver_ok (x y : BitVec 64) : Ok 89 [.c (.u x), .c (.u y)] (.c (.b (overB x y))) := by
  unfold overB
  cases h : eqb y zero with
  | true => exact refOver_w1 (by rw [show eqb y 0#64 = true from h]; rfl)
  | false =>
    have e : decide (18446744073709551615 / nv y < nv x) = decide (nv (18446744073709551615#64 / y) < nv x) := by
      have : nv (18446744073709551615#64 / y) = 18446744073709551615 / nv y := by
        unfold nv
        rw [BitVec.toNat_udiv]
        rfl
      rw [this]
    rw [e]
    exact refOver_w0 (by rw [show eqb y 0#64 = false from h, h]; rfl)
theorem refTwo_ok {a b : V4} {op : Int} (hop : 2 ≤ op ∧ op ≤ 9) (ha : a.ok = true) (hb : b.ok = true) : Ok 47 [.c (.i op), .ag a.cs, .ag b.cs] (.ag (V4.two op a b).cs) := by
  have ra := V4.rt_of ha
  have rb := V4.rt_of hb
  have hrt := raw2_rt hop ha hb
  have hn := refNorm_ok hrt
  have hcase : op = 2 ∨ op = 3 ∨ op = 4 ∨ op = 5 ∨ op = 6 ∨ op = 7 ∨ op = 8 ∨ op = 9 := by omega
  rcases hcase with rfl | rfl | rfl | rfl | rfl | rfl | rfl | rfl
  · have ht := refTwoBits_ok (op := 2) (by decide) ra rb
    by_cases hc : decide (nv (badd a.l b.l) < nv a.l) = decide (nv (badd a.h b.h) < nv a.h)
    · have e : V4.raw2 2 a b = ⟨(twoP 2 a.v a.m b.v b.m).1, (twoP 2 a.v a.m b.v b.m).2, badd a.l b.l, badd a.h b.h⟩ := by
        simp only [V4.raw2, rk, boundsP, addB, if_pos hc]; rfl
      unfold V4.two
      rw [e] at hn ⊢
      exact refTwo2_w0 (by rw [hc]; simp) ht hn
    · have e : V4.raw2 2 a b = ⟨(twoP 2 a.v a.m b.v b.m).1, (twoP 2 a.v a.m b.v b.m).2, zero, top⟩ := by
        simp only [V4.raw2, rk, boundsP, addB, if_neg hc]; rfl
      unfold V4.two
      rw [e] at hn ⊢
      exact refTwo2_w1 (by simpa using hc) ht hn
  · have ht := refTwoBits_ok (op := 3) (by decide) ra rb
    by_cases hc : decide (nv a.l < nv b.h) = decide (nv a.h < nv b.l)
    · have e : V4.raw2 3 a b = ⟨(twoP 3 a.v a.m b.v b.m).1, (twoP 3 a.v a.m b.v b.m).2, bsub a.l b.h, bsub a.h b.l⟩ := by
        simp only [V4.raw2, rk, boundsP, subB, if_pos hc]; rfl
      unfold V4.two
      rw [e] at hn ⊢
      exact refTwo3_w0 (by rw [hc]; simp) ht hn
    · have e : V4.raw2 3 a b = ⟨(twoP 3 a.v a.m b.v b.m).1, (twoP 3 a.v a.m b.v b.m).2, zero, top⟩ := by
        simp only [V4.raw2, rk, boundsP, subB, if_neg hc]; rfl
      unfold V4.two
      rw [e] at hn ⊢
      exact refTwo3_w1 (by simpa using hc) ht hn
  · have ht := refTwoBits_ok (op := 4) (by decide) ra rb
    have ho := refOver_ok a.h b.h
    cases hc : overB a.h b.h with
    | false =>
      have e : V4.raw2 4 a b = ⟨(twoP 4 a.v a.m b.v b.m).1, (twoP 4 a.v a.m b.v b.m).2, bmul a.l b.l, bmul a.h b.h⟩ := by
        simp only [V4.raw2, rk, boundsP, mulB, hc]; rfl
      unfold V4.two
      rw [e] at hn ⊢
      rw [hc] at ho
      exact refTwo4_w0 rfl ht ho hn
    | true =>
      have e : V4.raw2 4 a b = ⟨(twoP 4 a.v a.m b.v b.m).1, (twoP 4 a.v a.m b.v b.m).2, zero, top⟩ := by
        simp only [V4.raw2, rk, boundsP, mulB, hc]; rfl
      unfold V4.two
      rw [e] at hn ⊢
      rw [hc] at ho
      exact refTwo4_w1 rfl ht ho hn
  · exact refTwo5_w0 (refTwoBits_ok (op := 5) (by decide) ra rb) hn
  · exact refTwo6_w0 (refTwoBits_ok (op := 6) (by decide) ra rb) hn
  · exact refTwo7_w0 (refTwoBits_ok (op := 7) (by decide) ra rb) hn
  · have hal := refAlone_ok b
    have hlt := six_lt b.l
    cases hc : b.alone with
    | false =>
      have e : V4.raw2 8 a b = ⟨zero, top, zero, top⟩ := by
        have hc' : eqb b.l b.h = false := hc
        simp only [V4.raw2, rk, hc', if_true]; rfl
      unfold V4.two
      rw [e] at hn ⊢
      rw [hc] at hal
      exact refTwo8n_w0 rfl hal hn
    | true =>
      have hc' : eqb b.l b.h = true := hc
      have hs := refShift_ok (a := a) (op := 8) (Or.inl rfl) ra hlt
      rw [hc] at hal
      rw [← wrap_six] at hs
      have e6 : Int.toNat (IntKind.wrap IntKind.i64 (nv (band b.l 63#64))) = six b.l := by rw [wrap_six]; rfl
      unfold V4.two
      cases hq : eqb (bshr (bshl a.h (six b.l)) (six b.l)) a.h with
      | true =>
        have e : V4.raw2 8 a b = ⟨bshl a.v (six b.l), bshl a.m (six b.l), bshl a.l (six b.l), bshl a.h (six b.l)⟩ := by
          simp only [V4.raw2, rk, hc', if_true, shlB, hq]
        rw [e] at hn ⊢
        rw [← e6] at hn
        rw [← e6] at hs
        have := refTwo8y_w0 (a := a) (b := b) (al := true) (by rw [e6, wrap_six, hq]; simp; omega) hal hs hn
        rw [e6] at this
        exact this
      | false =>
        have e : V4.raw2 8 a b = ⟨bshl a.v (six b.l), bshl a.m (six b.l), zero, top⟩ := by
          simp only [V4.raw2, rk, hc', if_true, shlB, hq]; rfl
        rw [e] at hn ⊢
        exact refTwo8y_w1 (a := a) (b := b) (al := true) (by rw [e6, wrap_six, hq]; simp; omega) hal hs hn
  · have hal := refAlone_ok b
    have hlt := six_lt b.l
    cases hc : b.alone with
    | false =>
      have e : V4.raw2 9 a b = ⟨zero, top, zero, a.h⟩ := by
        have hc' : eqb b.l b.h = false := hc
        simp only [V4.raw2, rk, hc']; rfl
      unfold V4.two
      rw [e] at hn ⊢
      rw [hc] at hal
      exact refTwo9n_w0 rfl hal hn
    | true =>
      have hc' : eqb b.l b.h = true := hc
      have hs := refShift_ok (a := a) (op := 9) (Or.inr rfl) ra hlt
      rw [hc] at hal
      rw [← wrap_six] at hs
      have e6 : Int.toNat (IntKind.wrap IntKind.i64 (nv (band b.l 63#64))) = six b.l := by rw [wrap_six]; rfl
      have e : V4.raw2 9 a b = ⟨bshr a.v (six b.l), bshr a.m (six b.l), bshr a.l (six b.l), bshr a.h (six b.l)⟩ := by
        simp only [V4.raw2, rk, hc']; rfl
      unfold V4.two
      rw [e] at hn ⊢
      rw [← e6] at hn
      rw [← e6] at hs
      have := refTwo9y_w0 (a := a) (b := b) (al := true) (by rw [wrap_six]; simp; omega) hal hs hn
      rw [e6] at this
      exact this
theorem calcBytes_ok {n : Int} (hn : n = 1 ∨ n = 2 ∨ n = 4 ∨ n = 8) : Ok 48 [.c (.i n)] (.tu [.ag (V4.bytes n).cs, .c (.i 0)]) := by
  rcases hn with rfl | rfl | rfl | rfl
  · exact calcBytes_w0 (by decide +kernel)
  · exact calcBytes_w1 (by decide +kernel)
  · exact calcBytes_w2 (by decide +kernel)
  · exact calcBytes_w3 (by decide +kernel)
theorem calcBytes_no {n : Int} (h1 : n ≠ 1) (h2 : n ≠ 2) (h4 : n ≠ 4) (h8 : n ≠ 8) : Ok 48 [.c (.i n)] (.tu [.ag V4.z.cs, .c (.i 3)]) :=
  calcBytes_w4 (by simp [h1, h2, h4, h8])
theorem refBytes_ok {n : Int} (hn : n = 1 ∨ n = 2 ∨ n = 4 ∨ n = 8) : Ok 49 [.c (.i n)] (.ag (V4.bytes n).cs) := by
  rcases hn with rfl | rfl | rfl | rfl
  · exact refBytes_w1 (by decide +kernel)
  · exact refBytes_w1 (by decide +kernel)
  · exact refBytes_w1 (by decide +kernel)
  · exact refBytes_w0 rfl refAny_ok
/- what is wrong -/
theorem calcTwo_bad {a b : V4} (op : Int) (h : (a.ok && b.ok) = false) : Ok 46 [.c (.i op), .ag a.cs, .ag b.cs] (.tu [.ag V4.z.cs, .c (.i 1)]) :=
  okc (calcTwo_wrong h) (fun _ => rfl) (fun _ => rfl) rfl
theorem calcTwo_no {a b : V4} {op : Int} (hop : op < 2 ∨ 9 < op) (ha : a.ok = true) (hb : b.ok = true) : Ok 46 [.c (.i op), .ag a.cs, .ag b.cs] (.tu [.ag V4.z.cs, .c (.i 4)]) :=
  okc (calcTwo_kind hop (both_ok ha hb)) (fun _ => rfl) (fun _ => rfl) rfl
def FourBad (f : Nat) (a b : V4) : Prop := Ok f [.ag a.cs, .ag b.cs] (.tu [.ag V4.z.cs, .ag V4.z.cs, .c (.b false), .c (.i 1)])
theorem calcEqual_bad {a b : V4} (h : (a.ok && b.ok) = false) : FourBad 51 a b := okc (calcEqual_wrong h) (fun _ => rfl) (fun _ => rfl) rfl
theorem calcOther_bad {a b : V4} (h : (a.ok && b.ok) = false) : FourBad 52 a b := okc (calcOther_wrong h) (fun _ => rfl) (fun _ => rfl) rfl
theorem calcLess_bad {a b : V4} (h : (a.ok && b.ok) = false) : FourBad 53 a b := okc (calcLess_wrong h) (fun _ => rfl) (fun _ => rfl) rfl
theorem calcNotLess_bad {a b : V4} (h : (a.ok && b.ok) = false) : FourBad 54 a b := okc (calcNotLess_wrong h) (fun _ => rfl) (fun _ => rfl) rfl
end Go.Proofs.Ytkigmocchaikgaa

/- Ways of bodies, written by a program (ways.py): what each asks for, and hands back. -/
namespace Go.Proofs.Ytkigmocchaikgaa
open Go.RowKit

theorem calcLeft_w0 {a : V4} {b : V4} {p1 : V4} {q1 : V4} {p2 : V4} {q2 : V4} {p3 : V4} {q3 : V4} {p4 : V4} {q4 : V4} {r1 : Bool} {r2 : Bool} {r3 : Bool} {r4 : Bool} (h : (r1 == r1 && (r2 == r2 && (r3 == r3 && (r4 == r4 && (eqCs (V4.cs p1) (V4.cs p1) && (eqCs (V4.cs q1) (V4.cs q1) && (eqCs (V4.cs p2) (V4.cs p2) && (eqCs (V4.cs q2) (V4.cs q2) && (eqCs (V4.cs p3) (V4.cs p3) && (eqCs (V4.cs q3) (V4.cs q3) && (eqCs (V4.cs p4) (V4.cs p4) && true))))))))))) = true) (c0 : CallOK Try.prog (CallRec.mk 51 [AV.ag (V4.cs a), AV.ag (V4.cs b)] [] (Eff.mk (AV.tu [AT.ag (V4.cs p1), AT.ag (V4.cs q1), AT.c (AC.b r1), AT.c (AC.i 0)]) [] none))) (c1 : CallOK Try.prog (CallRec.mk 52 [AV.ag (V4.cs a), AV.ag (V4.cs b)] [] (Eff.mk (AV.tu [AT.ag (V4.cs p2), AT.ag (V4.cs q2), AT.c (AC.b r2), AT.c (AC.i 0)]) [] none))) (c2 : CallOK Try.prog (CallRec.mk 53 [AV.ag (V4.cs a), AV.ag (V4.cs b)] [] (Eff.mk (AV.tu [AT.ag (V4.cs p3), AT.ag (V4.cs q3), AT.c (AC.b r3), AT.c (AC.i 0)]) [] none))) (c3 : CallOK Try.prog (CallRec.mk 54 [AV.ag (V4.cs a), AV.ag (V4.cs b)] [] (Eff.mk (AV.tu [AT.ag (V4.cs p4), AT.ag (V4.cs q4), AT.c (AC.b r4), AT.c (AC.i 0)]) [] none))) (c4 : CallOK Try.prog (CallRec.mk 34 [AV.ag (V4.cs a)] [] (Eff.mk (AV.c (AC.b true)) [] none))) (c5 : CallOK Try.prog (CallRec.mk 34 [AV.ag (V4.cs b)] [] (Eff.mk (AV.c (AC.b true)) [] none))) (c6 : CallOK Try.prog (CallRec.mk 55 [AV.ag (V4.cs a), AV.ag (V4.cs b)] [] (Eff.mk (AV.tu [AT.ag (V4.cs p1), AT.ag (V4.cs q1), AT.c (AC.b r1)]) [] none))) (c7 : CallOK Try.prog (CallRec.mk 56 [AV.ag (V4.cs a), AV.ag (V4.cs b)] [] (Eff.mk (AV.tu [AT.ag (V4.cs p2), AT.ag (V4.cs q2), AT.c (AC.b r2)]) [] none))) (c8 : CallOK Try.prog (CallRec.mk 57 [AV.ag (V4.cs a), AV.ag (V4.cs b)] [] (Eff.mk (AV.tu [AT.ag (V4.cs p3), AT.ag (V4.cs q3), AT.c (AC.b r3)]) [] none))) (c9 : CallOK Try.prog (CallRec.mk 58 [AV.ag (V4.cs a), AV.ag (V4.cs b)] [] (Eff.mk (AV.tu [AT.ag (V4.cs p4), AT.ag (V4.cs q4), AT.c (AC.b r4)]) [] none))) (c10 : CallOK Try.prog (CallRec.mk 50 [] [] (Eff.mk (AV.c (AC.b true)) [] none))) :
    CallOK Try.prog ⟨9, [AV.ag (V4.cs a), AV.ag (V4.cs b)], [], ⟨AV.c (AC.b (eqCs (V4.cs q4) (V4.cs q4))), [], none⟩⟩ :=
  val_run 2000 [Eff.mk (AV.tu [AT.ag (V4.cs p1), AT.ag (V4.cs q1), AT.c (AC.b r1), AT.c (AC.i 0)]) [] none, Eff.mk (AV.tu [AT.ag (V4.cs p2), AT.ag (V4.cs q2), AT.c (AC.b r2), AT.c (AC.i 0)]) [] none, Eff.mk (AV.tu [AT.ag (V4.cs p3), AT.ag (V4.cs q3), AT.c (AC.b r3), AT.c (AC.i 0)]) [] none, Eff.mk (AV.tu [AT.ag (V4.cs p4), AT.ag (V4.cs q4), AT.c (AC.b r4), AT.c (AC.i 0)]) [] none, Eff.mk (AV.c (AC.b true)) [] none, Eff.mk (AV.c (AC.b true)) [] none, Eff.mk (AV.tu [AT.ag (V4.cs p1), AT.ag (V4.cs q1), AT.c (AC.b r1)]) [] none, Eff.mk (AV.tu [AT.ag (V4.cs p2), AT.ag (V4.cs q2), AT.c (AC.b r2)]) [] none, Eff.mk (AV.tu [AT.ag (V4.cs p3), AT.ag (V4.cs q3), AT.c (AC.b r3)]) [] none, Eff.mk (AV.tu [AT.ag (V4.cs p4), AT.ag (V4.cs q4), AT.c (AC.b r4)]) [] none, Eff.mk (AV.c (AC.b true)) [] none] [false, false, true, true, true, true, true, true, true, true, true, true, true, true, true, true, true, true] ([]) [] Try.func9 rfl rfl rfl rfl (by kernel_rfl) h (cr_cons c0 (cr_cons c1 (cr_cons c2 (cr_cons c3 (cr_cons c4 (cr_cons c5 (cr_cons c6 (cr_cons c7 (cr_cons c8 (cr_cons c9 (cr_cons c10 cr_nil)))))))))))
theorem calcLeftBadA_w0 {a : V4} {b : V4} (c0 : CallOK Try.prog (CallRec.mk 51 [AV.ag (V4.cs a), AV.ag (V4.cs b)] [] (Eff.mk (AV.tu [AT.ag (V4.cs V4.z), AT.ag (V4.cs V4.z), AT.c (AC.b false), AT.c (AC.i 1)]) [] none))) (c1 : CallOK Try.prog (CallRec.mk 52 [AV.ag (V4.cs a), AV.ag (V4.cs b)] [] (Eff.mk (AV.tu [AT.ag (V4.cs V4.z), AT.ag (V4.cs V4.z), AT.c (AC.b false), AT.c (AC.i 1)]) [] none))) (c2 : CallOK Try.prog (CallRec.mk 53 [AV.ag (V4.cs a), AV.ag (V4.cs b)] [] (Eff.mk (AV.tu [AT.ag (V4.cs V4.z), AT.ag (V4.cs V4.z), AT.c (AC.b false), AT.c (AC.i 1)]) [] none))) (c3 : CallOK Try.prog (CallRec.mk 54 [AV.ag (V4.cs a), AV.ag (V4.cs b)] [] (Eff.mk (AV.tu [AT.ag (V4.cs V4.z), AT.ag (V4.cs V4.z), AT.c (AC.b false), AT.c (AC.i 1)]) [] none))) (c4 : CallOK Try.prog (CallRec.mk 34 [AV.ag (V4.cs a)] [] (Eff.mk (AV.c (AC.b false)) [] none))) (c5 : CallOK Try.prog (CallRec.mk 50 [] [] (Eff.mk (AV.c (AC.b true)) [] none))) :
    CallOK Try.prog ⟨9, [AV.ag (V4.cs a), AV.ag (V4.cs b)], [], ⟨AV.c (AC.b true), [], none⟩⟩ :=
  val_run 2000 [Eff.mk (AV.tu [AT.ag (V4.cs V4.z), AT.ag (V4.cs V4.z), AT.c (AC.b false), AT.c (AC.i 1)]) [] none, Eff.mk (AV.tu [AT.ag (V4.cs V4.z), AT.ag (V4.cs V4.z), AT.c (AC.b false), AT.c (AC.i 1)]) [] none, Eff.mk (AV.tu [AT.ag (V4.cs V4.z), AT.ag (V4.cs V4.z), AT.c (AC.b false), AT.c (AC.i 1)]) [] none, Eff.mk (AV.tu [AT.ag (V4.cs V4.z), AT.ag (V4.cs V4.z), AT.c (AC.b false), AT.c (AC.i 1)]) [] none, Eff.mk (AV.c (AC.b false)) [] none, Eff.mk (AV.c (AC.b true)) [] none] [true, true, true, true, true, true, true, true, true, true, true, true, true, true] ([]) [] Try.func9 rfl rfl rfl rfl (by kernel_rfl) rfl (cr_cons c0 (cr_cons c1 (cr_cons c2 (cr_cons c3 (cr_cons c4 (cr_cons c5 cr_nil))))))
theorem calcLeftBadB_w0 {a : V4} {b : V4} (c0 : CallOK Try.prog (CallRec.mk 51 [AV.ag (V4.cs a), AV.ag (V4.cs b)] [] (Eff.mk (AV.tu [AT.ag (V4.cs V4.z), AT.ag (V4.cs V4.z), AT.c (AC.b false), AT.c (AC.i 1)]) [] none))) (c1 : CallOK Try.prog (CallRec.mk 52 [AV.ag (V4.cs a), AV.ag (V4.cs b)] [] (Eff.mk (AV.tu [AT.ag (V4.cs V4.z), AT.ag (V4.cs V4.z), AT.c (AC.b false), AT.c (AC.i 1)]) [] none))) (c2 : CallOK Try.prog (CallRec.mk 53 [AV.ag (V4.cs a), AV.ag (V4.cs b)] [] (Eff.mk (AV.tu [AT.ag (V4.cs V4.z), AT.ag (V4.cs V4.z), AT.c (AC.b false), AT.c (AC.i 1)]) [] none))) (c3 : CallOK Try.prog (CallRec.mk 54 [AV.ag (V4.cs a), AV.ag (V4.cs b)] [] (Eff.mk (AV.tu [AT.ag (V4.cs V4.z), AT.ag (V4.cs V4.z), AT.c (AC.b false), AT.c (AC.i 1)]) [] none))) (c4 : CallOK Try.prog (CallRec.mk 34 [AV.ag (V4.cs a)] [] (Eff.mk (AV.c (AC.b true)) [] none))) (c5 : CallOK Try.prog (CallRec.mk 34 [AV.ag (V4.cs b)] [] (Eff.mk (AV.c (AC.b false)) [] none))) (c6 : CallOK Try.prog (CallRec.mk 50 [] [] (Eff.mk (AV.c (AC.b true)) [] none))) :
    CallOK Try.prog ⟨9, [AV.ag (V4.cs a), AV.ag (V4.cs b)], [], ⟨AV.c (AC.b true), [], none⟩⟩ :=
  val_run 2000 [Eff.mk (AV.tu [AT.ag (V4.cs V4.z), AT.ag (V4.cs V4.z), AT.c (AC.b false), AT.c (AC.i 1)]) [] none, Eff.mk (AV.tu [AT.ag (V4.cs V4.z), AT.ag (V4.cs V4.z), AT.c (AC.b false), AT.c (AC.i 1)]) [] none, Eff.mk (AV.tu [AT.ag (V4.cs V4.z), AT.ag (V4.cs V4.z), AT.c (AC.b false), AT.c (AC.i 1)]) [] none, Eff.mk (AV.tu [AT.ag (V4.cs V4.z), AT.ag (V4.cs V4.z), AT.c (AC.b false), AT.c (AC.i 1)]) [] none, Eff.mk (AV.c (AC.b true)) [] none, Eff.mk (AV.c (AC.b false)) [] none, Eff.mk (AV.c (AC.b true)) [] none] [false, true, true, true, true, true, true, true, true, true, true, true, true, true] ([]) [] Try.func9 rfl rfl rfl rfl (by kernel_rfl) rfl (cr_cons c0 (cr_cons c1 (cr_cons c2 (cr_cons c3 (cr_cons c4 (cr_cons c5 (cr_cons c6 cr_nil)))))))
theorem calcTwoOky1_w0 {a : V4} {b : V4} {c : V4} {d : V4} {op : Int} (h : (!decide (op < 2) && (!decide (9 < op) && (eqCs (V4.cs c) (V4.cs c) && (eqCs (V4.cs d) (V4.cs d) && true)))) = true) (c0 : CallOK Try.prog (CallRec.mk 46 [AV.c (AC.i op), AV.ag (V4.cs a), AV.ag (V4.cs b)] [] (Eff.mk (AV.tu [AT.ag (V4.cs c), AT.c (AC.i 0)]) [] none))) (c1 : CallOK Try.prog (CallRec.mk 34 [AV.ag (V4.cs a)] [] (Eff.mk (AV.c (AC.b true)) [] none))) (c2 : CallOK Try.prog (CallRec.mk 34 [AV.ag (V4.cs b)] [] (Eff.mk (AV.c (AC.b true)) [] none))) (c3 : CallOK Try.prog (CallRec.mk 47 [AV.c (AC.i op), AV.ag (V4.cs a), AV.ag (V4.cs b)] [] (Eff.mk (AV.ag (V4.cs c)) [] none))) (c4 : CallOK Try.prog (CallRec.mk 48 [AV.c (AC.i 1)] [] (Eff.mk (AV.tu [AT.ag (V4.cs d), AT.c (AC.i 0)]) [] none))) (c5 : CallOK Try.prog (CallRec.mk 49 [AV.c (AC.i 1)] [] (Eff.mk (AV.ag (V4.cs d)) [] none))) (c6 : CallOK Try.prog (CallRec.mk 50 [] [] (Eff.mk (AV.c (AC.b true)) [] none))) :
    CallOK Try.prog ⟨8, [AV.c (AC.i op), AV.ag (V4.cs a), AV.ag (V4.cs b), AV.c (AC.i 1)], [], ⟨AV.c (AC.b true), [], none⟩⟩ :=
  val_run 2000 [Eff.mk (AV.tu [AT.ag (V4.cs c), AT.c (AC.i 0)]) [] none, Eff.mk (AV.c (AC.b true)) [] none, Eff.mk (AV.c (AC.b true)) [] none, Eff.mk (AV.ag (V4.cs c)) [] none, Eff.mk (AV.tu [AT.ag (V4.cs d), AT.c (AC.i 0)]) [] none, Eff.mk (AV.ag (V4.cs d)) [] none, Eff.mk (AV.c (AC.b true)) [] none] [false, false, false, false, true, true, true, true, true, true, true, true] ([]) [] Try.func8 rfl rfl rfl rfl (by kernel_rfl) h (cr_cons c0 (cr_cons c1 (cr_cons c2 (cr_cons c3 (cr_cons c4 (cr_cons c5 (cr_cons c6 cr_nil)))))))
theorem calcTwoOky2_w0 {a : V4} {b : V4} {c : V4} {d : V4} {op : Int} (h : (!decide (op < 2) && (!decide (9 < op) && (eqCs (V4.cs c) (V4.cs c) && (eqCs (V4.cs d) (V4.cs d) && true)))) = true) (c0 : CallOK Try.prog (CallRec.mk 46 [AV.c (AC.i op), AV.ag (V4.cs a), AV.ag (V4.cs b)] [] (Eff.mk (AV.tu [AT.ag (V4.cs c), AT.c (AC.i 0)]) [] none))) (c1 : CallOK Try.prog (CallRec.mk 34 [AV.ag (V4.cs a)] [] (Eff.mk (AV.c (AC.b true)) [] none))) (c2 : CallOK Try.prog (CallRec.mk 34 [AV.ag (V4.cs b)] [] (Eff.mk (AV.c (AC.b true)) [] none))) (c3 : CallOK Try.prog (CallRec.mk 47 [AV.c (AC.i op), AV.ag (V4.cs a), AV.ag (V4.cs b)] [] (Eff.mk (AV.ag (V4.cs c)) [] none))) (c4 : CallOK Try.prog (CallRec.mk 48 [AV.c (AC.i 2)] [] (Eff.mk (AV.tu [AT.ag (V4.cs d), AT.c (AC.i 0)]) [] none))) (c5 : CallOK Try.prog (CallRec.mk 49 [AV.c (AC.i 2)] [] (Eff.mk (AV.ag (V4.cs d)) [] none))) (c6 : CallOK Try.prog (CallRec.mk 50 [] [] (Eff.mk (AV.c (AC.b true)) [] none))) :
    CallOK Try.prog ⟨8, [AV.c (AC.i op), AV.ag (V4.cs a), AV.ag (V4.cs b), AV.c (AC.i 2)], [], ⟨AV.c (AC.b true), [], none⟩⟩ :=
  val_run 2000 [Eff.mk (AV.tu [AT.ag (V4.cs c), AT.c (AC.i 0)]) [] none, Eff.mk (AV.c (AC.b true)) [] none, Eff.mk (AV.c (AC.b true)) [] none, Eff.mk (AV.ag (V4.cs c)) [] none, Eff.mk (AV.tu [AT.ag (V4.cs d), AT.c (AC.i 0)]) [] none, Eff.mk (AV.ag (V4.cs d)) [] none, Eff.mk (AV.c (AC.b true)) [] none] [false, false, false, false, false, true, true, true, true, true, true, true] ([]) [] Try.func8 rfl rfl rfl rfl (by kernel_rfl) h (cr_cons c0 (cr_cons c1 (cr_cons c2 (cr_cons c3 (cr_cons c4 (cr_cons c5 (cr_cons c6 cr_nil)))))))
theorem calcTwoOky4_w0 {a : V4} {b : V4} {c : V4} {d : V4} {op : Int} (h : (!decide (op < 2) && (!decide (9 < op) && (eqCs (V4.cs c) (V4.cs c) && (eqCs (V4.cs d) (V4.cs d) && true)))) = true) (c0 : CallOK Try.prog (CallRec.mk 46 [AV.c (AC.i op), AV.ag (V4.cs a), AV.ag (V4.cs b)] [] (Eff.mk (AV.tu [AT.ag (V4.cs c), AT.c (AC.i 0)]) [] none))) (c1 : CallOK Try.prog (CallRec.mk 34 [AV.ag (V4.cs a)] [] (Eff.mk (AV.c (AC.b true)) [] none))) (c2 : CallOK Try.prog (CallRec.mk 34 [AV.ag (V4.cs b)] [] (Eff.mk (AV.c (AC.b true)) [] none))) (c3 : CallOK Try.prog (CallRec.mk 47 [AV.c (AC.i op), AV.ag (V4.cs a), AV.ag (V4.cs b)] [] (Eff.mk (AV.ag (V4.cs c)) [] none))) (c4 : CallOK Try.prog (CallRec.mk 48 [AV.c (AC.i 4)] [] (Eff.mk (AV.tu [AT.ag (V4.cs d), AT.c (AC.i 0)]) [] none))) (c5 : CallOK Try.prog (CallRec.mk 49 [AV.c (AC.i 4)] [] (Eff.mk (AV.ag (V4.cs d)) [] none))) (c6 : CallOK Try.prog (CallRec.mk 50 [] [] (Eff.mk (AV.c (AC.b true)) [] none))) :
    CallOK Try.prog ⟨8, [AV.c (AC.i op), AV.ag (V4.cs a), AV.ag (V4.cs b), AV.c (AC.i 4)], [], ⟨AV.c (AC.b true), [], none⟩⟩ :=
  val_run 2000 [Eff.mk (AV.tu [AT.ag (V4.cs c), AT.c (AC.i 0)]) [] none, Eff.mk (AV.c (AC.b true)) [] none, Eff.mk (AV.c (AC.b true)) [] none, Eff.mk (AV.ag (V4.cs c)) [] none, Eff.mk (AV.tu [AT.ag (V4.cs d), AT.c (AC.i 0)]) [] none, Eff.mk (AV.ag (V4.cs d)) [] none, Eff.mk (AV.c (AC.b true)) [] none] [false, false, false, false, false, false, true, true, true, true, true, true] ([]) [] Try.func8 rfl rfl rfl rfl (by kernel_rfl) h (cr_cons c0 (cr_cons c1 (cr_cons c2 (cr_cons c3 (cr_cons c4 (cr_cons c5 (cr_cons c6 cr_nil)))))))
theorem calcTwoOky8_w0 {a : V4} {b : V4} {c : V4} {d : V4} {op : Int} (h : (!decide (op < 2) && (!decide (9 < op) && (eqCs (V4.cs c) (V4.cs c) && (eqCs (V4.cs d) (V4.cs d) && true)))) = true) (c0 : CallOK Try.prog (CallRec.mk 46 [AV.c (AC.i op), AV.ag (V4.cs a), AV.ag (V4.cs b)] [] (Eff.mk (AV.tu [AT.ag (V4.cs c), AT.c (AC.i 0)]) [] none))) (c1 : CallOK Try.prog (CallRec.mk 34 [AV.ag (V4.cs a)] [] (Eff.mk (AV.c (AC.b true)) [] none))) (c2 : CallOK Try.prog (CallRec.mk 34 [AV.ag (V4.cs b)] [] (Eff.mk (AV.c (AC.b true)) [] none))) (c3 : CallOK Try.prog (CallRec.mk 47 [AV.c (AC.i op), AV.ag (V4.cs a), AV.ag (V4.cs b)] [] (Eff.mk (AV.ag (V4.cs c)) [] none))) (c4 : CallOK Try.prog (CallRec.mk 48 [AV.c (AC.i 8)] [] (Eff.mk (AV.tu [AT.ag (V4.cs d), AT.c (AC.i 0)]) [] none))) (c5 : CallOK Try.prog (CallRec.mk 49 [AV.c (AC.i 8)] [] (Eff.mk (AV.ag (V4.cs d)) [] none))) (c6 : CallOK Try.prog (CallRec.mk 50 [] [] (Eff.mk (AV.c (AC.b true)) [] none))) :
    CallOK Try.prog ⟨8, [AV.c (AC.i op), AV.ag (V4.cs a), AV.ag (V4.cs b), AV.c (AC.i 8)], [], ⟨AV.c (AC.b true), [], none⟩⟩ :=
  val_run 2000 [Eff.mk (AV.tu [AT.ag (V4.cs c), AT.c (AC.i 0)]) [] none, Eff.mk (AV.c (AC.b true)) [] none, Eff.mk (AV.c (AC.b true)) [] none, Eff.mk (AV.ag (V4.cs c)) [] none, Eff.mk (AV.tu [AT.ag (V4.cs d), AT.c (AC.i 0)]) [] none, Eff.mk (AV.ag (V4.cs d)) [] none, Eff.mk (AV.c (AC.b true)) [] none] [false, false, false, false, false, false, false, true, true, true, true, true] ([]) [] Try.func8 rfl rfl rfl rfl (by kernel_rfl) h (cr_cons c0 (cr_cons c1 (cr_cons c2 (cr_cons c3 (cr_cons c4 (cr_cons c5 (cr_cons c6 cr_nil)))))))
theorem calcTwoBadAy1_w0 {a : V4} {b : V4} {d : V4} {op : Int} (h : (eqCs (V4.cs d) (V4.cs d) && true) = true) (c0 : CallOK Try.prog (CallRec.mk 46 [AV.c (AC.i op), AV.ag (V4.cs a), AV.ag (V4.cs b)] [] (Eff.mk (AV.tu [AT.ag (V4.cs V4.z), AT.c (AC.i 1)]) [] none))) (c1 : CallOK Try.prog (CallRec.mk 34 [AV.ag (V4.cs a)] [] (Eff.mk (AV.c (AC.b false)) [] none))) (c2 : CallOK Try.prog (CallRec.mk 48 [AV.c (AC.i 1)] [] (Eff.mk (AV.tu [AT.ag (V4.cs d), AT.c (AC.i 0)]) [] none))) (c3 : CallOK Try.prog (CallRec.mk 49 [AV.c (AC.i 1)] [] (Eff.mk (AV.ag (V4.cs d)) [] none))) (c4 : CallOK Try.prog (CallRec.mk 50 [] [] (Eff.mk (AV.c (AC.b true)) [] none))) :
    CallOK Try.prog ⟨8, [AV.c (AC.i op), AV.ag (V4.cs a), AV.ag (V4.cs b), AV.c (AC.i 1)], [], ⟨AV.c (AC.b true), [], none⟩⟩ :=
  val_run 2000 [Eff.mk (AV.tu [AT.ag (V4.cs V4.z), AT.c (AC.i 1)]) [] none, Eff.mk (AV.c (AC.b false)) [] none, Eff.mk (AV.tu [AT.ag (V4.cs d), AT.c (AC.i 0)]) [] none, Eff.mk (AV.ag (V4.cs d)) [] none, Eff.mk (AV.c (AC.b true)) [] none] [true, true, true, true, true, true, true, true, true, true] ([]) [] Try.func8 rfl rfl rfl rfl (by kernel_rfl) h (cr_cons c0 (cr_cons c1 (cr_cons c2 (cr_cons c3 (cr_cons c4 cr_nil)))))
theorem calcTwoBadAy2_w0 {a : V4} {b : V4} {d : V4} {op : Int} (h : (eqCs (V4.cs d) (V4.cs d) && true) = true) (c0 : CallOK Try.prog (CallRec.mk 46 [AV.c (AC.i op), AV.ag (V4.cs a), AV.ag (V4.cs b)] [] (Eff.mk (AV.tu [AT.ag (V4.cs V4.z), AT.c (AC.i 1)]) [] none))) (c1 : CallOK Try.prog (CallRec.mk 34 [AV.ag (V4.cs a)] [] (Eff.mk (AV.c (AC.b false)) [] none))) (c2 : CallOK Try.prog (CallRec.mk 48 [AV.c (AC.i 2)] [] (Eff.mk (AV.tu [AT.ag (V4.cs d), AT.c (AC.i 0)]) [] none))) (c3 : CallOK Try.prog (CallRec.mk 49 [AV.c (AC.i 2)] [] (Eff.mk (AV.ag (V4.cs d)) [] none))) (c4 : CallOK Try.prog (CallRec.mk 50 [] [] (Eff.mk (AV.c (AC.b true)) [] none))) :
    CallOK Try.prog ⟨8, [AV.c (AC.i op), AV.ag (V4.cs a), AV.ag (V4.cs b), AV.c (AC.i 2)], [], ⟨AV.c (AC.b true), [], none⟩⟩ :=
  val_run 2000 [Eff.mk (AV.tu [AT.ag (V4.cs V4.z), AT.c (AC.i 1)]) [] none, Eff.mk (AV.c (AC.b false)) [] none, Eff.mk (AV.tu [AT.ag (V4.cs d), AT.c (AC.i 0)]) [] none, Eff.mk (AV.ag (V4.cs d)) [] none, Eff.mk (AV.c (AC.b true)) [] none] [true, true, false, true, true, true, true, true, true, true] ([]) [] Try.func8 rfl rfl rfl rfl (by kernel_rfl) h (cr_cons c0 (cr_cons c1 (cr_cons c2 (cr_cons c3 (cr_cons c4 cr_nil)))))
theorem calcTwoBadAy4_w0 {a : V4} {b : V4} {d : V4} {op : Int} (h : (eqCs (V4.cs d) (V4.cs d) && true) = true) (c0 : CallOK Try.prog (CallRec.mk 46 [AV.c (AC.i op), AV.ag (V4.cs a), AV.ag (V4.cs b)] [] (Eff.mk (AV.tu [AT.ag (V4.cs V4.z), AT.c (AC.i 1)]) [] none))) (c1 : CallOK Try.prog (CallRec.mk 34 [AV.ag (V4.cs a)] [] (Eff.mk (AV.c (AC.b false)) [] none))) (c2 : CallOK Try.prog (CallRec.mk 48 [AV.c (AC.i 4)] [] (Eff.mk (AV.tu [AT.ag (V4.cs d), AT.c (AC.i 0)]) [] none))) (c3 : CallOK Try.prog (CallRec.mk 49 [AV.c (AC.i 4)] [] (Eff.mk (AV.ag (V4.cs d)) [] none))) (c4 : CallOK Try.prog (CallRec.mk 50 [] [] (Eff.mk (AV.c (AC.b true)) [] none))) :
    CallOK Try.prog ⟨8, [AV.c (AC.i op), AV.ag (V4.cs a), AV.ag (V4.cs b), AV.c (AC.i 4)], [], ⟨AV.c (AC.b true), [], none⟩⟩ :=
  val_run 2000 [Eff.mk (AV.tu [AT.ag (V4.cs V4.z), AT.c (AC.i 1)]) [] none, Eff.mk (AV.c (AC.b false)) [] none, Eff.mk (AV.tu [AT.ag (V4.cs d), AT.c (AC.i 0)]) [] none, Eff.mk (AV.ag (V4.cs d)) [] none, Eff.mk (AV.c (AC.b true)) [] none] [true, true, false, false, true, true, true, true, true, true] ([]) [] Try.func8 rfl rfl rfl rfl (by kernel_rfl) h (cr_cons c0 (cr_cons c1 (cr_cons c2 (cr_cons c3 (cr_cons c4 cr_nil)))))
theorem calcTwoBadAy8_w0 {a : V4} {b : V4} {d : V4} {op : Int} (h : (eqCs (V4.cs d) (V4.cs d) && true) = true) (c0 : CallOK Try.prog (CallRec.mk 46 [AV.c (AC.i op), AV.ag (V4.cs a), AV.ag (V4.cs b)] [] (Eff.mk (AV.tu [AT.ag (V4.cs V4.z), AT.c (AC.i 1)]) [] none))) (c1 : CallOK Try.prog (CallRec.mk 34 [AV.ag (V4.cs a)] [] (Eff.mk (AV.c (AC.b false)) [] none))) (c2 : CallOK Try.prog (CallRec.mk 48 [AV.c (AC.i 8)] [] (Eff.mk (AV.tu [AT.ag (V4.cs d), AT.c (AC.i 0)]) [] none))) (c3 : CallOK Try.prog (CallRec.mk 49 [AV.c (AC.i 8)] [] (Eff.mk (AV.ag (V4.cs d)) [] none))) (c4 : CallOK Try.prog (CallRec.mk 50 [] [] (Eff.mk (AV.c (AC.b true)) [] none))) :
    CallOK Try.prog ⟨8, [AV.c (AC.i op), AV.ag (V4.cs a), AV.ag (V4.cs b), AV.c (AC.i 8)], [], ⟨AV.c (AC.b true), [], none⟩⟩ :=
  val_run 2000 [Eff.mk (AV.tu [AT.ag (V4.cs V4.z), AT.c (AC.i 1)]) [] none, Eff.mk (AV.c (AC.b false)) [] none, Eff.mk (AV.tu [AT.ag (V4.cs d), AT.c (AC.i 0)]) [] none, Eff.mk (AV.ag (V4.cs d)) [] none, Eff.mk (AV.c (AC.b true)) [] none] [true, true, false, false, false, true, true, true, true, true] ([]) [] Try.func8 rfl rfl rfl rfl (by kernel_rfl) h (cr_cons c0 (cr_cons c1 (cr_cons c2 (cr_cons c3 (cr_cons c4 cr_nil)))))
theorem calcTwoBadBy1_w0 {a : V4} {b : V4} {d : V4} {op : Int} (h : (eqCs (V4.cs d) (V4.cs d) && true) = true) (c0 : CallOK Try.prog (CallRec.mk 46 [AV.c (AC.i op), AV.ag (V4.cs a), AV.ag (V4.cs b)] [] (Eff.mk (AV.tu [AT.ag (V4.cs V4.z), AT.c (AC.i 1)]) [] none))) (c1 : CallOK Try.prog (CallRec.mk 34 [AV.ag (V4.cs a)] [] (Eff.mk (AV.c (AC.b true)) [] none))) (c2 : CallOK Try.prog (CallRec.mk 34 [AV.ag (V4.cs b)] [] (Eff.mk (AV.c (AC.b false)) [] none))) (c3 : CallOK Try.prog (CallRec.mk 48 [AV.c (AC.i 1)] [] (Eff.mk (AV.tu [AT.ag (V4.cs d), AT.c (AC.i 0)]) [] none))) (c4 : CallOK Try.prog (CallRec.mk 49 [AV.c (AC.i 1)] [] (Eff.mk (AV.ag (V4.cs d)) [] none))) (c5 : CallOK Try.prog (CallRec.mk 50 [] [] (Eff.mk (AV.c (AC.b true)) [] none))) :
    CallOK Try.prog ⟨8, [AV.c (AC.i op), AV.ag (V4.cs a), AV.ag (V4.cs b), AV.c (AC.i 1)], [], ⟨AV.c (AC.b true), [], none⟩⟩ :=
  val_run 2000 [Eff.mk (AV.tu [AT.ag (V4.cs V4.z), AT.c (AC.i 1)]) [] none, Eff.mk (AV.c (AC.b true)) [] none, Eff.mk (AV.c (AC.b false)) [] none, Eff.mk (AV.tu [AT.ag (V4.cs d), AT.c (AC.i 0)]) [] none, Eff.mk (AV.ag (V4.cs d)) [] none, Eff.mk (AV.c (AC.b true)) [] none] [false, true, true, true, true, true, true, true, true, true] ([]) [] Try.func8 rfl rfl rfl rfl (by kernel_rfl) h (cr_cons c0 (cr_cons c1 (cr_cons c2 (cr_cons c3 (cr_cons c4 (cr_cons c5 cr_nil))))))
theorem calcTwoBadBy2_w0 {a : V4} {b : V4} {d : V4} {op : Int} (h : (eqCs (V4.cs d) (V4.cs d) && true) = true) (c0 : CallOK Try.prog (CallRec.mk 46 [AV.c (AC.i op), AV.ag (V4.cs a), AV.ag (V4.cs b)] [] (Eff.mk (AV.tu [AT.ag (V4.cs V4.z), AT.c (AC.i 1)]) [] none))) (c1 : CallOK Try.prog (CallRec.mk 34 [AV.ag (V4.cs a)] [] (Eff.mk (AV.c (AC.b true)) [] none))) (c2 : CallOK Try.prog (CallRec.mk 34 [AV.ag (V4.cs b)] [] (Eff.mk (AV.c (AC.b false)) [] none))) (c3 : CallOK Try.prog (CallRec.mk 48 [AV.c (AC.i 2)] [] (Eff.mk (AV.tu [AT.ag (V4.cs d), AT.c (AC.i 0)]) [] none))) (c4 : CallOK Try.prog (CallRec.mk 49 [AV.c (AC.i 2)] [] (Eff.mk (AV.ag (V4.cs d)) [] none))) (c5 : CallOK Try.prog (CallRec.mk 50 [] [] (Eff.mk (AV.c (AC.b true)) [] none))) :
    CallOK Try.prog ⟨8, [AV.c (AC.i op), AV.ag (V4.cs a), AV.ag (V4.cs b), AV.c (AC.i 2)], [], ⟨AV.c (AC.b true), [], none⟩⟩ :=
  val_run 2000 [Eff.mk (AV.tu [AT.ag (V4.cs V4.z), AT.c (AC.i 1)]) [] none, Eff.mk (AV.c (AC.b true)) [] none, Eff.mk (AV.c (AC.b false)) [] none, Eff.mk (AV.tu [AT.ag (V4.cs d), AT.c (AC.i 0)]) [] none, Eff.mk (AV.ag (V4.cs d)) [] none, Eff.mk (AV.c (AC.b true)) [] none] [false, true, false, true, true, true, true, true, true, true] ([]) [] Try.func8 rfl rfl rfl rfl (by kernel_rfl) h (cr_cons c0 (cr_cons c1 (cr_cons c2 (cr_cons c3 (cr_cons c4 (cr_cons c5 cr_nil))))))
theorem calcTwoBadBy4_w0 {a : V4} {b : V4} {d : V4} {op : Int} (h : (eqCs (V4.cs d) (V4.cs d) && true) = true) (c0 : CallOK Try.prog (CallRec.mk 46 [AV.c (AC.i op), AV.ag (V4.cs a), AV.ag (V4.cs b)] [] (Eff.mk (AV.tu [AT.ag (V4.cs V4.z), AT.c (AC.i 1)]) [] none))) (c1 : CallOK Try.prog (CallRec.mk 34 [AV.ag (V4.cs a)] [] (Eff.mk (AV.c (AC.b true)) [] none))) (c2 : CallOK Try.prog (CallRec.mk 34 [AV.ag (V4.cs b)] [] (Eff.mk (AV.c (AC.b false)) [] none))) (c3 : CallOK Try.prog (CallRec.mk 48 [AV.c (AC.i 4)] [] (Eff.mk (AV.tu [AT.ag (V4.cs d), AT.c (AC.i 0)]) [] none))) (c4 : CallOK Try.prog (CallRec.mk 49 [AV.c (AC.i 4)] [] (Eff.mk (AV.ag (V4.cs d)) [] none))) (c5 : CallOK Try.prog (CallRec.mk 50 [] [] (Eff.mk (AV.c (AC.b true)) [] none))) :
    CallOK Try.prog ⟨8, [AV.c (AC.i op), AV.ag (V4.cs a), AV.ag (V4.cs b), AV.c (AC.i 4)], [], ⟨AV.c (AC.b true), [], none⟩⟩ :=
  val_run 2000 [Eff.mk (AV.tu [AT.ag (V4.cs V4.z), AT.c (AC.i 1)]) [] none, Eff.mk (AV.c (AC.b true)) [] none, Eff.mk (AV.c (AC.b false)) [] none, Eff.mk (AV.tu [AT.ag (V4.cs d), AT.c (AC.i 0)]) [] none, Eff.mk (AV.ag (V4.cs d)) [] none, Eff.mk (AV.c (AC.b true)) [] none] [false, true, false, false, true, true, true, true, true, true] ([]) [] Try.func8 rfl rfl rfl rfl (by kernel_rfl) h (cr_cons c0 (cr_cons c1 (cr_cons c2 (cr_cons c3 (cr_cons c4 (cr_cons c5 cr_nil))))))
theorem calcTwoBadBy8_w0 {a : V4} {b : V4} {d : V4} {op : Int} (h : (eqCs (V4.cs d) (V4.cs d) && true) = true) (c0 : CallOK Try.prog (CallRec.mk 46 [AV.c (AC.i op), AV.ag (V4.cs a), AV.ag (V4.cs b)] [] (Eff.mk (AV.tu [AT.ag (V4.cs V4.z), AT.c (AC.i 1)]) [] none))) (c1 : CallOK Try.prog (CallRec.mk 34 [AV.ag (V4.cs a)] [] (Eff.mk (AV.c (AC.b true)) [] none))) (c2 : CallOK Try.prog (CallRec.mk 34 [AV.ag (V4.cs b)] [] (Eff.mk (AV.c (AC.b false)) [] none))) (c3 : CallOK Try.prog (CallRec.mk 48 [AV.c (AC.i 8)] [] (Eff.mk (AV.tu [AT.ag (V4.cs d), AT.c (AC.i 0)]) [] none))) (c4 : CallOK Try.prog (CallRec.mk 49 [AV.c (AC.i 8)] [] (Eff.mk (AV.ag (V4.cs d)) [] none))) (c5 : CallOK Try.prog (CallRec.mk 50 [] [] (Eff.mk (AV.c (AC.b true)) [] none))) :
    CallOK Try.prog ⟨8, [AV.c (AC.i op), AV.ag (V4.cs a), AV.ag (V4.cs b), AV.c (AC.i 8)], [], ⟨AV.c (AC.b true), [], none⟩⟩ :=
  val_run 2000 [Eff.mk (AV.tu [AT.ag (V4.cs V4.z), AT.c (AC.i 1)]) [] none, Eff.mk (AV.c (AC.b true)) [] none, Eff.mk (AV.c (AC.b false)) [] none, Eff.mk (AV.tu [AT.ag (V4.cs d), AT.c (AC.i 0)]) [] none, Eff.mk (AV.ag (V4.cs d)) [] none, Eff.mk (AV.c (AC.b true)) [] none] [false, true, false, false, false, true, true, true, true, true] ([]) [] Try.func8 rfl rfl rfl rfl (by kernel_rfl) h (cr_cons c0 (cr_cons c1 (cr_cons c2 (cr_cons c3 (cr_cons c4 (cr_cons c5 cr_nil))))))
theorem calcTwoLoy1_w0 {a : V4} {b : V4} {d : V4} {op : Int} (h : (decide (op < 2) && (eqCs (V4.cs d) (V4.cs d) && true)) = true) (c0 : CallOK Try.prog (CallRec.mk 46 [AV.c (AC.i op), AV.ag (V4.cs a), AV.ag (V4.cs b)] [] (Eff.mk (AV.tu [AT.ag (V4.cs V4.z), AT.c (AC.i 4)]) [] none))) (c1 : CallOK Try.prog (CallRec.mk 34 [AV.ag (V4.cs a)] [] (Eff.mk (AV.c (AC.b true)) [] none))) (c2 : CallOK Try.prog (CallRec.mk 34 [AV.ag (V4.cs b)] [] (Eff.mk (AV.c (AC.b true)) [] none))) (c3 : CallOK Try.prog (CallRec.mk 48 [AV.c (AC.i 1)] [] (Eff.mk (AV.tu [AT.ag (V4.cs d), AT.c (AC.i 0)]) [] none))) (c4 : CallOK Try.prog (CallRec.mk 49 [AV.c (AC.i 1)] [] (Eff.mk (AV.ag (V4.cs d)) [] none))) (c5 : CallOK Try.prog (CallRec.mk 50 [] [] (Eff.mk (AV.c (AC.b true)) [] none))) :
    CallOK Try.prog ⟨8, [AV.c (AC.i op), AV.ag (V4.cs a), AV.ag (V4.cs b), AV.c (AC.i 1)], [], ⟨AV.c (AC.b true), [], none⟩⟩ :=
  val_run 2000 [Eff.mk (AV.tu [AT.ag (V4.cs V4.z), AT.c (AC.i 4)]) [] none, Eff.mk (AV.c (AC.b true)) [] none, Eff.mk (AV.c (AC.b true)) [] none, Eff.mk (AV.tu [AT.ag (V4.cs d), AT.c (AC.i 0)]) [] none, Eff.mk (AV.ag (V4.cs d)) [] none, Eff.mk (AV.c (AC.b true)) [] none] [false, false, true, true, true, true, true, true, true, true, true, true] ([]) [] Try.func8 rfl rfl rfl rfl (by kernel_rfl) h (cr_cons c0 (cr_cons c1 (cr_cons c2 (cr_cons c3 (cr_cons c4 (cr_cons c5 cr_nil))))))
theorem calcTwoLoy2_w0 {a : V4} {b : V4} {d : V4} {op : Int} (h : (decide (op < 2) && (eqCs (V4.cs d) (V4.cs d) && true)) = true) (c0 : CallOK Try.prog (CallRec.mk 46 [AV.c (AC.i op), AV.ag (V4.cs a), AV.ag (V4.cs b)] [] (Eff.mk (AV.tu [AT.ag (V4.cs V4.z), AT.c (AC.i 4)]) [] none))) (c1 : CallOK Try.prog (CallRec.mk 34 [AV.ag (V4.cs a)] [] (Eff.mk (AV.c (AC.b true)) [] none))) (c2 : CallOK Try.prog (CallRec.mk 34 [AV.ag (V4.cs b)] [] (Eff.mk (AV.c (AC.b true)) [] none))) (c3 : CallOK Try.prog (CallRec.mk 48 [AV.c (AC.i 2)] [] (Eff.mk (AV.tu [AT.ag (V4.cs d), AT.c (AC.i 0)]) [] none))) (c4 : CallOK Try.prog (CallRec.mk 49 [AV.c (AC.i 2)] [] (Eff.mk (AV.ag (V4.cs d)) [] none))) (c5 : CallOK Try.prog (CallRec.mk 50 [] [] (Eff.mk (AV.c (AC.b true)) [] none))) :
    CallOK Try.prog ⟨8, [AV.c (AC.i op), AV.ag (V4.cs a), AV.ag (V4.cs b), AV.c (AC.i 2)], [], ⟨AV.c (AC.b true), [], none⟩⟩ :=
  val_run 2000 [Eff.mk (AV.tu [AT.ag (V4.cs V4.z), AT.c (AC.i 4)]) [] none, Eff.mk (AV.c (AC.b true)) [] none, Eff.mk (AV.c (AC.b true)) [] none, Eff.mk (AV.tu [AT.ag (V4.cs d), AT.c (AC.i 0)]) [] none, Eff.mk (AV.ag (V4.cs d)) [] none, Eff.mk (AV.c (AC.b true)) [] none] [false, false, true, true, false, true, true, true, true, true, true, true] ([]) [] Try.func8 rfl rfl rfl rfl (by kernel_rfl) h (cr_cons c0 (cr_cons c1 (cr_cons c2 (cr_cons c3 (cr_cons c4 (cr_cons c5 cr_nil))))))
theorem calcTwoLoy4_w0 {a : V4} {b : V4} {d : V4} {op : Int} (h : (decide (op < 2) && (eqCs (V4.cs d) (V4.cs d) && true)) = true) (c0 : CallOK Try.prog (CallRec.mk 46 [AV.c (AC.i op), AV.ag (V4.cs a), AV.ag (V4.cs b)] [] (Eff.mk (AV.tu [AT.ag (V4.cs V4.z), AT.c (AC.i 4)]) [] none))) (c1 : CallOK Try.prog (CallRec.mk 34 [AV.ag (V4.cs a)] [] (Eff.mk (AV.c (AC.b true)) [] none))) (c2 : CallOK Try.prog (CallRec.mk 34 [AV.ag (V4.cs b)] [] (Eff.mk (AV.c (AC.b true)) [] none))) (c3 : CallOK Try.prog (CallRec.mk 48 [AV.c (AC.i 4)] [] (Eff.mk (AV.tu [AT.ag (V4.cs d), AT.c (AC.i 0)]) [] none))) (c4 : CallOK Try.prog (CallRec.mk 49 [AV.c (AC.i 4)] [] (Eff.mk (AV.ag (V4.cs d)) [] none))) (c5 : CallOK Try.prog (CallRec.mk 50 [] [] (Eff.mk (AV.c (AC.b true)) [] none))) :
    CallOK Try.prog ⟨8, [AV.c (AC.i op), AV.ag (V4.cs a), AV.ag (V4.cs b), AV.c (AC.i 4)], [], ⟨AV.c (AC.b true), [], none⟩⟩ :=
  val_run 2000 [Eff.mk (AV.tu [AT.ag (V4.cs V4.z), AT.c (AC.i 4)]) [] none, Eff.mk (AV.c (AC.b true)) [] none, Eff.mk (AV.c (AC.b true)) [] none, Eff.mk (AV.tu [AT.ag (V4.cs d), AT.c (AC.i 0)]) [] none, Eff.mk (AV.ag (V4.cs d)) [] none, Eff.mk (AV.c (AC.b true)) [] none] [false, false, true, true, false, false, true, true, true, true, true, true] ([]) [] Try.func8 rfl rfl rfl rfl (by kernel_rfl) h (cr_cons c0 (cr_cons c1 (cr_cons c2 (cr_cons c3 (cr_cons c4 (cr_cons c5 cr_nil))))))
theorem calcTwoLoy8_w0 {a : V4} {b : V4} {d : V4} {op : Int} (h : (decide (op < 2) && (eqCs (V4.cs d) (V4.cs d) && true)) = true) (c0 : CallOK Try.prog (CallRec.mk 46 [AV.c (AC.i op), AV.ag (V4.cs a), AV.ag (V4.cs b)] [] (Eff.mk (AV.tu [AT.ag (V4.cs V4.z), AT.c (AC.i 4)]) [] none))) (c1 : CallOK Try.prog (CallRec.mk 34 [AV.ag (V4.cs a)] [] (Eff.mk (AV.c (AC.b true)) [] none))) (c2 : CallOK Try.prog (CallRec.mk 34 [AV.ag (V4.cs b)] [] (Eff.mk (AV.c (AC.b true)) [] none))) (c3 : CallOK Try.prog (CallRec.mk 48 [AV.c (AC.i 8)] [] (Eff.mk (AV.tu [AT.ag (V4.cs d), AT.c (AC.i 0)]) [] none))) (c4 : CallOK Try.prog (CallRec.mk 49 [AV.c (AC.i 8)] [] (Eff.mk (AV.ag (V4.cs d)) [] none))) (c5 : CallOK Try.prog (CallRec.mk 50 [] [] (Eff.mk (AV.c (AC.b true)) [] none))) :
    CallOK Try.prog ⟨8, [AV.c (AC.i op), AV.ag (V4.cs a), AV.ag (V4.cs b), AV.c (AC.i 8)], [], ⟨AV.c (AC.b true), [], none⟩⟩ :=
  val_run 2000 [Eff.mk (AV.tu [AT.ag (V4.cs V4.z), AT.c (AC.i 4)]) [] none, Eff.mk (AV.c (AC.b true)) [] none, Eff.mk (AV.c (AC.b true)) [] none, Eff.mk (AV.tu [AT.ag (V4.cs d), AT.c (AC.i 0)]) [] none, Eff.mk (AV.ag (V4.cs d)) [] none, Eff.mk (AV.c (AC.b true)) [] none] [false, false, true, true, false, false, false, true, true, true, true, true] ([]) [] Try.func8 rfl rfl rfl rfl (by kernel_rfl) h (cr_cons c0 (cr_cons c1 (cr_cons c2 (cr_cons c3 (cr_cons c4 (cr_cons c5 cr_nil))))))
theorem calcTwoHiy1_w0 {a : V4} {b : V4} {d : V4} {op : Int} (h : (!decide (op < 2) && (decide (9 < op) && (eqCs (V4.cs d) (V4.cs d) && true))) = true) (c0 : CallOK Try.prog (CallRec.mk 46 [AV.c (AC.i op), AV.ag (V4.cs a), AV.ag (V4.cs b)] [] (Eff.mk (AV.tu [AT.ag (V4.cs V4.z), AT.c (AC.i 4)]) [] none))) (c1 : CallOK Try.prog (CallRec.mk 34 [AV.ag (V4.cs a)] [] (Eff.mk (AV.c (AC.b true)) [] none))) (c2 : CallOK Try.prog (CallRec.mk 34 [AV.ag (V4.cs b)] [] (Eff.mk (AV.c (AC.b true)) [] none))) (c3 : CallOK Try.prog (CallRec.mk 48 [AV.c (AC.i 1)] [] (Eff.mk (AV.tu [AT.ag (V4.cs d), AT.c (AC.i 0)]) [] none))) (c4 : CallOK Try.prog (CallRec.mk 49 [AV.c (AC.i 1)] [] (Eff.mk (AV.ag (V4.cs d)) [] none))) (c5 : CallOK Try.prog (CallRec.mk 50 [] [] (Eff.mk (AV.c (AC.b true)) [] none))) :
    CallOK Try.prog ⟨8, [AV.c (AC.i op), AV.ag (V4.cs a), AV.ag (V4.cs b), AV.c (AC.i 1)], [], ⟨AV.c (AC.b true), [], none⟩⟩ :=
  val_run 2000 [Eff.mk (AV.tu [AT.ag (V4.cs V4.z), AT.c (AC.i 4)]) [] none, Eff.mk (AV.c (AC.b true)) [] none, Eff.mk (AV.c (AC.b true)) [] none, Eff.mk (AV.tu [AT.ag (V4.cs d), AT.c (AC.i 0)]) [] none, Eff.mk (AV.ag (V4.cs d)) [] none, Eff.mk (AV.c (AC.b true)) [] none] [false, false, false, true, true, true, true, true, true, true, true, true] ([]) [] Try.func8 rfl rfl rfl rfl (by kernel_rfl) h (cr_cons c0 (cr_cons c1 (cr_cons c2 (cr_cons c3 (cr_cons c4 (cr_cons c5 cr_nil))))))
theorem calcTwoHiy2_w0 {a : V4} {b : V4} {d : V4} {op : Int} (h : (!decide (op < 2) && (decide (9 < op) && (eqCs (V4.cs d) (V4.cs d) && true))) = true) (c0 : CallOK Try.prog (CallRec.mk 46 [AV.c (AC.i op), AV.ag (V4.cs a), AV.ag (V4.cs b)] [] (Eff.mk (AV.tu [AT.ag (V4.cs V4.z), AT.c (AC.i 4)]) [] none))) (c1 : CallOK Try.prog (CallRec.mk 34 [AV.ag (V4.cs a)] [] (Eff.mk (AV.c (AC.b true)) [] none))) (c2 : CallOK Try.prog (CallRec.mk 34 [AV.ag (V4.cs b)] [] (Eff.mk (AV.c (AC.b true)) [] none))) (c3 : CallOK Try.prog (CallRec.mk 48 [AV.c (AC.i 2)] [] (Eff.mk (AV.tu [AT.ag (V4.cs d), AT.c (AC.i 0)]) [] none))) (c4 : CallOK Try.prog (CallRec.mk 49 [AV.c (AC.i 2)] [] (Eff.mk (AV.ag (V4.cs d)) [] none))) (c5 : CallOK Try.prog (CallRec.mk 50 [] [] (Eff.mk (AV.c (AC.b true)) [] none))) :
    CallOK Try.prog ⟨8, [AV.c (AC.i op), AV.ag (V4.cs a), AV.ag (V4.cs b), AV.c (AC.i 2)], [], ⟨AV.c (AC.b true), [], none⟩⟩ :=
  val_run 2000 [Eff.mk (AV.tu [AT.ag (V4.cs V4.z), AT.c (AC.i 4)]) [] none, Eff.mk (AV.c (AC.b true)) [] none, Eff.mk (AV.c (AC.b true)) [] none, Eff.mk (AV.tu [AT.ag (V4.cs d), AT.c (AC.i 0)]) [] none, Eff.mk (AV.ag (V4.cs d)) [] none, Eff.mk (AV.c (AC.b true)) [] none] [false, false, false, true, false, true, true, true, true, true, true, true] ([]) [] Try.func8 rfl rfl rfl rfl (by kernel_rfl) h (cr_cons c0 (cr_cons c1 (cr_cons c2 (cr_cons c3 (cr_cons c4 (cr_cons c5 cr_nil))))))
theorem calcTwoHiy4_w0 {a : V4} {b : V4} {d : V4} {op : Int} (h : (!decide (op < 2) && (decide (9 < op) && (eqCs (V4.cs d) (V4.cs d) && true))) = true) (c0 : CallOK Try.prog (CallRec.mk 46 [AV.c (AC.i op), AV.ag (V4.cs a), AV.ag (V4.cs b)] [] (Eff.mk (AV.tu [AT.ag (V4.cs V4.z), AT.c (AC.i 4)]) [] none))) (c1 : CallOK Try.prog (CallRec.mk 34 [AV.ag (V4.cs a)] [] (Eff.mk (AV.c (AC.b true)) [] none))) (c2 : CallOK Try.prog (CallRec.mk 34 [AV.ag (V4.cs b)] [] (Eff.mk (AV.c (AC.b true)) [] none))) (c3 : CallOK Try.prog (CallRec.mk 48 [AV.c (AC.i 4)] [] (Eff.mk (AV.tu [AT.ag (V4.cs d), AT.c (AC.i 0)]) [] none))) (c4 : CallOK Try.prog (CallRec.mk 49 [AV.c (AC.i 4)] [] (Eff.mk (AV.ag (V4.cs d)) [] none))) (c5 : CallOK Try.prog (CallRec.mk 50 [] [] (Eff.mk (AV.c (AC.b true)) [] none))) :
    CallOK Try.prog ⟨8, [AV.c (AC.i op), AV.ag (V4.cs a), AV.ag (V4.cs b), AV.c (AC.i 4)], [], ⟨AV.c (AC.b true), [], none⟩⟩ :=
  val_run 2000 [Eff.mk (AV.tu [AT.ag (V4.cs V4.z), AT.c (AC.i 4)]) [] none, Eff.mk (AV.c (AC.b true)) [] none, Eff.mk (AV.c (AC.b true)) [] none, Eff.mk (AV.tu [AT.ag (V4.cs d), AT.c (AC.i 0)]) [] none, Eff.mk (AV.ag (V4.cs d)) [] none, Eff.mk (AV.c (AC.b true)) [] none] [false, false, false, true, false, false, true, true, true, true, true, true] ([]) [] Try.func8 rfl rfl rfl rfl (by kernel_rfl) h (cr_cons c0 (cr_cons c1 (cr_cons c2 (cr_cons c3 (cr_cons c4 (cr_cons c5 cr_nil))))))
theorem calcTwoHiy8_w0 {a : V4} {b : V4} {d : V4} {op : Int} (h : (!decide (op < 2) && (decide (9 < op) && (eqCs (V4.cs d) (V4.cs d) && true))) = true) (c0 : CallOK Try.prog (CallRec.mk 46 [AV.c (AC.i op), AV.ag (V4.cs a), AV.ag (V4.cs b)] [] (Eff.mk (AV.tu [AT.ag (V4.cs V4.z), AT.c (AC.i 4)]) [] none))) (c1 : CallOK Try.prog (CallRec.mk 34 [AV.ag (V4.cs a)] [] (Eff.mk (AV.c (AC.b true)) [] none))) (c2 : CallOK Try.prog (CallRec.mk 34 [AV.ag (V4.cs b)] [] (Eff.mk (AV.c (AC.b true)) [] none))) (c3 : CallOK Try.prog (CallRec.mk 48 [AV.c (AC.i 8)] [] (Eff.mk (AV.tu [AT.ag (V4.cs d), AT.c (AC.i 0)]) [] none))) (c4 : CallOK Try.prog (CallRec.mk 49 [AV.c (AC.i 8)] [] (Eff.mk (AV.ag (V4.cs d)) [] none))) (c5 : CallOK Try.prog (CallRec.mk 50 [] [] (Eff.mk (AV.c (AC.b true)) [] none))) :
    CallOK Try.prog ⟨8, [AV.c (AC.i op), AV.ag (V4.cs a), AV.ag (V4.cs b), AV.c (AC.i 8)], [], ⟨AV.c (AC.b true), [], none⟩⟩ :=
  val_run 2000 [Eff.mk (AV.tu [AT.ag (V4.cs V4.z), AT.c (AC.i 4)]) [] none, Eff.mk (AV.c (AC.b true)) [] none, Eff.mk (AV.c (AC.b true)) [] none, Eff.mk (AV.tu [AT.ag (V4.cs d), AT.c (AC.i 0)]) [] none, Eff.mk (AV.ag (V4.cs d)) [] none, Eff.mk (AV.c (AC.b true)) [] none] [false, false, false, true, false, false, false, true, true, true, true, true] ([]) [] Try.func8 rfl rfl rfl rfl (by kernel_rfl) h (cr_cons c0 (cr_cons c1 (cr_cons c2 (cr_cons c3 (cr_cons c4 (cr_cons c5 cr_nil))))))
theorem calcTwoOkn_w0 {a : V4} {b : V4} {c : V4} {op : Int} {size : Int} (h : (!decide (op < 2) && (!decide (9 < op) && (!size == 1 && (!size == 2 && (!size == 4 && (!size == 8 && (eqCs (V4.cs c) (V4.cs c) && true))))))) = true) (c0 : CallOK Try.prog (CallRec.mk 46 [AV.c (AC.i op), AV.ag (V4.cs a), AV.ag (V4.cs b)] [] (Eff.mk (AV.tu [AT.ag (V4.cs c), AT.c (AC.i 0)]) [] none))) (c1 : CallOK Try.prog (CallRec.mk 34 [AV.ag (V4.cs a)] [] (Eff.mk (AV.c (AC.b true)) [] none))) (c2 : CallOK Try.prog (CallRec.mk 34 [AV.ag (V4.cs b)] [] (Eff.mk (AV.c (AC.b true)) [] none))) (c3 : CallOK Try.prog (CallRec.mk 47 [AV.c (AC.i op), AV.ag (V4.cs a), AV.ag (V4.cs b)] [] (Eff.mk (AV.ag (V4.cs c)) [] none))) (c4 : CallOK Try.prog (CallRec.mk 48 [AV.c (AC.i size)] [] (Eff.mk (AV.tu [AT.ag (V4.cs V4.z), AT.c (AC.i 3)]) [] none))) (c5 : CallOK Try.prog (CallRec.mk 50 [] [] (Eff.mk (AV.c (AC.b true)) [] none))) :
    CallOK Try.prog ⟨8, [AV.c (AC.i op), AV.ag (V4.cs a), AV.ag (V4.cs b), AV.c (AC.i size)], [], ⟨AV.c (AC.b true), [], none⟩⟩ :=
  val_run 2000 [Eff.mk (AV.tu [AT.ag (V4.cs c), AT.c (AC.i 0)]) [] none, Eff.mk (AV.c (AC.b true)) [] none, Eff.mk (AV.c (AC.b true)) [] none, Eff.mk (AV.ag (V4.cs c)) [] none, Eff.mk (AV.tu [AT.ag (V4.cs V4.z), AT.c (AC.i 3)]) [] none, Eff.mk (AV.c (AC.b true)) [] none] [false, false, false, false, false, false, false, false, true, true, true, true] ([]) [] Try.func8 rfl rfl rfl rfl (by kernel_rfl) h (cr_cons c0 (cr_cons c1 (cr_cons c2 (cr_cons c3 (cr_cons c4 (cr_cons c5 cr_nil))))))
theorem calcTwoBadAn_w0 {a : V4} {b : V4} {op : Int} {size : Int} (h : (!size == 1 && (!size == 2 && (!size == 4 && (!size == 8 && true)))) = true) (c0 : CallOK Try.prog (CallRec.mk 46 [AV.c (AC.i op), AV.ag (V4.cs a), AV.ag (V4.cs b)] [] (Eff.mk (AV.tu [AT.ag (V4.cs V4.z), AT.c (AC.i 1)]) [] none))) (c1 : CallOK Try.prog (CallRec.mk 34 [AV.ag (V4.cs a)] [] (Eff.mk (AV.c (AC.b false)) [] none))) (c2 : CallOK Try.prog (CallRec.mk 48 [AV.c (AC.i size)] [] (Eff.mk (AV.tu [AT.ag (V4.cs V4.z), AT.c (AC.i 3)]) [] none))) (c3 : CallOK Try.prog (CallRec.mk 50 [] [] (Eff.mk (AV.c (AC.b true)) [] none))) :
    CallOK Try.prog ⟨8, [AV.c (AC.i op), AV.ag (V4.cs a), AV.ag (V4.cs b), AV.c (AC.i size)], [], ⟨AV.c (AC.b true), [], none⟩⟩ :=
  val_run 2000 [Eff.mk (AV.tu [AT.ag (V4.cs V4.z), AT.c (AC.i 1)]) [] none, Eff.mk (AV.c (AC.b false)) [] none, Eff.mk (AV.tu [AT.ag (V4.cs V4.z), AT.c (AC.i 3)]) [] none, Eff.mk (AV.c (AC.b true)) [] none] [true, true, false, false, false, false, true, true, true, true] ([]) [] Try.func8 rfl rfl rfl rfl (by kernel_rfl) h (cr_cons c0 (cr_cons c1 (cr_cons c2 (cr_cons c3 cr_nil))))
theorem calcTwoBadBn_w0 {a : V4} {b : V4} {op : Int} {size : Int} (h : (!size == 1 && (!size == 2 && (!size == 4 && (!size == 8 && true)))) = true) (c0 : CallOK Try.prog (CallRec.mk 46 [AV.c (AC.i op), AV.ag (V4.cs a), AV.ag (V4.cs b)] [] (Eff.mk (AV.tu [AT.ag (V4.cs V4.z), AT.c (AC.i 1)]) [] none))) (c1 : CallOK Try.prog (CallRec.mk 34 [AV.ag (V4.cs a)] [] (Eff.mk (AV.c (AC.b true)) [] none))) (c2 : CallOK Try.prog (CallRec.mk 34 [AV.ag (V4.cs b)] [] (Eff.mk (AV.c (AC.b false)) [] none))) (c3 : CallOK Try.prog (CallRec.mk 48 [AV.c (AC.i size)] [] (Eff.mk (AV.tu [AT.ag (V4.cs V4.z), AT.c (AC.i 3)]) [] none))) (c4 : CallOK Try.prog (CallRec.mk 50 [] [] (Eff.mk (AV.c (AC.b true)) [] none))) :
    CallOK Try.prog ⟨8, [AV.c (AC.i op), AV.ag (V4.cs a), AV.ag (V4.cs b), AV.c (AC.i size)], [], ⟨AV.c (AC.b true), [], none⟩⟩ :=
  val_run 2000 [Eff.mk (AV.tu [AT.ag (V4.cs V4.z), AT.c (AC.i 1)]) [] none, Eff.mk (AV.c (AC.b true)) [] none, Eff.mk (AV.c (AC.b false)) [] none, Eff.mk (AV.tu [AT.ag (V4.cs V4.z), AT.c (AC.i 3)]) [] none, Eff.mk (AV.c (AC.b true)) [] none] [false, true, false, false, false, false, true, true, true, true] ([]) [] Try.func8 rfl rfl rfl rfl (by kernel_rfl) h (cr_cons c0 (cr_cons c1 (cr_cons c2 (cr_cons c3 (cr_cons c4 cr_nil)))))
theorem calcTwoLon_w0 {a : V4} {b : V4} {op : Int} {size : Int} (h : (decide (op < 2) && (!size == 1 && (!size == 2 && (!size == 4 && (!size == 8 && true))))) = true) (c0 : CallOK Try.prog (CallRec.mk 46 [AV.c (AC.i op), AV.ag (V4.cs a), AV.ag (V4.cs b)] [] (Eff.mk (AV.tu [AT.ag (V4.cs V4.z), AT.c (AC.i 4)]) [] none))) (c1 : CallOK Try.prog (CallRec.mk 34 [AV.ag (V4.cs a)] [] (Eff.mk (AV.c (AC.b true)) [] none))) (c2 : CallOK Try.prog (CallRec.mk 34 [AV.ag (V4.cs b)] [] (Eff.mk (AV.c (AC.b true)) [] none))) (c3 : CallOK Try.prog (CallRec.mk 48 [AV.c (AC.i size)] [] (Eff.mk (AV.tu [AT.ag (V4.cs V4.z), AT.c (AC.i 3)]) [] none))) (c4 : CallOK Try.prog (CallRec.mk 50 [] [] (Eff.mk (AV.c (AC.b true)) [] none))) :
    CallOK Try.prog ⟨8, [AV.c (AC.i op), AV.ag (V4.cs a), AV.ag (V4.cs b), AV.c (AC.i size)], [], ⟨AV.c (AC.b true), [], none⟩⟩ :=
  val_run 2000 [Eff.mk (AV.tu [AT.ag (V4.cs V4.z), AT.c (AC.i 4)]) [] none, Eff.mk (AV.c (AC.b true)) [] none, Eff.mk (AV.c (AC.b true)) [] none, Eff.mk (AV.tu [AT.ag (V4.cs V4.z), AT.c (AC.i 3)]) [] none, Eff.mk (AV.c (AC.b true)) [] none] [false, false, true, true, false, false, false, false, true, true, true, true] ([]) [] Try.func8 rfl rfl rfl rfl (by kernel_rfl) h (cr_cons c0 (cr_cons c1 (cr_cons c2 (cr_cons c3 (cr_cons c4 cr_nil)))))
theorem calcTwoHin_w0 {a : V4} {b : V4} {op : Int} {size : Int} (h : (!decide (op < 2) && (decide (9 < op) && (!size == 1 && (!size == 2 && (!size == 4 && (!size == 8 && true)))))) = true) (c0 : CallOK Try.prog (CallRec.mk 46 [AV.c (AC.i op), AV.ag (V4.cs a), AV.ag (V4.cs b)] [] (Eff.mk (AV.tu [AT.ag (V4.cs V4.z), AT.c (AC.i 4)]) [] none))) (c1 : CallOK Try.prog (CallRec.mk 34 [AV.ag (V4.cs a)] [] (Eff.mk (AV.c (AC.b true)) [] none))) (c2 : CallOK Try.prog (CallRec.mk 34 [AV.ag (V4.cs b)] [] (Eff.mk (AV.c (AC.b true)) [] none))) (c3 : CallOK Try.prog (CallRec.mk 48 [AV.c (AC.i size)] [] (Eff.mk (AV.tu [AT.ag (V4.cs V4.z), AT.c (AC.i 3)]) [] none))) (c4 : CallOK Try.prog (CallRec.mk 50 [] [] (Eff.mk (AV.c (AC.b true)) [] none))) :
    CallOK Try.prog ⟨8, [AV.c (AC.i op), AV.ag (V4.cs a), AV.ag (V4.cs b), AV.c (AC.i size)], [], ⟨AV.c (AC.b true), [], none⟩⟩ :=
  val_run 2000 [Eff.mk (AV.tu [AT.ag (V4.cs V4.z), AT.c (AC.i 4)]) [] none, Eff.mk (AV.c (AC.b true)) [] none, Eff.mk (AV.c (AC.b true)) [] none, Eff.mk (AV.tu [AT.ag (V4.cs V4.z), AT.c (AC.i 3)]) [] none, Eff.mk (AV.c (AC.b true)) [] none] [false, false, false, true, false, false, false, false, true, true, true, true] ([]) [] Try.func8 rfl rfl rfl rfl (by kernel_rfl) h (cr_cons c0 (cr_cons c1 (cr_cons c2 (cr_cons c3 (cr_cons c4 cr_nil)))))
end Go.Proofs.Ytkigmocchaikgaa

/- A region that draws its order, walked once, in the order of the text, over a class of worlds: the library's law, for the worlds in which a call's own blocks are kept. -/
namespace Go.Proofs.Ytkigmocchaikgaa
open Go.RowKit

theorem region_class (C : World → Prop) {P : Program} {id : Nat} {Q : Exit → Act → World → Prop} {a : Act} {w : World} {l : List Oper} (hm : P.follows .mixedOrders = true) (hB : Region.lexB .any l.toArray = true)
    (hC : C w.drew) (h : wpQuiet P l.toArray C (fun a' => ∀ w', C w' → Q .normal a' w') l a) : (Code.region id l.toArray true).wp P Q a w :=
  wp_region_quiet (C := C) hm hB hC (by simpa using h)
structure Cl (w0 : World) (L : List (Nat × List Value)) where
  val : World
  kp : Kp w0 val L
theorem Cl.of {P : Program} {f : FuncId} {args : Array Value} {w0 : World} {L : List (Nat × List Value)} {n : Cl w0 L} {v : Value}
    (h : Calls P f args n.val fun e w' => e = .returned v ∧ Below n.val.heap.size n.val w') : Calls P f args n.val fun e w'' => e = .returned v ∧ ∃ m : Cl w0 L, w'' = m.val :=
  h.mono fun _ _ ⟨he, hb⟩ => ⟨he, ⟨⟨_, n.kp.keep hb⟩, rfl⟩⟩
theorem Cl.start {w0 w : World} {L : List (Nat × List Value)} (h : Kp w0 w L) : ∃ n : Cl w0 L, w.drew = n.val := ⟨⟨_, h.keep (Below.drew (Below.refl _ _))⟩, rfl⟩
theorem Cl.some {w0 w : World} {L : List (Nat × List Value)} (h : Kp w0 w L) : Nonempty (Cl w0 L) := ⟨⟨_, h⟩⟩

end Go.Proofs.Ytkigmocchaikgaa

/- valBegun: what must be in any case. -/
namespace Go.Proofs.Ytkigmocchaikgaa
open Go.RowKit Go.BigFrame
attribute [local go_sem] w_and w_or w_xor w_andNot w_and1 w_and63 w_add w_sub w_mul w_sub1 w_add1 w_shl w_shl1 w_shr c_beq c_bne c_beq0 c_bne0 c_beq1 c_bne1 wrap_nv

abbrev J4 (a b c d : Int) : Value := .agg #[I a, I b, I c, I d]
theorem vb1 : normOk 1#64 18446744073709551614#64 2#64 10#64 = true := by decide +kernel
theorem vb2 : nLo 1#64 18446744073709551614#64 2#64 = 3#64 ∧ nHi 1#64 18446744073709551614#64 10#64 = 9#64 := by decide +kernel
theorem vb3 : nV 1#64 18446744073709551614#64 2#64 10#64 = 1#64 ∧ nM 18446744073709551614#64 3#64 9#64 = 14#64 := by decide +kernel
theorem vb4 : normOk 8#64 0#64 1#64 7#64 = false := by decide +kernel
theorem vb5 : (valB 4#64 0#64 4#64 4#64 && valB 1#64 14#64 3#64 9#64) = true := by decide +kernel
theorem vb6 : jV 4#64 0#64 1#64 14#64 = 0#64 ∧ jM 4#64 0#64 1#64 14#64 = 15#64 ∧ bmin 4#64 3#64 = 3#64 ∧ bmax 4#64 9#64 = 9#64 := by decide +kernel
theorem vb7 : nLo 0#64 15#64 3#64 = 3#64 ∧ nHi 0#64 15#64 9#64 = 9#64 ∧ nV 0#64 15#64 3#64 9#64 = 0#64 ∧ nM 15#64 3#64 9#64 = 15#64 := by decide +kernel
theorem vc1 (w : World) : Calls Try.prog 31 #[J4 1 18446744073709551614 2 10] w fun e w' => e = .returned (.tuple #[J4 1 14 3 9, .bool true, N 0]) ∧ Below w.heap.size w w' := by
  have h := norm_yes (v := 1#64) (m := 18446744073709551614#64) (l := 2#64) (h := 10#64) (show _ = true by decide) vb1 w
  rw [vb2.1, vb2.2, vb3.1, vb3.2] at h; exact h
theorem vc2 (w : World) : Calls Try.prog 31 #[J4 8 0 1 7] w fun e w' => e = .returned (.tuple #[J4 0 0 0 0, .bool false, N 0]) ∧ Below w.heap.size w w' := by
  exact norm_none (v := 8#64) (m := 0#64) (l := 1#64) (h := 7#64) (show _ = true by decide) vb4 w
theorem vc3 (w : World) : Calls Try.prog 40 #[I 4] w fun e w' => e = .returned (J4 4 0 4 4) ∧ Below w.heap.size w w' := valOf_any 4#64 w
set_option maxHeartbeats 400000 in
theorem odd_any (w : World) : Calls Try.prog 86 #[] w fun e w' => e = .returned (J4 1 14 3 9) ∧ Below w.heap.size w w' := by
  go_enter Try.func86, Try.ntmps86
  go_wp2_with fail
  exact bodyPost_ret (v := J4 1 14 3 9) (by simp [results, Try.results86, go_sem]) rfl ⟨rfl, (by repeat (first | exact Below.refl _ _ | assumption | refine below_drewN ?_ _ | refine Below.drew ?_ | refine Below.alloc ?_ (by first | exact Nat.le_refl _ | (simp; done) | (simp; omega) | omega) _ | refine Below.setCell ?_ (by first | exact Nat.le_refl _ | (simp; done) | (simp; omega) | omega) _ | refine Below.trans ?_ (Below.mono (by assumption) (by first | exact Nat.le_refl _ | (simp; done) | (simp; omega) | omega))))⟩
theorem vc5 (w : World) : Calls Try.prog 32 #[J4 4 0 4 4, J4 1 14 3 9] w fun e w' => e = .returned (.tuple #[J4 0 15 3 9, N 0]) ∧ Below w.heap.size w w' := by
  have h := valJoin_yes (v := 4#64) (m := 0#64) (l := 4#64) (h := 4#64) (v' := 1#64) (m' := 14#64) (l' := 3#64) (h' := 9#64) vb5 w
  rw [vb6.1, vb6.2.1, vb6.2.2.1, vb6.2.2.2, vb7.1, vb7.2.1, vb7.2.2.1, vb7.2.2.2] at h; exact h
theorem vc6 (w : World) : Calls Try.prog 38 #[J4 1 14 3 9, I 5] w fun e w' => e = .returned (.bool true) ∧ Below w.heap.size w w' := by
  have h := valHas_any 1#64 14#64 3#64 9#64 5#64 w
  rw [show hasV 1#64 14#64 3#64 9#64 5#64 = true by decide +kernel] at h; exact h
theorem vc7 (w : World) : Calls Try.prog 38 #[J4 1 14 3 9, I 4] w fun e w' => e = .returned (.bool false) ∧ Below w.heap.size w w' := by
  have h := valHas_any 1#64 14#64 3#64 9#64 4#64 w
  rw [show hasV 1#64 14#64 3#64 9#64 4#64 = false by decide +kernel] at h; exact h
theorem vc8 (w : World) : Calls Try.prog 38 #[J4 1 14 3 9, I 11] w fun e w' => e = .returned (.bool false) ∧ Below w.heap.size w w' := by
  have h := valHas_any 1#64 14#64 3#64 9#64 11#64 w
  rw [show hasV 1#64 14#64 3#64 9#64 11#64 = false by decide +kernel] at h; exact h
theorem vc9 (w : World) : Calls Try.prog 42 #[] w fun e w' => e = .returned (J4 0 18446744073709551615 0 18446744073709551615) ∧ Below w.heap.size w w' := by
  have h := valAny_any w
  exact h
theorem vc10 (w : World) : Calls Try.prog 44 #[J4 1 14 3 9, J4 0 18446744073709551615 0 18446744073709551615] w fun e w' => e = .returned (.bool true) ∧ Below w.heap.size w w' := by
  have h := valInside_any 1#64 14#64 3#64 9#64 zero top zero top w
  rw [show insV 1#64 14#64 3#64 9#64 zero top zero top = true by decide +kernel] at h; exact h
theorem vc11 (w : World) : Calls Try.prog 37 #[J4 0 0 1 0] w fun e w' => e = .returned (N 1) ∧ Below w.heap.size w w' := by
  have h := valCheck_any 0#64 0#64 1#64 0#64 w
  rw [show valB 0#64 0#64 1#64 0#64 = false by decide +kernel] at h; exact h

set_option maxRecDepth 100000 in
set_option maxHeartbeats 4000000 in
theorem valBegun_any (w : World) : Calls Try.prog 36 #[] w fun e w' => e = .returned (.bool true) ∧ Below w.heap.size w w' := by
  go_enter Try.func36, Try.ntmps36
  go_wp2_with fail
  refine (vc1 _).mono ?_
  rintro e w1 ⟨rfl, hb1⟩
  go_wp2_with fail
  refine (vc2 _).mono ?_
  rintro e w2 ⟨rfl, hb2⟩
  have hB2 := (((Kp.start w).keep hb1).add4 _ _ _ _ _).keep hb2
  go_wp2_with fail
  refine (vc3 _).mono ?_
  rintro e w3 ⟨rfl, hb3⟩
  have hB3 := (hB2.add4 _ _ _ _ _).keep hb3
  go_wp2_with fail
  refine (odd_any _).mono ?_
  rintro e w4 ⟨rfl, hb4⟩
  have hB4 := hB3.keep hb4
  go_wp2_with fail
  refine (vc5 _).mono ?_
  rintro e w5 ⟨rfl, hb5⟩
  have hB5 := hB4.keep hb5
  have hB6 := hB5.add4 (I 0) (I 15) (I 3) (I 9) 49
  go_upto_region 4 with fail
  clear hb1 hb2 hb3 hb4 hb5 hB2 hB3 hB4 hB5
  refine region_class (fun w' => ∃ n : Cl w [(w5.heap.size, [I 0, I 15, I 3, I 9]), (w2.heap.size, [I 0, I 0, I 0, I 0]), (w1.heap.size, [I 1, I 14, I 3, I 9])], w' = n.val) (by kernel_rfl) (by kernel_rfl) (Cl.start hB6) ?_
  haveI : Nonempty (Cl w [(w5.heap.size, [I 0, I 15, I 3, I 9]), (w2.heap.size, [I 0, I 0, I 0, I 0]), (w1.heap.size, [I 1, I 14, I 3, I 9])]) := Cl.some hB6
  have hq0x0 : ∀ n : Cl w [(w5.heap.size, [I 0, I 15, I 3, I 9]), (w2.heap.size, [I 0, I 0, I 0, I 0]), (w1.heap.size, [I 1, I 14, I 3, I 9])], n.val.cell? ⟨w5.heap.size, 0, none⟩ = some (I 0) := fun n => (n.kp.box.head.four).1
  have hq0x1 : ∀ n : Cl w [(w5.heap.size, [I 0, I 15, I 3, I 9]), (w2.heap.size, [I 0, I 0, I 0, I 0]), (w1.heap.size, [I 1, I 14, I 3, I 9])], n.val.cell? ⟨w5.heap.size, 1, none⟩ = some (I 15) := fun n => (n.kp.box.head.four).2.1
  have hq0x2 : ∀ n : Cl w [(w5.heap.size, [I 0, I 15, I 3, I 9]), (w2.heap.size, [I 0, I 0, I 0, I 0]), (w1.heap.size, [I 1, I 14, I 3, I 9])], n.val.cell? ⟨w5.heap.size, 2, none⟩ = some (I 3) := fun n => (n.kp.box.head.four).2.2.1
  have hq0x3 : ∀ n : Cl w [(w5.heap.size, [I 0, I 15, I 3, I 9]), (w2.heap.size, [I 0, I 0, I 0, I 0]), (w1.heap.size, [I 1, I 14, I 3, I 9])], n.val.cell? ⟨w5.heap.size, 3, none⟩ = some (I 9) := fun n => (n.kp.box.head.four).2.2.2.1
  have hq2x0 : ∀ n : Cl w [(w5.heap.size, [I 0, I 15, I 3, I 9]), (w2.heap.size, [I 0, I 0, I 0, I 0]), (w1.heap.size, [I 1, I 14, I 3, I 9])], n.val.cell? ⟨w1.heap.size, 0, none⟩ = some (I 1) := fun n => (n.kp.box.tail.tail.head.four).1
  have hq2x1 : ∀ n : Cl w [(w5.heap.size, [I 0, I 15, I 3, I 9]), (w2.heap.size, [I 0, I 0, I 0, I 0]), (w1.heap.size, [I 1, I 14, I 3, I 9])], n.val.cell? ⟨w1.heap.size, 1, none⟩ = some (I 14) := fun n => (n.kp.box.tail.tail.head.four).2.1
  have hq2x2 : ∀ n : Cl w [(w5.heap.size, [I 0, I 15, I 3, I 9]), (w2.heap.size, [I 0, I 0, I 0, I 0]), (w1.heap.size, [I 1, I 14, I 3, I 9])], n.val.cell? ⟨w1.heap.size, 2, none⟩ = some (I 3) := fun n => (n.kp.box.tail.tail.head.four).2.2.1
  have hq2x3 : ∀ n : Cl w [(w5.heap.size, [I 0, I 15, I 3, I 9]), (w2.heap.size, [I 0, I 0, I 0, I 0]), (w1.heap.size, [I 1, I 14, I 3, I 9])], n.val.cell? ⟨w1.heap.size, 3, none⟩ = some (I 9) := fun n => (n.kp.box.tail.tail.head.four).2.2.2.1
  repeat (go_big_quiet_step (first | (go_at_call 86; exact Cl.of (odd_any _)) | (go_at_call_of 38 ((5 : Int)); exact Cl.of (vc6 _)) | (go_at_call_of 38 ((4 : Int)); exact Cl.of (vc7 _)) | (go_at_call_of 38 ((11 : Int)); exact Cl.of (vc8 _)) | (go_at_call 42; exact Cl.of (vc9 _)) | (go_at_call 44; exact Cl.of (vc10 _)) | (go_at_call 37; exact Cl.of (vc11 _))))
  refine wpQuiet_nil ?_
  rintro _ ⟨⟨wq, hq⟩, rfl⟩
  go_wp2_with fail
  go_ret
  exact ⟨rfl, hq.bel⟩
end Go.Proofs.Ytkigmocchaikgaa

/- calcBegun: what must be in any case. -/
namespace Go.Proofs.Ytkigmocchaikgaa
open Go.RowKit Go.BigFrame
attribute [local go_sem] w_and w_or w_xor w_andNot w_and1 w_and63 w_add w_sub w_mul w_sub1 w_add1 w_shl w_shl1 w_shr c_beq c_bne c_beq0 c_bne0 c_beq1 c_bne1 wrap_nv

set_option maxRecDepth 100000 in
set_option maxHeartbeats 1000000 in
theorem bytes2 (w : World) : Calls Try.prog 48 #[N 2] w fun e w' => e = .returned (.tuple #[J4 0 65535 0 65535, N 0]) ∧ Below w.heap.size w w' := by
  go_enter Try.func48, Try.ntmps48
  go_wp2_with fail
  exact bodyPost_ret (v := .tuple #[J4 0 65535 0 65535, N 0]) (by simp [results, Try.results48, go_sem]) rfl ⟨rfl, (by repeat (first | exact Below.refl _ _ | assumption | refine below_drewN ?_ _ | refine Below.drew ?_ | refine Below.alloc ?_ (by first | exact Nat.le_refl _ | (simp; done) | (simp; omega) | omega) _ | refine Below.setCell ?_ (by first | exact Nat.le_refl _ | (simp; done) | (simp; omega) | omega) _ | refine Below.trans ?_ (Below.mono (by assumption) (by first | exact Nat.le_refl _ | (simp; done) | (simp; omega) | omega))))⟩
theorem cb0 : (valB 1#64 14#64 3#64 9#64 && valB 1#64 0#64 1#64 1#64) = true ∧ (valB 1#64 14#64 3#64 9#64 && valB 6#64 0#64 6#64 6#64) = true ∧ (valB 1#64 14#64 3#64 9#64 && valB 4#64 0#64 4#64 4#64) = true := by decide +kernel
theorem cb1 : rk 2 1#64 14#64 3#64 9#64 1#64 0#64 1#64 1#64 = (0#64, 30#64, 4#64, 10#64) := by decide +kernel
theorem cb2 : normOk 0#64 30#64 4#64 10#64 = true ∧ nLo 0#64 30#64 4#64 = 4#64 ∧ nHi 0#64 30#64 10#64 = 10#64 ∧ nV 0#64 30#64 4#64 10#64 = 0#64 ∧ nM 30#64 4#64 10#64 = 14#64 := by decide +kernel
theorem cc1 (w : World) : Calls Try.prog 46 #[N 2, J4 1 14 3 9, J4 1 0 1 1] w fun e w' => e = .returned (.tuple #[J4 0 14 4 10, N 0]) ∧ Below w.heap.size w w' := by
  have h := calcTwo_yes (op := 2) (v := 1#64) (m := 14#64) (l := 3#64) (g := 9#64) (v' := 1#64) (m' := 0#64) (l' := 1#64) (g' := 1#64) cb0.1 (hid (by decide)) (show _ = true by rw [cb1]; decide) (show _ = true by rw [cb1]; exact cb2.1) w
  rw [cb1] at h
  dsimp only at h
  rw [cb2.2.1, cb2.2.2.1, cb2.2.2.2.1, cb2.2.2.2.2] at h
  exact h
theorem cb3 : bmax 3#64 3#64 = 3#64 ∧ bmin 9#64 (bsub 6#64 one) = 5#64 ∧ bmax 6#64 (badd 3#64 one) = 6#64 ∧ bmin 6#64 6#64 = 6#64 := by decide +kernel
theorem cb4 : normOk 1#64 14#64 3#64 5#64 = true ∧ nLo 1#64 14#64 3#64 = 3#64 ∧ nHi 1#64 14#64 5#64 = 5#64 ∧ nV 1#64 14#64 3#64 5#64 = 1#64 ∧ nM 14#64 3#64 5#64 = 6#64 := by decide +kernel
theorem cb5 : normOk 6#64 0#64 6#64 6#64 = true ∧ nLo 6#64 0#64 6#64 = 6#64 ∧ nHi 6#64 0#64 6#64 = 6#64 ∧ nV 6#64 0#64 6#64 6#64 = 6#64 ∧ nM 0#64 6#64 6#64 = 0#64 := by decide +kernel
theorem cn1 (w : World) : Calls Try.prog 31 #[Vl 1#64 14#64 3#64 5#64] w fun e w' => e = .returned (.tuple #[Vl 1#64 6#64 3#64 5#64, .bool true, N 0]) ∧ Below w.heap.size w w' := by
  have h := norm_yes (v := 1#64) (m := 14#64) (l := 3#64) (h := 5#64) (show _ = true by decide) cb4.1 w
  rw [cb4.2.1, cb4.2.2.1, cb4.2.2.2.1, cb4.2.2.2.2] at h; exact h
theorem cn2 (w : World) : Calls Try.prog 31 #[Vl 6#64 0#64 6#64 6#64] w fun e w' => e = .returned (.tuple #[Vl 6#64 0#64 6#64 6#64, .bool true, N 0]) ∧ Below w.heap.size w w' := by
  have h := norm_yes (v := 6#64) (m := 0#64) (l := 6#64) (h := 6#64) (show _ = true by decide) cb5.1 w
  rw [cb5.2.1, cb5.2.2.1, cb5.2.2.2.1, cb5.2.2.2.2] at h; exact h
theorem cc2 (w : World) : Calls Try.prog 53 #[J4 1 14 3 9, J4 6 0 6 6] w fun e w' => e = .returned (.tuple #[J4 1 6 3 5, J4 6 0 6 6, .bool true, N 0]) ∧ Below w.heap.size w w' := by
  exact calcLess_right (v := 1#64) (m := 14#64) (l := 3#64) (g := 9#64) (v' := 6#64) (m' := 0#64) (l' := 6#64) (g' := 6#64) (may := true) (i1 := true) (i2 := true) cb0.2.1 w
    (fun B w' hc => by
      have h := less1_yes (w := w') (b1 := B + 1) (b2 := B) hc (by decide) (by decide)
      rw [cb3.1, cb3.2.1, cb3.2.2.1, cb3.2.2.2] at h
      exact h) (fun w => cn1 w) (fun w => cn2 w)
theorem cc3 (w : World) : Calls Try.prog 51 #[J4 1 14 3 9, J4 4 0 4 4] w fun e w' => e = .returned (.tuple #[J4 0 0 0 0, J4 0 0 0 0, .bool false, N 0]) ∧ Below w.heap.size w w' := by
  exact calcEqual_right (v := 1#64) (m := 14#64) (l := 3#64) (g := 9#64) (v' := 4#64) (m' := 0#64) (l' := 4#64) (g' := 4#64) (may := false) (i1 := false) (i2 := false) cb0.2.2 w
    (fun B w' hc => equal1_is (kv := zero) (km := zero) (lo := 4#64) (hi := 4#64) hc (hid (fun w => meet_no (show _ = true by decide) (by decide) w)) (show bmax 3#64 4#64 = 4#64 by decide +kernel) (show bmin 9#64 4#64 = 4#64 by decide +kernel))
    (hid (fun w => norm_none (show _ = true by decide) (show _ = false by decide +kernel) w)) (hid (fun w => norm_none (show _ = true by decide) (show _ = false by decide +kernel) w))
theorem co (n : BitVec 64) (w : World) : Calls Try.prog 40 #[U n] w fun e w' => e = .returned (Vl n zero n n) ∧ Below w.heap.size w w' := valOf_any n w
theorem co1 (w : World) : Calls Try.prog 40 #[I 1] w fun e w' => e = .returned (J4 1 0 1 1) ∧ Below w.heap.size w w' := valOf_any 1#64 w
theorem co4 (w : World) : Calls Try.prog 40 #[I 4] w fun e w' => e = .returned (J4 4 0 4 4) ∧ Below w.heap.size w w' := valOf_any 4#64 w
theorem co6 (w : World) : Calls Try.prog 40 #[I 6] w fun e w' => e = .returned (J4 6 0 6 6) ∧ Below w.heap.size w w' := valOf_any 6#64 w

set_option maxRecDepth 100000 in
set_option maxHeartbeats 8000000 in
theorem calcBegun_any (w : World) : Calls Try.prog 50 #[] w fun e w' => e = .returned (.bool true) ∧ Below w.heap.size w w' := by
  go_enter Try.func50, Try.ntmps50
  go_wp2_with fail
  refine (odd_any _).mono ?_
  rintro e w1 ⟨rfl, hb1⟩
  go_wp2_with fail
  refine (co1 _).mono ?_
  rintro e w2 ⟨rfl, hb2⟩
  go_wp2_with fail
  refine (cc1 _).mono ?_
  rintro e w3 ⟨rfl, hb3⟩
  have hB3 := ((((Kp.start w).keep hb1).keep hb2).keep hb3).add4 (I 0) (I 14) (I 4) (I 10) 49
  go_wp2_with fail
  refine (odd_any _).mono ?_
  rintro e w4 ⟨rfl, hb4⟩
  go_wp2_with fail
  refine (co6 _).mono ?_
  rintro e w5 ⟨rfl, hb5⟩
  go_wp2_with fail
  refine (cc2 _).mono ?_
  rintro e w8 ⟨rfl, hb8⟩
  have hB8 := ((((hB3.keep hb4).keep hb5).keep hb8).add4 (I 1) (I 6) (I 3) (I 5) 49).add4 (I 6) (I 0) (I 6) (I 6) 49
  simp only [World.size_alloc] at hB8
  go_wp2_with fail
  refine (odd_any _).mono ?_
  rintro e w9 ⟨rfl, hb9⟩
  go_wp2_with fail
  refine (co4 _).mono ?_
  rintro e w10 ⟨rfl, hb10⟩
  go_wp2_with fail
  refine (cc3 _).mono ?_
  rintro e w11 ⟨rfl, hb11⟩
  have hB11 := ((((hB8.keep hb9).keep hb10).keep hb11).add4 (I 0) (I 0) (I 0) (I 0) 49).add4 (I 0) (I 0) (I 0) (I 0) 49
  simp only [World.size_alloc] at hB11
  go_wp2_with fail
  refine (bytes2 _).mono ?_
  rintro e w12 ⟨rfl, hb12⟩
  have hB12 := (hB11.keep hb12).add4 (I 0) (I 65535) (I 0) (I 65535) 49
  have k0 : bits .and .u64 0 1 = 0 := by decide
  have k14 : bits .and .u64 14 1 = 0 := by decide
  go_upto_region 5 with fail
  clear hb1 hb2 hb3 hb4 hb5 hb8 hb9 hb10 hb11 hb12 hB3 hB8 hB11
  refine region_class (fun w' => ∃ n : Cl w [(w12.heap.size, [I 0, I 65535, I 0, I 65535]), (w11.heap.size + 1, [I 0, I 0, I 0, I 0]), (w11.heap.size, [I 0, I 0, I 0, I 0]), (w8.heap.size + 1, [I 6, I 0, I 6, I 6]), (w8.heap.size, [I 1, I 6, I 3, I 5]), (w3.heap.size, [I 0, I 14, I 4, I 10])], w' = n.val) (by kernel_rfl) (by kernel_rfl) (Cl.start hB12) ?_
  haveI : Nonempty (Cl w [(w12.heap.size, [I 0, I 65535, I 0, I 65535]), (w11.heap.size + 1, [I 0, I 0, I 0, I 0]), (w11.heap.size, [I 0, I 0, I 0, I 0]), (w8.heap.size + 1, [I 6, I 0, I 6, I 6]), (w8.heap.size, [I 1, I 6, I 3, I 5]), (w3.heap.size, [I 0, I 14, I 4, I 10])]) := Cl.some hB12
  have hq0x0 : ∀ n : Cl w [(w12.heap.size, [I 0, I 65535, I 0, I 65535]), (w11.heap.size + 1, [I 0, I 0, I 0, I 0]), (w11.heap.size, [I 0, I 0, I 0, I 0]), (w8.heap.size + 1, [I 6, I 0, I 6, I 6]), (w8.heap.size, [I 1, I 6, I 3, I 5]), (w3.heap.size, [I 0, I 14, I 4, I 10])], n.val.cell? ⟨w12.heap.size, 0, none⟩ = some (I 0) := fun n => (n.kp.box.head.four).1
  have hq0x1 : ∀ n : Cl w [(w12.heap.size, [I 0, I 65535, I 0, I 65535]), (w11.heap.size + 1, [I 0, I 0, I 0, I 0]), (w11.heap.size, [I 0, I 0, I 0, I 0]), (w8.heap.size + 1, [I 6, I 0, I 6, I 6]), (w8.heap.size, [I 1, I 6, I 3, I 5]), (w3.heap.size, [I 0, I 14, I 4, I 10])], n.val.cell? ⟨w12.heap.size, 1, none⟩ = some (I 65535) := fun n => (n.kp.box.head.four).2.1
  have hq0x2 : ∀ n : Cl w [(w12.heap.size, [I 0, I 65535, I 0, I 65535]), (w11.heap.size + 1, [I 0, I 0, I 0, I 0]), (w11.heap.size, [I 0, I 0, I 0, I 0]), (w8.heap.size + 1, [I 6, I 0, I 6, I 6]), (w8.heap.size, [I 1, I 6, I 3, I 5]), (w3.heap.size, [I 0, I 14, I 4, I 10])], n.val.cell? ⟨w12.heap.size, 2, none⟩ = some (I 0) := fun n => (n.kp.box.head.four).2.2.1
  have hq0x3 : ∀ n : Cl w [(w12.heap.size, [I 0, I 65535, I 0, I 65535]), (w11.heap.size + 1, [I 0, I 0, I 0, I 0]), (w11.heap.size, [I 0, I 0, I 0, I 0]), (w8.heap.size + 1, [I 6, I 0, I 6, I 6]), (w8.heap.size, [I 1, I 6, I 3, I 5]), (w3.heap.size, [I 0, I 14, I 4, I 10])], n.val.cell? ⟨w12.heap.size, 3, none⟩ = some (I 65535) := fun n => (n.kp.box.head.four).2.2.2.1
  have hq3x0 : ∀ n : Cl w [(w12.heap.size, [I 0, I 65535, I 0, I 65535]), (w11.heap.size + 1, [I 0, I 0, I 0, I 0]), (w11.heap.size, [I 0, I 0, I 0, I 0]), (w8.heap.size + 1, [I 6, I 0, I 6, I 6]), (w8.heap.size, [I 1, I 6, I 3, I 5]), (w3.heap.size, [I 0, I 14, I 4, I 10])], n.val.cell? ⟨w8.heap.size + 1, 0, none⟩ = some (I 6) := fun n => (n.kp.box.tail.tail.tail.head.four).1
  have hq3x1 : ∀ n : Cl w [(w12.heap.size, [I 0, I 65535, I 0, I 65535]), (w11.heap.size + 1, [I 0, I 0, I 0, I 0]), (w11.heap.size, [I 0, I 0, I 0, I 0]), (w8.heap.size + 1, [I 6, I 0, I 6, I 6]), (w8.heap.size, [I 1, I 6, I 3, I 5]), (w3.heap.size, [I 0, I 14, I 4, I 10])], n.val.cell? ⟨w8.heap.size + 1, 1, none⟩ = some (I 0) := fun n => (n.kp.box.tail.tail.tail.head.four).2.1
  have hq3x2 : ∀ n : Cl w [(w12.heap.size, [I 0, I 65535, I 0, I 65535]), (w11.heap.size + 1, [I 0, I 0, I 0, I 0]), (w11.heap.size, [I 0, I 0, I 0, I 0]), (w8.heap.size + 1, [I 6, I 0, I 6, I 6]), (w8.heap.size, [I 1, I 6, I 3, I 5]), (w3.heap.size, [I 0, I 14, I 4, I 10])], n.val.cell? ⟨w8.heap.size + 1, 2, none⟩ = some (I 6) := fun n => (n.kp.box.tail.tail.tail.head.four).2.2.1
  have hq3x3 : ∀ n : Cl w [(w12.heap.size, [I 0, I 65535, I 0, I 65535]), (w11.heap.size + 1, [I 0, I 0, I 0, I 0]), (w11.heap.size, [I 0, I 0, I 0, I 0]), (w8.heap.size + 1, [I 6, I 0, I 6, I 6]), (w8.heap.size, [I 1, I 6, I 3, I 5]), (w3.heap.size, [I 0, I 14, I 4, I 10])], n.val.cell? ⟨w8.heap.size + 1, 3, none⟩ = some (I 6) := fun n => (n.kp.box.tail.tail.tail.head.four).2.2.2.1
  have hq4x0 : ∀ n : Cl w [(w12.heap.size, [I 0, I 65535, I 0, I 65535]), (w11.heap.size + 1, [I 0, I 0, I 0, I 0]), (w11.heap.size, [I 0, I 0, I 0, I 0]), (w8.heap.size + 1, [I 6, I 0, I 6, I 6]), (w8.heap.size, [I 1, I 6, I 3, I 5]), (w3.heap.size, [I 0, I 14, I 4, I 10])], n.val.cell? ⟨w8.heap.size, 0, none⟩ = some (I 1) := fun n => (n.kp.box.tail.tail.tail.tail.head.four).1
  have hq4x1 : ∀ n : Cl w [(w12.heap.size, [I 0, I 65535, I 0, I 65535]), (w11.heap.size + 1, [I 0, I 0, I 0, I 0]), (w11.heap.size, [I 0, I 0, I 0, I 0]), (w8.heap.size + 1, [I 6, I 0, I 6, I 6]), (w8.heap.size, [I 1, I 6, I 3, I 5]), (w3.heap.size, [I 0, I 14, I 4, I 10])], n.val.cell? ⟨w8.heap.size, 1, none⟩ = some (I 6) := fun n => (n.kp.box.tail.tail.tail.tail.head.four).2.1
  have hq4x2 : ∀ n : Cl w [(w12.heap.size, [I 0, I 65535, I 0, I 65535]), (w11.heap.size + 1, [I 0, I 0, I 0, I 0]), (w11.heap.size, [I 0, I 0, I 0, I 0]), (w8.heap.size + 1, [I 6, I 0, I 6, I 6]), (w8.heap.size, [I 1, I 6, I 3, I 5]), (w3.heap.size, [I 0, I 14, I 4, I 10])], n.val.cell? ⟨w8.heap.size, 2, none⟩ = some (I 3) := fun n => (n.kp.box.tail.tail.tail.tail.head.four).2.2.1
  have hq4x3 : ∀ n : Cl w [(w12.heap.size, [I 0, I 65535, I 0, I 65535]), (w11.heap.size + 1, [I 0, I 0, I 0, I 0]), (w11.heap.size, [I 0, I 0, I 0, I 0]), (w8.heap.size + 1, [I 6, I 0, I 6, I 6]), (w8.heap.size, [I 1, I 6, I 3, I 5]), (w3.heap.size, [I 0, I 14, I 4, I 10])], n.val.cell? ⟨w8.heap.size, 3, none⟩ = some (I 5) := fun n => (n.kp.box.tail.tail.tail.tail.head.four).2.2.2.1
  have hq5x0 : ∀ n : Cl w [(w12.heap.size, [I 0, I 65535, I 0, I 65535]), (w11.heap.size + 1, [I 0, I 0, I 0, I 0]), (w11.heap.size, [I 0, I 0, I 0, I 0]), (w8.heap.size + 1, [I 6, I 0, I 6, I 6]), (w8.heap.size, [I 1, I 6, I 3, I 5]), (w3.heap.size, [I 0, I 14, I 4, I 10])], n.val.cell? ⟨w3.heap.size, 0, none⟩ = some (I 0) := fun n => (n.kp.box.tail.tail.tail.tail.tail.head.four).1
  have hq5x1 : ∀ n : Cl w [(w12.heap.size, [I 0, I 65535, I 0, I 65535]), (w11.heap.size + 1, [I 0, I 0, I 0, I 0]), (w11.heap.size, [I 0, I 0, I 0, I 0]), (w8.heap.size + 1, [I 6, I 0, I 6, I 6]), (w8.heap.size, [I 1, I 6, I 3, I 5]), (w3.heap.size, [I 0, I 14, I 4, I 10])], n.val.cell? ⟨w3.heap.size, 1, none⟩ = some (I 14) := fun n => (n.kp.box.tail.tail.tail.tail.tail.head.four).2.1
  have hq5x2 : ∀ n : Cl w [(w12.heap.size, [I 0, I 65535, I 0, I 65535]), (w11.heap.size + 1, [I 0, I 0, I 0, I 0]), (w11.heap.size, [I 0, I 0, I 0, I 0]), (w8.heap.size + 1, [I 6, I 0, I 6, I 6]), (w8.heap.size, [I 1, I 6, I 3, I 5]), (w3.heap.size, [I 0, I 14, I 4, I 10])], n.val.cell? ⟨w3.heap.size, 2, none⟩ = some (I 4) := fun n => (n.kp.box.tail.tail.tail.tail.tail.head.four).2.2.1
  have hq5x3 : ∀ n : Cl w [(w12.heap.size, [I 0, I 65535, I 0, I 65535]), (w11.heap.size + 1, [I 0, I 0, I 0, I 0]), (w11.heap.size, [I 0, I 0, I 0, I 0]), (w8.heap.size + 1, [I 6, I 0, I 6, I 6]), (w8.heap.size, [I 1, I 6, I 3, I 5]), (w3.heap.size, [I 0, I 14, I 4, I 10])], n.val.cell? ⟨w3.heap.size, 3, none⟩ = some (I 10) := fun n => (n.kp.box.tail.tail.tail.tail.tail.head.four).2.2.2.1
  repeat (go_big_quiet_step (first | (go_at_call 40; exact Cl.of (co6 _))))
  refine wpQuiet_nil ?_
  rintro _ ⟨⟨wq, hq⟩, rfl⟩
  go_wp2_with fail
  go_ret
  exact ⟨rfl, hq.bel⟩

end Go.Proofs.Ytkigmocchaikgaa

/- CalcLeft and CalcTwo: whatever is handed in, they return true. -/
namespace Go.Proofs.Ytkigmocchaikgaa
open Go.RowKit

theorem eqCs_refl (a : V4) : eqCs a.cs a.cs = true := by simp [V4.cs, eqCs, eqC, eqb_self]
theorem calcBegun_ok : Ok 50 [] (.c (.b true)) := okc calcBegun_any (fun _ => rfl) (fun _ => rfl) rfl
theorem calcLeft_ok (a b : V4) : Ok 9 [.ag a.cs, .ag b.cs] (.c (.b true)) := by
  have ra := refRight_ok a
  have rb := refRight_ok b
  cases ha : a.ok with
  | false =>
    have hh : (a.ok && b.ok) = false := by rw [ha]; rfl
    rw [ha] at ra
    exact calcLeftBadA_w0 (calcEqual_bad hh) (calcOther_bad hh) (calcLess_bad hh) (calcNotLess_bad hh) ra calcBegun_ok
  | true =>
    rw [ha] at ra
    cases hb : b.ok with
    | false =>
      have hh : (a.ok && b.ok) = false := by rw [ha, hb]; rfl
      rw [hb] at rb
      exact calcLeftBadB_w0 (calcEqual_bad hh) (calcOther_bad hh) (calcLess_bad hh) (calcNotLess_bad hh) ra rb calcBegun_ok
    | true =>
      rw [hb] at rb
      have := calcLeft_w0 (a := a) (b := b) (by simp [eqCs_refl]) (calcEqual_ok ha hb) (calcOther_ok ha hb) (calcLess_ok ha hb) (calcNotLess_ok ha hb) ra rb (refEqual_ok ha hb) (refOther_ok ha hb) (refLess_ok ha hb) (refNotLess_ok ha hb) calcBegun_ok
      rw [eqCs_refl] at this
      exact this
theorem calcTwoLaw_ok (op : Int) (a b : V4) (size : Int) : Ok 8 [.c (.i op), .ag a.cs, .ag b.cs, .c (.i size)] (.c (.b true)) := by
  have ra := refRight_ok a
  have rb := refRight_ok b
  have hb0 := calcBegun_ok
  by_cases hsz : size = 1 ∨ size = 2 ∨ size = 4 ∨ size = 8
  · have hy := calcBytes_ok hsz
    have hr := refBytes_ok hsz
    have e1 := eqCs_refl (V4.bytes size)
    cases ha : a.ok with
    | false =>
      have ht := calcTwo_bad (a := a) (b := b) op (by rw [ha]; rfl)
      rw [ha] at ra
      rcases hsz with rfl | rfl | rfl | rfl
      · exact calcTwoBadAy1_w0 (by simp [e1]) ht ra hy hr hb0
      · exact calcTwoBadAy2_w0 (by simp [e1]) ht ra hy hr hb0
      · exact calcTwoBadAy4_w0 (by simp [e1]) ht ra hy hr hb0
      · exact calcTwoBadAy8_w0 (by simp [e1]) ht ra hy hr hb0
    | true =>
      rw [ha] at ra
      cases hb : b.ok with
      | false =>
        have ht := calcTwo_bad (a := a) (b := b) op (by rw [ha, hb]; rfl)
        rw [hb] at rb
        rcases hsz with rfl | rfl | rfl | rfl
        · exact calcTwoBadBy1_w0 (by simp [e1]) ht ra rb hy hr hb0
        · exact calcTwoBadBy2_w0 (by simp [e1]) ht ra rb hy hr hb0
        · exact calcTwoBadBy4_w0 (by simp [e1]) ht ra rb hy hr hb0
        · exact calcTwoBadBy8_w0 (by simp [e1]) ht ra rb hy hr hb0
      | true =>
        rw [hb] at rb
        by_cases hlo : op < 2
        · have ht := calcTwo_no (op := op) (Or.inl hlo) ha hb
          rcases hsz with rfl | rfl | rfl | rfl
          · exact calcTwoLoy1_w0 (by simp [e1, hlo]) ht ra rb hy hr hb0
          · exact calcTwoLoy2_w0 (by simp [e1, hlo]) ht ra rb hy hr hb0
          · exact calcTwoLoy4_w0 (by simp [e1, hlo]) ht ra rb hy hr hb0
          · exact calcTwoLoy8_w0 (by simp [e1, hlo]) ht ra rb hy hr hb0
        · by_cases hhi : 9 < op
          · have ht := calcTwo_no (op := op) (Or.inr hhi) ha hb
            rcases hsz with rfl | rfl | rfl | rfl
            · exact calcTwoHiy1_w0 (by simp [e1, hlo, hhi]) ht ra rb hy hr hb0
            · exact calcTwoHiy2_w0 (by simp [e1, hlo, hhi]) ht ra rb hy hr hb0
            · exact calcTwoHiy4_w0 (by simp [e1, hlo, hhi]) ht ra rb hy hr hb0
            · exact calcTwoHiy8_w0 (by simp [e1, hlo, hhi]) ht ra rb hy hr hb0
          · have hop : 2 ≤ op ∧ op ≤ 9 := by omega
            have ht := calcTwo_ok hop ha hb
            have hv := refTwo_ok hop ha hb
            have e2 := eqCs_refl (V4.two op a b)
            rcases hsz with rfl | rfl | rfl | rfl
            · exact calcTwoOky1_w0 (by simp [e1, e2, hlo, hhi]) ht ra rb hv hy hr hb0
            · exact calcTwoOky2_w0 (by simp [e1, e2, hlo, hhi]) ht ra rb hv hy hr hb0
            · exact calcTwoOky4_w0 (by simp [e1, e2, hlo, hhi]) ht ra rb hv hy hr hb0
            · exact calcTwoOky8_w0 (by simp [e1, e2, hlo, hhi]) ht ra rb hv hy hr hb0
  · have h1 : size ≠ 1 := fun e => hsz (Or.inl e)
    have h2 : size ≠ 2 := fun e => hsz (Or.inr (Or.inl e))
    have h4 : size ≠ 4 := fun e => hsz (Or.inr (Or.inr (Or.inl e)))
    have h8 : size ≠ 8 := fun e => hsz (Or.inr (Or.inr (Or.inr e)))
    have hy := calcBytes_no h1 h2 h4 h8
    cases ha : a.ok with
    | false =>
      have ht := calcTwo_bad (a := a) (b := b) op (by rw [ha]; rfl)
      rw [ha] at ra
      exact calcTwoBadAn_w0 (by simp [h1, h2, h4, h8]) ht ra hy hb0
    | true =>
      rw [ha] at ra
      cases hb : b.ok with
      | false =>
        have ht := calcTwo_bad (a := a) (b := b) op (by rw [ha, hb]; rfl)
        rw [hb] at rb
        exact calcTwoBadBn_w0 (by simp [h1, h2, h4, h8]) ht ra rb hy hb0
      | true =>
        rw [hb] at rb
        by_cases hlo : op < 2
        · exact calcTwoLon_w0 (by simp [h1, h2, h4, h8, hlo]) (calcTwo_no (op := op) (Or.inl hlo) ha hb) ra rb hy hb0
        · by_cases hhi : 9 < op
          · exact calcTwoHin_w0 (by simp [h1, h2, h4, h8, hlo, hhi]) (calcTwo_no (op := op) (Or.inr hhi) ha hb) ra rb hy hb0
          · have hop : 2 ≤ op ∧ op ≤ 9 := by omega
            exact calcTwoOkn_w0 (by simp [h1, h2, h4, h8, hlo, hhi, eqCs_refl]) (calcTwo_ok hop ha hb) ra rb (refTwo_ok hop ha hb) hy hb0
theorem calcLeft_any (v m l g v' m' l' g' : BitVec 64) (w : World) : Calls Try.prog 9 #[Vl v m l g, Vl v' m' l' g'] w fun e w' => e = .returned (.bool true) ∧ Below w.heap.size w w' :=
  calls_of_ok (fun _ => (0, 0, 0)) rfl (fun _ => rfl) (calcLeft_ok ⟨v, m, l, g⟩ ⟨v', m', l', g'⟩) w
theorem calcTwoLaw_any (op : Int) (v m l g v' m' l' g' : BitVec 64) (size : Int) (w : World) : Calls Try.prog 8 #[N op, Vl v m l g, Vl v' m' l' g', N size] w fun e w' => e = .returned (.bool true) ∧ Below w.heap.size w w' :=
  calls_of_ok (fun _ => (0, 0, 0)) rfl (fun _ => rfl) (calcTwoLaw_ok op ⟨v, m, l, g⟩ ⟨v', m', l', g'⟩ size) w
end Go.Proofs.Ytkigmocchaikgaa
