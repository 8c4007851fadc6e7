import Derived.Test.YtkigmocchaikgaaBun4
import Derived.BigRegion
import Derived.Deep.CutBlock
import Derived.Deep.DeepCutAuto
import Derived.Deep.RegionHeld3
import Derived.Test.YtkigmocchaikgaaBun3
import Derived.Test.YtkigmocchaikgaaBun2
import Derived.Deep.RegionWith
import Derived.Test.YtkigmocchaikgaaBun1
import Derived.WalkKit
import Derived.BigQuiet
import Derived.Below
import Derived.Laws.IdiomCopy
/- The contract of package calc's leave, over each of the four functions that it is handed. (Written by gen_w26.py.) -/
namespace Go.Proofs.Ytkigmocchaikgaa
open Go.RowKit
attribute [local go_sem] w_and w_or w_xor w_andNot w_and1 w_and63 w_add w_sub w_mul w_sub1 w_add1 w_shl w_shl1 w_shr c_beq c_bne c_beq0 c_bne0 c_beq1 c_bne1 wrap_nv

abbrev PT (b : Nat) : Value := .pointer (some ⟨b, 0, none⟩)
/- what is left of both -/
def lv (p : Bool) (a : Value) : Value := if p then a else V0

set_option maxRecDepth 100000 in
set_option maxHeartbeats 1000000 in
theorem leave_wrongEqual {p1 p2 : Value} {v m l g v' m' l' g' : BitVec 64} (hr : Hid ((valB v m l g && valB v' m' l' g') = false)) (w : World) :
    Calls Try.prog 91 #[Vl v m l g, Vl v' m' l' g', .func (.func 92) #[] #[p1, p2]] w fun e w' => e = .returned (.tuple #[V0, V0, .bool false, N 1]) ∧ Below w.heap.size w w' := by
  obtain ⟨z1, H1⟩ : ∃ b, Hid (valB v m l g = b) := ⟨_, rfl⟩
  obtain ⟨z2, H2⟩ : ∃ b, Hid (valB v' m' l' g' = b) := ⟨_, rfl⟩
  rw [H1.out, H2.out] at hr
  go_enter Try.func91, Try.ntmps91
  go_wp2_with fail
  refine (vcheck2 H1 H2 (by simp) (by simp [go_sem]) (by simp [go_sem]) (by simp [go_sem]) (by simp [go_sem]) (by simp [go_sem]) (by simp [go_sem]) (by simp [go_sem]) (by simp [go_sem])).mono ?_
  rw [hr.out, er_f]
  rintro e w1 ⟨rfl, hb1⟩
  have hK := ((((((Kp.start w).add4 _ _ _ _ _).add4 _ _ _ _ _).add4 _ _ _ _ _).add4 _ _ _ _ _).keep ((Below.refl _ _).alloc (Nat.le_refl _) _)).keep hb1
  simp only [World.size_alloc] at hK
  obtain ⟨s0, s1, s2, s3, s4, s5, s6, s7, s8⟩ := hK.box.head.four
  obtain ⟨r0, r1, r2, r3, r4, r5, r6, r7, r8⟩ := hK.box.tail.head.four
  obtain ⟨b0, b1, b2, b3, b4, b5, b6, b7, b8⟩ := hK.box.tail.tail.head.four
  obtain ⟨a0, a1, a2, a3, a4, a5, a6, a7, a8⟩ := hK.box.tail.tail.tail.head.four
  go_wp2_with fail
  exact bodyPost_ret (v := .tuple #[V0, V0, .bool false, N 1]) (by simp [results, Try.results91, go_sem, nv_zero, s0, s1, s2, s3, r0, r1, r2, r3]) rfl ⟨rfl, ((hK.set4 1 rfl).set4 0 rfl).bel⟩
set_option maxRecDepth 100000 in
set_option maxHeartbeats 4000000 in
theorem leave_Equal {p1 p2 : Value} {v m l g v' m' l' g' a b c d a' b' c' d' x y z t x' y' z' t' : BitVec 64} {may i1 i2 : Bool} {e1 e2 : Int} (hr : Hid ((valB v m l g && valB v' m' l' g') = true)) (w : World)
    (HR : Hid (∀ w', Below w.heap.size w w' → Calls Try.prog 92 #[p1, p2] w' fun e w'' => e = .returned (.tuple #[Vl a b c d, Vl a' b' c' d', .bool may]) ∧ Below w'.heap.size w' w''))
    (N1 : Hid (∀ w, Calls Try.prog 31 #[Vl a b c d] w fun e w' => e = .returned (.tuple #[Vl x y z t, .bool i1, N e1]) ∧ Below w.heap.size w w'))
    (N2 : Hid (∀ w, Calls Try.prog 31 #[Vl a' b' c' d'] w fun e w' => e = .returned (.tuple #[Vl x' y' z' t', .bool i2, N e2]) ∧ Below w.heap.size w w')) :
    Calls Try.prog 91 #[Vl v m l g, Vl v' m' l' g', .func (.func 92) #[] #[p1, p2]] w fun e w' => e = .returned (.tuple #[lv (may && (i1 && i2)) (Vl x y z t), lv (may && (i1 && i2)) (Vl x' y' z' t'), .bool (may && (i1 && i2)), N 0]) ∧ Below w.heap.size w w' := by
  obtain ⟨z1, H1⟩ : ∃ b, Hid (valB v m l g = b) := ⟨_, rfl⟩
  obtain ⟨z2, H2⟩ : ∃ b, Hid (valB v' m' l' g' = b) := ⟨_, rfl⟩
  rw [H1.out, H2.out] at hr
  obtain ⟨q, hq⟩ : ∃ q, Hid (q = (may && (i1 && i2))) := ⟨_, rfl⟩
  rw [← hq.out]
  go_enter Try.func91, Try.ntmps91
  go_wp2_with fail
  refine (vcheck2 H1 H2 (by simp) (by simp [go_sem]) (by simp [go_sem]) (by simp [go_sem]) (by simp [go_sem]) (by simp [go_sem]) (by simp [go_sem]) (by simp [go_sem]) (by simp [go_sem])).mono ?_
  rw [hr.out, er_t]
  rintro e w1 ⟨rfl, hb1⟩
  have hK := ((((((Kp.start w).add4 _ _ _ _ _).add4 _ _ _ _ _).add4 _ _ _ _ _).add4 _ _ _ _ _).keep ((Below.refl _ _).alloc (Nat.le_refl _) _)).keep hb1
  simp only [World.size_alloc] at hK
  clear hb1
  go_wp2_with fail
  refine (HR.out _ hK.bel).mono ?_
  rintro e w2 ⟨rfl, hb2⟩
  have hK2 := hK.keep hb2
  have hK3 := (hK2.set4 (x := U a) (y := U b) (z := U c) (t := U d) 3 rfl).set4 (x := U a') (y := U b') (z := U c') (t := U d') 2 rfl
  obtain ⟨s0, s1, s2, s3, s4, s5, s6, s7, s8⟩ := hK2.box.head.four
  obtain ⟨r0, r1, r2, r3, r4, r5, r6, r7, r8⟩ := hK2.box.tail.head.four
  obtain ⟨b0, b1, b2, b3, b4, b5, b6, b7, b8⟩ := hK2.box.tail.tail.head.four
  obtain ⟨a0, a1, a2, a3, a4, a5, a6, a7, a8⟩ := hK2.box.tail.tail.tail.head.four
  clear hb2 hK
  go_wp2_with fail
  refine (N1.out _).mono ?_
  rintro e w3 ⟨rfl, hb3⟩
  have hK4 := hK3.keep hb3
  have hK5 := hK4.set4 (x := U x) (y := U y) (z := U z) (t := U t) 3 rfl
  clear s0 s1 s2 s3 s4 s5 s6 s7 s8 r0 r1 r2 r3 r4 r5 r6 r7 r8 b0 b1 b2 b3 b4 b5 b6 b7 b8 a0 a1 a2 a3 a4 a5 a6 a7 a8
  obtain ⟨s0, s1, s2, s3, s4, s5, s6, s7, s8⟩ := hK4.box.head.four
  obtain ⟨r0, r1, r2, r3, r4, r5, r6, r7, r8⟩ := hK4.box.tail.head.four
  obtain ⟨b0, b1, b2, b3, b4, b5, b6, b7, b8⟩ := hK4.box.tail.tail.head.four
  obtain ⟨a0, a1, a2, a3, a4, a5, a6, a7, a8⟩ := hK4.box.tail.tail.tail.head.four
  clear hb3 hK2 hK3
  go_wp2_with fail
  refine (N2.out _).mono ?_
  rintro e w4 ⟨rfl, hb4⟩
  have hK6 := hK5.keep hb4
  have hK7 := hK6.set4 (x := U x') (y := U y') (z := U z') (t := U t') 2 rfl
  clear s0 s1 s2 s3 s4 s5 s6 s7 s8 r0 r1 r2 r3 r4 r5 r6 r7 r8 b0 b1 b2 b3 b4 b5 b6 b7 b8 a0 a1 a2 a3 a4 a5 a6 a7 a8
  obtain ⟨s0, s1, s2, s3, s4, s5, s6, s7, s8⟩ := hK6.box.head.four
  obtain ⟨r0, r1, r2, r3, r4, r5, r6, r7, r8⟩ := hK6.box.tail.head.four
  obtain ⟨b0, b1, b2, b3, b4, b5, b6, b7, b8⟩ := hK6.box.tail.tail.head.four
  obtain ⟨a0, a1, a2, a3, a4, a5, a6, a7, a8⟩ := hK6.box.tail.tail.tail.head.four
  clear hb4 hK4 hK5
  go_upto_region 7 with fail
  clear s0 s1 s2 s3 s4 s5 s6 s7 s8 r0 r1 r2 r3 r4 r5 r6 r7 r8 b0 b1 b2 b3 b4 b5 b6 b7 b8 a0 a1 a2 a3 a4 a5 a6 a7 a8
  clear hK6
  go_cut [52] (fun u wc => u = .bool (!q) ∧ Kp w wc [(w.heap.size + 1 + 1 + 1, [.int .u64 0, .int .u64 0, .int .u64 0, .int .u64 0]), (w.heap.size + 1 + 1, [.int .u64 0, .int .u64 0, .int .u64 0, .int .u64 0]), (w.heap.size + 1, [U x', U y', U z', U t']), (w.heap.size, [U x, U y, U z, U t])])
  case first =>
    cases may
    · go_wp2_with fail
      go_meet
      case rel => exact ⟨by rw [hq.out]; rfl, hK7⟩
    · cases i1
      · go_wp2_with fail
        go_meet
        case rel => exact ⟨by rw [hq.out]; rfl, hK7⟩
      · cases i2
        all_goals
          go_wp2_with fail
          go_meet
          case rel => exact ⟨by rw [hq.out]; rfl, hK7⟩
  case rest =>
    clear hK7 hq
    obtain ⟨rfl, hK8⟩ := hcut
    obtain ⟨s0, s1, s2, s3, s4, s5, s6, s7, s8⟩ := hK8.box.head.four
    obtain ⟨r0, r1, r2, r3, r4, r5, r6, r7, r8⟩ := hK8.box.tail.head.four
    obtain ⟨b0, b1, b2, b3, b4, b5, b6, b7, b8⟩ := hK8.box.tail.tail.head.four
    obtain ⟨a0, a1, a2, a3, a4, a5, a6, a7, a8⟩ := hK8.box.tail.tail.tail.head.four
    cases q
    · go_wp2_with fail
      exact bodyPost_ret (v := .tuple #[V0, V0, .bool false, N 0]) (by simp [results, Try.results91, go_sem, nv_zero, s0, s1, s2, s3, r0, r1, r2, r3]) rfl ⟨rfl, ((hK8.set4 1 rfl).set4 0 rfl).bel⟩
    · go_wp2_with fail
      go_region
      all_goals
        go_wp2_with fail
        exact bodyPost_ret (v := .tuple #[Vl x y z t, Vl x' y' z' t', .bool true, N 0]) (by simp [results, Try.results91, go_sem, s0, s1, s2, s3, r0, r1, r2, r3]) rfl ⟨rfl, Below.drew ((hK8.set4 1 rfl).set4 0 rfl).bel⟩

set_option maxRecDepth 100000 in
set_option maxHeartbeats 1000000 in
theorem leave_wrongOther {p1 p2 : Value} {v m l g v' m' l' g' : BitVec 64} (hr : Hid ((valB v m l g && valB v' m' l' g') = false)) (w : World) :
    Calls Try.prog 91 #[Vl v m l g, Vl v' m' l' g', .func (.func 93) #[] #[p1, p2]] w fun e w' => e = .returned (.tuple #[V0, V0, .bool false, N 1]) ∧ Below w.heap.size w w' := by
  obtain ⟨z1, H1⟩ : ∃ b, Hid (valB v m l g = b) := ⟨_, rfl⟩
  obtain ⟨z2, H2⟩ : ∃ b, Hid (valB v' m' l' g' = b) := ⟨_, rfl⟩
  rw [H1.out, H2.out] at hr
  go_enter Try.func91, Try.ntmps91
  go_wp2_with fail
  refine (vcheck2 H1 H2 (by simp) (by simp [go_sem]) (by simp [go_sem]) (by simp [go_sem]) (by simp [go_sem]) (by simp [go_sem]) (by simp [go_sem]) (by simp [go_sem]) (by simp [go_sem])).mono ?_
  rw [hr.out, er_f]
  rintro e w1 ⟨rfl, hb1⟩
  have hK := ((((((Kp.start w).add4 _ _ _ _ _).add4 _ _ _ _ _).add4 _ _ _ _ _).add4 _ _ _ _ _).keep ((Below.refl _ _).alloc (Nat.le_refl _) _)).keep hb1
  simp only [World.size_alloc] at hK
  obtain ⟨s0, s1, s2, s3, s4, s5, s6, s7, s8⟩ := hK.box.head.four
  obtain ⟨r0, r1, r2, r3, r4, r5, r6, r7, r8⟩ := hK.box.tail.head.four
  obtain ⟨b0, b1, b2, b3, b4, b5, b6, b7, b8⟩ := hK.box.tail.tail.head.four
  obtain ⟨a0, a1, a2, a3, a4, a5, a6, a7, a8⟩ := hK.box.tail.tail.tail.head.four
  go_wp2_with fail
  exact bodyPost_ret (v := .tuple #[V0, V0, .bool false, N 1]) (by simp [results, Try.results91, go_sem, nv_zero, s0, s1, s2, s3, r0, r1, r2, r3]) rfl ⟨rfl, ((hK.set4 1 rfl).set4 0 rfl).bel⟩
set_option maxRecDepth 100000 in
set_option maxHeartbeats 4000000 in
theorem leave_Other {p1 p2 : Value} {v m l g v' m' l' g' a b c d a' b' c' d' x y z t x' y' z' t' : BitVec 64} {may i1 i2 : Bool} {e1 e2 : Int} (hr : Hid ((valB v m l g && valB v' m' l' g') = true)) (w : World)
    (HR : Hid (∀ w', Below w.heap.size w w' → Calls Try.prog 93 #[p1, p2] w' fun e w'' => e = .returned (.tuple #[Vl a b c d, Vl a' b' c' d', .bool may]) ∧ Below w'.heap.size w' w''))
    (N1 : Hid (∀ w, Calls Try.prog 31 #[Vl a b c d] w fun e w' => e = .returned (.tuple #[Vl x y z t, .bool i1, N e1]) ∧ Below w.heap.size w w'))
    (N2 : Hid (∀ w, Calls Try.prog 31 #[Vl a' b' c' d'] w fun e w' => e = .returned (.tuple #[Vl x' y' z' t', .bool i2, N e2]) ∧ Below w.heap.size w w')) :
    Calls Try.prog 91 #[Vl v m l g, Vl v' m' l' g', .func (.func 93) #[] #[p1, p2]] w fun e w' => e = .returned (.tuple #[lv (may && (i1 && i2)) (Vl x y z t), lv (may && (i1 && i2)) (Vl x' y' z' t'), .bool (may && (i1 && i2)), N 0]) ∧ Below w.heap.size w w' := by
  obtain ⟨z1, H1⟩ : ∃ b, Hid (valB v m l g = b) := ⟨_, rfl⟩
  obtain ⟨z2, H2⟩ : ∃ b, Hid (valB v' m' l' g' = b) := ⟨_, rfl⟩
  rw [H1.out, H2.out] at hr
  obtain ⟨q, hq⟩ : ∃ q, Hid (q = (may && (i1 && i2))) := ⟨_, rfl⟩
  rw [← hq.out]
  go_enter Try.func91, Try.ntmps91
  go_wp2_with fail
  refine (vcheck2 H1 H2 (by simp) (by simp [go_sem]) (by simp [go_sem]) (by simp [go_sem]) (by simp [go_sem]) (by simp [go_sem]) (by simp [go_sem]) (by simp [go_sem]) (by simp [go_sem])).mono ?_
  rw [hr.out, er_t]
  rintro e w1 ⟨rfl, hb1⟩
  have hK := ((((((Kp.start w).add4 _ _ _ _ _).add4 _ _ _ _ _).add4 _ _ _ _ _).add4 _ _ _ _ _).keep ((Below.refl _ _).alloc (Nat.le_refl _) _)).keep hb1
  simp only [World.size_alloc] at hK
  clear hb1
  go_wp2_with fail
  refine (HR.out _ hK.bel).mono ?_
  rintro e w2 ⟨rfl, hb2⟩
  have hK2 := hK.keep hb2
  have hK3 := (hK2.set4 (x := U a) (y := U b) (z := U c) (t := U d) 3 rfl).set4 (x := U a') (y := U b') (z := U c') (t := U d') 2 rfl
  obtain ⟨s0, s1, s2, s3, s4, s5, s6, s7, s8⟩ := hK2.box.head.four
  obtain ⟨r0, r1, r2, r3, r4, r5, r6, r7, r8⟩ := hK2.box.tail.head.four
  obtain ⟨b0, b1, b2, b3, b4, b5, b6, b7, b8⟩ := hK2.box.tail.tail.head.four
  obtain ⟨a0, a1, a2, a3, a4, a5, a6, a7, a8⟩ := hK2.box.tail.tail.tail.head.four
  clear hb2 hK
  go_wp2_with fail
  refine (N1.out _).mono ?_
  rintro e w3 ⟨rfl, hb3⟩
  have hK4 := hK3.keep hb3
  have hK5 := hK4.set4 (x := U x) (y := U y) (z := U z) (t := U t) 3 rfl
  clear s0 s1 s2 s3 s4 s5 s6 s7 s8 r0 r1 r2 r3 r4 r5 r6 r7 r8 b0 b1 b2 b3 b4 b5 b6 b7 b8 a0 a1 a2 a3 a4 a5 a6 a7 a8
  obtain ⟨s0, s1, s2, s3, s4, s5, s6, s7, s8⟩ := hK4.box.head.four
  obtain ⟨r0, r1, r2, r3, r4, r5, r6, r7, r8⟩ := hK4.box.tail.head.four
  obtain ⟨b0, b1, b2, b3, b4, b5, b6, b7, b8⟩ := hK4.box.tail.tail.head.four
  obtain ⟨a0, a1, a2, a3, a4, a5, a6, a7, a8⟩ := hK4.box.tail.tail.tail.head.four
  clear hb3 hK2 hK3
  go_wp2_with fail
  refine (N2.out _).mono ?_
  rintro e w4 ⟨rfl, hb4⟩
  have hK6 := hK5.keep hb4
  have hK7 := hK6.set4 (x := U x') (y := U y') (z := U z') (t := U t') 2 rfl
  clear s0 s1 s2 s3 s4 s5 s6 s7 s8 r0 r1 r2 r3 r4 r5 r6 r7 r8 b0 b1 b2 b3 b4 b5 b6 b7 b8 a0 a1 a2 a3 a4 a5 a6 a7 a8
  obtain ⟨s0, s1, s2, s3, s4, s5, s6, s7, s8⟩ := hK6.box.head.four
  obtain ⟨r0, r1, r2, r3, r4, r5, r6, r7, r8⟩ := hK6.box.tail.head.four
  obtain ⟨b0, b1, b2, b3, b4, b5, b6, b7, b8⟩ := hK6.box.tail.tail.head.four
  obtain ⟨a0, a1, a2, a3, a4, a5, a6, a7, a8⟩ := hK6.box.tail.tail.tail.head.four
  clear hb4 hK4 hK5
  go_upto_region 7 with fail
  clear s0 s1 s2 s3 s4 s5 s6 s7 s8 r0 r1 r2 r3 r4 r5 r6 r7 r8 b0 b1 b2 b3 b4 b5 b6 b7 b8 a0 a1 a2 a3 a4 a5 a6 a7 a8
  clear hK6
  go_cut [52] (fun u wc => u = .bool (!q) ∧ Kp w wc [(w.heap.size + 1 + 1 + 1, [.int .u64 0, .int .u64 0, .int .u64 0, .int .u64 0]), (w.heap.size + 1 + 1, [.int .u64 0, .int .u64 0, .int .u64 0, .int .u64 0]), (w.heap.size + 1, [U x', U y', U z', U t']), (w.heap.size, [U x, U y, U z, U t])])
  case first =>
    cases may
    · go_wp2_with fail
      go_meet
      case rel => exact ⟨by rw [hq.out]; rfl, hK7⟩
    · cases i1
      · go_wp2_with fail
        go_meet
        case rel => exact ⟨by rw [hq.out]; rfl, hK7⟩
      · cases i2
        all_goals
          go_wp2_with fail
          go_meet
          case rel => exact ⟨by rw [hq.out]; rfl, hK7⟩
  case rest =>
    clear hK7 hq
    obtain ⟨rfl, hK8⟩ := hcut
    obtain ⟨s0, s1, s2, s3, s4, s5, s6, s7, s8⟩ := hK8.box.head.four
    obtain ⟨r0, r1, r2, r3, r4, r5, r6, r7, r8⟩ := hK8.box.tail.head.four
    obtain ⟨b0, b1, b2, b3, b4, b5, b6, b7, b8⟩ := hK8.box.tail.tail.head.four
    obtain ⟨a0, a1, a2, a3, a4, a5, a6, a7, a8⟩ := hK8.box.tail.tail.tail.head.four
    cases q
    · go_wp2_with fail
      exact bodyPost_ret (v := .tuple #[V0, V0, .bool false, N 0]) (by simp [results, Try.results91, go_sem, nv_zero, s0, s1, s2, s3, r0, r1, r2, r3]) rfl ⟨rfl, ((hK8.set4 1 rfl).set4 0 rfl).bel⟩
    · go_wp2_with fail
      go_region
      all_goals
        go_wp2_with fail
        exact bodyPost_ret (v := .tuple #[Vl x y z t, Vl x' y' z' t', .bool true, N 0]) (by simp [results, Try.results91, go_sem, s0, s1, s2, s3, r0, r1, r2, r3]) rfl ⟨rfl, Below.drew ((hK8.set4 1 rfl).set4 0 rfl).bel⟩

set_option maxRecDepth 100000 in
set_option maxHeartbeats 1000000 in
theorem leave_wrongLess {p1 p2 : Value} {v m l g v' m' l' g' : BitVec 64} (hr : Hid ((valB v m l g && valB v' m' l' g') = false)) (w : World) :
    Calls Try.prog 91 #[Vl v m l g, Vl v' m' l' g', .func (.func 96) #[] #[p1, p2]] w fun e w' => e = .returned (.tuple #[V0, V0, .bool false, N 1]) ∧ Below w.heap.size w w' := by
  obtain ⟨z1, H1⟩ : ∃ b, Hid (valB v m l g = b) := ⟨_, rfl⟩
  obtain ⟨z2, H2⟩ : ∃ b, Hid (valB v' m' l' g' = b) := ⟨_, rfl⟩
  rw [H1.out, H2.out] at hr
  go_enter Try.func91, Try.ntmps91
  go_wp2_with fail
  refine (vcheck2 H1 H2 (by simp) (by simp [go_sem]) (by simp [go_sem]) (by simp [go_sem]) (by simp [go_sem]) (by simp [go_sem]) (by simp [go_sem]) (by simp [go_sem]) (by simp [go_sem])).mono ?_
  rw [hr.out, er_f]
  rintro e w1 ⟨rfl, hb1⟩
  have hK := ((((((Kp.start w).add4 _ _ _ _ _).add4 _ _ _ _ _).add4 _ _ _ _ _).add4 _ _ _ _ _).keep ((Below.refl _ _).alloc (Nat.le_refl _) _)).keep hb1
  simp only [World.size_alloc] at hK
  obtain ⟨s0, s1, s2, s3, s4, s5, s6, s7, s8⟩ := hK.box.head.four
  obtain ⟨r0, r1, r2, r3, r4, r5, r6, r7, r8⟩ := hK.box.tail.head.four
  obtain ⟨b0, b1, b2, b3, b4, b5, b6, b7, b8⟩ := hK.box.tail.tail.head.four
  obtain ⟨a0, a1, a2, a3, a4, a5, a6, a7, a8⟩ := hK.box.tail.tail.tail.head.four
  go_wp2_with fail
  exact bodyPost_ret (v := .tuple #[V0, V0, .bool false, N 1]) (by simp [results, Try.results91, go_sem, nv_zero, s0, s1, s2, s3, r0, r1, r2, r3]) rfl ⟨rfl, ((hK.set4 1 rfl).set4 0 rfl).bel⟩
set_option maxRecDepth 100000 in
set_option maxHeartbeats 4000000 in
theorem leave_Less {p1 p2 : Value} {v m l g v' m' l' g' a b c d a' b' c' d' x y z t x' y' z' t' : BitVec 64} {may i1 i2 : Bool} {e1 e2 : Int} (hr : Hid ((valB v m l g && valB v' m' l' g') = true)) (w : World)
    (HR : Hid (∀ w', Below w.heap.size w w' → Calls Try.prog 96 #[p1, p2] w' fun e w'' => e = .returned (.tuple #[Vl a b c d, Vl a' b' c' d', .bool may]) ∧ Below w'.heap.size w' w''))
    (N1 : Hid (∀ w, Calls Try.prog 31 #[Vl a b c d] w fun e w' => e = .returned (.tuple #[Vl x y z t, .bool i1, N e1]) ∧ Below w.heap.size w w'))
    (N2 : Hid (∀ w, Calls Try.prog 31 #[Vl a' b' c' d'] w fun e w' => e = .returned (.tuple #[Vl x' y' z' t', .bool i2, N e2]) ∧ Below w.heap.size w w')) :
    Calls Try.prog 91 #[Vl v m l g, Vl v' m' l' g', .func (.func 96) #[] #[p1, p2]] w fun e w' => e = .returned (.tuple #[lv (may && (i1 && i2)) (Vl x y z t), lv (may && (i1 && i2)) (Vl x' y' z' t'), .bool (may && (i1 && i2)), N 0]) ∧ Below w.heap.size w w' := by
  obtain ⟨z1, H1⟩ : ∃ b, Hid (valB v m l g = b) := ⟨_, rfl⟩
  obtain ⟨z2, H2⟩ : ∃ b, Hid (valB v' m' l' g' = b) := ⟨_, rfl⟩
  rw [H1.out, H2.out] at hr
  obtain ⟨q, hq⟩ : ∃ q, Hid (q = (may && (i1 && i2))) := ⟨_, rfl⟩
  rw [← hq.out]
  go_enter Try.func91, Try.ntmps91
  go_wp2_with fail
  refine (vcheck2 H1 H2 (by simp) (by simp [go_sem]) (by simp [go_sem]) (by simp [go_sem]) (by simp [go_sem]) (by simp [go_sem]) (by simp [go_sem]) (by simp [go_sem]) (by simp [go_sem])).mono ?_
  rw [hr.out, er_t]
  rintro e w1 ⟨rfl, hb1⟩
  have hK := ((((((Kp.start w).add4 _ _ _ _ _).add4 _ _ _ _ _).add4 _ _ _ _ _).add4 _ _ _ _ _).keep ((Below.refl _ _).alloc (Nat.le_refl _) _)).keep hb1
  simp only [World.size_alloc] at hK
  clear hb1
  go_wp2_with fail
  refine (HR.out _ hK.bel).mono ?_
  rintro e w2 ⟨rfl, hb2⟩
  have hK2 := hK.keep hb2
  have hK3 := (hK2.set4 (x := U a) (y := U b) (z := U c) (t := U d) 3 rfl).set4 (x := U a') (y := U b') (z := U c') (t := U d') 2 rfl
  obtain ⟨s0, s1, s2, s3, s4, s5, s6, s7, s8⟩ := hK2.box.head.four
  obtain ⟨r0, r1, r2, r3, r4, r5, r6, r7, r8⟩ := hK2.box.tail.head.four
  obtain ⟨b0, b1, b2, b3, b4, b5, b6, b7, b8⟩ := hK2.box.tail.tail.head.four
  obtain ⟨a0, a1, a2, a3, a4, a5, a6, a7, a8⟩ := hK2.box.tail.tail.tail.head.four
  clear hb2 hK
  go_wp2_with fail
  refine (N1.out _).mono ?_
  rintro e w3 ⟨rfl, hb3⟩
  have hK4 := hK3.keep hb3
  have hK5 := hK4.set4 (x := U x) (y := U y) (z := U z) (t := U t) 3 rfl
  clear s0 s1 s2 s3 s4 s5 s6 s7 s8 r0 r1 r2 r3 r4 r5 r6 r7 r8 b0 b1 b2 b3 b4 b5 b6 b7 b8 a0 a1 a2 a3 a4 a5 a6 a7 a8
  obtain ⟨s0, s1, s2, s3, s4, s5, s6, s7, s8⟩ := hK4.box.head.four
  obtain ⟨r0, r1, r2, r3, r4, r5, r6, r7, r8⟩ := hK4.box.tail.head.four
  obtain ⟨b0, b1, b2, b3, b4, b5, b6, b7, b8⟩ := hK4.box.tail.tail.head.four
  obtain ⟨a0, a1, a2, a3, a4, a5, a6, a7, a8⟩ := hK4.box.tail.tail.tail.head.four
  clear hb3 hK2 hK3
  go_wp2_with fail
  refine (N2.out _).mono ?_
  rintro e w4 ⟨rfl, hb4⟩
  have hK6 := hK5.keep hb4
  have hK7 := hK6.set4 (x := U x') (y := U y') (z := U z') (t := U t') 2 rfl
  clear s0 s1 s2 s3 s4 s5 s6 s7 s8 r0 r1 r2 r3 r4 r5 r6 r7 r8 b0 b1 b2 b3 b4 b5 b6 b7 b8 a0 a1 a2 a3 a4 a5 a6 a7 a8
  obtain ⟨s0, s1, s2, s3, s4, s5, s6, s7, s8⟩ := hK6.box.head.four
  obtain ⟨r0, r1, r2, r3, r4, r5, r6, r7, r8⟩ := hK6.box.tail.head.four
  obtain ⟨b0, b1, b2, b3, b4, b5, b6, b7, b8⟩ := hK6.box.tail.tail.head.four
  obtain ⟨a0, a1, a2, a3, a4, a5, a6, a7, a8⟩ := hK6.box.tail.tail.tail.head.four
  clear hb4 hK4 hK5
  go_upto_region 7 with fail
  clear s0 s1 s2 s3 s4 s5 s6 s7 s8 r0 r1 r2 r3 r4 r5 r6 r7 r8 b0 b1 b2 b3 b4 b5 b6 b7 b8 a0 a1 a2 a3 a4 a5 a6 a7 a8
  clear hK6
  go_cut [52] (fun u wc => u = .bool (!q) ∧ Kp w wc [(w.heap.size + 1 + 1 + 1, [.int .u64 0, .int .u64 0, .int .u64 0, .int .u64 0]), (w.heap.size + 1 + 1, [.int .u64 0, .int .u64 0, .int .u64 0, .int .u64 0]), (w.heap.size + 1, [U x', U y', U z', U t']), (w.heap.size, [U x, U y, U z, U t])])
  case first =>
    cases may
    · go_wp2_with fail
      go_meet
      case rel => exact ⟨by rw [hq.out]; rfl, hK7⟩
    · cases i1
      · go_wp2_with fail
        go_meet
        case rel => exact ⟨by rw [hq.out]; rfl, hK7⟩
      · cases i2
        all_goals
          go_wp2_with fail
          go_meet
          case rel => exact ⟨by rw [hq.out]; rfl, hK7⟩
  case rest =>
    clear hK7 hq
    obtain ⟨rfl, hK8⟩ := hcut
    obtain ⟨s0, s1, s2, s3, s4, s5, s6, s7, s8⟩ := hK8.box.head.four
    obtain ⟨r0, r1, r2, r3, r4, r5, r6, r7, r8⟩ := hK8.box.tail.head.four
    obtain ⟨b0, b1, b2, b3, b4, b5, b6, b7, b8⟩ := hK8.box.tail.tail.head.four
    obtain ⟨a0, a1, a2, a3, a4, a5, a6, a7, a8⟩ := hK8.box.tail.tail.tail.head.four
    cases q
    · go_wp2_with fail
      exact bodyPost_ret (v := .tuple #[V0, V0, .bool false, N 0]) (by simp [results, Try.results91, go_sem, nv_zero, s0, s1, s2, s3, r0, r1, r2, r3]) rfl ⟨rfl, ((hK8.set4 1 rfl).set4 0 rfl).bel⟩
    · go_wp2_with fail
      go_region
      all_goals
        go_wp2_with fail
        exact bodyPost_ret (v := .tuple #[Vl x y z t, Vl x' y' z' t', .bool true, N 0]) (by simp [results, Try.results91, go_sem, s0, s1, s2, s3, r0, r1, r2, r3]) rfl ⟨rfl, Below.drew ((hK8.set4 1 rfl).set4 0 rfl).bel⟩

set_option maxRecDepth 100000 in
set_option maxHeartbeats 1000000 in
theorem leave_wrongNotLess {p1 p2 : Value} {v m l g v' m' l' g' : BitVec 64} (hr : Hid ((valB v m l g && valB v' m' l' g') = false)) (w : World) :
    Calls Try.prog 91 #[Vl v m l g, Vl v' m' l' g', .func (.func 98) #[] #[p1, p2]] w fun e w' => e = .returned (.tuple #[V0, V0, .bool false, N 1]) ∧ Below w.heap.size w w' := by
  obtain ⟨z1, H1⟩ : ∃ b, Hid (valB v m l g = b) := ⟨_, rfl⟩
  obtain ⟨z2, H2⟩ : ∃ b, Hid (valB v' m' l' g' = b) := ⟨_, rfl⟩
  rw [H1.out, H2.out] at hr
  go_enter Try.func91, Try.ntmps91
  go_wp2_with fail
  refine (vcheck2 H1 H2 (by simp) (by simp [go_sem]) (by simp [go_sem]) (by simp [go_sem]) (by simp [go_sem]) (by simp [go_sem]) (by simp [go_sem]) (by simp [go_sem]) (by simp [go_sem])).mono ?_
  rw [hr.out, er_f]
  rintro e w1 ⟨rfl, hb1⟩
  have hK := ((((((Kp.start w).add4 _ _ _ _ _).add4 _ _ _ _ _).add4 _ _ _ _ _).add4 _ _ _ _ _).keep ((Below.refl _ _).alloc (Nat.le_refl _) _)).keep hb1
  simp only [World.size_alloc] at hK
  obtain ⟨s0, s1, s2, s3, s4, s5, s6, s7, s8⟩ := hK.box.head.four
  obtain ⟨r0, r1, r2, r3, r4, r5, r6, r7, r8⟩ := hK.box.tail.head.four
  obtain ⟨b0, b1, b2, b3, b4, b5, b6, b7, b8⟩ := hK.box.tail.tail.head.four
  obtain ⟨a0, a1, a2, a3, a4, a5, a6, a7, a8⟩ := hK.box.tail.tail.tail.head.four
  go_wp2_with fail
  exact bodyPost_ret (v := .tuple #[V0, V0, .bool false, N 1]) (by simp [results, Try.results91, go_sem, nv_zero, s0, s1, s2, s3, r0, r1, r2, r3]) rfl ⟨rfl, ((hK.set4 1 rfl).set4 0 rfl).bel⟩
set_option maxRecDepth 100000 in
set_option maxHeartbeats 4000000 in
theorem leave_NotLess {p1 p2 : Value} {v m l g v' m' l' g' a b c d a' b' c' d' x y z t x' y' z' t' : BitVec 64} {may i1 i2 : Bool} {e1 e2 : Int} (hr : Hid ((valB v m l g && valB v' m' l' g') = true)) (w : World)
    (HR : Hid (∀ w', Below w.heap.size w w' → Calls Try.prog 98 #[p1, p2] w' fun e w'' => e = .returned (.tuple #[Vl a b c d, Vl a' b' c' d', .bool may]) ∧ Below w'.heap.size w' w''))
    (N1 : Hid (∀ w, Calls Try.prog 31 #[Vl a b c d] w fun e w' => e = .returned (.tuple #[Vl x y z t, .bool i1, N e1]) ∧ Below w.heap.size w w'))
    (N2 : Hid (∀ w, Calls Try.prog 31 #[Vl a' b' c' d'] w fun e w' => e = .returned (.tuple #[Vl x' y' z' t', .bool i2, N e2]) ∧ Below w.heap.size w w')) :
    Calls Try.prog 91 #[Vl v m l g, Vl v' m' l' g', .func (.func 98) #[] #[p1, p2]] w fun e w' => e = .returned (.tuple #[lv (may && (i1 && i2)) (Vl x y z t), lv (may && (i1 && i2)) (Vl x' y' z' t'), .bool (may && (i1 && i2)), N 0]) ∧ Below w.heap.size w w' := by
  obtain ⟨z1, H1⟩ : ∃ b, Hid (valB v m l g = b) := ⟨_, rfl⟩
  obtain ⟨z2, H2⟩ : ∃ b, Hid (valB v' m' l' g' = b) := ⟨_, rfl⟩
  rw [H1.out, H2.out] at hr
  obtain ⟨q, hq⟩ : ∃ q, Hid (q = (may && (i1 && i2))) := ⟨_, rfl⟩
  rw [← hq.out]
  go_enter Try.func91, Try.ntmps91
  go_wp2_with fail
  refine (vcheck2 H1 H2 (by simp) (by simp [go_sem]) (by simp [go_sem]) (by simp [go_sem]) (by simp [go_sem]) (by simp [go_sem]) (by simp [go_sem]) (by simp [go_sem]) (by simp [go_sem])).mono ?_
  rw [hr.out, er_t]
  rintro e w1 ⟨rfl, hb1⟩
  have hK := ((((((Kp.start w).add4 _ _ _ _ _).add4 _ _ _ _ _).add4 _ _ _ _ _).add4 _ _ _ _ _).keep ((Below.refl _ _).alloc (Nat.le_refl _) _)).keep hb1
  simp only [World.size_alloc] at hK
  clear hb1
  go_wp2_with fail
  refine (HR.out _ hK.bel).mono ?_
  rintro e w2 ⟨rfl, hb2⟩
  have hK2 := hK.keep hb2
  have hK3 := (hK2.set4 (x := U a) (y := U b) (z := U c) (t := U d) 3 rfl).set4 (x := U a') (y := U b') (z := U c') (t := U d') 2 rfl
  obtain ⟨s0, s1, s2, s3, s4, s5, s6, s7, s8⟩ := hK2.box.head.four
  obtain ⟨r0, r1, r2, r3, r4, r5, r6, r7, r8⟩ := hK2.box.tail.head.four
  obtain ⟨b0, b1, b2, b3, b4, b5, b6, b7, b8⟩ := hK2.box.tail.tail.head.four
  obtain ⟨a0, a1, a2, a3, a4, a5, a6, a7, a8⟩ := hK2.box.tail.tail.tail.head.four
  clear hb2 hK
  go_wp2_with fail
  refine (N1.out _).mono ?_
  rintro e w3 ⟨rfl, hb3⟩
  have hK4 := hK3.keep hb3
  have hK5 := hK4.set4 (x := U x) (y := U y) (z := U z) (t := U t) 3 rfl
  clear s0 s1 s2 s3 s4 s5 s6 s7 s8 r0 r1 r2 r3 r4 r5 r6 r7 r8 b0 b1 b2 b3 b4 b5 b6 b7 b8 a0 a1 a2 a3 a4 a5 a6 a7 a8
  obtain ⟨s0, s1, s2, s3, s4, s5, s6, s7, s8⟩ := hK4.box.head.four
  obtain ⟨r0, r1, r2, r3, r4, r5, r6, r7, r8⟩ := hK4.box.tail.head.four
  obtain ⟨b0, b1, b2, b3, b4, b5, b6, b7, b8⟩ := hK4.box.tail.tail.head.four
  obtain ⟨a0, a1, a2, a3, a4, a5, a6, a7, a8⟩ := hK4.box.tail.tail.tail.head.four
  clear hb3 hK2 hK3
  go_wp2_with fail
  refine (N2.out _).mono ?_
  rintro e w4 ⟨rfl, hb4⟩
  have hK6 := hK5.keep hb4
  have hK7 := hK6.set4 (x := U x') (y := U y') (z := U z') (t := U t') 2 rfl
  clear s0 s1 s2 s3 s4 s5 s6 s7 s8 r0 r1 r2 r3 r4 r5 r6 r7 r8 b0 b1 b2 b3 b4 b5 b6 b7 b8 a0 a1 a2 a3 a4 a5 a6 a7 a8
  obtain ⟨s0, s1, s2, s3, s4, s5, s6, s7, s8⟩ := hK6.box.head.four
  obtain ⟨r0, r1, r2, r3, r4, r5, r6, r7, r8⟩ := hK6.box.tail.head.four
  obtain ⟨b0, b1, b2, b3, b4, b5, b6, b7, b8⟩ := hK6.box.tail.tail.head.four
  obtain ⟨a0, a1, a2, a3, a4, a5, a6, a7, a8⟩ := hK6.box.tail.tail.tail.head.four
  clear hb4 hK4 hK5
  go_upto_region 7 with fail
  clear s0 s1 s2 s3 s4 s5 s6 s7 s8 r0 r1 r2 r3 r4 r5 r6 r7 r8 b0 b1 b2 b3 b4 b5 b6 b7 b8 a0 a1 a2 a3 a4 a5 a6 a7 a8
  clear hK6
  go_cut [52] (fun u wc => u = .bool (!q) ∧ Kp w wc [(w.heap.size + 1 + 1 + 1, [.int .u64 0, .int .u64 0, .int .u64 0, .int .u64 0]), (w.heap.size + 1 + 1, [.int .u64 0, .int .u64 0, .int .u64 0, .int .u64 0]), (w.heap.size + 1, [U x', U y', U z', U t']), (w.heap.size, [U x, U y, U z, U t])])
  case first =>
    cases may
    · go_wp2_with fail
      go_meet
      case rel => exact ⟨by rw [hq.out]; rfl, hK7⟩
    · cases i1
      · go_wp2_with fail
        go_meet
        case rel => exact ⟨by rw [hq.out]; rfl, hK7⟩
      · cases i2
        all_goals
          go_wp2_with fail
          go_meet
          case rel => exact ⟨by rw [hq.out]; rfl, hK7⟩
  case rest =>
    clear hK7 hq
    obtain ⟨rfl, hK8⟩ := hcut
    obtain ⟨s0, s1, s2, s3, s4, s5, s6, s7, s8⟩ := hK8.box.head.four
    obtain ⟨r0, r1, r2, r3, r4, r5, r6, r7, r8⟩ := hK8.box.tail.head.four
    obtain ⟨b0, b1, b2, b3, b4, b5, b6, b7, b8⟩ := hK8.box.tail.tail.head.four
    obtain ⟨a0, a1, a2, a3, a4, a5, a6, a7, a8⟩ := hK8.box.tail.tail.tail.head.four
    cases q
    · go_wp2_with fail
      exact bodyPost_ret (v := .tuple #[V0, V0, .bool false, N 0]) (by simp [results, Try.results91, go_sem, nv_zero, s0, s1, s2, s3, r0, r1, r2, r3]) rfl ⟨rfl, ((hK8.set4 1 rfl).set4 0 rfl).bel⟩
    · go_wp2_with fail
      go_region
      all_goals
        go_wp2_with fail
        exact bodyPost_ret (v := .tuple #[Vl x y z t, Vl x' y' z' t', .bool true, N 0]) (by simp [results, Try.results91, go_sem, s0, s1, s2, s3, r0, r1, r2, r3]) rfl ⟨rfl, Below.drew ((hK8.set4 1 rfl).set4 0 rfl).bel⟩

end Go.Proofs.Ytkigmocchaikgaa

/- The contracts of the functions that Equal and Less hand to leave. -/
namespace Go.Proofs.Ytkigmocchaikgaa
open Go.RowKit
attribute [local go_sem] w_and w_or w_xor w_andNot w_and1 w_and63 w_add w_sub w_mul w_sub1 w_add1 w_shl w_shl1 w_shr c_beq c_bne c_beq0 c_bne0 c_beq1 c_bne1 wrap_nv

/- the two that are captured -/
def Cap (w : World) (b1 b2 : Nat) (v m l g v' m' l' g' : BitVec 64) : Prop :=
  b1 < w.heap.size ∧ b2 < w.heap.size ∧ w.cell? ⟨b1, 0, none⟩ = some (U v) ∧ w.cell? ⟨b1, 1, none⟩ = some (U m) ∧ w.cell? ⟨b1, 2, none⟩ = some (U l) ∧ w.cell? ⟨b1, 3, none⟩ = some (U g)
  ∧ w.cell? ⟨b2, 0, none⟩ = some (U v') ∧ w.cell? ⟨b2, 1, none⟩ = some (U m') ∧ w.cell? ⟨b2, 2, none⟩ = some (U l') ∧ w.cell? ⟨b2, 3, none⟩ = some (U g')
theorem Cap.keep {w w' : World} {b1 b2 : Nat} {v m l g v' m' l' g' : BitVec 64} (h : Cap w b1 b2 v m l g v' m' l' g') (hb : Below w.heap.size w w') : Cap w' b1 b2 v m l g v' m' l' g' := by
  obtain ⟨s1, s2, a0, a1, a2, a3, c0, c1, c2, c3⟩ := h
  exact ⟨Nat.lt_of_lt_of_le s1 hb.size, Nat.lt_of_lt_of_le s2 hb.size, (hb.cell (p := ⟨b1, 0, none⟩) s1).trans a0, (hb.cell (p := ⟨b1, 1, none⟩) s1).trans a1, (hb.cell (p := ⟨b1, 2, none⟩) s1).trans a2, (hb.cell (p := ⟨b1, 3, none⟩) s1).trans a3,
    (hb.cell (p := ⟨b2, 0, none⟩) s2).trans c0, (hb.cell (p := ⟨b2, 1, none⟩) s2).trans c1, (hb.cell (p := ⟨b2, 2, none⟩) s2).trans c2, (hb.cell (p := ⟨b2, 3, none⟩) s2).trans c3⟩

set_option maxRecDepth 100000 in
set_option maxHeartbeats 4000000 in
theorem equal1_is {b1 b2 : Nat} {v m l g v' m' l' g' kv km lo hi : BitVec 64} {may : Bool} {w : World} (hc : Hid (Cap w b1 b2 v m l g v' m' l' g'))
    (HM : Hid (∀ w, Calls Try.prog 14 #[Bt v m, Bt v' m'] w fun e w' => e = .returned (.tuple #[Bt kv km, .bool may, N 0]) ∧ Below w.heap.size w w'))
    (m1 : Hid (bmax l l' = lo)) (m2 : Hid (bmin g g' = hi)) :
    Calls Try.prog 92 #[PT b1, PT b2] w fun e w' => e = .returned (.tuple #[Vl kv km lo hi, Vl kv km lo hi, .bool may]) ∧ Below w.heap.size w w' := by
  have e1 : (if nv l < nv l' then nv l' else nv l) = nv lo := by rw [← m1.out]; unfold bmax; split <;> rfl
  have e2 : (if nv g' < nv g then nv g' else nv g) = nv hi := by rw [← m2.out]; unfold bmin; split <;> rfl
  obtain ⟨s1, s2, a0, a1, a2, a3, c0, c1, c2, c3⟩ := hc.out
  go_enter Try.func92, Try.ntmps92
  go_wp2_with fail
  refine (HM.out _).mono ?_
  rintro e w1 ⟨rfl, hb1⟩
  have hK := (((Kp.start w).add4 _ _ _ _ _).add4 _ _ _ _ _).keep hb1
  simp only [World.size_alloc] at hK
  have hcc := hc.out.keep hK.bel
  clear s1 s2 a0 a1 a2 a3 c0 c1 c2 c3
  obtain ⟨s1, s2, a0, a1, a2, a3, c0, c1, c2, c3⟩ := hcc
  obtain ⟨t0, t1, t2, t3, t4, t5, t6, t7, t8⟩ := hK.box.head.four
  obtain ⟨r0, r1, r2, r3, r4, r5, r6, r7, r8⟩ := hK.box.tail.head.four
  go_wp2_with fail
  have hK2 := (hK.add2 (U kv) (U km) 24).add4 (U kv) (U km) (U lo) (U hi) 49
  simp only [World.size_alloc] at hK2
  have n1 : w.heap.size ≠ w1.heap.size + 1 := by omega
  have n2 : w1.heap.size + 1 ≠ w.heap.size := by omega
  have n3 : w.heap.size ≠ w1.heap.size := by omega
  have n4 : w1.heap.size ≠ w.heap.size := by omega
  have n5 : w.heap.size + 1 ≠ w1.heap.size := by omega
  have n6 : w1.heap.size ≠ w.heap.size + 1 := by omega
  clear t0 t1 t2 t3 t4 t5 t6 t7 t8 r0 r1 r2 r3 r4 r5 r6 r7 r8
  obtain ⟨k0, k1, k2, k3, k4, k5, k6, k7, k8⟩ := hK2.box.head.four
  obtain ⟨t0, t1, t2, t3, t4, t5, t6, t7, t8⟩ := hK2.box.tail.tail.head.four
  obtain ⟨r0, r1, r2, r3, r4, r5, r6, r7, r8⟩ := hK2.box.tail.tail.tail.head.four
  go_region
  all_goals
    go_wp2_with fail
    refine bodyPost_ret (v := .tuple #[Vl kv km lo hi, Vl kv km lo hi, .bool may]) ?_ rfl ⟨rfl, ?_⟩
    · simp [results, Try.results92, go_sem, t0, t1, t2, t3, r0, r1, r2, r3]
    · exact Below.drew ((hK2.set4 3 rfl).set4 2 rfl).bel

set_option maxRecDepth 100000 in
set_option maxHeartbeats 4000000 in
theorem notLess1_is {b1 b2 : Nat} {v m l g v' m' l' g' : BitVec 64} {w : World} (hc : Hid (Cap w b1 b2 v m l g v' m' l' g')) :
    Calls Try.prog 98 #[PT b1, PT b2] w fun e w' => e = .returned (.tuple #[Vl v m (bmax l l') (bmin g g), Vl v' m' (bmax l' l') (bmin g' g), .bool true]) ∧ Below w.heap.size w w' := by
  obtain ⟨s1, s2, a0, a1, a2, a3, c0, c1, c2, c3⟩ := hc.out
  have hK0 := ((Kp.start w).add4 (.int .u64 0) (.int .u64 0) (.int .u64 0) (.int .u64 0) 49).add4 (.int .u64 0) (.int .u64 0) (.int .u64 0) (.int .u64 0) 49
  simp only [World.size_alloc] at hK0
  go_enter Try.func98, Try.ntmps98
  go_wp2_with fail
  have hS0 : Kp w _ [] := (hK0).drop'.drop'.keep (Below.drew (Below.refl _ _))
  have hR0 := (hK0).keep (Below.drew (Below.refl _ _))
  have HS : Hid (∀ w', Kp w w' [] → Kp w w' [] ∧ w'.cell? ⟨b1, 0, none⟩ = some (U v) ∧ w'.cell? ⟨b1, 1, none⟩ = some (U m) ∧ w'.cell? ⟨b1, 2, none⟩ = some (U l) ∧ w'.cell? ⟨b1, 3, none⟩ = some (U g) ∧ w'.cell? ⟨b2, 0, none⟩ = some (U v') ∧ w'.cell? ⟨b2, 1, none⟩ = some (U m') ∧ w'.cell? ⟨b2, 2, none⟩ = some (U l') ∧ w'.cell? ⟨b2, 3, none⟩ = some (U g')) := by
    intro w' hk
    obtain ⟨_, _, d0, d1, d2, d3, f0, f1, f2, f3⟩ := hc.out.keep hk.bel
    exact ⟨hk, d0, d1, d2, d3, f0, f1, f2, f3⟩
  go_region_held3 (fun w' => Kp w w' [] ∧ w'.cell? ⟨b1, 0, none⟩ = some (U v) ∧ w'.cell? ⟨b1, 1, none⟩ = some (U m) ∧ w'.cell? ⟨b1, 2, none⟩ = some (U l) ∧ w'.cell? ⟨b1, 3, none⟩ = some (U g) ∧ w'.cell? ⟨b2, 0, none⟩ = some (U v') ∧ w'.cell? ⟨b2, 1, none⟩ = some (U m') ∧ w'.cell? ⟨b2, 2, none⟩ = some (U l') ∧ w'.cell? ⟨b2, 3, none⟩ = some (U g'))
    ((refine HS.out _ ?_; repeat (first | refine Kp.other4 ?_ _ _ _ _ (by first | exact Nat.le_refl _ | omega) (by simp) | exact hS0 | refine Kp.keep ?_ (by assumption) | refine Kp.keep ?_ (Below.drew (Below.refl _ _)))))
    (first
      | (go_at_call 97; refine (between_any _ _ _ _ _ _ _).mono ?_; rintro e wk ⟨rfl, hb⟩; first | (have hR2 := hR1.keep hb; obtain ⟨t0, t1, t2, t3, t4, t5, t6, t7, t8⟩ := hR2.box.head.four; obtain ⟨r0, r1, r2, r3, r4, r5, r6, r7, r8⟩ := hR2.box.tail.head.four) | (have hR1 := hR0.keep hb)))
  all_goals
    go_wp2_with fail
    refine bodyPost_ret (v := .tuple #[Vl v m (bmax l l') (bmin g g), Vl v' m' (bmax l' l') (bmin g' g), .bool true]) ?_ rfl ⟨rfl, ?_⟩
    · simp [results, Try.results98, go_sem, t0, t1, t2, t3, r0, r1, r2, r3]
    · exact ((hR2.set4 1 rfl).set4 0 rfl).bel

end Go.Proofs.Ytkigmocchaikgaa

/- The contracts of the functions that Less and Other hand to leave. (Written by gen_w28.py.) -/
namespace Go.Proofs.Ytkigmocchaikgaa
open Go.RowKit
attribute [local go_sem] w_and w_or w_xor w_andNot w_and1 w_and63 w_add w_sub w_mul w_sub1 w_add1 w_shl w_shl1 w_shr c_beq c_bne c_beq0 c_bne0 c_beq1 c_bne1 wrap_nv
theorem c_beqT (x : BitVec 64) : (nv x == 18446744073709551615) = eqb x top := by rw [← nv_top]; exact c_beq x top
attribute [local go_sem] c_beqT

set_option maxRecDepth 100000 in
set_option maxHeartbeats 4000000 in
theorem less1_no {b1 b2 : Nat} {v m l g v' m' l' g' : BitVec 64} {w : World} (hc : Hid (Cap w b1 b2 v' m' l' g' v m l g)) (hn : Hid ((eqb g' zero || eqb l top) = true)) :
    Calls Try.prog 96 #[PT b1, PT b2] w fun e w' => e = .returned (.tuple #[Vl v m l g, Vl v' m' l' g', .bool false]) ∧ Below w.heap.size w w' := by
  obtain ⟨s1, s2, a0, a1, a2, a3, c0, c1, c2, c3⟩ := hc.out
  have hK0 := ((Kp.start w).add4 (.int .u64 0) (.int .u64 0) (.int .u64 0) (.int .u64 0) 49).add4 (.int .u64 0) (.int .u64 0) (.int .u64 0) (.int .u64 0) 49
  simp only [World.size_alloc] at hK0
  obtain ⟨t0, t1, t2, t3, t4, t5, t6, t7, t8⟩ := hK0.box.head.four
  obtain ⟨r0, r1, r2, r3, r4, r5, r6, r7, r8⟩ := hK0.box.tail.head.four
  have n1 : b1 ≠ w.heap.size := by omega
  have n2 : b2 ≠ w.heap.size := by omega
  have n3 : w.heap.size ≠ b1 := by omega
  have n4 : w.heap.size ≠ b2 := by omega
  have n5 : b1 ≠ w.heap.size + 1 := by omega
  have n6 : b2 ≠ w.heap.size + 1 := by omega
  have n7 : w.heap.size + 1 ≠ b1 := by omega
  have n8 : w.heap.size + 1 ≠ b2 := by omega
  cases z1 : eqb g' zero
  · have z2 : eqb l top = true := by have := hn.out; rw [z1] at this; simpa using this
    go_enter Try.func96, Try.ntmps96
    go_wp2_with fail
    go_region
    all_goals
      go_wp2_with fail
      refine bodyPost_ret (v := .tuple #[Vl v m l g, Vl v' m' l' g', .bool false]) ?_ rfl ⟨rfl, ?_⟩
      · simp [results, Try.results96, go_sem]
      · exact (by repeat (first | exact Below.refl _ _ | assumption | refine below_drewN ?_ _ | refine Below.drew ?_ | refine Below.alloc ?_ (by first | exact Nat.le_refl _ | (simp; done) | (simp; omega) | omega) _ | refine Below.setCell ?_ (by first | exact Nat.le_refl _ | (simp; done) | (simp; omega) | omega) _ | refine Below.trans ?_ (Below.mono (by assumption) (by first | exact Nat.le_refl _ | (simp; done) | (simp; omega) | omega))))
  · go_enter Try.func96, Try.ntmps96
    go_wp2_with fail
    go_region
    all_goals
      go_wp2_with fail
      refine bodyPost_ret (v := .tuple #[Vl v m l g, Vl v' m' l' g', .bool false]) ?_ rfl ⟨rfl, ?_⟩
      · simp [results, Try.results96, go_sem]
      · exact (by repeat (first | exact Below.refl _ _ | assumption | refine below_drewN ?_ _ | refine Below.drew ?_ | refine Below.alloc ?_ (by first | exact Nat.le_refl _ | (simp; done) | (simp; omega) | omega) _ | refine Below.setCell ?_ (by first | exact Nat.le_refl _ | (simp; done) | (simp; omega) | omega) _ | refine Below.trans ?_ (Below.mono (by assumption) (by first | exact Nat.le_refl _ | (simp; done) | (simp; omega) | omega))))
set_option maxRecDepth 100000 in
set_option maxHeartbeats 4000000 in
theorem less1_yes {b1 b2 : Nat} {v m l g v' m' l' g' : BitVec 64} {w : World} (hc : Hid (Cap w b1 b2 v' m' l' g' v m l g)) (z1 : eqb g' zero = false) (z2 : eqb l top = false) :
    Calls Try.prog 96 #[PT b1, PT b2] w fun e w' => e = .returned (.tuple #[Vl v m (bmax l l) (bmin g (bsub g' one)), Vl v' m' (bmax l' (badd l one)) (bmin g' g'), .bool true]) ∧ Below w.heap.size w w' := by
  obtain ⟨s1, s2, a0, a1, a2, a3, c0, c1, c2, c3⟩ := hc.out
  have hK0 := ((Kp.start w).add4 (.int .u64 0) (.int .u64 0) (.int .u64 0) (.int .u64 0) 49).add4 (.int .u64 0) (.int .u64 0) (.int .u64 0) (.int .u64 0) 49
  simp only [World.size_alloc] at hK0
  go_enter Try.func96, Try.ntmps96
  go_wp2_with fail
  go_quiet (fail)
  go_wp2_with fail
  have hS0 : Kp w _ [] := (hK0.drew nq).drop'.drop'.keep (Below.drew (Below.refl _ _))
  have hR0 := (hK0.drew nq).keep (Below.drew (Below.refl _ _))
  have HS : Hid (∀ w', Kp w w' [] → Kp w w' [] ∧ w'.cell? ⟨b1, 0, none⟩ = some (U v') ∧ w'.cell? ⟨b1, 1, none⟩ = some (U m') ∧ w'.cell? ⟨b1, 2, none⟩ = some (U l') ∧ w'.cell? ⟨b1, 3, none⟩ = some (U g') ∧ w'.cell? ⟨b2, 0, none⟩ = some (U v) ∧ w'.cell? ⟨b2, 1, none⟩ = some (U m) ∧ w'.cell? ⟨b2, 2, none⟩ = some (U l) ∧ w'.cell? ⟨b2, 3, none⟩ = some (U g)) := by
    intro w' hk
    obtain ⟨_, _, d0, d1, d2, d3, f0, f1, f2, f3⟩ := hc.out.keep hk.bel
    exact ⟨hk, d0, d1, d2, d3, f0, f1, f2, f3⟩
  go_region_held3 (fun w' => Kp w w' [] ∧ w'.cell? ⟨b1, 0, none⟩ = some (U v') ∧ w'.cell? ⟨b1, 1, none⟩ = some (U m') ∧ w'.cell? ⟨b1, 2, none⟩ = some (U l') ∧ w'.cell? ⟨b1, 3, none⟩ = some (U g') ∧ w'.cell? ⟨b2, 0, none⟩ = some (U v) ∧ w'.cell? ⟨b2, 1, none⟩ = some (U m) ∧ w'.cell? ⟨b2, 2, none⟩ = some (U l) ∧ w'.cell? ⟨b2, 3, none⟩ = some (U g))
    ((refine HS.out _ ?_; repeat (first | refine Kp.other4 ?_ _ _ _ _ (by first | exact Nat.le_refl _ | omega) (by simp) | exact hS0 | refine Kp.keep ?_ (by assumption) | refine Kp.keep ?_ (Below.drew (Below.refl _ _)))))
    (first
      | (go_at_call 97; refine (between_any _ _ _ _ _ _ _).mono ?_; rintro e wk ⟨rfl, hb⟩; first | (have hR2 := hR1.keep hb; obtain ⟨t0, t1, t2, t3, t4, t5, t6, t7, t8⟩ := hR2.box.head.four; obtain ⟨r0, r1, r2, r3, r4, r5, r6, r7, r8⟩ := hR2.box.tail.head.four) | (have hR1 := hR0.keep hb)))
  all_goals
    go_wp2_with fail
    refine bodyPost_ret (v := .tuple #[Vl v m (bmax l l) (bmin g (bsub g' one)), Vl v' m' (bmax l' (badd l one)) (bmin g' g'), .bool true]) ?_ rfl ⟨rfl, ?_⟩
    · simp [results, Try.results96, go_sem, t0, t1, t2, t3, r0, r1, r2, r3]
    · exact ((hR2.set4 1 rfl).set4 0 rfl).bel

set_option maxRecDepth 100000 in
set_option maxHeartbeats 4000000 in
theorem other1_is {b1 b2 : Nat} {v m l g v' m' l' g' : BitVec 64} {w : World} {q : Bool} (hc : Hid (Cap w b1 b2 v m l g v' m' l' g')) (hq : Hid (q = (eqb l g && (eqb l' g' && eqb l l')))) :
    Calls Try.prog 93 #[PT b1, PT b2] w fun e w' => e = .returned (.tuple #[Vl v m (woL l l' g') (woH l g l' g'), Vl v' m' (woL l' l g) (woH l' g' l g), .bool (!q)]) ∧ Below w.heap.size w w' := by
  obtain ⟨s1, s2, a0, a1, a2, a3, c0, c1, c2, c3⟩ := hc.out
  obtain ⟨y1, Y1⟩ : ∃ b, Hid (eqb l g = b) := ⟨_, rfl⟩
  obtain ⟨y2, Y2⟩ : ∃ b, Hid (eqb l' g' = b) := ⟨_, rfl⟩
  obtain ⟨y3, Y3⟩ : ∃ b, eqb l l' = b := ⟨_, rfl⟩
  rw [Y1.out, Y2.out, Y3] at hq
  have hK0 := ((Kp.start w).add4 (.int .u64 0) (.int .u64 0) (.int .u64 0) (.int .u64 0) 49).add4 (.int .u64 0) (.int .u64 0) (.int .u64 0) (.int .u64 0) 49
  simp only [World.size_alloc] at hK0
  go_enter Try.func93, Try.ntmps93
  go_upto_region 1 with fail
  go_cut [5] (fun u wc => u = .bool q ∧ Kp w wc [(w.heap.size + 1, [.int .u64 0, .int .u64 0, .int .u64 0, .int .u64 0]), (w.heap.size, [.int .u64 0, .int .u64 0, .int .u64 0, .int .u64 0])])
  case first =>
    go_wp2_with fail
    refine (alone_is Y1.out _).mono ?_
    rintro e w1 ⟨rfl, hb1⟩
    have hK1 := hK0.keep hb1
    clear s1 s2 a0 a1 a2 a3 c0 c1 c2 c3
    obtain ⟨s1, s2, a0, a1, a2, a3, c0, c1, c2, c3⟩ := hc.out.keep hK1.bel
    cases y1
    · go_wp2_with fail
      go_meet
      case rel => exact ⟨by rw [hq.out]; rfl, hK1⟩
    · go_wp2_with fail
      refine (alone_is Y2.out _).mono ?_
      rintro e w2 ⟨rfl, hb2⟩
      have hK2 := hK1.keep hb2
      clear s1 s2 a0 a1 a2 a3 c0 c1 c2 c3
      obtain ⟨s1, s2, a0, a1, a2, a3, c0, c1, c2, c3⟩ := hc.out.keep hK2.bel
      cases y2
      · go_wp2_with fail
        go_meet
        case rel => exact ⟨by rw [hq.out]; rfl, hK2⟩
      · cases y3
        all_goals
          go_wp2_with fail
          go_meet
          case rel => exact ⟨by rw [hq.out]; rfl, hK2⟩
  case rest =>
    clear hK0 hq Y1 Y2 Y3 s1 s2 a0 a1 a2 a3 c0 c1 c2 c3
    obtain ⟨rfl, hK0⟩ := hcut
    obtain ⟨s1, s2, a0, a1, a2, a3, c0, c1, c2, c3⟩ := hc.out.keep hK0.bel
    go_wp2_with fail
    have hS0 : Kp w _ [] := (hK0).drop'.drop'.keep (Below.drew (Below.refl _ _))
    have hR0 := (hK0).keep (Below.drew (Below.refl _ _))
    have HS : Hid (∀ w', Kp w w' [] → Kp w w' [] ∧ w'.cell? ⟨b1, 0, none⟩ = some (U v) ∧ w'.cell? ⟨b1, 1, none⟩ = some (U m) ∧ w'.cell? ⟨b1, 2, none⟩ = some (U l) ∧ w'.cell? ⟨b1, 3, none⟩ = some (U g) ∧ w'.cell? ⟨b2, 0, none⟩ = some (U v') ∧ w'.cell? ⟨b2, 1, none⟩ = some (U m') ∧ w'.cell? ⟨b2, 2, none⟩ = some (U l') ∧ w'.cell? ⟨b2, 3, none⟩ = some (U g')) := by
      intro w' hk
      obtain ⟨_, _, d0, d1, d2, d3, f0, f1, f2, f3⟩ := hc.out.keep hk.bel
      exact ⟨hk, d0, d1, d2, d3, f0, f1, f2, f3⟩
    go_region_held3 (fun w' => Kp w w' [] ∧ w'.cell? ⟨b1, 0, none⟩ = some (U v) ∧ w'.cell? ⟨b1, 1, none⟩ = some (U m) ∧ w'.cell? ⟨b1, 2, none⟩ = some (U l) ∧ w'.cell? ⟨b1, 3, none⟩ = some (U g) ∧ w'.cell? ⟨b2, 0, none⟩ = some (U v') ∧ w'.cell? ⟨b2, 1, none⟩ = some (U m') ∧ w'.cell? ⟨b2, 2, none⟩ = some (U l') ∧ w'.cell? ⟨b2, 3, none⟩ = some (U g'))
      ((refine HS.out _ ?_; repeat (first | refine Kp.other4 ?_ _ _ _ _ (by first | exact Nat.le_refl _ | omega) (by simp) | exact hS0 | refine Kp.keep ?_ (by assumption) | refine Kp.keep ?_ (Below.drew (Below.refl _ _)))))
      (first
        | (go_at_call 95; refine (without_is _ _ _ _ _ _ _ _ _).mono ?_; rintro e wk ⟨rfl, hb⟩; first | (have hR2 := hR1.keep hb; obtain ⟨t0, t1, t2, t3, t4, t5, t6, t7, t8⟩ := hR2.box.head.four; obtain ⟨r0, r1, r2, r3, r4, r5, r6, r7, r8⟩ := hR2.box.tail.head.four) | (have hR1 := hR0.keep hb)))
    all_goals
      go_wp2_with fail
      refine bodyPost_ret (v := .tuple #[Vl v m (woL l l' g') (woH l g l' g'), Vl v' m' (woL l' l g) (woH l' g' l g), .bool (!q)]) ?_ rfl ⟨rfl, ?_⟩
      · simp [results, Try.results93, go_sem, t0, t1, t2, t3, r0, r1, r2, r3]
      · exact ((hR2.set4 1 rfl).set4 0 rfl).bel

end Go.Proofs.Ytkigmocchaikgaa

/- The contracts of package calc's Equal, Other, Less and NotLess, over what leave is handed. (Written by gen_w29.py.) -/
namespace Go.Proofs.Ytkigmocchaikgaa
open Go.RowKit
attribute [local go_sem] w_and w_or w_xor w_andNot w_and1 w_and63 w_add w_sub w_mul w_sub1 w_add1 w_shl w_shl1 w_shr c_beq c_bne c_beq0 c_bne0 c_beq1 c_bne1 wrap_nv

set_option maxRecDepth 100000 in
set_option maxHeartbeats 4000000 in
theorem calcEqual_wrong {v m l g v' m' l' g' : BitVec 64} (hr : Hid ((valB v m l g && valB v' m' l' g') = false)) (w : World) :
    Calls Try.prog 51 #[Vl v m l g, Vl v' m' l' g'] w fun e w' => e = .returned (.tuple #[V0, V0, .bool false, N 1]) ∧ Below w.heap.size w w' := by
  go_enter Try.func51, Try.ntmps51
  go_wp2_with fail
  refine (leave_wrongEqual hr _).mono ?_
  rintro e w1 ⟨rfl, hb1⟩
  have hK := (((((Kp.start w).add4 _ _ _ _ _).add4 _ _ _ _ _).add4 _ _ _ _ _).add4 _ _ _ _ _).keep hb1
  simp only [World.size_alloc] at hK
  obtain ⟨s0, s1, s2, s3, s4, s5, s6, s7, s8⟩ := hK.box.head.four
  obtain ⟨r0, r1, r2, r3, r4, r5, r6, r7, r8⟩ := hK.box.tail.head.four
  obtain ⟨b0, b1, b2, b3, b4, b5, b6, b7, b8⟩ := hK.box.tail.tail.head.four
  obtain ⟨a0, a1, a2, a3, a4, a5, a6, a7, a8⟩ := hK.box.tail.tail.tail.head.four
  go_wp2_with fail
  exact bodyPost_ret (v := .tuple #[V0, V0, .bool false, N 1]) (by simp [results, Try.results51, go_sem, s0, s1, s2, s3, r0, r1, r2, r3]) rfl ⟨rfl, ((hK.set4 1 rfl).set4 0 rfl).bel⟩
set_option maxRecDepth 100000 in
set_option maxHeartbeats 4000000 in
theorem calcEqual_right {v m l g v' m' l' g' a b c d a' b' c' d' x y z t x' y' z' t' : BitVec 64} {may i1 i2 : Bool} {e1 e2 : Int} (hr : Hid ((valB v m l g && valB v' m' l' g') = true)) (w : World)
    (HR : Hid (∀ (B : Nat) w', Cap w' B (B + 1) v m l g v' m' l' g' → Calls Try.prog 92 #[PT B, PT (B + 1)] w' fun e w'' => e = .returned (.tuple #[Vl a b c d, Vl a' b' c' d', .bool may]) ∧ Below w'.heap.size w' w''))
    (N1 : Hid (∀ w, Calls Try.prog 31 #[Vl a b c d] w fun e w' => e = .returned (.tuple #[Vl x y z t, .bool i1, N e1]) ∧ Below w.heap.size w w'))
    (N2 : Hid (∀ w, Calls Try.prog 31 #[Vl a' b' c' d'] w fun e w' => e = .returned (.tuple #[Vl x' y' z' t', .bool i2, N e2]) ∧ Below w.heap.size w w')) :
    Calls Try.prog 51 #[Vl v m l g, Vl v' m' l' g'] w fun e w' => e = .returned (.tuple #[lv (may && (i1 && i2)) (Vl x y z t), lv (may && (i1 && i2)) (Vl x' y' z' t'), .bool (may && (i1 && i2)), N 0]) ∧ Below w.heap.size w w' := by
  have hK0 := ((((Kp.start w).add4 (U v) (U m) (U l) (U g) 49).add4 (U v') (U m') (U l') (U g') 49).add4 (.int .u64 0) (.int .u64 0) (.int .u64 0) (.int .u64 0) 49).add4 (.int .u64 0) (.int .u64 0) (.int .u64 0) (.int .u64 0) 49
  simp only [World.size_alloc] at hK0
  have HC : Hid (∀ w', Below ((((w.alloc (.cells #[U v, U m, U l, U g] 49)).alloc (.cells #[U v', U m', U l', U g'] 49)).alloc (.cells #[.int .u64 0, .int .u64 0, .int .u64 0, .int .u64 0] 49)).alloc (.cells #[.int .u64 0, .int .u64 0, .int .u64 0, .int .u64 0] 49)).heap.size ((((w.alloc (.cells #[U v, U m, U l, U g] 49)).alloc (.cells #[U v', U m', U l', U g'] 49)).alloc (.cells #[.int .u64 0, .int .u64 0, .int .u64 0, .int .u64 0] 49)).alloc (.cells #[.int .u64 0, .int .u64 0, .int .u64 0, .int .u64 0] 49)) w' → Cap w' w.heap.size (w.heap.size + 1) v m l g v' m' l' g') := by
    intro w' hb
    have hk := hK0.keep hb
    obtain ⟨b0, b1, b2, b3, _, _, _, _, b8⟩ := hk.box.tail.tail.head.four
    obtain ⟨a0, a1, a2, a3, _, _, _, _, a8⟩ := hk.box.tail.tail.tail.head.four
    exact ⟨a8, b8, a0, a1, a2, a3, b0, b1, b2, b3⟩
  obtain ⟨q, hq⟩ : ∃ q, Hid (q = (may && (i1 && i2))) := ⟨_, rfl⟩
  have HL : Hid (Calls Try.prog 91 #[Vl v m l g, Vl v' m' l' g', .func (.func 92) #[] #[PT w.heap.size, PT (w.heap.size + 1)]] ((((w.alloc (.cells #[U v, U m, U l, U g] 49)).alloc (.cells #[U v', U m', U l', U g'] 49)).alloc (.cells #[.int .u64 0, .int .u64 0, .int .u64 0, .int .u64 0] 49)).alloc (.cells #[.int .u64 0, .int .u64 0, .int .u64 0, .int .u64 0] 49)) fun e w' => e = .returned (.tuple #[lv q (Vl x y z t), lv q (Vl x' y' z' t'), .bool q, N 0]) ∧ Below ((((w.alloc (.cells #[U v, U m, U l, U g] 49)).alloc (.cells #[U v', U m', U l', U g'] 49)).alloc (.cells #[.int .u64 0, .int .u64 0, .int .u64 0, .int .u64 0] 49)).alloc (.cells #[.int .u64 0, .int .u64 0, .int .u64 0, .int .u64 0] 49)).heap.size ((((w.alloc (.cells #[U v, U m, U l, U g] 49)).alloc (.cells #[U v', U m', U l', U g'] 49)).alloc (.cells #[.int .u64 0, .int .u64 0, .int .u64 0, .int .u64 0] 49)).alloc (.cells #[.int .u64 0, .int .u64 0, .int .u64 0, .int .u64 0] 49)) w') := by
    show Calls _ _ _ _ _
    rw [hq.out]
    exact leave_Equal hr _ (hid (fun w' hb => HR.out w.heap.size w' (HC.out w' hb))) N1 N2
  rw [← hq.out]
  clear hq N1 N2 HR HC hr
  go_enter Try.func51, Try.ntmps51
  go_wp2_with fail
  refine HL.out.mono ?_
  rintro e w1 ⟨rfl, hb1⟩
  have hK := hK0.keep hb1
  clear HL
  obtain ⟨s0, s1, s2, s3, s4, s5, s6, s7, s8⟩ := hK.box.head.four
  obtain ⟨r0, r1, r2, r3, r4, r5, r6, r7, r8⟩ := hK.box.tail.head.four
  obtain ⟨b0, b1, b2, b3, b4, b5, b6, b7, b8⟩ := hK.box.tail.tail.head.four
  obtain ⟨a0, a1, a2, a3, a4, a5, a6, a7, a8⟩ := hK.box.tail.tail.tail.head.four
  cases q
  · have e0 : ∀ a, lv false a = V0 := fun a => rfl
    simp only [e0]
    go_wp2_with fail
    exact bodyPost_ret (v := .tuple #[V0, V0, .bool false, N 0]) (by simp [results, Try.results51, go_sem, s0, s1, s2, s3, r0, r1, r2, r3]) rfl ⟨rfl, ((hK.set4 1 rfl).set4 0 rfl).bel⟩
  · have e0 : ∀ a, lv true a = a := fun a => rfl
    simp only [e0]
    go_wp2_with fail
    exact bodyPost_ret (v := .tuple #[Vl x y z t, Vl x' y' z' t', .bool true, N 0]) (by simp [results, Try.results51, go_sem, s0, s1, s2, s3, r0, r1, r2, r3]) rfl ⟨rfl, ((hK.set4 1 rfl).set4 0 rfl).bel⟩

set_option maxRecDepth 100000 in
set_option maxHeartbeats 4000000 in
theorem calcOther_wrong {v m l g v' m' l' g' : BitVec 64} (hr : Hid ((valB v m l g && valB v' m' l' g') = false)) (w : World) :
    Calls Try.prog 52 #[Vl v m l g, Vl v' m' l' g'] w fun e w' => e = .returned (.tuple #[V0, V0, .bool false, N 1]) ∧ Below w.heap.size w w' := by
  go_enter Try.func52, Try.ntmps52
  go_wp2_with fail
  refine (leave_wrongOther hr _).mono ?_
  rintro e w1 ⟨rfl, hb1⟩
  have hK := (((((Kp.start w).add4 _ _ _ _ _).add4 _ _ _ _ _).add4 _ _ _ _ _).add4 _ _ _ _ _).keep hb1
  simp only [World.size_alloc] at hK
  obtain ⟨s0, s1, s2, s3, s4, s5, s6, s7, s8⟩ := hK.box.head.four
  obtain ⟨r0, r1, r2, r3, r4, r5, r6, r7, r8⟩ := hK.box.tail.head.four
  obtain ⟨b0, b1, b2, b3, b4, b5, b6, b7, b8⟩ := hK.box.tail.tail.head.four
  obtain ⟨a0, a1, a2, a3, a4, a5, a6, a7, a8⟩ := hK.box.tail.tail.tail.head.four
  go_wp2_with fail
  exact bodyPost_ret (v := .tuple #[V0, V0, .bool false, N 1]) (by simp [results, Try.results52, go_sem, s0, s1, s2, s3, r0, r1, r2, r3]) rfl ⟨rfl, ((hK.set4 1 rfl).set4 0 rfl).bel⟩
set_option maxRecDepth 100000 in
set_option maxHeartbeats 4000000 in
theorem calcOther_right {v m l g v' m' l' g' a b c d a' b' c' d' x y z t x' y' z' t' : BitVec 64} {may i1 i2 : Bool} {e1 e2 : Int} (hr : Hid ((valB v m l g && valB v' m' l' g') = true)) (w : World)
    (HR : Hid (∀ (B : Nat) w', Cap w' B (B + 1) v m l g v' m' l' g' → Calls Try.prog 93 #[PT B, PT (B + 1)] w' fun e w'' => e = .returned (.tuple #[Vl a b c d, Vl a' b' c' d', .bool may]) ∧ Below w'.heap.size w' w''))
    (N1 : Hid (∀ w, Calls Try.prog 31 #[Vl a b c d] w fun e w' => e = .returned (.tuple #[Vl x y z t, .bool i1, N e1]) ∧ Below w.heap.size w w'))
    (N2 : Hid (∀ w, Calls Try.prog 31 #[Vl a' b' c' d'] w fun e w' => e = .returned (.tuple #[Vl x' y' z' t', .bool i2, N e2]) ∧ Below w.heap.size w w')) :
    Calls Try.prog 52 #[Vl v m l g, Vl v' m' l' g'] w fun e w' => e = .returned (.tuple #[lv (may && (i1 && i2)) (Vl x y z t), lv (may && (i1 && i2)) (Vl x' y' z' t'), .bool (may && (i1 && i2)), N 0]) ∧ Below w.heap.size w w' := by
  have hK0 := ((((Kp.start w).add4 (U v) (U m) (U l) (U g) 49).add4 (U v') (U m') (U l') (U g') 49).add4 (.int .u64 0) (.int .u64 0) (.int .u64 0) (.int .u64 0) 49).add4 (.int .u64 0) (.int .u64 0) (.int .u64 0) (.int .u64 0) 49
  simp only [World.size_alloc] at hK0
  have HC : Hid (∀ w', Below ((((w.alloc (.cells #[U v, U m, U l, U g] 49)).alloc (.cells #[U v', U m', U l', U g'] 49)).alloc (.cells #[.int .u64 0, .int .u64 0, .int .u64 0, .int .u64 0] 49)).alloc (.cells #[.int .u64 0, .int .u64 0, .int .u64 0, .int .u64 0] 49)).heap.size ((((w.alloc (.cells #[U v, U m, U l, U g] 49)).alloc (.cells #[U v', U m', U l', U g'] 49)).alloc (.cells #[.int .u64 0, .int .u64 0, .int .u64 0, .int .u64 0] 49)).alloc (.cells #[.int .u64 0, .int .u64 0, .int .u64 0, .int .u64 0] 49)) w' → Cap w' w.heap.size (w.heap.size + 1) v m l g v' m' l' g') := by
    intro w' hb
    have hk := hK0.keep hb
    obtain ⟨b0, b1, b2, b3, _, _, _, _, b8⟩ := hk.box.tail.tail.head.four
    obtain ⟨a0, a1, a2, a3, _, _, _, _, a8⟩ := hk.box.tail.tail.tail.head.four
    exact ⟨a8, b8, a0, a1, a2, a3, b0, b1, b2, b3⟩
  obtain ⟨q, hq⟩ : ∃ q, Hid (q = (may && (i1 && i2))) := ⟨_, rfl⟩
  have HL : Hid (Calls Try.prog 91 #[Vl v m l g, Vl v' m' l' g', .func (.func 93) #[] #[PT w.heap.size, PT (w.heap.size + 1)]] ((((w.alloc (.cells #[U v, U m, U l, U g] 49)).alloc (.cells #[U v', U m', U l', U g'] 49)).alloc (.cells #[.int .u64 0, .int .u64 0, .int .u64 0, .int .u64 0] 49)).alloc (.cells #[.int .u64 0, .int .u64 0, .int .u64 0, .int .u64 0] 49)) fun e w' => e = .returned (.tuple #[lv q (Vl x y z t), lv q (Vl x' y' z' t'), .bool q, N 0]) ∧ Below ((((w.alloc (.cells #[U v, U m, U l, U g] 49)).alloc (.cells #[U v', U m', U l', U g'] 49)).alloc (.cells #[.int .u64 0, .int .u64 0, .int .u64 0, .int .u64 0] 49)).alloc (.cells #[.int .u64 0, .int .u64 0, .int .u64 0, .int .u64 0] 49)).heap.size ((((w.alloc (.cells #[U v, U m, U l, U g] 49)).alloc (.cells #[U v', U m', U l', U g'] 49)).alloc (.cells #[.int .u64 0, .int .u64 0, .int .u64 0, .int .u64 0] 49)).alloc (.cells #[.int .u64 0, .int .u64 0, .int .u64 0, .int .u64 0] 49)) w') := by
    show Calls _ _ _ _ _
    rw [hq.out]
    exact leave_Other hr _ (hid (fun w' hb => HR.out w.heap.size w' (HC.out w' hb))) N1 N2
  rw [← hq.out]
  clear hq N1 N2 HR HC hr
  go_enter Try.func52, Try.ntmps52
  go_wp2_with fail
  refine HL.out.mono ?_
  rintro e w1 ⟨rfl, hb1⟩
  have hK := hK0.keep hb1
  clear HL
  obtain ⟨s0, s1, s2, s3, s4, s5, s6, s7, s8⟩ := hK.box.head.four
  obtain ⟨r0, r1, r2, r3, r4, r5, r6, r7, r8⟩ := hK.box.tail.head.four
  obtain ⟨b0, b1, b2, b3, b4, b5, b6, b7, b8⟩ := hK.box.tail.tail.head.four
  obtain ⟨a0, a1, a2, a3, a4, a5, a6, a7, a8⟩ := hK.box.tail.tail.tail.head.four
  cases q
  · have e0 : ∀ a, lv false a = V0 := fun a => rfl
    simp only [e0]
    go_wp2_with fail
    exact bodyPost_ret (v := .tuple #[V0, V0, .bool false, N 0]) (by simp [results, Try.results52, go_sem, s0, s1, s2, s3, r0, r1, r2, r3]) rfl ⟨rfl, ((hK.set4 1 rfl).set4 0 rfl).bel⟩
  · have e0 : ∀ a, lv true a = a := fun a => rfl
    simp only [e0]
    go_wp2_with fail
    exact bodyPost_ret (v := .tuple #[Vl x y z t, Vl x' y' z' t', .bool true, N 0]) (by simp [results, Try.results52, go_sem, s0, s1, s2, s3, r0, r1, r2, r3]) rfl ⟨rfl, ((hK.set4 1 rfl).set4 0 rfl).bel⟩

set_option maxRecDepth 100000 in
set_option maxHeartbeats 4000000 in
theorem calcLess_wrong {v m l g v' m' l' g' : BitVec 64} (hr : Hid ((valB v m l g && valB v' m' l' g') = false)) (w : World) :
    Calls Try.prog 53 #[Vl v m l g, Vl v' m' l' g'] w fun e w' => e = .returned (.tuple #[V0, V0, .bool false, N 1]) ∧ Below w.heap.size w w' := by
  go_enter Try.func53, Try.ntmps53
  go_wp2_with fail
  refine (leave_wrongLess hr _).mono ?_
  rintro e w1 ⟨rfl, hb1⟩
  have hK := (((((Kp.start w).add4 _ _ _ _ _).add4 _ _ _ _ _).add4 _ _ _ _ _).add4 _ _ _ _ _).keep hb1
  simp only [World.size_alloc] at hK
  obtain ⟨s0, s1, s2, s3, s4, s5, s6, s7, s8⟩ := hK.box.head.four
  obtain ⟨r0, r1, r2, r3, r4, r5, r6, r7, r8⟩ := hK.box.tail.head.four
  obtain ⟨b0, b1, b2, b3, b4, b5, b6, b7, b8⟩ := hK.box.tail.tail.head.four
  obtain ⟨a0, a1, a2, a3, a4, a5, a6, a7, a8⟩ := hK.box.tail.tail.tail.head.four
  go_wp2_with fail
  exact bodyPost_ret (v := .tuple #[V0, V0, .bool false, N 1]) (by simp [results, Try.results53, go_sem, s0, s1, s2, s3, r0, r1, r2, r3]) rfl ⟨rfl, ((hK.set4 1 rfl).set4 0 rfl).bel⟩
set_option maxRecDepth 100000 in
set_option maxHeartbeats 4000000 in
theorem calcLess_right {v m l g v' m' l' g' a b c d a' b' c' d' x y z t x' y' z' t' : BitVec 64} {may i1 i2 : Bool} {e1 e2 : Int} (hr : Hid ((valB v m l g && valB v' m' l' g') = true)) (w : World)
    (HR : Hid (∀ (B : Nat) w', Cap w' (B + 1) B v' m' l' g' v m l g → Calls Try.prog 96 #[PT (B + 1), PT B] w' fun e w'' => e = .returned (.tuple #[Vl a b c d, Vl a' b' c' d', .bool may]) ∧ Below w'.heap.size w' w''))
    (N1 : Hid (∀ w, Calls Try.prog 31 #[Vl a b c d] w fun e w' => e = .returned (.tuple #[Vl x y z t, .bool i1, N e1]) ∧ Below w.heap.size w w'))
    (N2 : Hid (∀ w, Calls Try.prog 31 #[Vl a' b' c' d'] w fun e w' => e = .returned (.tuple #[Vl x' y' z' t', .bool i2, N e2]) ∧ Below w.heap.size w w')) :
    Calls Try.prog 53 #[Vl v m l g, Vl v' m' l' g'] w fun e w' => e = .returned (.tuple #[lv (may && (i1 && i2)) (Vl x y z t), lv (may && (i1 && i2)) (Vl x' y' z' t'), .bool (may && (i1 && i2)), N 0]) ∧ Below w.heap.size w w' := by
  have hK0 := ((((Kp.start w).add4 (U v) (U m) (U l) (U g) 49).add4 (U v') (U m') (U l') (U g') 49).add4 (.int .u64 0) (.int .u64 0) (.int .u64 0) (.int .u64 0) 49).add4 (.int .u64 0) (.int .u64 0) (.int .u64 0) (.int .u64 0) 49
  simp only [World.size_alloc] at hK0
  have HC : Hid (∀ w', Below ((((w.alloc (.cells #[U v, U m, U l, U g] 49)).alloc (.cells #[U v', U m', U l', U g'] 49)).alloc (.cells #[.int .u64 0, .int .u64 0, .int .u64 0, .int .u64 0] 49)).alloc (.cells #[.int .u64 0, .int .u64 0, .int .u64 0, .int .u64 0] 49)).heap.size ((((w.alloc (.cells #[U v, U m, U l, U g] 49)).alloc (.cells #[U v', U m', U l', U g'] 49)).alloc (.cells #[.int .u64 0, .int .u64 0, .int .u64 0, .int .u64 0] 49)).alloc (.cells #[.int .u64 0, .int .u64 0, .int .u64 0, .int .u64 0] 49)) w' → Cap w' (w.heap.size + 1) w.heap.size v' m' l' g' v m l g) := by
    intro w' hb
    have hk := hK0.keep hb
    obtain ⟨b0, b1, b2, b3, _, _, _, _, b8⟩ := hk.box.tail.tail.head.four
    obtain ⟨a0, a1, a2, a3, _, _, _, _, a8⟩ := hk.box.tail.tail.tail.head.four
    exact ⟨b8, a8, b0, b1, b2, b3, a0, a1, a2, a3⟩
  obtain ⟨q, hq⟩ : ∃ q, Hid (q = (may && (i1 && i2))) := ⟨_, rfl⟩
  have HL : Hid (Calls Try.prog 91 #[Vl v m l g, Vl v' m' l' g', .func (.func 96) #[] #[PT (w.heap.size + 1), PT w.heap.size]] ((((w.alloc (.cells #[U v, U m, U l, U g] 49)).alloc (.cells #[U v', U m', U l', U g'] 49)).alloc (.cells #[.int .u64 0, .int .u64 0, .int .u64 0, .int .u64 0] 49)).alloc (.cells #[.int .u64 0, .int .u64 0, .int .u64 0, .int .u64 0] 49)) fun e w' => e = .returned (.tuple #[lv q (Vl x y z t), lv q (Vl x' y' z' t'), .bool q, N 0]) ∧ Below ((((w.alloc (.cells #[U v, U m, U l, U g] 49)).alloc (.cells #[U v', U m', U l', U g'] 49)).alloc (.cells #[.int .u64 0, .int .u64 0, .int .u64 0, .int .u64 0] 49)).alloc (.cells #[.int .u64 0, .int .u64 0, .int .u64 0, .int .u64 0] 49)).heap.size ((((w.alloc (.cells #[U v, U m, U l, U g] 49)).alloc (.cells #[U v', U m', U l', U g'] 49)).alloc (.cells #[.int .u64 0, .int .u64 0, .int .u64 0, .int .u64 0] 49)).alloc (.cells #[.int .u64 0, .int .u64 0, .int .u64 0, .int .u64 0] 49)) w') := by
    show Calls _ _ _ _ _
    rw [hq.out]
    exact leave_Less hr _ (hid (fun w' hb => HR.out w.heap.size w' (HC.out w' hb))) N1 N2
  rw [← hq.out]
  clear hq N1 N2 HR HC hr
  go_enter Try.func53, Try.ntmps53
  go_wp2_with fail
  refine HL.out.mono ?_
  rintro e w1 ⟨rfl, hb1⟩
  have hK := hK0.keep hb1
  clear HL
  obtain ⟨s0, s1, s2, s3, s4, s5, s6, s7, s8⟩ := hK.box.head.four
  obtain ⟨r0, r1, r2, r3, r4, r5, r6, r7, r8⟩ := hK.box.tail.head.four
  obtain ⟨b0, b1, b2, b3, b4, b5, b6, b7, b8⟩ := hK.box.tail.tail.head.four
  obtain ⟨a0, a1, a2, a3, a4, a5, a6, a7, a8⟩ := hK.box.tail.tail.tail.head.four
  cases q
  · have e0 : ∀ a, lv false a = V0 := fun a => rfl
    simp only [e0]
    go_wp2_with fail
    exact bodyPost_ret (v := .tuple #[V0, V0, .bool false, N 0]) (by simp [results, Try.results53, go_sem, s0, s1, s2, s3, r0, r1, r2, r3]) rfl ⟨rfl, ((hK.set4 1 rfl).set4 0 rfl).bel⟩
  · have e0 : ∀ a, lv true a = a := fun a => rfl
    simp only [e0]
    go_wp2_with fail
    exact bodyPost_ret (v := .tuple #[Vl x y z t, Vl x' y' z' t', .bool true, N 0]) (by simp [results, Try.results53, go_sem, s0, s1, s2, s3, r0, r1, r2, r3]) rfl ⟨rfl, ((hK.set4 1 rfl).set4 0 rfl).bel⟩

set_option maxRecDepth 100000 in
set_option maxHeartbeats 4000000 in
theorem calcNotLess_wrong {v m l g v' m' l' g' : BitVec 64} (hr : Hid ((valB v m l g && valB v' m' l' g') = false)) (w : World) :
    Calls Try.prog 54 #[Vl v m l g, Vl v' m' l' g'] w fun e w' => e = .returned (.tuple #[V0, V0, .bool false, N 1]) ∧ Below w.heap.size w w' := by
  go_enter Try.func54, Try.ntmps54
  go_wp2_with fail
  refine (leave_wrongNotLess hr _).mono ?_
  rintro e w1 ⟨rfl, hb1⟩
  have hK := (((((Kp.start w).add4 _ _ _ _ _).add4 _ _ _ _ _).add4 _ _ _ _ _).add4 _ _ _ _ _).keep hb1
  simp only [World.size_alloc] at hK
  obtain ⟨s0, s1, s2, s3, s4, s5, s6, s7, s8⟩ := hK.box.head.four
  obtain ⟨r0, r1, r2, r3, r4, r5, r6, r7, r8⟩ := hK.box.tail.head.four
  obtain ⟨b0, b1, b2, b3, b4, b5, b6, b7, b8⟩ := hK.box.tail.tail.head.four
  obtain ⟨a0, a1, a2, a3, a4, a5, a6, a7, a8⟩ := hK.box.tail.tail.tail.head.four
  go_wp2_with fail
  exact bodyPost_ret (v := .tuple #[V0, V0, .bool false, N 1]) (by simp [results, Try.results54, go_sem, s0, s1, s2, s3, r0, r1, r2, r3]) rfl ⟨rfl, ((hK.set4 1 rfl).set4 0 rfl).bel⟩
set_option maxRecDepth 100000 in
set_option maxHeartbeats 4000000 in
theorem calcNotLess_right {v m l g v' m' l' g' a b c d a' b' c' d' x y z t x' y' z' t' : BitVec 64} {may i1 i2 : Bool} {e1 e2 : Int} (hr : Hid ((valB v m l g && valB v' m' l' g') = true)) (w : World)
    (HR : Hid (∀ (B : Nat) w', Cap w' B (B + 1) v m l g v' m' l' g' → Calls Try.prog 98 #[PT B, PT (B + 1)] w' fun e w'' => e = .returned (.tuple #[Vl a b c d, Vl a' b' c' d', .bool may]) ∧ Below w'.heap.size w' w''))
    (N1 : Hid (∀ w, Calls Try.prog 31 #[Vl a b c d] w fun e w' => e = .returned (.tuple #[Vl x y z t, .bool i1, N e1]) ∧ Below w.heap.size w w'))
    (N2 : Hid (∀ w, Calls Try.prog 31 #[Vl a' b' c' d'] w fun e w' => e = .returned (.tuple #[Vl x' y' z' t', .bool i2, N e2]) ∧ Below w.heap.size w w')) :
    Calls Try.prog 54 #[Vl v m l g, Vl v' m' l' g'] w fun e w' => e = .returned (.tuple #[lv (may && (i1 && i2)) (Vl x y z t), lv (may && (i1 && i2)) (Vl x' y' z' t'), .bool (may && (i1 && i2)), N 0]) ∧ Below w.heap.size w w' := by
  have hK0 := ((((Kp.start w).add4 (U v) (U m) (U l) (U g) 49).add4 (U v') (U m') (U l') (U g') 49).add4 (.int .u64 0) (.int .u64 0) (.int .u64 0) (.int .u64 0) 49).add4 (.int .u64 0) (.int .u64 0) (.int .u64 0) (.int .u64 0) 49
  simp only [World.size_alloc] at hK0
  have HC : Hid (∀ w', Below ((((w.alloc (.cells #[U v, U m, U l, U g] 49)).alloc (.cells #[U v', U m', U l', U g'] 49)).alloc (.cells #[.int .u64 0, .int .u64 0, .int .u64 0, .int .u64 0] 49)).alloc (.cells #[.int .u64 0, .int .u64 0, .int .u64 0, .int .u64 0] 49)).heap.size ((((w.alloc (.cells #[U v, U m, U l, U g] 49)).alloc (.cells #[U v', U m', U l', U g'] 49)).alloc (.cells #[.int .u64 0, .int .u64 0, .int .u64 0, .int .u64 0] 49)).alloc (.cells #[.int .u64 0, .int .u64 0, .int .u64 0, .int .u64 0] 49)) w' → Cap w' w.heap.size (w.heap.size + 1) v m l g v' m' l' g') := by
    intro w' hb
    have hk := hK0.keep hb
    obtain ⟨b0, b1, b2, b3, _, _, _, _, b8⟩ := hk.box.tail.tail.head.four
    obtain ⟨a0, a1, a2, a3, _, _, _, _, a8⟩ := hk.box.tail.tail.tail.head.four
    exact ⟨a8, b8, a0, a1, a2, a3, b0, b1, b2, b3⟩
  obtain ⟨q, hq⟩ : ∃ q, Hid (q = (may && (i1 && i2))) := ⟨_, rfl⟩
  have HL : Hid (Calls Try.prog 91 #[Vl v m l g, Vl v' m' l' g', .func (.func 98) #[] #[PT w.heap.size, PT (w.heap.size + 1)]] ((((w.alloc (.cells #[U v, U m, U l, U g] 49)).alloc (.cells #[U v', U m', U l', U g'] 49)).alloc (.cells #[.int .u64 0, .int .u64 0, .int .u64 0, .int .u64 0] 49)).alloc (.cells #[.int .u64 0, .int .u64 0, .int .u64 0, .int .u64 0] 49)) fun e w' => e = .returned (.tuple #[lv q (Vl x y z t), lv q (Vl x' y' z' t'), .bool q, N 0]) ∧ Below ((((w.alloc (.cells #[U v, U m, U l, U g] 49)).alloc (.cells #[U v', U m', U l', U g'] 49)).alloc (.cells #[.int .u64 0, .int .u64 0, .int .u64 0, .int .u64 0] 49)).alloc (.cells #[.int .u64 0, .int .u64 0, .int .u64 0, .int .u64 0] 49)).heap.size ((((w.alloc (.cells #[U v, U m, U l, U g] 49)).alloc (.cells #[U v', U m', U l', U g'] 49)).alloc (.cells #[.int .u64 0, .int .u64 0, .int .u64 0, .int .u64 0] 49)).alloc (.cells #[.int .u64 0, .int .u64 0, .int .u64 0, .int .u64 0] 49)) w') := by
    show Calls _ _ _ _ _
    rw [hq.out]
    exact leave_NotLess hr _ (hid (fun w' hb => HR.out w.heap.size w' (HC.out w' hb))) N1 N2
  rw [← hq.out]
  clear hq N1 N2 HR HC hr
  go_enter Try.func54, Try.ntmps54
  go_wp2_with fail
  refine HL.out.mono ?_
  rintro e w1 ⟨rfl, hb1⟩
  have hK := hK0.keep hb1
  clear HL
  obtain ⟨s0, s1, s2, s3, s4, s5, s6, s7, s8⟩ := hK.box.head.four
  obtain ⟨r0, r1, r2, r3, r4, r5, r6, r7, r8⟩ := hK.box.tail.head.four
  obtain ⟨b0, b1, b2, b3, b4, b5, b6, b7, b8⟩ := hK.box.tail.tail.head.four
  obtain ⟨a0, a1, a2, a3, a4, a5, a6, a7, a8⟩ := hK.box.tail.tail.tail.head.four
  cases q
  · have e0 : ∀ a, lv false a = V0 := fun a => rfl
    simp only [e0]
    go_wp2_with fail
    exact bodyPost_ret (v := .tuple #[V0, V0, .bool false, N 0]) (by simp [results, Try.results54, go_sem, s0, s1, s2, s3, r0, r1, r2, r3]) rfl ⟨rfl, ((hK.set4 1 rfl).set4 0 rfl).bel⟩
  · have e0 : ∀ a, lv true a = a := fun a => rfl
    simp only [e0]
    go_wp2_with fail
    exact bodyPost_ret (v := .tuple #[Vl x y z t, Vl x' y' z' t', .bool true, N 0]) (by simp [results, Try.results54, go_sem, s0, s1, s2, s3, r0, r1, r2, r3]) rfl ⟨rfl, ((hK.set4 1 rfl).set4 0 rfl).bel⟩

end Go.Proofs.Ytkigmocchaikgaa

/- calcBegun: what must be in any case. -/
namespace Go.Proofs.Ytkigmocchaikgaa
open Go.RowKit Go.BigFrame
attribute [local go_sem] w_and w_or w_xor w_andNot w_and1 w_and63 w_add w_sub w_mul w_sub1 w_add1 w_shl w_shl1 w_shr c_beq c_bne c_beq0 c_bne0 c_beq1 c_bne1 wrap_nv

set_option maxRecDepth 100000 in
set_option maxHeartbeats 1000000 in
theorem bytes2 (w : World) : Calls Try.prog 48 #[N 2] w fun e w' => e = .returned (.tuple #[J4 0 65535 0 65535, N 0]) ∧ Below w.heap.size w w' := by
  go_enter Try.func48, Try.ntmps48
  go_wp2_with fail
  exact bodyPost_ret (v := .tuple #[J4 0 65535 0 65535, N 0]) (by simp [results, Try.results48, go_sem]) rfl ⟨rfl, (by repeat (first | exact Below.refl _ _ | assumption | refine below_drewN ?_ _ | refine Below.drew ?_ | refine Below.alloc ?_ (by first | exact Nat.le_refl _ | (simp; done) | (simp; omega) | omega) _ | refine Below.setCell ?_ (by first | exact Nat.le_refl _ | (simp; done) | (simp; omega) | omega) _ | refine Below.trans ?_ (Below.mono (by assumption) (by first | exact Nat.le_refl _ | (simp; done) | (simp; omega) | omega))))⟩
theorem cb0 : (valB 1#64 14#64 3#64 9#64 && valB 1#64 0#64 1#64 1#64) = true ∧ (valB 1#64 14#64 3#64 9#64 && valB 6#64 0#64 6#64 6#64) = true ∧ (valB 1#64 14#64 3#64 9#64 && valB 4#64 0#64 4#64 4#64) = true := by decide +kernel
theorem cb1 : rk 2 1#64 14#64 3#64 9#64 1#64 0#64 1#64 1#64 = (0#64, 30#64, 4#64, 10#64) := by decide +kernel
theorem cb2 : normOk 0#64 30#64 4#64 10#64 = true ∧ nLo 0#64 30#64 4#64 = 4#64 ∧ nHi 0#64 30#64 10#64 = 10#64 ∧ nV 0#64 30#64 4#64 10#64 = 0#64 ∧ nM 30#64 4#64 10#64 = 14#64 := by decide +kernel
theorem cc1 (w : World) : Calls Try.prog 46 #[N 2, J4 1 14 3 9, J4 1 0 1 1] w fun e w' => e = .returned (.tuple #[J4 0 14 4 10, N 0]) ∧ Below w.heap.size w w' := by
  have h := calcTwo_yes (op := 2) (v := 1#64) (m := 14#64) (l := 3#64) (g := 9#64) (v' := 1#64) (m' := 0#64) (l' := 1#64) (g' := 1#64) cb0.1 (hid (by decide)) (show _ = true by rw [cb1]; decide) (show _ = true by rw [cb1]; exact cb2.1) w
  rw [cb1] at h
  dsimp only at h
  rw [cb2.2.1, cb2.2.2.1, cb2.2.2.2.1, cb2.2.2.2.2] at h
  exact h
theorem cb3 : bmax 3#64 3#64 = 3#64 ∧ bmin 9#64 (bsub 6#64 one) = 5#64 ∧ bmax 6#64 (badd 3#64 one) = 6#64 ∧ bmin 6#64 6#64 = 6#64 := by decide +kernel
theorem cb4 : normOk 1#64 14#64 3#64 5#64 = true ∧ nLo 1#64 14#64 3#64 = 3#64 ∧ nHi 1#64 14#64 5#64 = 5#64 ∧ nV 1#64 14#64 3#64 5#64 = 1#64 ∧ nM 14#64 3#64 5#64 = 6#64 := by decide +kernel
theorem cb5 : normOk 6#64 0#64 6#64 6#64 = true ∧ nLo 6#64 0#64 6#64 = 6#64 ∧ nHi 6#64 0#64 6#64 = 6#64 ∧ nV 6#64 0#64 6#64 6#64 = 6#64 ∧ nM 0#64 6#64 6#64 = 0#64 := by decide +kernel
theorem cn1 (w : World) : Calls Try.prog 31 #[Vl 1#64 14#64 3#64 5#64] w fun e w' => e = .returned (.tuple #[Vl 1#64 6#64 3#64 5#64, .bool true, N 0]) ∧ Below w.heap.size w w' := by
  have h := norm_yes (v := 1#64) (m := 14#64) (l := 3#64) (h := 5#64) (show _ = true by decide) cb4.1 w
  rw [cb4.2.1, cb4.2.2.1, cb4.2.2.2.1, cb4.2.2.2.2] at h; exact h
theorem cn2 (w : World) : Calls Try.prog 31 #[Vl 6#64 0#64 6#64 6#64] w fun e w' => e = .returned (.tuple #[Vl 6#64 0#64 6#64 6#64, .bool true, N 0]) ∧ Below w.heap.size w w' := by
  have h := norm_yes (v := 6#64) (m := 0#64) (l := 6#64) (h := 6#64) (show _ = true by decide) cb5.1 w
  rw [cb5.2.1, cb5.2.2.1, cb5.2.2.2.1, cb5.2.2.2.2] at h; exact h
theorem cc2 (w : World) : Calls Try.prog 53 #[J4 1 14 3 9, J4 6 0 6 6] w fun e w' => e = .returned (.tuple #[J4 1 6 3 5, J4 6 0 6 6, .bool true, N 0]) ∧ Below w.heap.size w w' := by
  exact calcLess_right (v := 1#64) (m := 14#64) (l := 3#64) (g := 9#64) (v' := 6#64) (m' := 0#64) (l' := 6#64) (g' := 6#64) (may := true) (i1 := true) (i2 := true) cb0.2.1 w
    (fun B w' hc => by
      have h := less1_yes (w := w') (b1 := B + 1) (b2 := B) hc (by decide) (by decide)
      rw [cb3.1, cb3.2.1, cb3.2.2.1, cb3.2.2.2] at h
      exact h) (fun w => cn1 w) (fun w => cn2 w)
theorem cc3 (w : World) : Calls Try.prog 51 #[J4 1 14 3 9, J4 4 0 4 4] w fun e w' => e = .returned (.tuple #[J4 0 0 0 0, J4 0 0 0 0, .bool false, N 0]) ∧ Below w.heap.size w w' := by
  exact calcEqual_right (v := 1#64) (m := 14#64) (l := 3#64) (g := 9#64) (v' := 4#64) (m' := 0#64) (l' := 4#64) (g' := 4#64) (may := false) (i1 := false) (i2 := false) cb0.2.2 w
    (fun B w' hc => equal1_is (kv := zero) (km := zero) (lo := 4#64) (hi := 4#64) hc (hid (fun w => meet_no (show _ = true by decide) (by decide) w)) (show bmax 3#64 4#64 = 4#64 by decide +kernel) (show bmin 9#64 4#64 = 4#64 by decide +kernel))
    (hid (fun w => norm_none (show _ = true by decide) (show _ = false by decide +kernel) w)) (hid (fun w => norm_none (show _ = true by decide) (show _ = false by decide +kernel) w))
theorem co (n : BitVec 64) (w : World) : Calls Try.prog 40 #[U n] w fun e w' => e = .returned (Vl n zero n n) ∧ Below w.heap.size w w' := valOf_any n w
theorem co1 (w : World) : Calls Try.prog 40 #[I 1] w fun e w' => e = .returned (J4 1 0 1 1) ∧ Below w.heap.size w w' := valOf_any 1#64 w
theorem co4 (w : World) : Calls Try.prog 40 #[I 4] w fun e w' => e = .returned (J4 4 0 4 4) ∧ Below w.heap.size w w' := valOf_any 4#64 w
theorem co6 (w : World) : Calls Try.prog 40 #[I 6] w fun e w' => e = .returned (J4 6 0 6 6) ∧ Below w.heap.size w w' := valOf_any 6#64 w

set_option maxRecDepth 100000 in
set_option maxHeartbeats 8000000 in
theorem calcBegun_any (w : World) : Calls Try.prog 50 #[] w fun e w' => e = .returned (.bool true) ∧ Below w.heap.size w w' := by
  go_enter Try.func50, Try.ntmps50
  go_wp2_with fail
  refine (odd_any _).mono ?_
  rintro e w1 ⟨rfl, hb1⟩
  go_wp2_with fail
  refine (co1 _).mono ?_
  rintro e w2 ⟨rfl, hb2⟩
  go_wp2_with fail
  refine (cc1 _).mono ?_
  rintro e w3 ⟨rfl, hb3⟩
  have hB3 := ((((Kp.start w).keep hb1).keep hb2).keep hb3).add4 (I 0) (I 14) (I 4) (I 10) 49
  go_wp2_with fail
  refine (odd_any _).mono ?_
  rintro e w4 ⟨rfl, hb4⟩
  go_wp2_with fail
  refine (co6 _).mono ?_
  rintro e w5 ⟨rfl, hb5⟩
  go_wp2_with fail
  refine (cc2 _).mono ?_
  rintro e w8 ⟨rfl, hb8⟩
  have hB8 := ((((hB3.keep hb4).keep hb5).keep hb8).add4 (I 1) (I 6) (I 3) (I 5) 49).add4 (I 6) (I 0) (I 6) (I 6) 49
  simp only [World.size_alloc] at hB8
  go_wp2_with fail
  refine (odd_any _).mono ?_
  rintro e w9 ⟨rfl, hb9⟩
  go_wp2_with fail
  refine (co4 _).mono ?_
  rintro e w10 ⟨rfl, hb10⟩
  go_wp2_with fail
  refine (cc3 _).mono ?_
  rintro e w11 ⟨rfl, hb11⟩
  have hB11 := ((((hB8.keep hb9).keep hb10).keep hb11).add4 (I 0) (I 0) (I 0) (I 0) 49).add4 (I 0) (I 0) (I 0) (I 0) 49
  simp only [World.size_alloc] at hB11
  go_wp2_with fail
  refine (bytes2 _).mono ?_
  rintro e w12 ⟨rfl, hb12⟩
  have hB12 := (hB11.keep hb12).add4 (I 0) (I 65535) (I 0) (I 65535) 49
  have k0 : bits .and .u64 0 1 = 0 := by decide
  have k14 : bits .and .u64 14 1 = 0 := by decide
  go_upto_region 5 with fail
  clear hb1 hb2 hb3 hb4 hb5 hb8 hb9 hb10 hb11 hb12 hB3 hB8 hB11
  refine region_class (fun w' => ∃ n : Cl w [(w12.heap.size, [I 0, I 65535, I 0, I 65535]), (w11.heap.size + 1, [I 0, I 0, I 0, I 0]), (w11.heap.size, [I 0, I 0, I 0, I 0]), (w8.heap.size + 1, [I 6, I 0, I 6, I 6]), (w8.heap.size, [I 1, I 6, I 3, I 5]), (w3.heap.size, [I 0, I 14, I 4, I 10])], w' = n.val) (by kernel_rfl) (by kernel_rfl) (Cl.start hB12) ?_
  haveI : Nonempty (Cl w [(w12.heap.size, [I 0, I 65535, I 0, I 65535]), (w11.heap.size + 1, [I 0, I 0, I 0, I 0]), (w11.heap.size, [I 0, I 0, I 0, I 0]), (w8.heap.size + 1, [I 6, I 0, I 6, I 6]), (w8.heap.size, [I 1, I 6, I 3, I 5]), (w3.heap.size, [I 0, I 14, I 4, I 10])]) := Cl.some hB12
  have hq0x0 : ∀ n : Cl w [(w12.heap.size, [I 0, I 65535, I 0, I 65535]), (w11.heap.size + 1, [I 0, I 0, I 0, I 0]), (w11.heap.size, [I 0, I 0, I 0, I 0]), (w8.heap.size + 1, [I 6, I 0, I 6, I 6]), (w8.heap.size, [I 1, I 6, I 3, I 5]), (w3.heap.size, [I 0, I 14, I 4, I 10])], n.val.cell? ⟨w12.heap.size, 0, none⟩ = some (I 0) := fun n => (n.kp.box.head.four).1
  have hq0x1 : ∀ n : Cl w [(w12.heap.size, [I 0, I 65535, I 0, I 65535]), (w11.heap.size + 1, [I 0, I 0, I 0, I 0]), (w11.heap.size, [I 0, I 0, I 0, I 0]), (w8.heap.size + 1, [I 6, I 0, I 6, I 6]), (w8.heap.size, [I 1, I 6, I 3, I 5]), (w3.heap.size, [I 0, I 14, I 4, I 10])], n.val.cell? ⟨w12.heap.size, 1, none⟩ = some (I 65535) := fun n => (n.kp.box.head.four).2.1
  have hq0x2 : ∀ n : Cl w [(w12.heap.size, [I 0, I 65535, I 0, I 65535]), (w11.heap.size + 1, [I 0, I 0, I 0, I 0]), (w11.heap.size, [I 0, I 0, I 0, I 0]), (w8.heap.size + 1, [I 6, I 0, I 6, I 6]), (w8.heap.size, [I 1, I 6, I 3, I 5]), (w3.heap.size, [I 0, I 14, I 4, I 10])], n.val.cell? ⟨w12.heap.size, 2, none⟩ = some (I 0) := fun n => (n.kp.box.head.four).2.2.1
  have hq0x3 : ∀ n : Cl w [(w12.heap.size, [I 0, I 65535, I 0, I 65535]), (w11.heap.size + 1, [I 0, I 0, I 0, I 0]), (w11.heap.size, [I 0, I 0, I 0, I 0]), (w8.heap.size + 1, [I 6, I 0, I 6, I 6]), (w8.heap.size, [I 1, I 6, I 3, I 5]), (w3.heap.size, [I 0, I 14, I 4, I 10])], n.val.cell? ⟨w12.heap.size, 3, none⟩ = some (I 65535) := fun n => (n.kp.box.head.four).2.2.2.1
  have hq3x0 : ∀ n : Cl w [(w12.heap.size, [I 0, I 65535, I 0, I 65535]), (w11.heap.size + 1, [I 0, I 0, I 0, I 0]), (w11.heap.size, [I 0, I 0, I 0, I 0]), (w8.heap.size + 1, [I 6, I 0, I 6, I 6]), (w8.heap.size, [I 1, I 6, I 3, I 5]), (w3.heap.size, [I 0, I 14, I 4, I 10])], n.val.cell? ⟨w8.heap.size + 1, 0, none⟩ = some (I 6) := fun n => (n.kp.box.tail.tail.tail.head.four).1
  have hq3x1 : ∀ n : Cl w [(w12.heap.size, [I 0, I 65535, I 0, I 65535]), (w11.heap.size + 1, [I 0, I 0, I 0, I 0]), (w11.heap.size, [I 0, I 0, I 0, I 0]), (w8.heap.size + 1, [I 6, I 0, I 6, I 6]), (w8.heap.size, [I 1, I 6, I 3, I 5]), (w3.heap.size, [I 0, I 14, I 4, I 10])], n.val.cell? ⟨w8.heap.size + 1, 1, none⟩ = some (I 0) := fun n => (n.kp.box.tail.tail.tail.head.four).2.1
  have hq3x2 : ∀ n : Cl w [(w12.heap.size, [I 0, I 65535, I 0, I 65535]), (w11.heap.size + 1, [I 0, I 0, I 0, I 0]), (w11.heap.size, [I 0, I 0, I 0, I 0]), (w8.heap.size + 1, [I 6, I 0, I 6, I 6]), (w8.heap.size, [I 1, I 6, I 3, I 5]), (w3.heap.size, [I 0, I 14, I 4, I 10])], n.val.cell? ⟨w8.heap.size + 1, 2, none⟩ = some (I 6) := fun n => (n.kp.box.tail.tail.tail.head.four).2.2.1
  have hq3x3 : ∀ n : Cl w [(w12.heap.size, [I 0, I 65535, I 0, I 65535]), (w11.heap.size + 1, [I 0, I 0, I 0, I 0]), (w11.heap.size, [I 0, I 0, I 0, I 0]), (w8.heap.size + 1, [I 6, I 0, I 6, I 6]), (w8.heap.size, [I 1, I 6, I 3, I 5]), (w3.heap.size, [I 0, I 14, I 4, I 10])], n.val.cell? ⟨w8.heap.size + 1, 3, none⟩ = some (I 6) := fun n => (n.kp.box.tail.tail.tail.head.four).2.2.2.1
  have hq4x0 : ∀ n : Cl w [(w12.heap.size, [I 0, I 65535, I 0, I 65535]), (w11.heap.size + 1, [I 0, I 0, I 0, I 0]), (w11.heap.size, [I 0, I 0, I 0, I 0]), (w8.heap.size + 1, [I 6, I 0, I 6, I 6]), (w8.heap.size, [I 1, I 6, I 3, I 5]), (w3.heap.size, [I 0, I 14, I 4, I 10])], n.val.cell? ⟨w8.heap.size, 0, none⟩ = some (I 1) := fun n => (n.kp.box.tail.tail.tail.tail.head.four).1
  have hq4x1 : ∀ n : Cl w [(w12.heap.size, [I 0, I 65535, I 0, I 65535]), (w11.heap.size + 1, [I 0, I 0, I 0, I 0]), (w11.heap.size, [I 0, I 0, I 0, I 0]), (w8.heap.size + 1, [I 6, I 0, I 6, I 6]), (w8.heap.size, [I 1, I 6, I 3, I 5]), (w3.heap.size, [I 0, I 14, I 4, I 10])], n.val.cell? ⟨w8.heap.size, 1, none⟩ = some (I 6) := fun n => (n.kp.box.tail.tail.tail.tail.head.four).2.1
  have hq4x2 : ∀ n : Cl w [(w12.heap.size, [I 0, I 65535, I 0, I 65535]), (w11.heap.size + 1, [I 0, I 0, I 0, I 0]), (w11.heap.size, [I 0, I 0, I 0, I 0]), (w8.heap.size + 1, [I 6, I 0, I 6, I 6]), (w8.heap.size, [I 1, I 6, I 3, I 5]), (w3.heap.size, [I 0, I 14, I 4, I 10])], n.val.cell? ⟨w8.heap.size, 2, none⟩ = some (I 3) := fun n => (n.kp.box.tail.tail.tail.tail.head.four).2.2.1
  have hq4x3 : ∀ n : Cl w [(w12.heap.size, [I 0, I 65535, I 0, I 65535]), (w11.heap.size + 1, [I 0, I 0, I 0, I 0]), (w11.heap.size, [I 0, I 0, I 0, I 0]), (w8.heap.size + 1, [I 6, I 0, I 6, I 6]), (w8.heap.size, [I 1, I 6, I 3, I 5]), (w3.heap.size, [I 0, I 14, I 4, I 10])], n.val.cell? ⟨w8.heap.size, 3, none⟩ = some (I 5) := fun n => (n.kp.box.tail.tail.tail.tail.head.four).2.2.2.1
  have hq5x0 : ∀ n : Cl w [(w12.heap.size, [I 0, I 65535, I 0, I 65535]), (w11.heap.size + 1, [I 0, I 0, I 0, I 0]), (w11.heap.size, [I 0, I 0, I 0, I 0]), (w8.heap.size + 1, [I 6, I 0, I 6, I 6]), (w8.heap.size, [I 1, I 6, I 3, I 5]), (w3.heap.size, [I 0, I 14, I 4, I 10])], n.val.cell? ⟨w3.heap.size, 0, none⟩ = some (I 0) := fun n => (n.kp.box.tail.tail.tail.tail.tail.head.four).1
  have hq5x1 : ∀ n : Cl w [(w12.heap.size, [I 0, I 65535, I 0, I 65535]), (w11.heap.size + 1, [I 0, I 0, I 0, I 0]), (w11.heap.size, [I 0, I 0, I 0, I 0]), (w8.heap.size + 1, [I 6, I 0, I 6, I 6]), (w8.heap.size, [I 1, I 6, I 3, I 5]), (w3.heap.size, [I 0, I 14, I 4, I 10])], n.val.cell? ⟨w3.heap.size, 1, none⟩ = some (I 14) := fun n => (n.kp.box.tail.tail.tail.tail.tail.head.four).2.1
  have hq5x2 : ∀ n : Cl w [(w12.heap.size, [I 0, I 65535, I 0, I 65535]), (w11.heap.size + 1, [I 0, I 0, I 0, I 0]), (w11.heap.size, [I 0, I 0, I 0, I 0]), (w8.heap.size + 1, [I 6, I 0, I 6, I 6]), (w8.heap.size, [I 1, I 6, I 3, I 5]), (w3.heap.size, [I 0, I 14, I 4, I 10])], n.val.cell? ⟨w3.heap.size, 2, none⟩ = some (I 4) := fun n => (n.kp.box.tail.tail.tail.tail.tail.head.four).2.2.1
  have hq5x3 : ∀ n : Cl w [(w12.heap.size, [I 0, I 65535, I 0, I 65535]), (w11.heap.size + 1, [I 0, I 0, I 0, I 0]), (w11.heap.size, [I 0, I 0, I 0, I 0]), (w8.heap.size + 1, [I 6, I 0, I 6, I 6]), (w8.heap.size, [I 1, I 6, I 3, I 5]), (w3.heap.size, [I 0, I 14, I 4, I 10])], n.val.cell? ⟨w3.heap.size, 3, none⟩ = some (I 10) := fun n => (n.kp.box.tail.tail.tail.tail.tail.head.four).2.2.2.1
  repeat (go_big_quiet_step (first | (go_at_call 40; exact Cl.of (co6 _))))
  refine wpQuiet_nil ?_
  rintro _ ⟨⟨wq, hq⟩, rfl⟩
  go_wp2_with fail
  go_ret
  exact ⟨rfl, hq.bel⟩

end Go.Proofs.Ytkigmocchaikgaa

/- CalcSound: what the program answers of two that have x and y. -/
namespace Go.Proofs.Ytkigmocchaikgaa
open Go.RowKit

theorem norm_any {a b : BitVec 64} (hr : RtB a b) (c d : BitVec 64) : ∃ x y z t i,
    Hid (∀ w, Calls Try.prog 31 #[Vl a b c d] w fun e w' => e = .returned (.tuple #[Vl x y z t, .bool i, N 0]) ∧ Below w.heap.size w w')
    ∧ ∀ u, rawV a b c d u = true → i = true ∧ hasV x y z t u = true := by
  have hz := (rt_iff a b).2 hr
  cases ho : normOk a b c d
  · refine ⟨zero, zero, zero, zero, false, hid (fun w => norm_none hz ho w), fun u hu => ?_⟩
    have := (raw_norm hr hu).1
    rw [ho] at this; cases this
  · exact ⟨_, _, _, _, true, hid (fun w => norm_yes hz ho w), fun u hu => ⟨rfl, (raw_norm hr hu).2⟩⟩
theorem lv_form (p : Bool) (a b c d : BitVec 64) : ∃ a' b' c' d', lv p (Vl a b c d) = Vl a' b' c' d' ∧ (p = true → a' = a ∧ b' = b ∧ c' = c ∧ d' = d) := by
  cases p
  · exact ⟨zero, zero, zero, zero, rfl, fun h => by cases h⟩
  · exact ⟨a, b, c, d, rfl, fun _ => ⟨rfl, rfl, rfl, rfl⟩⟩
/- two that are left, in one form -/
def Left (f : Nat) (v m l g v' m' l' g' x y : BitVec 64) (so : Prop) : Prop := ∃ a b c d a' b' c' d' q,
  Hid (∀ w, Calls Try.prog f #[Vl v m l g, Vl v' m' l' g'] w fun e w' => e = .returned (.tuple #[Vl a b c d, Vl a' b' c' d', .bool q, N 0]) ∧ Below w.heap.size w w')
  ∧ Hid (so → q = true ∧ hasV a b c d x = true ∧ hasV a' b' c' d' y = true)
theorem Left.of {f : Nat} {v m l g v' m' l' g' x y a b c d a' b' c' d' : BitVec 64} {so : Prop} {q may i1 i2 : Bool} (hq : q = (may && (i1 && i2)))
    (h : ∀ w, Calls Try.prog f #[Vl v m l g, Vl v' m' l' g'] w fun e w' => e = .returned (.tuple #[lv q (Vl a b c d), lv q (Vl a' b' c' d'), .bool q, N 0]) ∧ Below w.heap.size w w')
    (hs : so → may = true ∧ (i1 = true ∧ hasV a b c d x = true) ∧ (i2 = true ∧ hasV a' b' c' d' y = true)) : Left f v m l g v' m' l' g' x y so := by
  obtain ⟨p1, p2, p3, p4, e1, k1⟩ := lv_form q a b c d
  obtain ⟨q1, q2, q3, q4, e2, k2⟩ := lv_form q a' b' c' d'
  refine ⟨p1, p2, p3, p4, q1, q2, q3, q4, q, hid (fun w => by have := h w; rw [e1, e2] at this; exact this), fun hso => ?_⟩
  obtain ⟨hm, ⟨h1, g1⟩, ⟨h2, g2⟩⟩ := hs hso
  have hqt : q = true := by rw [hq, hm, h1, h2]; rfl
  obtain ⟨r1, r2, r3, r4⟩ := k1 hqt
  obtain ⟨t1, t2, t3, t4⟩ := k2 hqt
  rw [r1, r2, r3, r4, t1, t2, t3, t4]
  exact ⟨hqt, g1, g2⟩

theorem both_val {v m l g v' m' l' g' x y : BitVec 64} (hx : hasV v m l g x = true) (hy : hasV v' m' l' g' y = true) : (valB v m l g && valB v' m' l' g') = true := by
  rw [(has_facts hx).1, (has_facts hy).1]; rfl
theorem cs_equal {v m l g v' m' l' g' x y : BitVec 64} (hx : hasV v m l g x = true) (hy : hasV v' m' l' g' y = true) : Left 51 v m l g v' m' l' g' x y (x = y) := by
  have r1 := (has_facts hx).2.1
  have r2 := (has_facts hy).2.1
  have hb := both_val hx hy
  cases hm : eqb (bandn (bxor v v') (bor m m')) zero
  · obtain ⟨p1, p2, p3, p4, i, N1, _⟩ := norm_any (zero_rt zero) (bmax l l') (bmin g g')
    refine Left.of (q := false && (i && i)) rfl (fun w => calcEqual_right hb w (hid (fun B w' hc => equal1_is hc (hid (fun w => meet_no (both_right r1 r2) hm w)) rfl rfl)) N1 N1) fun hso => ?_
    subst hso
    have := (left_equal hx hy).1
    rw [hm] at this; cases this
  · have hrt : RtB (bor v v') (band m m') := by
      intro j
      have h3 := r1 j; have h4 := r2 j
      rw [bit_or, bit_and']
      revert h3 h4
      cases bit v j <;> cases bit m j <;> cases bit v' j <;> cases bit m' j <;> simp
    obtain ⟨p1, p2, p3, p4, i, N1, n1⟩ := norm_any hrt (bmax l l') (bmin g g')
    refine Left.of (q := true && (i && i)) rfl (fun w => calcEqual_right hb w (hid (fun B w' hc => equal1_is hc (hid (fun w => meet_ok (both_right r1 r2) hm w)) rfl rfl)) N1 N1) fun hso => ?_
    subst hso
    exact ⟨rfl, n1 _ (left_equal hx hy).2.2, n1 _ (left_equal hx hy).2.2⟩
theorem cs_other {v m l g v' m' l' g' x y : BitVec 64} (hx : hasV v m l g x = true) (hy : hasV v' m' l' g' y = true) : Left 52 v m l g v' m' l' g' x y (x ≠ y) := by
  have r1 := (has_facts hx).2.1
  have r2 := (has_facts hy).2.1
  have hb := both_val hx hy
  obtain ⟨p1, p2, p3, p4, i, N1, n1⟩ := norm_any r1 (woL l l' g') (woH l g l' g')
  obtain ⟨s1, s2, s3, s4, k, N2, n2⟩ := norm_any r2 (woL l' l g) (woH l' g' l g)
  exact Left.of rfl (fun w => calcOther_right hb w (hid (fun B w' hc => other1_is hc rfl)) N1 N2) fun hso =>
    ⟨by rw [may_other hx hy hso]; rfl, n1 _ (left_other hx hy hso), n2 _ (left_other hy hx fun e => hso e.symm)⟩
theorem cs_less {v m l g v' m' l' g' x y : BitVec 64} (hx : hasV v m l g x = true) (hy : hasV v' m' l' g' y = true) : Left 53 v m l g v' m' l' g' x y (nv x < nv y) := by
  have r1 := (has_facts hx).2.1
  have r2 := (has_facts hy).2.1
  have hb := both_val hx hy
  cases hn : (eqb g' zero || eqb l top)
  · rw [Bool.or_eq_false_iff] at hn
    obtain ⟨p1, p2, p3, p4, i, N1, n1⟩ := norm_any r1 (bmax l l) (bmin g (bsub g' one))
    obtain ⟨s1, s2, s3, s4, k, N2, n2⟩ := norm_any r2 (bmax l' (badd l one)) (bmin g' g')
    exact Left.of rfl (fun w => calcLess_right hb w (hid (fun B w' hc => less1_yes hc hn.1 hn.2)) N1 N2) fun hso =>
      ⟨rfl, n1 _ (left_less hx hy hso).2.2.1, n2 _ (left_less hx hy hso).2.2.2⟩
  · obtain ⟨p1, p2, p3, p4, i, N1, n1⟩ := norm_any r1 l g
    obtain ⟨s1, s2, s3, s4, k, N2, n2⟩ := norm_any r2 l' g'
    refine Left.of rfl (fun w => calcLess_right hb w (hid (fun B w' hc => less1_no hc hn)) N1 N2) fun hso => ?_
    exfalso
    have h1 := (left_less hx hy hso).1
    have h2 := (left_less hx hy hso).2.1
    rw [h1, h2] at hn; cases hn
theorem cs_notLess {v m l g v' m' l' g' x y : BitVec 64} (hx : hasV v m l g x = true) (hy : hasV v' m' l' g' y = true) : Left 54 v m l g v' m' l' g' x y (nv y ≤ nv x) := by
  have r1 := (has_facts hx).2.1
  have r2 := (has_facts hy).2.1
  have hb := both_val hx hy
  obtain ⟨p1, p2, p3, p4, i, N1, n1⟩ := norm_any r1 (bmax l l') (bmin g g)
  obtain ⟨s1, s2, s3, s4, k, N2, n2⟩ := norm_any r2 (bmax l' l') (bmin g' g)
  exact Left.of rfl (fun w => calcNotLess_right hb w (hid (fun B w' hc => notLess1_is hc)) N1 N2) fun hso =>
    ⟨rfl, n1 _ (left_notLess hx hy hso).1, n2 _ (left_notLess hx hy hso).2⟩
theorem cs_two (op : Int) {v m l g v' m' l' g' x y : BitVec 64} (hx : hasV v m l g x = true) (hy : hasV v' m' l' g' y = true) : ∃ a b c d e,
    Hid (∀ w, Calls Try.prog 46 #[N op, Vl v m l g, Vl v' m' l' g'] w fun o w' => o = .returned (.tuple #[Vl a b c d, N e]) ∧ Below w.heap.size w w')
    ∧ Hid (e = 4 ∨ (e = 0 ∧ ∃ z, Hid (∀ w, Calls Try.prog 30 #[N op, U x, U y] w fun o w' => o = .returned (U z) ∧ Below w.heap.size w w') ∧ Hid (hasV a b c d z = true) ∧ Hid (valB a b c d = true))) := by
  have hb := both_val hx hy
  by_cases hop : 2 ≤ op ∧ op ≤ 9
  · obtain ⟨hr, hw⟩ := rk_sound hop hx hy
    have hn := raw_norm hr hw
    refine ⟨_, _, _, _, 0, hid (fun w => calcTwo_yes hb hop ((rt_iff _ _).2 hr) hn.1 w), Or.inr ⟨rfl, numN op x y, ?_, hn.2, (has_facts hn.2).1⟩⟩
    intro w
    by_cases h27 : 2 ≤ op ∧ op ≤ 7
    · have e : numN op x y = numB op x y := by unfold numN; rw [if_neg (by omega), if_pos h27]
      rw [e]; exact number_two h27 x y w
    · by_cases h8 : op = 8
      · subst h8
        have e : numN 8 x y = bshl x (six y) := by unfold numN; rw [if_neg (by decide), if_neg (by decide), if_pos rfl]
        rw [e]; exact number_shl x y w
      · have h9 : op = 9 := by omega
        subst h9
        have e : numN 9 x y = bshr x (six y) := by unfold numN; rw [if_neg (by decide), if_neg (by decide), if_neg (by decide)]
        rw [e]; exact number_shr x y w
  · exact ⟨zero, zero, zero, zero, 4, hid (fun w => calcTwo_kind (hid (by omega)) hb w), Or.inl rfl⟩

end Go.Proofs.Ytkigmocchaikgaa

/- CalcSound, walked. (Written by gen_l6.py.) -/
namespace Go.Proofs.Ytkigmocchaikgaa
open Go.RowKit Go.BigFrame
attribute [local go_sem] w_and w_or w_xor w_andNot w_and1 w_and63 w_add w_sub w_mul w_sub1 w_add1 w_shl w_shl1 w_shr c_beq c_bne c_beq0 c_bne0 c_beq1 c_bne1 wrap_nv
attribute [local go_sem] eqb_self

set_option maxRecDepth 100000 in
set_option maxHeartbeats 8000000 in
theorem calcSound_any (op : Int) (v m l g v' m' l' g' x y : BitVec 64) (w : World) :
    Calls Try.prog 10 #[N op, Vl v m l g, Vl v' m' l' g', U x, U y] w fun e w' => e = .returned (.bool true) ∧ Below w.heap.size w w' := by
  obtain ⟨p, P1⟩ : ∃ b, Hid (hasV v m l g x = b) := ⟨_, rfl⟩
  obtain ⟨q, Q1⟩ : ∃ b, Hid (hasV v' m' l' g' y = b) := ⟨_, rfl⟩
  cases p
  · go_enter Try.func10, Try.ntmps10
    go_wp2_with fail
    refine (hasVC P1.out _).mono ?_
    rintro e w1 ⟨rfl, hb1⟩
    have hK := (((Kp.start w).add4 _ _ _ _ _).add4 _ _ _ _ _).keep hb1
    go_wp2_with fail
    refine (calcBegun_any _).mono ?_
    rintro e w2 ⟨rfl, hb2⟩
    go_wp2_with fail
    go_ret
    exact ⟨rfl, (hK.keep hb2).bel⟩
  cases q
  · go_enter Try.func10, Try.ntmps10
    go_wp2_with fail
    refine (hasVC P1.out _).mono ?_
    rintro e w1 ⟨rfl, hb1⟩
    have hK := (((Kp.start w).add4 _ _ _ _ _).add4 _ _ _ _ _).keep hb1
    simp only [World.size_alloc] at hK
    obtain ⟨og0, og1, og2, og3, og4, og5, og6, og7, og8⟩ := hK.box.head.four
    obtain ⟨of0, of1, of2, of3, of4, of5, of6, of7, of8⟩ := hK.box.tail.head.four
    go_wp2_with fail
    refine (hasVC Q1.out _).mono ?_
    rintro e w2 ⟨rfl, hb2⟩
    go_wp2_with fail
    refine (calcBegun_any _).mono ?_
    rintro e w3 ⟨rfl, hb3⟩
    go_wp2_with fail
    go_ret
    exact ⟨rfl, ((hK.keep hb2).keep hb3).bel⟩
  obtain ⟨tt1, tt2, tt3, tt4, te, T1, T2⟩ := cs_two op P1.out Q1.out
  obtain ⟨aa1, aa2, aa3, aa4, bb1, bb2, bb3, bb4, q1, E1, E2⟩ := cs_equal P1.out Q1.out
  obtain ⟨cc1, cc2, cc3, cc4, dd1, dd2, dd3, dd4, q2, O1, O2⟩ := cs_other P1.out Q1.out
  obtain ⟨ii1, ii2, ii3, ii4, hh1, hh2, hh3, hh4, q3, L1, L2⟩ := cs_less P1.out Q1.out
  obtain ⟨kk1, kk2, kk3, kk4, ll1, ll2, ll3, ll4, q4, M1, M2⟩ := cs_notLess P1.out Q1.out
  go_enter Try.func10, Try.ntmps10
  go_wp2_with fail
  refine (hasVC P1.out _).mono ?_
  rintro e w1 ⟨rfl, hb1⟩
  have hK1 := (((Kp.start w).add4 _ _ _ _ _).add4 _ _ _ _ _).keep hb1
  simp only [World.size_alloc] at hK1
  obtain ⟨og0, og1, og2, og3, og4, og5, og6, og7, og8⟩ := hK1.box.head.four
  obtain ⟨of0, of1, of2, of3, of4, of5, of6, of7, of8⟩ := hK1.box.tail.head.four
  go_wp2_with fail
  refine (hasVC Q1.out _).mono ?_
  rintro e w2 ⟨rfl, hb2⟩
  have hK2 := hK1.keep hb2
  clear og0 og1 og2 og3 og4 og5 og6 og7 og8 of0 of1 of2 of3 of4 of5 of6 of7 of8
  obtain ⟨og0, og1, og2, og3, og4, og5, og6, og7, og8⟩ := hK2.box.head.four
  obtain ⟨of0, of1, of2, of3, of4, of5, of6, of7, of8⟩ := hK2.box.tail.head.four
  go_wp2_with fail
  refine (T1.out _).mono ?_
  rintro e w3 ⟨rfl, hb3⟩
  have hK3 := (hK2.keep hb3).add4 (U tt1) (U tt2) (U tt3) (U tt4) 49
  clear og0 og1 og2 og3 og4 og5 og6 og7 og8 of0 of1 of2 of3 of4 of5 of6 of7 of8
  go_upto_region 4 with fail
  clear hb1 hb2 hb3 hK1 hK2 T1 P1 Q1
  go_cut [61] (fun t wc => t = .bool false ∧ Kp w wc [(w3.heap.size, [U tt1, U tt2, U tt3, U tt4]), (w.heap.size + 1, [U v', U m', U l', U g']), (w.heap.size, [U v, U m, U l, U g])])
  case first =>
    as_aux_lemma =>
      clear E1 E2 O1 O2 L1 L2 M1 M2
      rcases T2.out with rfl | ⟨rfl, z, N1, N2, N3⟩
      · clear T2
        refine region_class (fun w' => ∃ n : Cl w [(w3.heap.size, [U tt1, U tt2, U tt3, U tt4]), (w.heap.size + 1, [U v', U m', U l', U g']), (w.heap.size, [U v, U m, U l, U g])], w' = n.val) (by kernel_rfl) (by kernel_rfl) (Cl.start hK3) ?_
        haveI : Nonempty (Cl w [(w3.heap.size, [U tt1, U tt2, U tt3, U tt4]), (w.heap.size + 1, [U v', U m', U l', U g']), (w.heap.size, [U v, U m, U l, U g])]) := Cl.some hK3
        have hq0x0 : ∀ n : Cl w [(w3.heap.size, [U tt1, U tt2, U tt3, U tt4]), (w.heap.size + 1, [U v', U m', U l', U g']), (w.heap.size, [U v, U m, U l, U g])], n.val.cell? ⟨w3.heap.size, 0, none⟩ = some (U tt1) := fun n => (n.kp.box.head.four).1
        have hq0x1 : ∀ n : Cl w [(w3.heap.size, [U tt1, U tt2, U tt3, U tt4]), (w.heap.size + 1, [U v', U m', U l', U g']), (w.heap.size, [U v, U m, U l, U g])], n.val.cell? ⟨w3.heap.size, 1, none⟩ = some (U tt2) := fun n => (n.kp.box.head.four).2.1
        have hq0x2 : ∀ n : Cl w [(w3.heap.size, [U tt1, U tt2, U tt3, U tt4]), (w.heap.size + 1, [U v', U m', U l', U g']), (w.heap.size, [U v, U m, U l, U g])], n.val.cell? ⟨w3.heap.size, 2, none⟩ = some (U tt3) := fun n => (n.kp.box.head.four).2.2.1
        have hq0x3 : ∀ n : Cl w [(w3.heap.size, [U tt1, U tt2, U tt3, U tt4]), (w.heap.size + 1, [U v', U m', U l', U g']), (w.heap.size, [U v, U m, U l, U g])], n.val.cell? ⟨w3.heap.size, 3, none⟩ = some (U tt4) := fun n => (n.kp.box.head.four).2.2.2.1
        repeat (go_big_quiet_step (fail))
        refine wpQuiet_nil ?_
        rintro _ ⟨⟨wq, hq⟩, rfl⟩
        go_wp2
        go_meet
        case rel => exact ⟨rfl, hq⟩
      · clear T2
        have k0 : (er true == 0) = true := rfl
        have k1 : (er true != 0) = false := rfl
        refine region_class (fun w' => ∃ n : Cl w [(w3.heap.size, [U tt1, U tt2, U tt3, U tt4]), (w.heap.size + 1, [U v', U m', U l', U g']), (w.heap.size, [U v, U m, U l, U g])], w' = n.val) (by kernel_rfl) (by kernel_rfl) (Cl.start hK3) ?_
        haveI : Nonempty (Cl w [(w3.heap.size, [U tt1, U tt2, U tt3, U tt4]), (w.heap.size + 1, [U v', U m', U l', U g']), (w.heap.size, [U v, U m, U l, U g])]) := Cl.some hK3
        have hq0x0 : ∀ n : Cl w [(w3.heap.size, [U tt1, U tt2, U tt3, U tt4]), (w.heap.size + 1, [U v', U m', U l', U g']), (w.heap.size, [U v, U m, U l, U g])], n.val.cell? ⟨w3.heap.size, 0, none⟩ = some (U tt1) := fun n => (n.kp.box.head.four).1
        have hq0x1 : ∀ n : Cl w [(w3.heap.size, [U tt1, U tt2, U tt3, U tt4]), (w.heap.size + 1, [U v', U m', U l', U g']), (w.heap.size, [U v, U m, U l, U g])], n.val.cell? ⟨w3.heap.size, 1, none⟩ = some (U tt2) := fun n => (n.kp.box.head.four).2.1
        have hq0x2 : ∀ n : Cl w [(w3.heap.size, [U tt1, U tt2, U tt3, U tt4]), (w.heap.size + 1, [U v', U m', U l', U g']), (w.heap.size, [U v, U m, U l, U g])], n.val.cell? ⟨w3.heap.size, 2, none⟩ = some (U tt3) := fun n => (n.kp.box.head.four).2.2.1
        have hq0x3 : ∀ n : Cl w [(w3.heap.size, [U tt1, U tt2, U tt3, U tt4]), (w.heap.size + 1, [U v', U m', U l', U g']), (w.heap.size, [U v, U m, U l, U g])], n.val.cell? ⟨w3.heap.size, 3, none⟩ = some (U tt4) := fun n => (n.kp.box.head.four).2.2.2.1
        repeat (go_big_quiet_step (first | (go_at_call 30; exact Cl.of (N1.out _)) | (go_at_call 38; exact Cl.of (hasVC N2.out _)) | (go_at_call 37; exact Cl.of (checkV N3.out _))))
        refine wpQuiet_nil ?_
        rintro _ ⟨⟨wq, hq⟩, rfl⟩
        go_wp2
        go_meet
        case rel => exact ⟨rfl, hq⟩
  case rest =>
  clear hK3 T2
  obtain ⟨rfl, hK1⟩ := hcut
  obtain ⟨oc0, oc1, oc2, oc3, oc4, oc5, oc6, oc7, oc8⟩ := hK1.box.head.four
  obtain ⟨og0, og1, og2, og3, og4, og5, og6, og7, og8⟩ := hK1.box.tail.head.four
  obtain ⟨of0, of1, of2, of3, of4, of5, of6, of7, of8⟩ := hK1.box.tail.tail.head.four
  go_wp2_with fail
  refine (E1.out _).mono ?_
  rintro e w4 ⟨rfl, hb4⟩
  have hK2 := hK1.keep hb4
  have hK3 := (hK2.add4 (U aa1) (U aa2) (U aa3) (U aa4) 49).add4 (U bb1) (U bb2) (U bb3) (U bb4) 49
  simp only [World.size_alloc] at hK3
  clear oc0 oc1 oc2 oc3 oc4 oc5 oc6 oc7 oc8 og0 og1 og2 og3 og4 og5 og6 og7 og8 of0 of1 of2 of3 of4 of5 of6 of7 of8
  go_upto_region 7 with fail
  obtain ⟨og0, og1, og2, og3, og4, og5, og6, og7, og8⟩ := hK3.box.tail.tail.tail.head.four
  obtain ⟨of0, of1, of2, of3, of4, of5, of6, of7, of8⟩ := hK3.box.tail.tail.tail.tail.head.four
  go_wp2_with fail
  refine (O1.out _).mono ?_
  rintro e w5 ⟨rfl, hb5⟩
  have hK4 := hK3.keep hb5
  clear og0 og1 og2 og3 og4 og5 og6 og7 og8 of0 of1 of2 of3 of4 of5 of6 of7 of8
  obtain ⟨oc0, oc1, oc2, oc3, oc4, oc5, oc6, oc7, oc8⟩ := hK4.box.tail.tail.head.four
  obtain ⟨og0, og1, og2, og3, og4, og5, og6, og7, og8⟩ := hK4.box.tail.tail.tail.head.four
  obtain ⟨of0, of1, of2, of3, of4, of5, of6, of7, of8⟩ := hK4.box.tail.tail.tail.tail.head.four
  have hK5 := (hK4.set4 (x := U cc1) (y := U cc2) (z := U cc3) (t := U cc4) 2 rfl).add4 (U dd1) (U dd2) (U dd3) (U dd4) 49
  simp only [World.size_setCell] at hK5
  go_upto_region 8 with fail
  clear oc0 oc1 oc2 oc3 oc4 oc5 oc6 oc7 oc8 og0 og1 og2 og3 og4 og5 og6 og7 og8 of0 of1 of2 of3 of4 of5 of6 of7 of8
  clear hb4 hb5 hK1 hK2 hK3 hK4 E1 O1
  obtain ⟨og0, og1, og2, og3, og4, og5, og6, og7, og8⟩ := hK5.box.tail.tail.tail.tail.head.four
  obtain ⟨of0, of1, of2, of3, of4, of5, of6, of7, of8⟩ := hK5.box.tail.tail.tail.tail.tail.head.four
  go_wp2_with fail
  refine (L1.out _).mono ?_
  rintro e w6 ⟨rfl, hb6⟩
  have hK6 := hK5.keep hb6
  have hK7 := (hK6.add4 (U ii1) (U ii2) (U ii3) (U ii4) 49).add4 (U hh1) (U hh2) (U hh3) (U hh4) 49
  simp only [World.size_alloc] at hK7
  clear og0 og1 og2 og3 og4 og5 og6 og7 og8 of0 of1 of2 of3 of4 of5 of6 of7 of8
  go_upto_region 9 with fail
  obtain ⟨og0, og1, og2, og3, og4, og5, og6, og7, og8⟩ := hK7.box.tail.tail.tail.tail.tail.tail.head.four
  obtain ⟨of0, of1, of2, of3, of4, of5, of6, of7, of8⟩ := hK7.box.tail.tail.tail.tail.tail.tail.tail.head.four
  go_wp2_with fail
  refine (M1.out _).mono ?_
  rintro e w7 ⟨rfl, hb7⟩
  have hK8 := hK7.keep hb7
  have hK9 := (hK8.add4 (U kk1) (U kk2) (U kk3) (U kk4) 49).add4 (U ll1) (U ll2) (U ll3) (U ll4) 49
  simp only [World.size_alloc] at hK9
  clear og0 og1 og2 og3 og4 og5 og6 og7 og8 of0 of1 of2 of3 of4 of5 of6 of7 of8
  clear hb6 hb7 hK5 hK6 hK7 hK8 L1 M1
  go_upto_region 12 with fail
  have hK1 : Kp w _ [(w7.heap.size + 1, [U ll1, U ll2, U ll3, U ll4]), (w7.heap.size, [U kk1, U kk2, U kk3, U kk4]), (w6.heap.size + 1, [U hh1, U hh2, U hh3, U hh4]), (w6.heap.size, [U ii1, U ii2, U ii3, U ii4]), (w5.heap.size, [U dd1, U dd2, U dd3, U dd4]), (w4.heap.size + 1, [U bb1, U bb2, U bb3, U bb4]), (w4.heap.size, [U aa1, U aa2, U aa3, U aa4]), (w3.heap.size, [U cc1, U cc2, U cc3, U cc4]), (w.heap.size + 1, [U v', U m', U l', U g']), (w.heap.size, [U v, U m, U l, U g])] := hK9
  clear hK9
  go_cut [143] (fun t wd => t = .bool false ∧ Kp w wd [(w7.heap.size + 1, [U ll1, U ll2, U ll3, U ll4]), (w7.heap.size, [U kk1, U kk2, U kk3, U kk4]), (w6.heap.size + 1, [U hh1, U hh2, U hh3, U hh4]), (w6.heap.size, [U ii1, U ii2, U ii3, U ii4]), (w5.heap.size, [U dd1, U dd2, U dd3, U dd4]), (w4.heap.size + 1, [U bb1, U bb2, U bb3, U bb4]), (w4.heap.size, [U aa1, U aa2, U aa3, U aa4]), (w3.heap.size, [U cc1, U cc2, U cc3, U cc4]), (w.heap.size + 1, [U v', U m', U l', U g']), (w.heap.size, [U v, U m, U l, U g])])
  case first =>
    as_aux_lemma =>
      clear L2 M2
      obtain ⟨od0, od1, od2, od3, od4, od5, od6, od7, od8⟩ := hK1.box.tail.tail.tail.tail.head.four
      obtain ⟨ob0, ob1, ob2, ob3, ob4, ob5, ob6, ob7, ob8⟩ := hK1.box.tail.tail.tail.tail.tail.head.four
      obtain ⟨oa0, oa1, oa2, oa3, oa4, oa5, oa6, oa7, oa8⟩ := hK1.box.tail.tail.tail.tail.tail.tail.head.four
      obtain ⟨oc0, oc1, oc2, oc3, oc4, oc5, oc6, oc7, oc8⟩ := hK1.box.tail.tail.tail.tail.tail.tail.tail.head.four
      cases he : eqb x y
      · obtain ⟨rfl, H1, H2⟩ := O2.out ((eqb_false _ _).1 he)
        have G1 : Hid _ := H1
        have G2 : Hid _ := H2
        clear O2 E2 H1 H2
        go_wp2_with fail
        refine (hasVC G1.out _).mono ?_
        rintro e w8 ⟨rfl, hb8⟩
        have hK2 := hK1.keep hb8
        clear od0 od1 od2 od3 od4 od5 od6 od7 od8 ob0 ob1 ob2 ob3 ob4 ob5 ob6 ob7 ob8 oa0 oa1 oa2 oa3 oa4 oa5 oa6 oa7 oa8 oc0 oc1 oc2 oc3 oc4 oc5 oc6 oc7 oc8
        obtain ⟨od0, od1, od2, od3, od4, od5, od6, od7, od8⟩ := hK2.box.tail.tail.tail.tail.head.four
        obtain ⟨ob0, ob1, ob2, ob3, ob4, ob5, ob6, ob7, ob8⟩ := hK2.box.tail.tail.tail.tail.tail.head.four
        obtain ⟨oa0, oa1, oa2, oa3, oa4, oa5, oa6, oa7, oa8⟩ := hK2.box.tail.tail.tail.tail.tail.tail.head.four
        obtain ⟨oc0, oc1, oc2, oc3, oc4, oc5, oc6, oc7, oc8⟩ := hK2.box.tail.tail.tail.tail.tail.tail.tail.head.four
        go_wp2_with fail
        refine (hasVC G2.out _).mono ?_
        rintro e w9 ⟨rfl, hb9⟩
        have hK3 := hK2.keep hb9
        go_wp2_with fail
        go_meet
        case rel => exact ⟨rfl, hK3⟩
      · obtain ⟨rfl, H1, H2⟩ := E2.out ((eqb_iff _ _).1 he)
        have G1 : Hid _ := H1
        have G2 : Hid _ := H2
        clear O2 E2 H1 H2
        go_wp2_with fail
        refine (hasVC G1.out _).mono ?_
        rintro e w8 ⟨rfl, hb8⟩
        have hK2 := hK1.keep hb8
        clear od0 od1 od2 od3 od4 od5 od6 od7 od8 ob0 ob1 ob2 ob3 ob4 ob5 ob6 ob7 ob8 oa0 oa1 oa2 oa3 oa4 oa5 oa6 oa7 oa8 oc0 oc1 oc2 oc3 oc4 oc5 oc6 oc7 oc8
        obtain ⟨od0, od1, od2, od3, od4, od5, od6, od7, od8⟩ := hK2.box.tail.tail.tail.tail.head.four
        obtain ⟨ob0, ob1, ob2, ob3, ob4, ob5, ob6, ob7, ob8⟩ := hK2.box.tail.tail.tail.tail.tail.head.four
        obtain ⟨oa0, oa1, oa2, oa3, oa4, oa5, oa6, oa7, oa8⟩ := hK2.box.tail.tail.tail.tail.tail.tail.head.four
        obtain ⟨oc0, oc1, oc2, oc3, oc4, oc5, oc6, oc7, oc8⟩ := hK2.box.tail.tail.tail.tail.tail.tail.tail.head.four
        go_wp2_with fail
        refine (hasVC G2.out _).mono ?_
        rintro e w9 ⟨rfl, hb9⟩
        have hK3 := hK2.keep hb9
        go_wp2_with fail
        go_meet
        case rel => exact ⟨rfl, hK3⟩
  case rest =>
  clear hK1 E2 O2
  obtain ⟨rfl, hK1⟩ := hcut
  go_upto_region 14 with fail
  go_cut [179] (fun t wd => t = .bool false ∧ Kp w wd [(w7.heap.size + 1, [U ll1, U ll2, U ll3, U ll4]), (w7.heap.size, [U kk1, U kk2, U kk3, U kk4]), (w6.heap.size + 1, [U hh1, U hh2, U hh3, U hh4]), (w6.heap.size, [U ii1, U ii2, U ii3, U ii4]), (w5.heap.size, [U dd1, U dd2, U dd3, U dd4]), (w4.heap.size + 1, [U bb1, U bb2, U bb3, U bb4]), (w4.heap.size, [U aa1, U aa2, U aa3, U aa4]), (w3.heap.size, [U cc1, U cc2, U cc3, U cc4]), (w.heap.size + 1, [U v', U m', U l', U g']), (w.heap.size, [U v, U m, U l, U g])])
  case first =>
    as_aux_lemma =>
      obtain ⟨ol0, ol1, ol2, ol3, ol4, ol5, ol6, ol7, ol8⟩ := hK1.box.head.four
      obtain ⟨ok0, ok1, ok2, ok3, ok4, ok5, ok6, ok7, ok8⟩ := hK1.box.tail.head.four
      obtain ⟨oh0, oh1, oh2, oh3, oh4, oh5, oh6, oh7, oh8⟩ := hK1.box.tail.tail.head.four
      obtain ⟨oi0, oi1, oi2, oi3, oi4, oi5, oi6, oi7, oi8⟩ := hK1.box.tail.tail.tail.head.four
      by_cases hlt : nv x < nv y
      · obtain ⟨rfl, H1, H2⟩ := L2.out hlt
        have G1 : Hid _ := H1
        have G2 : Hid _ := H2
        clear L2 M2 H1 H2
        go_wp2_with fail
        refine (hasVC G1.out _).mono ?_
        rintro e w8 ⟨rfl, hb8⟩
        have hK2 := hK1.keep hb8
        clear ol0 ol1 ol2 ol3 ol4 ol5 ol6 ol7 ol8 ok0 ok1 ok2 ok3 ok4 ok5 ok6 ok7 ok8 oh0 oh1 oh2 oh3 oh4 oh5 oh6 oh7 oh8 oi0 oi1 oi2 oi3 oi4 oi5 oi6 oi7 oi8
        obtain ⟨ol0, ol1, ol2, ol3, ol4, ol5, ol6, ol7, ol8⟩ := hK2.box.head.four
        obtain ⟨ok0, ok1, ok2, ok3, ok4, ok5, ok6, ok7, ok8⟩ := hK2.box.tail.head.four
        obtain ⟨oh0, oh1, oh2, oh3, oh4, oh5, oh6, oh7, oh8⟩ := hK2.box.tail.tail.head.four
        obtain ⟨oi0, oi1, oi2, oi3, oi4, oi5, oi6, oi7, oi8⟩ := hK2.box.tail.tail.tail.head.four
        go_wp2_with fail
        refine (hasVC G2.out _).mono ?_
        rintro e w9 ⟨rfl, hb9⟩
        have hK3 := hK2.keep hb9
        go_wp2_with fail
        go_meet
        case rel => exact ⟨rfl, hK3⟩
      · have hle : nv y ≤ nv x := by omega
        clear hlt
        obtain ⟨rfl, H1, H2⟩ := M2.out hle
        have G1 : Hid _ := H1
        have G2 : Hid _ := H2
        clear L2 M2 H1 H2
        go_wp2_with fail
        refine (hasVC G1.out _).mono ?_
        rintro e w8 ⟨rfl, hb8⟩
        have hK2 := hK1.keep hb8
        clear ol0 ol1 ol2 ol3 ol4 ol5 ol6 ol7 ol8 ok0 ok1 ok2 ok3 ok4 ok5 ok6 ok7 ok8 oh0 oh1 oh2 oh3 oh4 oh5 oh6 oh7 oh8 oi0 oi1 oi2 oi3 oi4 oi5 oi6 oi7 oi8
        obtain ⟨ol0, ol1, ol2, ol3, ol4, ol5, ol6, ol7, ol8⟩ := hK2.box.head.four
        obtain ⟨ok0, ok1, ok2, ok3, ok4, ok5, ok6, ok7, ok8⟩ := hK2.box.tail.head.four
        obtain ⟨oh0, oh1, oh2, oh3, oh4, oh5, oh6, oh7, oh8⟩ := hK2.box.tail.tail.head.four
        obtain ⟨oi0, oi1, oi2, oi3, oi4, oi5, oi6, oi7, oi8⟩ := hK2.box.tail.tail.tail.head.four
        go_wp2_with fail
        refine (hasVC G2.out _).mono ?_
        rintro e w9 ⟨rfl, hb9⟩
        have hK3 := hK2.keep hb9
        go_wp2_with fail
        go_meet
        case rel => exact ⟨rfl, hK3⟩
  case rest =>
  clear hK1 L2 M2
  obtain ⟨rfl, hK1⟩ := hcut
  go_wp2_with fail
  refine (calcBegun_any _).mono ?_
  rintro e w8 ⟨rfl, hb8⟩
  go_wp2_with fail
  go_ret
  exact ⟨rfl, (hK1.keep hb8).bel⟩

end Go.Proofs.Ytkigmocchaikgaa

/- What is known of a call's slots and blocks, and how a step of it is kept track of: words. -/
namespace Go.Proofs.Ytkigmocchaikgaa
open Go.RowKit

/- a cell: a number, a text; pointers and slices go by a block's key (a sum of types: each of its sides has a name below) -/
abbrev AC := Sum (Sum (BitVec 64) Int) (Sum (Sum Bool ByteArray) (Sum (Sum Nat (Nat × Nat)) (Sum (BitVec 8) (Sum (Nat × Nat × Nat × Nat) (Sum (Nat × List Nat) {x : Value // x.oneCell' = true})))))
abbrev AC.u (x : BitVec 64) : AC := (Sum.inl (Sum.inl x))
abbrev AC.i (n : Int) : AC := (Sum.inl (Sum.inr n))
abbrev AC.b (x : Bool) : AC := (Sum.inr (Sum.inl (Sum.inl x)))
abbrev AC.s (x : ByteArray) : AC := (Sum.inr (Sum.inl (Sum.inr x)))
abbrev AC.w (k : Nat) : AC := (Sum.inr (Sum.inr (Sum.inl (Sum.inl k))))
abbrev AC.p (k o : Nat) : AC := (Sum.inr (Sum.inr (Sum.inl (Sum.inr (k, o)))))
abbrev AC.y (x : BitVec 8) : AC := (Sum.inr (Sum.inr (Sum.inr (Sum.inl x))))
abbrev AC.sl (k o n c : Nat) : AC := (Sum.inr (Sum.inr (Sum.inr (Sum.inr (Sum.inl (k, o, n, c))))))
abbrev AC.f (g : Nat) (cap : List Nat) : AC := (Sum.inr (Sum.inr (Sum.inr (Sum.inr (Sum.inr (Sum.inl (g, cap)))))))
abbrev AC.v (x : Value) (h : x.oneCell' = true) : AC := (Sum.inr (Sum.inr (Sum.inr (Sum.inr (Sum.inr (Sum.inr ⟨x, h⟩))))))
/- a part of a tuple: a cell, or the cells of a struct or an array -/
abbrev AT := Sum AC (List AC)
abbrev AT.c (x : AC) : AT := (Sum.inl x)
abbrev AT.ag (l : List AC) : AT := (Sum.inr l)
/- a value: a cell, cells, a tuple, or any other as it is -/
abbrev AV := Sum AC (Sum (List AC) (Sum (List AT) Value))
abbrev AV.c (x : AC) : AV := (Sum.inl x)
abbrev AV.ag (l : List AC) : AV := (Sum.inr (Sum.inl l))
abbrev AV.tu (l : List AT) : AV := (Sum.inr (Sum.inr (Sum.inl l)))
abbrev AV.raw (x : Value) : AV := (Sum.inr (Sum.inr (Sum.inr x)))
abbrev Bs := Nat → Nat × Nat
def ptr (β : Bs) (k o : Nat) : Addr := ⟨(β k).1, (β k).2 + o, none⟩
def AC.g (β : Bs) : AC → Value
  | (Sum.inl (Sum.inl x)) => .int .u64 (nv x)
  | (Sum.inl (Sum.inr n)) => .int .i64 n
  | (Sum.inr (Sum.inl (Sum.inl x))) => .bool x
  | (Sum.inr (Sum.inl (Sum.inr x))) => .string x
  | (Sum.inr (Sum.inr (Sum.inl (Sum.inl k)))) => .pointer (some (ptr β k 0))
  | (Sum.inr (Sum.inr (Sum.inl (Sum.inr (k, o))))) => .pointer (some (ptr β k o))
  | (Sum.inr (Sum.inr (Sum.inr (Sum.inl x)))) => .int .u8 (x.toNat : Int)
  | (Sum.inr (Sum.inr (Sum.inr (Sum.inr (Sum.inl (k, o, n, c)))))) => .slice (some (ptr β k o)) n c
  | (Sum.inr (Sum.inr (Sum.inr (Sum.inr (Sum.inr (Sum.inl (g, cap))))))) => .func (.func g) #[] (cap.map fun k => Value.pointer (some (ptr β k 0))).toArray
  | (Sum.inr (Sum.inr (Sum.inr (Sum.inr (Sum.inr (Sum.inr ⟨x, _⟩)))))) => x
def AT.g (β : Bs) : AT → Value
  | (Sum.inl x) => AC.g β x
  | (Sum.inr l) => .agg (l.map (AC.g β)).toArray
def AV.g (β : Bs) : AV → Value
  | (Sum.inl x) => AC.g β x
  | (Sum.inr (Sum.inl l)) => .agg (l.map (AC.g β)).toArray
  | (Sum.inr (Sum.inr (Sum.inl l))) => .tuple (l.map (AT.g β)).toArray
  | (Sum.inr (Sum.inr (Sum.inr x))) => x
def AC.ks : AC → List Nat
  | (Sum.inr (Sum.inr (Sum.inl (Sum.inl k)))) => [k]
  | (Sum.inr (Sum.inr (Sum.inl (Sum.inr (k, _))))) => [k]
  | (Sum.inr (Sum.inr (Sum.inr (Sum.inr (Sum.inl (k, _, _, _)))))) => [k]
  | (Sum.inr (Sum.inr (Sum.inr (Sum.inr (Sum.inr (Sum.inl (_, cap))))))) => cap
  | _ => []
def AT.ks : AT → List Nat
  | (Sum.inl x) => AC.ks x
  | (Sum.inr l) => l.flatMap AC.ks
def AV.ks : AV → List Nat
  | (Sum.inl x) => AC.ks x
  | (Sum.inr (Sum.inl l)) => l.flatMap AC.ks
  | (Sum.inr (Sum.inr (Sum.inl l))) => l.flatMap AT.ks
  | _ => []

theorem AC.tells {P : AC → Prop} (x : AC) (u : ∀ x, P (.u x)) (i : ∀ n, P (.i n)) (b : ∀ x, P (.b x)) (s : ∀ x, P (.s x)) (w : ∀ k, P (.w k)) (p : ∀ k o, P (.p k o)) (y : ∀ x, P (.y x)) (sl : ∀ k o n c, P (.sl k o n c)) (f : ∀ g cap, P (.f g cap)) (v : ∀ x h, P (.v x h)) : P x :=
  match x with
  | (Sum.inl (Sum.inl x)) => u x
  | (Sum.inl (Sum.inr x)) => i x
  | (Sum.inr (Sum.inl (Sum.inl x))) => b x
  | (Sum.inr (Sum.inl (Sum.inr x))) => s x
  | (Sum.inr (Sum.inr (Sum.inl (Sum.inl x)))) => w x
  | (Sum.inr (Sum.inr (Sum.inl (Sum.inr (k, o))))) => p k o
  | (Sum.inr (Sum.inr (Sum.inr (Sum.inl x)))) => y x
  | (Sum.inr (Sum.inr (Sum.inr (Sum.inr (Sum.inl (k, o, n, c)))))) => sl k o n c
  | (Sum.inr (Sum.inr (Sum.inr (Sum.inr (Sum.inr (Sum.inl (g, c))))))) => f g c
  | (Sum.inr (Sum.inr (Sum.inr (Sum.inr (Sum.inr (Sum.inr ⟨x, h⟩)))))) => v x h
theorem AT.tells {P : AT → Prop} (x : AT) (c : ∀ x, P (.c x)) (ag : ∀ l, P (.ag l)) : P x :=
  match x with
  | (Sum.inl x) => c x
  | (Sum.inr l) => ag l
theorem AV.tells {P : AV → Prop} (x : AV) (c : ∀ x, P (.c x)) (ag : ∀ l, P (.ag l)) (tu : ∀ l, P (.tu l)) (raw : ∀ x, P (.raw x)) : P x :=
  match x with
  | (Sum.inl x) => c x
  | (Sum.inr (Sum.inl l)) => ag l
  | (Sum.inr (Sum.inr (Sum.inl l))) => tu l
  | (Sum.inr (Sum.inr (Sum.inr x))) => raw x

theorem AC.one (β : Bs) (x : AC) : (AC.g β x).oneCell' = true := by
  unfold AC.g
  split <;> first | rfl | (rename_i h; exact h)

def look {α : Type} : List (Nat × α) → Nat → Option α
  | [], _ => none
  | (j, x) :: l, i => cond (Nat.beq i j) (some x) (look l i)
theorem look_cons {α : Type} (j : Nat) (x : α) (l : List (Nat × α)) (i : Nat) : look ((j, x) :: l) i = if i = j then some x else look l i := by
  show cond (Nat.beq i j) (some x) (look l i) = _
  by_cases h : i = j
  · subst h; simp
  · have : Nat.beq i j = false := by
      cases hb : Nat.beq i j with
      | false => rfl
      | true => exact absurd (Nat.eq_of_beq_eq_true hb) h
    simp [this, h]

structure Ent where
  wr : Bool
  cells : List AC
structure Kn where
  T : List (Nat × AV)
  H : List (Nat × Ent)
  n : Nat

/- the streams and the tape are as they were, no block has gone -/
structure Fr (X : Nat → Prop) (w0 w : World) : Prop where
  os : w.os = w0.os
  tape : w.tape = w0.tape
  output : w.output = w0.output
  size : w0.heap.size ≤ w.heap.size
  block : ∀ k, k < w0.heap.size → ¬ X k → w.heap[k]? = w0.heap[k]?
theorem Fr.refl (X : Nat → Prop) (w : World) : Fr X w w := ⟨rfl, rfl, rfl, Nat.le_refl _, fun _ _ _ => rfl⟩
theorem Fr.trans {X : Nat → Prop} {a b c : World} (h : Fr X a b) (k : Fr X b c) : Fr X a c :=
  ⟨k.os.trans h.os, k.tape.trans h.tape, k.output.trans h.output, Nat.le_trans h.size k.size, fun i hi hx => (k.block i (Nat.lt_of_lt_of_le hi h.size) hx).trans (h.block i hi hx)⟩
theorem Fr.mono {X Y : Nat → Prop} {a b : World} (h : Fr X a b) (hxy : ∀ k, X k → Y k) : Fr Y a b := ⟨h.os, h.tape, h.output, h.size, fun i hi hx => h.block i hi fun k => hx (hxy i k)⟩
theorem Fr.drew (X : Nat → Prop) (w : World) : Fr X w w.drew := ⟨rfl, rfl, rfl, Nat.le_refl _, fun _ _ _ => rfl⟩
theorem Fr.below {w w' : World} (h : Fr (fun _ => False) w w') : Below w.heap.size w w' := ⟨h.os, h.tape, h.output, h.size, fun k hk => h.block k hk id⟩
theorem Fr.of_below {X : Nat → Prop} {w w' : World} (h : Below w.heap.size w w') : Fr X w w' := ⟨h.os, h.tape, h.output, h.size, fun k hk _ => h.block k hk⟩

/- a block holds these cells -/
structure Blk (β : Bs) (w : World) (k : Nat) (e : Ent) : Prop where
  lt : (β k).1 < w.heap.size
  cell : ∀ j c, e.cells[j]? = some c → w.cell? (ptr β k j) = some (AC.g β c)
  free : e.wr = true → ∀ j, j < e.cells.length → w.frozen? (ptr β k j) = false

/- the call: the world that it began in, the blocks that it may write there, the blocks that it was handed -/
structure Cx where
  w0 : World
  X : Nat → Prop
  β0 : Bs
  F : Nat → Prop
structure Rel (C : Cx) (N : Nat) (β : Bs) (S : Nat → Prop) (σ : Kn) (a : Act) (w : World) : Prop where
  size : a.tmps.size = N
  defers : a.defers = []
  tmp : ∀ t v, look σ.T t = some v → a.tmps[t]? = some (AV.g β v) ∧ ∀ k, k ∈ AV.ks v → S k
  blk : ∀ k e, look σ.H k = some e → S k ∧ Blk β w k e ∧ (∀ c, c ∈ e.cells → ∀ j, j ∈ AC.ks c → S j) ∧ (e.wr = true → C.w0.heap.size ≤ (β k).1 ∨ C.X (β k).1)
  inj : ∀ k e k' e', look σ.H k = some e → look σ.H k' = some e' → k ≠ k' → e.wr = true → (β k).1 ≠ (β k').1
  frame : Fr C.X C.w0 w
  fix : ∀ k, C.F k → S k ∧ β k = C.β0 k

/- what a value is does not hang on keys that are not met in it -/
theorem AC.g_congr {β β' : Bs} (x : AC) (h : ∀ k, k ∈ AC.ks x → β' k = β k) : AC.g β' x = AC.g β x := by
  cases x using AC.tells with
  | u => rfl
  | i => rfl
  | b => rfl
  | s => rfl
  | w k => simp only [AC.g, ptr, h k (by simp [AC.ks])]
  | p k o => simp only [AC.g, ptr, h k (by simp [AC.ks])]
  | y => rfl
  | sl k o n c => simp only [AC.g, ptr, h k (by simp [AC.ks])]
  | f g cap =>
    refine congrArg (fun l : List Value => Value.func (.func g) #[] l.toArray) (List.map_congr_left fun k hk => ?_)
    simp only [ptr, h k (by simpa [AC.ks] using hk)]
  | v => rfl
theorem cells_congr {β β' : Bs} {l : List AC} (h : ∀ k, k ∈ l.flatMap AC.ks → β' k = β k) : l.map (AC.g β') = l.map (AC.g β) :=
  List.map_congr_left fun c hc => AC.g_congr c fun k hk => h k (List.mem_flatMap.2 ⟨c, hc, hk⟩)
theorem AT.g_congr {β β' : Bs} (x : AT) (h : ∀ k, k ∈ AT.ks x → β' k = β k) : AT.g β' x = AT.g β x := by
  unfold AT.g
  split
  · exact AC.g_congr _ h
  · rw [cells_congr h]
theorem AV.g_congr {β β' : Bs} (x : AV) (h : ∀ k, k ∈ AV.ks x → β' k = β k) : AV.g β' x = AV.g β x := by
  unfold AV.g
  split
  · exact AC.g_congr _ h
  · rw [cells_congr h]
  · rename_i l
    refine congrArg (fun l : List Value => Value.tuple l.toArray) (List.map_congr_left fun c hc => AT.g_congr c fun k hk => h k (List.mem_flatMap.2 ⟨c, hc, hk⟩))
  · rfl

/- what an operation does -/
structure Eff where
  v : AV
  wr : List (Nat × List AC)
  nw : Option (Nat × List AC)
def bset (β : Bs) (k : Nat) (x : Nat × Nat) : Bs := fun j => if j = k then x else β j
def ext (S : Nat → Prop) : Option (Nat × List AC) → Nat → Prop
  | none => S
  | some (k, _) => fun j => S j ∨ j = k
def newOk (β β' : Bs) (w w' : World) : Option (Nat × List AC) → Prop
  | none => β' = β
  | some (k, cs) => ∃ b, w.heap.size ≤ b ∧ b < w'.heap.size ∧ β' = bset β k (b, 0) ∧ Blk β' w' k ⟨true, cs⟩
structure Up (e : Eff) (β β' : Bs) (w w' : World) : Prop where
  frame : Fr (fun B => ∃ k cs, (k, cs) ∈ e.wr ∧ B = (β k).1) w w'
  wr : ∀ k cs, (k, cs) ∈ e.wr → Blk β' w' k ⟨true, cs⟩
  nw : newOk β β' w w' e.nw
/- the keys that it brings are known ones -/
structure Eff.Keys (e : Eff) (S : Nat → Prop) : Prop where
  v : ∀ k, k ∈ AV.ks e.v → ext S e.nw k
  wr : ∀ k cs, (k, cs) ∈ e.wr → ∀ c, c ∈ cs → ∀ j, j ∈ AC.ks c → S j
  nw : ∀ k cs, e.nw = some (k, cs) → ∀ c, c ∈ cs → ∀ j, j ∈ AC.ks c → ext S e.nw j

def putT (T : List (Nat × AV)) : Option Tmp → AV → List (Nat × AV)
  | none, _ => T
  | some t, v => (t, v) :: T
def newH : Option (Nat × List AC) → List (Nat × Ent) → List (Nat × Ent)
  | none, H => H
  | some (k, cs), H => (k, ⟨true, cs⟩) :: H
def Kn.upd (σ : Kn) (dst : Option Tmp) (e : Eff) : Kn :=
  { T := putT σ.T dst e.v, H := newH e.nw (e.wr.map (fun x => (x.1, Ent.mk true x.2)) ++ σ.H), n := σ.n }

theorem look_wr (l : List (Nat × List AC)) (H : List (Nat × Ent)) (k : Nat) :
    (∃ cs, (k, cs) ∈ l ∧ look (l.map (fun x => (x.1, Ent.mk true x.2)) ++ H) k = some ⟨true, cs⟩) ∨ ((∀ cs, (k, cs) ∉ l) ∧ look (l.map (fun x => (x.1, Ent.mk true x.2)) ++ H) k = look H k) := by
  induction l with
  | nil => exact Or.inr ⟨fun _ h => by simp at h, rfl⟩
  | cons x l ih =>
    obtain ⟨j, cs⟩ := x
    simp only [List.map_cons, List.cons_append, look_cons]
    by_cases h : k = j
    · subst h; exact Or.inl ⟨cs, by simp, by simp⟩
    · rcases ih with ⟨c, hc, e⟩ | ⟨hn, e⟩
      · exact Or.inl ⟨c, by simp [hc], by simp [h, e]⟩
      · exact Or.inr ⟨fun c hc => by rcases List.mem_cons.1 hc with h1 | h1; exact h (by injection h1); exact hn c h1, by simp [h, e]⟩

theorem Blk.congr {β β' : Bs} {w w' : World} {k : Nat} {e : Ent} (h : Blk β w k e) (hb : β' k = β k) (hsz : w.heap.size ≤ w'.heap.size) (hh : w'.heap[(β k).1]? = w.heap[(β k).1]?)
    (hc : ∀ c, c ∈ e.cells → ∀ j, j ∈ AC.ks c → β' j = β j) : Blk β' w' k e := by
  have hp : ∀ j, ptr β' k j = ptr β k j := fun j => by simp only [ptr, hb]
  refine ⟨by rw [hb]; exact Nat.lt_of_lt_of_le h.lt hsz, fun j c hj => ?_, fun hw j hj => ?_⟩
  · rw [hp, World.cell?_of_block (w := w) (a := ptr β k j) hh, h.cell j c hj, AC.g_congr c fun k' hk' => hc c (List.mem_of_getElem? hj) k' hk']
  · rw [hp, World.frozen?_of_block (w := w) (a := ptr β k j) hh]; exact h.free hw j hj

theorem Rel.upd {C : Cx} {N : Nat} {β β' : Bs} {S : Nat → Prop} {σ : Kn} {a : Act} {w w' : World} {dst : Option Tmp} {e : Eff}
    (h : Rel C N β S σ a w) (hu : Up e β β' w w') (hk : e.Keys S) (hwr : ∀ k cs, (k, cs) ∈ e.wr → ∃ c, look σ.H k = some ⟨true, c⟩) (hnw : ∀ k cs, e.nw = some (k, cs) → ¬ S k) (hd : ∀ t, dst = some t → t < N) :
    Rel C N β' (ext S e.nw) (σ.upd dst e) (a.put dst (AV.g β' e.v)) w' := by
  have hβ : ∀ k, S k → β' k = β k := by
    intro k hS
    have := hu.nw
    cases hn : e.nw with
    | none => rw [hn] at this; exact congrFun this k
    | some x =>
      obtain ⟨k', cs⟩ := x
      rw [hn] at this
      obtain ⟨b, _, _, hb, _⟩ := this
      rw [hb]
      unfold bset
      rw [if_neg]
      intro e'
      subst e'
      exact hnw _ _ hn hS
  have hS' : ∀ k, S k → ext S e.nw k := by
    intro k hS
    cases hn : e.nw with
    | none => exact hS
    | some x => obtain ⟨k', cs⟩ := x; exact Or.inl hS
  -- a known block stays, if it is not written
  have hold : ∀ k ent, look σ.H k = some ent → (∀ cs, (k, cs) ∉ e.wr) → Blk β' w' k ent := by
    intro k ent hl hn
    obtain ⟨hS, hB, hc, _⟩ := h.blk k ent hl
    refine hB.congr (hβ k hS) hu.frame.size (hu.frame.block _ hB.lt ?_) fun c hcc j hj => hβ j (hc c hcc j hj)
    rintro ⟨k', cs, hm, he⟩
    obtain ⟨c', hl'⟩ := hwr k' cs hm
    by_cases hkk : k' = k
    · subst hkk; exact hn cs hm
    · exact h.inj k' _ k ent hl' hl hkk rfl he.symm
  have hlook : ∀ k ent, look (σ.upd dst e).H k = some ent → (∃ cs, e.nw = some (k, cs) ∧ ent = ⟨true, cs⟩) ∨ ((∀ cs, e.nw ≠ some (k, cs)) ∧ ((∃ cs, (k, cs) ∈ e.wr ∧ ent = ⟨true, cs⟩) ∨ ((∀ cs, (k, cs) ∉ e.wr) ∧ look σ.H k = some ent))) := by
    intro k ent hl
    simp only [Kn.upd] at hl
    have key : look (e.wr.map (fun x => (x.1, Ent.mk true x.2)) ++ σ.H) k = some ent → ((∃ cs, (k, cs) ∈ e.wr ∧ ent = ⟨true, cs⟩) ∨ ((∀ cs, (k, cs) ∉ e.wr) ∧ look σ.H k = some ent)) := by
      intro hl
      rcases look_wr e.wr σ.H k with ⟨cs, hm, he⟩ | ⟨hn, he⟩
      · rw [he] at hl; injection hl with hl; exact Or.inl ⟨cs, hm, hl.symm⟩
      · rw [he] at hl; exact Or.inr ⟨hn, hl⟩
    cases hn : e.nw with
    | none => rw [hn] at hl; exact Or.inr ⟨fun _ => by simp, key hl⟩
    | some x =>
      obtain ⟨k', cs⟩ := x
      rw [hn] at hl
      simp only [newH, look_cons] at hl
      by_cases hkk : k = k'
      · subst hkk; simp at hl; exact Or.inl ⟨cs, rfl, hl.symm⟩
      · simp [hkk] at hl; exact Or.inr ⟨fun c hc => by simp at hc; exact hkk hc.1.symm, key hl⟩
  have hnewS : ∀ k, S k → ∀ cs, e.nw ≠ some (k, cs) := fun k hS cs hn => hnw k cs hn hS
  have hb1 : ∀ k ent, look (σ.upd dst e).H k = some ent → (e.nw = none ∨ ∀ cs, e.nw ≠ some (k, cs)) → S k ∧ (β' k).1 < w.heap.size ∧ ∃ ent', look σ.H k = some ent' ∧ (ent.wr = true → ent'.wr = true) := by
    intro k ent hl hn
    rcases hlook k ent hl with ⟨cs, h1, _⟩ | ⟨_, ⟨cs, hm, he⟩ | ⟨_, ho⟩⟩
    · rcases hn with hn | hn
      · rw [hn] at h1; cases h1
      · exact absurd h1 (hn cs)
    · obtain ⟨c, hl'⟩ := hwr k cs hm
      obtain ⟨hS, hB, _⟩ := h.blk k _ hl'
      exact ⟨hS, by rw [hβ k hS]; exact hB.lt, _, hl', fun _ => rfl⟩
    · obtain ⟨hS, hB, _⟩ := h.blk k _ ho
      exact ⟨hS, by rw [hβ k hS]; exact hB.lt, _, ho, id⟩
  refine ⟨?_, ?_, ?_, ?_, ?_, ?_, fun k hF => ⟨hS' k (h.fix k hF).1, (hβ k (h.fix k hF).1).trans (h.fix k hF).2⟩⟩
  · cases dst with
    | none => exact h.size
    | some t => simp [Act.put, h.size]
  · cases dst with
    | none => exact h.defers
    | some t => exact h.defers
  · intro t v hl
    have old : look σ.T t = some v → a.tmps[t]? = some (AV.g β' v) ∧ ∀ k, k ∈ AV.ks v → ext S e.nw k := by
      intro hl
      obtain ⟨h1, h2⟩ := h.tmp t v hl
      exact ⟨by rw [h1, AV.g_congr v fun k hk => hβ k (h2 k hk)], fun k hk => hS' k (h2 k hk)⟩
    cases dst with
    | none => exact old hl
    | some t' =>
      simp only [Kn.upd, putT, look_cons] at hl
      by_cases ht : t = t'
      · subst ht
        simp at hl
        subst hl
        have := hd t rfl
        rw [← h.size] at this
        exact ⟨by simp [Act.put, this], hk.v⟩
      · simp [ht] at hl
        have := old hl
        refine ⟨?_, this.2⟩
        simp only [Act.put]
        rw [Array.getElem?_setIfInBounds_ne (fun e => ht e.symm)]
        exact this.1
  · intro k ent hl
    rcases hlook k ent hl with ⟨cs, hn, he⟩ | ⟨hn, ⟨cs, hm, he⟩ | ⟨hn2, ho⟩⟩
    · subst he
      have := hu.nw
      rw [hn] at this
      obtain ⟨b, hb1, hb2, hb3, hb4⟩ := this
      refine ⟨by rw [hn]; exact Or.inr rfl, hb4, hk.nw k cs hn, fun _ => Or.inl ?_⟩
      rw [hb3]; simp [bset]; exact Nat.le_trans h.frame.size hb1
    · subst he
      obtain ⟨c, hl'⟩ := hwr k cs hm
      obtain ⟨hS, hB, _, hx⟩ := h.blk k _ hl'
      exact ⟨hS' k hS, hu.wr k cs hm, fun c hc j hj => hS' j (hk.wr k cs hm c hc j hj), fun _ => by rw [hβ k hS]; exact hx rfl⟩
    · obtain ⟨hS, hB, hc, hx⟩ := h.blk k _ ho
      exact ⟨hS' k hS, hold k ent ho hn2, fun c hcc j hj => hS' j (hc c hcc j hj), fun hw => by rw [hβ k hS]; exact hx hw⟩
  · intro k ent k' ent' hl hl' hne hw
    by_cases hk1 : ∃ cs, e.nw = some (k, cs)
    · obtain ⟨cs, hn⟩ := hk1
      have := hu.nw
      rw [hn] at this
      obtain ⟨b, hb1', hb2, hb3, hb4⟩ := this
      have h2 := (hb1 k' ent' hl' (Or.inr fun cs' h' => by rw [hn] at h'; injection h' with h'; injection h' with h'; exact hne h')).2.1
      have : (β' k).1 = b := by rw [hb3]; simp [bset]
      omega
    · have hk1' : ∀ cs, e.nw ≠ some (k, cs) := fun cs h' => hk1 ⟨cs, h'⟩
      obtain ⟨hS1, hlt1, en1, hle1, hw1⟩ := hb1 k ent hl (Or.inr hk1')
      by_cases hk2 : ∃ cs, e.nw = some (k', cs)
      · obtain ⟨cs, hn⟩ := hk2
        have := hu.nw
        rw [hn] at this
        obtain ⟨b, hb1', hb2, hb3, hb4⟩ := this
        have : (β' k').1 = b := by rw [hb3]; simp [bset]
        omega
      · obtain ⟨hS2, hlt2, en2, hle2, hw2⟩ := hb1 k' ent' hl' (Or.inr fun cs h' => hk2 ⟨cs, h'⟩)
        rw [hβ k hS1, hβ k' hS2]
        exact h.inj k en1 k' en2 hle1 hle2 hne (hw1 hw)
  · refine ⟨hu.frame.os.trans h.frame.os, hu.frame.tape.trans h.frame.tape, hu.frame.output.trans h.frame.output, Nat.le_trans h.frame.size hu.frame.size, fun B hB hX => ?_⟩
    refine (hu.frame.block B (Nat.lt_of_lt_of_le hB h.frame.size) ?_).trans (h.frame.block B hB hX)
    rintro ⟨k, cs, hm, he⟩
    obtain ⟨c, hl'⟩ := hwr k cs hm
    obtain ⟨_, _, _, hx⟩ := h.blk k _ hl'
    rcases hx rfl with h1 | h1
    · omega
    · rw [← he] at h1; exact hX h1

end Go.Proofs.Ytkigmocchaikgaa
