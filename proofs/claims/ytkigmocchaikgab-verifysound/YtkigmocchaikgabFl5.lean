import Derived.Test.YtkigmocchaikgabFl4
import Derived.BigRegion
import Derived.Deep.CutBlock
import Derived.Deep.DeepCutAuto
import Derived.Deep.RegionHeld3
import Derived.Test.YtkigmocchaikgabFl3
import Derived.Test.YtkigmocchaikgabFl2
import Derived.Test.YtkigmocchaikgabProg
/- The contract of package calc's leave, over each of the four functions that it is handed. (Written by gen_w26.py.) -/
namespace Go.Proofs.Ytkigmocchaikgab
open Go.RowKit
attribute [local go_sem] w_and w_or w_xor w_andNot w_and1 w_and63 w_add w_sub w_mul w_sub1 w_add1 w_shl w_shl1 w_shr c_beq c_bne c_beq0 c_bne0 c_beq1 c_bne1 wrap_nv

abbrev PT (b : Nat) : Value := .pointer (some ⟨b, 0, none⟩)
/- what is left of both -/
def lv (p : Bool) (a : Value) : Value := if p then a else V0

set_option maxRecDepth 100000 in
set_option maxHeartbeats 4000000 in
theorem leave_Equal {p1 p2 : Value} {v m l g v' m' l' g' a b c d a' b' c' d' x y z t x' y' z' t' : BitVec 64} {may i1 i2 : Bool} {e1 e2 : Int} (hr : Hid ((valB v m l g && valB v' m' l' g') = true)) (w : World)
    (HR : Hid (∀ w', Below w.heap.size w w' → Calls Try.prog 115 #[p1, p2] w' fun e w'' => e = .returned (.tuple #[Vl a b c d, Vl a' b' c' d', .bool may]) ∧ Below w'.heap.size w' w''))
    (N1 : Hid (∀ w, Calls Try.prog 65 #[Vl a b c d] w fun e w' => e = .returned (.tuple #[Vl x y z t, .bool i1, N e1]) ∧ Below w.heap.size w w'))
    (N2 : Hid (∀ w, Calls Try.prog 65 #[Vl a' b' c' d'] w fun e w' => e = .returned (.tuple #[Vl x' y' z' t', .bool i2, N e2]) ∧ Below w.heap.size w w')) :
    Calls Try.prog 111 #[Vl v m l g, Vl v' m' l' g', .func (.func 115) #[] #[p1, p2]] w fun e w' => e = .returned (.tuple #[lv (may && (i1 && i2)) (Vl x y z t), lv (may && (i1 && i2)) (Vl x' y' z' t'), .bool (may && (i1 && i2)), N 0]) ∧ Below w.heap.size w w' := by
  obtain ⟨z1, H1⟩ : ∃ b, Hid (valB v m l g = b) := ⟨_, rfl⟩
  obtain ⟨z2, H2⟩ : ∃ b, Hid (valB v' m' l' g' = b) := ⟨_, rfl⟩
  rw [H1.out, H2.out] at hr
  obtain ⟨q, hq⟩ : ∃ q, Hid (q = (may && (i1 && i2))) := ⟨_, rfl⟩
  rw [← hq.out]
  go_enter Try.func111, Try.ntmps111
  go_wp2_with fail
  refine (vcheck2 H1 H2 (by simp) (by simp [go_sem]) (by simp [go_sem]) (by simp [go_sem]) (by simp [go_sem]) (by simp [go_sem]) (by simp [go_sem]) (by simp [go_sem]) (by simp [go_sem])).mono ?_
  rw [hr.out, er_t]
  rintro e w1 ⟨rfl, hb1⟩
  have hK := ((((((Kp.start w).add4 _ _ _ _ _).add4 _ _ _ _ _).add4 _ _ _ _ _).add4 _ _ _ _ _).keep ((Below.refl _ _).alloc (Nat.le_refl _) _)).keep hb1
  simp only [World.size_alloc] at hK
  clear hb1
  go_wp2_with fail
  refine (HR.out _ hK.bel).mono ?_
  rintro e w2 ⟨rfl, hb2⟩
  have hK2 := hK.keep hb2
  have hK3 := (hK2.set4 (x := U a) (y := U b) (z := U c) (t := U d) 3 rfl).set4 (x := U a') (y := U b') (z := U c') (t := U d') 2 rfl
  obtain ⟨s0, s1, s2, s3, s4, s5, s6, s7, s8⟩ := hK2.box.head.four
  obtain ⟨r0, r1, r2, r3, r4, r5, r6, r7, r8⟩ := hK2.box.tail.head.four
  obtain ⟨b0, b1, b2, b3, b4, b5, b6, b7, b8⟩ := hK2.box.tail.tail.head.four
  obtain ⟨a0, a1, a2, a3, a4, a5, a6, a7, a8⟩ := hK2.box.tail.tail.tail.head.four
  clear hb2 hK
  go_wp2_with fail
  refine (N1.out _).mono ?_
  rintro e w3 ⟨rfl, hb3⟩
  have hK4 := hK3.keep hb3
  have hK5 := hK4.set4 (x := U x) (y := U y) (z := U z) (t := U t) 3 rfl
  clear s0 s1 s2 s3 s4 s5 s6 s7 s8 r0 r1 r2 r3 r4 r5 r6 r7 r8 b0 b1 b2 b3 b4 b5 b6 b7 b8 a0 a1 a2 a3 a4 a5 a6 a7 a8
  obtain ⟨s0, s1, s2, s3, s4, s5, s6, s7, s8⟩ := hK4.box.head.four
  obtain ⟨r0, r1, r2, r3, r4, r5, r6, r7, r8⟩ := hK4.box.tail.head.four
  obtain ⟨b0, b1, b2, b3, b4, b5, b6, b7, b8⟩ := hK4.box.tail.tail.head.four
  obtain ⟨a0, a1, a2, a3, a4, a5, a6, a7, a8⟩ := hK4.box.tail.tail.tail.head.four
  clear hb3 hK2 hK3
  go_wp2_with fail
  refine (N2.out _).mono ?_
  rintro e w4 ⟨rfl, hb4⟩
  have hK6 := hK5.keep hb4
  have hK7 := hK6.set4 (x := U x') (y := U y') (z := U z') (t := U t') 2 rfl
  clear s0 s1 s2 s3 s4 s5 s6 s7 s8 r0 r1 r2 r3 r4 r5 r6 r7 r8 b0 b1 b2 b3 b4 b5 b6 b7 b8 a0 a1 a2 a3 a4 a5 a6 a7 a8
  obtain ⟨s0, s1, s2, s3, s4, s5, s6, s7, s8⟩ := hK6.box.head.four
  obtain ⟨r0, r1, r2, r3, r4, r5, r6, r7, r8⟩ := hK6.box.tail.head.four
  obtain ⟨b0, b1, b2, b3, b4, b5, b6, b7, b8⟩ := hK6.box.tail.tail.head.four
  obtain ⟨a0, a1, a2, a3, a4, a5, a6, a7, a8⟩ := hK6.box.tail.tail.tail.head.four
  clear hb4 hK4 hK5
  go_upto_region 7 with fail
  clear s0 s1 s2 s3 s4 s5 s6 s7 s8 r0 r1 r2 r3 r4 r5 r6 r7 r8 b0 b1 b2 b3 b4 b5 b6 b7 b8 a0 a1 a2 a3 a4 a5 a6 a7 a8
  clear hK6
  go_cut [52] (fun u wc => u = .bool (!q) ∧ Kp w wc [(w.heap.size + 1 + 1 + 1, [.int .u64 0, .int .u64 0, .int .u64 0, .int .u64 0]), (w.heap.size + 1 + 1, [.int .u64 0, .int .u64 0, .int .u64 0, .int .u64 0]), (w.heap.size + 1, [U x', U y', U z', U t']), (w.heap.size, [U x, U y, U z, U t])])
  case first =>
    cases may
    · go_wp2_with fail
      go_meet
      case rel => exact ⟨by rw [hq.out]; rfl, hK7⟩
    · cases i1
      · go_wp2_with fail
        go_meet
        case rel => exact ⟨by rw [hq.out]; rfl, hK7⟩
      · cases i2
        all_goals
          go_wp2_with fail
          go_meet
          case rel => exact ⟨by rw [hq.out]; rfl, hK7⟩
  case rest =>
    clear hK7 hq
    obtain ⟨rfl, hK8⟩ := hcut
    obtain ⟨s0, s1, s2, s3, s4, s5, s6, s7, s8⟩ := hK8.box.head.four
    obtain ⟨r0, r1, r2, r3, r4, r5, r6, r7, r8⟩ := hK8.box.tail.head.four
    obtain ⟨b0, b1, b2, b3, b4, b5, b6, b7, b8⟩ := hK8.box.tail.tail.head.four
    obtain ⟨a0, a1, a2, a3, a4, a5, a6, a7, a8⟩ := hK8.box.tail.tail.tail.head.four
    cases q
    · go_wp2_with fail
      exact bodyPost_ret (v := .tuple #[V0, V0, .bool false, N 0]) (by simp [results, Try.results111, go_sem, nv_zero, s0, s1, s2, s3, r0, r1, r2, r3]) rfl ⟨rfl, ((hK8.set4 1 rfl).set4 0 rfl).bel⟩
    · go_wp2_with fail
      go_region
      all_goals
        go_wp2_with fail
        exact bodyPost_ret (v := .tuple #[Vl x y z t, Vl x' y' z' t', .bool true, N 0]) (by simp [results, Try.results111, go_sem, s0, s1, s2, s3, r0, r1, r2, r3]) rfl ⟨rfl, Below.drew ((hK8.set4 1 rfl).set4 0 rfl).bel⟩

set_option maxRecDepth 100000 in
set_option maxHeartbeats 4000000 in
theorem leave_Other {p1 p2 : Value} {v m l g v' m' l' g' a b c d a' b' c' d' x y z t x' y' z' t' : BitVec 64} {may i1 i2 : Bool} {e1 e2 : Int} (hr : Hid ((valB v m l g && valB v' m' l' g') = true)) (w : World)
    (HR : Hid (∀ w', Below w.heap.size w w' → Calls Try.prog 112 #[p1, p2] w' fun e w'' => e = .returned (.tuple #[Vl a b c d, Vl a' b' c' d', .bool may]) ∧ Below w'.heap.size w' w''))
    (N1 : Hid (∀ w, Calls Try.prog 65 #[Vl a b c d] w fun e w' => e = .returned (.tuple #[Vl x y z t, .bool i1, N e1]) ∧ Below w.heap.size w w'))
    (N2 : Hid (∀ w, Calls Try.prog 65 #[Vl a' b' c' d'] w fun e w' => e = .returned (.tuple #[Vl x' y' z' t', .bool i2, N e2]) ∧ Below w.heap.size w w')) :
    Calls Try.prog 111 #[Vl v m l g, Vl v' m' l' g', .func (.func 112) #[] #[p1, p2]] w fun e w' => e = .returned (.tuple #[lv (may && (i1 && i2)) (Vl x y z t), lv (may && (i1 && i2)) (Vl x' y' z' t'), .bool (may && (i1 && i2)), N 0]) ∧ Below w.heap.size w w' := by
  obtain ⟨z1, H1⟩ : ∃ b, Hid (valB v m l g = b) := ⟨_, rfl⟩
  obtain ⟨z2, H2⟩ : ∃ b, Hid (valB v' m' l' g' = b) := ⟨_, rfl⟩
  rw [H1.out, H2.out] at hr
  obtain ⟨q, hq⟩ : ∃ q, Hid (q = (may && (i1 && i2))) := ⟨_, rfl⟩
  rw [← hq.out]
  go_enter Try.func111, Try.ntmps111
  go_wp2_with fail
  refine (vcheck2 H1 H2 (by simp) (by simp [go_sem]) (by simp [go_sem]) (by simp [go_sem]) (by simp [go_sem]) (by simp [go_sem]) (by simp [go_sem]) (by simp [go_sem]) (by simp [go_sem])).mono ?_
  rw [hr.out, er_t]
  rintro e w1 ⟨rfl, hb1⟩
  have hK := ((((((Kp.start w).add4 _ _ _ _ _).add4 _ _ _ _ _).add4 _ _ _ _ _).add4 _ _ _ _ _).keep ((Below.refl _ _).alloc (Nat.le_refl _) _)).keep hb1
  simp only [World.size_alloc] at hK
  clear hb1
  go_wp2_with fail
  refine (HR.out _ hK.bel).mono ?_
  rintro e w2 ⟨rfl, hb2⟩
  have hK2 := hK.keep hb2
  have hK3 := (hK2.set4 (x := U a) (y := U b) (z := U c) (t := U d) 3 rfl).set4 (x := U a') (y := U b') (z := U c') (t := U d') 2 rfl
  obtain ⟨s0, s1, s2, s3, s4, s5, s6, s7, s8⟩ := hK2.box.head.four
  obtain ⟨r0, r1, r2, r3, r4, r5, r6, r7, r8⟩ := hK2.box.tail.head.four
  obtain ⟨b0, b1, b2, b3, b4, b5, b6, b7, b8⟩ := hK2.box.tail.tail.head.four
  obtain ⟨a0, a1, a2, a3, a4, a5, a6, a7, a8⟩ := hK2.box.tail.tail.tail.head.four
  clear hb2 hK
  go_wp2_with fail
  refine (N1.out _).mono ?_
  rintro e w3 ⟨rfl, hb3⟩
  have hK4 := hK3.keep hb3
  have hK5 := hK4.set4 (x := U x) (y := U y) (z := U z) (t := U t) 3 rfl
  clear s0 s1 s2 s3 s4 s5 s6 s7 s8 r0 r1 r2 r3 r4 r5 r6 r7 r8 b0 b1 b2 b3 b4 b5 b6 b7 b8 a0 a1 a2 a3 a4 a5 a6 a7 a8
  obtain ⟨s0, s1, s2, s3, s4, s5, s6, s7, s8⟩ := hK4.box.head.four
  obtain ⟨r0, r1, r2, r3, r4, r5, r6, r7, r8⟩ := hK4.box.tail.head.four
  obtain ⟨b0, b1, b2, b3, b4, b5, b6, b7, b8⟩ := hK4.box.tail.tail.head.four
  obtain ⟨a0, a1, a2, a3, a4, a5, a6, a7, a8⟩ := hK4.box.tail.tail.tail.head.four
  clear hb3 hK2 hK3
  go_wp2_with fail
  refine (N2.out _).mono ?_
  rintro e w4 ⟨rfl, hb4⟩
  have hK6 := hK5.keep hb4
  have hK7 := hK6.set4 (x := U x') (y := U y') (z := U z') (t := U t') 2 rfl
  clear s0 s1 s2 s3 s4 s5 s6 s7 s8 r0 r1 r2 r3 r4 r5 r6 r7 r8 b0 b1 b2 b3 b4 b5 b6 b7 b8 a0 a1 a2 a3 a4 a5 a6 a7 a8
  obtain ⟨s0, s1, s2, s3, s4, s5, s6, s7, s8⟩ := hK6.box.head.four
  obtain ⟨r0, r1, r2, r3, r4, r5, r6, r7, r8⟩ := hK6.box.tail.head.four
  obtain ⟨b0, b1, b2, b3, b4, b5, b6, b7, b8⟩ := hK6.box.tail.tail.head.four
  obtain ⟨a0, a1, a2, a3, a4, a5, a6, a7, a8⟩ := hK6.box.tail.tail.tail.head.four
  clear hb4 hK4 hK5
  go_upto_region 7 with fail
  clear s0 s1 s2 s3 s4 s5 s6 s7 s8 r0 r1 r2 r3 r4 r5 r6 r7 r8 b0 b1 b2 b3 b4 b5 b6 b7 b8 a0 a1 a2 a3 a4 a5 a6 a7 a8
  clear hK6
  go_cut [52] (fun u wc => u = .bool (!q) ∧ Kp w wc [(w.heap.size + 1 + 1 + 1, [.int .u64 0, .int .u64 0, .int .u64 0, .int .u64 0]), (w.heap.size + 1 + 1, [.int .u64 0, .int .u64 0, .int .u64 0, .int .u64 0]), (w.heap.size + 1, [U x', U y', U z', U t']), (w.heap.size, [U x, U y, U z, U t])])
  case first =>
    cases may
    · go_wp2_with fail
      go_meet
      case rel => exact ⟨by rw [hq.out]; rfl, hK7⟩
    · cases i1
      · go_wp2_with fail
        go_meet
        case rel => exact ⟨by rw [hq.out]; rfl, hK7⟩
      · cases i2
        all_goals
          go_wp2_with fail
          go_meet
          case rel => exact ⟨by rw [hq.out]; rfl, hK7⟩
  case rest =>
    clear hK7 hq
    obtain ⟨rfl, hK8⟩ := hcut
    obtain ⟨s0, s1, s2, s3, s4, s5, s6, s7, s8⟩ := hK8.box.head.four
    obtain ⟨r0, r1, r2, r3, r4, r5, r6, r7, r8⟩ := hK8.box.tail.head.four
    obtain ⟨b0, b1, b2, b3, b4, b5, b6, b7, b8⟩ := hK8.box.tail.tail.head.four
    obtain ⟨a0, a1, a2, a3, a4, a5, a6, a7, a8⟩ := hK8.box.tail.tail.tail.head.four
    cases q
    · go_wp2_with fail
      exact bodyPost_ret (v := .tuple #[V0, V0, .bool false, N 0]) (by simp [results, Try.results111, go_sem, nv_zero, s0, s1, s2, s3, r0, r1, r2, r3]) rfl ⟨rfl, ((hK8.set4 1 rfl).set4 0 rfl).bel⟩
    · go_wp2_with fail
      go_region
      all_goals
        go_wp2_with fail
        exact bodyPost_ret (v := .tuple #[Vl x y z t, Vl x' y' z' t', .bool true, N 0]) (by simp [results, Try.results111, go_sem, s0, s1, s2, s3, r0, r1, r2, r3]) rfl ⟨rfl, Below.drew ((hK8.set4 1 rfl).set4 0 rfl).bel⟩

set_option maxRecDepth 100000 in
set_option maxHeartbeats 4000000 in
theorem leave_Less {p1 p2 : Value} {v m l g v' m' l' g' a b c d a' b' c' d' x y z t x' y' z' t' : BitVec 64} {may i1 i2 : Bool} {e1 e2 : Int} (hr : Hid ((valB v m l g && valB v' m' l' g') = true)) (w : World)
    (HR : Hid (∀ w', Below w.heap.size w w' → Calls Try.prog 118 #[p1, p2] w' fun e w'' => e = .returned (.tuple #[Vl a b c d, Vl a' b' c' d', .bool may]) ∧ Below w'.heap.size w' w''))
    (N1 : Hid (∀ w, Calls Try.prog 65 #[Vl a b c d] w fun e w' => e = .returned (.tuple #[Vl x y z t, .bool i1, N e1]) ∧ Below w.heap.size w w'))
    (N2 : Hid (∀ w, Calls Try.prog 65 #[Vl a' b' c' d'] w fun e w' => e = .returned (.tuple #[Vl x' y' z' t', .bool i2, N e2]) ∧ Below w.heap.size w w')) :
    Calls Try.prog 111 #[Vl v m l g, Vl v' m' l' g', .func (.func 118) #[] #[p1, p2]] w fun e w' => e = .returned (.tuple #[lv (may && (i1 && i2)) (Vl x y z t), lv (may && (i1 && i2)) (Vl x' y' z' t'), .bool (may && (i1 && i2)), N 0]) ∧ Below w.heap.size w w' := by
  obtain ⟨z1, H1⟩ : ∃ b, Hid (valB v m l g = b) := ⟨_, rfl⟩
  obtain ⟨z2, H2⟩ : ∃ b, Hid (valB v' m' l' g' = b) := ⟨_, rfl⟩
  rw [H1.out, H2.out] at hr
  obtain ⟨q, hq⟩ : ∃ q, Hid (q = (may && (i1 && i2))) := ⟨_, rfl⟩
  rw [← hq.out]
  go_enter Try.func111, Try.ntmps111
  go_wp2_with fail
  refine (vcheck2 H1 H2 (by simp) (by simp [go_sem]) (by simp [go_sem]) (by simp [go_sem]) (by simp [go_sem]) (by simp [go_sem]) (by simp [go_sem]) (by simp [go_sem]) (by simp [go_sem])).mono ?_
  rw [hr.out, er_t]
  rintro e w1 ⟨rfl, hb1⟩
  have hK := ((((((Kp.start w).add4 _ _ _ _ _).add4 _ _ _ _ _).add4 _ _ _ _ _).add4 _ _ _ _ _).keep ((Below.refl _ _).alloc (Nat.le_refl _) _)).keep hb1
  simp only [World.size_alloc] at hK
  clear hb1
  go_wp2_with fail
  refine (HR.out _ hK.bel).mono ?_
  rintro e w2 ⟨rfl, hb2⟩
  have hK2 := hK.keep hb2
  have hK3 := (hK2.set4 (x := U a) (y := U b) (z := U c) (t := U d) 3 rfl).set4 (x := U a') (y := U b') (z := U c') (t := U d') 2 rfl
  obtain ⟨s0, s1, s2, s3, s4, s5, s6, s7, s8⟩ := hK2.box.head.four
  obtain ⟨r0, r1, r2, r3, r4, r5, r6, r7, r8⟩ := hK2.box.tail.head.four
  obtain ⟨b0, b1, b2, b3, b4, b5, b6, b7, b8⟩ := hK2.box.tail.tail.head.four
  obtain ⟨a0, a1, a2, a3, a4, a5, a6, a7, a8⟩ := hK2.box.tail.tail.tail.head.four
  clear hb2 hK
  go_wp2_with fail
  refine (N1.out _).mono ?_
  rintro e w3 ⟨rfl, hb3⟩
  have hK4 := hK3.keep hb3
  have hK5 := hK4.set4 (x := U x) (y := U y) (z := U z) (t := U t) 3 rfl
  clear s0 s1 s2 s3 s4 s5 s6 s7 s8 r0 r1 r2 r3 r4 r5 r6 r7 r8 b0 b1 b2 b3 b4 b5 b6 b7 b8 a0 a1 a2 a3 a4 a5 a6 a7 a8
  obtain ⟨s0, s1, s2, s3, s4, s5, s6, s7, s8⟩ := hK4.box.head.four
  obtain ⟨r0, r1, r2, r3, r4, r5, r6, r7, r8⟩ := hK4.box.tail.head.four
  obtain ⟨b0, b1, b2, b3, b4, b5, b6, b7, b8⟩ := hK4.box.tail.tail.head.four
  obtain ⟨a0, a1, a2, a3, a4, a5, a6, a7, a8⟩ := hK4.box.tail.tail.tail.head.four
  clear hb3 hK2 hK3
  go_wp2_with fail
  refine (N2.out _).mono ?_
  rintro e w4 ⟨rfl, hb4⟩
  have hK6 := hK5.keep hb4
  have hK7 := hK6.set4 (x := U x') (y := U y') (z := U z') (t := U t') 2 rfl
  clear s0 s1 s2 s3 s4 s5 s6 s7 s8 r0 r1 r2 r3 r4 r5 r6 r7 r8 b0 b1 b2 b3 b4 b5 b6 b7 b8 a0 a1 a2 a3 a4 a5 a6 a7 a8
  obtain ⟨s0, s1, s2, s3, s4, s5, s6, s7, s8⟩ := hK6.box.head.four
  obtain ⟨r0, r1, r2, r3, r4, r5, r6, r7, r8⟩ := hK6.box.tail.head.four
  obtain ⟨b0, b1, b2, b3, b4, b5, b6, b7, b8⟩ := hK6.box.tail.tail.head.four
  obtain ⟨a0, a1, a2, a3, a4, a5, a6, a7, a8⟩ := hK6.box.tail.tail.tail.head.four
  clear hb4 hK4 hK5
  go_upto_region 7 with fail
  clear s0 s1 s2 s3 s4 s5 s6 s7 s8 r0 r1 r2 r3 r4 r5 r6 r7 r8 b0 b1 b2 b3 b4 b5 b6 b7 b8 a0 a1 a2 a3 a4 a5 a6 a7 a8
  clear hK6
  go_cut [52] (fun u wc => u = .bool (!q) ∧ Kp w wc [(w.heap.size + 1 + 1 + 1, [.int .u64 0, .int .u64 0, .int .u64 0, .int .u64 0]), (w.heap.size + 1 + 1, [.int .u64 0, .int .u64 0, .int .u64 0, .int .u64 0]), (w.heap.size + 1, [U x', U y', U z', U t']), (w.heap.size, [U x, U y, U z, U t])])
  case first =>
    cases may
    · go_wp2_with fail
      go_meet
      case rel => exact ⟨by rw [hq.out]; rfl, hK7⟩
    · cases i1
      · go_wp2_with fail
        go_meet
        case rel => exact ⟨by rw [hq.out]; rfl, hK7⟩
      · cases i2
        all_goals
          go_wp2_with fail
          go_meet
          case rel => exact ⟨by rw [hq.out]; rfl, hK7⟩
  case rest =>
    clear hK7 hq
    obtain ⟨rfl, hK8⟩ := hcut
    obtain ⟨s0, s1, s2, s3, s4, s5, s6, s7, s8⟩ := hK8.box.head.four
    obtain ⟨r0, r1, r2, r3, r4, r5, r6, r7, r8⟩ := hK8.box.tail.head.four
    obtain ⟨b0, b1, b2, b3, b4, b5, b6, b7, b8⟩ := hK8.box.tail.tail.head.four
    obtain ⟨a0, a1, a2, a3, a4, a5, a6, a7, a8⟩ := hK8.box.tail.tail.tail.head.four
    cases q
    · go_wp2_with fail
      exact bodyPost_ret (v := .tuple #[V0, V0, .bool false, N 0]) (by simp [results, Try.results111, go_sem, nv_zero, s0, s1, s2, s3, r0, r1, r2, r3]) rfl ⟨rfl, ((hK8.set4 1 rfl).set4 0 rfl).bel⟩
    · go_wp2_with fail
      go_region
      all_goals
        go_wp2_with fail
        exact bodyPost_ret (v := .tuple #[Vl x y z t, Vl x' y' z' t', .bool true, N 0]) (by simp [results, Try.results111, go_sem, s0, s1, s2, s3, r0, r1, r2, r3]) rfl ⟨rfl, Below.drew ((hK8.set4 1 rfl).set4 0 rfl).bel⟩

set_option maxRecDepth 100000 in
set_option maxHeartbeats 4000000 in
theorem leave_NotLess {p1 p2 : Value} {v m l g v' m' l' g' a b c d a' b' c' d' x y z t x' y' z' t' : BitVec 64} {may i1 i2 : Bool} {e1 e2 : Int} (hr : Hid ((valB v m l g && valB v' m' l' g') = true)) (w : World)
    (HR : Hid (∀ w', Below w.heap.size w w' → Calls Try.prog 116 #[p1, p2] w' fun e w'' => e = .returned (.tuple #[Vl a b c d, Vl a' b' c' d', .bool may]) ∧ Below w'.heap.size w' w''))
    (N1 : Hid (∀ w, Calls Try.prog 65 #[Vl a b c d] w fun e w' => e = .returned (.tuple #[Vl x y z t, .bool i1, N e1]) ∧ Below w.heap.size w w'))
    (N2 : Hid (∀ w, Calls Try.prog 65 #[Vl a' b' c' d'] w fun e w' => e = .returned (.tuple #[Vl x' y' z' t', .bool i2, N e2]) ∧ Below w.heap.size w w')) :
    Calls Try.prog 111 #[Vl v m l g, Vl v' m' l' g', .func (.func 116) #[] #[p1, p2]] w fun e w' => e = .returned (.tuple #[lv (may && (i1 && i2)) (Vl x y z t), lv (may && (i1 && i2)) (Vl x' y' z' t'), .bool (may && (i1 && i2)), N 0]) ∧ Below w.heap.size w w' := by
  obtain ⟨z1, H1⟩ : ∃ b, Hid (valB v m l g = b) := ⟨_, rfl⟩
  obtain ⟨z2, H2⟩ : ∃ b, Hid (valB v' m' l' g' = b) := ⟨_, rfl⟩
  rw [H1.out, H2.out] at hr
  obtain ⟨q, hq⟩ : ∃ q, Hid (q = (may && (i1 && i2))) := ⟨_, rfl⟩
  rw [← hq.out]
  go_enter Try.func111, Try.ntmps111
  go_wp2_with fail
  refine (vcheck2 H1 H2 (by simp) (by simp [go_sem]) (by simp [go_sem]) (by simp [go_sem]) (by simp [go_sem]) (by simp [go_sem]) (by simp [go_sem]) (by simp [go_sem]) (by simp [go_sem])).mono ?_
  rw [hr.out, er_t]
  rintro e w1 ⟨rfl, hb1⟩
  have hK := ((((((Kp.start w).add4 _ _ _ _ _).add4 _ _ _ _ _).add4 _ _ _ _ _).add4 _ _ _ _ _).keep ((Below.refl _ _).alloc (Nat.le_refl _) _)).keep hb1
  simp only [World.size_alloc] at hK
  clear hb1
  go_wp2_with fail
  refine (HR.out _ hK.bel).mono ?_
  rintro e w2 ⟨rfl, hb2⟩
  have hK2 := hK.keep hb2
  have hK3 := (hK2.set4 (x := U a) (y := U b) (z := U c) (t := U d) 3 rfl).set4 (x := U a') (y := U b') (z := U c') (t := U d') 2 rfl
  obtain ⟨s0, s1, s2, s3, s4, s5, s6, s7, s8⟩ := hK2.box.head.four
  obtain ⟨r0, r1, r2, r3, r4, r5, r6, r7, r8⟩ := hK2.box.tail.head.four
  obtain ⟨b0, b1, b2, b3, b4, b5, b6, b7, b8⟩ := hK2.box.tail.tail.head.four
  obtain ⟨a0, a1, a2, a3, a4, a5, a6, a7, a8⟩ := hK2.box.tail.tail.tail.head.four
  clear hb2 hK
  go_wp2_with fail
  refine (N1.out _).mono ?_
  rintro e w3 ⟨rfl, hb3⟩
  have hK4 := hK3.keep hb3
  have hK5 := hK4.set4 (x := U x) (y := U y) (z := U z) (t := U t) 3 rfl
  clear s0 s1 s2 s3 s4 s5 s6 s7 s8 r0 r1 r2 r3 r4 r5 r6 r7 r8 b0 b1 b2 b3 b4 b5 b6 b7 b8 a0 a1 a2 a3 a4 a5 a6 a7 a8
  obtain ⟨s0, s1, s2, s3, s4, s5, s6, s7, s8⟩ := hK4.box.head.four
  obtain ⟨r0, r1, r2, r3, r4, r5, r6, r7, r8⟩ := hK4.box.tail.head.four
  obtain ⟨b0, b1, b2, b3, b4, b5, b6, b7, b8⟩ := hK4.box.tail.tail.head.four
  obtain ⟨a0, a1, a2, a3, a4, a5, a6, a7, a8⟩ := hK4.box.tail.tail.tail.head.four
  clear hb3 hK2 hK3
  go_wp2_with fail
  refine (N2.out _).mono ?_
  rintro e w4 ⟨rfl, hb4⟩
  have hK6 := hK5.keep hb4
  have hK7 := hK6.set4 (x := U x') (y := U y') (z := U z') (t := U t') 2 rfl
  clear s0 s1 s2 s3 s4 s5 s6 s7 s8 r0 r1 r2 r3 r4 r5 r6 r7 r8 b0 b1 b2 b3 b4 b5 b6 b7 b8 a0 a1 a2 a3 a4 a5 a6 a7 a8
  obtain ⟨s0, s1, s2, s3, s4, s5, s6, s7, s8⟩ := hK6.box.head.four
  obtain ⟨r0, r1, r2, r3, r4, r5, r6, r7, r8⟩ := hK6.box.tail.head.four
  obtain ⟨b0, b1, b2, b3, b4, b5, b6, b7, b8⟩ := hK6.box.tail.tail.head.four
  obtain ⟨a0, a1, a2, a3, a4, a5, a6, a7, a8⟩ := hK6.box.tail.tail.tail.head.four
  clear hb4 hK4 hK5
  go_upto_region 7 with fail
  clear s0 s1 s2 s3 s4 s5 s6 s7 s8 r0 r1 r2 r3 r4 r5 r6 r7 r8 b0 b1 b2 b3 b4 b5 b6 b7 b8 a0 a1 a2 a3 a4 a5 a6 a7 a8
  clear hK6
  go_cut [52] (fun u wc => u = .bool (!q) ∧ Kp w wc [(w.heap.size + 1 + 1 + 1, [.int .u64 0, .int .u64 0, .int .u64 0, .int .u64 0]), (w.heap.size + 1 + 1, [.int .u64 0, .int .u64 0, .int .u64 0, .int .u64 0]), (w.heap.size + 1, [U x', U y', U z', U t']), (w.heap.size, [U x, U y, U z, U t])])
  case first =>
    cases may
    · go_wp2_with fail
      go_meet
      case rel => exact ⟨by rw [hq.out]; rfl, hK7⟩
    · cases i1
      · go_wp2_with fail
        go_meet
        case rel => exact ⟨by rw [hq.out]; rfl, hK7⟩
      · cases i2
        all_goals
          go_wp2_with fail
          go_meet
          case rel => exact ⟨by rw [hq.out]; rfl, hK7⟩
  case rest =>
    clear hK7 hq
    obtain ⟨rfl, hK8⟩ := hcut
    obtain ⟨s0, s1, s2, s3, s4, s5, s6, s7, s8⟩ := hK8.box.head.four
    obtain ⟨r0, r1, r2, r3, r4, r5, r6, r7, r8⟩ := hK8.box.tail.head.four
    obtain ⟨b0, b1, b2, b3, b4, b5, b6, b7, b8⟩ := hK8.box.tail.tail.head.four
    obtain ⟨a0, a1, a2, a3, a4, a5, a6, a7, a8⟩ := hK8.box.tail.tail.tail.head.four
    cases q
    · go_wp2_with fail
      exact bodyPost_ret (v := .tuple #[V0, V0, .bool false, N 0]) (by simp [results, Try.results111, go_sem, nv_zero, s0, s1, s2, s3, r0, r1, r2, r3]) rfl ⟨rfl, ((hK8.set4 1 rfl).set4 0 rfl).bel⟩
    · go_wp2_with fail
      go_region
      all_goals
        go_wp2_with fail
        exact bodyPost_ret (v := .tuple #[Vl x y z t, Vl x' y' z' t', .bool true, N 0]) (by simp [results, Try.results111, go_sem, s0, s1, s2, s3, r0, r1, r2, r3]) rfl ⟨rfl, Below.drew ((hK8.set4 1 rfl).set4 0 rfl).bel⟩

end Go.Proofs.Ytkigmocchaikgab

/- The contract of the reference's JoinVal, of right ones. -/
namespace Go.Proofs.Ytkigmocchaikgab
open Go.RowKit
attribute [local go_sem] w_and w_or w_xor w_andNot w_and1 w_and63 w_add w_sub w_mul w_sub1 w_add1 w_shl w_shl1 w_shr c_beq c_bne c_beq0 c_bne0 c_beq1 c_bne1 wrap_nv
theorem Kp.drop' {w0 w : World} {p : Nat × List Value} {L : List (Nat × List Value)} (h : Kp w0 w (p :: L)) : Kp w0 w L := ⟨h.bel, h.box.tail, fun q hq => h.lo q (List.mem_cons_of_mem _ hq)⟩
theorem Kp.other1 {w0 w : World} {L : List (Nat × List Value)} (h : Kp w0 w L) {b i : Nat} (v : Value) (hlo : w0.heap.size ≤ b) (hne : ∀ p, p ∈ L → p.1 ≠ b) : Kp w0 (w.setCell ⟨b, i, none⟩ v) L :=
  ⟨h.bel.setCell hlo v, h.box.other hne, h.lo⟩
theorem Kp.other4 {w0 w : World} {L : List (Nat × List Value)} (h : Kp w0 w L) {b : Nat} (x y z t : Value) (hlo : w0.heap.size ≤ b) (hne : ∀ p, p ∈ L → p.1 ≠ b) :
    Kp w0 ((((w.setCell ⟨b, 0, none⟩ x).setCell ⟨b, 1, none⟩ y).setCell ⟨b, 2, none⟩ z).setCell ⟨b, 3, none⟩ t) L :=
  (((h.other1 x hlo hne).other1 y hlo hne).other1 z hlo hne).other1 t hlo hne
end Go.Proofs.Ytkigmocchaikgab

/- The contracts of the functions that Equal and Less hand to leave. -/
namespace Go.Proofs.Ytkigmocchaikgab
open Go.RowKit
attribute [local go_sem] w_and w_or w_xor w_andNot w_and1 w_and63 w_add w_sub w_mul w_sub1 w_add1 w_shl w_shl1 w_shr c_beq c_bne c_beq0 c_bne0 c_beq1 c_bne1 wrap_nv

/- the two that are captured -/
def Cap (w : World) (b1 b2 : Nat) (v m l g v' m' l' g' : BitVec 64) : Prop :=
  b1 < w.heap.size ∧ b2 < w.heap.size ∧ w.cell? ⟨b1, 0, none⟩ = some (U v) ∧ w.cell? ⟨b1, 1, none⟩ = some (U m) ∧ w.cell? ⟨b1, 2, none⟩ = some (U l) ∧ w.cell? ⟨b1, 3, none⟩ = some (U g)
  ∧ w.cell? ⟨b2, 0, none⟩ = some (U v') ∧ w.cell? ⟨b2, 1, none⟩ = some (U m') ∧ w.cell? ⟨b2, 2, none⟩ = some (U l') ∧ w.cell? ⟨b2, 3, none⟩ = some (U g')
theorem Cap.keep {w w' : World} {b1 b2 : Nat} {v m l g v' m' l' g' : BitVec 64} (h : Cap w b1 b2 v m l g v' m' l' g') (hb : Below w.heap.size w w') : Cap w' b1 b2 v m l g v' m' l' g' := by
  obtain ⟨s1, s2, a0, a1, a2, a3, c0, c1, c2, c3⟩ := h
  exact ⟨Nat.lt_of_lt_of_le s1 hb.size, Nat.lt_of_lt_of_le s2 hb.size, (hb.cell (p := ⟨b1, 0, none⟩) s1).trans a0, (hb.cell (p := ⟨b1, 1, none⟩) s1).trans a1, (hb.cell (p := ⟨b1, 2, none⟩) s1).trans a2, (hb.cell (p := ⟨b1, 3, none⟩) s1).trans a3,
    (hb.cell (p := ⟨b2, 0, none⟩) s2).trans c0, (hb.cell (p := ⟨b2, 1, none⟩) s2).trans c1, (hb.cell (p := ⟨b2, 2, none⟩) s2).trans c2, (hb.cell (p := ⟨b2, 3, none⟩) s2).trans c3⟩

set_option maxRecDepth 100000 in
set_option maxHeartbeats 4000000 in
theorem equal1_is {b1 b2 : Nat} {v m l g v' m' l' g' kv km lo hi : BitVec 64} {may : Bool} {w : World} (hc : Hid (Cap w b1 b2 v m l g v' m' l' g'))
    (HM : Hid (∀ w, Calls Try.prog 102 #[Bt v m, Bt v' m'] w fun e w' => e = .returned (.tuple #[Bt kv km, .bool may, N 0]) ∧ Below w.heap.size w w'))
    (m1 : Hid (bmax l l' = lo)) (m2 : Hid (bmin g g' = hi)) :
    Calls Try.prog 115 #[PT b1, PT b2] w fun e w' => e = .returned (.tuple #[Vl kv km lo hi, Vl kv km lo hi, .bool may]) ∧ Below w.heap.size w w' := by
  have e1 : (if nv l < nv l' then nv l' else nv l) = nv lo := by rw [← m1.out]; unfold bmax; split <;> rfl
  have e2 : (if nv g' < nv g then nv g' else nv g) = nv hi := by rw [← m2.out]; unfold bmin; split <;> rfl
  obtain ⟨s1, s2, a0, a1, a2, a3, c0, c1, c2, c3⟩ := hc.out
  go_enter Try.func115, Try.ntmps115
  go_wp2_with fail
  refine (HM.out _).mono ?_
  rintro e w1 ⟨rfl, hb1⟩
  have hK := (((Kp.start w).add4 _ _ _ _ _).add4 _ _ _ _ _).keep hb1
  simp only [World.size_alloc] at hK
  have hcc := hc.out.keep hK.bel
  clear s1 s2 a0 a1 a2 a3 c0 c1 c2 c3
  obtain ⟨s1, s2, a0, a1, a2, a3, c0, c1, c2, c3⟩ := hcc
  obtain ⟨t0, t1, t2, t3, t4, t5, t6, t7, t8⟩ := hK.box.head.four
  obtain ⟨r0, r1, r2, r3, r4, r5, r6, r7, r8⟩ := hK.box.tail.head.four
  go_wp2_with fail
  have hK2 := (hK.add2 (U kv) (U km) 39).add4 (U kv) (U km) (U lo) (U hi) 41
  simp only [World.size_alloc] at hK2
  have n1 : w.heap.size ≠ w1.heap.size + 1 := by omega
  have n2 : w1.heap.size + 1 ≠ w.heap.size := by omega
  have n3 : w.heap.size ≠ w1.heap.size := by omega
  have n4 : w1.heap.size ≠ w.heap.size := by omega
  have n5 : w.heap.size + 1 ≠ w1.heap.size := by omega
  have n6 : w1.heap.size ≠ w.heap.size + 1 := by omega
  clear t0 t1 t2 t3 t4 t5 t6 t7 t8 r0 r1 r2 r3 r4 r5 r6 r7 r8
  obtain ⟨k0, k1, k2, k3, k4, k5, k6, k7, k8⟩ := hK2.box.head.four
  obtain ⟨t0, t1, t2, t3, t4, t5, t6, t7, t8⟩ := hK2.box.tail.tail.head.four
  obtain ⟨r0, r1, r2, r3, r4, r5, r6, r7, r8⟩ := hK2.box.tail.tail.tail.head.four
  go_region
  all_goals
    go_wp2_with fail
    refine bodyPost_ret (v := .tuple #[Vl kv km lo hi, Vl kv km lo hi, .bool may]) ?_ rfl ⟨rfl, ?_⟩
    · simp [results, Try.results115, go_sem, t0, t1, t2, t3, r0, r1, r2, r3]
    · exact Below.drew ((hK2.set4 3 rfl).set4 2 rfl).bel

set_option maxRecDepth 100000 in
set_option maxHeartbeats 4000000 in
theorem notLess1_is {b1 b2 : Nat} {v m l g v' m' l' g' : BitVec 64} {w : World} (hc : Hid (Cap w b1 b2 v m l g v' m' l' g')) :
    Calls Try.prog 116 #[PT b1, PT b2] w fun e w' => e = .returned (.tuple #[Vl v m (bmax l l') (bmin g g), Vl v' m' (bmax l' l') (bmin g' g), .bool true]) ∧ Below w.heap.size w w' := by
  obtain ⟨s1, s2, a0, a1, a2, a3, c0, c1, c2, c3⟩ := hc.out
  have hK0 := ((Kp.start w).add4 (.int .u64 0) (.int .u64 0) (.int .u64 0) (.int .u64 0) 41).add4 (.int .u64 0) (.int .u64 0) (.int .u64 0) (.int .u64 0) 41
  simp only [World.size_alloc] at hK0
  go_enter Try.func116, Try.ntmps116
  go_wp2_with fail
  have hS0 : Kp w _ [] := (hK0).drop'.drop'.keep (Below.drew (Below.refl _ _))
  have hR0 := (hK0).keep (Below.drew (Below.refl _ _))
  have HS : Hid (∀ w', Kp w w' [] → Kp w w' [] ∧ w'.cell? ⟨b1, 0, none⟩ = some (U v) ∧ w'.cell? ⟨b1, 1, none⟩ = some (U m) ∧ w'.cell? ⟨b1, 2, none⟩ = some (U l) ∧ w'.cell? ⟨b1, 3, none⟩ = some (U g) ∧ w'.cell? ⟨b2, 0, none⟩ = some (U v') ∧ w'.cell? ⟨b2, 1, none⟩ = some (U m') ∧ w'.cell? ⟨b2, 2, none⟩ = some (U l') ∧ w'.cell? ⟨b2, 3, none⟩ = some (U g')) := by
    intro w' hk
    obtain ⟨_, _, d0, d1, d2, d3, f0, f1, f2, f3⟩ := hc.out.keep hk.bel
    exact ⟨hk, d0, d1, d2, d3, f0, f1, f2, f3⟩
  go_region_held3 (fun w' => Kp w w' [] ∧ w'.cell? ⟨b1, 0, none⟩ = some (U v) ∧ w'.cell? ⟨b1, 1, none⟩ = some (U m) ∧ w'.cell? ⟨b1, 2, none⟩ = some (U l) ∧ w'.cell? ⟨b1, 3, none⟩ = some (U g) ∧ w'.cell? ⟨b2, 0, none⟩ = some (U v') ∧ w'.cell? ⟨b2, 1, none⟩ = some (U m') ∧ w'.cell? ⟨b2, 2, none⟩ = some (U l') ∧ w'.cell? ⟨b2, 3, none⟩ = some (U g'))
    ((refine HS.out _ ?_; repeat (first | refine Kp.other4 ?_ _ _ _ _ (by first | exact Nat.le_refl _ | omega) (by simp) | exact hS0 | refine Kp.keep ?_ (by assumption) | refine Kp.keep ?_ (Below.drew (Below.refl _ _)))))
    (first
      | (go_at_call 117; refine (between_any _ _ _ _ _ _ _).mono ?_; rintro e wk ⟨rfl, hb⟩; first | (have hR2 := hR1.keep hb; obtain ⟨t0, t1, t2, t3, t4, t5, t6, t7, t8⟩ := hR2.box.head.four; obtain ⟨r0, r1, r2, r3, r4, r5, r6, r7, r8⟩ := hR2.box.tail.head.four) | (have hR1 := hR0.keep hb)))
  all_goals
    go_wp2_with fail
    refine bodyPost_ret (v := .tuple #[Vl v m (bmax l l') (bmin g g), Vl v' m' (bmax l' l') (bmin g' g), .bool true]) ?_ rfl ⟨rfl, ?_⟩
    · simp [results, Try.results116, go_sem, t0, t1, t2, t3, r0, r1, r2, r3]
    · exact ((hR2.set4 1 rfl).set4 0 rfl).bel

end Go.Proofs.Ytkigmocchaikgab

/- The contracts of the functions that Less and Other hand to leave. (Written by gen_w28.py.) -/
namespace Go.Proofs.Ytkigmocchaikgab
open Go.RowKit
attribute [local go_sem] w_and w_or w_xor w_andNot w_and1 w_and63 w_add w_sub w_mul w_sub1 w_add1 w_shl w_shl1 w_shr c_beq c_bne c_beq0 c_bne0 c_beq1 c_bne1 wrap_nv
theorem c_beqT (x : BitVec 64) : (nv x == 18446744073709551615) = eqb x top := by rw [← nv_top]; exact c_beq x top
attribute [local go_sem] c_beqT

set_option maxRecDepth 100000 in
set_option maxHeartbeats 4000000 in
theorem less1_no {b1 b2 : Nat} {v m l g v' m' l' g' : BitVec 64} {w : World} (hc : Hid (Cap w b1 b2 v' m' l' g' v m l g)) (hn : Hid ((eqb g' zero || eqb l top) = true)) :
    Calls Try.prog 118 #[PT b1, PT b2] w fun e w' => e = .returned (.tuple #[Vl v m l g, Vl v' m' l' g', .bool false]) ∧ Below w.heap.size w w' := by
  obtain ⟨s1, s2, a0, a1, a2, a3, c0, c1, c2, c3⟩ := hc.out
  have hK0 := ((Kp.start w).add4 (.int .u64 0) (.int .u64 0) (.int .u64 0) (.int .u64 0) 41).add4 (.int .u64 0) (.int .u64 0) (.int .u64 0) (.int .u64 0) 41
  simp only [World.size_alloc] at hK0
  obtain ⟨t0, t1, t2, t3, t4, t5, t6, t7, t8⟩ := hK0.box.head.four
  obtain ⟨r0, r1, r2, r3, r4, r5, r6, r7, r8⟩ := hK0.box.tail.head.four
  have n1 : b1 ≠ w.heap.size := by omega
  have n2 : b2 ≠ w.heap.size := by omega
  have n3 : w.heap.size ≠ b1 := by omega
  have n4 : w.heap.size ≠ b2 := by omega
  have n5 : b1 ≠ w.heap.size + 1 := by omega
  have n6 : b2 ≠ w.heap.size + 1 := by omega
  have n7 : w.heap.size + 1 ≠ b1 := by omega
  have n8 : w.heap.size + 1 ≠ b2 := by omega
  cases z1 : eqb g' zero
  · have z2 : eqb l top = true := by have := hn.out; rw [z1] at this; simpa using this
    go_enter Try.func118, Try.ntmps118
    go_wp2_with fail
    go_region
    all_goals
      go_wp2_with fail
      refine bodyPost_ret (v := .tuple #[Vl v m l g, Vl v' m' l' g', .bool false]) ?_ rfl ⟨rfl, ?_⟩
      · simp [results, Try.results118, go_sem]
      · exact (by repeat (first | exact Below.refl _ _ | assumption | refine below_drewN ?_ _ | refine Below.drew ?_ | refine Below.alloc ?_ (by first | exact Nat.le_refl _ | (simp; done) | (simp; omega) | omega) _ | refine Below.setCell ?_ (by first | exact Nat.le_refl _ | (simp; done) | (simp; omega) | omega) _ | refine Below.trans ?_ (Below.mono (by assumption) (by first | exact Nat.le_refl _ | (simp; done) | (simp; omega) | omega))))
  · go_enter Try.func118, Try.ntmps118
    go_wp2_with fail
    go_region
    all_goals
      go_wp2_with fail
      refine bodyPost_ret (v := .tuple #[Vl v m l g, Vl v' m' l' g', .bool false]) ?_ rfl ⟨rfl, ?_⟩
      · simp [results, Try.results118, go_sem]
      · exact (by repeat (first | exact Below.refl _ _ | assumption | refine below_drewN ?_ _ | refine Below.drew ?_ | refine Below.alloc ?_ (by first | exact Nat.le_refl _ | (simp; done) | (simp; omega) | omega) _ | refine Below.setCell ?_ (by first | exact Nat.le_refl _ | (simp; done) | (simp; omega) | omega) _ | refine Below.trans ?_ (Below.mono (by assumption) (by first | exact Nat.le_refl _ | (simp; done) | (simp; omega) | omega))))
set_option maxRecDepth 100000 in
set_option maxHeartbeats 4000000 in
theorem less1_yes {b1 b2 : Nat} {v m l g v' m' l' g' : BitVec 64} {w : World} (hc : Hid (Cap w b1 b2 v' m' l' g' v m l g)) (z1 : eqb g' zero = false) (z2 : eqb l top = false) :
    Calls Try.prog 118 #[PT b1, PT b2] w fun e w' => e = .returned (.tuple #[Vl v m (bmax l l) (bmin g (bsub g' one)), Vl v' m' (bmax l' (badd l one)) (bmin g' g'), .bool true]) ∧ Below w.heap.size w w' := by
  obtain ⟨s1, s2, a0, a1, a2, a3, c0, c1, c2, c3⟩ := hc.out
  have hK0 := ((Kp.start w).add4 (.int .u64 0) (.int .u64 0) (.int .u64 0) (.int .u64 0) 41).add4 (.int .u64 0) (.int .u64 0) (.int .u64 0) (.int .u64 0) 41
  simp only [World.size_alloc] at hK0
  go_enter Try.func118, Try.ntmps118
  go_wp2_with fail
  go_quiet (fail)
  go_wp2_with fail
  have hS0 : Kp w _ [] := (hK0.drew nq).drop'.drop'.keep (Below.drew (Below.refl _ _))
  have hR0 := (hK0.drew nq).keep (Below.drew (Below.refl _ _))
  have HS : Hid (∀ w', Kp w w' [] → Kp w w' [] ∧ w'.cell? ⟨b1, 0, none⟩ = some (U v') ∧ w'.cell? ⟨b1, 1, none⟩ = some (U m') ∧ w'.cell? ⟨b1, 2, none⟩ = some (U l') ∧ w'.cell? ⟨b1, 3, none⟩ = some (U g') ∧ w'.cell? ⟨b2, 0, none⟩ = some (U v) ∧ w'.cell? ⟨b2, 1, none⟩ = some (U m) ∧ w'.cell? ⟨b2, 2, none⟩ = some (U l) ∧ w'.cell? ⟨b2, 3, none⟩ = some (U g)) := by
    intro w' hk
    obtain ⟨_, _, d0, d1, d2, d3, f0, f1, f2, f3⟩ := hc.out.keep hk.bel
    exact ⟨hk, d0, d1, d2, d3, f0, f1, f2, f3⟩
  go_region_held3 (fun w' => Kp w w' [] ∧ w'.cell? ⟨b1, 0, none⟩ = some (U v') ∧ w'.cell? ⟨b1, 1, none⟩ = some (U m') ∧ w'.cell? ⟨b1, 2, none⟩ = some (U l') ∧ w'.cell? ⟨b1, 3, none⟩ = some (U g') ∧ w'.cell? ⟨b2, 0, none⟩ = some (U v) ∧ w'.cell? ⟨b2, 1, none⟩ = some (U m) ∧ w'.cell? ⟨b2, 2, none⟩ = some (U l) ∧ w'.cell? ⟨b2, 3, none⟩ = some (U g))
    ((refine HS.out _ ?_; repeat (first | refine Kp.other4 ?_ _ _ _ _ (by first | exact Nat.le_refl _ | omega) (by simp) | exact hS0 | refine Kp.keep ?_ (by assumption) | refine Kp.keep ?_ (Below.drew (Below.refl _ _)))))
    (first
      | (go_at_call 117; refine (between_any _ _ _ _ _ _ _).mono ?_; rintro e wk ⟨rfl, hb⟩; first | (have hR2 := hR1.keep hb; obtain ⟨t0, t1, t2, t3, t4, t5, t6, t7, t8⟩ := hR2.box.head.four; obtain ⟨r0, r1, r2, r3, r4, r5, r6, r7, r8⟩ := hR2.box.tail.head.four) | (have hR1 := hR0.keep hb)))
  all_goals
    go_wp2_with fail
    refine bodyPost_ret (v := .tuple #[Vl v m (bmax l l) (bmin g (bsub g' one)), Vl v' m' (bmax l' (badd l one)) (bmin g' g'), .bool true]) ?_ rfl ⟨rfl, ?_⟩
    · simp [results, Try.results118, go_sem, t0, t1, t2, t3, r0, r1, r2, r3]
    · exact ((hR2.set4 1 rfl).set4 0 rfl).bel

set_option maxRecDepth 100000 in
set_option maxHeartbeats 4000000 in
theorem other1_is {b1 b2 : Nat} {v m l g v' m' l' g' : BitVec 64} {w : World} {q : Bool} (hc : Hid (Cap w b1 b2 v m l g v' m' l' g')) (hq : Hid (q = (eqb l g && (eqb l' g' && eqb l l')))) :
    Calls Try.prog 112 #[PT b1, PT b2] w fun e w' => e = .returned (.tuple #[Vl v m (woL l l' g') (woH l g l' g'), Vl v' m' (woL l' l g) (woH l' g' l g), .bool (!q)]) ∧ Below w.heap.size w w' := by
  obtain ⟨s1, s2, a0, a1, a2, a3, c0, c1, c2, c3⟩ := hc.out
  obtain ⟨y1, Y1⟩ : ∃ b, Hid (eqb l g = b) := ⟨_, rfl⟩
  obtain ⟨y2, Y2⟩ : ∃ b, Hid (eqb l' g' = b) := ⟨_, rfl⟩
  obtain ⟨y3, Y3⟩ : ∃ b, eqb l l' = b := ⟨_, rfl⟩
  rw [Y1.out, Y2.out, Y3] at hq
  have hK0 := ((Kp.start w).add4 (.int .u64 0) (.int .u64 0) (.int .u64 0) (.int .u64 0) 41).add4 (.int .u64 0) (.int .u64 0) (.int .u64 0) (.int .u64 0) 41
  simp only [World.size_alloc] at hK0
  go_enter Try.func112, Try.ntmps112
  go_upto_region 1 with fail
  go_cut [5] (fun u wc => u = .bool q ∧ Kp w wc [(w.heap.size + 1, [.int .u64 0, .int .u64 0, .int .u64 0, .int .u64 0]), (w.heap.size, [.int .u64 0, .int .u64 0, .int .u64 0, .int .u64 0])])
  case first =>
    go_wp2_with fail
    refine (alone_is Y1.out _).mono ?_
    rintro e w1 ⟨rfl, hb1⟩
    have hK1 := hK0.keep hb1
    clear s1 s2 a0 a1 a2 a3 c0 c1 c2 c3
    obtain ⟨s1, s2, a0, a1, a2, a3, c0, c1, c2, c3⟩ := hc.out.keep hK1.bel
    cases y1
    · go_wp2_with fail
      go_meet
      case rel => exact ⟨by rw [hq.out]; rfl, hK1⟩
    · go_wp2_with fail
      refine (alone_is Y2.out _).mono ?_
      rintro e w2 ⟨rfl, hb2⟩
      have hK2 := hK1.keep hb2
      clear s1 s2 a0 a1 a2 a3 c0 c1 c2 c3
      obtain ⟨s1, s2, a0, a1, a2, a3, c0, c1, c2, c3⟩ := hc.out.keep hK2.bel
      cases y2
      · go_wp2_with fail
        go_meet
        case rel => exact ⟨by rw [hq.out]; rfl, hK2⟩
      · cases y3
        all_goals
          go_wp2_with fail
          go_meet
          case rel => exact ⟨by rw [hq.out]; rfl, hK2⟩
  case rest =>
    clear hK0 hq Y1 Y2 Y3 s1 s2 a0 a1 a2 a3 c0 c1 c2 c3
    obtain ⟨rfl, hK0⟩ := hcut
    obtain ⟨s1, s2, a0, a1, a2, a3, c0, c1, c2, c3⟩ := hc.out.keep hK0.bel
    go_wp2_with fail
    have hS0 : Kp w _ [] := (hK0).drop'.drop'.keep (Below.drew (Below.refl _ _))
    have hR0 := (hK0).keep (Below.drew (Below.refl _ _))
    have HS : Hid (∀ w', Kp w w' [] → Kp w w' [] ∧ w'.cell? ⟨b1, 0, none⟩ = some (U v) ∧ w'.cell? ⟨b1, 1, none⟩ = some (U m) ∧ w'.cell? ⟨b1, 2, none⟩ = some (U l) ∧ w'.cell? ⟨b1, 3, none⟩ = some (U g) ∧ w'.cell? ⟨b2, 0, none⟩ = some (U v') ∧ w'.cell? ⟨b2, 1, none⟩ = some (U m') ∧ w'.cell? ⟨b2, 2, none⟩ = some (U l') ∧ w'.cell? ⟨b2, 3, none⟩ = some (U g')) := by
      intro w' hk
      obtain ⟨_, _, d0, d1, d2, d3, f0, f1, f2, f3⟩ := hc.out.keep hk.bel
      exact ⟨hk, d0, d1, d2, d3, f0, f1, f2, f3⟩
    go_region_held3 (fun w' => Kp w w' [] ∧ w'.cell? ⟨b1, 0, none⟩ = some (U v) ∧ w'.cell? ⟨b1, 1, none⟩ = some (U m) ∧ w'.cell? ⟨b1, 2, none⟩ = some (U l) ∧ w'.cell? ⟨b1, 3, none⟩ = some (U g) ∧ w'.cell? ⟨b2, 0, none⟩ = some (U v') ∧ w'.cell? ⟨b2, 1, none⟩ = some (U m') ∧ w'.cell? ⟨b2, 2, none⟩ = some (U l') ∧ w'.cell? ⟨b2, 3, none⟩ = some (U g'))
      ((refine HS.out _ ?_; repeat (first | refine Kp.other4 ?_ _ _ _ _ (by first | exact Nat.le_refl _ | omega) (by simp) | exact hS0 | refine Kp.keep ?_ (by assumption) | refine Kp.keep ?_ (Below.drew (Below.refl _ _)))))
      (first
        | (go_at_call 114; refine (without_is _ _ _ _ _ _ _ _ _).mono ?_; rintro e wk ⟨rfl, hb⟩; first | (have hR2 := hR1.keep hb; obtain ⟨t0, t1, t2, t3, t4, t5, t6, t7, t8⟩ := hR2.box.head.four; obtain ⟨r0, r1, r2, r3, r4, r5, r6, r7, r8⟩ := hR2.box.tail.head.four) | (have hR1 := hR0.keep hb)))
    all_goals
      go_wp2_with fail
      refine bodyPost_ret (v := .tuple #[Vl v m (woL l l' g') (woH l g l' g'), Vl v' m' (woL l' l g) (woH l' g' l g), .bool (!q)]) ?_ rfl ⟨rfl, ?_⟩
      · simp [results, Try.results112, go_sem, t0, t1, t2, t3, r0, r1, r2, r3]
      · exact ((hR2.set4 1 rfl).set4 0 rfl).bel

end Go.Proofs.Ytkigmocchaikgab

/- The contracts of package calc's Equal, Other, Less and NotLess, over what leave is handed. (Written by gen_w29.py.) -/
namespace Go.Proofs.Ytkigmocchaikgab
open Go.RowKit
attribute [local go_sem] w_and w_or w_xor w_andNot w_and1 w_and63 w_add w_sub w_mul w_sub1 w_add1 w_shl w_shl1 w_shr c_beq c_bne c_beq0 c_bne0 c_beq1 c_bne1 wrap_nv

set_option maxRecDepth 100000 in
set_option maxHeartbeats 4000000 in
theorem calcEqual_right {v m l g v' m' l' g' a b c d a' b' c' d' x y z t x' y' z' t' : BitVec 64} {may i1 i2 : Bool} {e1 e2 : Int} (hr : Hid ((valB v m l g && valB v' m' l' g') = true)) (w : World)
    (HR : Hid (∀ (B : Nat) w', Cap w' B (B + 1) v m l g v' m' l' g' → Calls Try.prog 115 #[PT B, PT (B + 1)] w' fun e w'' => e = .returned (.tuple #[Vl a b c d, Vl a' b' c' d', .bool may]) ∧ Below w'.heap.size w' w''))
    (N1 : Hid (∀ w, Calls Try.prog 65 #[Vl a b c d] w fun e w' => e = .returned (.tuple #[Vl x y z t, .bool i1, N e1]) ∧ Below w.heap.size w w'))
    (N2 : Hid (∀ w, Calls Try.prog 65 #[Vl a' b' c' d'] w fun e w' => e = .returned (.tuple #[Vl x' y' z' t', .bool i2, N e2]) ∧ Below w.heap.size w w')) :
    Calls Try.prog 78 #[Vl v m l g, Vl v' m' l' g'] w fun e w' => e = .returned (.tuple #[lv (may && (i1 && i2)) (Vl x y z t), lv (may && (i1 && i2)) (Vl x' y' z' t'), .bool (may && (i1 && i2)), N 0]) ∧ Below w.heap.size w w' := by
  have hK0 := ((((Kp.start w).add4 (U v) (U m) (U l) (U g) 41).add4 (U v') (U m') (U l') (U g') 41).add4 (.int .u64 0) (.int .u64 0) (.int .u64 0) (.int .u64 0) 41).add4 (.int .u64 0) (.int .u64 0) (.int .u64 0) (.int .u64 0) 41
  simp only [World.size_alloc] at hK0
  have HC : Hid (∀ w', Below ((((w.alloc (.cells #[U v, U m, U l, U g] 41)).alloc (.cells #[U v', U m', U l', U g'] 41)).alloc (.cells #[.int .u64 0, .int .u64 0, .int .u64 0, .int .u64 0] 41)).alloc (.cells #[.int .u64 0, .int .u64 0, .int .u64 0, .int .u64 0] 41)).heap.size ((((w.alloc (.cells #[U v, U m, U l, U g] 41)).alloc (.cells #[U v', U m', U l', U g'] 41)).alloc (.cells #[.int .u64 0, .int .u64 0, .int .u64 0, .int .u64 0] 41)).alloc (.cells #[.int .u64 0, .int .u64 0, .int .u64 0, .int .u64 0] 41)) w' → Cap w' w.heap.size (w.heap.size + 1) v m l g v' m' l' g') := by
    intro w' hb
    have hk := hK0.keep hb
    obtain ⟨b0, b1, b2, b3, _, _, _, _, b8⟩ := hk.box.tail.tail.head.four
    obtain ⟨a0, a1, a2, a3, _, _, _, _, a8⟩ := hk.box.tail.tail.tail.head.four
    exact ⟨a8, b8, a0, a1, a2, a3, b0, b1, b2, b3⟩
  obtain ⟨q, hq⟩ : ∃ q, Hid (q = (may && (i1 && i2))) := ⟨_, rfl⟩
  have HL : Hid (Calls Try.prog 111 #[Vl v m l g, Vl v' m' l' g', .func (.func 115) #[] #[PT w.heap.size, PT (w.heap.size + 1)]] ((((w.alloc (.cells #[U v, U m, U l, U g] 41)).alloc (.cells #[U v', U m', U l', U g'] 41)).alloc (.cells #[.int .u64 0, .int .u64 0, .int .u64 0, .int .u64 0] 41)).alloc (.cells #[.int .u64 0, .int .u64 0, .int .u64 0, .int .u64 0] 41)) fun e w' => e = .returned (.tuple #[lv q (Vl x y z t), lv q (Vl x' y' z' t'), .bool q, N 0]) ∧ Below ((((w.alloc (.cells #[U v, U m, U l, U g] 41)).alloc (.cells #[U v', U m', U l', U g'] 41)).alloc (.cells #[.int .u64 0, .int .u64 0, .int .u64 0, .int .u64 0] 41)).alloc (.cells #[.int .u64 0, .int .u64 0, .int .u64 0, .int .u64 0] 41)).heap.size ((((w.alloc (.cells #[U v, U m, U l, U g] 41)).alloc (.cells #[U v', U m', U l', U g'] 41)).alloc (.cells #[.int .u64 0, .int .u64 0, .int .u64 0, .int .u64 0] 41)).alloc (.cells #[.int .u64 0, .int .u64 0, .int .u64 0, .int .u64 0] 41)) w') := by
    show Calls _ _ _ _ _
    rw [hq.out]
    exact leave_Equal hr _ (hid (fun w' hb => HR.out w.heap.size w' (HC.out w' hb))) N1 N2
  rw [← hq.out]
  clear hq N1 N2 HR HC hr
  go_enter Try.func78, Try.ntmps78
  go_wp2_with fail
  refine HL.out.mono ?_
  rintro e w1 ⟨rfl, hb1⟩
  have hK := hK0.keep hb1
  clear HL
  obtain ⟨s0, s1, s2, s3, s4, s5, s6, s7, s8⟩ := hK.box.head.four
  obtain ⟨r0, r1, r2, r3, r4, r5, r6, r7, r8⟩ := hK.box.tail.head.four
  obtain ⟨b0, b1, b2, b3, b4, b5, b6, b7, b8⟩ := hK.box.tail.tail.head.four
  obtain ⟨a0, a1, a2, a3, a4, a5, a6, a7, a8⟩ := hK.box.tail.tail.tail.head.four
  cases q
  · have e0 : ∀ a, lv false a = V0 := fun a => rfl
    simp only [e0]
    go_wp2_with fail
    exact bodyPost_ret (v := .tuple #[V0, V0, .bool false, N 0]) (by simp [results, Try.results78, go_sem, s0, s1, s2, s3, r0, r1, r2, r3]) rfl ⟨rfl, ((hK.set4 1 rfl).set4 0 rfl).bel⟩
  · have e0 : ∀ a, lv true a = a := fun a => rfl
    simp only [e0]
    go_wp2_with fail
    exact bodyPost_ret (v := .tuple #[Vl x y z t, Vl x' y' z' t', .bool true, N 0]) (by simp [results, Try.results78, go_sem, s0, s1, s2, s3, r0, r1, r2, r3]) rfl ⟨rfl, ((hK.set4 1 rfl).set4 0 rfl).bel⟩

set_option maxRecDepth 100000 in
set_option maxHeartbeats 4000000 in
theorem calcOther_right {v m l g v' m' l' g' a b c d a' b' c' d' x y z t x' y' z' t' : BitVec 64} {may i1 i2 : Bool} {e1 e2 : Int} (hr : Hid ((valB v m l g && valB v' m' l' g') = true)) (w : World)
    (HR : Hid (∀ (B : Nat) w', Cap w' B (B + 1) v m l g v' m' l' g' → Calls Try.prog 112 #[PT B, PT (B + 1)] w' fun e w'' => e = .returned (.tuple #[Vl a b c d, Vl a' b' c' d', .bool may]) ∧ Below w'.heap.size w' w''))
    (N1 : Hid (∀ w, Calls Try.prog 65 #[Vl a b c d] w fun e w' => e = .returned (.tuple #[Vl x y z t, .bool i1, N e1]) ∧ Below w.heap.size w w'))
    (N2 : Hid (∀ w, Calls Try.prog 65 #[Vl a' b' c' d'] w fun e w' => e = .returned (.tuple #[Vl x' y' z' t', .bool i2, N e2]) ∧ Below w.heap.size w w')) :
    Calls Try.prog 77 #[Vl v m l g, Vl v' m' l' g'] w fun e w' => e = .returned (.tuple #[lv (may && (i1 && i2)) (Vl x y z t), lv (may && (i1 && i2)) (Vl x' y' z' t'), .bool (may && (i1 && i2)), N 0]) ∧ Below w.heap.size w w' := by
  have hK0 := ((((Kp.start w).add4 (U v) (U m) (U l) (U g) 41).add4 (U v') (U m') (U l') (U g') 41).add4 (.int .u64 0) (.int .u64 0) (.int .u64 0) (.int .u64 0) 41).add4 (.int .u64 0) (.int .u64 0) (.int .u64 0) (.int .u64 0) 41
  simp only [World.size_alloc] at hK0
  have HC : Hid (∀ w', Below ((((w.alloc (.cells #[U v, U m, U l, U g] 41)).alloc (.cells #[U v', U m', U l', U g'] 41)).alloc (.cells #[.int .u64 0, .int .u64 0, .int .u64 0, .int .u64 0] 41)).alloc (.cells #[.int .u64 0, .int .u64 0, .int .u64 0, .int .u64 0] 41)).heap.size ((((w.alloc (.cells #[U v, U m, U l, U g] 41)).alloc (.cells #[U v', U m', U l', U g'] 41)).alloc (.cells #[.int .u64 0, .int .u64 0, .int .u64 0, .int .u64 0] 41)).alloc (.cells #[.int .u64 0, .int .u64 0, .int .u64 0, .int .u64 0] 41)) w' → Cap w' w.heap.size (w.heap.size + 1) v m l g v' m' l' g') := by
    intro w' hb
    have hk := hK0.keep hb
    obtain ⟨b0, b1, b2, b3, _, _, _, _, b8⟩ := hk.box.tail.tail.head.four
    obtain ⟨a0, a1, a2, a3, _, _, _, _, a8⟩ := hk.box.tail.tail.tail.head.four
    exact ⟨a8, b8, a0, a1, a2, a3, b0, b1, b2, b3⟩
  obtain ⟨q, hq⟩ : ∃ q, Hid (q = (may && (i1 && i2))) := ⟨_, rfl⟩
  have HL : Hid (Calls Try.prog 111 #[Vl v m l g, Vl v' m' l' g', .func (.func 112) #[] #[PT w.heap.size, PT (w.heap.size + 1)]] ((((w.alloc (.cells #[U v, U m, U l, U g] 41)).alloc (.cells #[U v', U m', U l', U g'] 41)).alloc (.cells #[.int .u64 0, .int .u64 0, .int .u64 0, .int .u64 0] 41)).alloc (.cells #[.int .u64 0, .int .u64 0, .int .u64 0, .int .u64 0] 41)) fun e w' => e = .returned (.tuple #[lv q (Vl x y z t), lv q (Vl x' y' z' t'), .bool q, N 0]) ∧ Below ((((w.alloc (.cells #[U v, U m, U l, U g] 41)).alloc (.cells #[U v', U m', U l', U g'] 41)).alloc (.cells #[.int .u64 0, .int .u64 0, .int .u64 0, .int .u64 0] 41)).alloc (.cells #[.int .u64 0, .int .u64 0, .int .u64 0, .int .u64 0] 41)).heap.size ((((w.alloc (.cells #[U v, U m, U l, U g] 41)).alloc (.cells #[U v', U m', U l', U g'] 41)).alloc (.cells #[.int .u64 0, .int .u64 0, .int .u64 0, .int .u64 0] 41)).alloc (.cells #[.int .u64 0, .int .u64 0, .int .u64 0, .int .u64 0] 41)) w') := by
    show Calls _ _ _ _ _
    rw [hq.out]
    exact leave_Other hr _ (hid (fun w' hb => HR.out w.heap.size w' (HC.out w' hb))) N1 N2
  rw [← hq.out]
  clear hq N1 N2 HR HC hr
  go_enter Try.func77, Try.ntmps77
  go_wp2_with fail
  refine HL.out.mono ?_
  rintro e w1 ⟨rfl, hb1⟩
  have hK := hK0.keep hb1
  clear HL
  obtain ⟨s0, s1, s2, s3, s4, s5, s6, s7, s8⟩ := hK.box.head.four
  obtain ⟨r0, r1, r2, r3, r4, r5, r6, r7, r8⟩ := hK.box.tail.head.four
  obtain ⟨b0, b1, b2, b3, b4, b5, b6, b7, b8⟩ := hK.box.tail.tail.head.four
  obtain ⟨a0, a1, a2, a3, a4, a5, a6, a7, a8⟩ := hK.box.tail.tail.tail.head.four
  cases q
  · have e0 : ∀ a, lv false a = V0 := fun a => rfl
    simp only [e0]
    go_wp2_with fail
    exact bodyPost_ret (v := .tuple #[V0, V0, .bool false, N 0]) (by simp [results, Try.results77, go_sem, s0, s1, s2, s3, r0, r1, r2, r3]) rfl ⟨rfl, ((hK.set4 1 rfl).set4 0 rfl).bel⟩
  · have e0 : ∀ a, lv true a = a := fun a => rfl
    simp only [e0]
    go_wp2_with fail
    exact bodyPost_ret (v := .tuple #[Vl x y z t, Vl x' y' z' t', .bool true, N 0]) (by simp [results, Try.results77, go_sem, s0, s1, s2, s3, r0, r1, r2, r3]) rfl ⟨rfl, ((hK.set4 1 rfl).set4 0 rfl).bel⟩

set_option maxRecDepth 100000 in
set_option maxHeartbeats 4000000 in
theorem calcLess_right {v m l g v' m' l' g' a b c d a' b' c' d' x y z t x' y' z' t' : BitVec 64} {may i1 i2 : Bool} {e1 e2 : Int} (hr : Hid ((valB v m l g && valB v' m' l' g') = true)) (w : World)
    (HR : Hid (∀ (B : Nat) w', Cap w' (B + 1) B v' m' l' g' v m l g → Calls Try.prog 118 #[PT (B + 1), PT B] w' fun e w'' => e = .returned (.tuple #[Vl a b c d, Vl a' b' c' d', .bool may]) ∧ Below w'.heap.size w' w''))
    (N1 : Hid (∀ w, Calls Try.prog 65 #[Vl a b c d] w fun e w' => e = .returned (.tuple #[Vl x y z t, .bool i1, N e1]) ∧ Below w.heap.size w w'))
    (N2 : Hid (∀ w, Calls Try.prog 65 #[Vl a' b' c' d'] w fun e w' => e = .returned (.tuple #[Vl x' y' z' t', .bool i2, N e2]) ∧ Below w.heap.size w w')) :
    Calls Try.prog 80 #[Vl v m l g, Vl v' m' l' g'] w fun e w' => e = .returned (.tuple #[lv (may && (i1 && i2)) (Vl x y z t), lv (may && (i1 && i2)) (Vl x' y' z' t'), .bool (may && (i1 && i2)), N 0]) ∧ Below w.heap.size w w' := by
  have hK0 := ((((Kp.start w).add4 (U v) (U m) (U l) (U g) 41).add4 (U v') (U m') (U l') (U g') 41).add4 (.int .u64 0) (.int .u64 0) (.int .u64 0) (.int .u64 0) 41).add4 (.int .u64 0) (.int .u64 0) (.int .u64 0) (.int .u64 0) 41
  simp only [World.size_alloc] at hK0
  have HC : Hid (∀ w', Below ((((w.alloc (.cells #[U v, U m, U l, U g] 41)).alloc (.cells #[U v', U m', U l', U g'] 41)).alloc (.cells #[.int .u64 0, .int .u64 0, .int .u64 0, .int .u64 0] 41)).alloc (.cells #[.int .u64 0, .int .u64 0, .int .u64 0, .int .u64 0] 41)).heap.size ((((w.alloc (.cells #[U v, U m, U l, U g] 41)).alloc (.cells #[U v', U m', U l', U g'] 41)).alloc (.cells #[.int .u64 0, .int .u64 0, .int .u64 0, .int .u64 0] 41)).alloc (.cells #[.int .u64 0, .int .u64 0, .int .u64 0, .int .u64 0] 41)) w' → Cap w' (w.heap.size + 1) w.heap.size v' m' l' g' v m l g) := by
    intro w' hb
    have hk := hK0.keep hb
    obtain ⟨b0, b1, b2, b3, _, _, _, _, b8⟩ := hk.box.tail.tail.head.four
    obtain ⟨a0, a1, a2, a3, _, _, _, _, a8⟩ := hk.box.tail.tail.tail.head.four
    exact ⟨b8, a8, b0, b1, b2, b3, a0, a1, a2, a3⟩
  obtain ⟨q, hq⟩ : ∃ q, Hid (q = (may && (i1 && i2))) := ⟨_, rfl⟩
  have HL : Hid (Calls Try.prog 111 #[Vl v m l g, Vl v' m' l' g', .func (.func 118) #[] #[PT (w.heap.size + 1), PT w.heap.size]] ((((w.alloc (.cells #[U v, U m, U l, U g] 41)).alloc (.cells #[U v', U m', U l', U g'] 41)).alloc (.cells #[.int .u64 0, .int .u64 0, .int .u64 0, .int .u64 0] 41)).alloc (.cells #[.int .u64 0, .int .u64 0, .int .u64 0, .int .u64 0] 41)) fun e w' => e = .returned (.tuple #[lv q (Vl x y z t), lv q (Vl x' y' z' t'), .bool q, N 0]) ∧ Below ((((w.alloc (.cells #[U v, U m, U l, U g] 41)).alloc (.cells #[U v', U m', U l', U g'] 41)).alloc (.cells #[.int .u64 0, .int .u64 0, .int .u64 0, .int .u64 0] 41)).alloc (.cells #[.int .u64 0, .int .u64 0, .int .u64 0, .int .u64 0] 41)).heap.size ((((w.alloc (.cells #[U v, U m, U l, U g] 41)).alloc (.cells #[U v', U m', U l', U g'] 41)).alloc (.cells #[.int .u64 0, .int .u64 0, .int .u64 0, .int .u64 0] 41)).alloc (.cells #[.int .u64 0, .int .u64 0, .int .u64 0, .int .u64 0] 41)) w') := by
    show Calls _ _ _ _ _
    rw [hq.out]
    exact leave_Less hr _ (hid (fun w' hb => HR.out w.heap.size w' (HC.out w' hb))) N1 N2
  rw [← hq.out]
  clear hq N1 N2 HR HC hr
  go_enter Try.func80, Try.ntmps80
  go_wp2_with fail
  refine HL.out.mono ?_
  rintro e w1 ⟨rfl, hb1⟩
  have hK := hK0.keep hb1
  clear HL
  obtain ⟨s0, s1, s2, s3, s4, s5, s6, s7, s8⟩ := hK.box.head.four
  obtain ⟨r0, r1, r2, r3, r4, r5, r6, r7, r8⟩ := hK.box.tail.head.four
  obtain ⟨b0, b1, b2, b3, b4, b5, b6, b7, b8⟩ := hK.box.tail.tail.head.four
  obtain ⟨a0, a1, a2, a3, a4, a5, a6, a7, a8⟩ := hK.box.tail.tail.tail.head.four
  cases q
  · have e0 : ∀ a, lv false a = V0 := fun a => rfl
    simp only [e0]
    go_wp2_with fail
    exact bodyPost_ret (v := .tuple #[V0, V0, .bool false, N 0]) (by simp [results, Try.results80, go_sem, s0, s1, s2, s3, r0, r1, r2, r3]) rfl ⟨rfl, ((hK.set4 1 rfl).set4 0 rfl).bel⟩
  · have e0 : ∀ a, lv true a = a := fun a => rfl
    simp only [e0]
    go_wp2_with fail
    exact bodyPost_ret (v := .tuple #[Vl x y z t, Vl x' y' z' t', .bool true, N 0]) (by simp [results, Try.results80, go_sem, s0, s1, s2, s3, r0, r1, r2, r3]) rfl ⟨rfl, ((hK.set4 1 rfl).set4 0 rfl).bel⟩

set_option maxRecDepth 100000 in
set_option maxHeartbeats 4000000 in
theorem calcNotLess_right {v m l g v' m' l' g' a b c d a' b' c' d' x y z t x' y' z' t' : BitVec 64} {may i1 i2 : Bool} {e1 e2 : Int} (hr : Hid ((valB v m l g && valB v' m' l' g') = true)) (w : World)
    (HR : Hid (∀ (B : Nat) w', Cap w' B (B + 1) v m l g v' m' l' g' → Calls Try.prog 116 #[PT B, PT (B + 1)] w' fun e w'' => e = .returned (.tuple #[Vl a b c d, Vl a' b' c' d', .bool may]) ∧ Below w'.heap.size w' w''))
    (N1 : Hid (∀ w, Calls Try.prog 65 #[Vl a b c d] w fun e w' => e = .returned (.tuple #[Vl x y z t, .bool i1, N e1]) ∧ Below w.heap.size w w'))
    (N2 : Hid (∀ w, Calls Try.prog 65 #[Vl a' b' c' d'] w fun e w' => e = .returned (.tuple #[Vl x' y' z' t', .bool i2, N e2]) ∧ Below w.heap.size w w')) :
    Calls Try.prog 79 #[Vl v m l g, Vl v' m' l' g'] w fun e w' => e = .returned (.tuple #[lv (may && (i1 && i2)) (Vl x y z t), lv (may && (i1 && i2)) (Vl x' y' z' t'), .bool (may && (i1 && i2)), N 0]) ∧ Below w.heap.size w w' := by
  have hK0 := ((((Kp.start w).add4 (U v) (U m) (U l) (U g) 41).add4 (U v') (U m') (U l') (U g') 41).add4 (.int .u64 0) (.int .u64 0) (.int .u64 0) (.int .u64 0) 41).add4 (.int .u64 0) (.int .u64 0) (.int .u64 0) (.int .u64 0) 41
  simp only [World.size_alloc] at hK0
  have HC : Hid (∀ w', Below ((((w.alloc (.cells #[U v, U m, U l, U g] 41)).alloc (.cells #[U v', U m', U l', U g'] 41)).alloc (.cells #[.int .u64 0, .int .u64 0, .int .u64 0, .int .u64 0] 41)).alloc (.cells #[.int .u64 0, .int .u64 0, .int .u64 0, .int .u64 0] 41)).heap.size ((((w.alloc (.cells #[U v, U m, U l, U g] 41)).alloc (.cells #[U v', U m', U l', U g'] 41)).alloc (.cells #[.int .u64 0, .int .u64 0, .int .u64 0, .int .u64 0] 41)).alloc (.cells #[.int .u64 0, .int .u64 0, .int .u64 0, .int .u64 0] 41)) w' → Cap w' w.heap.size (w.heap.size + 1) v m l g v' m' l' g') := by
    intro w' hb
    have hk := hK0.keep hb
    obtain ⟨b0, b1, b2, b3, _, _, _, _, b8⟩ := hk.box.tail.tail.head.four
    obtain ⟨a0, a1, a2, a3, _, _, _, _, a8⟩ := hk.box.tail.tail.tail.head.four
    exact ⟨a8, b8, a0, a1, a2, a3, b0, b1, b2, b3⟩
  obtain ⟨q, hq⟩ : ∃ q, Hid (q = (may && (i1 && i2))) := ⟨_, rfl⟩
  have HL : Hid (Calls Try.prog 111 #[Vl v m l g, Vl v' m' l' g', .func (.func 116) #[] #[PT w.heap.size, PT (w.heap.size + 1)]] ((((w.alloc (.cells #[U v, U m, U l, U g] 41)).alloc (.cells #[U v', U m', U l', U g'] 41)).alloc (.cells #[.int .u64 0, .int .u64 0, .int .u64 0, .int .u64 0] 41)).alloc (.cells #[.int .u64 0, .int .u64 0, .int .u64 0, .int .u64 0] 41)) fun e w' => e = .returned (.tuple #[lv q (Vl x y z t), lv q (Vl x' y' z' t'), .bool q, N 0]) ∧ Below ((((w.alloc (.cells #[U v, U m, U l, U g] 41)).alloc (.cells #[U v', U m', U l', U g'] 41)).alloc (.cells #[.int .u64 0, .int .u64 0, .int .u64 0, .int .u64 0] 41)).alloc (.cells #[.int .u64 0, .int .u64 0, .int .u64 0, .int .u64 0] 41)).heap.size ((((w.alloc (.cells #[U v, U m, U l, U g] 41)).alloc (.cells #[U v', U m', U l', U g'] 41)).alloc (.cells #[.int .u64 0, .int .u64 0, .int .u64 0, .int .u64 0] 41)).alloc (.cells #[.int .u64 0, .int .u64 0, .int .u64 0, .int .u64 0] 41)) w') := by
    show Calls _ _ _ _ _
    rw [hq.out]
    exact leave_NotLess hr _ (hid (fun w' hb => HR.out w.heap.size w' (HC.out w' hb))) N1 N2
  rw [← hq.out]
  clear hq N1 N2 HR HC hr
  go_enter Try.func79, Try.ntmps79
  go_wp2_with fail
  refine HL.out.mono ?_
  rintro e w1 ⟨rfl, hb1⟩
  have hK := hK0.keep hb1
  clear HL
  obtain ⟨s0, s1, s2, s3, s4, s5, s6, s7, s8⟩ := hK.box.head.four
  obtain ⟨r0, r1, r2, r3, r4, r5, r6, r7, r8⟩ := hK.box.tail.head.four
  obtain ⟨b0, b1, b2, b3, b4, b5, b6, b7, b8⟩ := hK.box.tail.tail.head.four
  obtain ⟨a0, a1, a2, a3, a4, a5, a6, a7, a8⟩ := hK.box.tail.tail.tail.head.four
  cases q
  · have e0 : ∀ a, lv false a = V0 := fun a => rfl
    simp only [e0]
    go_wp2_with fail
    exact bodyPost_ret (v := .tuple #[V0, V0, .bool false, N 0]) (by simp [results, Try.results79, go_sem, s0, s1, s2, s3, r0, r1, r2, r3]) rfl ⟨rfl, ((hK.set4 1 rfl).set4 0 rfl).bel⟩
  · have e0 : ∀ a, lv true a = a := fun a => rfl
    simp only [e0]
    go_wp2_with fail
    exact bodyPost_ret (v := .tuple #[Vl x y z t, Vl x' y' z' t', .bool true, N 0]) (by simp [results, Try.results79, go_sem, s0, s1, s2, s3, r0, r1, r2, r3]) rfl ⟨rfl, ((hK.set4 1 rfl).set4 0 rfl).bel⟩

end Go.Proofs.Ytkigmocchaikgab

/- The contract of the reference's bitOf; what twoBits comes to, as plain functions. -/
namespace Go.Proofs.Ytkigmocchaikgab
open Go.RowKit
attribute [local go_sem] w_and w_or w_xor w_andNot w_and1 w_and63 w_add w_sub w_mul w_sub1 w_add1 w_shl w_shl1 w_shr c_beq c_bne c_beq0 c_bne0 c_beq1 c_bne1 wrap_nv

def bi (b : Bool) : Int := if b then 1 else 0
/- one bit of an operation, and what goes over -/
end Go.Proofs.Ytkigmocchaikgab

/- What twoBits comes to, as plain functions; one cell of a box written. -/
namespace Go.Proofs.Ytkigmocchaikgab
open Go.RowKit

/- the inner loop: which results, and which that go over, the first k of the eight ways give -/
/- the outer loop -/
end Go.Proofs.Ytkigmocchaikgab

/- The contract of the reference's twoBits. -/
namespace Go.Proofs.Ytkigmocchaikgab
open Go.RowKit
attribute [local go_sem] w_and w_or w_xor w_andNot w_and1 w_and63 w_add w_sub w_mul w_sub1 w_add1 w_shl w_shl1 w_shr c_beq c_bne c_beq0 c_bne0 c_beq1 c_bne1 wrap_nv

theorem ba0 : bits .and .i64 0 1 = 0 := by decide
theorem ba1 : bits .and .i64 1 1 = 1 := by decide
theorem ba2 : bits .and .i64 2 1 = 0 := by decide
theorem ba3 : bits .and .i64 3 1 = 1 := by decide
theorem ba4 : bits .and .i64 4 1 = 0 := by decide
theorem ba5 : bits .and .i64 5 1 = 1 := by decide
theorem ba6 : bits .and .i64 6 1 = 0 := by decide
theorem ba7 : bits .and .i64 7 1 = 1 := by decide
attribute [local go_sem] ba0 ba1 ba2 ba3 ba4 ba5 ba6 ba7
end Go.Proofs.Ytkigmocchaikgab

/- That twoBits' answers are package bits' own: add, sub, and, or, xor; plain facts. -/
namespace Go.Proofs.Ytkigmocchaikgab

/- the eight ways of one bit, decided -/
end Go.Proofs.Ytkigmocchaikgab

/- The contract of the reference's TwoBits. -/
namespace Go.Proofs.Ytkigmocchaikgab
open Go.RowKit
attribute [local go_sem] w_and w_or w_xor w_andNot w_and1 w_and63 w_add w_sub w_mul w_sub1 w_add1 w_shl w_shl1 w_shr c_beq c_bne c_beq0 c_bne0 c_beq1 c_bne1 wrap_nv

/- what comes of sums is right again -/
/- a sum, by twoBits -/
end Go.Proofs.Ytkigmocchaikgab

/- The contracts of val and calc, and of the reference's, over plain values. -/
namespace Go.Proofs.Ytkigmocchaikgab
open Go.RowKit

theorem okc {f : Nat} {A : Array Value} {V : Value} {args : List AV} {v : AV} (h : ∀ w, Calls Try.prog f A w fun e w' => e = .returned V ∧ Below w.heap.size w w') (hA : ∀ β, (args.map (AV.g β)).toArray = A) (hV : ∀ β, v.g β = V) (hv : v.ks = []) : Ok f args v :=
  ok_of_calls hA hV hv h

theorem V4.rt_of {a : V4} (h : a.ok = true) : a.rt = true := (rt_iff _ _).2 (val_facts h).1
theorem both_rt {a b : V4} (ha : a.rt = true) (hb : b.rt = true) : (eqb (band a.v a.m) zero && eqb (band b.v b.m) zero) = true := by
  rw [show eqb (band a.v a.m) zero = true from ha, show eqb (band b.v b.m) zero = true from hb]; rfl
theorem both_ok {a b : V4} (ha : a.ok = true) (hb : b.ok = true) : (valB a.v a.m a.l a.h && valB b.v b.m b.l b.h) = true := by
  rw [show valB a.v a.m a.l a.h = true from ha, show valB b.v b.m b.l b.h = true from hb]; rfl

theorem valCheck_ok (a : V4) : Ok 38 [.ag a.cs] (.c (.i (er a.ok))) := okc (valCheck_any a.v a.m a.l a.h) (fun _ => rfl) (fun _ => rfl) rfl
theorem valHas_ok (a : V4) (x : BitVec 64) : Ok 41 [.ag a.cs, .c (.u x)] (.c (.b (a.has x))) := okc (valHas_any a.v a.m a.l a.h x) (fun _ => rfl) (fun _ => rfl) rfl
theorem valOf_ok (x : BitVec 64) : Ok 110 [.c (.u x)] (.ag (V4.of x).cs) := okc (valOf_any x) (fun _ => rfl) (fun _ => rfl) rfl
theorem valAny_ok : Ok 39 [] (.ag V4.any.cs) := okc valAny_any (fun _ => rfl) (fun _ => rfl) rfl
theorem valJoin_ok {a b : V4} (ha : a.ok = true) (hb : b.ok = true) : Ok 34 [.ag a.cs, .ag b.cs] (.tu [.ag (a.join b).cs, .c (.i 0)]) :=
  okc (valJoin_yes (both_ok ha hb)) (fun _ => rfl) (fun _ => rfl) rfl
theorem refRight_ok (a : V4) : Ok 36 [.ag a.cs] (.c (.b a.ok)) := okc (rightVal_any a.v a.m a.l a.h) (fun _ => rfl) (fun _ => rfl) rfl
theorem refHas_ok (a : V4) (x : BitVec 64) : Ok 43 [.ag a.cs, .c (.u x)] (.c (.b (a.has x))) := okc (refValHas_any a.v a.m a.l a.h x) (fun _ => rfl) (fun _ => rfl) rfl
theorem refAny_ok : Ok 40 [] (.ag V4.any.cs) := okc refValAny_any (fun _ => rfl) (fun _ => rfl) rfl
theorem refNorm_ok {a : V4} (hr : a.rt = true) : Ok 67 [.ag a.cs] (.tu [.ag a.norm.cs, .c (.b a.nok)]) := by
  unfold V4.norm
  cases hn : a.nok
  · exact okc (normVal_none hr hn) (fun _ => rfl) (fun _ => rfl) rfl
  · exact okc (normVal_yes hr hn) (fun _ => rfl) (fun _ => rfl) rfl
/- the reference's functions on two values -/
end Go.Proofs.Ytkigmocchaikgab

/- Ways of bodies, written by a program (ways.py): what each asks for, and hands back. -/
namespace Go.Proofs.Ytkigmocchaikgab
open Go.RowKit

theorem mcTop_w0 {m : Mach} {w : World} {β : Bs} {n : Nat} (h : ((↑(ByteArray.size (Mach.mem m)) : Int) != 64 && true) = true) :
    ART Try.prog 33 (cx w β n []) Try.f33.ntmps ([Item.code (bodyOf Try.f33)]) (Kn.start [AV.ag (Mach.cs m)] [] 0) (REff w β ⟨AV.c (AC.i 1), [], none⟩) :=
  run_eff [] (none) 2000 [] [true, true, true, true, true] [true] [] Try.func33 (ekeys0 rfl n) (by kernel_rfl) h cr_nil
theorem mcTop_w1 {m : Mach} {w : World} {β : Bs} {n : Nat} (h : (!(↑(ByteArray.size (Mach.mem m)) : Int) != 64 && (decide (Mach.fin m < 0) && true)) = true) :
    ART Try.prog 33 (cx w β n []) Try.f33.ntmps ([Item.code (bodyOf Try.f33)]) (Kn.start [AV.ag (Mach.cs m)] [] 0) (REff w β ⟨AV.c (AC.i 1), [], none⟩) :=
  run_eff [] (none) 2000 [] [false, true, true, true, true] [true] [] Try.func33 (ekeys0 rfl n) (by kernel_rfl) h cr_nil
theorem mcTop_w2 {m : Mach} {w : World} {β : Bs} {n : Nat} (h : (!(↑(ByteArray.size (Mach.mem m)) : Int) != 64 && (!decide (Mach.fin m < 0) && (decide (3 < Mach.fin m) && true))) = true) :
    ART Try.prog 33 (cx w β n []) Try.f33.ntmps ([Item.code (bodyOf Try.f33)]) (Kn.start [AV.ag (Mach.cs m)] [] 0) (REff w β ⟨AV.c (AC.i 1), [], none⟩) :=
  run_eff [] (none) 2000 [] [false, false, true, true, true] [true] [] Try.func33 (ekeys0 rfl n) (by kernel_rfl) h cr_nil
theorem mcTop_w3 {m : Mach} {w : World} {β : Bs} {n : Nat} (h : (!(↑(ByteArray.size (Mach.mem m)) : Int) != 64 && (!decide (Mach.fin m < 0) && (!decide (3 < Mach.fin m) && (decide (Mach.t m < 0) && true)))) = true) :
    ART Try.prog 33 (cx w β n []) Try.f33.ntmps ([Item.code (bodyOf Try.f33)]) (Kn.start [AV.ag (Mach.cs m)] [] 0) (REff w β ⟨AV.c (AC.i 1), [], none⟩) :=
  run_eff [] (none) 2000 [] [false, false, false, true, true] [true] [] Try.func33 (ekeys0 rfl n) (by kernel_rfl) h cr_nil
theorem mcTop_w4 {m : Mach} {w : World} {β : Bs} {n : Nat} (h : (!(↑(ByteArray.size (Mach.mem m)) : Int) != 64 && (!decide (Mach.fin m < 0) && (!decide (3 < Mach.fin m) && (!decide (Mach.t m < 0) && (decide (64 ≤ Mach.t m) && true))))) = true) :
    ART Try.prog 33 (cx w β n []) Try.f33.ntmps ([Item.code (bodyOf Try.f33)]) (Kn.start [AV.ag (Mach.cs m)] [] 0) (REff w β ⟨AV.c (AC.i 1), [], none⟩) :=
  run_eff [] (none) 2000 [] [false, false, false, false, true] [true] [] Try.func33 (ekeys0 rfl n) (by kernel_rfl) h cr_nil
theorem mcTop_w5 {m : Mach} {C : Cx} {R : Ending → World → Prop} (h : (!(↑(ByteArray.size (Mach.mem m)) : Int) != 64 && (!decide (Mach.fin m < 0) && (!decide (3 < Mach.fin m) && (!decide (Mach.t m < 0) && (!decide (64 ≤ Mach.t m) && true))))) = true) (lo : Kn.Low ⟨[(1, AV.c (AC.w 0)), (30, AV.ag (bcs (Mach.s m))), (31, AV.c (AC.i 0))], [(0, Ent.mk true (Mach.cs m) 0)], 1⟩) (hF : ∀ k, C.F k → k < 1) (z : ART Try.prog 33 C Try.f33.ntmps (cutAt Try.f33 0) ⟨[(1, AV.c (AC.w 0)), (30, AV.ag (bcs (Mach.s m))), (31, AV.c (AC.i 0))], [(0, Ent.mk true (Mach.cs m) 0)], 1⟩ R) :
    ART Try.prog 33 C Try.f33.ntmps ([Item.code (bodyOf Try.f33)]) (Kn.start [AV.ag (Mach.cs m)] [] 0) R :=
  run_cut ⟨[(1, AV.c (AC.w 0)), (30, AV.ag (bcs (Mach.s m))), (31, AV.c (AC.i 0))], [(0, Ent.mk true (Mach.cs m) 0)], 1⟩ 2000 [] [false, false, false, false, false] [true] [] Try.func33 (by kernel_rfl) h cr_nil lo hF z
theorem mcTop_all {m : Mach} {w : World} {β : Bs} {n : Nat} {E : Eff} (hn : n ≤ 1)
    (l0 : ((↑(ByteArray.size (Mach.mem m)) : Int) != 64) = true → ((⟨AV.c (AC.i 1), [], none⟩ : Eff) = E))
    (l1 : ((↑(ByteArray.size (Mach.mem m)) : Int) != 64) = false → (decide (Mach.fin m < 0)) = true → ((⟨AV.c (AC.i 1), [], none⟩ : Eff) = E))
    (l2 : ((↑(ByteArray.size (Mach.mem m)) : Int) != 64) = false → (decide (Mach.fin m < 0)) = false → (decide (3 < Mach.fin m)) = true → ((⟨AV.c (AC.i 1), [], none⟩ : Eff) = E))
    (l3 : ((↑(ByteArray.size (Mach.mem m)) : Int) != 64) = false → (decide (Mach.fin m < 0)) = false → (decide (3 < Mach.fin m)) = false → (decide (Mach.t m < 0)) = true → ((⟨AV.c (AC.i 1), [], none⟩ : Eff) = E))
    (l4 : ((↑(ByteArray.size (Mach.mem m)) : Int) != 64) = false → (decide (Mach.fin m < 0)) = false → (decide (3 < Mach.fin m)) = false → (decide (Mach.t m < 0)) = false → (decide (64 ≤ Mach.t m)) = true → ((⟨AV.c (AC.i 1), [], none⟩ : Eff) = E))
    (l5 : ((↑(ByteArray.size (Mach.mem m)) : Int) != 64) = false → (decide (Mach.fin m < 0)) = false → (decide (3 < Mach.fin m)) = false → (decide (Mach.t m < 0)) = false → (decide (64 ≤ Mach.t m)) = false → Kn.Low ⟨[(1, AV.c (AC.w 0)), (30, AV.ag (bcs (Mach.s m))), (31, AV.c (AC.i 0))], [(0, Ent.mk true (Mach.cs m) 0)], 1⟩ ∧ ART Try.prog 33 (cx w β n []) Try.f33.ntmps (cutAt Try.f33 0) ⟨[(1, AV.c (AC.w 0)), (30, AV.ag (bcs (Mach.s m))), (31, AV.c (AC.i 0))], [(0, Ent.mk true (Mach.cs m) 0)], 1⟩ (REff w β E)) :
    ART Try.prog 33 (cx w β n []) Try.f33.ntmps ([Item.code (bodyOf Try.f33)]) (Kn.start [AV.ag (Mach.cs m)] [] 0) (REff w β E) :=
  (tf ((↑(ByteArray.size (Mach.mem m)) : Int) != 64)).elim (fun h0 => (match l0 h0 with | e => art_eq (mcTop_w0 (and_yes h0 rfl)) e)) (fun h0 => (tf (decide (Mach.fin m < 0))).elim (fun h1 => (match l1 h0 h1 with | e => art_eq (mcTop_w1 (and_yes (not_yes h0) (and_yes h1 rfl))) e)) (fun h1 => (tf (decide (3 < Mach.fin m))).elim (fun h2 => (match l2 h0 h1 h2 with | e => art_eq (mcTop_w2 (and_yes (not_yes h0) (and_yes (not_yes h1) (and_yes h2 rfl)))) e)) (fun h2 => (tf (decide (Mach.t m < 0))).elim (fun h3 => (match l3 h0 h1 h2 h3 with | e => art_eq (mcTop_w3 (and_yes (not_yes h0) (and_yes (not_yes h1) (and_yes (not_yes h2) (and_yes h3 rfl))))) e)) (fun h3 => (tf (decide (64 ≤ Mach.t m))).elim (fun h4 => (match l4 h0 h1 h2 h3 h4 with | e => art_eq (mcTop_w4 (and_yes (not_yes h0) (and_yes (not_yes h1) (and_yes (not_yes h2) (and_yes (not_yes h3) (and_yes h4 rfl)))))) e)) (fun h4 => (match l5 h0 h1 h2 h3 h4 with | ⟨lo, z⟩ => mcTop_w5 (and_yes (not_yes h0) (and_yes (not_yes h1) (and_yes (not_yes h2) (and_yes (not_yes h3) (and_yes (not_yes h4) rfl))))) lo (fun _ hk => Nat.lt_of_lt_of_le hk hn) z))))))
theorem mcRound_w0 {m : Mach} {u : V6 Bool} {j : Int} {w : World} {β : Bs} {n : Nat} (h : (decide (j < 6) && (AC.isB (Option.getD (bcs u)[Int.toNat j * 1]? (AC.b false)) && Nat.blt (Int.toNat j * 1) (List.length (bcs u)) && (decide (0 ≤ j) && decide (j < 6)) && (!V6.get u (Int.toNat j) && (decide (0 ≤ j) && decide (j < 6) && (AC.isU (Option.getD (Mach.cs m)[1 + Int.toNat j * 1]? (AC.b false)) && Nat.blt (1 + Int.toNat j * 1) (List.length (Mach.cs m)) && (!eqb (V6.get (Mach.r m) (Int.toNat j)) 0#64 && true)))))) = true) (c0 : Eff.mk (AV.c (AC.b (AC.asB (Option.getD (bcs u)[Int.toNat j * 1]? (AC.b false))))) [] none = Eff.mk (AV.c (AC.b (V6.get u (Int.toNat j)))) [] none) (c1 : Eff.mk (AV.c (AC.u (AC.asU (Option.getD (Mach.cs m)[1 + Int.toNat j * 1]? (AC.b false))))) [] none = Eff.mk (AV.c (AC.u (V6.get (Mach.r m) (Int.toNat j)))) [] none) :
    ART Try.prog 33 (cx w β n []) Try.f33.ntmps (cutAt Try.f33 0) (Kn.mk [(1, AV.c (AC.w 0)), (30, AV.ag (bcs u)), (31, AV.c (AC.i j))] [(0, Ent.mk true (Mach.cs m) 0)] 1) (REff w β ⟨AV.c (AC.i 1), [], none⟩) :=
  run_eff [] (none) 2000 [Eff.mk (AV.c (AC.b (V6.get u (Int.toNat j)))) [] none, Eff.mk (AV.c (AC.u (V6.get (Mach.r m) (Int.toNat j)))) [] none] [true, true, true] [true] [(5, 1), (6, 6)] Try.func33 (ekeys0 rfl n) (by kernel_rfl) h (cr_same c0 (cr_same c1 cr_nil))
theorem mcRound_w1 {m : Mach} {u : V6 Bool} {j : Int} {C : Cx} {R : Ending → World → Prop} (h : (decide (j < 6) && (AC.isB (Option.getD (bcs u)[Int.toNat j * 1]? (AC.b false)) && Nat.blt (Int.toNat j * 1) (List.length (bcs u)) && (decide (0 ≤ j) && decide (j < 6)) && (!V6.get u (Int.toNat j) && (decide (0 ≤ j) && decide (j < 6) && (AC.isU (Option.getD (Mach.cs m)[1 + Int.toNat j * 1]? (AC.b false)) && Nat.blt (1 + Int.toNat j * 1) (List.length (Mach.cs m)) && (!!eqb (V6.get (Mach.r m) (Int.toNat j)) 0#64 && true)))))) = true) (c0 : Eff.mk (AV.c (AC.b (AC.asB (Option.getD (bcs u)[Int.toNat j * 1]? (AC.b false))))) [] none = Eff.mk (AV.c (AC.b (V6.get u (Int.toNat j)))) [] none) (c1 : Eff.mk (AV.c (AC.u (AC.asU (Option.getD (Mach.cs m)[1 + Int.toNat j * 1]? (AC.b false))))) [] none = Eff.mk (AV.c (AC.u (V6.get (Mach.r m) (Int.toNat j)))) [] none) (lo : Kn.Low ⟨[(1, AV.c (AC.w 0)), (30, AV.ag (bcs u)), (31, AV.c (AC.i (IntKind.wrap IntKind.i64 (j + 1))))], [(0, Ent.mk true (Mach.cs m) 0)], 1⟩) (hF : ∀ k, C.F k → k < 1) (z : ART Try.prog 33 C Try.f33.ntmps (cutAt Try.f33 0) ⟨[(1, AV.c (AC.w 0)), (30, AV.ag (bcs u)), (31, AV.c (AC.i (IntKind.wrap IntKind.i64 (j + 1))))], [(0, Ent.mk true (Mach.cs m) 0)], 1⟩ R) :
    ART Try.prog 33 C Try.f33.ntmps (cutAt Try.f33 0) (Kn.mk [(1, AV.c (AC.w 0)), (30, AV.ag (bcs u)), (31, AV.c (AC.i j))] [(0, Ent.mk true (Mach.cs m) 0)] 1) R :=
  run_cut ⟨[(1, AV.c (AC.w 0)), (30, AV.ag (bcs u)), (31, AV.c (AC.i (IntKind.wrap IntKind.i64 (j + 1))))], [(0, Ent.mk true (Mach.cs m) 0)], 1⟩ 2000 [Eff.mk (AV.c (AC.b (V6.get u (Int.toNat j)))) [] none, Eff.mk (AV.c (AC.u (V6.get (Mach.r m) (Int.toNat j)))) [] none] [true, true, false] [true] [(5, 1), (6, 6)] Try.func33 (by kernel_rfl) h (cr_same c0 (cr_same c1 cr_nil)) lo hF z
theorem mcRound_w2 {m : Mach} {u : V6 Bool} {j : Int} {C : Cx} {R : Ending → World → Prop} (h : (decide (j < 6) && (AC.isB (Option.getD (bcs u)[Int.toNat j * 1]? (AC.b false)) && Nat.blt (Int.toNat j * 1) (List.length (bcs u)) && (decide (0 ≤ j) && decide (j < 6)) && (!!V6.get u (Int.toNat j) && true))) = true) (c0 : Eff.mk (AV.c (AC.b (AC.asB (Option.getD (bcs u)[Int.toNat j * 1]? (AC.b false))))) [] none = Eff.mk (AV.c (AC.b (V6.get u (Int.toNat j)))) [] none) (lo : Kn.Low ⟨[(1, AV.c (AC.w 0)), (30, AV.ag (bcs u)), (31, AV.c (AC.i (IntKind.wrap IntKind.i64 (j + 1))))], [(0, Ent.mk true (Mach.cs m) 0)], 1⟩) (hF : ∀ k, C.F k → k < 1) (z : ART Try.prog 33 C Try.f33.ntmps (cutAt Try.f33 0) ⟨[(1, AV.c (AC.w 0)), (30, AV.ag (bcs u)), (31, AV.c (AC.i (IntKind.wrap IntKind.i64 (j + 1))))], [(0, Ent.mk true (Mach.cs m) 0)], 1⟩ R) :
    ART Try.prog 33 C Try.f33.ntmps (cutAt Try.f33 0) (Kn.mk [(1, AV.c (AC.w 0)), (30, AV.ag (bcs u)), (31, AV.c (AC.i j))] [(0, Ent.mk true (Mach.cs m) 0)] 1) R :=
  run_cut ⟨[(1, AV.c (AC.w 0)), (30, AV.ag (bcs u)), (31, AV.c (AC.i (IntKind.wrap IntKind.i64 (j + 1))))], [(0, Ent.mk true (Mach.cs m) 0)], 1⟩ 2000 [Eff.mk (AV.c (AC.b (V6.get u (Int.toNat j)))) [] none] [true, false, false] [true] [(5, 1), (6, 6)] Try.func33 (by kernel_rfl) h (cr_same c0 cr_nil) lo hF z
theorem mcRound_all {m : Mach} {u : V6 Bool} {j : Int} {w : World} {β : Bs} {n : Nat} {E : Eff} (hn : n ≤ 1)
    (l0 : (!V6.get u (Int.toNat j)) = true → (!eqb (V6.get (Mach.r m) (Int.toNat j)) 0#64) = true → (decide (j < 6)) = true ∧ (AC.isB (Option.getD (bcs u)[Int.toNat j * 1]? (AC.b false)) && Nat.blt (Int.toNat j * 1) (List.length (bcs u)) && (decide (0 ≤ j) && decide (j < 6))) = true ∧ (decide (0 ≤ j) && decide (j < 6)) = true ∧ (AC.isU (Option.getD (Mach.cs m)[1 + Int.toNat j * 1]? (AC.b false)) && Nat.blt (1 + Int.toNat j * 1) (List.length (Mach.cs m))) = true ∧ (Eff.mk (AV.c (AC.b (AC.asB (Option.getD (bcs u)[Int.toNat j * 1]? (AC.b false))))) [] none = Eff.mk (AV.c (AC.b (V6.get u (Int.toNat j)))) [] none) ∧ (Eff.mk (AV.c (AC.u (AC.asU (Option.getD (Mach.cs m)[1 + Int.toNat j * 1]? (AC.b false))))) [] none = Eff.mk (AV.c (AC.u (V6.get (Mach.r m) (Int.toNat j)))) [] none) ∧ ((⟨AV.c (AC.i 1), [], none⟩ : Eff) = E))
    (l1 : (!V6.get u (Int.toNat j)) = true → (!eqb (V6.get (Mach.r m) (Int.toNat j)) 0#64) = false → (decide (j < 6)) = true ∧ (AC.isB (Option.getD (bcs u)[Int.toNat j * 1]? (AC.b false)) && Nat.blt (Int.toNat j * 1) (List.length (bcs u)) && (decide (0 ≤ j) && decide (j < 6))) = true ∧ (decide (0 ≤ j) && decide (j < 6)) = true ∧ (AC.isU (Option.getD (Mach.cs m)[1 + Int.toNat j * 1]? (AC.b false)) && Nat.blt (1 + Int.toNat j * 1) (List.length (Mach.cs m))) = true ∧ (Eff.mk (AV.c (AC.b (AC.asB (Option.getD (bcs u)[Int.toNat j * 1]? (AC.b false))))) [] none = Eff.mk (AV.c (AC.b (V6.get u (Int.toNat j)))) [] none) ∧ (Eff.mk (AV.c (AC.u (AC.asU (Option.getD (Mach.cs m)[1 + Int.toNat j * 1]? (AC.b false))))) [] none = Eff.mk (AV.c (AC.u (V6.get (Mach.r m) (Int.toNat j)))) [] none) ∧ Kn.Low ⟨[(1, AV.c (AC.w 0)), (30, AV.ag (bcs u)), (31, AV.c (AC.i (IntKind.wrap IntKind.i64 (j + 1))))], [(0, Ent.mk true (Mach.cs m) 0)], 1⟩ ∧ ART Try.prog 33 (cx w β n []) Try.f33.ntmps (cutAt Try.f33 0) ⟨[(1, AV.c (AC.w 0)), (30, AV.ag (bcs u)), (31, AV.c (AC.i (IntKind.wrap IntKind.i64 (j + 1))))], [(0, Ent.mk true (Mach.cs m) 0)], 1⟩ (REff w β E))
    (l2 : (!V6.get u (Int.toNat j)) = false → (decide (j < 6)) = true ∧ (AC.isB (Option.getD (bcs u)[Int.toNat j * 1]? (AC.b false)) && Nat.blt (Int.toNat j * 1) (List.length (bcs u)) && (decide (0 ≤ j) && decide (j < 6))) = true ∧ (Eff.mk (AV.c (AC.b (AC.asB (Option.getD (bcs u)[Int.toNat j * 1]? (AC.b false))))) [] none = Eff.mk (AV.c (AC.b (V6.get u (Int.toNat j)))) [] none) ∧ Kn.Low ⟨[(1, AV.c (AC.w 0)), (30, AV.ag (bcs u)), (31, AV.c (AC.i (IntKind.wrap IntKind.i64 (j + 1))))], [(0, Ent.mk true (Mach.cs m) 0)], 1⟩ ∧ ART Try.prog 33 (cx w β n []) Try.f33.ntmps (cutAt Try.f33 0) ⟨[(1, AV.c (AC.w 0)), (30, AV.ag (bcs u)), (31, AV.c (AC.i (IntKind.wrap IntKind.i64 (j + 1))))], [(0, Ent.mk true (Mach.cs m) 0)], 1⟩ (REff w β E)) :
    ART Try.prog 33 (cx w β n []) Try.f33.ntmps (cutAt Try.f33 0) (Kn.mk [(1, AV.c (AC.w 0)), (30, AV.ag (bcs u)), (31, AV.c (AC.i j))] [(0, Ent.mk true (Mach.cs m) 0)] 1) (REff w β E) :=
  (tf (!V6.get u (Int.toNat j))).elim (fun h0 => (tf (!eqb (V6.get (Mach.r m) (Int.toNat j)) 0#64)).elim (fun h1 => (match l0 h0 h1 with | ⟨o0, o1, o2, o3, c0, c1, e⟩ => art_eq (mcRound_w0 (and_yes o0 (and_yes o1 (and_yes h0 (and_yes o2 (and_yes o3 (and_yes h1 rfl)))))) c0 c1) e)) (fun h1 => (match l1 h0 h1 with | ⟨o0, o1, o2, o3, c0, c1, lo, z⟩ => mcRound_w1 (and_yes o0 (and_yes o1 (and_yes h0 (and_yes o2 (and_yes o3 (and_yes (not_yes h1) rfl)))))) c0 c1 lo (fun _ hk => Nat.lt_of_lt_of_le hk hn) z))) (fun h0 => (match l2 h0 with | ⟨o0, o1, c0, lo, z⟩ => mcRound_w2 (and_yes o0 (and_yes o1 (and_yes (not_yes h0) rfl))) c0 lo (fun _ hk => Nat.lt_of_lt_of_le hk hn) z))
theorem mcEnd_w0 {m : Mach} {u : V6 Bool} {w : World} {β : Bs} {n : Nat} :
    ART Try.prog 33 (cx w β n []) Try.f33.ntmps (cutAt Try.f33 0) (Kn.mk [(1, AV.c (AC.w 0)), (30, AV.ag (bcs u)), (31, AV.c (AC.i 6))] [(0, Ent.mk true (Mach.cs m) 0)] 1) (REff w β ⟨AV.c (AC.i 0), [], none⟩) :=
  run_eff [] (none) 2000 [] [false] [true] [] Try.func33 (ekeys0 rfl n) (by kernel_rfl) rfl cr_nil
theorem start_w0 {mem : ByteArray} {x : BitVec 64} (h : ((↑(ByteArray.size mem) : Int) != 64 && true) = true) :
    CallOK Try.prog ⟨11, [AV.c (AC.s mem), AV.c (AC.u x)], [], ⟨AV.tu [AT.ag [AC.i 0, AC.u 0#64, AC.u 0#64, AC.u 0#64, AC.u 0#64, AC.u 0#64, AC.u 0#64, AC.b false, AC.b false, AC.b false, AC.b false, AC.b false, AC.b false, AC.s (ByteArray.mk #[]), AC.i 0], AT.c (AC.i 1)], [], none⟩⟩ :=
  val_run 2000 [] [true] [] [] Try.func11 rfl rfl rfl rfl (by kernel_rfl) h cr_nil
theorem start_w1 {mem : ByteArray} {x : BitVec 64} (h : (!(↑(ByteArray.size mem) : Int) != 64 && true) = true) (c0 : CallOK Try.prog (CallRec.mk 32 [AV.ag [AC.i 0, AC.u 0#64, AC.u 0#64, AC.u 0#64, AC.u 0#64, AC.u 0#64, AC.u 0#64, AC.b false, AC.b false, AC.b false, AC.b false, AC.b false, AC.b false, AC.s mem, AC.i 0], AV.c (AC.i 1), AV.c (AC.u x)] [] (Eff.mk (AV.ag (Mach.cs (Mach.wth (Mach.mk 0 (V6.mk 0#64 0#64 0#64 0#64 0#64 0#64) (V6.mk false false false false false false) mem 0) 1 x))) [] none))) :
    CallOK Try.prog ⟨11, [AV.c (AC.s mem), AV.c (AC.u x)], [], ⟨AV.tu [AT.ag [AC.i 0, AC.u 0#64, AC.u x, AC.u 0#64, AC.u 0#64, AC.u 0#64, AC.u 0#64, AC.b false, AC.b true, AC.b false, AC.b false, AC.b false, AC.b false, AC.s mem, AC.i 0], AT.c (AC.i 0)], [], none⟩⟩ :=
  val_run 2000 [Eff.mk (AV.ag (Mach.cs (Mach.wth (Mach.mk 0 (V6.mk 0#64 0#64 0#64 0#64 0#64 0#64) (V6.mk false false false false false false) mem 0) 1 x))) [] none] [false] [] [] Try.func11 rfl rfl rfl rfl (by kernel_rfl) h (cr_cons c0 cr_nil)
theorem start_all {mem : ByteArray} {x : BitVec 64} {V : AV}
    (l0 : ((↑(ByteArray.size mem) : Int) != 64) = true → (AV.tu [AT.ag [AC.i 0, AC.u 0#64, AC.u 0#64, AC.u 0#64, AC.u 0#64, AC.u 0#64, AC.u 0#64, AC.b false, AC.b false, AC.b false, AC.b false, AC.b false, AC.b false, AC.s (ByteArray.mk #[]), AC.i 0], AT.c (AC.i 1)] = V))
    (l1 : ((↑(ByteArray.size mem) : Int) != 64) = false → (CallOK Try.prog (CallRec.mk 32 [AV.ag [AC.i 0, AC.u 0#64, AC.u 0#64, AC.u 0#64, AC.u 0#64, AC.u 0#64, AC.u 0#64, AC.b false, AC.b false, AC.b false, AC.b false, AC.b false, AC.b false, AC.s mem, AC.i 0], AV.c (AC.i 1), AV.c (AC.u x)] [] (Eff.mk (AV.ag (Mach.cs (Mach.wth (Mach.mk 0 (V6.mk 0#64 0#64 0#64 0#64 0#64 0#64) (V6.mk false false false false false false) mem 0) 1 x))) [] none))) ∧ (AV.tu [AT.ag [AC.i 0, AC.u 0#64, AC.u x, AC.u 0#64, AC.u 0#64, AC.u 0#64, AC.u 0#64, AC.b false, AC.b true, AC.b false, AC.b false, AC.b false, AC.b false, AC.s mem, AC.i 0], AT.c (AC.i 0)] = V)) :
    CallOK Try.prog ⟨11, [AV.c (AC.s mem), AV.c (AC.u x)], [], ⟨V, [], none⟩⟩ :=
  (tf ((↑(ByteArray.size mem) : Int) != 64)).elim (fun h0 => (match l0 h0 with | e => ok_eq (start_w0 (and_yes h0 rfl)) e)) (fun h0 => (match l1 h0 with | ⟨c0, e⟩ => ok_eq (start_w1 (and_yes (not_yes h0) rfl) c0) e))
theorem step_w0 {L : List Ins} {c : Nat} {m : Mach} {w : World} {β : Bs} {n : Nat} (h : (codeErr L != 0 && true) = true) (c0 : CallOK Try.prog (CallRec.mk 28 [AV.c (AC.sl 0 0 (List.length L) c)] [(0, Ent.mk false (pcell L) 0)] (Eff.mk (AV.c (AC.i (codeErr L))) [] none))) :
    ART Try.prog 12 (cx w β n []) Try.f12.ntmps ([Item.code (bodyOf Try.f12)]) (Kn.start [AV.c (AC.sl 0 0 (List.length L) c), AV.ag (Mach.cs m)] [(0, Ent.mk false (pcell L) 0)] 1) (REff w β ⟨AV.tu [AT.ag [AC.i 0, AC.u 0#64, AC.u 0#64, AC.u 0#64, AC.u 0#64, AC.u 0#64, AC.u 0#64, AC.b false, AC.b false, AC.b false, AC.b false, AC.b false, AC.b false, AC.s (ByteArray.mk #[]), AC.i 0], AT.c (AC.i (codeErr L))], [], none⟩) :=
  run_eff [] (none) 2000 [Eff.mk (AV.c (AC.i (codeErr L))) [] none] [true] [] [(11, 4)] Try.func12 (ekeys0 rfl n) (by kernel_rfl) h (cr_cons c0 cr_nil)
theorem step_w1 {L : List Ins} {c : Nat} {m : Mach} {w : World} {β : Bs} {n : Nat} (h : (!codeErr L != 0 && (machErr m != 0 && true)) = true) (c0 : CallOK Try.prog (CallRec.mk 28 [AV.c (AC.sl 0 0 (List.length L) c)] [(0, Ent.mk false (pcell L) 0)] (Eff.mk (AV.c (AC.i (codeErr L))) [] none))) (c1 : CallOK Try.prog (CallRec.mk 33 [AV.ag (Mach.cs m)] [] (Eff.mk (AV.c (AC.i (machErr m))) [] none))) :
    ART Try.prog 12 (cx w β n []) Try.f12.ntmps ([Item.code (bodyOf Try.f12)]) (Kn.start [AV.c (AC.sl 0 0 (List.length L) c), AV.ag (Mach.cs m)] [(0, Ent.mk false (pcell L) 0)] 1) (REff w β ⟨AV.tu [AT.ag [AC.i 0, AC.u 0#64, AC.u 0#64, AC.u 0#64, AC.u 0#64, AC.u 0#64, AC.u 0#64, AC.b false, AC.b false, AC.b false, AC.b false, AC.b false, AC.b false, AC.s (ByteArray.mk #[]), AC.i 0], AT.c (AC.i (machErr m))], [], none⟩) :=
  run_eff [] (none) 2000 [Eff.mk (AV.c (AC.i (codeErr L))) [] none, Eff.mk (AV.c (AC.i (machErr m))) [] none] [false, true] [] [(11, 4)] Try.func12 (ekeys0 rfl n) (by kernel_rfl) h (cr_cons c0 (cr_cons c1 cr_nil))
theorem step_w2 {L : List Ins} {c : Nat} {m : Mach} {w : World} {β : Bs} {n : Nat} (h : (!codeErr L != 0 && (!machErr m != 0 && (decide ((↑(List.length L) : Int) ≤ Mach.t m) && true))) = true) (c0 : CallOK Try.prog (CallRec.mk 28 [AV.c (AC.sl 0 0 (List.length L) c)] [(0, Ent.mk false (pcell L) 0)] (Eff.mk (AV.c (AC.i (codeErr L))) [] none))) (c1 : CallOK Try.prog (CallRec.mk 33 [AV.ag (Mach.cs m)] [] (Eff.mk (AV.c (AC.i (machErr m))) [] none))) :
    ART Try.prog 12 (cx w β n []) Try.f12.ntmps ([Item.code (bodyOf Try.f12)]) (Kn.start [AV.c (AC.sl 0 0 (List.length L) c), AV.ag (Mach.cs m)] [(0, Ent.mk false (pcell L) 0)] 1) (REff w β ⟨AV.tu [AT.ag [AC.i 0, AC.u 0#64, AC.u 0#64, AC.u 0#64, AC.u 0#64, AC.u 0#64, AC.u 0#64, AC.b false, AC.b false, AC.b false, AC.b false, AC.b false, AC.b false, AC.s (ByteArray.mk #[]), AC.i 0], AT.c (AC.i 3)], [], none⟩) :=
  run_eff [] (none) 2000 [Eff.mk (AV.c (AC.i (codeErr L))) [] none, Eff.mk (AV.c (AC.i (machErr m))) [] none] [false, false, true] [] [(11, 4)] Try.func12 (ekeys0 rfl n) (by kernel_rfl) h (cr_cons c0 (cr_cons c1 cr_nil))
theorem step_w3 {L : List Ins} {c : Nat} {m : Mach} {w : World} {β : Bs} {n : Nat} (h : (!codeErr L != 0 && (!machErr m != 0 && (!decide ((↑(List.length L) : Int) ≤ Mach.t m) && (Mach.fin m != 0 && true)))) = true) (c0 : CallOK Try.prog (CallRec.mk 28 [AV.c (AC.sl 0 0 (List.length L) c)] [(0, Ent.mk false (pcell L) 0)] (Eff.mk (AV.c (AC.i (codeErr L))) [] none))) (c1 : CallOK Try.prog (CallRec.mk 33 [AV.ag (Mach.cs m)] [] (Eff.mk (AV.c (AC.i (machErr m))) [] none))) :
    ART Try.prog 12 (cx w β n []) Try.f12.ntmps ([Item.code (bodyOf Try.f12)]) (Kn.start [AV.c (AC.sl 0 0 (List.length L) c), AV.ag (Mach.cs m)] [(0, Ent.mk false (pcell L) 0)] 1) (REff w β ⟨AV.tu [AT.ag (Mach.cs m), AT.c (AC.i 0)], [], none⟩) :=
  run_eff [] (none) 2000 [Eff.mk (AV.c (AC.i (codeErr L))) [] none, Eff.mk (AV.c (AC.i (machErr m))) [] none] [false, false, false, true] [] [(11, 4)] Try.func12 (ekeys0 rfl n) (by kernel_rfl) h (cr_cons c0 (cr_cons c1 cr_nil))
theorem step_w4 {L : List Ins} {c : Nat} {m : Mach} {w : World} {β : Bs} {n : Nat} (h : (!codeErr L != 0 && (!machErr m != 0 && (!decide ((↑(List.length L) : Int) ≤ Mach.t m) && (!Mach.fin m != 0 && (decide (0 ≤ Mach.t m) && decide (Mach.t m < (↑(List.length L) : Int)) && (Nat.ble (0 + Int.toNat (Mach.t m) * 5 + 5) (List.length (pcell L)) && true)))))) = true) (c0 : CallOK Try.prog (CallRec.mk 28 [AV.c (AC.sl 0 0 (List.length L) c)] [(0, Ent.mk false (pcell L) 0)] (Eff.mk (AV.c (AC.i (codeErr L))) [] none))) (c1 : CallOK Try.prog (CallRec.mk 33 [AV.ag (Mach.cs m)] [] (Eff.mk (AV.c (AC.i (machErr m))) [] none))) (c2 : Eff.mk (AV.ag (List.take 5 (List.drop (0 + Int.toNat (Mach.t m) * 5) (pcell L)))) [] none = Eff.mk (AV.ag (Ins.cs (insAt L (Mach.t m)))) [] none) (c3 : CallOK Try.prog (CallRec.mk 29 [AV.ag (Ins.cs (insAt L (Mach.t m))), AV.ag (Mach.cs m)] [] (Eff.mk (AV.ag (Mach.cs (stepM (insAt L (Mach.t m)) m))) [] none))) :
    ART Try.prog 12 (cx w β n []) Try.f12.ntmps ([Item.code (bodyOf Try.f12)]) (Kn.start [AV.c (AC.sl 0 0 (List.length L) c), AV.ag (Mach.cs m)] [(0, Ent.mk false (pcell L) 0)] 1) (REff w β ⟨AV.tu [AT.ag (Mach.cs (stepM (insAt L (Mach.t m)) m)), AT.c (AC.i 0)], [], none⟩) :=
  run_eff [] (none) 2000 [Eff.mk (AV.c (AC.i (codeErr L))) [] none, Eff.mk (AV.c (AC.i (machErr m))) [] none, Eff.mk (AV.ag (Ins.cs (insAt L (Mach.t m)))) [] none, Eff.mk (AV.ag (Mach.cs (stepM (insAt L (Mach.t m)) m))) [] none] [false, false, false, false] [] [(11, 4)] Try.func12 (ekeys0 rfl n) (by kernel_rfl) h (cr_cons c0 (cr_cons c1 (cr_same c2 (cr_cons c3 cr_nil))))
theorem step_all {L : List Ins} {c : Nat} {m : Mach} {w : World} {β : Bs} {n : Nat} {E : Eff}
    (l0 : (codeErr L != 0) = true → (CallOK Try.prog (CallRec.mk 28 [AV.c (AC.sl 0 0 (List.length L) c)] [(0, Ent.mk false (pcell L) 0)] (Eff.mk (AV.c (AC.i (codeErr L))) [] none))) ∧ ((⟨AV.tu [AT.ag [AC.i 0, AC.u 0#64, AC.u 0#64, AC.u 0#64, AC.u 0#64, AC.u 0#64, AC.u 0#64, AC.b false, AC.b false, AC.b false, AC.b false, AC.b false, AC.b false, AC.s (ByteArray.mk #[]), AC.i 0], AT.c (AC.i (codeErr L))], [], none⟩ : Eff) = E))
    (l1 : (codeErr L != 0) = false → (machErr m != 0) = true → (CallOK Try.prog (CallRec.mk 28 [AV.c (AC.sl 0 0 (List.length L) c)] [(0, Ent.mk false (pcell L) 0)] (Eff.mk (AV.c (AC.i (codeErr L))) [] none))) ∧ (CallOK Try.prog (CallRec.mk 33 [AV.ag (Mach.cs m)] [] (Eff.mk (AV.c (AC.i (machErr m))) [] none))) ∧ ((⟨AV.tu [AT.ag [AC.i 0, AC.u 0#64, AC.u 0#64, AC.u 0#64, AC.u 0#64, AC.u 0#64, AC.u 0#64, AC.b false, AC.b false, AC.b false, AC.b false, AC.b false, AC.b false, AC.s (ByteArray.mk #[]), AC.i 0], AT.c (AC.i (machErr m))], [], none⟩ : Eff) = E))
    (l2 : (codeErr L != 0) = false → (machErr m != 0) = false → (decide ((↑(List.length L) : Int) ≤ Mach.t m)) = true → (CallOK Try.prog (CallRec.mk 28 [AV.c (AC.sl 0 0 (List.length L) c)] [(0, Ent.mk false (pcell L) 0)] (Eff.mk (AV.c (AC.i (codeErr L))) [] none))) ∧ (CallOK Try.prog (CallRec.mk 33 [AV.ag (Mach.cs m)] [] (Eff.mk (AV.c (AC.i (machErr m))) [] none))) ∧ ((⟨AV.tu [AT.ag [AC.i 0, AC.u 0#64, AC.u 0#64, AC.u 0#64, AC.u 0#64, AC.u 0#64, AC.u 0#64, AC.b false, AC.b false, AC.b false, AC.b false, AC.b false, AC.b false, AC.s (ByteArray.mk #[]), AC.i 0], AT.c (AC.i 3)], [], none⟩ : Eff) = E))
    (l3 : (codeErr L != 0) = false → (machErr m != 0) = false → (decide ((↑(List.length L) : Int) ≤ Mach.t m)) = false → (Mach.fin m != 0) = true → (CallOK Try.prog (CallRec.mk 28 [AV.c (AC.sl 0 0 (List.length L) c)] [(0, Ent.mk false (pcell L) 0)] (Eff.mk (AV.c (AC.i (codeErr L))) [] none))) ∧ (CallOK Try.prog (CallRec.mk 33 [AV.ag (Mach.cs m)] [] (Eff.mk (AV.c (AC.i (machErr m))) [] none))) ∧ ((⟨AV.tu [AT.ag (Mach.cs m), AT.c (AC.i 0)], [], none⟩ : Eff) = E))
    (l4 : (codeErr L != 0) = false → (machErr m != 0) = false → (decide ((↑(List.length L) : Int) ≤ Mach.t m)) = false → (Mach.fin m != 0) = false → (decide (0 ≤ Mach.t m) && decide (Mach.t m < (↑(List.length L) : Int))) = true ∧ (Nat.ble (0 + Int.toNat (Mach.t m) * 5 + 5) (List.length (pcell L))) = true ∧ (CallOK Try.prog (CallRec.mk 28 [AV.c (AC.sl 0 0 (List.length L) c)] [(0, Ent.mk false (pcell L) 0)] (Eff.mk (AV.c (AC.i (codeErr L))) [] none))) ∧ (CallOK Try.prog (CallRec.mk 33 [AV.ag (Mach.cs m)] [] (Eff.mk (AV.c (AC.i (machErr m))) [] none))) ∧ (Eff.mk (AV.ag (List.take 5 (List.drop (0 + Int.toNat (Mach.t m) * 5) (pcell L)))) [] none = Eff.mk (AV.ag (Ins.cs (insAt L (Mach.t m)))) [] none) ∧ (CallOK Try.prog (CallRec.mk 29 [AV.ag (Ins.cs (insAt L (Mach.t m))), AV.ag (Mach.cs m)] [] (Eff.mk (AV.ag (Mach.cs (stepM (insAt L (Mach.t m)) m))) [] none))) ∧ ((⟨AV.tu [AT.ag (Mach.cs (stepM (insAt L (Mach.t m)) m)), AT.c (AC.i 0)], [], none⟩ : Eff) = E)) :
    ART Try.prog 12 (cx w β n []) Try.f12.ntmps ([Item.code (bodyOf Try.f12)]) (Kn.start [AV.c (AC.sl 0 0 (List.length L) c), AV.ag (Mach.cs m)] [(0, Ent.mk false (pcell L) 0)] 1) (REff w β E) :=
  (tf (codeErr L != 0)).elim (fun h0 => (match l0 h0 with | ⟨c0, e⟩ => art_eq (step_w0 (and_yes h0 rfl) c0) e)) (fun h0 => (tf (machErr m != 0)).elim (fun h1 => (match l1 h0 h1 with | ⟨c0, c1, e⟩ => art_eq (step_w1 (and_yes (not_yes h0) (and_yes h1 rfl)) c0 c1) e)) (fun h1 => (tf (decide ((↑(List.length L) : Int) ≤ Mach.t m))).elim (fun h2 => (match l2 h0 h1 h2 with | ⟨c0, c1, e⟩ => art_eq (step_w2 (and_yes (not_yes h0) (and_yes (not_yes h1) (and_yes h2 rfl))) c0 c1) e)) (fun h2 => (tf (Mach.fin m != 0)).elim (fun h3 => (match l3 h0 h1 h2 h3 with | ⟨c0, c1, e⟩ => art_eq (step_w3 (and_yes (not_yes h0) (and_yes (not_yes h1) (and_yes (not_yes h2) (and_yes h3 rfl)))) c0 c1) e)) (fun h3 => (match l4 h0 h1 h2 h3 with | ⟨o0, o1, c0, c1, c2, c3, e⟩ => art_eq (step_w4 (and_yes (not_yes h0) (and_yes (not_yes h1) (and_yes (not_yes h2) (and_yes (not_yes h3) (and_yes o0 (and_yes o1 rfl)))))) c0 c1 c2 c3) e)))))
theorem stepNil_w0 {m : Mach} (c0 : CallOK Try.prog (CallRec.mk 28 [AV.c nilSl] [] (Eff.mk (AV.c (AC.i 2)) [] none))) :
    CallOK Try.prog ⟨12, [AV.c nilSl, AV.ag (Mach.cs m)], [], ⟨AV.tu [AT.ag [AC.i 0, AC.u 0#64, AC.u 0#64, AC.u 0#64, AC.u 0#64, AC.u 0#64, AC.u 0#64, AC.b false, AC.b false, AC.b false, AC.b false, AC.b false, AC.b false, AC.s (ByteArray.mk #[]), AC.i 0], AT.c (AC.i 2)], [], none⟩⟩ :=
  val_run 2000 [Eff.mk (AV.c (AC.i 2)) [] none] [true] [] [] Try.func12 rfl rfl rfl rfl (by kernel_rfl) rfl (cr_cons c0 cr_nil)
theorem runTop_w0 {L : List Ins} {c : Nat} {mem : ByteArray} {x : BitVec 64} {w : World} {β : Bs} {n : Nat} (h : (codeErr L != 0 && true) = true) (c0 : CallOK Try.prog (CallRec.mk 28 [AV.c (AC.sl 0 0 (List.length L) c)] [(0, Ent.mk false (pcell L) 0)] (Eff.mk (AV.c (AC.i (codeErr L))) [] none))) :
    ART Try.prog 9 (cx w β n []) Try.f9.ntmps ([Item.code (bodyOf Try.f9)]) (Kn.start [AV.c (AC.sl 0 0 (List.length L) c), AV.c (AC.s mem), AV.c (AC.u x)] [(0, Ent.mk false (pcell L) 0)] 1) (REff w β ⟨AV.tu [AT.ag [AC.i 0, AC.i 0, AC.i 0, AC.u 0#64, AC.s (ByteArray.mk #[])], AT.c (AC.i (codeErr L))], [], none⟩) :=
  run_eff [] (none) 2000 [Eff.mk (AV.c (AC.i (codeErr L))) [] none] [true] [true] [] Try.func9 (ekeys0 rfl n) (by kernel_rfl) h (cr_cons c0 cr_nil)
theorem runTop_w1 {L : List Ins} {c : Nat} {mem : ByteArray} {x : BitVec 64} {m : Mach} {e : Int} {w : World} {β : Bs} {n : Nat} (h : (!codeErr L != 0 && (e != 0 && true)) = true) (c0 : CallOK Try.prog (CallRec.mk 28 [AV.c (AC.sl 0 0 (List.length L) c)] [(0, Ent.mk false (pcell L) 0)] (Eff.mk (AV.c (AC.i (codeErr L))) [] none))) (c1 : CallOK Try.prog (CallRec.mk 11 [AV.c (AC.s mem), AV.c (AC.u x)] [] (Eff.mk (AV.tu [AT.ag (Mach.cs m), AT.c (AC.i e)]) [] none))) :
    ART Try.prog 9 (cx w β n []) Try.f9.ntmps ([Item.code (bodyOf Try.f9)]) (Kn.start [AV.c (AC.sl 0 0 (List.length L) c), AV.c (AC.s mem), AV.c (AC.u x)] [(0, Ent.mk false (pcell L) 0)] 1) (REff w β ⟨AV.tu [AT.ag [AC.i 0, AC.i 0, AC.i 0, AC.u 0#64, AC.s (ByteArray.mk #[])], AT.c (AC.i e)], [], none⟩) :=
  run_eff [] (none) 2000 [Eff.mk (AV.c (AC.i (codeErr L))) [] none, Eff.mk (AV.tu [AT.ag (Mach.cs m), AT.c (AC.i e)]) [] none] [false, true] [true] [] Try.func9 (ekeys0 rfl n) (by kernel_rfl) h (cr_cons c0 (cr_cons c1 cr_nil))
theorem runTop_w2 {L : List Ins} {c : Nat} {mem : ByteArray} {x : BitVec 64} {m : Mach} {e : Int} {C : Cx} {R : Ending → World → Prop} (h : (!codeErr L != 0 && (!e != 0 && true)) = true) (c0 : CallOK Try.prog (CallRec.mk 28 [AV.c (AC.sl 0 0 (List.length L) c)] [(0, Ent.mk false (pcell L) 0)] (Eff.mk (AV.c (AC.i (codeErr L))) [] none))) (c1 : CallOK Try.prog (CallRec.mk 11 [AV.c (AC.s mem), AV.c (AC.u x)] [] (Eff.mk (AV.tu [AT.ag (Mach.cs m), AT.c (AC.i e)]) [] none))) (lo : Kn.Low ⟨[(0, AV.c (AC.sl 0 0 (List.length L) c)), (6, AV.c (AC.w 1)), (9, AV.c (AC.w 14)), (11, AV.c (AC.i 0))], [(0, Ent.mk false (pcell L) 0), (1, Ent.mk true [AC.i 0, AC.i 0, AC.i 0, AC.u 0#64, AC.s (ByteArray.mk #[])] 0), (14, Ent.mk true (Mach.cs m) 0)], 15⟩) (hF : ∀ k, C.F k → k < 15) (z : ART Try.prog 9 C Try.f9.ntmps (cutAt Try.f9 0) ⟨[(0, AV.c (AC.sl 0 0 (List.length L) c)), (6, AV.c (AC.w 1)), (9, AV.c (AC.w 14)), (11, AV.c (AC.i 0))], [(0, Ent.mk false (pcell L) 0), (1, Ent.mk true [AC.i 0, AC.i 0, AC.i 0, AC.u 0#64, AC.s (ByteArray.mk #[])] 0), (14, Ent.mk true (Mach.cs m) 0)], 15⟩ R) :
    ART Try.prog 9 C Try.f9.ntmps ([Item.code (bodyOf Try.f9)]) (Kn.start [AV.c (AC.sl 0 0 (List.length L) c), AV.c (AC.s mem), AV.c (AC.u x)] [(0, Ent.mk false (pcell L) 0)] 1) R :=
  run_cut ⟨[(0, AV.c (AC.sl 0 0 (List.length L) c)), (6, AV.c (AC.w 1)), (9, AV.c (AC.w 14)), (11, AV.c (AC.i 0))], [(0, Ent.mk false (pcell L) 0), (1, Ent.mk true [AC.i 0, AC.i 0, AC.i 0, AC.u 0#64, AC.s (ByteArray.mk #[])] 0), (14, Ent.mk true (Mach.cs m) 0)], 15⟩ 2000 [Eff.mk (AV.c (AC.i (codeErr L))) [] none, Eff.mk (AV.tu [AT.ag (Mach.cs m), AT.c (AC.i e)]) [] none] [false, false] [true] [] Try.func9 (by kernel_rfl) h (cr_cons c0 (cr_cons c1 cr_nil)) lo hF z
theorem runTop_all {L : List Ins} {c : Nat} {mem : ByteArray} {x : BitVec 64} {m : Mach} {e : Int} {w : World} {β : Bs} {n : Nat} {E : Eff} (hn : n ≤ 15)
    (l0 : (codeErr L != 0) = true → (CallOK Try.prog (CallRec.mk 28 [AV.c (AC.sl 0 0 (List.length L) c)] [(0, Ent.mk false (pcell L) 0)] (Eff.mk (AV.c (AC.i (codeErr L))) [] none))) ∧ ((⟨AV.tu [AT.ag [AC.i 0, AC.i 0, AC.i 0, AC.u 0#64, AC.s (ByteArray.mk #[])], AT.c (AC.i (codeErr L))], [], none⟩ : Eff) = E))
    (l1 : (codeErr L != 0) = false → (e != 0) = true → (CallOK Try.prog (CallRec.mk 28 [AV.c (AC.sl 0 0 (List.length L) c)] [(0, Ent.mk false (pcell L) 0)] (Eff.mk (AV.c (AC.i (codeErr L))) [] none))) ∧ (CallOK Try.prog (CallRec.mk 11 [AV.c (AC.s mem), AV.c (AC.u x)] [] (Eff.mk (AV.tu [AT.ag (Mach.cs m), AT.c (AC.i e)]) [] none))) ∧ ((⟨AV.tu [AT.ag [AC.i 0, AC.i 0, AC.i 0, AC.u 0#64, AC.s (ByteArray.mk #[])], AT.c (AC.i e)], [], none⟩ : Eff) = E))
    (l2 : (codeErr L != 0) = false → (e != 0) = false → (CallOK Try.prog (CallRec.mk 28 [AV.c (AC.sl 0 0 (List.length L) c)] [(0, Ent.mk false (pcell L) 0)] (Eff.mk (AV.c (AC.i (codeErr L))) [] none))) ∧ (CallOK Try.prog (CallRec.mk 11 [AV.c (AC.s mem), AV.c (AC.u x)] [] (Eff.mk (AV.tu [AT.ag (Mach.cs m), AT.c (AC.i e)]) [] none))) ∧ Kn.Low ⟨[(0, AV.c (AC.sl 0 0 (List.length L) c)), (6, AV.c (AC.w 1)), (9, AV.c (AC.w 14)), (11, AV.c (AC.i 0))], [(0, Ent.mk false (pcell L) 0), (1, Ent.mk true [AC.i 0, AC.i 0, AC.i 0, AC.u 0#64, AC.s (ByteArray.mk #[])] 0), (14, Ent.mk true (Mach.cs m) 0)], 15⟩ ∧ ART Try.prog 9 (cx w β n []) Try.f9.ntmps (cutAt Try.f9 0) ⟨[(0, AV.c (AC.sl 0 0 (List.length L) c)), (6, AV.c (AC.w 1)), (9, AV.c (AC.w 14)), (11, AV.c (AC.i 0))], [(0, Ent.mk false (pcell L) 0), (1, Ent.mk true [AC.i 0, AC.i 0, AC.i 0, AC.u 0#64, AC.s (ByteArray.mk #[])] 0), (14, Ent.mk true (Mach.cs m) 0)], 15⟩ (REff w β E)) :
    ART Try.prog 9 (cx w β n []) Try.f9.ntmps ([Item.code (bodyOf Try.f9)]) (Kn.start [AV.c (AC.sl 0 0 (List.length L) c), AV.c (AC.s mem), AV.c (AC.u x)] [(0, Ent.mk false (pcell L) 0)] 1) (REff w β E) :=
  (tf (codeErr L != 0)).elim (fun h0 => (match l0 h0 with | ⟨c0, e⟩ => art_eq (runTop_w0 (and_yes h0 rfl) c0) e)) (fun h0 => (tf (e != 0)).elim (fun h1 => (match l1 h0 h1 with | ⟨c0, c1, e⟩ => art_eq (runTop_w1 (and_yes (not_yes h0) (and_yes h1 rfl)) c0 c1) e)) (fun h1 => (match l2 h0 h1 with | ⟨c0, c1, lo, z⟩ => runTop_w2 (and_yes (not_yes h0) (and_yes (not_yes h1) rfl)) c0 c1 lo (fun _ hk => Nat.lt_of_lt_of_le hk hn) z)))
theorem runRound_w0 {L : List Ins} {c : Nat} {m : Mach} {q : Int} {C : Cx} {R : Ending → World → Prop} (h : (Mach.fin m == 0 && (decide (0 ≤ Mach.t m) && decide (Mach.t m < (↑(List.length L) : Int)) && (Nat.ble (0 + Int.toNat (Mach.t m) * 5 + 5) (List.length (pcell L)) && true))) = true) (c0 : Eff.mk (AV.ag (List.take 5 (List.drop (0 + Int.toNat (Mach.t m) * 5) (pcell L)))) [] none = Eff.mk (AV.ag (Ins.cs (insAt L (Mach.t m)))) [] none) (c1 : CallOK Try.prog (CallRec.mk 29 [AV.ag (Ins.cs (insAt L (Mach.t m))), AV.ag (Mach.cs m)] [] (Eff.mk (AV.ag (Mach.cs (stepM (insAt L (Mach.t m)) m))) [] none))) (lo : Kn.Low ⟨[(0, AV.c (AC.sl 0 0 (List.length L) c)), (6, AV.c (AC.w 1)), (9, AV.c (AC.w 14)), (11, AV.c (AC.i (IntKind.wrap IntKind.i64 (q + 1))))], [(0, Ent.mk false (pcell L) 0), (1, Ent.mk true (Outc.cs Outc.z) 0), (14, Ent.mk true (Mach.cs (stepM (insAt L (Mach.t m)) m)) 0)], 15⟩) (hF : ∀ k, C.F k → k < 15) (z : ART Try.prog 9 C Try.f9.ntmps (cutAt Try.f9 0) ⟨[(0, AV.c (AC.sl 0 0 (List.length L) c)), (6, AV.c (AC.w 1)), (9, AV.c (AC.w 14)), (11, AV.c (AC.i (IntKind.wrap IntKind.i64 (q + 1))))], [(0, Ent.mk false (pcell L) 0), (1, Ent.mk true (Outc.cs Outc.z) 0), (14, Ent.mk true (Mach.cs (stepM (insAt L (Mach.t m)) m)) 0)], 15⟩ R) :
    ART Try.prog 9 C Try.f9.ntmps (cutAt Try.f9 0) (Kn.mk [(0, AV.c (AC.sl 0 0 (List.length L) c)), (6, AV.c (AC.w 1)), (9, AV.c (AC.w 14)), (11, AV.c (AC.i q))] [(0, Ent.mk false (pcell L) 0), (1, Ent.mk true (Outc.cs Outc.z) 0), (14, Ent.mk true (Mach.cs m) 0)] 15) R :=
  run_cut ⟨[(0, AV.c (AC.sl 0 0 (List.length L) c)), (6, AV.c (AC.w 1)), (9, AV.c (AC.w 14)), (11, AV.c (AC.i (IntKind.wrap IntKind.i64 (q + 1))))], [(0, Ent.mk false (pcell L) 0), (1, Ent.mk true (Outc.cs Outc.z) 0), (14, Ent.mk true (Mach.cs (stepM (insAt L (Mach.t m)) m)) 0)], 15⟩ 2000 [Eff.mk (AV.ag (Ins.cs (insAt L (Mach.t m)))) [] none, Eff.mk (AV.ag (Mach.cs (stepM (insAt L (Mach.t m)) m))) [] none] [true] [true] [(9, 4)] Try.func9 (by kernel_rfl) h (cr_same c0 (cr_cons c1 cr_nil)) lo hF z
theorem runEnd_w0 {L : List Ins} {c : Nat} {m : Mach} {q : Int} {w : World} {β : Bs} {n : Nat} (h : (!Mach.fin m == 0 && (Mach.fin m == 3 && true)) = true) :
    ART Try.prog 9 (cx w β n []) Try.f9.ntmps (cutAt Try.f9 0) (Kn.mk [(0, AV.c (AC.sl 0 0 (List.length L) c)), (6, AV.c (AC.w 1)), (9, AV.c (AC.w 14)), (11, AV.c (AC.i q))] [(0, Ent.mk false (pcell L) 0), (1, Ent.mk true (Outc.cs Outc.z) 0), (14, Ent.mk true (Mach.cs m) 0)] 15) (REff w β ⟨AV.tu [AT.ag [AC.i (Mach.fin m), AC.i (Mach.t m), AC.i q, AC.u (V6.x0 (Mach.r m)), AC.s (Mach.mem m)], AT.c (AC.i 0)], [], none⟩) :=
  run_eff [] (none) 2000 [] [false, true] [true] [] Try.func9 (ekeys0 rfl n) (by kernel_rfl) h cr_nil
theorem runEnd_w1 {L : List Ins} {c : Nat} {m : Mach} {q : Int} {w : World} {β : Bs} {n : Nat} (h : (!Mach.fin m == 0 && (!Mach.fin m == 3 && true)) = true) :
    ART Try.prog 9 (cx w β n []) Try.f9.ntmps (cutAt Try.f9 0) (Kn.mk [(0, AV.c (AC.sl 0 0 (List.length L) c)), (6, AV.c (AC.w 1)), (9, AV.c (AC.w 14)), (11, AV.c (AC.i q))] [(0, Ent.mk false (pcell L) 0), (1, Ent.mk true (Outc.cs Outc.z) 0), (14, Ent.mk true (Mach.cs m) 0)] 15) (REff w β ⟨AV.tu [AT.ag [AC.i (Mach.fin m), AC.i (Mach.t m), AC.i q, AC.u 0#64, AC.s (Mach.mem m)], AT.c (AC.i 0)], [], none⟩) :=
  run_eff [] (none) 2000 [] [false, false] [true] [] Try.func9 (ekeys0 rfl n) (by kernel_rfl) h cr_nil
theorem runEnd_all {L : List Ins} {c : Nat} {m : Mach} {q : Int} {w : World} {β : Bs} {n : Nat} {E : Eff}
    (l0 : (Mach.fin m == 3) = true → (!Mach.fin m == 0) = true ∧ ((⟨AV.tu [AT.ag [AC.i (Mach.fin m), AC.i (Mach.t m), AC.i q, AC.u (V6.x0 (Mach.r m)), AC.s (Mach.mem m)], AT.c (AC.i 0)], [], none⟩ : Eff) = E))
    (l1 : (Mach.fin m == 3) = false → (!Mach.fin m == 0) = true ∧ ((⟨AV.tu [AT.ag [AC.i (Mach.fin m), AC.i (Mach.t m), AC.i q, AC.u 0#64, AC.s (Mach.mem m)], AT.c (AC.i 0)], [], none⟩ : Eff) = E)) :
    ART Try.prog 9 (cx w β n []) Try.f9.ntmps (cutAt Try.f9 0) (Kn.mk [(0, AV.c (AC.sl 0 0 (List.length L) c)), (6, AV.c (AC.w 1)), (9, AV.c (AC.w 14)), (11, AV.c (AC.i q))] [(0, Ent.mk false (pcell L) 0), (1, Ent.mk true (Outc.cs Outc.z) 0), (14, Ent.mk true (Mach.cs m) 0)] 15) (REff w β E) :=
  (tf (Mach.fin m == 3)).elim (fun h0 => (match l0 h0 with | ⟨o0, e⟩ => art_eq (runEnd_w0 (and_yes o0 (and_yes h0 rfl))) e)) (fun h0 => (match l1 h0 with | ⟨o0, e⟩ => art_eq (runEnd_w1 (and_yes o0 (and_yes (not_yes h0) rfl))) e))
theorem runNil_w0 {mem : ByteArray} {x : BitVec 64} (c0 : CallOK Try.prog (CallRec.mk 28 [AV.c nilSl] [] (Eff.mk (AV.c (AC.i 2)) [] none))) :
    CallOK Try.prog ⟨9, [AV.c nilSl, AV.c (AC.s mem), AV.c (AC.u x)], [], ⟨AV.tu [AT.ag [AC.i 0, AC.i 0, AC.i 0, AC.u 0#64, AC.s (ByteArray.mk #[])], AT.c (AC.i 2)], [], none⟩⟩ :=
  val_run 2000 [Eff.mk (AV.c (AC.i 2)) [] none] [true] [] [] Try.func9 rfl rfl rfl rfl (by kernel_rfl) rfl (cr_cons c0 cr_nil)
end Go.Proofs.Ytkigmocchaikgab

/- Ways of bodies, written by a program (ways.py): what each asks for, and hands back. -/
namespace Go.Proofs.Ytkigmocchaikgab
open Go.RowKit

theorem branch_w0 {i : Ins} {m : Mach} {jp : Bool} (h : (jp && true) = true) (c0 : CallOK Try.prog (CallRec.mk 60 [AV.ag (Mach.cs m), AV.c (AC.i (Ins.of i))] [] (Eff.mk (AV.ag (Mach.cs (Mach.on m (Ins.of i)))) [] none))) :
    CallOK Try.prog ⟨61, [AV.ag (Ins.cs i), AV.ag (Mach.cs m), AV.c (AC.b jp)], [], ⟨AV.ag [AC.i (Mach.t m + 1 + Ins.of i), AC.u (V6.x0 (Mach.r m)), AC.u (V6.x1 (Mach.r m)), AC.u (V6.x2 (Mach.r m)), AC.u (V6.x3 (Mach.r m)), AC.u (V6.x4 (Mach.r m)), AC.u (V6.x5 (Mach.r m)), AC.b (V6.x0 (Mach.s m)), AC.b (V6.x1 (Mach.s m)), AC.b (V6.x2 (Mach.s m)), AC.b (V6.x3 (Mach.s m)), AC.b (V6.x4 (Mach.s m)), AC.b (V6.x5 (Mach.s m)), AC.s (Mach.mem m), AC.i (Mach.fin m)], [], none⟩⟩ :=
  val_run 2000 [Eff.mk (AV.ag (Mach.cs (Mach.on m (Ins.of i)))) [] none] [true] [] [] Try.func61 rfl rfl rfl rfl (by kernel_rfl) h (cr_cons c0 cr_nil)
theorem branch_w1 {i : Ins} {m : Mach} {jp : Bool} (h : (!jp && true) = true) (c0 : CallOK Try.prog (CallRec.mk 60 [AV.ag (Mach.cs m), AV.c (AC.i 0)] [] (Eff.mk (AV.ag (Mach.cs (Mach.on m 0))) [] none))) :
    CallOK Try.prog ⟨61, [AV.ag (Ins.cs i), AV.ag (Mach.cs m), AV.c (AC.b jp)], [], ⟨AV.ag [AC.i (Mach.t m + 1 + 0), AC.u (V6.x0 (Mach.r m)), AC.u (V6.x1 (Mach.r m)), AC.u (V6.x2 (Mach.r m)), AC.u (V6.x3 (Mach.r m)), AC.u (V6.x4 (Mach.r m)), AC.u (V6.x5 (Mach.r m)), AC.b (V6.x0 (Mach.s m)), AC.b (V6.x1 (Mach.s m)), AC.b (V6.x2 (Mach.s m)), AC.b (V6.x3 (Mach.s m)), AC.b (V6.x4 (Mach.s m)), AC.b (V6.x5 (Mach.s m)), AC.s (Mach.mem m), AC.i (Mach.fin m)], [], none⟩⟩ :=
  val_run 2000 [Eff.mk (AV.ag (Mach.cs (Mach.on m 0))) [] none] [false] [] [] Try.func61 rfl rfl rfl rfl (by kernel_rfl) h (cr_cons c0 cr_nil)
theorem reachL_w0 {d : Int} {s : Int} {of : Int} {im : BitVec 64} {m : Mach} (h : (decide (0 ≤ s) && decide (s < 6) && (AC.isU (Option.getD (Mach.cs m)[1 + Int.toNat s * 1]? (AC.b false)) && Nat.blt (1 + Int.toNat s * 1) (List.length (Mach.cs m)) && (farB (Ins.mk 10 d s im of) m && true))) = true) (c0 : Eff.mk (AV.c (AC.u (AC.asU (Option.getD (Mach.cs m)[1 + Int.toNat s * 1]? (AC.b false))))) [] none = Eff.mk (AV.c (AC.u (V6.get (Mach.r m) (Int.toNat s)))) [] none) (c1 : Eff.mk (AV.c (AC.u (badd (V6.get (Mach.r m) (Int.toNat s)) (BitVec.ofInt 64 of)))) [] none = Eff.mk (AV.c (AC.u (fromN (Ins.mk 10 d s im of) m))) [] none) (c2 : Eff.mk (AV.c (AC.b (decide (nv (bsub (64#64) im) < nv (fromN (Ins.mk 10 d s im of) m))))) [] none = Eff.mk (AV.c (AC.b (farB (Ins.mk 10 d s im of) m))) [] none) (c3 : CallOK Try.prog (CallRec.mk 58 [AV.ag (Mach.cs m), AV.c (AC.i 2)] [] (Eff.mk (AV.ag (Mach.cs (Mach.fine m 2))) [] none))) :
    CallOK Try.prog ⟨59, [AV.ag (Ins.cs (Ins.mk 10 d s im of)), AV.ag (Mach.cs m)], [], ⟨AV.ag [AC.i (Mach.t m), AC.u (V6.x0 (Mach.r m)), AC.u (V6.x1 (Mach.r m)), AC.u (V6.x2 (Mach.r m)), AC.u (V6.x3 (Mach.r m)), AC.u (V6.x4 (Mach.r m)), AC.u (V6.x5 (Mach.r m)), AC.b (V6.x0 (Mach.s m)), AC.b (V6.x1 (Mach.s m)), AC.b (V6.x2 (Mach.s m)), AC.b (V6.x3 (Mach.s m)), AC.b (V6.x4 (Mach.s m)), AC.b (V6.x5 (Mach.s m)), AC.s (Mach.mem m), AC.i 2], [], none⟩⟩ :=
  val_run 2000 [Eff.mk (AV.c (AC.u (V6.get (Mach.r m) (Int.toNat s)))) [] none, Eff.mk (AV.c (AC.u (fromN (Ins.mk 10 d s im of) m))) [] none, Eff.mk (AV.c (AC.b (farB (Ins.mk 10 d s im of) m))) [] none, Eff.mk (AV.ag (Mach.cs (Mach.fine m 2))) [] none] [false, true] [] [(4, 3), (4, 7), (5, 4), (8, 10), (8, 11)] Try.func59 rfl rfl rfl rfl (by kernel_rfl) h (cr_same c0 (cr_same c1 (cr_same c2 (cr_cons c3 cr_nil))))
theorem reachL_w1 {d : Int} {s : Int} {of : Int} {im : BitVec 64} {m : Mach} (h : (decide (0 ≤ s) && decide (s < 6) && (AC.isU (Option.getD (Mach.cs m)[1 + Int.toNat s * 1]? (AC.b false)) && Nat.blt (1 + Int.toNat s * 1) (List.length (Mach.cs m)) && (!farB (Ins.mk 10 d s im of) m && (decide ((nv (fromN (Ins.mk 10 d s im of) m)) ≤ (nv (badd (fromN (Ins.mk 10 d s im of) m) im))) && decide ((nv (badd (fromN (Ins.mk 10 d s im of) m) im)) ≤ (↑(ByteArray.size (Mach.mem m)) : Int)) && true)))) = true) (c0 : Eff.mk (AV.c (AC.u (AC.asU (Option.getD (Mach.cs m)[1 + Int.toNat s * 1]? (AC.b false))))) [] none = Eff.mk (AV.c (AC.u (V6.get (Mach.r m) (Int.toNat s)))) [] none) (c1 : Eff.mk (AV.c (AC.u (badd (V6.get (Mach.r m) (Int.toNat s)) (BitVec.ofInt 64 of)))) [] none = Eff.mk (AV.c (AC.u (fromN (Ins.mk 10 d s im of) m))) [] none) (c2 : Eff.mk (AV.c (AC.b (decide (nv (bsub (64#64) im) < nv (fromN (Ins.mk 10 d s im of) m))))) [] none = Eff.mk (AV.c (AC.b (farB (Ins.mk 10 d s im of) m))) [] none) (c3 : Eff.mk (AV.c (AC.s (ByteArray.extract (Mach.mem m) (Int.toNat ((nv (fromN (Ins.mk 10 d s im of) m)))) (Int.toNat ((nv (badd (fromN (Ins.mk 10 d s im of) m) im))))))) [] none = Eff.mk (AV.c (AC.s (ByteArray.extract (Mach.mem m) (BitVec.toNat (fromN (Ins.mk 10 d s im of) m)) (BitVec.toNat (fromN (Ins.mk 10 d s im of) m) + BitVec.toNat im)))) [] none) (c4 : Eff.mk (AV.c (AC.u (loadL (memL (ByteArray.extract (Mach.mem m) (BitVec.toNat (fromN (Ins.mk 10 d s im of) m)) (BitVec.toNat (fromN (Ins.mk 10 d s im of) m) + BitVec.toNat im)) 0 (ByteArray.size (ByteArray.extract (Mach.mem m) (BitVec.toNat (fromN (Ins.mk 10 d s im of) m)) (BitVec.toNat (fromN (Ins.mk 10 d s im of) m) + BitVec.toNat im))))))) [] none = Eff.mk (AV.c (AC.u (loadL (memL (Mach.mem m) (BitVec.toNat (fromN (Ins.mk 10 d s im of) m)) (BitVec.toNat im))))) [] none) (c5 : CallOK Try.prog (CallRec.mk 95 [AV.c (AC.s (ByteArray.extract (Mach.mem m) (BitVec.toNat (fromN (Ins.mk 10 d s im of) m)) (BitVec.toNat (fromN (Ins.mk 10 d s im of) m) + BitVec.toNat im)))] [] (Eff.mk (AV.c (AC.u (loadL (memL (ByteArray.extract (Mach.mem m) (BitVec.toNat (fromN (Ins.mk 10 d s im of) m)) (BitVec.toNat (fromN (Ins.mk 10 d s im of) m) + BitVec.toNat im)) 0 (ByteArray.size (ByteArray.extract (Mach.mem m) (BitVec.toNat (fromN (Ins.mk 10 d s im of) m)) (BitVec.toNat (fromN (Ins.mk 10 d s im of) m) + BitVec.toNat im))))))) [] none))) (c6 : CallOK Try.prog (CallRec.mk 32 [AV.ag (Mach.cs m), AV.c (AC.i d), AV.c (AC.u (loadL (memL (Mach.mem m) (BitVec.toNat (fromN (Ins.mk 10 d s im of) m)) (BitVec.toNat im))))] [] (Eff.mk (AV.ag (Mach.cs (Mach.wth m (Int.toNat d) (loadL (memL (Mach.mem m) (BitVec.toNat (fromN (Ins.mk 10 d s im of) m)) (BitVec.toNat im)))))) [] none))) (c7 : CallOK Try.prog (CallRec.mk 60 [AV.ag [AC.i (Mach.t m), AC.u (V6.x0 (V6.set (Mach.r m) (Int.toNat d) (loadL (memL (Mach.mem m) (BitVec.toNat (fromN (Ins.mk 10 d s im of) m)) (BitVec.toNat im))))), AC.u (V6.x1 (V6.set (Mach.r m) (Int.toNat d) (loadL (memL (Mach.mem m) (BitVec.toNat (fromN (Ins.mk 10 d s im of) m)) (BitVec.toNat im))))), AC.u (V6.x2 (V6.set (Mach.r m) (Int.toNat d) (loadL (memL (Mach.mem m) (BitVec.toNat (fromN (Ins.mk 10 d s im of) m)) (BitVec.toNat im))))), AC.u (V6.x3 (V6.set (Mach.r m) (Int.toNat d) (loadL (memL (Mach.mem m) (BitVec.toNat (fromN (Ins.mk 10 d s im of) m)) (BitVec.toNat im))))), AC.u (V6.x4 (V6.set (Mach.r m) (Int.toNat d) (loadL (memL (Mach.mem m) (BitVec.toNat (fromN (Ins.mk 10 d s im of) m)) (BitVec.toNat im))))), AC.u (V6.x5 (V6.set (Mach.r m) (Int.toNat d) (loadL (memL (Mach.mem m) (BitVec.toNat (fromN (Ins.mk 10 d s im of) m)) (BitVec.toNat im))))), AC.b (V6.x0 (V6.set (Mach.s m) (Int.toNat d) true)), AC.b (V6.x1 (V6.set (Mach.s m) (Int.toNat d) true)), AC.b (V6.x2 (V6.set (Mach.s m) (Int.toNat d) true)), AC.b (V6.x3 (V6.set (Mach.s m) (Int.toNat d) true)), AC.b (V6.x4 (V6.set (Mach.s m) (Int.toNat d) true)), AC.b (V6.x5 (V6.set (Mach.s m) (Int.toNat d) true)), AC.s (Mach.mem m), AC.i (Mach.fin m)], AV.c (AC.i 0)] [] (Eff.mk (AV.ag (Mach.cs (Mach.on (Mach.mk (Mach.t m) (V6.set (Mach.r m) (Int.toNat d) (loadL (memL (Mach.mem m) (BitVec.toNat (fromN (Ins.mk 10 d s im of) m)) (BitVec.toNat im)))) (V6.set (Mach.s m) (Int.toNat d) true) (Mach.mem m) (Mach.fin m)) 0))) [] none))) :
    CallOK Try.prog ⟨59, [AV.ag (Ins.cs (Ins.mk 10 d s im of)), AV.ag (Mach.cs m)], [], ⟨AV.ag [AC.i (Mach.t m + 1 + 0), AC.u (V6.x0 (V6.set (Mach.r m) (Int.toNat d) (loadL (memL (Mach.mem m) (BitVec.toNat (fromN (Ins.mk 10 d s im of) m)) (BitVec.toNat im))))), AC.u (V6.x1 (V6.set (Mach.r m) (Int.toNat d) (loadL (memL (Mach.mem m) (BitVec.toNat (fromN (Ins.mk 10 d s im of) m)) (BitVec.toNat im))))), AC.u (V6.x2 (V6.set (Mach.r m) (Int.toNat d) (loadL (memL (Mach.mem m) (BitVec.toNat (fromN (Ins.mk 10 d s im of) m)) (BitVec.toNat im))))), AC.u (V6.x3 (V6.set (Mach.r m) (Int.toNat d) (loadL (memL (Mach.mem m) (BitVec.toNat (fromN (Ins.mk 10 d s im of) m)) (BitVec.toNat im))))), AC.u (V6.x4 (V6.set (Mach.r m) (Int.toNat d) (loadL (memL (Mach.mem m) (BitVec.toNat (fromN (Ins.mk 10 d s im of) m)) (BitVec.toNat im))))), AC.u (V6.x5 (V6.set (Mach.r m) (Int.toNat d) (loadL (memL (Mach.mem m) (BitVec.toNat (fromN (Ins.mk 10 d s im of) m)) (BitVec.toNat im))))), AC.b (V6.x0 (V6.set (Mach.s m) (Int.toNat d) true)), AC.b (V6.x1 (V6.set (Mach.s m) (Int.toNat d) true)), AC.b (V6.x2 (V6.set (Mach.s m) (Int.toNat d) true)), AC.b (V6.x3 (V6.set (Mach.s m) (Int.toNat d) true)), AC.b (V6.x4 (V6.set (Mach.s m) (Int.toNat d) true)), AC.b (V6.x5 (V6.set (Mach.s m) (Int.toNat d) true)), AC.s (Mach.mem m), AC.i (Mach.fin m)], [], none⟩⟩ :=
  val_run 2000 [Eff.mk (AV.c (AC.u (V6.get (Mach.r m) (Int.toNat s)))) [] none, Eff.mk (AV.c (AC.u (fromN (Ins.mk 10 d s im of) m))) [] none, Eff.mk (AV.c (AC.b (farB (Ins.mk 10 d s im of) m))) [] none, Eff.mk (AV.c (AC.s (ByteArray.extract (Mach.mem m) (BitVec.toNat (fromN (Ins.mk 10 d s im of) m)) (BitVec.toNat (fromN (Ins.mk 10 d s im of) m) + BitVec.toNat im)))) [] none, Eff.mk (AV.c (AC.u (loadL (memL (ByteArray.extract (Mach.mem m) (BitVec.toNat (fromN (Ins.mk 10 d s im of) m)) (BitVec.toNat (fromN (Ins.mk 10 d s im of) m) + BitVec.toNat im)) 0 (ByteArray.size (ByteArray.extract (Mach.mem m) (BitVec.toNat (fromN (Ins.mk 10 d s im of) m)) (BitVec.toNat (fromN (Ins.mk 10 d s im of) m) + BitVec.toNat im))))))) [] none, Eff.mk (AV.c (AC.u (loadL (memL (Mach.mem m) (BitVec.toNat (fromN (Ins.mk 10 d s im of) m)) (BitVec.toNat im))))) [] none, Eff.mk (AV.ag (Mach.cs (Mach.wth m (Int.toNat d) (loadL (memL (Mach.mem m) (BitVec.toNat (fromN (Ins.mk 10 d s im of) m)) (BitVec.toNat im)))))) [] none, Eff.mk (AV.ag (Mach.cs (Mach.on (Mach.mk (Mach.t m) (V6.set (Mach.r m) (Int.toNat d) (loadL (memL (Mach.mem m) (BitVec.toNat (fromN (Ins.mk 10 d s im of) m)) (BitVec.toNat im)))) (V6.set (Mach.s m) (Int.toNat d) true) (Mach.mem m) (Mach.fin m)) 0))) [] none] [false, false, true] [] [(4, 3), (4, 7), (5, 4), (8, 10), (8, 11)] Try.func59 rfl rfl rfl rfl (by kernel_rfl) h (cr_same c0 (cr_same c1 (cr_same c2 (cr_same c3 (cr_same c4 (cr_cons c5 (cr_cons c6 (cr_cons c7 cr_nil))))))))
theorem reachS_w0 {d : Int} {s : Int} {of : Int} {im : BitVec 64} {m : Mach} (h : (decide (0 ≤ d) && decide (d < 6) && (AC.isU (Option.getD (Mach.cs m)[1 + Int.toNat d * 1]? (AC.b false)) && Nat.blt (1 + Int.toNat d * 1) (List.length (Mach.cs m)) && (farB (Ins.mk 11 d s im of) m && true))) = true) (c0 : Eff.mk (AV.c (AC.u (AC.asU (Option.getD (Mach.cs m)[1 + Int.toNat d * 1]? (AC.b false))))) [] none = Eff.mk (AV.c (AC.u (V6.get (Mach.r m) (Int.toNat d)))) [] none) (c1 : Eff.mk (AV.c (AC.u (badd (V6.get (Mach.r m) (Int.toNat d)) (BitVec.ofInt 64 of)))) [] none = Eff.mk (AV.c (AC.u (fromN (Ins.mk 11 d s im of) m))) [] none) (c2 : Eff.mk (AV.c (AC.b (decide (nv (bsub (64#64) im) < nv (fromN (Ins.mk 11 d s im of) m))))) [] none = Eff.mk (AV.c (AC.b (farB (Ins.mk 11 d s im of) m))) [] none) (c3 : CallOK Try.prog (CallRec.mk 58 [AV.ag (Mach.cs m), AV.c (AC.i 2)] [] (Eff.mk (AV.ag (Mach.cs (Mach.fine m 2))) [] none))) :
    CallOK Try.prog ⟨59, [AV.ag (Ins.cs (Ins.mk 11 d s im of)), AV.ag (Mach.cs m)], [], ⟨AV.ag [AC.i (Mach.t m), AC.u (V6.x0 (Mach.r m)), AC.u (V6.x1 (Mach.r m)), AC.u (V6.x2 (Mach.r m)), AC.u (V6.x3 (Mach.r m)), AC.u (V6.x4 (Mach.r m)), AC.u (V6.x5 (Mach.r m)), AC.b (V6.x0 (Mach.s m)), AC.b (V6.x1 (Mach.s m)), AC.b (V6.x2 (Mach.s m)), AC.b (V6.x3 (Mach.s m)), AC.b (V6.x4 (Mach.s m)), AC.b (V6.x5 (Mach.s m)), AC.s (Mach.mem m), AC.i 2], [], none⟩⟩ :=
  val_run 2000 [Eff.mk (AV.c (AC.u (V6.get (Mach.r m) (Int.toNat d)))) [] none, Eff.mk (AV.c (AC.u (fromN (Ins.mk 11 d s im of) m))) [] none, Eff.mk (AV.c (AC.b (farB (Ins.mk 11 d s im of) m))) [] none, Eff.mk (AV.ag (Mach.cs (Mach.fine m 2))) [] none] [true, true] [] [(4, 3), (4, 7), (5, 4), (9, 3), (9, 8), (9, 19), (9, 20)] Try.func59 rfl rfl rfl rfl (by kernel_rfl) h (cr_same c0 (cr_same c1 (cr_same c2 (cr_cons c3 cr_nil))))
theorem reachS_w1 {d : Int} {s : Int} {of : Int} {im : BitVec 64} {m : Mach} (h : (decide (0 ≤ d) && decide (d < 6) && (AC.isU (Option.getD (Mach.cs m)[1 + Int.toNat d * 1]? (AC.b false)) && Nat.blt (1 + Int.toNat d * 1) (List.length (Mach.cs m)) && (!farB (Ins.mk 11 d s im of) m && (decide ((nv (fromN (Ins.mk 11 d s im of) m)) ≤ (↑(ByteArray.size (Mach.mem m)) : Int)) && (decide (0 ≤ s) && decide (s < 6) && (AC.isU (Option.getD (Mach.cs m)[1 + Int.toNat s * 1]? (AC.b false)) && Nat.blt (1 + Int.toNat s * 1) (List.length (Mach.cs m)) && (decide (ByteArray.size (ByteArray.extract (Mach.mem m) 0 (BitVec.toNat (fromN (Ins.mk 11 d s im of) m))) + ByteArray.size (strOf (storeL (V6.get (Mach.r m) (Int.toNat s)) (BitVec.toNat im))) ≤ 9223372036854775807) && (decide ((nv (badd (fromN (Ins.mk 11 d s im of) m) im)) ≤ (↑(ByteArray.size (Mach.mem m)) : Int)) && decide ((↑(ByteArray.size (Mach.mem m)) : Int) ≤ (↑(ByteArray.size (Mach.mem m)) : Int)) && (decide (ByteArray.size (ByteArray.extract (Mach.mem m) 0 (BitVec.toNat (fromN (Ins.mk 11 d s im of) m)) ++ strOf (storeL (V6.get (Mach.r m) (Int.toNat s)) (BitVec.toNat im))) + ByteArray.size (ByteArray.extract (Mach.mem m) (BitVec.toNat (fromN (Ins.mk 11 d s im of) m) + BitVec.toNat im) (ByteArray.size (Mach.mem m))) ≤ 9223372036854775807) && true))))))))) = true) (c0 : Eff.mk (AV.c (AC.u (AC.asU (Option.getD (Mach.cs m)[1 + Int.toNat d * 1]? (AC.b false))))) [] none = Eff.mk (AV.c (AC.u (V6.get (Mach.r m) (Int.toNat d)))) [] none) (c1 : Eff.mk (AV.c (AC.u (badd (V6.get (Mach.r m) (Int.toNat d)) (BitVec.ofInt 64 of)))) [] none = Eff.mk (AV.c (AC.u (fromN (Ins.mk 11 d s im of) m))) [] none) (c2 : Eff.mk (AV.c (AC.b (decide (nv (bsub (64#64) im) < nv (fromN (Ins.mk 11 d s im of) m))))) [] none = Eff.mk (AV.c (AC.b (farB (Ins.mk 11 d s im of) m))) [] none) (c3 : Eff.mk (AV.c (AC.s (ByteArray.extract (Mach.mem m) 0 (Int.toNat ((nv (fromN (Ins.mk 11 d s im of) m))))))) [] none = Eff.mk (AV.c (AC.s (ByteArray.extract (Mach.mem m) 0 (BitVec.toNat (fromN (Ins.mk 11 d s im of) m))))) [] none) (c4 : Eff.mk (AV.c (AC.u (AC.asU (Option.getD (Mach.cs m)[1 + Int.toNat s * 1]? (AC.b false))))) [] none = Eff.mk (AV.c (AC.u (V6.get (Mach.r m) (Int.toNat s)))) [] none) (c5 : CallOK Try.prog (CallRec.mk 96 [AV.c (AC.u (V6.get (Mach.r m) (Int.toNat s))), AV.c (AC.u im)] [] (Eff.mk (AV.c (AC.s (strOf (storeL (V6.get (Mach.r m) (Int.toNat s)) (BitVec.toNat im))))) [] none))) (c6 : Eff.mk (AV.c (AC.s (ByteArray.extract (Mach.mem m) (Int.toNat ((nv (badd (fromN (Ins.mk 11 d s im of) m) im)))) (Int.toNat ((↑(ByteArray.size (Mach.mem m)) : Int)))))) [] none = Eff.mk (AV.c (AC.s (ByteArray.extract (Mach.mem m) (BitVec.toNat (fromN (Ins.mk 11 d s im of) m) + BitVec.toNat im) (ByteArray.size (Mach.mem m))))) [] none) (c7 : Eff.mk (AV.c (AC.s (ByteArray.extract (Mach.mem m) 0 (BitVec.toNat (fromN (Ins.mk 11 d s im of) m)) ++ strOf (storeL (V6.get (Mach.r m) (Int.toNat s)) (BitVec.toNat im)) ++ ByteArray.extract (Mach.mem m) (BitVec.toNat (fromN (Ins.mk 11 d s im of) m) + BitVec.toNat im) (ByteArray.size (Mach.mem m))))) [] none = Eff.mk (AV.c (AC.s (putMem (Mach.mem m) (BitVec.toNat (fromN (Ins.mk 11 d s im of) m)) (BitVec.toNat im) (V6.get (Mach.r m) (Int.toNat s))))) [] none) (c8 : CallOK Try.prog (CallRec.mk 60 [AV.ag [AC.i (Mach.t m), AC.u (V6.x0 (Mach.r m)), AC.u (V6.x1 (Mach.r m)), AC.u (V6.x2 (Mach.r m)), AC.u (V6.x3 (Mach.r m)), AC.u (V6.x4 (Mach.r m)), AC.u (V6.x5 (Mach.r m)), AC.b (V6.x0 (Mach.s m)), AC.b (V6.x1 (Mach.s m)), AC.b (V6.x2 (Mach.s m)), AC.b (V6.x3 (Mach.s m)), AC.b (V6.x4 (Mach.s m)), AC.b (V6.x5 (Mach.s m)), AC.s (putMem (Mach.mem m) (BitVec.toNat (fromN (Ins.mk 11 d s im of) m)) (BitVec.toNat im) (V6.get (Mach.r m) (Int.toNat s))), AC.i (Mach.fin m)], AV.c (AC.i 0)] [] (Eff.mk (AV.ag (Mach.cs (Mach.on (Mach.mk (Mach.t m) (Mach.r m) (Mach.s m) (putMem (Mach.mem m) (BitVec.toNat (fromN (Ins.mk 11 d s im of) m)) (BitVec.toNat im) (V6.get (Mach.r m) (Int.toNat s))) (Mach.fin m)) 0))) [] none))) :
    CallOK Try.prog ⟨59, [AV.ag (Ins.cs (Ins.mk 11 d s im of)), AV.ag (Mach.cs m)], [], ⟨AV.ag [AC.i (Mach.t m + 1 + 0), AC.u (V6.x0 (Mach.r m)), AC.u (V6.x1 (Mach.r m)), AC.u (V6.x2 (Mach.r m)), AC.u (V6.x3 (Mach.r m)), AC.u (V6.x4 (Mach.r m)), AC.u (V6.x5 (Mach.r m)), AC.b (V6.x0 (Mach.s m)), AC.b (V6.x1 (Mach.s m)), AC.b (V6.x2 (Mach.s m)), AC.b (V6.x3 (Mach.s m)), AC.b (V6.x4 (Mach.s m)), AC.b (V6.x5 (Mach.s m)), AC.s (putMem (Mach.mem m) (BitVec.toNat (fromN (Ins.mk 11 d s im of) m)) (BitVec.toNat im) (V6.get (Mach.r m) (Int.toNat s))), AC.i (Mach.fin m)], [], none⟩⟩ :=
  val_run 2000 [Eff.mk (AV.c (AC.u (V6.get (Mach.r m) (Int.toNat d)))) [] none, Eff.mk (AV.c (AC.u (fromN (Ins.mk 11 d s im of) m))) [] none, Eff.mk (AV.c (AC.b (farB (Ins.mk 11 d s im of) m))) [] none, Eff.mk (AV.c (AC.s (ByteArray.extract (Mach.mem m) 0 (BitVec.toNat (fromN (Ins.mk 11 d s im of) m))))) [] none, Eff.mk (AV.c (AC.u (V6.get (Mach.r m) (Int.toNat s)))) [] none, Eff.mk (AV.c (AC.s (strOf (storeL (V6.get (Mach.r m) (Int.toNat s)) (BitVec.toNat im))))) [] none, Eff.mk (AV.c (AC.s (ByteArray.extract (Mach.mem m) (BitVec.toNat (fromN (Ins.mk 11 d s im of) m) + BitVec.toNat im) (ByteArray.size (Mach.mem m))))) [] none, Eff.mk (AV.c (AC.s (putMem (Mach.mem m) (BitVec.toNat (fromN (Ins.mk 11 d s im of) m)) (BitVec.toNat im) (V6.get (Mach.r m) (Int.toNat s))))) [] none, Eff.mk (AV.ag (Mach.cs (Mach.on (Mach.mk (Mach.t m) (Mach.r m) (Mach.s m) (putMem (Mach.mem m) (BitVec.toNat (fromN (Ins.mk 11 d s im of) m)) (BitVec.toNat im) (V6.get (Mach.r m) (Int.toNat s))) (Mach.fin m)) 0))) [] none] [true, false, false] [] [(4, 3), (4, 7), (5, 4), (9, 3), (9, 8), (9, 19), (9, 20)] Try.func59 rfl rfl rfl rfl (by kernel_rfl) h (cr_same c0 (cr_same c1 (cr_same c2 (cr_same c3 (cr_same c4 (cr_cons c5 (cr_same c6 (cr_same c7 (cr_cons c8 cr_nil)))))))))
end Go.Proofs.Ytkigmocchaikgab

/- Ways of bodies, written by a program (ways.py): what each asks for, and hands back. -/
namespace Go.Proofs.Ytkigmocchaikgab
open Go.RowKit

theorem doTop_w0 {i : Ins} {m : Mach} {C : Cx} {R : Ending → World → Prop} (c0 : CallOK Try.prog (CallRec.mk 57 [AV.ag (Ins.cs i)] [] (Eff.mk (AV.ag (bcs (useOf i))) [] none))) (lo : Kn.Low ⟨[(2, AV.c (AC.w 0)), (3, AV.c (AC.w 1)), (4, AV.c (AC.w 2)), (8, AV.ag (bcs (useOf i))), (9, AV.c (AC.i 0))], [(0, Ent.mk true (Ins.cs i) 0), (1, Ent.mk true (Mach.cs m) 0), (2, Ent.mk true [AC.i 0, AC.u 0#64, AC.u 0#64, AC.u 0#64, AC.u 0#64, AC.u 0#64, AC.u 0#64, AC.b false, AC.b false, AC.b false, AC.b false, AC.b false, AC.b false, AC.s (ByteArray.mk #[]), AC.i 0] 0)], 3⟩) (hF : ∀ k, C.F k → k < 3) (z : ART Try.prog 29 C Try.f29.ntmps (cutAt Try.f29 0) ⟨[(2, AV.c (AC.w 0)), (3, AV.c (AC.w 1)), (4, AV.c (AC.w 2)), (8, AV.ag (bcs (useOf i))), (9, AV.c (AC.i 0))], [(0, Ent.mk true (Ins.cs i) 0), (1, Ent.mk true (Mach.cs m) 0), (2, Ent.mk true [AC.i 0, AC.u 0#64, AC.u 0#64, AC.u 0#64, AC.u 0#64, AC.u 0#64, AC.u 0#64, AC.b false, AC.b false, AC.b false, AC.b false, AC.b false, AC.b false, AC.s (ByteArray.mk #[]), AC.i 0] 0)], 3⟩ R) :
    ART Try.prog 29 C Try.f29.ntmps ([Item.code (bodyOf Try.f29)]) (Kn.start [AV.ag (Ins.cs i), AV.ag (Mach.cs m)] [] 0) R :=
  run_cut ⟨[(2, AV.c (AC.w 0)), (3, AV.c (AC.w 1)), (4, AV.c (AC.w 2)), (8, AV.ag (bcs (useOf i))), (9, AV.c (AC.i 0))], [(0, Ent.mk true (Ins.cs i) 0), (1, Ent.mk true (Mach.cs m) 0), (2, Ent.mk true [AC.i 0, AC.u 0#64, AC.u 0#64, AC.u 0#64, AC.u 0#64, AC.u 0#64, AC.u 0#64, AC.b false, AC.b false, AC.b false, AC.b false, AC.b false, AC.b false, AC.s (ByteArray.mk #[]), AC.i 0] 0)], 3⟩ 2000 [Eff.mk (AV.ag (bcs (useOf i))) [] none] [] [true] [] Try.func29 (by kernel_rfl) rfl (cr_cons c0 cr_nil) lo hF z
theorem doRound_w0 {i : Ins} {m : Mach} {u : V6 Bool} {j : Int} {w : World} {β : Bs} {n : Nat} (h : (decide (j < 6) && (AC.isB (Option.getD (bcs u)[Int.toNat j * 1]? (AC.b false)) && Nat.blt (Int.toNat j * 1) (List.length (bcs u)) && (decide (0 ≤ j) && decide (j < 6)) && (V6.get u (Int.toNat j) && (decide (0 ≤ j) && decide (j < 6) && (AC.isB (Option.getD (Mach.cs m)[7 + Int.toNat j * 1]? (AC.b false)) && Nat.blt (7 + Int.toNat j * 1) (List.length (Mach.cs m)) && (!V6.get (Mach.s m) (Int.toNat j) && true)))))) = true) (c0 : Eff.mk (AV.c (AC.b (AC.asB (Option.getD (bcs u)[Int.toNat j * 1]? (AC.b false))))) [] none = Eff.mk (AV.c (AC.b (V6.get u (Int.toNat j)))) [] none) (c1 : Eff.mk (AV.c (AC.b (AC.asB (Option.getD (Mach.cs m)[7 + Int.toNat j * 1]? (AC.b false))))) [] none = Eff.mk (AV.c (AC.b (V6.get (Mach.s m) (Int.toNat j)))) [] none) (c2 : CallOK Try.prog (CallRec.mk 58 [AV.ag (Mach.cs m), AV.c (AC.i 1)] [] (Eff.mk (AV.ag (Mach.cs (Mach.fine m 1))) [] none))) :
    ART Try.prog 29 (cx w β n []) Try.f29.ntmps (cutAt Try.f29 0) (Kn.mk [(2, AV.c (AC.w 0)), (3, AV.c (AC.w 1)), (4, AV.c (AC.w 2)), (8, AV.ag (bcs u)), (9, AV.c (AC.i j))] [(0, Ent.mk true (Ins.cs i) 0), (1, Ent.mk true (Mach.cs m) 0), (2, Ent.mk true (Mach.cs Mach.z) 0)] 3) (REff w β ⟨AV.ag [AC.i (Mach.t m), AC.u (V6.x0 (Mach.r m)), AC.u (V6.x1 (Mach.r m)), AC.u (V6.x2 (Mach.r m)), AC.u (V6.x3 (Mach.r m)), AC.u (V6.x4 (Mach.r m)), AC.u (V6.x5 (Mach.r m)), AC.b (V6.x0 (Mach.s m)), AC.b (V6.x1 (Mach.s m)), AC.b (V6.x2 (Mach.s m)), AC.b (V6.x3 (Mach.s m)), AC.b (V6.x4 (Mach.s m)), AC.b (V6.x5 (Mach.s m)), AC.s (Mach.mem m), AC.i 1], [], none⟩) :=
  run_eff [] (none) 2000 [Eff.mk (AV.c (AC.b (V6.get u (Int.toNat j)))) [] none, Eff.mk (AV.c (AC.b (V6.get (Mach.s m) (Int.toNat j)))) [] none, Eff.mk (AV.ag (Mach.cs (Mach.fine m 1))) [] none] [true, true, true] [true] [(3, 1), (4, 5)] Try.func29 (ekeys0 rfl n) (by kernel_rfl) h (cr_same c0 (cr_same c1 (cr_cons c2 cr_nil)))
theorem doRound_w1 {i : Ins} {m : Mach} {u : V6 Bool} {j : Int} {C : Cx} {R : Ending → World → Prop} (h : (decide (j < 6) && (AC.isB (Option.getD (bcs u)[Int.toNat j * 1]? (AC.b false)) && Nat.blt (Int.toNat j * 1) (List.length (bcs u)) && (decide (0 ≤ j) && decide (j < 6)) && (V6.get u (Int.toNat j) && (decide (0 ≤ j) && decide (j < 6) && (AC.isB (Option.getD (Mach.cs m)[7 + Int.toNat j * 1]? (AC.b false)) && Nat.blt (7 + Int.toNat j * 1) (List.length (Mach.cs m)) && (!!V6.get (Mach.s m) (Int.toNat j) && true)))))) = true) (c0 : Eff.mk (AV.c (AC.b (AC.asB (Option.getD (bcs u)[Int.toNat j * 1]? (AC.b false))))) [] none = Eff.mk (AV.c (AC.b (V6.get u (Int.toNat j)))) [] none) (c1 : Eff.mk (AV.c (AC.b (AC.asB (Option.getD (Mach.cs m)[7 + Int.toNat j * 1]? (AC.b false))))) [] none = Eff.mk (AV.c (AC.b (V6.get (Mach.s m) (Int.toNat j)))) [] none) (lo : Kn.Low ⟨[(2, AV.c (AC.w 0)), (3, AV.c (AC.w 1)), (4, AV.c (AC.w 2)), (8, AV.ag (bcs u)), (9, AV.c (AC.i (IntKind.wrap IntKind.i64 (j + 1))))], [(0, Ent.mk true (Ins.cs i) 0), (1, Ent.mk true (Mach.cs m) 0), (2, Ent.mk true (Mach.cs Mach.z) 0)], 3⟩) (hF : ∀ k, C.F k → k < 3) (z : ART Try.prog 29 C Try.f29.ntmps (cutAt Try.f29 0) ⟨[(2, AV.c (AC.w 0)), (3, AV.c (AC.w 1)), (4, AV.c (AC.w 2)), (8, AV.ag (bcs u)), (9, AV.c (AC.i (IntKind.wrap IntKind.i64 (j + 1))))], [(0, Ent.mk true (Ins.cs i) 0), (1, Ent.mk true (Mach.cs m) 0), (2, Ent.mk true (Mach.cs Mach.z) 0)], 3⟩ R) :
    ART Try.prog 29 C Try.f29.ntmps (cutAt Try.f29 0) (Kn.mk [(2, AV.c (AC.w 0)), (3, AV.c (AC.w 1)), (4, AV.c (AC.w 2)), (8, AV.ag (bcs u)), (9, AV.c (AC.i j))] [(0, Ent.mk true (Ins.cs i) 0), (1, Ent.mk true (Mach.cs m) 0), (2, Ent.mk true (Mach.cs Mach.z) 0)] 3) R :=
  run_cut ⟨[(2, AV.c (AC.w 0)), (3, AV.c (AC.w 1)), (4, AV.c (AC.w 2)), (8, AV.ag (bcs u)), (9, AV.c (AC.i (IntKind.wrap IntKind.i64 (j + 1))))], [(0, Ent.mk true (Ins.cs i) 0), (1, Ent.mk true (Mach.cs m) 0), (2, Ent.mk true (Mach.cs Mach.z) 0)], 3⟩ 2000 [Eff.mk (AV.c (AC.b (V6.get u (Int.toNat j)))) [] none, Eff.mk (AV.c (AC.b (V6.get (Mach.s m) (Int.toNat j)))) [] none] [true, true, false] [true] [(3, 1), (4, 5)] Try.func29 (by kernel_rfl) h (cr_same c0 (cr_same c1 cr_nil)) lo hF z
theorem doRound_w2 {i : Ins} {m : Mach} {u : V6 Bool} {j : Int} {C : Cx} {R : Ending → World → Prop} (h : (decide (j < 6) && (AC.isB (Option.getD (bcs u)[Int.toNat j * 1]? (AC.b false)) && Nat.blt (Int.toNat j * 1) (List.length (bcs u)) && (decide (0 ≤ j) && decide (j < 6)) && (!V6.get u (Int.toNat j) && true))) = true) (c0 : Eff.mk (AV.c (AC.b (AC.asB (Option.getD (bcs u)[Int.toNat j * 1]? (AC.b false))))) [] none = Eff.mk (AV.c (AC.b (V6.get u (Int.toNat j)))) [] none) (lo : Kn.Low ⟨[(2, AV.c (AC.w 0)), (3, AV.c (AC.w 1)), (4, AV.c (AC.w 2)), (8, AV.ag (bcs u)), (9, AV.c (AC.i (IntKind.wrap IntKind.i64 (j + 1))))], [(0, Ent.mk true (Ins.cs i) 0), (1, Ent.mk true (Mach.cs m) 0), (2, Ent.mk true (Mach.cs Mach.z) 0)], 3⟩) (hF : ∀ k, C.F k → k < 3) (z : ART Try.prog 29 C Try.f29.ntmps (cutAt Try.f29 0) ⟨[(2, AV.c (AC.w 0)), (3, AV.c (AC.w 1)), (4, AV.c (AC.w 2)), (8, AV.ag (bcs u)), (9, AV.c (AC.i (IntKind.wrap IntKind.i64 (j + 1))))], [(0, Ent.mk true (Ins.cs i) 0), (1, Ent.mk true (Mach.cs m) 0), (2, Ent.mk true (Mach.cs Mach.z) 0)], 3⟩ R) :
    ART Try.prog 29 C Try.f29.ntmps (cutAt Try.f29 0) (Kn.mk [(2, AV.c (AC.w 0)), (3, AV.c (AC.w 1)), (4, AV.c (AC.w 2)), (8, AV.ag (bcs u)), (9, AV.c (AC.i j))] [(0, Ent.mk true (Ins.cs i) 0), (1, Ent.mk true (Mach.cs m) 0), (2, Ent.mk true (Mach.cs Mach.z) 0)] 3) R :=
  run_cut ⟨[(2, AV.c (AC.w 0)), (3, AV.c (AC.w 1)), (4, AV.c (AC.w 2)), (8, AV.ag (bcs u)), (9, AV.c (AC.i (IntKind.wrap IntKind.i64 (j + 1))))], [(0, Ent.mk true (Ins.cs i) 0), (1, Ent.mk true (Mach.cs m) 0), (2, Ent.mk true (Mach.cs Mach.z) 0)], 3⟩ 2000 [Eff.mk (AV.c (AC.b (V6.get u (Int.toNat j)))) [] none] [true, false, false] [true] [(3, 1), (4, 5)] Try.func29 (by kernel_rfl) h (cr_same c0 cr_nil) lo hF z
theorem doRound_all {i : Ins} {m : Mach} {u : V6 Bool} {j : Int} {w : World} {β : Bs} {n : Nat} {E : Eff} (hn : n ≤ 3)
    (l0 : (V6.get u (Int.toNat j)) = true → (!V6.get (Mach.s m) (Int.toNat j)) = true → (decide (j < 6)) = true ∧ (AC.isB (Option.getD (bcs u)[Int.toNat j * 1]? (AC.b false)) && Nat.blt (Int.toNat j * 1) (List.length (bcs u)) && (decide (0 ≤ j) && decide (j < 6))) = true ∧ (decide (0 ≤ j) && decide (j < 6)) = true ∧ (AC.isB (Option.getD (Mach.cs m)[7 + Int.toNat j * 1]? (AC.b false)) && Nat.blt (7 + Int.toNat j * 1) (List.length (Mach.cs m))) = true ∧ (Eff.mk (AV.c (AC.b (AC.asB (Option.getD (bcs u)[Int.toNat j * 1]? (AC.b false))))) [] none = Eff.mk (AV.c (AC.b (V6.get u (Int.toNat j)))) [] none) ∧ (Eff.mk (AV.c (AC.b (AC.asB (Option.getD (Mach.cs m)[7 + Int.toNat j * 1]? (AC.b false))))) [] none = Eff.mk (AV.c (AC.b (V6.get (Mach.s m) (Int.toNat j)))) [] none) ∧ (CallOK Try.prog (CallRec.mk 58 [AV.ag (Mach.cs m), AV.c (AC.i 1)] [] (Eff.mk (AV.ag (Mach.cs (Mach.fine m 1))) [] none))) ∧ ((⟨AV.ag [AC.i (Mach.t m), AC.u (V6.x0 (Mach.r m)), AC.u (V6.x1 (Mach.r m)), AC.u (V6.x2 (Mach.r m)), AC.u (V6.x3 (Mach.r m)), AC.u (V6.x4 (Mach.r m)), AC.u (V6.x5 (Mach.r m)), AC.b (V6.x0 (Mach.s m)), AC.b (V6.x1 (Mach.s m)), AC.b (V6.x2 (Mach.s m)), AC.b (V6.x3 (Mach.s m)), AC.b (V6.x4 (Mach.s m)), AC.b (V6.x5 (Mach.s m)), AC.s (Mach.mem m), AC.i 1], [], none⟩ : Eff) = E))
    (l1 : (V6.get u (Int.toNat j)) = true → (!V6.get (Mach.s m) (Int.toNat j)) = false → (decide (j < 6)) = true ∧ (AC.isB (Option.getD (bcs u)[Int.toNat j * 1]? (AC.b false)) && Nat.blt (Int.toNat j * 1) (List.length (bcs u)) && (decide (0 ≤ j) && decide (j < 6))) = true ∧ (decide (0 ≤ j) && decide (j < 6)) = true ∧ (AC.isB (Option.getD (Mach.cs m)[7 + Int.toNat j * 1]? (AC.b false)) && Nat.blt (7 + Int.toNat j * 1) (List.length (Mach.cs m))) = true ∧ (Eff.mk (AV.c (AC.b (AC.asB (Option.getD (bcs u)[Int.toNat j * 1]? (AC.b false))))) [] none = Eff.mk (AV.c (AC.b (V6.get u (Int.toNat j)))) [] none) ∧ (Eff.mk (AV.c (AC.b (AC.asB (Option.getD (Mach.cs m)[7 + Int.toNat j * 1]? (AC.b false))))) [] none = Eff.mk (AV.c (AC.b (V6.get (Mach.s m) (Int.toNat j)))) [] none) ∧ Kn.Low ⟨[(2, AV.c (AC.w 0)), (3, AV.c (AC.w 1)), (4, AV.c (AC.w 2)), (8, AV.ag (bcs u)), (9, AV.c (AC.i (IntKind.wrap IntKind.i64 (j + 1))))], [(0, Ent.mk true (Ins.cs i) 0), (1, Ent.mk true (Mach.cs m) 0), (2, Ent.mk true (Mach.cs Mach.z) 0)], 3⟩ ∧ ART Try.prog 29 (cx w β n []) Try.f29.ntmps (cutAt Try.f29 0) ⟨[(2, AV.c (AC.w 0)), (3, AV.c (AC.w 1)), (4, AV.c (AC.w 2)), (8, AV.ag (bcs u)), (9, AV.c (AC.i (IntKind.wrap IntKind.i64 (j + 1))))], [(0, Ent.mk true (Ins.cs i) 0), (1, Ent.mk true (Mach.cs m) 0), (2, Ent.mk true (Mach.cs Mach.z) 0)], 3⟩ (REff w β E))
    (l2 : (V6.get u (Int.toNat j)) = false → (decide (j < 6)) = true ∧ (AC.isB (Option.getD (bcs u)[Int.toNat j * 1]? (AC.b false)) && Nat.blt (Int.toNat j * 1) (List.length (bcs u)) && (decide (0 ≤ j) && decide (j < 6))) = true ∧ (Eff.mk (AV.c (AC.b (AC.asB (Option.getD (bcs u)[Int.toNat j * 1]? (AC.b false))))) [] none = Eff.mk (AV.c (AC.b (V6.get u (Int.toNat j)))) [] none) ∧ Kn.Low ⟨[(2, AV.c (AC.w 0)), (3, AV.c (AC.w 1)), (4, AV.c (AC.w 2)), (8, AV.ag (bcs u)), (9, AV.c (AC.i (IntKind.wrap IntKind.i64 (j + 1))))], [(0, Ent.mk true (Ins.cs i) 0), (1, Ent.mk true (Mach.cs m) 0), (2, Ent.mk true (Mach.cs Mach.z) 0)], 3⟩ ∧ ART Try.prog 29 (cx w β n []) Try.f29.ntmps (cutAt Try.f29 0) ⟨[(2, AV.c (AC.w 0)), (3, AV.c (AC.w 1)), (4, AV.c (AC.w 2)), (8, AV.ag (bcs u)), (9, AV.c (AC.i (IntKind.wrap IntKind.i64 (j + 1))))], [(0, Ent.mk true (Ins.cs i) 0), (1, Ent.mk true (Mach.cs m) 0), (2, Ent.mk true (Mach.cs Mach.z) 0)], 3⟩ (REff w β E)) :
    ART Try.prog 29 (cx w β n []) Try.f29.ntmps (cutAt Try.f29 0) (Kn.mk [(2, AV.c (AC.w 0)), (3, AV.c (AC.w 1)), (4, AV.c (AC.w 2)), (8, AV.ag (bcs u)), (9, AV.c (AC.i j))] [(0, Ent.mk true (Ins.cs i) 0), (1, Ent.mk true (Mach.cs m) 0), (2, Ent.mk true (Mach.cs Mach.z) 0)] 3) (REff w β E) :=
  (tf (V6.get u (Int.toNat j))).elim (fun h0 => (tf (!V6.get (Mach.s m) (Int.toNat j))).elim (fun h1 => (match l0 h0 h1 with | ⟨o0, o1, o2, o3, c0, c1, c2, e⟩ => art_eq (doRound_w0 (and_yes o0 (and_yes o1 (and_yes h0 (and_yes o2 (and_yes o3 (and_yes h1 rfl)))))) c0 c1 c2) e)) (fun h1 => (match l1 h0 h1 with | ⟨o0, o1, o2, o3, c0, c1, lo, z⟩ => doRound_w1 (and_yes o0 (and_yes o1 (and_yes h0 (and_yes o2 (and_yes o3 (and_yes (not_yes h1) rfl)))))) c0 c1 lo (fun _ hk => Nat.lt_of_lt_of_le hk hn) z))) (fun h0 => (match l2 h0 with | ⟨o0, o1, c0, lo, z⟩ => doRound_w2 (and_yes o0 (and_yes o1 (and_yes (not_yes h0) rfl))) c0 lo (fun _ hk => Nat.lt_of_lt_of_le hk hn) z))
theorem doL_w0 {d : Int} {s : Int} {of : Int} {im : BitVec 64} {m : Mach} {u : V6 Bool} {w : World} {β : Bs} {n : Nat} (c0 : CallOK Try.prog (CallRec.mk 59 [AV.ag [AC.i 10, AC.i d, AC.i s, AC.u im, AC.i of], AV.ag (Mach.cs m)] [] (Eff.mk (AV.ag (Mach.cs (reachM (Ins.mk 10 d s im of) m))) [] none))) :
    ART Try.prog 29 (cx w β n []) Try.f29.ntmps (cutAt Try.f29 0) (Kn.mk [(2, AV.c (AC.w 0)), (3, AV.c (AC.w 1)), (4, AV.c (AC.w 2)), (8, AV.ag (bcs u)), (9, AV.c (AC.i 6))] [(0, Ent.mk true (Ins.cs (Ins.mk 10 d s im of)) 0), (1, Ent.mk true (Mach.cs m) 0), (2, Ent.mk true (Mach.cs Mach.z) 0)] 3) (REff w β ⟨AV.ag (Mach.cs (reachM (Ins.mk 10 d s im of) m)), [], none⟩) :=
  run_eff [] (none) 2000 [Eff.mk (AV.ag (Mach.cs (reachM (Ins.mk 10 d s im of) m))) [] none] [false, true, true] [true] [(14, 6), (16, 6)] Try.func29 (ekeys0 rfl n) (by kernel_rfl) rfl (cr_cons c0 cr_nil)
theorem doS_w0 {d : Int} {s : Int} {of : Int} {im : BitVec 64} {m : Mach} {u : V6 Bool} {w : World} {β : Bs} {n : Nat} (c0 : CallOK Try.prog (CallRec.mk 59 [AV.ag [AC.i 11, AC.i d, AC.i s, AC.u im, AC.i of], AV.ag (Mach.cs m)] [] (Eff.mk (AV.ag (Mach.cs (reachM (Ins.mk 11 d s im of) m))) [] none))) :
    ART Try.prog 29 (cx w β n []) Try.f29.ntmps (cutAt Try.f29 0) (Kn.mk [(2, AV.c (AC.w 0)), (3, AV.c (AC.w 1)), (4, AV.c (AC.w 2)), (8, AV.ag (bcs u)), (9, AV.c (AC.i 6))] [(0, Ent.mk true (Ins.cs (Ins.mk 11 d s im of)) 0), (1, Ent.mk true (Mach.cs m) 0), (2, Ent.mk true (Mach.cs Mach.z) 0)] 3) (REff w β ⟨AV.ag (Mach.cs (reachM (Ins.mk 11 d s im of) m)), [], none⟩) :=
  run_eff [] (none) 2000 [Eff.mk (AV.ag (Mach.cs (reachM (Ins.mk 11 d s im of) m))) [] none] [false, false, true] [true] [(14, 6), (16, 6)] Try.func29 (ekeys0 rfl n) (by kernel_rfl) rfl (cr_cons c0 cr_nil)
theorem doJ_w0 {d : Int} {s : Int} {of : Int} {im : BitVec 64} {m : Mach} {u : V6 Bool} {w : World} {β : Bs} {n : Nat} (c0 : CallOK Try.prog (CallRec.mk 60 [AV.ag (Mach.cs m), AV.c (AC.i of)] [] (Eff.mk (AV.ag (Mach.cs (Mach.on m of))) [] none))) :
    ART Try.prog 29 (cx w β n []) Try.f29.ntmps (cutAt Try.f29 0) (Kn.mk [(2, AV.c (AC.w 0)), (3, AV.c (AC.w 1)), (4, AV.c (AC.w 2)), (8, AV.ag (bcs u)), (9, AV.c (AC.i 6))] [(0, Ent.mk true (Ins.cs (Ins.mk 12 d s im of)) 0), (1, Ent.mk true (Mach.cs m) 0), (2, Ent.mk true (Mach.cs Mach.z) 0)] 3) (REff w β ⟨AV.ag [AC.i (Mach.t m + 1 + of), AC.u (V6.x0 (Mach.r m)), AC.u (V6.x1 (Mach.r m)), AC.u (V6.x2 (Mach.r m)), AC.u (V6.x3 (Mach.r m)), AC.u (V6.x4 (Mach.r m)), AC.u (V6.x5 (Mach.r m)), AC.b (V6.x0 (Mach.s m)), AC.b (V6.x1 (Mach.s m)), AC.b (V6.x2 (Mach.s m)), AC.b (V6.x3 (Mach.s m)), AC.b (V6.x4 (Mach.s m)), AC.b (V6.x5 (Mach.s m)), AC.s (Mach.mem m), AC.i (Mach.fin m)], [], none⟩) :=
  run_eff [] (none) 2000 [Eff.mk (AV.ag (Mach.cs (Mach.on m of))) [] none] [false, false, false, true] [true] [(14, 6), (16, 6)] Try.func29 (ekeys0 rfl n) (by kernel_rfl) rfl (cr_cons c0 cr_nil)
theorem doEq_w0 {d : Int} {s : Int} {of : Int} {im : BitVec 64} {m : Mach} {u : V6 Bool} {w : World} {β : Bs} {n : Nat} (h : (decide (0 ≤ d) && decide (d < 6) && (AC.isU (Option.getD (Mach.cs m)[1 + Int.toNat d * 1]? (AC.b false)) && Nat.blt (1 + Int.toNat d * 1) (List.length (Mach.cs m)) && true)) = true) (c0 : Eff.mk (AV.c (AC.u (AC.asU (Option.getD (Mach.cs m)[1 + Int.toNat d * 1]? (AC.b false))))) [] none = Eff.mk (AV.c (AC.u (V6.get (Mach.r m) (Int.toNat d)))) [] none) (c1 : CallOK Try.prog (CallRec.mk 62 [AV.ag [AC.i 13, AC.i d, AC.i s, AC.u im, AC.i of], AV.ag (Mach.cs m)] [] (Eff.mk (AV.c (AC.u (srcN (Ins.mk 13 d s im of) m))) [] none))) (c2 : CallOK Try.prog (CallRec.mk 61 [AV.ag [AC.i 13, AC.i d, AC.i s, AC.u im, AC.i of], AV.ag (Mach.cs m), AV.c (AC.b (eqb (V6.get (Mach.r m) (Int.toNat d)) (srcN (Ins.mk 13 d s im of) m)))] [] (Eff.mk (AV.ag (Mach.cs (Mach.on m (if eqb (V6.get (Mach.r m) (Int.toNat d)) (srcN (Ins.mk 13 d s im of) m) = true then of else 0)))) [] none))) :
    ART Try.prog 29 (cx w β n []) Try.f29.ntmps (cutAt Try.f29 0) (Kn.mk [(2, AV.c (AC.w 0)), (3, AV.c (AC.w 1)), (4, AV.c (AC.w 2)), (8, AV.ag (bcs u)), (9, AV.c (AC.i 6))] [(0, Ent.mk true (Ins.cs (Ins.mk 13 d s im of)) 0), (1, Ent.mk true (Mach.cs m) 0), (2, Ent.mk true (Mach.cs Mach.z) 0)] 3) (REff w β ⟨AV.ag [AC.i (Mach.t m + 1 + if eqb (V6.get (Mach.r m) (Int.toNat d)) (srcN (Ins.mk 13 d s im of) m) = true then of else 0), AC.u (V6.x0 (Mach.r m)), AC.u (V6.x1 (Mach.r m)), AC.u (V6.x2 (Mach.r m)), AC.u (V6.x3 (Mach.r m)), AC.u (V6.x4 (Mach.r m)), AC.u (V6.x5 (Mach.r m)), AC.b (V6.x0 (Mach.s m)), AC.b (V6.x1 (Mach.s m)), AC.b (V6.x2 (Mach.s m)), AC.b (V6.x3 (Mach.s m)), AC.b (V6.x4 (Mach.s m)), AC.b (V6.x5 (Mach.s m)), AC.s (Mach.mem m), AC.i (Mach.fin m)], [], none⟩) :=
  run_eff [] (none) 2000 [Eff.mk (AV.c (AC.u (V6.get (Mach.r m) (Int.toNat d)))) [] none, Eff.mk (AV.c (AC.u (srcN (Ins.mk 13 d s im of) m))) [] none, Eff.mk (AV.ag (Mach.cs (Mach.on m (if eqb (V6.get (Mach.r m) (Int.toNat d)) (srcN (Ins.mk 13 d s im of) m) = true then of else 0)))) [] none] [false, false, false, false, true] [true] [(14, 6), (16, 6)] Try.func29 (ekeys0 rfl n) (by kernel_rfl) h (cr_same c0 (cr_cons c1 (cr_cons c2 cr_nil)))
theorem doLt_w0 {d : Int} {s : Int} {of : Int} {im : BitVec 64} {m : Mach} {u : V6 Bool} {w : World} {β : Bs} {n : Nat} (h : (decide (0 ≤ d) && decide (d < 6) && (AC.isU (Option.getD (Mach.cs m)[1 + Int.toNat d * 1]? (AC.b false)) && Nat.blt (1 + Int.toNat d * 1) (List.length (Mach.cs m)) && true)) = true) (c0 : Eff.mk (AV.c (AC.u (AC.asU (Option.getD (Mach.cs m)[1 + Int.toNat d * 1]? (AC.b false))))) [] none = Eff.mk (AV.c (AC.u (V6.get (Mach.r m) (Int.toNat d)))) [] none) (c1 : CallOK Try.prog (CallRec.mk 62 [AV.ag [AC.i 14, AC.i d, AC.i s, AC.u im, AC.i of], AV.ag (Mach.cs m)] [] (Eff.mk (AV.c (AC.u (srcN (Ins.mk 14 d s im of) m))) [] none))) (c2 : CallOK Try.prog (CallRec.mk 61 [AV.ag [AC.i 14, AC.i d, AC.i s, AC.u im, AC.i of], AV.ag (Mach.cs m), AV.c (AC.b (decide (nv (V6.get (Mach.r m) (Int.toNat d)) < nv (srcN (Ins.mk 14 d s im of) m))))] [] (Eff.mk (AV.ag (Mach.cs (Mach.on m (if decide (nv (V6.get (Mach.r m) (Int.toNat d)) < nv (srcN (Ins.mk 14 d s im of) m)) = true then of else 0)))) [] none))) :
    ART Try.prog 29 (cx w β n []) Try.f29.ntmps (cutAt Try.f29 0) (Kn.mk [(2, AV.c (AC.w 0)), (3, AV.c (AC.w 1)), (4, AV.c (AC.w 2)), (8, AV.ag (bcs u)), (9, AV.c (AC.i 6))] [(0, Ent.mk true (Ins.cs (Ins.mk 14 d s im of)) 0), (1, Ent.mk true (Mach.cs m) 0), (2, Ent.mk true (Mach.cs Mach.z) 0)] 3) (REff w β ⟨AV.ag [AC.i (Mach.t m + 1 + if decide (nv (V6.get (Mach.r m) (Int.toNat d)) < nv (srcN (Ins.mk 14 d s im of) m)) = true then of else 0), AC.u (V6.x0 (Mach.r m)), AC.u (V6.x1 (Mach.r m)), AC.u (V6.x2 (Mach.r m)), AC.u (V6.x3 (Mach.r m)), AC.u (V6.x4 (Mach.r m)), AC.u (V6.x5 (Mach.r m)), AC.b (V6.x0 (Mach.s m)), AC.b (V6.x1 (Mach.s m)), AC.b (V6.x2 (Mach.s m)), AC.b (V6.x3 (Mach.s m)), AC.b (V6.x4 (Mach.s m)), AC.b (V6.x5 (Mach.s m)), AC.s (Mach.mem m), AC.i (Mach.fin m)], [], none⟩) :=
  run_eff [] (none) 2000 [Eff.mk (AV.c (AC.u (V6.get (Mach.r m) (Int.toNat d)))) [] none, Eff.mk (AV.c (AC.u (srcN (Ins.mk 14 d s im of) m))) [] none, Eff.mk (AV.ag (Mach.cs (Mach.on m (if decide (nv (V6.get (Mach.r m) (Int.toNat d)) < nv (srcN (Ins.mk 14 d s im of) m)) = true then of else 0)))) [] none] [false, false, false, false, false, true] [true] [(14, 6), (16, 6)] Try.func29 (ekeys0 rfl n) (by kernel_rfl) h (cr_same c0 (cr_cons c1 (cr_cons c2 cr_nil)))
theorem doX_w0 {d : Int} {s : Int} {of : Int} {im : BitVec 64} {m : Mach} {u : V6 Bool} {w : World} {β : Bs} {n : Nat} (c0 : CallOK Try.prog (CallRec.mk 58 [AV.ag (Mach.cs m), AV.c (AC.i 3)] [] (Eff.mk (AV.ag (Mach.cs (Mach.fine m 3))) [] none))) :
    ART Try.prog 29 (cx w β n []) Try.f29.ntmps (cutAt Try.f29 0) (Kn.mk [(2, AV.c (AC.w 0)), (3, AV.c (AC.w 1)), (4, AV.c (AC.w 2)), (8, AV.ag (bcs u)), (9, AV.c (AC.i 6))] [(0, Ent.mk true (Ins.cs (Ins.mk 15 d s im of)) 0), (1, Ent.mk true (Mach.cs m) 0), (2, Ent.mk true (Mach.cs Mach.z) 0)] 3) (REff w β ⟨AV.ag [AC.i (Mach.t m), AC.u (V6.x0 (Mach.r m)), AC.u (V6.x1 (Mach.r m)), AC.u (V6.x2 (Mach.r m)), AC.u (V6.x3 (Mach.r m)), AC.u (V6.x4 (Mach.r m)), AC.u (V6.x5 (Mach.r m)), AC.b (V6.x0 (Mach.s m)), AC.b (V6.x1 (Mach.s m)), AC.b (V6.x2 (Mach.s m)), AC.b (V6.x3 (Mach.s m)), AC.b (V6.x4 (Mach.s m)), AC.b (V6.x5 (Mach.s m)), AC.s (Mach.mem m), AC.i 3], [], none⟩) :=
  run_eff [] (none) 2000 [Eff.mk (AV.ag (Mach.cs (Mach.fine m 3))) [] none] [false, false, false, false, false, false, true] [true] [(14, 6), (16, 6)] Try.func29 (ekeys0 rfl n) (by kernel_rfl) rfl (cr_cons c0 cr_nil)
theorem doTwo_w0 {op : Int} {d : Int} {s : Int} {of : Int} {im : BitVec 64} {m : Mach} {u : V6 Bool} {w : World} {β : Bs} {n : Nat} (h : (!op == 10 && (!op == 11 && (!op == 12 && (!op == 13 && (!op == 14 && (!op == 15 && (decide (0 ≤ d) && decide (d < 6) && (AC.isU (Option.getD (Mach.cs m)[1 + Int.toNat d * 1]? (AC.b false)) && Nat.blt (1 + Int.toNat d * 1) (List.length (Mach.cs m)) && true)))))))) = true) (c0 : Eff.mk (AV.c (AC.u (AC.asU (Option.getD (Mach.cs m)[1 + Int.toNat d * 1]? (AC.b false))))) [] none = Eff.mk (AV.c (AC.u (V6.get (Mach.r m) (Int.toNat d)))) [] none) (c1 : CallOK Try.prog (CallRec.mk 62 [AV.ag [AC.i op, AC.i d, AC.i s, AC.u im, AC.i of], AV.ag (Mach.cs m)] [] (Eff.mk (AV.c (AC.u (srcN (Ins.mk op d s im of) m))) [] none))) (c2 : CallOK Try.prog (CallRec.mk 63 [AV.c (AC.i op), AV.c (AC.u (V6.get (Mach.r m) (Int.toNat d))), AV.c (AC.u (srcN (Ins.mk op d s im of) m))] [] (Eff.mk (AV.c (AC.u (numN op (V6.get (Mach.r m) (Int.toNat d)) (srcN (Ins.mk op d s im of) m)))) [] none))) (c3 : CallOK Try.prog (CallRec.mk 32 [AV.ag (Mach.cs m), AV.c (AC.i d), AV.c (AC.u (numN op (V6.get (Mach.r m) (Int.toNat d)) (srcN (Ins.mk op d s im of) m)))] [] (Eff.mk (AV.ag (Mach.cs (Mach.wth m (Int.toNat d) (numN op (V6.get (Mach.r m) (Int.toNat d)) (srcN (Ins.mk op d s im of) m))))) [] none))) (c4 : CallOK Try.prog (CallRec.mk 60 [AV.ag (Mach.cs (Mach.wth m (Int.toNat d) (numN op (V6.get (Mach.r m) (Int.toNat d)) (srcN (Ins.mk op d s im of) m)))), AV.c (AC.i 0)] [] (Eff.mk (AV.ag (Mach.cs (Mach.on (Mach.mk (Mach.t m) (V6.set (Mach.r m) (Int.toNat d) (numN op (V6.get (Mach.r m) (Int.toNat d)) (srcN (Ins.mk op d s im of) m))) (V6.set (Mach.s m) (Int.toNat d) true) (Mach.mem m) (Mach.fin m)) 0))) [] none))) :
    ART Try.prog 29 (cx w β n []) Try.f29.ntmps (cutAt Try.f29 0) (Kn.mk [(2, AV.c (AC.w 0)), (3, AV.c (AC.w 1)), (4, AV.c (AC.w 2)), (8, AV.ag (bcs u)), (9, AV.c (AC.i 6))] [(0, Ent.mk true (Ins.cs (Ins.mk op d s im of)) 0), (1, Ent.mk true (Mach.cs m) 0), (2, Ent.mk true (Mach.cs Mach.z) 0)] 3) (REff w β ⟨AV.ag [AC.i (Mach.t m + 1 + 0), AC.u (V6.x0 (V6.set (Mach.r m) (Int.toNat d) (numN op (V6.get (Mach.r m) (Int.toNat d)) (srcN (Ins.mk op d s im of) m)))), AC.u (V6.x1 (V6.set (Mach.r m) (Int.toNat d) (numN op (V6.get (Mach.r m) (Int.toNat d)) (srcN (Ins.mk op d s im of) m)))), AC.u (V6.x2 (V6.set (Mach.r m) (Int.toNat d) (numN op (V6.get (Mach.r m) (Int.toNat d)) (srcN (Ins.mk op d s im of) m)))), AC.u (V6.x3 (V6.set (Mach.r m) (Int.toNat d) (numN op (V6.get (Mach.r m) (Int.toNat d)) (srcN (Ins.mk op d s im of) m)))), AC.u (V6.x4 (V6.set (Mach.r m) (Int.toNat d) (numN op (V6.get (Mach.r m) (Int.toNat d)) (srcN (Ins.mk op d s im of) m)))), AC.u (V6.x5 (V6.set (Mach.r m) (Int.toNat d) (numN op (V6.get (Mach.r m) (Int.toNat d)) (srcN (Ins.mk op d s im of) m)))), AC.b (V6.x0 (V6.set (Mach.s m) (Int.toNat d) true)), AC.b (V6.x1 (V6.set (Mach.s m) (Int.toNat d) true)), AC.b (V6.x2 (V6.set (Mach.s m) (Int.toNat d) true)), AC.b (V6.x3 (V6.set (Mach.s m) (Int.toNat d) true)), AC.b (V6.x4 (V6.set (Mach.s m) (Int.toNat d) true)), AC.b (V6.x5 (V6.set (Mach.s m) (Int.toNat d) true)), AC.s (Mach.mem m), AC.i (Mach.fin m)], [], none⟩) :=
  run_eff [] (none) 2000 [Eff.mk (AV.c (AC.u (V6.get (Mach.r m) (Int.toNat d)))) [] none, Eff.mk (AV.c (AC.u (srcN (Ins.mk op d s im of) m))) [] none, Eff.mk (AV.c (AC.u (numN op (V6.get (Mach.r m) (Int.toNat d)) (srcN (Ins.mk op d s im of) m)))) [] none, Eff.mk (AV.ag (Mach.cs (Mach.wth m (Int.toNat d) (numN op (V6.get (Mach.r m) (Int.toNat d)) (srcN (Ins.mk op d s im of) m))))) [] none, Eff.mk (AV.ag (Mach.cs (Mach.on (Mach.mk (Mach.t m) (V6.set (Mach.r m) (Int.toNat d) (numN op (V6.get (Mach.r m) (Int.toNat d)) (srcN (Ins.mk op d s im of) m))) (V6.set (Mach.s m) (Int.toNat d) true) (Mach.mem m) (Mach.fin m)) 0))) [] none] [false, false, false, false, false, false, false] [true] [(19, 9)] Try.func29 (ekeys0 rfl n) (by kernel_rfl) h (cr_same c0 (cr_cons c1 (cr_cons c2 (cr_cons c3 (cr_cons c4 cr_nil)))))
end Go.Proofs.Ytkigmocchaikgab

/- Ways of bodies, written by a program (ways.py): what each asks for, and hands back. -/
namespace Go.Proofs.Ytkigmocchaikgab
open Go.RowKit

theorem ended_w0 {m : Mach} {e : Int} :
    CallOK Try.prog ⟨58, [AV.ag (Mach.cs m), AV.c (AC.i e)], [], ⟨AV.ag [AC.i (Mach.t m), AC.u (V6.x0 (Mach.r m)), AC.u (V6.x1 (Mach.r m)), AC.u (V6.x2 (Mach.r m)), AC.u (V6.x3 (Mach.r m)), AC.u (V6.x4 (Mach.r m)), AC.u (V6.x5 (Mach.r m)), AC.b (V6.x0 (Mach.s m)), AC.b (V6.x1 (Mach.s m)), AC.b (V6.x2 (Mach.s m)), AC.b (V6.x3 (Mach.s m)), AC.b (V6.x4 (Mach.s m)), AC.b (V6.x5 (Mach.s m)), AC.s (Mach.mem m), AC.i e], [], none⟩⟩ :=
  val_run 2000 [] [] [] [] Try.func58 rfl rfl rfl rfl (by kernel_rfl) rfl cr_nil
theorem onward_w0 {m : Mach} {o : Int} :
    CallOK Try.prog ⟨60, [AV.ag (Mach.cs m), AV.c (AC.i o)], [], ⟨AV.ag [AC.i (IntKind.wrap IntKind.i64 (Mach.t m + IntKind.wrap IntKind.i64 (1 + o))), AC.u (V6.x0 (Mach.r m)), AC.u (V6.x1 (Mach.r m)), AC.u (V6.x2 (Mach.r m)), AC.u (V6.x3 (Mach.r m)), AC.u (V6.x4 (Mach.r m)), AC.u (V6.x5 (Mach.r m)), AC.b (V6.x0 (Mach.s m)), AC.b (V6.x1 (Mach.s m)), AC.b (V6.x2 (Mach.s m)), AC.b (V6.x3 (Mach.s m)), AC.b (V6.x4 (Mach.s m)), AC.b (V6.x5 (Mach.s m)), AC.s (Mach.mem m), AC.i (Mach.fin m)], [], none⟩⟩ :=
  val_run 2000 [] [] [] [] Try.func60 rfl rfl rfl rfl (by kernel_rfl) rfl cr_nil
theorem with_w0 {m : Mach} {r : Int} {x : BitVec 64} (h : (decide (0 ≤ r) && decide (r < 6) && (Nat.ble (1 + Int.toNat r * 1 + List.length [AC.u x]) (List.length (Mach.cs m)) && true && (decide (0 ≤ r) && decide (r < 6) && (Nat.ble (7 + Int.toNat r * 1 + 1) (List.length (Mach.cs (Mach.mk (Mach.t m) (V6.set (Mach.r m) (Int.toNat r) x) (Mach.s m) (Mach.mem m) (Mach.fin m)))) && true && true)))) = true) (c0 : Eff.mk (AV.raw undef) [(0, List.set (Mach.cs m) (1 + Int.toNat r * 1) (AC.u x))] none = Eff.mk (AV.raw undef) [(0, Mach.cs (Mach.mk (Mach.t m) (V6.set (Mach.r m) (Int.toNat r) x) (Mach.s m) (Mach.mem m) (Mach.fin m)))] none) (c1 : Eff.mk (AV.raw undef) [(0, List.set (Mach.cs (Mach.mk (Mach.t m) (V6.set (Mach.r m) (Int.toNat r) x) (Mach.s m) (Mach.mem m) (Mach.fin m))) (7 + Int.toNat r * 1) (AC.b true))] none = Eff.mk (AV.raw undef) [(0, Mach.cs (Mach.wth m (Int.toNat r) x))] none) :
    CallOK Try.prog ⟨32, [AV.ag (Mach.cs m), AV.c (AC.i r), AV.c (AC.u x)], [], ⟨AV.ag [AC.i (Mach.t m), AC.u (V6.x0 (V6.set (Mach.r m) (Int.toNat r) x)), AC.u (V6.x1 (V6.set (Mach.r m) (Int.toNat r) x)), AC.u (V6.x2 (V6.set (Mach.r m) (Int.toNat r) x)), AC.u (V6.x3 (V6.set (Mach.r m) (Int.toNat r) x)), AC.u (V6.x4 (V6.set (Mach.r m) (Int.toNat r) x)), AC.u (V6.x5 (V6.set (Mach.r m) (Int.toNat r) x)), AC.b (V6.x0 (V6.set (Mach.s m) (Int.toNat r) true)), AC.b (V6.x1 (V6.set (Mach.s m) (Int.toNat r) true)), AC.b (V6.x2 (V6.set (Mach.s m) (Int.toNat r) true)), AC.b (V6.x3 (V6.set (Mach.s m) (Int.toNat r) true)), AC.b (V6.x4 (V6.set (Mach.s m) (Int.toNat r) true)), AC.b (V6.x5 (V6.set (Mach.s m) (Int.toNat r) true)), AC.s (Mach.mem m), AC.i (Mach.fin m)], [], none⟩⟩ :=
  val_run 2000 [Eff.mk (AV.raw undef) [(0, Mach.cs (Mach.mk (Mach.t m) (V6.set (Mach.r m) (Int.toNat r) x) (Mach.s m) (Mach.mem m) (Mach.fin m)))] none, Eff.mk (AV.raw undef) [(0, Mach.cs (Mach.wth m (Int.toNat r) x))] none] [] [] [(1, 5), (1, 8)] Try.func32 rfl rfl rfl rfl (by kernel_rfl) h (cr_same c0 (cr_same c1 cr_nil))
theorem useOf12_w0 {i : Ins} (h : (Ins.op i == 12 && true) = true) :
    CallOK Try.prog ⟨57, [AV.ag (Ins.cs i)], [], ⟨AV.ag [AC.b false, AC.b false, AC.b false, AC.b false, AC.b false, AC.b false], [], none⟩⟩ :=
  val_run 2000 [] [true] [] [] Try.func57 rfl rfl rfl rfl (by kernel_rfl) h cr_nil
theorem useOf15_w0 {i : Ins} (h : (!Ins.op i == 12 && (Ins.op i == 15 && true)) = true) :
    CallOK Try.prog ⟨57, [AV.ag (Ins.cs i)], [], ⟨AV.ag [AC.b true, AC.b false, AC.b false, AC.b false, AC.b false, AC.b false], [], none⟩⟩ :=
  val_run 2000 [] [false, true] [] [] Try.func57 rfl rfl rfl rfl (by kernel_rfl) h cr_nil
theorem useOfM_w0 {i : Ins} (h : (!Ins.op i == 12 && (!Ins.op i == 15 && (Ins.op i == 1 && (Ins.op i == 1 && (Ins.s i != -1 && (decide (0 ≤ Ins.s i) && decide (Ins.s i < 6) && (Nat.ble (Int.toNat (Ins.s i) * 1 + 1) 6 && true && true))))))) = true) (c0 : Eff.mk (AV.raw undef) [(2, List.set (bcs no6) (Int.toNat (Ins.s i) * 1) (AC.b true))] none = Eff.mk (AV.raw undef) [(2, (bcs (V6.set no6 (Int.toNat (Ins.s i)) true)))] none) :
    CallOK Try.prog ⟨57, [AV.ag (Ins.cs i)], [], ⟨AV.ag (bcs (V6.set no6 (Int.toNat (Ins.s i)) true)), [], none⟩⟩ :=
  val_run 2000 [Eff.mk (AV.raw undef) [(2, (bcs (V6.set no6 (Int.toNat (Ins.s i)) true)))] none] [false, false, true, true, true] [] [(12, 3)] Try.func57 rfl rfl rfl rfl (by kernel_rfl) h (cr_same c0 cr_nil)
theorem useOfM_w1 {i : Ins} (h : (!Ins.op i == 12 && (!Ins.op i == 15 && (Ins.op i == 1 && (Ins.op i == 1 && (!Ins.s i != -1 && true))))) = true) :
    CallOK Try.prog ⟨57, [AV.ag (Ins.cs i)], [], ⟨AV.ag [AC.b false, AC.b false, AC.b false, AC.b false, AC.b false, AC.b false], [], none⟩⟩ :=
  val_run 2000 [] [false, false, true, true, false] [] [(12, 3)] Try.func57 rfl rfl rfl rfl (by kernel_rfl) h cr_nil
theorem useOfL_w0 {i : Ins} (h : (!Ins.op i == 12 && (!Ins.op i == 15 && (!Ins.op i == 1 && (Ins.op i == 10 && (Ins.s i != -1 && (decide (0 ≤ Ins.s i) && decide (Ins.s i < 6) && (Nat.ble (Int.toNat (Ins.s i) * 1 + 1) 6 && true && true))))))) = true) (c0 : Eff.mk (AV.raw undef) [(2, List.set (bcs no6) (Int.toNat (Ins.s i) * 1) (AC.b true))] none = Eff.mk (AV.raw undef) [(2, (bcs (V6.set no6 (Int.toNat (Ins.s i)) true)))] none) :
    CallOK Try.prog ⟨57, [AV.ag (Ins.cs i)], [], ⟨AV.ag (bcs (V6.set no6 (Int.toNat (Ins.s i)) true)), [], none⟩⟩ :=
  val_run 2000 [Eff.mk (AV.raw undef) [(2, (bcs (V6.set no6 (Int.toNat (Ins.s i)) true)))] none] [false, false, false, true, true] [] [(12, 3)] Try.func57 rfl rfl rfl rfl (by kernel_rfl) h (cr_same c0 cr_nil)
theorem useOfL_w1 {i : Ins} (h : (!Ins.op i == 12 && (!Ins.op i == 15 && (!Ins.op i == 1 && (Ins.op i == 10 && (!Ins.s i != -1 && true))))) = true) :
    CallOK Try.prog ⟨57, [AV.ag (Ins.cs i)], [], ⟨AV.ag [AC.b false, AC.b false, AC.b false, AC.b false, AC.b false, AC.b false], [], none⟩⟩ :=
  val_run 2000 [] [false, false, false, true, false] [] [(12, 3)] Try.func57 rfl rfl rfl rfl (by kernel_rfl) h cr_nil
theorem useOfD_w0 {i : Ins} (h : (!Ins.op i == 12 && (!Ins.op i == 15 && (!Ins.op i == 1 && (!Ins.op i == 10 && (decide (0 ≤ Ins.d i) && decide (Ins.d i < 6) && (Nat.ble (Int.toNat (Ins.d i) * 1 + 1) 6 && true && (Ins.s i != -1 && (decide (0 ≤ Ins.s i) && decide (Ins.s i < 6) && (Nat.ble (Int.toNat (Ins.s i) * 1 + 1) (List.length (bcs (V6.set no6 (Int.toNat (Ins.d i)) true))) && true && true))))))))) = true) (c0 : Eff.mk (AV.raw undef) [(2, List.set (bcs no6) (Int.toNat (Ins.d i) * 1) (AC.b true))] none = Eff.mk (AV.raw undef) [(2, (bcs (V6.set no6 (Int.toNat (Ins.d i)) true)))] none) (c1 : Eff.mk (AV.raw undef) [(2, List.set (bcs (V6.set no6 (Int.toNat (Ins.d i)) true)) (Int.toNat (Ins.s i) * 1) (AC.b true))] none = Eff.mk (AV.raw undef) [(2, (bcs (V6.set (V6.set no6 (Int.toNat (Ins.d i)) true) (Int.toNat (Ins.s i)) true)))] none) :
    CallOK Try.prog ⟨57, [AV.ag (Ins.cs i)], [], ⟨AV.ag (bcs (V6.set (V6.set no6 (Int.toNat (Ins.d i)) true) (Int.toNat (Ins.s i)) true)), [], none⟩⟩ :=
  val_run 2000 [Eff.mk (AV.raw undef) [(2, (bcs (V6.set no6 (Int.toNat (Ins.d i)) true)))] none, Eff.mk (AV.raw undef) [(2, (bcs (V6.set (V6.set no6 (Int.toNat (Ins.d i)) true) (Int.toNat (Ins.s i)) true)))] none] [false, false, false, false, true] [] [(3, 3), (12, 3)] Try.func57 rfl rfl rfl rfl (by kernel_rfl) h (cr_same c0 (cr_same c1 cr_nil))
theorem useOfD_w1 {i : Ins} (h : (!Ins.op i == 12 && (!Ins.op i == 15 && (!Ins.op i == 1 && (!Ins.op i == 10 && (decide (0 ≤ Ins.d i) && decide (Ins.d i < 6) && (Nat.ble (Int.toNat (Ins.d i) * 1 + 1) 6 && true && (!Ins.s i != -1 && true))))))) = true) (c0 : Eff.mk (AV.raw undef) [(2, List.set (bcs no6) (Int.toNat (Ins.d i) * 1) (AC.b true))] none = Eff.mk (AV.raw undef) [(2, (bcs (V6.set no6 (Int.toNat (Ins.d i)) true)))] none) :
    CallOK Try.prog ⟨57, [AV.ag (Ins.cs i)], [], ⟨AV.ag (bcs (V6.set no6 (Int.toNat (Ins.d i)) true)), [], none⟩⟩ :=
  val_run 2000 [Eff.mk (AV.raw undef) [(2, (bcs (V6.set no6 (Int.toNat (Ins.d i)) true)))] none] [false, false, false, false, false] [] [(3, 3), (12, 3)] Try.func57 rfl rfl rfl rfl (by kernel_rfl) h (cr_same c0 cr_nil)
theorem source_w0 {i : Ins} {m : Mach} (h : (Ins.s i == -1 && true) = true) :
    CallOK Try.prog ⟨62, [AV.ag (Ins.cs i), AV.ag (Mach.cs m)], [], ⟨AV.c (AC.u (Ins.im i)), [], none⟩⟩ :=
  val_run 2000 [] [true] [] [(3, 4)] Try.func62 rfl rfl rfl rfl (by kernel_rfl) h cr_nil
theorem source_w1 {i : Ins} {m : Mach} (h : (!Ins.s i == -1 && (decide (0 ≤ Ins.s i) && decide (Ins.s i < 6) && (AC.isU (Option.getD (Mach.cs m)[1 + Int.toNat (Ins.s i) * 1]? (AC.b false)) && Nat.blt (1 + Int.toNat (Ins.s i) * 1) (List.length (Mach.cs m)) && true))) = true) (c0 : Eff.mk (AV.c (AC.u (AC.asU (Option.getD (Mach.cs m)[1 + Int.toNat (Ins.s i) * 1]? (AC.b false))))) [] none = Eff.mk (AV.c (AC.u (V6.get (Mach.r m) (Int.toNat (Ins.s i))))) [] none) :
    CallOK Try.prog ⟨62, [AV.ag (Ins.cs i), AV.ag (Mach.cs m)], [], ⟨AV.c (AC.u (V6.get (Mach.r m) (Int.toNat (Ins.s i)))), [], none⟩⟩ :=
  val_run 2000 [Eff.mk (AV.c (AC.u (V6.get (Mach.r m) (Int.toNat (Ins.s i))))) [] none] [false] [] [(3, 4)] Try.func62 rfl rfl rfl rfl (by kernel_rfl) h (cr_same c0 cr_nil)
theorem two_w0 {op : Int} {x : BitVec 64} {y : BitVec 64} (h : (op == 2 && true) = true) :
    CallOK Try.prog ⟨63, [AV.c (AC.i op), AV.c (AC.u x), AV.c (AC.u y)], [], ⟨AV.c (AC.u (badd x y)), [], none⟩⟩ :=
  val_run 2000 [] [true] [] [] Try.func63 rfl rfl rfl rfl (by kernel_rfl) h cr_nil
theorem two_w1 {op : Int} {x : BitVec 64} {y : BitVec 64} (h : (!op == 2 && (op == 3 && true)) = true) :
    CallOK Try.prog ⟨63, [AV.c (AC.i op), AV.c (AC.u x), AV.c (AC.u y)], [], ⟨AV.c (AC.u (bsub x y)), [], none⟩⟩ :=
  val_run 2000 [] [false, true] [] [] Try.func63 rfl rfl rfl rfl (by kernel_rfl) h cr_nil
theorem two_w2 {op : Int} {x : BitVec 64} {y : BitVec 64} (h : (!op == 2 && (!op == 3 && (op == 4 && true))) = true) :
    CallOK Try.prog ⟨63, [AV.c (AC.i op), AV.c (AC.u x), AV.c (AC.u y)], [], ⟨AV.c (AC.u (bmul x y)), [], none⟩⟩ :=
  val_run 2000 [] [false, false, true] [] [] Try.func63 rfl rfl rfl rfl (by kernel_rfl) h cr_nil
theorem two_w3 {op : Int} {x : BitVec 64} {y : BitVec 64} (h : (!op == 2 && (!op == 3 && (!op == 4 && (op == 5 && true)))) = true) :
    CallOK Try.prog ⟨63, [AV.c (AC.i op), AV.c (AC.u x), AV.c (AC.u y)], [], ⟨AV.c (AC.u (band x y)), [], none⟩⟩ :=
  val_run 2000 [] [false, false, false, true] [] [] Try.func63 rfl rfl rfl rfl (by kernel_rfl) h cr_nil
theorem two_w4 {op : Int} {x : BitVec 64} {y : BitVec 64} (h : (!op == 2 && (!op == 3 && (!op == 4 && (!op == 5 && (op == 6 && true))))) = true) :
    CallOK Try.prog ⟨63, [AV.c (AC.i op), AV.c (AC.u x), AV.c (AC.u y)], [], ⟨AV.c (AC.u (bor x y)), [], none⟩⟩ :=
  val_run 2000 [] [false, false, false, false, true] [] [] Try.func63 rfl rfl rfl rfl (by kernel_rfl) h cr_nil
theorem two_w5 {op : Int} {x : BitVec 64} {y : BitVec 64} (h : (!op == 2 && (!op == 3 && (!op == 4 && (!op == 5 && (!op == 6 && (op == 7 && true)))))) = true) :
    CallOK Try.prog ⟨63, [AV.c (AC.i op), AV.c (AC.u x), AV.c (AC.u y)], [], ⟨AV.c (AC.u (bxor x y)), [], none⟩⟩ :=
  val_run 2000 [] [false, false, false, false, false, true] [] [] Try.func63 rfl rfl rfl rfl (by kernel_rfl) h cr_nil
theorem two_w6 {op : Int} {x : BitVec 64} {y : BitVec 64} (h : (!op == 2 && (!op == 3 && (!op == 4 && (!op == 5 && (!op == 6 && (!op == 7 && (op == 8 && (decide (nv (band y 63#64) ≤ 64) && true)))))))) = true) :
    CallOK Try.prog ⟨63, [AV.c (AC.i op), AV.c (AC.u x), AV.c (AC.u y)], [], ⟨AV.c (AC.u (bshl x (Int.toNat (nv (band y 63#64))))), [], none⟩⟩ :=
  val_run 2000 [] [false, false, false, false, false, false, true] [] [] Try.func63 rfl rfl rfl rfl (by kernel_rfl) h cr_nil
theorem two_w7 {op : Int} {x : BitVec 64} {y : BitVec 64} (h : (!op == 2 && (!op == 3 && (!op == 4 && (!op == 5 && (!op == 6 && (!op == 7 && (!op == 8 && (op == 9 && (decide (nv (band y 63#64) ≤ 64) && true))))))))) = true) :
    CallOK Try.prog ⟨63, [AV.c (AC.i op), AV.c (AC.u x), AV.c (AC.u y)], [], ⟨AV.c (AC.u (bshr x (Int.toNat (nv (band y 63#64))))), [], none⟩⟩ :=
  val_run 2000 [] [false, false, false, false, false, false, false, true] [] [] Try.func63 rfl rfl rfl rfl (by kernel_rfl) h cr_nil
theorem two_w8 {op : Int} {x : BitVec 64} {y : BitVec 64} (h : (!op == 2 && (!op == 3 && (!op == 4 && (!op == 5 && (!op == 6 && (!op == 7 && (!op == 8 && (!op == 9 && true)))))))) = true) :
    CallOK Try.prog ⟨63, [AV.c (AC.i op), AV.c (AC.u x), AV.c (AC.u y)], [], ⟨AV.c (AC.u y), [], none⟩⟩ :=
  val_run 2000 [] [false, false, false, false, false, false, false, false] [] [] Try.func63 rfl rfl rfl rfl (by kernel_rfl) h cr_nil
theorem load_w0 {t : ByteArray} {C : Cx} {R : Ending → World → Prop} (hF : ∀ k, C.F k → k < 0) (z : ART Try.prog 95 C Try.f95.ntmps (cutAt Try.f95 0) ⟨[(0, AV.c (AC.s t)), (3, AV.c (AC.u 0#64)), (6, AV.c (AC.i (↑(ByteArray.size t) : Int))), (7, AV.c (AC.i 0))], [], 0⟩ R) :
    ART Try.prog 95 C Try.f95.ntmps ([Item.code (bodyOf Try.f95)]) (Kn.start [AV.c (AC.s t)] [] 0) R :=
  run_cut ⟨[(0, AV.c (AC.s t)), (3, AV.c (AC.u 0#64)), (6, AV.c (AC.i (↑(ByteArray.size t) : Int))), (7, AV.c (AC.i 0))], [], 0⟩ 2000 [] [] [true] [] Try.func95 (by kernel_rfl) rfl cr_nil (low_of rfl) hF z
theorem loadL_w0 {t : ByteArray} {x : BitVec 64} {q : Int} {j : Int} {C : Cx} {R : Ending → World → Prop} (h : (decide (j < q) && (decide (0 ≤ j) && decide (Int.toNat j < ByteArray.size t) && (decide (0 ≤ IntKind.wrap IntKind.i64 (8 * j)) && decide (IntKind.wrap IntKind.i64 (8 * j) ≤ 64) && true))) = true) (hF : ∀ k, C.F k → k < 0) (z : ART Try.prog 95 C Try.f95.ntmps (cutAt Try.f95 0) ⟨[(0, AV.c (AC.s t)), (3, AV.c (AC.u (bor x (bshl (BitVec.setWidth 64 (byteAt t (Int.toNat j))) (Int.toNat (IntKind.wrap IntKind.i64 (8 * j))))))), (6, AV.c (AC.i q)), (7, AV.c (AC.i (IntKind.wrap IntKind.i64 (j + 1))))], [], 0⟩ R) :
    ART Try.prog 95 C Try.f95.ntmps (cutAt Try.f95 0) (Kn.mk [(0, AV.c (AC.s t)), (3, AV.c (AC.u x)), (6, AV.c (AC.i q)), (7, AV.c (AC.i j))] [] 0) R :=
  run_cut ⟨[(0, AV.c (AC.s t)), (3, AV.c (AC.u (bor x (bshl (BitVec.setWidth 64 (byteAt t (Int.toNat j))) (Int.toNat (IntKind.wrap IntKind.i64 (8 * j))))))), (6, AV.c (AC.i q)), (7, AV.c (AC.i (IntKind.wrap IntKind.i64 (j + 1))))], [], 0⟩ 2000 [] [true] [true] [] Try.func95 (by kernel_rfl) h cr_nil (low_of rfl) hF z
theorem loadL_w1 {t : ByteArray} {x : BitVec 64} {q : Int} {j : Int} {w : World} {β : Bs} {n : Nat} (h : (!decide (j < q) && true) = true) :
    ART Try.prog 95 (cx w β n []) Try.f95.ntmps (cutAt Try.f95 0) (Kn.mk [(0, AV.c (AC.s t)), (3, AV.c (AC.u x)), (6, AV.c (AC.i q)), (7, AV.c (AC.i j))] [] 0) (REff w β ⟨AV.c (AC.u x), [], none⟩) :=
  run_eff [] (none) 2000 [] [false] [true] [] Try.func95 (ekeys0 rfl n) (by kernel_rfl) h cr_nil
theorem store1_w0 {x : BitVec 64} :
    CallOK Try.prog ⟨96, [AV.c (AC.u x), AV.c (AC.u 1#64)], [], ⟨AV.c (AC.s (strOf (List.take 1 (List.drop 0 (splice (rows 1 [AC.y 0#8]) 0 [AC.y (BitVec.setWidth 8 (bshr x 0))]))))), [], none⟩⟩ :=
  val_run 2000 [] [true, false] [false, false] [] Try.func96 rfl rfl rfl rfl (by kernel_rfl) rfl cr_nil
theorem store2_w0 {x : BitVec 64} :
    CallOK Try.prog ⟨96, [AV.c (AC.u x), AV.c (AC.u 2#64)], [], ⟨AV.c (AC.s (strOf (List.take 2 (List.drop 0 (splice (splice (rows 2 [AC.y 0#8]) 0 [AC.y (BitVec.setWidth 8 (bshr x 0))]) 1 [AC.y (BitVec.setWidth 8 (bshr x 8))]))))), [], none⟩⟩ :=
  val_run 2000 [] [true, true, false] [false, false, false] [] Try.func96 rfl rfl rfl rfl (by kernel_rfl) rfl cr_nil
theorem store4_w0 {x : BitVec 64} :
    CallOK Try.prog ⟨96, [AV.c (AC.u x), AV.c (AC.u 4#64)], [], ⟨AV.c (AC.s (strOf (List.take 4 (List.drop 0 (splice (splice (splice (splice (rows 4 [AC.y 0#8]) 0 [AC.y (BitVec.setWidth 8 (bshr x 0))]) 1 [AC.y (BitVec.setWidth 8 (bshr x 8))]) 2 [AC.y (BitVec.setWidth 8 (bshr x 16))]) 3 [AC.y (BitVec.setWidth 8 (bshr x 24))]))))), [], none⟩⟩ :=
  val_run 2000 [] [true, true, true, true, false] [false, false, false, false, false] [] Try.func96 rfl rfl rfl rfl (by kernel_rfl) rfl cr_nil
theorem store8_w0 {x : BitVec 64} :
    CallOK Try.prog ⟨96, [AV.c (AC.u x), AV.c (AC.u 8#64)], [], ⟨AV.c (AC.s (strOf (List.take 8 (List.drop 0 (splice (splice (splice (splice (splice (splice (splice (splice (rows 8 [AC.y 0#8]) 0 [AC.y (BitVec.setWidth 8 (bshr x 0))]) 1 [AC.y (BitVec.setWidth 8 (bshr x 8))]) 2 [AC.y (BitVec.setWidth 8 (bshr x 16))]) 3 [AC.y (BitVec.setWidth 8 (bshr x 24))]) 4 [AC.y (BitVec.setWidth 8 (bshr x 32))]) 5 [AC.y (BitVec.setWidth 8 (bshr x 40))]) 6 [AC.y (BitVec.setWidth 8 (bshr x 48))]) 7 [AC.y (BitVec.setWidth 8 (bshr x 56))]))))), [], none⟩⟩ :=
  val_run 2000 [] [true, true, true, true, true, true, true, true, false] [false, false, false, false, false, false, false, false, false] [] Try.func96 rfl rfl rfl rfl (by kernel_rfl) rfl cr_nil
end Go.Proofs.Ytkigmocchaikgab
