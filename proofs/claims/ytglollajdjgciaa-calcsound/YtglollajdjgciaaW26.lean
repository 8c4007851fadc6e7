/- The contract of package calc's leave, over each of the four functions that it is handed. (Written by gen_w26.py.) -/
import Derived.Test.YtglollajdjgciaaW24
import Derived.BigRegion
import Derived.Deep.CutBlock
import Derived.Deep.DeepCutAuto
namespace Go.Proofs.Ytglollajdjgciaa
open Go.RowKit
attribute [local go_sem] w_and w_or w_xor w_andNot w_and1 w_and63 w_add w_sub w_mul w_sub1 w_add1 w_shl w_shl1 w_shr c_beq c_bne c_beq0 c_bne0 c_beq1 c_bne1 wrap_nv

abbrev PT (b : Nat) : Value := .pointer (some ⟨b, 0, none⟩)
/- what is left of both -/
def lv (p : Bool) (a : Value) : Value := if p then a else V0

set_option maxRecDepth 100000 in
set_option maxHeartbeats 1000000 in
theorem leave_wrongEqual {p1 p2 : Value} {v m l g v' m' l' g' : BitVec 64} (hr : Hid ((valB v m l g && valB v' m' l' g') = false)) (w : World) :
    Calls Try.prog 91 #[Vl v m l g, Vl v' m' l' g', .func (.func 92) #[] #[p1, p2]] w fun e w' => e = .returned (.tuple #[V0, V0, .bool false, N 1]) ∧ Below w.heap.size w w' := by
  obtain ⟨z1, H1⟩ : ∃ b, Hid (valB v m l g = b) := ⟨_, rfl⟩
  obtain ⟨z2, H2⟩ : ∃ b, Hid (valB v' m' l' g' = b) := ⟨_, rfl⟩
  rw [H1.out, H2.out] at hr
  go_enter Try.func91, Try.ntmps91
  go_wp2_with fail
  refine (vcheck2 H1 H2 (by simp) (by simp [go_sem]) (by simp [go_sem]) (by simp [go_sem]) (by simp [go_sem]) (by simp [go_sem]) (by simp [go_sem]) (by simp [go_sem]) (by simp [go_sem])).mono ?_
  rw [hr.out, er_f]
  rintro e w1 ⟨rfl, hb1⟩
  have hK := ((((((Kp.start w).add4 _ _ _ _ _).add4 _ _ _ _ _).add4 _ _ _ _ _).add4 _ _ _ _ _).keep ((Below.refl _ _).alloc (Nat.le_refl _) _)).keep hb1
  simp only [World.size_alloc] at hK
  obtain ⟨s0, s1, s2, s3, s4, s5, s6, s7, s8⟩ := hK.box.head.four
  obtain ⟨r0, r1, r2, r3, r4, r5, r6, r7, r8⟩ := hK.box.tail.head.four
  obtain ⟨b0, b1, b2, b3, b4, b5, b6, b7, b8⟩ := hK.box.tail.tail.head.four
  obtain ⟨a0, a1, a2, a3, a4, a5, a6, a7, a8⟩ := hK.box.tail.tail.tail.head.four
  go_wp2_with fail
  exact bodyPost_ret (v := .tuple #[V0, V0, .bool false, N 1]) (by simp [results, Try.results91, go_sem, nv_zero, s0, s1, s2, s3, r0, r1, r2, r3]) rfl ⟨rfl, ((hK.set4 1 rfl).set4 0 rfl).bel⟩
set_option maxRecDepth 100000 in
set_option maxHeartbeats 4000000 in
theorem leave_Equal {p1 p2 : Value} {v m l g v' m' l' g' a b c d a' b' c' d' x y z t x' y' z' t' : BitVec 64} {may i1 i2 : Bool} {e1 e2 : Int} (hr : Hid ((valB v m l g && valB v' m' l' g') = true)) (w : World)
    (HR : Hid (∀ w', Below w.heap.size w w' → Calls Try.prog 92 #[p1, p2] w' fun e w'' => e = .returned (.tuple #[Vl a b c d, Vl a' b' c' d', .bool may]) ∧ Below w'.heap.size w' w''))
    (N1 : Hid (∀ w, Calls Try.prog 31 #[Vl a b c d] w fun e w' => e = .returned (.tuple #[Vl x y z t, .bool i1, N e1]) ∧ Below w.heap.size w w'))
    (N2 : Hid (∀ w, Calls Try.prog 31 #[Vl a' b' c' d'] w fun e w' => e = .returned (.tuple #[Vl x' y' z' t', .bool i2, N e2]) ∧ Below w.heap.size w w')) :
    Calls Try.prog 91 #[Vl v m l g, Vl v' m' l' g', .func (.func 92) #[] #[p1, p2]] w fun e w' => e = .returned (.tuple #[lv (may && (i1 && i2)) (Vl x y z t), lv (may && (i1 && i2)) (Vl x' y' z' t'), .bool (may && (i1 && i2)), N 0]) ∧ Below w.heap.size w w' := by
  obtain ⟨z1, H1⟩ : ∃ b, Hid (valB v m l g = b) := ⟨_, rfl⟩
  obtain ⟨z2, H2⟩ : ∃ b, Hid (valB v' m' l' g' = b) := ⟨_, rfl⟩
  rw [H1.out, H2.out] at hr
  obtain ⟨q, hq⟩ : ∃ q, Hid (q = (may && (i1 && i2))) := ⟨_, rfl⟩
  rw [← hq.out]
  go_enter Try.func91, Try.ntmps91
  go_wp2_with fail
  refine (vcheck2 H1 H2 (by simp) (by simp [go_sem]) (by simp [go_sem]) (by simp [go_sem]) (by simp [go_sem]) (by simp [go_sem]) (by simp [go_sem]) (by simp [go_sem]) (by simp [go_sem])).mono ?_
  rw [hr.out, er_t]
  rintro e w1 ⟨rfl, hb1⟩
  have hK := ((((((Kp.start w).add4 _ _ _ _ _).add4 _ _ _ _ _).add4 _ _ _ _ _).add4 _ _ _ _ _).keep ((Below.refl _ _).alloc (Nat.le_refl _) _)).keep hb1
  simp only [World.size_alloc] at hK
  clear hb1
  go_wp2_with fail
  refine (HR.out _ hK.bel).mono ?_
  rintro e w2 ⟨rfl, hb2⟩
  have hK2 := hK.keep hb2
  have hK3 := (hK2.set4 (x := U a) (y := U b) (z := U c) (t := U d) 3 rfl).set4 (x := U a') (y := U b') (z := U c') (t := U d') 2 rfl
  obtain ⟨s0, s1, s2, s3, s4, s5, s6, s7, s8⟩ := hK2.box.head.four
  obtain ⟨r0, r1, r2, r3, r4, r5, r6, r7, r8⟩ := hK2.box.tail.head.four
  obtain ⟨b0, b1, b2, b3, b4, b5, b6, b7, b8⟩ := hK2.box.tail.tail.head.four
  obtain ⟨a0, a1, a2, a3, a4, a5, a6, a7, a8⟩ := hK2.box.tail.tail.tail.head.four
  clear hb2 hK
  go_wp2_with fail
  refine (N1.out _).mono ?_
  rintro e w3 ⟨rfl, hb3⟩
  have hK4 := hK3.keep hb3
  have hK5 := hK4.set4 (x := U x) (y := U y) (z := U z) (t := U t) 3 rfl
  clear s0 s1 s2 s3 s4 s5 s6 s7 s8 r0 r1 r2 r3 r4 r5 r6 r7 r8 b0 b1 b2 b3 b4 b5 b6 b7 b8 a0 a1 a2 a3 a4 a5 a6 a7 a8
  obtain ⟨s0, s1, s2, s3, s4, s5, s6, s7, s8⟩ := hK4.box.head.four
  obtain ⟨r0, r1, r2, r3, r4, r5, r6, r7, r8⟩ := hK4.box.tail.head.four
  obtain ⟨b0, b1, b2, b3, b4, b5, b6, b7, b8⟩ := hK4.box.tail.tail.head.four
  obtain ⟨a0, a1, a2, a3, a4, a5, a6, a7, a8⟩ := hK4.box.tail.tail.tail.head.four
  clear hb3 hK2 hK3
  go_wp2_with fail
  refine (N2.out _).mono ?_
  rintro e w4 ⟨rfl, hb4⟩
  have hK6 := hK5.keep hb4
  have hK7 := hK6.set4 (x := U x') (y := U y') (z := U z') (t := U t') 2 rfl
  clear s0 s1 s2 s3 s4 s5 s6 s7 s8 r0 r1 r2 r3 r4 r5 r6 r7 r8 b0 b1 b2 b3 b4 b5 b6 b7 b8 a0 a1 a2 a3 a4 a5 a6 a7 a8
  obtain ⟨s0, s1, s2, s3, s4, s5, s6, s7, s8⟩ := hK6.box.head.four
  obtain ⟨r0, r1, r2, r3, r4, r5, r6, r7, r8⟩ := hK6.box.tail.head.four
  obtain ⟨b0, b1, b2, b3, b4, b5, b6, b7, b8⟩ := hK6.box.tail.tail.head.four
  obtain ⟨a0, a1, a2, a3, a4, a5, a6, a7, a8⟩ := hK6.box.tail.tail.tail.head.four
  clear hb4 hK4 hK5
  go_upto_region 7 with fail
  clear s0 s1 s2 s3 s4 s5 s6 s7 s8 r0 r1 r2 r3 r4 r5 r6 r7 r8 b0 b1 b2 b3 b4 b5 b6 b7 b8 a0 a1 a2 a3 a4 a5 a6 a7 a8
  clear hK6
  go_cut [52] (fun u wc => u = .bool (!q) ∧ Kp w wc [(w.heap.size + 1 + 1 + 1, [.int .u64 0, .int .u64 0, .int .u64 0, .int .u64 0]), (w.heap.size + 1 + 1, [.int .u64 0, .int .u64 0, .int .u64 0, .int .u64 0]), (w.heap.size + 1, [U x', U y', U z', U t']), (w.heap.size, [U x, U y, U z, U t])])
  case first =>
    cases may
    · go_wp2_with fail
      go_meet
      case rel => exact ⟨by rw [hq.out]; rfl, hK7⟩
    · cases i1
      · go_wp2_with fail
        go_meet
        case rel => exact ⟨by rw [hq.out]; rfl, hK7⟩
      · cases i2
        all_goals
          go_wp2_with fail
          go_meet
          case rel => exact ⟨by rw [hq.out]; rfl, hK7⟩
  case rest =>
    clear hK7 hq
    obtain ⟨rfl, hK8⟩ := hcut
    obtain ⟨s0, s1, s2, s3, s4, s5, s6, s7, s8⟩ := hK8.box.head.four
    obtain ⟨r0, r1, r2, r3, r4, r5, r6, r7, r8⟩ := hK8.box.tail.head.four
    obtain ⟨b0, b1, b2, b3, b4, b5, b6, b7, b8⟩ := hK8.box.tail.tail.head.four
    obtain ⟨a0, a1, a2, a3, a4, a5, a6, a7, a8⟩ := hK8.box.tail.tail.tail.head.four
    cases q
    · go_wp2_with fail
      exact bodyPost_ret (v := .tuple #[V0, V0, .bool false, N 0]) (by simp [results, Try.results91, go_sem, nv_zero, s0, s1, s2, s3, r0, r1, r2, r3]) rfl ⟨rfl, ((hK8.set4 1 rfl).set4 0 rfl).bel⟩
    · go_wp2_with fail
      go_region
      all_goals
        go_wp2_with fail
        exact bodyPost_ret (v := .tuple #[Vl x y z t, Vl x' y' z' t', .bool true, N 0]) (by simp [results, Try.results91, go_sem, s0, s1, s2, s3, r0, r1, r2, r3]) rfl ⟨rfl, Below.drew ((hK8.set4 1 rfl).set4 0 rfl).bel⟩

set_option maxRecDepth 100000 in
set_option maxHeartbeats 1000000 in
theorem leave_wrongOther {p1 p2 : Value} {v m l g v' m' l' g' : BitVec 64} (hr : Hid ((valB v m l g && valB v' m' l' g') = false)) (w : World) :
    Calls Try.prog 91 #[Vl v m l g, Vl v' m' l' g', .func (.func 93) #[] #[p1, p2]] w fun e w' => e = .returned (.tuple #[V0, V0, .bool false, N 1]) ∧ Below w.heap.size w w' := by
  obtain ⟨z1, H1⟩ : ∃ b, Hid (valB v m l g = b) := ⟨_, rfl⟩
  obtain ⟨z2, H2⟩ : ∃ b, Hid (valB v' m' l' g' = b) := ⟨_, rfl⟩
  rw [H1.out, H2.out] at hr
  go_enter Try.func91, Try.ntmps91
  go_wp2_with fail
  refine (vcheck2 H1 H2 (by simp) (by simp [go_sem]) (by simp [go_sem]) (by simp [go_sem]) (by simp [go_sem]) (by simp [go_sem]) (by simp [go_sem]) (by simp [go_sem]) (by simp [go_sem])).mono ?_
  rw [hr.out, er_f]
  rintro e w1 ⟨rfl, hb1⟩
  have hK := ((((((Kp.start w).add4 _ _ _ _ _).add4 _ _ _ _ _).add4 _ _ _ _ _).add4 _ _ _ _ _).keep ((Below.refl _ _).alloc (Nat.le_refl _) _)).keep hb1
  simp only [World.size_alloc] at hK
  obtain ⟨s0, s1, s2, s3, s4, s5, s6, s7, s8⟩ := hK.box.head.four
  obtain ⟨r0, r1, r2, r3, r4, r5, r6, r7, r8⟩ := hK.box.tail.head.four
  obtain ⟨b0, b1, b2, b3, b4, b5, b6, b7, b8⟩ := hK.box.tail.tail.head.four
  obtain ⟨a0, a1, a2, a3, a4, a5, a6, a7, a8⟩ := hK.box.tail.tail.tail.head.four
  go_wp2_with fail
  exact bodyPost_ret (v := .tuple #[V0, V0, .bool false, N 1]) (by simp [results, Try.results91, go_sem, nv_zero, s0, s1, s2, s3, r0, r1, r2, r3]) rfl ⟨rfl, ((hK.set4 1 rfl).set4 0 rfl).bel⟩
set_option maxRecDepth 100000 in
set_option maxHeartbeats 4000000 in
theorem leave_Other {p1 p2 : Value} {v m l g v' m' l' g' a b c d a' b' c' d' x y z t x' y' z' t' : BitVec 64} {may i1 i2 : Bool} {e1 e2 : Int} (hr : Hid ((valB v m l g && valB v' m' l' g') = true)) (w : World)
    (HR : Hid (∀ w', Below w.heap.size w w' → Calls Try.prog 93 #[p1, p2] w' fun e w'' => e = .returned (.tuple #[Vl a b c d, Vl a' b' c' d', .bool may]) ∧ Below w'.heap.size w' w''))
    (N1 : Hid (∀ w, Calls Try.prog 31 #[Vl a b c d] w fun e w' => e = .returned (.tuple #[Vl x y z t, .bool i1, N e1]) ∧ Below w.heap.size w w'))
    (N2 : Hid (∀ w, Calls Try.prog 31 #[Vl a' b' c' d'] w fun e w' => e = .returned (.tuple #[Vl x' y' z' t', .bool i2, N e2]) ∧ Below w.heap.size w w')) :
    Calls Try.prog 91 #[Vl v m l g, Vl v' m' l' g', .func (.func 93) #[] #[p1, p2]] w fun e w' => e = .returned (.tuple #[lv (may && (i1 && i2)) (Vl x y z t), lv (may && (i1 && i2)) (Vl x' y' z' t'), .bool (may && (i1 && i2)), N 0]) ∧ Below w.heap.size w w' := by
  obtain ⟨z1, H1⟩ : ∃ b, Hid (valB v m l g = b) := ⟨_, rfl⟩
  obtain ⟨z2, H2⟩ : ∃ b, Hid (valB v' m' l' g' = b) := ⟨_, rfl⟩
  rw [H1.out, H2.out] at hr
  obtain ⟨q, hq⟩ : ∃ q, Hid (q = (may && (i1 && i2))) := ⟨_, rfl⟩
  rw [← hq.out]
  go_enter Try.func91, Try.ntmps91
  go_wp2_with fail
  refine (vcheck2 H1 H2 (by simp) (by simp [go_sem]) (by simp [go_sem]) (by simp [go_sem]) (by simp [go_sem]) (by simp [go_sem]) (by simp [go_sem]) (by simp [go_sem]) (by simp [go_sem])).mono ?_
  rw [hr.out, er_t]
  rintro e w1 ⟨rfl, hb1⟩
  have hK := ((((((Kp.start w).add4 _ _ _ _ _).add4 _ _ _ _ _).add4 _ _ _ _ _).add4 _ _ _ _ _).keep ((Below.refl _ _).alloc (Nat.le_refl _) _)).keep hb1
  simp only [World.size_alloc] at hK
  clear hb1
  go_wp2_with fail
  refine (HR.out _ hK.bel).mono ?_
  rintro e w2 ⟨rfl, hb2⟩
  have hK2 := hK.keep hb2
  have hK3 := (hK2.set4 (x := U a) (y := U b) (z := U c) (t := U d) 3 rfl).set4 (x := U a') (y := U b') (z := U c') (t := U d') 2 rfl
  obtain ⟨s0, s1, s2, s3, s4, s5, s6, s7, s8⟩ := hK2.box.head.four
  obtain ⟨r0, r1, r2, r3, r4, r5, r6, r7, r8⟩ := hK2.box.tail.head.four
  obtain ⟨b0, b1, b2, b3, b4, b5, b6, b7, b8⟩ := hK2.box.tail.tail.head.four
  obtain ⟨a0, a1, a2, a3, a4, a5, a6, a7, a8⟩ := hK2.box.tail.tail.tail.head.four
  clear hb2 hK
  go_wp2_with fail
  refine (N1.out _).mono ?_
  rintro e w3 ⟨rfl, hb3⟩
  have hK4 := hK3.keep hb3
  have hK5 := hK4.set4 (x := U x) (y := U y) (z := U z) (t := U t) 3 rfl
  clear s0 s1 s2 s3 s4 s5 s6 s7 s8 r0 r1 r2 r3 r4 r5 r6 r7 r8 b0 b1 b2 b3 b4 b5 b6 b7 b8 a0 a1 a2 a3 a4 a5 a6 a7 a8
  obtain ⟨s0, s1, s2, s3, s4, s5, s6, s7, s8⟩ := hK4.box.head.four
  obtain ⟨r0, r1, r2, r3, r4, r5, r6, r7, r8⟩ := hK4.box.tail.head.four
  obtain ⟨b0, b1, b2, b3, b4, b5, b6, b7, b8⟩ := hK4.box.tail.tail.head.four
  obtain ⟨a0, a1, a2, a3, a4, a5, a6, a7, a8⟩ := hK4.box.tail.tail.tail.head.four
  clear hb3 hK2 hK3
  go_wp2_with fail
  refine (N2.out _).mono ?_
  rintro e w4 ⟨rfl, hb4⟩
  have hK6 := hK5.keep hb4
  have hK7 := hK6.set4 (x := U x') (y := U y') (z := U z') (t := U t') 2 rfl
  clear s0 s1 s2 s3 s4 s5 s6 s7 s8 r0 r1 r2 r3 r4 r5 r6 r7 r8 b0 b1 b2 b3 b4 b5 b6 b7 b8 a0 a1 a2 a3 a4 a5 a6 a7 a8
  obtain ⟨s0, s1, s2, s3, s4, s5, s6, s7, s8⟩ := hK6.box.head.four
  obtain ⟨r0, r1, r2, r3, r4, r5, r6, r7, r8⟩ := hK6.box.tail.head.four
  obtain ⟨b0, b1, b2, b3, b4, b5, b6, b7, b8⟩ := hK6.box.tail.tail.head.four
  obtain ⟨a0, a1, a2, a3, a4, a5, a6, a7, a8⟩ := hK6.box.tail.tail.tail.head.four
  clear hb4 hK4 hK5
  go_upto_region 7 with fail
  clear s0 s1 s2 s3 s4 s5 s6 s7 s8 r0 r1 r2 r3 r4 r5 r6 r7 r8 b0 b1 b2 b3 b4 b5 b6 b7 b8 a0 a1 a2 a3 a4 a5 a6 a7 a8
  clear hK6
  go_cut [52] (fun u wc => u = .bool (!q) ∧ Kp w wc [(w.heap.size + 1 + 1 + 1, [.int .u64 0, .int .u64 0, .int .u64 0, .int .u64 0]), (w.heap.size + 1 + 1, [.int .u64 0, .int .u64 0, .int .u64 0, .int .u64 0]), (w.heap.size + 1, [U x', U y', U z', U t']), (w.heap.size, [U x, U y, U z, U t])])
  case first =>
    cases may
    · go_wp2_with fail
      go_meet
      case rel => exact ⟨by rw [hq.out]; rfl, hK7⟩
    · cases i1
      · go_wp2_with fail
        go_meet
        case rel => exact ⟨by rw [hq.out]; rfl, hK7⟩
      · cases i2
        all_goals
          go_wp2_with fail
          go_meet
          case rel => exact ⟨by rw [hq.out]; rfl, hK7⟩
  case rest =>
    clear hK7 hq
    obtain ⟨rfl, hK8⟩ := hcut
    obtain ⟨s0, s1, s2, s3, s4, s5, s6, s7, s8⟩ := hK8.box.head.four
    obtain ⟨r0, r1, r2, r3, r4, r5, r6, r7, r8⟩ := hK8.box.tail.head.four
    obtain ⟨b0, b1, b2, b3, b4, b5, b6, b7, b8⟩ := hK8.box.tail.tail.head.four
    obtain ⟨a0, a1, a2, a3, a4, a5, a6, a7, a8⟩ := hK8.box.tail.tail.tail.head.four
    cases q
    · go_wp2_with fail
      exact bodyPost_ret (v := .tuple #[V0, V0, .bool false, N 0]) (by simp [results, Try.results91, go_sem, nv_zero, s0, s1, s2, s3, r0, r1, r2, r3]) rfl ⟨rfl, ((hK8.set4 1 rfl).set4 0 rfl).bel⟩
    · go_wp2_with fail
      go_region
      all_goals
        go_wp2_with fail
        exact bodyPost_ret (v := .tuple #[Vl x y z t, Vl x' y' z' t', .bool true, N 0]) (by simp [results, Try.results91, go_sem, s0, s1, s2, s3, r0, r1, r2, r3]) rfl ⟨rfl, Below.drew ((hK8.set4 1 rfl).set4 0 rfl).bel⟩

set_option maxRecDepth 100000 in
set_option maxHeartbeats 1000000 in
theorem leave_wrongLess {p1 p2 : Value} {v m l g v' m' l' g' : BitVec 64} (hr : Hid ((valB v m l g && valB v' m' l' g') = false)) (w : World) :
    Calls Try.prog 91 #[Vl v m l g, Vl v' m' l' g', .func (.func 96) #[] #[p1, p2]] w fun e w' => e = .returned (.tuple #[V0, V0, .bool false, N 1]) ∧ Below w.heap.size w w' := by
  obtain ⟨z1, H1⟩ : ∃ b, Hid (valB v m l g = b) := ⟨_, rfl⟩
  obtain ⟨z2, H2⟩ : ∃ b, Hid (valB v' m' l' g' = b) := ⟨_, rfl⟩
  rw [H1.out, H2.out] at hr
  go_enter Try.func91, Try.ntmps91
  go_wp2_with fail
  refine (vcheck2 H1 H2 (by simp) (by simp [go_sem]) (by simp [go_sem]) (by simp [go_sem]) (by simp [go_sem]) (by simp [go_sem]) (by simp [go_sem]) (by simp [go_sem]) (by simp [go_sem])).mono ?_
  rw [hr.out, er_f]
  rintro e w1 ⟨rfl, hb1⟩
  have hK := ((((((Kp.start w).add4 _ _ _ _ _).add4 _ _ _ _ _).add4 _ _ _ _ _).add4 _ _ _ _ _).keep ((Below.refl _ _).alloc (Nat.le_refl _) _)).keep hb1
  simp only [World.size_alloc] at hK
  obtain ⟨s0, s1, s2, s3, s4, s5, s6, s7, s8⟩ := hK.box.head.four
  obtain ⟨r0, r1, r2, r3, r4, r5, r6, r7, r8⟩ := hK.box.tail.head.four
  obtain ⟨b0, b1, b2, b3, b4, b5, b6, b7, b8⟩ := hK.box.tail.tail.head.four
  obtain ⟨a0, a1, a2, a3, a4, a5, a6, a7, a8⟩ := hK.box.tail.tail.tail.head.four
  go_wp2_with fail
  exact bodyPost_ret (v := .tuple #[V0, V0, .bool false, N 1]) (by simp [results, Try.results91, go_sem, nv_zero, s0, s1, s2, s3, r0, r1, r2, r3]) rfl ⟨rfl, ((hK.set4 1 rfl).set4 0 rfl).bel⟩
set_option maxRecDepth 100000 in
set_option maxHeartbeats 4000000 in
theorem leave_Less {p1 p2 : Value} {v m l g v' m' l' g' a b c d a' b' c' d' x y z t x' y' z' t' : BitVec 64} {may i1 i2 : Bool} {e1 e2 : Int} (hr : Hid ((valB v m l g && valB v' m' l' g') = true)) (w : World)
    (HR : Hid (∀ w', Below w.heap.size w w' → Calls Try.prog 96 #[p1, p2] w' fun e w'' => e = .returned (.tuple #[Vl a b c d, Vl a' b' c' d', .bool may]) ∧ Below w'.heap.size w' w''))
    (N1 : Hid (∀ w, Calls Try.prog 31 #[Vl a b c d] w fun e w' => e = .returned (.tuple #[Vl x y z t, .bool i1, N e1]) ∧ Below w.heap.size w w'))
    (N2 : Hid (∀ w, Calls Try.prog 31 #[Vl a' b' c' d'] w fun e w' => e = .returned (.tuple #[Vl x' y' z' t', .bool i2, N e2]) ∧ Below w.heap.size w w')) :
    Calls Try.prog 91 #[Vl v m l g, Vl v' m' l' g', .func (.func 96) #[] #[p1, p2]] w fun e w' => e = .returned (.tuple #[lv (may && (i1 && i2)) (Vl x y z t), lv (may && (i1 && i2)) (Vl x' y' z' t'), .bool (may && (i1 && i2)), N 0]) ∧ Below w.heap.size w w' := by
  obtain ⟨z1, H1⟩ : ∃ b, Hid (valB v m l g = b) := ⟨_, rfl⟩
  obtain ⟨z2, H2⟩ : ∃ b, Hid (valB v' m' l' g' = b) := ⟨_, rfl⟩
  rw [H1.out, H2.out] at hr
  obtain ⟨q, hq⟩ : ∃ q, Hid (q = (may && (i1 && i2))) := ⟨_, rfl⟩
  rw [← hq.out]
  go_enter Try.func91, Try.ntmps91
  go_wp2_with fail
  refine (vcheck2 H1 H2 (by simp) (by simp [go_sem]) (by simp [go_sem]) (by simp [go_sem]) (by simp [go_sem]) (by simp [go_sem]) (by simp [go_sem]) (by simp [go_sem]) (by simp [go_sem])).mono ?_
  rw [hr.out, er_t]
  rintro e w1 ⟨rfl, hb1⟩
  have hK := ((((((Kp.start w).add4 _ _ _ _ _).add4 _ _ _ _ _).add4 _ _ _ _ _).add4 _ _ _ _ _).keep ((Below.refl _ _).alloc (Nat.le_refl _) _)).keep hb1
  simp only [World.size_alloc] at hK
  clear hb1
  go_wp2_with fail
  refine (HR.out _ hK.bel).mono ?_
  rintro e w2 ⟨rfl, hb2⟩
  have hK2 := hK.keep hb2
  have hK3 := (hK2.set4 (x := U a) (y := U b) (z := U c) (t := U d) 3 rfl).set4 (x := U a') (y := U b') (z := U c') (t := U d') 2 rfl
  obtain ⟨s0, s1, s2, s3, s4, s5, s6, s7, s8⟩ := hK2.box.head.four
  obtain ⟨r0, r1, r2, r3, r4, r5, r6, r7, r8⟩ := hK2.box.tail.head.four
  obtain ⟨b0, b1, b2, b3, b4, b5, b6, b7, b8⟩ := hK2.box.tail.tail.head.four
  obtain ⟨a0, a1, a2, a3, a4, a5, a6, a7, a8⟩ := hK2.box.tail.tail.tail.head.four
  clear hb2 hK
  go_wp2_with fail
  refine (N1.out _).mono ?_
  rintro e w3 ⟨rfl, hb3⟩
  have hK4 := hK3.keep hb3
  have hK5 := hK4.set4 (x := U x) (y := U y) (z := U z) (t := U t) 3 rfl
  clear s0 s1 s2 s3 s4 s5 s6 s7 s8 r0 r1 r2 r3 r4 r5 r6 r7 r8 b0 b1 b2 b3 b4 b5 b6 b7 b8 a0 a1 a2 a3 a4 a5 a6 a7 a8
  obtain ⟨s0, s1, s2, s3, s4, s5, s6, s7, s8⟩ := hK4.box.head.four
  obtain ⟨r0, r1, r2, r3, r4, r5, r6, r7, r8⟩ := hK4.box.tail.head.four
  obtain ⟨b0, b1, b2, b3, b4, b5, b6, b7, b8⟩ := hK4.box.tail.tail.head.four
  obtain ⟨a0, a1, a2, a3, a4, a5, a6, a7, a8⟩ := hK4.box.tail.tail.tail.head.four
  clear hb3 hK2 hK3
  go_wp2_with fail
  refine (N2.out _).mono ?_
  rintro e w4 ⟨rfl, hb4⟩
  have hK6 := hK5.keep hb4
  have hK7 := hK6.set4 (x := U x') (y := U y') (z := U z') (t := U t') 2 rfl
  clear s0 s1 s2 s3 s4 s5 s6 s7 s8 r0 r1 r2 r3 r4 r5 r6 r7 r8 b0 b1 b2 b3 b4 b5 b6 b7 b8 a0 a1 a2 a3 a4 a5 a6 a7 a8
  obtain ⟨s0, s1, s2, s3, s4, s5, s6, s7, s8⟩ := hK6.box.head.four
  obtain ⟨r0, r1, r2, r3, r4, r5, r6, r7, r8⟩ := hK6.box.tail.head.four
  obtain ⟨b0, b1, b2, b3, b4, b5, b6, b7, b8⟩ := hK6.box.tail.tail.head.four
  obtain ⟨a0, a1, a2, a3, a4, a5, a6, a7, a8⟩ := hK6.box.tail.tail.tail.head.four
  clear hb4 hK4 hK5
  go_upto_region 7 with fail
  clear s0 s1 s2 s3 s4 s5 s6 s7 s8 r0 r1 r2 r3 r4 r5 r6 r7 r8 b0 b1 b2 b3 b4 b5 b6 b7 b8 a0 a1 a2 a3 a4 a5 a6 a7 a8
  clear hK6
  go_cut [52] (fun u wc => u = .bool (!q) ∧ Kp w wc [(w.heap.size + 1 + 1 + 1, [.int .u64 0, .int .u64 0, .int .u64 0, .int .u64 0]), (w.heap.size + 1 + 1, [.int .u64 0, .int .u64 0, .int .u64 0, .int .u64 0]), (w.heap.size + 1, [U x', U y', U z', U t']), (w.heap.size, [U x, U y, U z, U t])])
  case first =>
    cases may
    · go_wp2_with fail
      go_meet
      case rel => exact ⟨by rw [hq.out]; rfl, hK7⟩
    · cases i1
      · go_wp2_with fail
        go_meet
        case rel => exact ⟨by rw [hq.out]; rfl, hK7⟩
      · cases i2
        all_goals
          go_wp2_with fail
          go_meet
          case rel => exact ⟨by rw [hq.out]; rfl, hK7⟩
  case rest =>
    clear hK7 hq
    obtain ⟨rfl, hK8⟩ := hcut
    obtain ⟨s0, s1, s2, s3, s4, s5, s6, s7, s8⟩ := hK8.box.head.four
    obtain ⟨r0, r1, r2, r3, r4, r5, r6, r7, r8⟩ := hK8.box.tail.head.four
    obtain ⟨b0, b1, b2, b3, b4, b5, b6, b7, b8⟩ := hK8.box.tail.tail.head.four
    obtain ⟨a0, a1, a2, a3, a4, a5, a6, a7, a8⟩ := hK8.box.tail.tail.tail.head.four
    cases q
    · go_wp2_with fail
      exact bodyPost_ret (v := .tuple #[V0, V0, .bool false, N 0]) (by simp [results, Try.results91, go_sem, nv_zero, s0, s1, s2, s3, r0, r1, r2, r3]) rfl ⟨rfl, ((hK8.set4 1 rfl).set4 0 rfl).bel⟩
    · go_wp2_with fail
      go_region
      all_goals
        go_wp2_with fail
        exact bodyPost_ret (v := .tuple #[Vl x y z t, Vl x' y' z' t', .bool true, N 0]) (by simp [results, Try.results91, go_sem, s0, s1, s2, s3, r0, r1, r2, r3]) rfl ⟨rfl, Below.drew ((hK8.set4 1 rfl).set4 0 rfl).bel⟩

set_option maxRecDepth 100000 in
set_option maxHeartbeats 1000000 in
theorem leave_wrongNotLess {p1 p2 : Value} {v m l g v' m' l' g' : BitVec 64} (hr : Hid ((valB v m l g && valB v' m' l' g') = false)) (w : World) :
    Calls Try.prog 91 #[Vl v m l g, Vl v' m' l' g', .func (.func 98) #[] #[p1, p2]] w fun e w' => e = .returned (.tuple #[V0, V0, .bool false, N 1]) ∧ Below w.heap.size w w' := by
  obtain ⟨z1, H1⟩ : ∃ b, Hid (valB v m l g = b) := ⟨_, rfl⟩
  obtain ⟨z2, H2⟩ : ∃ b, Hid (valB v' m' l' g' = b) := ⟨_, rfl⟩
  rw [H1.out, H2.out] at hr
  go_enter Try.func91, Try.ntmps91
  go_wp2_with fail
  refine (vcheck2 H1 H2 (by simp) (by simp [go_sem]) (by simp [go_sem]) (by simp [go_sem]) (by simp [go_sem]) (by simp [go_sem]) (by simp [go_sem]) (by simp [go_sem]) (by simp [go_sem])).mono ?_
  rw [hr.out, er_f]
  rintro e w1 ⟨rfl, hb1⟩
  have hK := ((((((Kp.start w).add4 _ _ _ _ _).add4 _ _ _ _ _).add4 _ _ _ _ _).add4 _ _ _ _ _).keep ((Below.refl _ _).alloc (Nat.le_refl _) _)).keep hb1
  simp only [World.size_alloc] at hK
  obtain ⟨s0, s1, s2, s3, s4, s5, s6, s7, s8⟩ := hK.box.head.four
  obtain ⟨r0, r1, r2, r3, r4, r5, r6, r7, r8⟩ := hK.box.tail.head.four
  obtain ⟨b0, b1, b2, b3, b4, b5, b6, b7, b8⟩ := hK.box.tail.tail.head.four
  obtain ⟨a0, a1, a2, a3, a4, a5, a6, a7, a8⟩ := hK.box.tail.tail.tail.head.four
  go_wp2_with fail
  exact bodyPost_ret (v := .tuple #[V0, V0, .bool false, N 1]) (by simp [results, Try.results91, go_sem, nv_zero, s0, s1, s2, s3, r0, r1, r2, r3]) rfl ⟨rfl, ((hK.set4 1 rfl).set4 0 rfl).bel⟩
set_option maxRecDepth 100000 in
set_option maxHeartbeats 4000000 in
theorem leave_NotLess {p1 p2 : Value} {v m l g v' m' l' g' a b c d a' b' c' d' x y z t x' y' z' t' : BitVec 64} {may i1 i2 : Bool} {e1 e2 : Int} (hr : Hid ((valB v m l g && valB v' m' l' g') = true)) (w : World)
    (HR : Hid (∀ w', Below w.heap.size w w' → Calls Try.prog 98 #[p1, p2] w' fun e w'' => e = .returned (.tuple #[Vl a b c d, Vl a' b' c' d', .bool may]) ∧ Below w'.heap.size w' w''))
    (N1 : Hid (∀ w, Calls Try.prog 31 #[Vl a b c d] w fun e w' => e = .returned (.tuple #[Vl x y z t, .bool i1, N e1]) ∧ Below w.heap.size w w'))
    (N2 : Hid (∀ w, Calls Try.prog 31 #[Vl a' b' c' d'] w fun e w' => e = .returned (.tuple #[Vl x' y' z' t', .bool i2, N e2]) ∧ Below w.heap.size w w')) :
    Calls Try.prog 91 #[Vl v m l g, Vl v' m' l' g', .func (.func 98) #[] #[p1, p2]] w fun e w' => e = .returned (.tuple #[lv (may && (i1 && i2)) (Vl x y z t), lv (may && (i1 && i2)) (Vl x' y' z' t'), .bool (may && (i1 && i2)), N 0]) ∧ Below w.heap.size w w' := by
  obtain ⟨z1, H1⟩ : ∃ b, Hid (valB v m l g = b) := ⟨_, rfl⟩
  obtain ⟨z2, H2⟩ : ∃ b, Hid (valB v' m' l' g' = b) := ⟨_, rfl⟩
  rw [H1.out, H2.out] at hr
  obtain ⟨q, hq⟩ : ∃ q, Hid (q = (may && (i1 && i2))) := ⟨_, rfl⟩
  rw [← hq.out]
  go_enter Try.func91, Try.ntmps91
  go_wp2_with fail
  refine (vcheck2 H1 H2 (by simp) (by simp [go_sem]) (by simp [go_sem]) (by simp [go_sem]) (by simp [go_sem]) (by simp [go_sem]) (by simp [go_sem]) (by simp [go_sem]) (by simp [go_sem])).mono ?_
  rw [hr.out, er_t]
  rintro e w1 ⟨rfl, hb1⟩
  have hK := ((((((Kp.start w).add4 _ _ _ _ _).add4 _ _ _ _ _).add4 _ _ _ _ _).add4 _ _ _ _ _).keep ((Below.refl _ _).alloc (Nat.le_refl _) _)).keep hb1
  simp only [World.size_alloc] at hK
  clear hb1
  go_wp2_with fail
  refine (HR.out _ hK.bel).mono ?_
  rintro e w2 ⟨rfl, hb2⟩
  have hK2 := hK.keep hb2
  have hK3 := (hK2.set4 (x := U a) (y := U b) (z := U c) (t := U d) 3 rfl).set4 (x := U a') (y := U b') (z := U c') (t := U d') 2 rfl
  obtain ⟨s0, s1, s2, s3, s4, s5, s6, s7, s8⟩ := hK2.box.head.four
  obtain ⟨r0, r1, r2, r3, r4, r5, r6, r7, r8⟩ := hK2.box.tail.head.four
  obtain ⟨b0, b1, b2, b3, b4, b5, b6, b7, b8⟩ := hK2.box.tail.tail.head.four
  obtain ⟨a0, a1, a2, a3, a4, a5, a6, a7, a8⟩ := hK2.box.tail.tail.tail.head.four
  clear hb2 hK
  go_wp2_with fail
  refine (N1.out _).mono ?_
  rintro e w3 ⟨rfl, hb3⟩
  have hK4 := hK3.keep hb3
  have hK5 := hK4.set4 (x := U x) (y := U y) (z := U z) (t := U t) 3 rfl
  clear s0 s1 s2 s3 s4 s5 s6 s7 s8 r0 r1 r2 r3 r4 r5 r6 r7 r8 b0 b1 b2 b3 b4 b5 b6 b7 b8 a0 a1 a2 a3 a4 a5 a6 a7 a8
  obtain ⟨s0, s1, s2, s3, s4, s5, s6, s7, s8⟩ := hK4.box.head.four
  obtain ⟨r0, r1, r2, r3, r4, r5, r6, r7, r8⟩ := hK4.box.tail.head.four
  obtain ⟨b0, b1, b2, b3, b4, b5, b6, b7, b8⟩ := hK4.box.tail.tail.head.four
  obtain ⟨a0, a1, a2, a3, a4, a5, a6, a7, a8⟩ := hK4.box.tail.tail.tail.head.four
  clear hb3 hK2 hK3
  go_wp2_with fail
  refine (N2.out _).mono ?_
  rintro e w4 ⟨rfl, hb4⟩
  have hK6 := hK5.keep hb4
  have hK7 := hK6.set4 (x := U x') (y := U y') (z := U z') (t := U t') 2 rfl
  clear s0 s1 s2 s3 s4 s5 s6 s7 s8 r0 r1 r2 r3 r4 r5 r6 r7 r8 b0 b1 b2 b3 b4 b5 b6 b7 b8 a0 a1 a2 a3 a4 a5 a6 a7 a8
  obtain ⟨s0, s1, s2, s3, s4, s5, s6, s7, s8⟩ := hK6.box.head.four
  obtain ⟨r0, r1, r2, r3, r4, r5, r6, r7, r8⟩ := hK6.box.tail.head.four
  obtain ⟨b0, b1, b2, b3, b4, b5, b6, b7, b8⟩ := hK6.box.tail.tail.head.four
  obtain ⟨a0, a1, a2, a3, a4, a5, a6, a7, a8⟩ := hK6.box.tail.tail.tail.head.four
  clear hb4 hK4 hK5
  go_upto_region 7 with fail
  clear s0 s1 s2 s3 s4 s5 s6 s7 s8 r0 r1 r2 r3 r4 r5 r6 r7 r8 b0 b1 b2 b3 b4 b5 b6 b7 b8 a0 a1 a2 a3 a4 a5 a6 a7 a8
  clear hK6
  go_cut [52] (fun u wc => u = .bool (!q) ∧ Kp w wc [(w.heap.size + 1 + 1 + 1, [.int .u64 0, .int .u64 0, .int .u64 0, .int .u64 0]), (w.heap.size + 1 + 1, [.int .u64 0, .int .u64 0, .int .u64 0, .int .u64 0]), (w.heap.size + 1, [U x', U y', U z', U t']), (w.heap.size, [U x, U y, U z, U t])])
  case first =>
    cases may
    · go_wp2_with fail
      go_meet
      case rel => exact ⟨by rw [hq.out]; rfl, hK7⟩
    · cases i1
      · go_wp2_with fail
        go_meet
        case rel => exact ⟨by rw [hq.out]; rfl, hK7⟩
      · cases i2
        all_goals
          go_wp2_with fail
          go_meet
          case rel => exact ⟨by rw [hq.out]; rfl, hK7⟩
  case rest =>
    clear hK7 hq
    obtain ⟨rfl, hK8⟩ := hcut
    obtain ⟨s0, s1, s2, s3, s4, s5, s6, s7, s8⟩ := hK8.box.head.four
    obtain ⟨r0, r1, r2, r3, r4, r5, r6, r7, r8⟩ := hK8.box.tail.head.four
    obtain ⟨b0, b1, b2, b3, b4, b5, b6, b7, b8⟩ := hK8.box.tail.tail.head.four
    obtain ⟨a0, a1, a2, a3, a4, a5, a6, a7, a8⟩ := hK8.box.tail.tail.tail.head.four
    cases q
    · go_wp2_with fail
      exact bodyPost_ret (v := .tuple #[V0, V0, .bool false, N 0]) (by simp [results, Try.results91, go_sem, nv_zero, s0, s1, s2, s3, r0, r1, r2, r3]) rfl ⟨rfl, ((hK8.set4 1 rfl).set4 0 rfl).bel⟩
    · go_wp2_with fail
      go_region
      all_goals
        go_wp2_with fail
        exact bodyPost_ret (v := .tuple #[Vl x y z t, Vl x' y' z' t', .bool true, N 0]) (by simp [results, Try.results91, go_sem, s0, s1, s2, s3, r0, r1, r2, r3]) rfl ⟨rfl, Below.drew ((hK8.set4 1 rfl).set4 0 rfl).bel⟩

end Go.Proofs.Ytglollajdjgciaa
