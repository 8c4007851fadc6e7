/- The contracts of package calc's Equal, Other, Less and NotLess, over what leave is handed. (Written by gen_w29.py.) -/
import Derived.Test.YtglollajdjgciaaW28
namespace Go.Proofs.Ytglollajdjgciaa
open Go.RowKit
attribute [local go_sem] w_and w_or w_xor w_andNot w_and1 w_and63 w_add w_sub w_mul w_sub1 w_add1 w_shl w_shl1 w_shr c_beq c_bne c_beq0 c_bne0 c_beq1 c_bne1 wrap_nv

set_option maxRecDepth 100000 in
set_option maxHeartbeats 4000000 in
theorem calcEqual_wrong {v m l g v' m' l' g' : BitVec 64} (hr : Hid ((valB v m l g && valB v' m' l' g') = false)) (w : World) :
    Calls Try.prog 51 #[Vl v m l g, Vl v' m' l' g'] w fun e w' => e = .returned (.tuple #[V0, V0, .bool false, N 1]) ∧ Below w.heap.size w w' := by
  go_enter Try.func51, Try.ntmps51
  go_wp2_with fail
  refine (leave_wrongEqual hr _).mono ?_
  rintro e w1 ⟨rfl, hb1⟩
  have hK := (((((Kp.start w).add4 _ _ _ _ _).add4 _ _ _ _ _).add4 _ _ _ _ _).add4 _ _ _ _ _).keep hb1
  simp only [World.size_alloc] at hK
  obtain ⟨s0, s1, s2, s3, s4, s5, s6, s7, s8⟩ := hK.box.head.four
  obtain ⟨r0, r1, r2, r3, r4, r5, r6, r7, r8⟩ := hK.box.tail.head.four
  obtain ⟨b0, b1, b2, b3, b4, b5, b6, b7, b8⟩ := hK.box.tail.tail.head.four
  obtain ⟨a0, a1, a2, a3, a4, a5, a6, a7, a8⟩ := hK.box.tail.tail.tail.head.four
  go_wp2_with fail
  exact bodyPost_ret (v := .tuple #[V0, V0, .bool false, N 1]) (by simp [results, Try.results51, go_sem, s0, s1, s2, s3, r0, r1, r2, r3]) rfl ⟨rfl, ((hK.set4 1 rfl).set4 0 rfl).bel⟩
set_option maxRecDepth 100000 in
set_option maxHeartbeats 4000000 in
theorem calcEqual_right {v m l g v' m' l' g' a b c d a' b' c' d' x y z t x' y' z' t' : BitVec 64} {may i1 i2 : Bool} {e1 e2 : Int} (hr : Hid ((valB v m l g && valB v' m' l' g') = true)) (w : World)
    (HR : Hid (∀ (B : Nat) w', Cap w' B (B + 1) v m l g v' m' l' g' → Calls Try.prog 92 #[PT B, PT (B + 1)] w' fun e w'' => e = .returned (.tuple #[Vl a b c d, Vl a' b' c' d', .bool may]) ∧ Below w'.heap.size w' w''))
    (N1 : Hid (∀ w, Calls Try.prog 31 #[Vl a b c d] w fun e w' => e = .returned (.tuple #[Vl x y z t, .bool i1, N e1]) ∧ Below w.heap.size w w'))
    (N2 : Hid (∀ w, Calls Try.prog 31 #[Vl a' b' c' d'] w fun e w' => e = .returned (.tuple #[Vl x' y' z' t', .bool i2, N e2]) ∧ Below w.heap.size w w')) :
    Calls Try.prog 51 #[Vl v m l g, Vl v' m' l' g'] w fun e w' => e = .returned (.tuple #[lv (may && (i1 && i2)) (Vl x y z t), lv (may && (i1 && i2)) (Vl x' y' z' t'), .bool (may && (i1 && i2)), N 0]) ∧ Below w.heap.size w w' := by
  have hK0 := ((((Kp.start w).add4 (U v) (U m) (U l) (U g) 49).add4 (U v') (U m') (U l') (U g') 49).add4 (.int .u64 0) (.int .u64 0) (.int .u64 0) (.int .u64 0) 49).add4 (.int .u64 0) (.int .u64 0) (.int .u64 0) (.int .u64 0) 49
  simp only [World.size_alloc] at hK0
  have HC : Hid (∀ w', Below ((((w.alloc (.cells #[U v, U m, U l, U g] 49)).alloc (.cells #[U v', U m', U l', U g'] 49)).alloc (.cells #[.int .u64 0, .int .u64 0, .int .u64 0, .int .u64 0] 49)).alloc (.cells #[.int .u64 0, .int .u64 0, .int .u64 0, .int .u64 0] 49)).heap.size ((((w.alloc (.cells #[U v, U m, U l, U g] 49)).alloc (.cells #[U v', U m', U l', U g'] 49)).alloc (.cells #[.int .u64 0, .int .u64 0, .int .u64 0, .int .u64 0] 49)).alloc (.cells #[.int .u64 0, .int .u64 0, .int .u64 0, .int .u64 0] 49)) w' → Cap w' w.heap.size (w.heap.size + 1) v m l g v' m' l' g') := by
    intro w' hb
    have hk := hK0.keep hb
    obtain ⟨b0, b1, b2, b3, _, _, _, _, b8⟩ := hk.box.tail.tail.head.four
    obtain ⟨a0, a1, a2, a3, _, _, _, _, a8⟩ := hk.box.tail.tail.tail.head.four
    exact ⟨a8, b8, a0, a1, a2, a3, b0, b1, b2, b3⟩
  obtain ⟨q, hq⟩ : ∃ q, Hid (q = (may && (i1 && i2))) := ⟨_, rfl⟩
  have HL : Hid (Calls Try.prog 91 #[Vl v m l g, Vl v' m' l' g', .func (.func 92) #[] #[PT w.heap.size, PT (w.heap.size + 1)]] ((((w.alloc (.cells #[U v, U m, U l, U g] 49)).alloc (.cells #[U v', U m', U l', U g'] 49)).alloc (.cells #[.int .u64 0, .int .u64 0, .int .u64 0, .int .u64 0] 49)).alloc (.cells #[.int .u64 0, .int .u64 0, .int .u64 0, .int .u64 0] 49)) fun e w' => e = .returned (.tuple #[lv q (Vl x y z t), lv q (Vl x' y' z' t'), .bool q, N 0]) ∧ Below ((((w.alloc (.cells #[U v, U m, U l, U g] 49)).alloc (.cells #[U v', U m', U l', U g'] 49)).alloc (.cells #[.int .u64 0, .int .u64 0, .int .u64 0, .int .u64 0] 49)).alloc (.cells #[.int .u64 0, .int .u64 0, .int .u64 0, .int .u64 0] 49)).heap.size ((((w.alloc (.cells #[U v, U m, U l, U g] 49)).alloc (.cells #[U v', U m', U l', U g'] 49)).alloc (.cells #[.int .u64 0, .int .u64 0, .int .u64 0, .int .u64 0] 49)).alloc (.cells #[.int .u64 0, .int .u64 0, .int .u64 0, .int .u64 0] 49)) w') := by
    show Calls _ _ _ _ _
    rw [hq.out]
    exact leave_Equal hr _ (hid (fun w' hb => HR.out w.heap.size w' (HC.out w' hb))) N1 N2
  rw [← hq.out]
  clear hq N1 N2 HR HC hr
  go_enter Try.func51, Try.ntmps51
  go_wp2_with fail
  refine HL.out.mono ?_
  rintro e w1 ⟨rfl, hb1⟩
  have hK := hK0.keep hb1
  clear HL
  obtain ⟨s0, s1, s2, s3, s4, s5, s6, s7, s8⟩ := hK.box.head.four
  obtain ⟨r0, r1, r2, r3, r4, r5, r6, r7, r8⟩ := hK.box.tail.head.four
  obtain ⟨b0, b1, b2, b3, b4, b5, b6, b7, b8⟩ := hK.box.tail.tail.head.four
  obtain ⟨a0, a1, a2, a3, a4, a5, a6, a7, a8⟩ := hK.box.tail.tail.tail.head.four
  cases q
  · have e0 : ∀ a, lv false a = V0 := fun a => rfl
    simp only [e0]
    go_wp2_with fail
    exact bodyPost_ret (v := .tuple #[V0, V0, .bool false, N 0]) (by simp [results, Try.results51, go_sem, s0, s1, s2, s3, r0, r1, r2, r3]) rfl ⟨rfl, ((hK.set4 1 rfl).set4 0 rfl).bel⟩
  · have e0 : ∀ a, lv true a = a := fun a => rfl
    simp only [e0]
    go_wp2_with fail
    exact bodyPost_ret (v := .tuple #[Vl x y z t, Vl x' y' z' t', .bool true, N 0]) (by simp [results, Try.results51, go_sem, s0, s1, s2, s3, r0, r1, r2, r3]) rfl ⟨rfl, ((hK.set4 1 rfl).set4 0 rfl).bel⟩

set_option maxRecDepth 100000 in
set_option maxHeartbeats 4000000 in
theorem calcOther_wrong {v m l g v' m' l' g' : BitVec 64} (hr : Hid ((valB v m l g && valB v' m' l' g') = false)) (w : World) :
    Calls Try.prog 52 #[Vl v m l g, Vl v' m' l' g'] w fun e w' => e = .returned (.tuple #[V0, V0, .bool false, N 1]) ∧ Below w.heap.size w w' := by
  go_enter Try.func52, Try.ntmps52
  go_wp2_with fail
  refine (leave_wrongOther hr _).mono ?_
  rintro e w1 ⟨rfl, hb1⟩
  have hK := (((((Kp.start w).add4 _ _ _ _ _).add4 _ _ _ _ _).add4 _ _ _ _ _).add4 _ _ _ _ _).keep hb1
  simp only [World.size_alloc] at hK
  obtain ⟨s0, s1, s2, s3, s4, s5, s6, s7, s8⟩ := hK.box.head.four
  obtain ⟨r0, r1, r2, r3, r4, r5, r6, r7, r8⟩ := hK.box.tail.head.four
  obtain ⟨b0, b1, b2, b3, b4, b5, b6, b7, b8⟩ := hK.box.tail.tail.head.four
  obtain ⟨a0, a1, a2, a3, a4, a5, a6, a7, a8⟩ := hK.box.tail.tail.tail.head.four
  go_wp2_with fail
  exact bodyPost_ret (v := .tuple #[V0, V0, .bool false, N 1]) (by simp [results, Try.results52, go_sem, s0, s1, s2, s3, r0, r1, r2, r3]) rfl ⟨rfl, ((hK.set4 1 rfl).set4 0 rfl).bel⟩
set_option maxRecDepth 100000 in
set_option maxHeartbeats 4000000 in
theorem calcOther_right {v m l g v' m' l' g' a b c d a' b' c' d' x y z t x' y' z' t' : BitVec 64} {may i1 i2 : Bool} {e1 e2 : Int} (hr : Hid ((valB v m l g && valB v' m' l' g') = true)) (w : World)
    (HR : Hid (∀ (B : Nat) w', Cap w' B (B + 1) v m l g v' m' l' g' → Calls Try.prog 93 #[PT B, PT (B + 1)] w' fun e w'' => e = .returned (.tuple #[Vl a b c d, Vl a' b' c' d', .bool may]) ∧ Below w'.heap.size w' w''))
    (N1 : Hid (∀ w, Calls Try.prog 31 #[Vl a b c d] w fun e w' => e = .returned (.tuple #[Vl x y z t, .bool i1, N e1]) ∧ Below w.heap.size w w'))
    (N2 : Hid (∀ w, Calls Try.prog 31 #[Vl a' b' c' d'] w fun e w' => e = .returned (.tuple #[Vl x' y' z' t', .bool i2, N e2]) ∧ Below w.heap.size w w')) :
    Calls Try.prog 52 #[Vl v m l g, Vl v' m' l' g'] w fun e w' => e = .returned (.tuple #[lv (may && (i1 && i2)) (Vl x y z t), lv (may && (i1 && i2)) (Vl x' y' z' t'), .bool (may && (i1 && i2)), N 0]) ∧ Below w.heap.size w w' := by
  have hK0 := ((((Kp.start w).add4 (U v) (U m) (U l) (U g) 49).add4 (U v') (U m') (U l') (U g') 49).add4 (.int .u64 0) (.int .u64 0) (.int .u64 0) (.int .u64 0) 49).add4 (.int .u64 0) (.int .u64 0) (.int .u64 0) (.int .u64 0) 49
  simp only [World.size_alloc] at hK0
  have HC : Hid (∀ w', Below ((((w.alloc (.cells #[U v, U m, U l, U g] 49)).alloc (.cells #[U v', U m', U l', U g'] 49)).alloc (.cells #[.int .u64 0, .int .u64 0, .int .u64 0, .int .u64 0] 49)).alloc (.cells #[.int .u64 0, .int .u64 0, .int .u64 0, .int .u64 0] 49)).heap.size ((((w.alloc (.cells #[U v, U m, U l, U g] 49)).alloc (.cells #[U v', U m', U l', U g'] 49)).alloc (.cells #[.int .u64 0, .int .u64 0, .int .u64 0, .int .u64 0] 49)).alloc (.cells #[.int .u64 0, .int .u64 0, .int .u64 0, .int .u64 0] 49)) w' → Cap w' w.heap.size (w.heap.size + 1) v m l g v' m' l' g') := by
    intro w' hb
    have hk := hK0.keep hb
    obtain ⟨b0, b1, b2, b3, _, _, _, _, b8⟩ := hk.box.tail.tail.head.four
    obtain ⟨a0, a1, a2, a3, _, _, _, _, a8⟩ := hk.box.tail.tail.tail.head.four
    exact ⟨a8, b8, a0, a1, a2, a3, b0, b1, b2, b3⟩
  obtain ⟨q, hq⟩ : ∃ q, Hid (q = (may && (i1 && i2))) := ⟨_, rfl⟩
  have HL : Hid (Calls Try.prog 91 #[Vl v m l g, Vl v' m' l' g', .func (.func 93) #[] #[PT w.heap.size, PT (w.heap.size + 1)]] ((((w.alloc (.cells #[U v, U m, U l, U g] 49)).alloc (.cells #[U v', U m', U l', U g'] 49)).alloc (.cells #[.int .u64 0, .int .u64 0, .int .u64 0, .int .u64 0] 49)).alloc (.cells #[.int .u64 0, .int .u64 0, .int .u64 0, .int .u64 0] 49)) fun e w' => e = .returned (.tuple #[lv q (Vl x y z t), lv q (Vl x' y' z' t'), .bool q, N 0]) ∧ Below ((((w.alloc (.cells #[U v, U m, U l, U g] 49)).alloc (.cells #[U v', U m', U l', U g'] 49)).alloc (.cells #[.int .u64 0, .int .u64 0, .int .u64 0, .int .u64 0] 49)).alloc (.cells #[.int .u64 0, .int .u64 0, .int .u64 0, .int .u64 0] 49)).heap.size ((((w.alloc (.cells #[U v, U m, U l, U g] 49)).alloc (.cells #[U v', U m', U l', U g'] 49)).alloc (.cells #[.int .u64 0, .int .u64 0, .int .u64 0, .int .u64 0] 49)).alloc (.cells #[.int .u64 0, .int .u64 0, .int .u64 0, .int .u64 0] 49)) w') := by
    show Calls _ _ _ _ _
    rw [hq.out]
    exact leave_Other hr _ (hid (fun w' hb => HR.out w.heap.size w' (HC.out w' hb))) N1 N2
  rw [← hq.out]
  clear hq N1 N2 HR HC hr
  go_enter Try.func52, Try.ntmps52
  go_wp2_with fail
  refine HL.out.mono ?_
  rintro e w1 ⟨rfl, hb1⟩
  have hK := hK0.keep hb1
  clear HL
  obtain ⟨s0, s1, s2, s3, s4, s5, s6, s7, s8⟩ := hK.box.head.four
  obtain ⟨r0, r1, r2, r3, r4, r5, r6, r7, r8⟩ := hK.box.tail.head.four
  obtain ⟨b0, b1, b2, b3, b4, b5, b6, b7, b8⟩ := hK.box.tail.tail.head.four
  obtain ⟨a0, a1, a2, a3, a4, a5, a6, a7, a8⟩ := hK.box.tail.tail.tail.head.four
  cases q
  · have e0 : ∀ a, lv false a = V0 := fun a => rfl
    simp only [e0]
    go_wp2_with fail
    exact bodyPost_ret (v := .tuple #[V0, V0, .bool false, N 0]) (by simp [results, Try.results52, go_sem, s0, s1, s2, s3, r0, r1, r2, r3]) rfl ⟨rfl, ((hK.set4 1 rfl).set4 0 rfl).bel⟩
  · have e0 : ∀ a, lv true a = a := fun a => rfl
    simp only [e0]
    go_wp2_with fail
    exact bodyPost_ret (v := .tuple #[Vl x y z t, Vl x' y' z' t', .bool true, N 0]) (by simp [results, Try.results52, go_sem, s0, s1, s2, s3, r0, r1, r2, r3]) rfl ⟨rfl, ((hK.set4 1 rfl).set4 0 rfl).bel⟩

set_option maxRecDepth 100000 in
set_option maxHeartbeats 4000000 in
theorem calcLess_wrong {v m l g v' m' l' g' : BitVec 64} (hr : Hid ((valB v m l g && valB v' m' l' g') = false)) (w : World) :
    Calls Try.prog 53 #[Vl v m l g, Vl v' m' l' g'] w fun e w' => e = .returned (.tuple #[V0, V0, .bool false, N 1]) ∧ Below w.heap.size w w' := by
  go_enter Try.func53, Try.ntmps53
  go_wp2_with fail
  refine (leave_wrongLess hr _).mono ?_
  rintro e w1 ⟨rfl, hb1⟩
  have hK := (((((Kp.start w).add4 _ _ _ _ _).add4 _ _ _ _ _).add4 _ _ _ _ _).add4 _ _ _ _ _).keep hb1
  simp only [World.size_alloc] at hK
  obtain ⟨s0, s1, s2, s3, s4, s5, s6, s7, s8⟩ := hK.box.head.four
  obtain ⟨r0, r1, r2, r3, r4, r5, r6, r7, r8⟩ := hK.box.tail.head.four
  obtain ⟨b0, b1, b2, b3, b4, b5, b6, b7, b8⟩ := hK.box.tail.tail.head.four
  obtain ⟨a0, a1, a2, a3, a4, a5, a6, a7, a8⟩ := hK.box.tail.tail.tail.head.four
  go_wp2_with fail
  exact bodyPost_ret (v := .tuple #[V0, V0, .bool false, N 1]) (by simp [results, Try.results53, go_sem, s0, s1, s2, s3, r0, r1, r2, r3]) rfl ⟨rfl, ((hK.set4 1 rfl).set4 0 rfl).bel⟩
set_option maxRecDepth 100000 in
set_option maxHeartbeats 4000000 in
theorem calcLess_right {v m l g v' m' l' g' a b c d a' b' c' d' x y z t x' y' z' t' : BitVec 64} {may i1 i2 : Bool} {e1 e2 : Int} (hr : Hid ((valB v m l g && valB v' m' l' g') = true)) (w : World)
    (HR : Hid (∀ (B : Nat) w', Cap w' (B + 1) B v' m' l' g' v m l g → Calls Try.prog 96 #[PT (B + 1), PT B] w' fun e w'' => e = .returned (.tuple #[Vl a b c d, Vl a' b' c' d', .bool may]) ∧ Below w'.heap.size w' w''))
    (N1 : Hid (∀ w, Calls Try.prog 31 #[Vl a b c d] w fun e w' => e = .returned (.tuple #[Vl x y z t, .bool i1, N e1]) ∧ Below w.heap.size w w'))
    (N2 : Hid (∀ w, Calls Try.prog 31 #[Vl a' b' c' d'] w fun e w' => e = .returned (.tuple #[Vl x' y' z' t', .bool i2, N e2]) ∧ Below w.heap.size w w')) :
    Calls Try.prog 53 #[Vl v m l g, Vl v' m' l' g'] w fun e w' => e = .returned (.tuple #[lv (may && (i1 && i2)) (Vl x y z t), lv (may && (i1 && i2)) (Vl x' y' z' t'), .bool (may && (i1 && i2)), N 0]) ∧ Below w.heap.size w w' := by
  have hK0 := ((((Kp.start w).add4 (U v) (U m) (U l) (U g) 49).add4 (U v') (U m') (U l') (U g') 49).add4 (.int .u64 0) (.int .u64 0) (.int .u64 0) (.int .u64 0) 49).add4 (.int .u64 0) (.int .u64 0) (.int .u64 0) (.int .u64 0) 49
  simp only [World.size_alloc] at hK0
  have HC : Hid (∀ w', Below ((((w.alloc (.cells #[U v, U m, U l, U g] 49)).alloc (.cells #[U v', U m', U l', U g'] 49)).alloc (.cells #[.int .u64 0, .int .u64 0, .int .u64 0, .int .u64 0] 49)).alloc (.cells #[.int .u64 0, .int .u64 0, .int .u64 0, .int .u64 0] 49)).heap.size ((((w.alloc (.cells #[U v, U m, U l, U g] 49)).alloc (.cells #[U v', U m', U l', U g'] 49)).alloc (.cells #[.int .u64 0, .int .u64 0, .int .u64 0, .int .u64 0] 49)).alloc (.cells #[.int .u64 0, .int .u64 0, .int .u64 0, .int .u64 0] 49)) w' → Cap w' (w.heap.size + 1) w.heap.size v' m' l' g' v m l g) := by
    intro w' hb
    have hk := hK0.keep hb
    obtain ⟨b0, b1, b2, b3, _, _, _, _, b8⟩ := hk.box.tail.tail.head.four
    obtain ⟨a0, a1, a2, a3, _, _, _, _, a8⟩ := hk.box.tail.tail.tail.head.four
    exact ⟨b8, a8, b0, b1, b2, b3, a0, a1, a2, a3⟩
  obtain ⟨q, hq⟩ : ∃ q, Hid (q = (may && (i1 && i2))) := ⟨_, rfl⟩
  have HL : Hid (Calls Try.prog 91 #[Vl v m l g, Vl v' m' l' g', .func (.func 96) #[] #[PT (w.heap.size + 1), PT w.heap.size]] ((((w.alloc (.cells #[U v, U m, U l, U g] 49)).alloc (.cells #[U v', U m', U l', U g'] 49)).alloc (.cells #[.int .u64 0, .int .u64 0, .int .u64 0, .int .u64 0] 49)).alloc (.cells #[.int .u64 0, .int .u64 0, .int .u64 0, .int .u64 0] 49)) fun e w' => e = .returned (.tuple #[lv q (Vl x y z t), lv q (Vl x' y' z' t'), .bool q, N 0]) ∧ Below ((((w.alloc (.cells #[U v, U m, U l, U g] 49)).alloc (.cells #[U v', U m', U l', U g'] 49)).alloc (.cells #[.int .u64 0, .int .u64 0, .int .u64 0, .int .u64 0] 49)).alloc (.cells #[.int .u64 0, .int .u64 0, .int .u64 0, .int .u64 0] 49)).heap.size ((((w.alloc (.cells #[U v, U m, U l, U g] 49)).alloc (.cells #[U v', U m', U l', U g'] 49)).alloc (.cells #[.int .u64 0, .int .u64 0, .int .u64 0, .int .u64 0] 49)).alloc (.cells #[.int .u64 0, .int .u64 0, .int .u64 0, .int .u64 0] 49)) w') := by
    show Calls _ _ _ _ _
    rw [hq.out]
    exact leave_Less hr _ (hid (fun w' hb => HR.out w.heap.size w' (HC.out w' hb))) N1 N2
  rw [← hq.out]
  clear hq N1 N2 HR HC hr
  go_enter Try.func53, Try.ntmps53
  go_wp2_with fail
  refine HL.out.mono ?_
  rintro e w1 ⟨rfl, hb1⟩
  have hK := hK0.keep hb1
  clear HL
  obtain ⟨s0, s1, s2, s3, s4, s5, s6, s7, s8⟩ := hK.box.head.four
  obtain ⟨r0, r1, r2, r3, r4, r5, r6, r7, r8⟩ := hK.box.tail.head.four
  obtain ⟨b0, b1, b2, b3, b4, b5, b6, b7, b8⟩ := hK.box.tail.tail.head.four
  obtain ⟨a0, a1, a2, a3, a4, a5, a6, a7, a8⟩ := hK.box.tail.tail.tail.head.four
  cases q
  · have e0 : ∀ a, lv false a = V0 := fun a => rfl
    simp only [e0]
    go_wp2_with fail
    exact bodyPost_ret (v := .tuple #[V0, V0, .bool false, N 0]) (by simp [results, Try.results53, go_sem, s0, s1, s2, s3, r0, r1, r2, r3]) rfl ⟨rfl, ((hK.set4 1 rfl).set4 0 rfl).bel⟩
  · have e0 : ∀ a, lv true a = a := fun a => rfl
    simp only [e0]
    go_wp2_with fail
    exact bodyPost_ret (v := .tuple #[Vl x y z t, Vl x' y' z' t', .bool true, N 0]) (by simp [results, Try.results53, go_sem, s0, s1, s2, s3, r0, r1, r2, r3]) rfl ⟨rfl, ((hK.set4 1 rfl).set4 0 rfl).bel⟩

set_option maxRecDepth 100000 in
set_option maxHeartbeats 4000000 in
theorem calcNotLess_wrong {v m l g v' m' l' g' : BitVec 64} (hr : Hid ((valB v m l g && valB v' m' l' g') = false)) (w : World) :
    Calls Try.prog 54 #[Vl v m l g, Vl v' m' l' g'] w fun e w' => e = .returned (.tuple #[V0, V0, .bool false, N 1]) ∧ Below w.heap.size w w' := by
  go_enter Try.func54, Try.ntmps54
  go_wp2_with fail
  refine (leave_wrongNotLess hr _).mono ?_
  rintro e w1 ⟨rfl, hb1⟩
  have hK := (((((Kp.start w).add4 _ _ _ _ _).add4 _ _ _ _ _).add4 _ _ _ _ _).add4 _ _ _ _ _).keep hb1
  simp only [World.size_alloc] at hK
  obtain ⟨s0, s1, s2, s3, s4, s5, s6, s7, s8⟩ := hK.box.head.four
  obtain ⟨r0, r1, r2, r3, r4, r5, r6, r7, r8⟩ := hK.box.tail.head.four
  obtain ⟨b0, b1, b2, b3, b4, b5, b6, b7, b8⟩ := hK.box.tail.tail.head.four
  obtain ⟨a0, a1, a2, a3, a4, a5, a6, a7, a8⟩ := hK.box.tail.tail.tail.head.four
  go_wp2_with fail
  exact bodyPost_ret (v := .tuple #[V0, V0, .bool false, N 1]) (by simp [results, Try.results54, go_sem, s0, s1, s2, s3, r0, r1, r2, r3]) rfl ⟨rfl, ((hK.set4 1 rfl).set4 0 rfl).bel⟩
set_option maxRecDepth 100000 in
set_option maxHeartbeats 4000000 in
theorem calcNotLess_right {v m l g v' m' l' g' a b c d a' b' c' d' x y z t x' y' z' t' : BitVec 64} {may i1 i2 : Bool} {e1 e2 : Int} (hr : Hid ((valB v m l g && valB v' m' l' g') = true)) (w : World)
    (HR : Hid (∀ (B : Nat) w', Cap w' B (B + 1) v m l g v' m' l' g' → Calls Try.prog 98 #[PT B, PT (B + 1)] w' fun e w'' => e = .returned (.tuple #[Vl a b c d, Vl a' b' c' d', .bool may]) ∧ Below w'.heap.size w' w''))
    (N1 : Hid (∀ w, Calls Try.prog 31 #[Vl a b c d] w fun e w' => e = .returned (.tuple #[Vl x y z t, .bool i1, N e1]) ∧ Below w.heap.size w w'))
    (N2 : Hid (∀ w, Calls Try.prog 31 #[Vl a' b' c' d'] w fun e w' => e = .returned (.tuple #[Vl x' y' z' t', .bool i2, N e2]) ∧ Below w.heap.size w w')) :
    Calls Try.prog 54 #[Vl v m l g, Vl v' m' l' g'] w fun e w' => e = .returned (.tuple #[lv (may && (i1 && i2)) (Vl x y z t), lv (may && (i1 && i2)) (Vl x' y' z' t'), .bool (may && (i1 && i2)), N 0]) ∧ Below w.heap.size w w' := by
  have hK0 := ((((Kp.start w).add4 (U v) (U m) (U l) (U g) 49).add4 (U v') (U m') (U l') (U g') 49).add4 (.int .u64 0) (.int .u64 0) (.int .u64 0) (.int .u64 0) 49).add4 (.int .u64 0) (.int .u64 0) (.int .u64 0) (.int .u64 0) 49
  simp only [World.size_alloc] at hK0
  have HC : Hid (∀ w', Below ((((w.alloc (.cells #[U v, U m, U l, U g] 49)).alloc (.cells #[U v', U m', U l', U g'] 49)).alloc (.cells #[.int .u64 0, .int .u64 0, .int .u64 0, .int .u64 0] 49)).alloc (.cells #[.int .u64 0, .int .u64 0, .int .u64 0, .int .u64 0] 49)).heap.size ((((w.alloc (.cells #[U v, U m, U l, U g] 49)).alloc (.cells #[U v', U m', U l', U g'] 49)).alloc (.cells #[.int .u64 0, .int .u64 0, .int .u64 0, .int .u64 0] 49)).alloc (.cells #[.int .u64 0, .int .u64 0, .int .u64 0, .int .u64 0] 49)) w' → Cap w' w.heap.size (w.heap.size + 1) v m l g v' m' l' g') := by
    intro w' hb
    have hk := hK0.keep hb
    obtain ⟨b0, b1, b2, b3, _, _, _, _, b8⟩ := hk.box.tail.tail.head.four
    obtain ⟨a0, a1, a2, a3, _, _, _, _, a8⟩ := hk.box.tail.tail.tail.head.four
    exact ⟨a8, b8, a0, a1, a2, a3, b0, b1, b2, b3⟩
  obtain ⟨q, hq⟩ : ∃ q, Hid (q = (may && (i1 && i2))) := ⟨_, rfl⟩
  have HL : Hid (Calls Try.prog 91 #[Vl v m l g, Vl v' m' l' g', .func (.func 98) #[] #[PT w.heap.size, PT (w.heap.size + 1)]] ((((w.alloc (.cells #[U v, U m, U l, U g] 49)).alloc (.cells #[U v', U m', U l', U g'] 49)).alloc (.cells #[.int .u64 0, .int .u64 0, .int .u64 0, .int .u64 0] 49)).alloc (.cells #[.int .u64 0, .int .u64 0, .int .u64 0, .int .u64 0] 49)) fun e w' => e = .returned (.tuple #[lv q (Vl x y z t), lv q (Vl x' y' z' t'), .bool q, N 0]) ∧ Below ((((w.alloc (.cells #[U v, U m, U l, U g] 49)).alloc (.cells #[U v', U m', U l', U g'] 49)).alloc (.cells #[.int .u64 0, .int .u64 0, .int .u64 0, .int .u64 0] 49)).alloc (.cells #[.int .u64 0, .int .u64 0, .int .u64 0, .int .u64 0] 49)).heap.size ((((w.alloc (.cells #[U v, U m, U l, U g] 49)).alloc (.cells #[U v', U m', U l', U g'] 49)).alloc (.cells #[.int .u64 0, .int .u64 0, .int .u64 0, .int .u64 0] 49)).alloc (.cells #[.int .u64 0, .int .u64 0, .int .u64 0, .int .u64 0] 49)) w') := by
    show Calls _ _ _ _ _
    rw [hq.out]
    exact leave_NotLess hr _ (hid (fun w' hb => HR.out w.heap.size w' (HC.out w' hb))) N1 N2
  rw [← hq.out]
  clear hq N1 N2 HR HC hr
  go_enter Try.func54, Try.ntmps54
  go_wp2_with fail
  refine HL.out.mono ?_
  rintro e w1 ⟨rfl, hb1⟩
  have hK := hK0.keep hb1
  clear HL
  obtain ⟨s0, s1, s2, s3, s4, s5, s6, s7, s8⟩ := hK.box.head.four
  obtain ⟨r0, r1, r2, r3, r4, r5, r6, r7, r8⟩ := hK.box.tail.head.four
  obtain ⟨b0, b1, b2, b3, b4, b5, b6, b7, b8⟩ := hK.box.tail.tail.head.four
  obtain ⟨a0, a1, a2, a3, a4, a5, a6, a7, a8⟩ := hK.box.tail.tail.tail.head.four
  cases q
  · have e0 : ∀ a, lv false a = V0 := fun a => rfl
    simp only [e0]
    go_wp2_with fail
    exact bodyPost_ret (v := .tuple #[V0, V0, .bool false, N 0]) (by simp [results, Try.results54, go_sem, s0, s1, s2, s3, r0, r1, r2, r3]) rfl ⟨rfl, ((hK.set4 1 rfl).set4 0 rfl).bel⟩
  · have e0 : ∀ a, lv true a = a := fun a => rfl
    simp only [e0]
    go_wp2_with fail
    exact bodyPost_ret (v := .tuple #[Vl x y z t, Vl x' y' z' t', .bool true, N 0]) (by simp [results, Try.results54, go_sem, s0, s1, s2, s3, r0, r1, r2, r3]) rfl ⟨rfl, ((hK.set4 1 rfl).set4 0 rfl).bel⟩

end Go.Proofs.Ytglollajdjgciaa
