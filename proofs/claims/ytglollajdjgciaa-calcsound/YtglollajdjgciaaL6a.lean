/- calcBegun: what must be in any case. -/
import Derived.Test.YtglollajdjgciaaW29
import Derived.Test.YtglollajdjgciaaL4a
import Derived.Test.YtglollajdjgciaaCls
import Derived.Deep.RegionWith
namespace Go.Proofs.Ytglollajdjgciaa
open Go.RowKit Go.BigFrame
attribute [local go_sem] w_and w_or w_xor w_andNot w_and1 w_and63 w_add w_sub w_mul w_sub1 w_add1 w_shl w_shl1 w_shr c_beq c_bne c_beq0 c_bne0 c_beq1 c_bne1 wrap_nv

set_option maxRecDepth 100000 in
set_option maxHeartbeats 1000000 in
theorem bytes2 (w : World) : Calls Try.prog 48 #[N 2] w fun e w' => e = .returned (.tuple #[J4 0 65535 0 65535, N 0]) ∧ Below w.heap.size w w' := by
  go_enter Try.func48, Try.ntmps48
  go_wp2_with fail
  exact bodyPost_ret (v := .tuple #[J4 0 65535 0 65535, N 0]) (by simp [results, Try.results48, go_sem]) rfl ⟨rfl, (by repeat (first | exact Below.refl _ _ | assumption | refine below_drewN ?_ _ | refine Below.drew ?_ | refine Below.alloc ?_ (by first | exact Nat.le_refl _ | (simp; done) | (simp; omega) | omega) _ | refine Below.setCell ?_ (by first | exact Nat.le_refl _ | (simp; done) | (simp; omega) | omega) _ | refine Below.trans ?_ (Below.mono (by assumption) (by first | exact Nat.le_refl _ | (simp; done) | (simp; omega) | omega))))⟩
theorem cb0 : (valB 1#64 14#64 3#64 9#64 && valB 1#64 0#64 1#64 1#64) = true ∧ (valB 1#64 14#64 3#64 9#64 && valB 6#64 0#64 6#64 6#64) = true ∧ (valB 1#64 14#64 3#64 9#64 && valB 4#64 0#64 4#64 4#64) = true := by decide +kernel
theorem cb1 : rk 2 1#64 14#64 3#64 9#64 1#64 0#64 1#64 1#64 = (0#64, 30#64, 4#64, 10#64) := by decide +kernel
theorem cb2 : normOk 0#64 30#64 4#64 10#64 = true ∧ nLo 0#64 30#64 4#64 = 4#64 ∧ nHi 0#64 30#64 10#64 = 10#64 ∧ nV 0#64 30#64 4#64 10#64 = 0#64 ∧ nM 30#64 4#64 10#64 = 14#64 := by decide +kernel
theorem cc1 (w : World) : Calls Try.prog 46 #[N 2, J4 1 14 3 9, J4 1 0 1 1] w fun e w' => e = .returned (.tuple #[J4 0 14 4 10, N 0]) ∧ Below w.heap.size w w' := by
  have h := calcTwo_yes (op := 2) (v := 1#64) (m := 14#64) (l := 3#64) (g := 9#64) (v' := 1#64) (m' := 0#64) (l' := 1#64) (g' := 1#64) cb0.1 (hid (by decide)) (show _ = true by rw [cb1]; decide) (show _ = true by rw [cb1]; exact cb2.1) w
  rw [cb1] at h
  dsimp only at h
  rw [cb2.2.1, cb2.2.2.1, cb2.2.2.2.1, cb2.2.2.2.2] at h
  exact h
theorem cb3 : bmax 3#64 3#64 = 3#64 ∧ bmin 9#64 (bsub 6#64 one) = 5#64 ∧ bmax 6#64 (badd 3#64 one) = 6#64 ∧ bmin 6#64 6#64 = 6#64 := by decide +kernel
theorem cb4 : normOk 1#64 14#64 3#64 5#64 = true ∧ nLo 1#64 14#64 3#64 = 3#64 ∧ nHi 1#64 14#64 5#64 = 5#64 ∧ nV 1#64 14#64 3#64 5#64 = 1#64 ∧ nM 14#64 3#64 5#64 = 6#64 := by decide +kernel
theorem cb5 : normOk 6#64 0#64 6#64 6#64 = true ∧ nLo 6#64 0#64 6#64 = 6#64 ∧ nHi 6#64 0#64 6#64 = 6#64 ∧ nV 6#64 0#64 6#64 6#64 = 6#64 ∧ nM 0#64 6#64 6#64 = 0#64 := by decide +kernel
theorem cn1 (w : World) : Calls Try.prog 31 #[Vl 1#64 14#64 3#64 5#64] w fun e w' => e = .returned (.tuple #[Vl 1#64 6#64 3#64 5#64, .bool true, N 0]) ∧ Below w.heap.size w w' := by
  have h := norm_yes (v := 1#64) (m := 14#64) (l := 3#64) (h := 5#64) (show _ = true by decide) cb4.1 w
  rw [cb4.2.1, cb4.2.2.1, cb4.2.2.2.1, cb4.2.2.2.2] at h; exact h
theorem cn2 (w : World) : Calls Try.prog 31 #[Vl 6#64 0#64 6#64 6#64] w fun e w' => e = .returned (.tuple #[Vl 6#64 0#64 6#64 6#64, .bool true, N 0]) ∧ Below w.heap.size w w' := by
  have h := norm_yes (v := 6#64) (m := 0#64) (l := 6#64) (h := 6#64) (show _ = true by decide) cb5.1 w
  rw [cb5.2.1, cb5.2.2.1, cb5.2.2.2.1, cb5.2.2.2.2] at h; exact h
theorem cc2 (w : World) : Calls Try.prog 53 #[J4 1 14 3 9, J4 6 0 6 6] w fun e w' => e = .returned (.tuple #[J4 1 6 3 5, J4 6 0 6 6, .bool true, N 0]) ∧ Below w.heap.size w w' := by
  exact calcLess_right (v := 1#64) (m := 14#64) (l := 3#64) (g := 9#64) (v' := 6#64) (m' := 0#64) (l' := 6#64) (g' := 6#64) (may := true) (i1 := true) (i2 := true) cb0.2.1 w
    (fun B w' hc => by
      have h := less1_yes (w := w') (b1 := B + 1) (b2 := B) hc (by decide) (by decide)
      rw [cb3.1, cb3.2.1, cb3.2.2.1, cb3.2.2.2] at h
      exact h) (fun w => cn1 w) (fun w => cn2 w)
theorem cc3 (w : World) : Calls Try.prog 51 #[J4 1 14 3 9, J4 4 0 4 4] w fun e w' => e = .returned (.tuple #[J4 0 0 0 0, J4 0 0 0 0, .bool false, N 0]) ∧ Below w.heap.size w w' := by
  exact calcEqual_right (v := 1#64) (m := 14#64) (l := 3#64) (g := 9#64) (v' := 4#64) (m' := 0#64) (l' := 4#64) (g' := 4#64) (may := false) (i1 := false) (i2 := false) cb0.2.2 w
    (fun B w' hc => equal1_is (kv := zero) (km := zero) (lo := 4#64) (hi := 4#64) hc (hid (fun w => meet_no (show _ = true by decide) (by decide) w)) (show bmax 3#64 4#64 = 4#64 by decide +kernel) (show bmin 9#64 4#64 = 4#64 by decide +kernel))
    (hid (fun w => norm_none (show _ = true by decide) (show _ = false by decide +kernel) w)) (hid (fun w => norm_none (show _ = true by decide) (show _ = false by decide +kernel) w))
theorem co (n : BitVec 64) (w : World) : Calls Try.prog 40 #[U n] w fun e w' => e = .returned (Vl n zero n n) ∧ Below w.heap.size w w' := valOf_any n w
theorem co1 (w : World) : Calls Try.prog 40 #[I 1] w fun e w' => e = .returned (J4 1 0 1 1) ∧ Below w.heap.size w w' := valOf_any 1#64 w
theorem co4 (w : World) : Calls Try.prog 40 #[I 4] w fun e w' => e = .returned (J4 4 0 4 4) ∧ Below w.heap.size w w' := valOf_any 4#64 w
theorem co6 (w : World) : Calls Try.prog 40 #[I 6] w fun e w' => e = .returned (J4 6 0 6 6) ∧ Below w.heap.size w w' := valOf_any 6#64 w

set_option maxRecDepth 100000 in
set_option maxHeartbeats 8000000 in
theorem calcBegun_any (w : World) : Calls Try.prog 50 #[] w fun e w' => e = .returned (.bool true) ∧ Below w.heap.size w w' := by
  go_enter Try.func50, Try.ntmps50
  go_wp2_with fail
  refine (odd_any _).mono ?_
  rintro e w1 ⟨rfl, hb1⟩
  go_wp2_with fail
  refine (co1 _).mono ?_
  rintro e w2 ⟨rfl, hb2⟩
  go_wp2_with fail
  refine (cc1 _).mono ?_
  rintro e w3 ⟨rfl, hb3⟩
  have hB3 := ((((Kp.start w).keep hb1).keep hb2).keep hb3).add4 (I 0) (I 14) (I 4) (I 10) 49
  go_wp2_with fail
  refine (odd_any _).mono ?_
  rintro e w4 ⟨rfl, hb4⟩
  go_wp2_with fail
  refine (co6 _).mono ?_
  rintro e w5 ⟨rfl, hb5⟩
  go_wp2_with fail
  refine (cc2 _).mono ?_
  rintro e w8 ⟨rfl, hb8⟩
  have hB8 := ((((hB3.keep hb4).keep hb5).keep hb8).add4 (I 1) (I 6) (I 3) (I 5) 49).add4 (I 6) (I 0) (I 6) (I 6) 49
  simp only [World.size_alloc] at hB8
  go_wp2_with fail
  refine (odd_any _).mono ?_
  rintro e w9 ⟨rfl, hb9⟩
  go_wp2_with fail
  refine (co4 _).mono ?_
  rintro e w10 ⟨rfl, hb10⟩
  go_wp2_with fail
  refine (cc3 _).mono ?_
  rintro e w11 ⟨rfl, hb11⟩
  have hB11 := ((((hB8.keep hb9).keep hb10).keep hb11).add4 (I 0) (I 0) (I 0) (I 0) 49).add4 (I 0) (I 0) (I 0) (I 0) 49
  simp only [World.size_alloc] at hB11
  go_wp2_with fail
  refine (bytes2 _).mono ?_
  rintro e w12 ⟨rfl, hb12⟩
  have hB12 := (hB11.keep hb12).add4 (I 0) (I 65535) (I 0) (I 65535) 49
  have k0 : bits .and .u64 0 1 = 0 := by decide
  have k14 : bits .and .u64 14 1 = 0 := by decide
  go_upto_region 5 with fail
  clear hb1 hb2 hb3 hb4 hb5 hb8 hb9 hb10 hb11 hb12 hB3 hB8 hB11
  refine region_class (fun w' => ∃ n : Cl w [(w12.heap.size, [I 0, I 65535, I 0, I 65535]), (w11.heap.size + 1, [I 0, I 0, I 0, I 0]), (w11.heap.size, [I 0, I 0, I 0, I 0]), (w8.heap.size + 1, [I 6, I 0, I 6, I 6]), (w8.heap.size, [I 1, I 6, I 3, I 5]), (w3.heap.size, [I 0, I 14, I 4, I 10])], w' = n.val) (by kernel_rfl) (by kernel_rfl) (Cl.start hB12) ?_
  haveI : Nonempty (Cl w [(w12.heap.size, [I 0, I 65535, I 0, I 65535]), (w11.heap.size + 1, [I 0, I 0, I 0, I 0]), (w11.heap.size, [I 0, I 0, I 0, I 0]), (w8.heap.size + 1, [I 6, I 0, I 6, I 6]), (w8.heap.size, [I 1, I 6, I 3, I 5]), (w3.heap.size, [I 0, I 14, I 4, I 10])]) := Cl.some hB12
  have hq0x0 : ∀ n : Cl w [(w12.heap.size, [I 0, I 65535, I 0, I 65535]), (w11.heap.size + 1, [I 0, I 0, I 0, I 0]), (w11.heap.size, [I 0, I 0, I 0, I 0]), (w8.heap.size + 1, [I 6, I 0, I 6, I 6]), (w8.heap.size, [I 1, I 6, I 3, I 5]), (w3.heap.size, [I 0, I 14, I 4, I 10])], n.val.cell? ⟨w12.heap.size, 0, none⟩ = some (I 0) := fun n => (n.kp.box.head.four).1
  have hq0x1 : ∀ n : Cl w [(w12.heap.size, [I 0, I 65535, I 0, I 65535]), (w11.heap.size + 1, [I 0, I 0, I 0, I 0]), (w11.heap.size, [I 0, I 0, I 0, I 0]), (w8.heap.size + 1, [I 6, I 0, I 6, I 6]), (w8.heap.size, [I 1, I 6, I 3, I 5]), (w3.heap.size, [I 0, I 14, I 4, I 10])], n.val.cell? ⟨w12.heap.size, 1, none⟩ = some (I 65535) := fun n => (n.kp.box.head.four).2.1
  have hq0x2 : ∀ n : Cl w [(w12.heap.size, [I 0, I 65535, I 0, I 65535]), (w11.heap.size + 1, [I 0, I 0, I 0, I 0]), (w11.heap.size, [I 0, I 0, I 0, I 0]), (w8.heap.size + 1, [I 6, I 0, I 6, I 6]), (w8.heap.size, [I 1, I 6, I 3, I 5]), (w3.heap.size, [I 0, I 14, I 4, I 10])], n.val.cell? ⟨w12.heap.size, 2, none⟩ = some (I 0) := fun n => (n.kp.box.head.four).2.2.1
  have hq0x3 : ∀ n : Cl w [(w12.heap.size, [I 0, I 65535, I 0, I 65535]), (w11.heap.size + 1, [I 0, I 0, I 0, I 0]), (w11.heap.size, [I 0, I 0, I 0, I 0]), (w8.heap.size + 1, [I 6, I 0, I 6, I 6]), (w8.heap.size, [I 1, I 6, I 3, I 5]), (w3.heap.size, [I 0, I 14, I 4, I 10])], n.val.cell? ⟨w12.heap.size, 3, none⟩ = some (I 65535) := fun n => (n.kp.box.head.four).2.2.2.1
  have hq3x0 : ∀ n : Cl w [(w12.heap.size, [I 0, I 65535, I 0, I 65535]), (w11.heap.size + 1, [I 0, I 0, I 0, I 0]), (w11.heap.size, [I 0, I 0, I 0, I 0]), (w8.heap.size + 1, [I 6, I 0, I 6, I 6]), (w8.heap.size, [I 1, I 6, I 3, I 5]), (w3.heap.size, [I 0, I 14, I 4, I 10])], n.val.cell? ⟨w8.heap.size + 1, 0, none⟩ = some (I 6) := fun n => (n.kp.box.tail.tail.tail.head.four).1
  have hq3x1 : ∀ n : Cl w [(w12.heap.size, [I 0, I 65535, I 0, I 65535]), (w11.heap.size + 1, [I 0, I 0, I 0, I 0]), (w11.heap.size, [I 0, I 0, I 0, I 0]), (w8.heap.size + 1, [I 6, I 0, I 6, I 6]), (w8.heap.size, [I 1, I 6, I 3, I 5]), (w3.heap.size, [I 0, I 14, I 4, I 10])], n.val.cell? ⟨w8.heap.size + 1, 1, none⟩ = some (I 0) := fun n => (n.kp.box.tail.tail.tail.head.four).2.1
  have hq3x2 : ∀ n : Cl w [(w12.heap.size, [I 0, I 65535, I 0, I 65535]), (w11.heap.size + 1, [I 0, I 0, I 0, I 0]), (w11.heap.size, [I 0, I 0, I 0, I 0]), (w8.heap.size + 1, [I 6, I 0, I 6, I 6]), (w8.heap.size, [I 1, I 6, I 3, I 5]), (w3.heap.size, [I 0, I 14, I 4, I 10])], n.val.cell? ⟨w8.heap.size + 1, 2, none⟩ = some (I 6) := fun n => (n.kp.box.tail.tail.tail.head.four).2.2.1
  have hq3x3 : ∀ n : Cl w [(w12.heap.size, [I 0, I 65535, I 0, I 65535]), (w11.heap.size + 1, [I 0, I 0, I 0, I 0]), (w11.heap.size, [I 0, I 0, I 0, I 0]), (w8.heap.size + 1, [I 6, I 0, I 6, I 6]), (w8.heap.size, [I 1, I 6, I 3, I 5]), (w3.heap.size, [I 0, I 14, I 4, I 10])], n.val.cell? ⟨w8.heap.size + 1, 3, none⟩ = some (I 6) := fun n => (n.kp.box.tail.tail.tail.head.four).2.2.2.1
  have hq4x0 : ∀ n : Cl w [(w12.heap.size, [I 0, I 65535, I 0, I 65535]), (w11.heap.size + 1, [I 0, I 0, I 0, I 0]), (w11.heap.size, [I 0, I 0, I 0, I 0]), (w8.heap.size + 1, [I 6, I 0, I 6, I 6]), (w8.heap.size, [I 1, I 6, I 3, I 5]), (w3.heap.size, [I 0, I 14, I 4, I 10])], n.val.cell? ⟨w8.heap.size, 0, none⟩ = some (I 1) := fun n => (n.kp.box.tail.tail.tail.tail.head.four).1
  have hq4x1 : ∀ n : Cl w [(w12.heap.size, [I 0, I 65535, I 0, I 65535]), (w11.heap.size + 1, [I 0, I 0, I 0, I 0]), (w11.heap.size, [I 0, I 0, I 0, I 0]), (w8.heap.size + 1, [I 6, I 0, I 6, I 6]), (w8.heap.size, [I 1, I 6, I 3, I 5]), (w3.heap.size, [I 0, I 14, I 4, I 10])], n.val.cell? ⟨w8.heap.size, 1, none⟩ = some (I 6) := fun n => (n.kp.box.tail.tail.tail.tail.head.four).2.1
  have hq4x2 : ∀ n : Cl w [(w12.heap.size, [I 0, I 65535, I 0, I 65535]), (w11.heap.size + 1, [I 0, I 0, I 0, I 0]), (w11.heap.size, [I 0, I 0, I 0, I 0]), (w8.heap.size + 1, [I 6, I 0, I 6, I 6]), (w8.heap.size, [I 1, I 6, I 3, I 5]), (w3.heap.size, [I 0, I 14, I 4, I 10])], n.val.cell? ⟨w8.heap.size, 2, none⟩ = some (I 3) := fun n => (n.kp.box.tail.tail.tail.tail.head.four).2.2.1
  have hq4x3 : ∀ n : Cl w [(w12.heap.size, [I 0, I 65535, I 0, I 65535]), (w11.heap.size + 1, [I 0, I 0, I 0, I 0]), (w11.heap.size, [I 0, I 0, I 0, I 0]), (w8.heap.size + 1, [I 6, I 0, I 6, I 6]), (w8.heap.size, [I 1, I 6, I 3, I 5]), (w3.heap.size, [I 0, I 14, I 4, I 10])], n.val.cell? ⟨w8.heap.size, 3, none⟩ = some (I 5) := fun n => (n.kp.box.tail.tail.tail.tail.head.four).2.2.2.1
  have hq5x0 : ∀ n : Cl w [(w12.heap.size, [I 0, I 65535, I 0, I 65535]), (w11.heap.size + 1, [I 0, I 0, I 0, I 0]), (w11.heap.size, [I 0, I 0, I 0, I 0]), (w8.heap.size + 1, [I 6, I 0, I 6, I 6]), (w8.heap.size, [I 1, I 6, I 3, I 5]), (w3.heap.size, [I 0, I 14, I 4, I 10])], n.val.cell? ⟨w3.heap.size, 0, none⟩ = some (I 0) := fun n => (n.kp.box.tail.tail.tail.tail.tail.head.four).1
  have hq5x1 : ∀ n : Cl w [(w12.heap.size, [I 0, I 65535, I 0, I 65535]), (w11.heap.size + 1, [I 0, I 0, I 0, I 0]), (w11.heap.size, [I 0, I 0, I 0, I 0]), (w8.heap.size + 1, [I 6, I 0, I 6, I 6]), (w8.heap.size, [I 1, I 6, I 3, I 5]), (w3.heap.size, [I 0, I 14, I 4, I 10])], n.val.cell? ⟨w3.heap.size, 1, none⟩ = some (I 14) := fun n => (n.kp.box.tail.tail.tail.tail.tail.head.four).2.1
  have hq5x2 : ∀ n : Cl w [(w12.heap.size, [I 0, I 65535, I 0, I 65535]), (w11.heap.size + 1, [I 0, I 0, I 0, I 0]), (w11.heap.size, [I 0, I 0, I 0, I 0]), (w8.heap.size + 1, [I 6, I 0, I 6, I 6]), (w8.heap.size, [I 1, I 6, I 3, I 5]), (w3.heap.size, [I 0, I 14, I 4, I 10])], n.val.cell? ⟨w3.heap.size, 2, none⟩ = some (I 4) := fun n => (n.kp.box.tail.tail.tail.tail.tail.head.four).2.2.1
  have hq5x3 : ∀ n : Cl w [(w12.heap.size, [I 0, I 65535, I 0, I 65535]), (w11.heap.size + 1, [I 0, I 0, I 0, I 0]), (w11.heap.size, [I 0, I 0, I 0, I 0]), (w8.heap.size + 1, [I 6, I 0, I 6, I 6]), (w8.heap.size, [I 1, I 6, I 3, I 5]), (w3.heap.size, [I 0, I 14, I 4, I 10])], n.val.cell? ⟨w3.heap.size, 3, none⟩ = some (I 10) := fun n => (n.kp.box.tail.tail.tail.tail.tail.head.four).2.2.2.1
  repeat (go_big_quiet_step (first | (go_at_call 40; exact Cl.of (co6 _))))
  refine wpQuiet_nil ?_
  rintro _ ⟨⟨wq, hq⟩, rfl⟩
  go_wp2_with fail
  go_ret
  exact ⟨rfl, hq.bel⟩

end Go.Proofs.Ytglollajdjgciaa
