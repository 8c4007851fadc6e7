/- valBegun: what must be in any case. -/
import Derived.Test.YtglollajdjgciaaW17
import Derived.Test.YtglollajdjgciaaL1a
import Derived.Test.YtglollajdjgciaaCls
import Derived.Deep.RegionWith
namespace Go.Proofs.Ytglollajdjgciaa
open Go.RowKit Go.BigFrame
attribute [local go_sem] w_and w_or w_xor w_andNot w_and1 w_and63 w_add w_sub w_mul w_sub1 w_add1 w_shl w_shl1 w_shr c_beq c_bne c_beq0 c_bne0 c_beq1 c_bne1 wrap_nv

abbrev J4 (a b c d : Int) : Value := .agg #[I a, I b, I c, I d]
theorem vb1 : normOk 1#64 18446744073709551614#64 2#64 10#64 = true := by decide +kernel
theorem vb2 : nLo 1#64 18446744073709551614#64 2#64 = 3#64 ∧ nHi 1#64 18446744073709551614#64 10#64 = 9#64 := by decide +kernel
theorem vb3 : nV 1#64 18446744073709551614#64 2#64 10#64 = 1#64 ∧ nM 18446744073709551614#64 3#64 9#64 = 14#64 := by decide +kernel
theorem vb4 : normOk 8#64 0#64 1#64 7#64 = false := by decide +kernel
theorem vb5 : (valB 4#64 0#64 4#64 4#64 && valB 1#64 14#64 3#64 9#64) = true := by decide +kernel
theorem vb6 : jV 4#64 0#64 1#64 14#64 = 0#64 ∧ jM 4#64 0#64 1#64 14#64 = 15#64 ∧ bmin 4#64 3#64 = 3#64 ∧ bmax 4#64 9#64 = 9#64 := by decide +kernel
theorem vb7 : nLo 0#64 15#64 3#64 = 3#64 ∧ nHi 0#64 15#64 9#64 = 9#64 ∧ nV 0#64 15#64 3#64 9#64 = 0#64 ∧ nM 15#64 3#64 9#64 = 15#64 := by decide +kernel
theorem vc1 (w : World) : Calls Try.prog 31 #[J4 1 18446744073709551614 2 10] w fun e w' => e = .returned (.tuple #[J4 1 14 3 9, .bool true, N 0]) ∧ Below w.heap.size w w' := by
  have h := norm_yes (v := 1#64) (m := 18446744073709551614#64) (l := 2#64) (h := 10#64) (show _ = true by decide) vb1 w
  rw [vb2.1, vb2.2, vb3.1, vb3.2] at h; exact h
theorem vc2 (w : World) : Calls Try.prog 31 #[J4 8 0 1 7] w fun e w' => e = .returned (.tuple #[J4 0 0 0 0, .bool false, N 0]) ∧ Below w.heap.size w w' := by
  exact norm_none (v := 8#64) (m := 0#64) (l := 1#64) (h := 7#64) (show _ = true by decide) vb4 w
theorem vc3 (w : World) : Calls Try.prog 40 #[I 4] w fun e w' => e = .returned (J4 4 0 4 4) ∧ Below w.heap.size w w' := valOf_any 4#64 w
set_option maxHeartbeats 400000 in
theorem odd_any (w : World) : Calls Try.prog 86 #[] w fun e w' => e = .returned (J4 1 14 3 9) ∧ Below w.heap.size w w' := by
  go_enter Try.func86, Try.ntmps86
  go_wp2_with fail
  exact bodyPost_ret (v := J4 1 14 3 9) (by simp [results, Try.results86, go_sem]) rfl ⟨rfl, (by repeat (first | exact Below.refl _ _ | assumption | refine below_drewN ?_ _ | refine Below.drew ?_ | refine Below.alloc ?_ (by first | exact Nat.le_refl _ | (simp; done) | (simp; omega) | omega) _ | refine Below.setCell ?_ (by first | exact Nat.le_refl _ | (simp; done) | (simp; omega) | omega) _ | refine Below.trans ?_ (Below.mono (by assumption) (by first | exact Nat.le_refl _ | (simp; done) | (simp; omega) | omega))))⟩
theorem vc5 (w : World) : Calls Try.prog 32 #[J4 4 0 4 4, J4 1 14 3 9] w fun e w' => e = .returned (.tuple #[J4 0 15 3 9, N 0]) ∧ Below w.heap.size w w' := by
  have h := valJoin_yes (v := 4#64) (m := 0#64) (l := 4#64) (h := 4#64) (v' := 1#64) (m' := 14#64) (l' := 3#64) (h' := 9#64) vb5 w
  rw [vb6.1, vb6.2.1, vb6.2.2.1, vb6.2.2.2, vb7.1, vb7.2.1, vb7.2.2.1, vb7.2.2.2] at h; exact h
theorem vc6 (w : World) : Calls Try.prog 38 #[J4 1 14 3 9, I 5] w fun e w' => e = .returned (.bool true) ∧ Below w.heap.size w w' := by
  have h := valHas_any 1#64 14#64 3#64 9#64 5#64 w
  rw [show hasV 1#64 14#64 3#64 9#64 5#64 = true by decide +kernel] at h; exact h
theorem vc7 (w : World) : Calls Try.prog 38 #[J4 1 14 3 9, I 4] w fun e w' => e = .returned (.bool false) ∧ Below w.heap.size w w' := by
  have h := valHas_any 1#64 14#64 3#64 9#64 4#64 w
  rw [show hasV 1#64 14#64 3#64 9#64 4#64 = false by decide +kernel] at h; exact h
theorem vc8 (w : World) : Calls Try.prog 38 #[J4 1 14 3 9, I 11] w fun e w' => e = .returned (.bool false) ∧ Below w.heap.size w w' := by
  have h := valHas_any 1#64 14#64 3#64 9#64 11#64 w
  rw [show hasV 1#64 14#64 3#64 9#64 11#64 = false by decide +kernel] at h; exact h
theorem vc9 (w : World) : Calls Try.prog 42 #[] w fun e w' => e = .returned (J4 0 18446744073709551615 0 18446744073709551615) ∧ Below w.heap.size w w' := by
  have h := valAny_any w
  exact h
theorem vc10 (w : World) : Calls Try.prog 44 #[J4 1 14 3 9, J4 0 18446744073709551615 0 18446744073709551615] w fun e w' => e = .returned (.bool true) ∧ Below w.heap.size w w' := by
  have h := valInside_any 1#64 14#64 3#64 9#64 zero top zero top w
  rw [show insV 1#64 14#64 3#64 9#64 zero top zero top = true by decide +kernel] at h; exact h
theorem vc11 (w : World) : Calls Try.prog 37 #[J4 0 0 1 0] w fun e w' => e = .returned (N 1) ∧ Below w.heap.size w w' := by
  have h := valCheck_any 0#64 0#64 1#64 0#64 w
  rw [show valB 0#64 0#64 1#64 0#64 = false by decide +kernel] at h; exact h

set_option maxRecDepth 100000 in
set_option maxHeartbeats 4000000 in
theorem valBegun_any (w : World) : Calls Try.prog 36 #[] w fun e w' => e = .returned (.bool true) ∧ Below w.heap.size w w' := by
  go_enter Try.func36, Try.ntmps36
  go_wp2_with fail
  refine (vc1 _).mono ?_
  rintro e w1 ⟨rfl, hb1⟩
  go_wp2_with fail
  refine (vc2 _).mono ?_
  rintro e w2 ⟨rfl, hb2⟩
  have hB2 := (((Kp.start w).keep hb1).add4 _ _ _ _ _).keep hb2
  go_wp2_with fail
  refine (vc3 _).mono ?_
  rintro e w3 ⟨rfl, hb3⟩
  have hB3 := (hB2.add4 _ _ _ _ _).keep hb3
  go_wp2_with fail
  refine (odd_any _).mono ?_
  rintro e w4 ⟨rfl, hb4⟩
  have hB4 := hB3.keep hb4
  go_wp2_with fail
  refine (vc5 _).mono ?_
  rintro e w5 ⟨rfl, hb5⟩
  have hB5 := hB4.keep hb5
  have hB6 := hB5.add4 (I 0) (I 15) (I 3) (I 9) 49
  go_upto_region 4 with fail
  clear hb1 hb2 hb3 hb4 hb5 hB2 hB3 hB4 hB5
  refine region_class (fun w' => ∃ n : Cl w [(w5.heap.size, [I 0, I 15, I 3, I 9]), (w2.heap.size, [I 0, I 0, I 0, I 0]), (w1.heap.size, [I 1, I 14, I 3, I 9])], w' = n.val) (by kernel_rfl) (by kernel_rfl) (Cl.start hB6) ?_
  haveI : Nonempty (Cl w [(w5.heap.size, [I 0, I 15, I 3, I 9]), (w2.heap.size, [I 0, I 0, I 0, I 0]), (w1.heap.size, [I 1, I 14, I 3, I 9])]) := Cl.some hB6
  have hq0x0 : ∀ n : Cl w [(w5.heap.size, [I 0, I 15, I 3, I 9]), (w2.heap.size, [I 0, I 0, I 0, I 0]), (w1.heap.size, [I 1, I 14, I 3, I 9])], n.val.cell? ⟨w5.heap.size, 0, none⟩ = some (I 0) := fun n => (n.kp.box.head.four).1
  have hq0x1 : ∀ n : Cl w [(w5.heap.size, [I 0, I 15, I 3, I 9]), (w2.heap.size, [I 0, I 0, I 0, I 0]), (w1.heap.size, [I 1, I 14, I 3, I 9])], n.val.cell? ⟨w5.heap.size, 1, none⟩ = some (I 15) := fun n => (n.kp.box.head.four).2.1
  have hq0x2 : ∀ n : Cl w [(w5.heap.size, [I 0, I 15, I 3, I 9]), (w2.heap.size, [I 0, I 0, I 0, I 0]), (w1.heap.size, [I 1, I 14, I 3, I 9])], n.val.cell? ⟨w5.heap.size, 2, none⟩ = some (I 3) := fun n => (n.kp.box.head.four).2.2.1
  have hq0x3 : ∀ n : Cl w [(w5.heap.size, [I 0, I 15, I 3, I 9]), (w2.heap.size, [I 0, I 0, I 0, I 0]), (w1.heap.size, [I 1, I 14, I 3, I 9])], n.val.cell? ⟨w5.heap.size, 3, none⟩ = some (I 9) := fun n => (n.kp.box.head.four).2.2.2.1
  have hq2x0 : ∀ n : Cl w [(w5.heap.size, [I 0, I 15, I 3, I 9]), (w2.heap.size, [I 0, I 0, I 0, I 0]), (w1.heap.size, [I 1, I 14, I 3, I 9])], n.val.cell? ⟨w1.heap.size, 0, none⟩ = some (I 1) := fun n => (n.kp.box.tail.tail.head.four).1
  have hq2x1 : ∀ n : Cl w [(w5.heap.size, [I 0, I 15, I 3, I 9]), (w2.heap.size, [I 0, I 0, I 0, I 0]), (w1.heap.size, [I 1, I 14, I 3, I 9])], n.val.cell? ⟨w1.heap.size, 1, none⟩ = some (I 14) := fun n => (n.kp.box.tail.tail.head.four).2.1
  have hq2x2 : ∀ n : Cl w [(w5.heap.size, [I 0, I 15, I 3, I 9]), (w2.heap.size, [I 0, I 0, I 0, I 0]), (w1.heap.size, [I 1, I 14, I 3, I 9])], n.val.cell? ⟨w1.heap.size, 2, none⟩ = some (I 3) := fun n => (n.kp.box.tail.tail.head.four).2.2.1
  have hq2x3 : ∀ n : Cl w [(w5.heap.size, [I 0, I 15, I 3, I 9]), (w2.heap.size, [I 0, I 0, I 0, I 0]), (w1.heap.size, [I 1, I 14, I 3, I 9])], n.val.cell? ⟨w1.heap.size, 3, none⟩ = some (I 9) := fun n => (n.kp.box.tail.tail.head.four).2.2.2.1
  repeat (go_big_quiet_step (first | (go_at_call 86; exact Cl.of (odd_any _)) | (go_at_call_of 38 ((5 : Int)); exact Cl.of (vc6 _)) | (go_at_call_of 38 ((4 : Int)); exact Cl.of (vc7 _)) | (go_at_call_of 38 ((11 : Int)); exact Cl.of (vc8 _)) | (go_at_call 42; exact Cl.of (vc9 _)) | (go_at_call 44; exact Cl.of (vc10 _)) | (go_at_call 37; exact Cl.of (vc11 _))))
  refine wpQuiet_nil ?_
  rintro _ ⟨⟨wq, hq⟩, rfl⟩
  go_wp2_with fail
  go_ret
  exact ⟨rfl, hq.bel⟩
end Go.Proofs.Ytglollajdjgciaa
