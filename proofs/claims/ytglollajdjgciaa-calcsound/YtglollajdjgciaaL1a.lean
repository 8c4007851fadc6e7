/- bitsBegun: what must be in any case. -/
import Derived.Test.YtglollajdjgciaaW6
import Derived.Test.YtglollajdjgciaaW9
import Derived.Test.YtglollajdjgciaaBox
import Derived.Laws.StructEq
namespace Go.Proofs.Ytglollajdjgciaa
open Go.RowKit
attribute [local go_sem] w_and w_or w_xor w_andNot w_and1 w_and63 w_add w_sub w_mul w_sub1 w_add1 w_shl w_shl1 w_shr c_beq c_bne c_beq0 c_bne0 c_beq1 c_bne1 wrap_nv

abbrev I (n : Int) : Value := .int .u64 n
theorem bb1 : twoP 2 1#64 4#64 3#64 0#64 = (0#64, 12#64) := by decide
theorem bb2 : bandn 5#64 (jM 5#64 0#64 6#64 0#64) = 4#64 ∧ jM 5#64 0#64 6#64 0#64 = 3#64 := by decide
theorem bb3 : bor 4#64 1#64 = 5#64 ∧ band 3#64 6#64 = 2#64 := by decide
theorem bb4 : bandn 4#64 (sM 4#64 6#64) = 4#64 ∧ sM 4#64 6#64 = 3#64 := by decide
theorem bb5 : bshr 9#64 2 = 2#64 ∧ bshr 4#64 2 = 1#64 := by decide
theorem bc1 (w : World) : Calls Try.prog 28 #[N 2, .agg #[I 1, I 4], .agg #[I 3, I 0]] w fun e w' => e = .returned (.tuple #[.agg #[I 0, I 12], N 0]) ∧ Below w.heap.size w w' := by
  have h := two_ok (op := 2) (av := 1#64) (am := 4#64) (bv := 3#64) (bm := 0#64) (show _ = true by decide) (by decide) w
  rw [bb1] at h; exact h
theorem bc2 (w : World) : Calls Try.prog 13 #[.agg #[I 5, I 0], .agg #[I 6, I 0]] w fun e w' => e = .returned (.tuple #[.agg #[I 4, I 3], N 0]) ∧ Below w.heap.size w w' := by
  have h := join_ok (av := 5#64) (am := 0#64) (bv := 6#64) (bm := 0#64) (show _ = true by decide) w
  rw [bb2.1, bb2.2] at h; exact h
theorem bc3 (w : World) : Calls Try.prog 14 #[.agg #[I 4, I 3], .agg #[I 1, I 6]] w fun e w' => e = .returned (.tuple #[.agg #[I 5, I 2], .bool true, N 0]) ∧ Below w.heap.size w w' := by
  have h := meet_ok (av := 4#64) (am := 3#64) (bv := 1#64) (bm := 6#64) (show _ = true by decide) (by decide) w
  rw [bb3.1, bb3.2] at h; exact h
theorem bc4 (w : World) : Calls Try.prog 16 #[I 4, I 6] w fun e w' => e = .returned (.tuple #[.agg #[I 4, I 3], N 0]) ∧ Below w.heap.size w w' := by
  have h := span_ok (l := 4#64) (h := 6#64) (by decide) w
  rw [bb4.1, bb4.2] at h; exact h
theorem bc5 (w : World) : Calls Try.prog 15 #[N 9, .agg #[I 9, I 4], N 2] w fun e w' => e = .returned (.tuple #[.agg #[I 2, I 1], N 0]) ∧ Below w.heap.size w w' := by
  have h := shift_down (n := 2) (v := 9#64) (m := 4#64) (show _ = true by decide) (by decide) w
  rw [bb5.1, bb5.2] at h; exact h
theorem bc6 (w : World) : Calls Try.prog 24 #[.agg #[I 4, I 3], I 7] w fun e w' => e = .returned (.bool true) ∧ Below w.heap.size w w' := by
  have h := has_any 4#64 3#64 7#64 w
  rw [show hasB 4#64 3#64 7#64 = true from by decide] at h; exact h
theorem bc7 (w : World) : Calls Try.prog 26 #[.agg #[I 5, I 2], .agg #[I 4, I 3]] w fun e w' => e = .returned (.bool true) ∧ Below w.heap.size w w' := by
  have h := inside_any 5#64 2#64 4#64 3#64 w
  rw [show insB 5#64 2#64 4#64 3#64 = true from by decide] at h; exact h
theorem bc8 (w : World) : Calls Try.prog 23 #[.agg #[I 1, I 1]] w fun e w' => e = .returned (N 1) ∧ Below w.heap.size w w' := by
  exact check_any (v := 1#64) (m := 1#64) (r := false) (show _ = _ by decide) w

set_option maxHeartbeats 1000000 in
theorem bitsBegun_any (w : World) : Calls Try.prog 22 #[] w fun e w' => e = .returned (.bool true) ∧ Below w.heap.size w w' := by
  go_enter Try.func22, Try.ntmps22
  go_wp2_with fail
  refine (bc1 _).mono ?_
  rintro e w1 ⟨rfl, hb1⟩
  go_wp2_with fail
  refine (bc2 _).mono ?_
  rintro e w2 ⟨rfl, hb2⟩
  have hB2 := (((Kp.start w).keep hb1).add2 _ _ _).keep hb2
  obtain ⟨a0, a1, a2, a3, a4⟩ := hB2.box.head.two
  go_wp2_with fail
  refine (bc3 _).mono ?_
  rintro e w3 ⟨rfl, hb3⟩
  have hB3 := (hB2.add2 _ _ _).keep hb3
  clear a0 a1 a2 a3 a4
  obtain ⟨b0, b1, b2, b3, b4⟩ := hB3.box.head.two
  obtain ⟨a0, a1, a2, a3, a4⟩ := hB3.box.tail.head.two
  go_wp2_with fail
  refine (bc4 _).mono ?_
  rintro e w4 ⟨rfl, hb4⟩
  have hB4 := (hB3.add2 _ _ _).keep hb4
  clear b0 b1 b2 b3 b4 a0 a1 a2 a3 a4
  obtain ⟨c0, c1, c2, c3, c4⟩ := hB4.box.head.two
  obtain ⟨b0, b1, b2, b3, b4⟩ := hB4.box.tail.head.two
  obtain ⟨a0, a1, a2, a3, a4⟩ := hB4.box.tail.tail.head.two
  go_wp2_with fail
  refine (bc5 _).mono ?_
  rintro e w5 ⟨rfl, hb5⟩
  have hB5 := (hB4.add2 _ _ _).keep hb5
  clear c0 c1 c2 c3 c4 b0 b1 b2 b3 b4 a0 a1 a2 a3 a4
  obtain ⟨d0, d1, d2, d3, d4⟩ := hB5.box.head.two
  obtain ⟨c0, c1, c2, c3, c4⟩ := hB5.box.tail.head.two
  obtain ⟨b0, b1, b2, b3, b4⟩ := hB5.box.tail.tail.head.two
  obtain ⟨a0, a1, a2, a3, a4⟩ := hB5.box.tail.tail.tail.head.two
  go_wp2_with fail
  refine (bc6 _).mono ?_
  rintro e w6 ⟨rfl, hb6⟩
  have hB6 := (hB5.add2 _ _ _).keep hb6
  clear d0 d1 d2 d3 d4 c0 c1 c2 c3 c4 b0 b1 b2 b3 b4 a0 a1 a2 a3 a4
  obtain ⟨x0, x1, x2, x3, x4⟩ := hB6.box.head.two
  obtain ⟨d0, d1, d2, d3, d4⟩ := hB6.box.tail.head.two
  obtain ⟨c0, c1, c2, c3, c4⟩ := hB6.box.tail.tail.head.two
  obtain ⟨b0, b1, b2, b3, b4⟩ := hB6.box.tail.tail.tail.head.two
  obtain ⟨a0, a1, a2, a3, a4⟩ := hB6.box.tail.tail.tail.tail.head.two
  go_wp2_with fail
  refine (bc7 _).mono ?_
  rintro e w7 ⟨rfl, hb7⟩
  have hB7 := hB6.keep hb7
  clear x0 x1 x2 x3 x4 d0 d1 d2 d3 d4 c0 c1 c2 c3 c4 b0 b1 b2 b3 b4 a0 a1 a2 a3 a4
  go_wp2_with fail
  refine (bc8 _).mono ?_
  rintro e w8 ⟨rfl, hb8⟩
  go_wp2_with fail
  go_ret
  exact ⟨rfl, (hB7.keep hb8).bel⟩
end Go.Proofs.Ytglollajdjgciaa
