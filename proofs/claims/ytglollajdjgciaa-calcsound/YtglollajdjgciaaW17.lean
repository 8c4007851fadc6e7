/- The contract of package val's Join. -/
import Derived.Test.YtglollajdjgciaaW16
import Derived.Test.YtglollajdjgciaaM10
namespace Go.Proofs.Ytglollajdjgciaa
open Go.RowKit
attribute [local go_sem] w_and w_or w_xor w_andNot w_and1 w_and63 w_add w_sub w_mul w_sub1 w_add1 w_shl w_shl1 w_shr c_beq c_bne c_beq0 c_bne0 c_beq1 c_bne1 wrap_nv

set_option maxHeartbeats 1000000 in
theorem valJoin_no {v m l h v' m' l' h' : BitVec 64} (hr : Hid ((valB v m l h && valB v' m' l' h') = false)) (w : World) :
    Calls Try.prog 32 #[Vl v m l h, Vl v' m' l' h'] w fun e w' => e = .returned (.tuple #[V0, N 1]) ∧ Below w.heap.size w w' := by
  obtain ⟨z1, H1⟩ : ∃ b, Hid (valB v m l h = b) := ⟨_, rfl⟩
  obtain ⟨z2, H2⟩ : ∃ b, Hid (valB v' m' l' h' = b) := ⟨_, rfl⟩
  rw [H1.out, H2.out] at hr
  go_enter Try.func32, Try.ntmps32
  go_wp2_with fail
  refine (checkV H1.out _).mono ?_
  rintro e w1 ⟨rfl, hb1⟩
  have hK := ((((Kp.start w).add4 _ _ _ _ _).add4 _ _ _ _ _).add4 _ _ _ _ _).keep hb1
  simp only [World.size_alloc] at hK
  obtain ⟨r0, r1, r2, r3, r4, r5, r6, r7, r8⟩ := hK.box.head.four
  obtain ⟨b0, b1, b2, b3, b4, b5, b6, b7, b8⟩ := hK.box.tail.head.four
  obtain ⟨a0, a1, a2, a3, a4, a5, a6, a7, a8⟩ := hK.box.tail.tail.head.four
  cases z1
  · rw [er_f]
    go_wp2_with fail
    exact bodyPost_ret (v := .tuple #[V0, N 1]) (by simp [results, Try.results32, go_sem, nv_zero, r0, r1, r2, r3]) rfl ⟨rfl, (hK.set4 0 rfl).bel⟩
  · obtain rfl : z2 = false := hr.out
    rw [er_t]
    go_wp2_with fail
    refine (checkV H2.out _).mono ?_
    rintro e w2 ⟨rfl, hb2⟩
    have hK2 := hK.keep hb2
    clear r0 r1 r2 r3 r4 r5 r6 r7 r8 b0 b1 b2 b3 b4 b5 b6 b7 b8 a0 a1 a2 a3 a4 a5 a6 a7 a8
    obtain ⟨r0, r1, r2, r3, r4, r5, r6, r7, r8⟩ := hK2.box.head.four
    obtain ⟨b0, b1, b2, b3, b4, b5, b6, b7, b8⟩ := hK2.box.tail.head.four
    obtain ⟨a0, a1, a2, a3, a4, a5, a6, a7, a8⟩ := hK2.box.tail.tail.head.four
    rw [er_f]
    go_wp2_with fail
    exact bodyPost_ret (v := .tuple #[V0, N 1]) (by simp [results, Try.results32, go_sem, nv_zero, r0, r1, r2, r3]) rfl ⟨rfl, (hK2.set4 0 rfl).bel⟩
set_option maxHeartbeats 2000000 in
theorem valJoin_yes {v m l h v' m' l' h' : BitVec 64} (hr : Hid ((valB v m l h && valB v' m' l' h') = true)) (w : World) :
    Calls Try.prog 32 #[Vl v m l h, Vl v' m' l' h'] w fun e w' => e = .returned (.tuple #[Vl (nV (jV v m v' m') (jM v m v' m') (bmin l l') (bmax h h')) (nM (jM v m v' m') (nLo (jV v m v' m') (jM v m v' m') (bmin l l')) (nHi (jV v m v' m') (jM v m v' m') (bmax h h'))) (nLo (jV v m v' m') (jM v m v' m') (bmin l l')) (nHi (jV v m v' m') (jM v m v' m') (bmax h h')), N 0]) ∧ Below w.heap.size w w' := by
  have hr' := hr.out
  rw [Bool.and_eq_true] at hr'
  have H1 : Hid (valB v m l h = true) := hr'.1
  have H2 : Hid (valB v' m' l' h' = true) := hr'.2
  have hf := join_facts hr'.1 hr'.2
  have ha := (val_facts hr'.1).1
  have hb := (val_facts hr'.2).1
  have HJ : Hid (∀ w, Calls Try.prog 13 #[Bt v m, Bt v' m'] w fun e w' => e = .returned (.tuple #[Bt (jV v m v' m') (jM v m v' m'), N 0]) ∧ Below w.heap.size w w') := fun w => join_ok (both_right ha hb) w
  have HN : Hid (∀ w, Calls Try.prog 31 #[Vl (jV v m v' m') (jM v m v' m') (bmin l l') (bmax h h')] w fun e w' => e = .returned (.tuple #[Vl (nV (jV v m v' m') (jM v m v' m') (bmin l l') (bmax h h')) (nM (jM v m v' m') (nLo (jV v m v' m') (jM v m v' m') (bmin l l')) (nHi (jV v m v' m') (jM v m v' m') (bmax h h'))) (nLo (jV v m v' m') (jM v m v' m') (bmin l l')) (nHi (jV v m v' m') (jM v m v' m') (bmax h h')), .bool true, N 0]) ∧ Below w.heap.size w w') := fun w =>
    norm_yes ((rt_iff _ _).2 (join_rt v m v' m')) hf.1 w
  clear hf ha hb hr hr'
  generalize nV (jV v m v' m') (jM v m v' m') (bmin l l') (bmax h h') = rv at HN ⊢
  generalize nM (jM v m v' m') (nLo (jV v m v' m') (jM v m v' m') (bmin l l')) (nHi (jV v m v' m') (jM v m v' m') (bmax h h')) = rm at HN ⊢
  generalize nLo (jV v m v' m') (jM v m v' m') (bmin l l') = lo at HN ⊢
  generalize nHi (jV v m v' m') (jM v m v' m') (bmax h h') = hi at HN ⊢
  generalize jV v m v' m' = jv at HN HJ
  generalize jM v m v' m' = jm at HN HJ
  go_enter Try.func32, Try.ntmps32
  go_wp2_with fail
  refine (checkV H1.out _).mono ?_
  rintro e w1 ⟨rfl, hb1⟩
  have hK := ((((Kp.start w).add4 _ _ _ _ _).add4 _ _ _ _ _).add4 _ _ _ _ _).keep hb1
  simp only [World.size_alloc] at hK
  obtain ⟨r0, r1, r2, r3, r4, r5, r6, r7, r8⟩ := hK.box.head.four
  obtain ⟨b0, b1, b2, b3, b4, b5, b6, b7, b8⟩ := hK.box.tail.head.four
  obtain ⟨a0, a1, a2, a3, a4, a5, a6, a7, a8⟩ := hK.box.tail.tail.head.four
  rw [er_t]
  go_wp2_with fail
  refine (checkV H2.out _).mono ?_
  rintro e w2 ⟨rfl, hb2⟩
  have hK2 := hK.keep hb2
  clear r0 r1 r2 r3 r4 r5 r6 r7 r8 b0 b1 b2 b3 b4 b5 b6 b7 b8 a0 a1 a2 a3 a4 a5 a6 a7 a8
  obtain ⟨r0, r1, r2, r3, r4, r5, r6, r7, r8⟩ := hK2.box.head.four
  obtain ⟨b0, b1, b2, b3, b4, b5, b6, b7, b8⟩ := hK2.box.tail.head.four
  obtain ⟨a0, a1, a2, a3, a4, a5, a6, a7, a8⟩ := hK2.box.tail.tail.head.four
  rw [er_t]
  go_wp2_with fail
  refine (HJ.out _).mono ?_
  rintro e w3 ⟨rfl, hb3⟩
  have hK3 := hK2.keep hb3
  clear r0 r1 r2 r3 r4 r5 r6 r7 r8 b0 b1 b2 b3 b4 b5 b6 b7 b8 a0 a1 a2 a3 a4 a5 a6 a7 a8
  obtain ⟨r0, r1, r2, r3, r4, r5, r6, r7, r8⟩ := hK3.box.head.four
  obtain ⟨b0, b1, b2, b3, b4, b5, b6, b7, b8⟩ := hK3.box.tail.head.four
  obtain ⟨a0, a1, a2, a3, a4, a5, a6, a7, a8⟩ := hK3.box.tail.tail.head.four
  by_cases h1 : nv l' < nv l <;> by_cases h2 : nv h < nv h'
  · have e1 : bmin l l' = l' := if_pos h1
    have e2 : bmax h h' = h' := if_pos h2
    rw [e1, e2] at HN
    clear e1 e2
    go_wp2_with fail
    refine (HN.out _).mono ?_
    rintro e w4 ⟨rfl, hb4⟩
    have hK4 := (hK3.add2 _ _ _).keep hb4
    clear r0 r1 r2 r3 r4 r5 r6 r7 r8 b0 b1 b2 b3 b4 b5 b6 b7 b8 a0 a1 a2 a3 a4 a5 a6 a7 a8
    obtain ⟨j0, j1, j2, j3, j4⟩ := hK4.box.head.two
    obtain ⟨r0, r1, r2, r3, r4, r5, r6, r7, r8⟩ := hK4.box.tail.head.four
    obtain ⟨b0, b1, b2, b3, b4, b5, b6, b7, b8⟩ := hK4.box.tail.tail.head.four
    obtain ⟨a0, a1, a2, a3, a4, a5, a6, a7, a8⟩ := hK4.box.tail.tail.tail.head.four
    go_wp2_with fail
    exact bodyPost_ret (v := .tuple #[Vl rv rm lo hi, N 0]) (by simp [results, Try.results32, go_sem, r0, r1, r2, r3, r8]) rfl ⟨rfl, ((hK4.set4 1 rfl).add4 _ _ _ _ _).bel⟩
  · have e1 : bmin l l' = l' := if_pos h1
    have e2 : bmax h h' = h := if_neg h2
    rw [e1, e2] at HN
    clear e1 e2
    have h2' : nv h' ≤ nv h := by omega
    clear h2
    go_wp2_with fail
    refine (HN.out _).mono ?_
    rintro e w4 ⟨rfl, hb4⟩
    have hK4 := (hK3.add2 _ _ _).keep hb4
    clear r0 r1 r2 r3 r4 r5 r6 r7 r8 b0 b1 b2 b3 b4 b5 b6 b7 b8 a0 a1 a2 a3 a4 a5 a6 a7 a8
    obtain ⟨j0, j1, j2, j3, j4⟩ := hK4.box.head.two
    obtain ⟨r0, r1, r2, r3, r4, r5, r6, r7, r8⟩ := hK4.box.tail.head.four
    obtain ⟨b0, b1, b2, b3, b4, b5, b6, b7, b8⟩ := hK4.box.tail.tail.head.four
    obtain ⟨a0, a1, a2, a3, a4, a5, a6, a7, a8⟩ := hK4.box.tail.tail.tail.head.four
    go_wp2_with fail
    exact bodyPost_ret (v := .tuple #[Vl rv rm lo hi, N 0]) (by simp [results, Try.results32, go_sem, r0, r1, r2, r3, r8]) rfl ⟨rfl, ((hK4.set4 1 rfl).add4 _ _ _ _ _).bel⟩
  · have e1 : bmin l l' = l := if_neg h1
    have e2 : bmax h h' = h' := if_pos h2
    rw [e1, e2] at HN
    clear e1 e2
    have h1' : nv l ≤ nv l' := by omega
    clear h1
    go_wp2_with fail
    refine (HN.out _).mono ?_
    rintro e w4 ⟨rfl, hb4⟩
    have hK4 := (hK3.add2 _ _ _).keep hb4
    clear r0 r1 r2 r3 r4 r5 r6 r7 r8 b0 b1 b2 b3 b4 b5 b6 b7 b8 a0 a1 a2 a3 a4 a5 a6 a7 a8
    obtain ⟨j0, j1, j2, j3, j4⟩ := hK4.box.head.two
    obtain ⟨r0, r1, r2, r3, r4, r5, r6, r7, r8⟩ := hK4.box.tail.head.four
    obtain ⟨b0, b1, b2, b3, b4, b5, b6, b7, b8⟩ := hK4.box.tail.tail.head.four
    obtain ⟨a0, a1, a2, a3, a4, a5, a6, a7, a8⟩ := hK4.box.tail.tail.tail.head.four
    go_wp2_with fail
    exact bodyPost_ret (v := .tuple #[Vl rv rm lo hi, N 0]) (by simp [results, Try.results32, go_sem, r0, r1, r2, r3, r8]) rfl ⟨rfl, ((hK4.set4 1 rfl).add4 _ _ _ _ _).bel⟩
  · have e1 : bmin l l' = l := if_neg h1
    have e2 : bmax h h' = h := if_neg h2
    rw [e1, e2] at HN
    clear e1 e2
    have h1' : nv l ≤ nv l' := by omega
    clear h1
    have h2' : nv h' ≤ nv h := by omega
    clear h2
    go_wp2_with fail
    refine (HN.out _).mono ?_
    rintro e w4 ⟨rfl, hb4⟩
    have hK4 := (hK3.add2 _ _ _).keep hb4
    clear r0 r1 r2 r3 r4 r5 r6 r7 r8 b0 b1 b2 b3 b4 b5 b6 b7 b8 a0 a1 a2 a3 a4 a5 a6 a7 a8
    obtain ⟨j0, j1, j2, j3, j4⟩ := hK4.box.head.two
    obtain ⟨r0, r1, r2, r3, r4, r5, r6, r7, r8⟩ := hK4.box.tail.head.four
    obtain ⟨b0, b1, b2, b3, b4, b5, b6, b7, b8⟩ := hK4.box.tail.tail.head.four
    obtain ⟨a0, a1, a2, a3, a4, a5, a6, a7, a8⟩ := hK4.box.tail.tail.tail.head.four
    go_wp2_with fail
    exact bodyPost_ret (v := .tuple #[Vl rv rm lo hi, N 0]) (by simp [results, Try.results32, go_sem, r0, r1, r2, r3, r8]) rfl ⟨rfl, ((hK4.set4 1 rfl).add4 _ _ _ _ _).bel⟩

end Go.Proofs.Ytglollajdjgciaa
