import Derived.Test.YtkigmocchaikgaaCa3
import Derived.Test.YtkigmocchaikgaaCa1
import Derived.Test.YtkigmocchaikgaaCa2
import Derived.Test.YtkigmocchaikgaaProg
import Derived.BigRegion
import Derived.Deep.CutBlock
import Derived.Deep.DeepCutAuto
import Derived.Deep.RegionHeld3
/- The contracts of package val's Inside and Join, and of the reference's InsideVal. -/
namespace Go.Proofs.Ytkigmocchaikgaa
open Go.RowKit
attribute [local go_sem] w_and w_or w_xor w_andNot w_and1 w_and63 w_add w_sub w_mul w_sub1 w_add1 w_shl w_shl1 w_shr c_beq c_bne c_beq0 c_bne0 c_beq1 c_bne1 wrap_nv

theorem insideBits_any (av am bv bm : BitVec 64) (w : World) :
    Calls Try.prog 27 #[Bt av am, Bt bv bm] w fun e w' => e = .returned (.bool (insB av am bv bm)) ∧ Below w.heap.size w w' := by
  cases hr : (eqb (band av am) zero && eqb (band bv bm) zero)
  · have e : insB av am bv bm = false := by unfold insB; rw [hr]; rfl
    rw [e]; exact insideBits_wrong av am bv bm hr w
  · have hi := inside_eq hr
    rw [Bool.and_eq_true] at hr
    rcases first_no (insOk av am bv bm) 64 with h | ⟨j, hj, hno, hok⟩
    · rw [hi.2 h]; exact insideBits_yes av am bv bm hr.1 hr.2 h w
    · have e : insB av am bv bm = false := by
        cases hx : insB av am bv bm
        · rfl
        · rw [hi.1 hx j hj] at hno; cases hno
      rw [e]; exact insideBits_no av am bv bm hr.1 hr.2 j hj hno hok w
theorem insR {av am bv bm : BitVec 64} {b : Bool} (h : insB av am bv bm = b) (w : World) :
    Calls Try.prog 27 #[Bt av am, Bt bv bm] w fun e w' => e = .returned (.bool b) ∧ Below w.heap.size w w' := h ▸ insideBits_any av am bv bm w

set_option maxHeartbeats 1000000 in
theorem valInside_any (v m l h v' m' l' h' : BitVec 64) (w : World) :
    Calls Try.prog 44 #[Vl v m l h, Vl v' m' l' h'] w fun e w' => e = .returned (.bool (insV v m l h v' m' l' h')) ∧ Below w.heap.size w w' := by
  have Hh : Hid (insV v m l h v' m' l' h' = (valB v m l h && (valB v' m' l' h' && (insB v m v' m' && (decide (nv l' ≤ nv l) && decide (nv h ≤ nv h')))))) := rfl
  obtain ⟨z1, H1⟩ : ∃ b, Hid (valB v m l h = b) := ⟨_, rfl⟩
  obtain ⟨z2, H2⟩ : ∃ b, Hid (valB v' m' l' h' = b) := ⟨_, rfl⟩
  obtain ⟨z3, H3⟩ : ∃ b, Hid (insB v m v' m' = b) := ⟨_, rfl⟩
  rw [H1.out, H2.out, H3.out] at Hh
  rw [Hh.out]
  clear Hh
  go_enter Try.func44, Try.ntmps44
  go_wp2_with fail
  refine (checkV H1.out _).mono ?_
  rintro e w1 ⟨rfl, hb1⟩
  have hK := (((Kp.start w).add4 _ _ _ _ _).add4 _ _ _ _ _).keep hb1
  simp only [World.size_alloc] at hK
  obtain ⟨b0, b1, b2, b3, b4, b5, b6, b7, b8⟩ := hK.box.head.four
  obtain ⟨a0, a1, a2, a3, a4, a5, a6, a7, a8⟩ := hK.box.tail.head.four
  cases z1
  · rw [er_f]
    go_wp2_with fail
    go_ret
    exact ⟨rfl, hK.bel⟩
  · rw [er_t]
    go_wp2_with fail
    refine (checkV H2.out _).mono ?_
    rintro e w2 ⟨rfl, hb2⟩
    have hK2 := hK.keep hb2
    clear b0 b1 b2 b3 b4 b5 b6 b7 b8 a0 a1 a2 a3 a4 a5 a6 a7 a8
    obtain ⟨b0, b1, b2, b3, b4, b5, b6, b7, b8⟩ := hK2.box.head.four
    obtain ⟨a0, a1, a2, a3, a4, a5, a6, a7, a8⟩ := hK2.box.tail.head.four
    cases z2
    · rw [er_f]
      go_wp2_with fail
      go_ret
      exact ⟨rfl, hK2.bel⟩
    · rw [er_t]
      go_wp2_with fail
      refine (insC H3.out _).mono ?_
      rintro e w3 ⟨rfl, hb3⟩
      have hK3 := hK2.keep hb3
      clear b0 b1 b2 b3 b4 b5 b6 b7 b8 a0 a1 a2 a3 a4 a5 a6 a7 a8
      obtain ⟨b0, b1, b2, b3, b4, b5, b6, b7, b8⟩ := hK3.box.head.four
      obtain ⟨a0, a1, a2, a3, a4, a5, a6, a7, a8⟩ := hK3.box.tail.head.four
      cases z3
      · go_wp2_with fail
        go_ret
        exact ⟨rfl, hK3.bel⟩
      · by_cases h1 : nv l' ≤ nv l
        · go_wp2_with fail
          go_ret
          exact ⟨by simp <;> omega, hK3.bel⟩
        · have h1' : nv l < nv l' := by omega
          go_wp2_with fail
          go_ret
          exact ⟨by simp <;> omega, hK3.bel⟩
set_option maxHeartbeats 1000000 in
theorem insideVal_any (v m l h v' m' l' h' : BitVec 64) (w : World) :
    Calls Try.prog 45 #[Vl v m l h, Vl v' m' l' h'] w fun e w' => e = .returned (.bool (insV v m l h v' m' l' h')) ∧ Below w.heap.size w w' := by
  have Hh : Hid (insV v m l h v' m' l' h' = (valB v m l h && (valB v' m' l' h' && (insB v m v' m' && (decide (nv l' ≤ nv l) && decide (nv h ≤ nv h')))))) := rfl
  obtain ⟨z1, H1⟩ : ∃ b, Hid (valB v m l h = b) := ⟨_, rfl⟩
  obtain ⟨z2, H2⟩ : ∃ b, Hid (valB v' m' l' h' = b) := ⟨_, rfl⟩
  obtain ⟨z3, H3⟩ : ∃ b, Hid (insB v m v' m' = b) := ⟨_, rfl⟩
  rw [H1.out, H2.out, H3.out] at Hh
  rw [Hh.out]
  clear Hh
  go_enter Try.func45, Try.ntmps45
  go_wp2_with fail
  refine (rightV H1.out _).mono ?_
  rintro e w1 ⟨rfl, hb1⟩
  have hK := (((Kp.start w).add4 _ _ _ _ _).add4 _ _ _ _ _).keep hb1
  simp only [World.size_alloc] at hK
  obtain ⟨b0, b1, b2, b3, b4, b5, b6, b7, b8⟩ := hK.box.head.four
  obtain ⟨a0, a1, a2, a3, a4, a5, a6, a7, a8⟩ := hK.box.tail.head.four
  cases z1
  · go_wp2_with fail
    go_ret
    exact ⟨rfl, hK.bel⟩
  · go_wp2_with fail
    refine (rightV H2.out _).mono ?_
    rintro e w2 ⟨rfl, hb2⟩
    have hK2 := hK.keep hb2
    clear b0 b1 b2 b3 b4 b5 b6 b7 b8 a0 a1 a2 a3 a4 a5 a6 a7 a8
    obtain ⟨b0, b1, b2, b3, b4, b5, b6, b7, b8⟩ := hK2.box.head.four
    obtain ⟨a0, a1, a2, a3, a4, a5, a6, a7, a8⟩ := hK2.box.tail.head.four
    cases z2
    · go_wp2_with fail
      go_ret
      exact ⟨rfl, hK2.bel⟩
    · go_wp2_with fail
      refine (insR H3.out _).mono ?_
      rintro e w3 ⟨rfl, hb3⟩
      have hK3 := hK2.keep hb3
      clear b0 b1 b2 b3 b4 b5 b6 b7 b8 a0 a1 a2 a3 a4 a5 a6 a7 a8
      obtain ⟨b0, b1, b2, b3, b4, b5, b6, b7, b8⟩ := hK3.box.head.four
      obtain ⟨a0, a1, a2, a3, a4, a5, a6, a7, a8⟩ := hK3.box.tail.head.four
      cases z3
      · go_wp2_with fail
        go_ret
        exact ⟨rfl, hK3.bel⟩
      · by_cases h1 : nv l' ≤ nv l
        · go_wp2_with fail
          go_ret
          exact ⟨by simp <;> omega, hK3.bel⟩
        · have h1' : nv l < nv l' := by omega
          go_wp2_with fail
          go_ret
          exact ⟨by simp <;> omega, hK3.bel⟩

end Go.Proofs.Ytkigmocchaikgaa

/- The contract of package val's Join. -/
namespace Go.Proofs.Ytkigmocchaikgaa
open Go.RowKit
attribute [local go_sem] w_and w_or w_xor w_andNot w_and1 w_and63 w_add w_sub w_mul w_sub1 w_add1 w_shl w_shl1 w_shr c_beq c_bne c_beq0 c_bne0 c_beq1 c_bne1 wrap_nv

set_option maxHeartbeats 1000000 in
theorem valJoin_no {v m l h v' m' l' h' : BitVec 64} (hr : Hid ((valB v m l h && valB v' m' l' h') = false)) (w : World) :
    Calls Try.prog 32 #[Vl v m l h, Vl v' m' l' h'] w fun e w' => e = .returned (.tuple #[V0, N 1]) ∧ Below w.heap.size w w' := by
  obtain ⟨z1, H1⟩ : ∃ b, Hid (valB v m l h = b) := ⟨_, rfl⟩
  obtain ⟨z2, H2⟩ : ∃ b, Hid (valB v' m' l' h' = b) := ⟨_, rfl⟩
  rw [H1.out, H2.out] at hr
  go_enter Try.func32, Try.ntmps32
  go_wp2_with fail
  refine (checkV H1.out _).mono ?_
  rintro e w1 ⟨rfl, hb1⟩
  have hK := ((((Kp.start w).add4 _ _ _ _ _).add4 _ _ _ _ _).add4 _ _ _ _ _).keep hb1
  simp only [World.size_alloc] at hK
  obtain ⟨r0, r1, r2, r3, r4, r5, r6, r7, r8⟩ := hK.box.head.four
  obtain ⟨b0, b1, b2, b3, b4, b5, b6, b7, b8⟩ := hK.box.tail.head.four
  obtain ⟨a0, a1, a2, a3, a4, a5, a6, a7, a8⟩ := hK.box.tail.tail.head.four
  cases z1
  · rw [er_f]
    go_wp2_with fail
    exact bodyPost_ret (v := .tuple #[V0, N 1]) (by simp [results, Try.results32, go_sem, nv_zero, r0, r1, r2, r3]) rfl ⟨rfl, (hK.set4 0 rfl).bel⟩
  · obtain rfl : z2 = false := hr.out
    rw [er_t]
    go_wp2_with fail
    refine (checkV H2.out _).mono ?_
    rintro e w2 ⟨rfl, hb2⟩
    have hK2 := hK.keep hb2
    clear r0 r1 r2 r3 r4 r5 r6 r7 r8 b0 b1 b2 b3 b4 b5 b6 b7 b8 a0 a1 a2 a3 a4 a5 a6 a7 a8
    obtain ⟨r0, r1, r2, r3, r4, r5, r6, r7, r8⟩ := hK2.box.head.four
    obtain ⟨b0, b1, b2, b3, b4, b5, b6, b7, b8⟩ := hK2.box.tail.head.four
    obtain ⟨a0, a1, a2, a3, a4, a5, a6, a7, a8⟩ := hK2.box.tail.tail.head.four
    rw [er_f]
    go_wp2_with fail
    exact bodyPost_ret (v := .tuple #[V0, N 1]) (by simp [results, Try.results32, go_sem, nv_zero, r0, r1, r2, r3]) rfl ⟨rfl, (hK2.set4 0 rfl).bel⟩
set_option maxHeartbeats 2000000 in
theorem valJoin_yes {v m l h v' m' l' h' : BitVec 64} (hr : Hid ((valB v m l h && valB v' m' l' h') = true)) (w : World) :
    Calls Try.prog 32 #[Vl v m l h, Vl v' m' l' h'] w fun e w' => e = .returned (.tuple #[Vl (nV (jV v m v' m') (jM v m v' m') (bmin l l') (bmax h h')) (nM (jM v m v' m') (nLo (jV v m v' m') (jM v m v' m') (bmin l l')) (nHi (jV v m v' m') (jM v m v' m') (bmax h h'))) (nLo (jV v m v' m') (jM v m v' m') (bmin l l')) (nHi (jV v m v' m') (jM v m v' m') (bmax h h')), N 0]) ∧ Below w.heap.size w w' := by
  have hr' := hr.out
  rw [Bool.and_eq_true] at hr'
  have H1 : Hid (valB v m l h = true) := hr'.1
  have H2 : Hid (valB v' m' l' h' = true) := hr'.2
  have hf := join_facts hr'.1 hr'.2
  have ha := (val_facts hr'.1).1
  have hb := (val_facts hr'.2).1
  have HJ : Hid (∀ w, Calls Try.prog 13 #[Bt v m, Bt v' m'] w fun e w' => e = .returned (.tuple #[Bt (jV v m v' m') (jM v m v' m'), N 0]) ∧ Below w.heap.size w w') := fun w => join_ok (both_right ha hb) w
  have HN : Hid (∀ w, Calls Try.prog 31 #[Vl (jV v m v' m') (jM v m v' m') (bmin l l') (bmax h h')] w fun e w' => e = .returned (.tuple #[Vl (nV (jV v m v' m') (jM v m v' m') (bmin l l') (bmax h h')) (nM (jM v m v' m') (nLo (jV v m v' m') (jM v m v' m') (bmin l l')) (nHi (jV v m v' m') (jM v m v' m') (bmax h h'))) (nLo (jV v m v' m') (jM v m v' m') (bmin l l')) (nHi (jV v m v' m') (jM v m v' m') (bmax h h')), .bool true, N 0]) ∧ Below w.heap.size w w') := fun w =>
    norm_yes ((rt_iff _ _).2 (join_rt v m v' m')) hf.1 w
  clear hf ha hb hr hr'
  generalize nV (jV v m v' m') (jM v m v' m') (bmin l l') (bmax h h') = rv at HN ⊢
  generalize nM (jM v m v' m') (nLo (jV v m v' m') (jM v m v' m') (bmin l l')) (nHi (jV v m v' m') (jM v m v' m') (bmax h h')) = rm at HN ⊢
  generalize nLo (jV v m v' m') (jM v m v' m') (bmin l l') = lo at HN ⊢
  generalize nHi (jV v m v' m') (jM v m v' m') (bmax h h') = hi at HN ⊢
  generalize jV v m v' m' = jv at HN HJ
  generalize jM v m v' m' = jm at HN HJ
  go_enter Try.func32, Try.ntmps32
  go_wp2_with fail
  refine (checkV H1.out _).mono ?_
  rintro e w1 ⟨rfl, hb1⟩
  have hK := ((((Kp.start w).add4 _ _ _ _ _).add4 _ _ _ _ _).add4 _ _ _ _ _).keep hb1
  simp only [World.size_alloc] at hK
  obtain ⟨r0, r1, r2, r3, r4, r5, r6, r7, r8⟩ := hK.box.head.four
  obtain ⟨b0, b1, b2, b3, b4, b5, b6, b7, b8⟩ := hK.box.tail.head.four
  obtain ⟨a0, a1, a2, a3, a4, a5, a6, a7, a8⟩ := hK.box.tail.tail.head.four
  rw [er_t]
  go_wp2_with fail
  refine (checkV H2.out _).mono ?_
  rintro e w2 ⟨rfl, hb2⟩
  have hK2 := hK.keep hb2
  clear r0 r1 r2 r3 r4 r5 r6 r7 r8 b0 b1 b2 b3 b4 b5 b6 b7 b8 a0 a1 a2 a3 a4 a5 a6 a7 a8
  obtain ⟨r0, r1, r2, r3, r4, r5, r6, r7, r8⟩ := hK2.box.head.four
  obtain ⟨b0, b1, b2, b3, b4, b5, b6, b7, b8⟩ := hK2.box.tail.head.four
  obtain ⟨a0, a1, a2, a3, a4, a5, a6, a7, a8⟩ := hK2.box.tail.tail.head.four
  rw [er_t]
  go_wp2_with fail
  refine (HJ.out _).mono ?_
  rintro e w3 ⟨rfl, hb3⟩
  have hK3 := hK2.keep hb3
  clear r0 r1 r2 r3 r4 r5 r6 r7 r8 b0 b1 b2 b3 b4 b5 b6 b7 b8 a0 a1 a2 a3 a4 a5 a6 a7 a8
  obtain ⟨r0, r1, r2, r3, r4, r5, r6, r7, r8⟩ := hK3.box.head.four
  obtain ⟨b0, b1, b2, b3, b4, b5, b6, b7, b8⟩ := hK3.box.tail.head.four
  obtain ⟨a0, a1, a2, a3, a4, a5, a6, a7, a8⟩ := hK3.box.tail.tail.head.four
  by_cases h1 : nv l' < nv l <;> by_cases h2 : nv h < nv h'
  · have e1 : bmin l l' = l' := if_pos h1
    have e2 : bmax h h' = h' := if_pos h2
    rw [e1, e2] at HN
    clear e1 e2
    go_wp2_with fail
    refine (HN.out _).mono ?_
    rintro e w4 ⟨rfl, hb4⟩
    have hK4 := (hK3.add2 _ _ _).keep hb4
    clear r0 r1 r2 r3 r4 r5 r6 r7 r8 b0 b1 b2 b3 b4 b5 b6 b7 b8 a0 a1 a2 a3 a4 a5 a6 a7 a8
    obtain ⟨j0, j1, j2, j3, j4⟩ := hK4.box.head.two
    obtain ⟨r0, r1, r2, r3, r4, r5, r6, r7, r8⟩ := hK4.box.tail.head.four
    obtain ⟨b0, b1, b2, b3, b4, b5, b6, b7, b8⟩ := hK4.box.tail.tail.head.four
    obtain ⟨a0, a1, a2, a3, a4, a5, a6, a7, a8⟩ := hK4.box.tail.tail.tail.head.four
    go_wp2_with fail
    exact bodyPost_ret (v := .tuple #[Vl rv rm lo hi, N 0]) (by simp [results, Try.results32, go_sem, r0, r1, r2, r3, r8]) rfl ⟨rfl, ((hK4.set4 1 rfl).add4 _ _ _ _ _).bel⟩
  · have e1 : bmin l l' = l' := if_pos h1
    have e2 : bmax h h' = h := if_neg h2
    rw [e1, e2] at HN
    clear e1 e2
    have h2' : nv h' ≤ nv h := by omega
    clear h2
    go_wp2_with fail
    refine (HN.out _).mono ?_
    rintro e w4 ⟨rfl, hb4⟩
    have hK4 := (hK3.add2 _ _ _).keep hb4
    clear r0 r1 r2 r3 r4 r5 r6 r7 r8 b0 b1 b2 b3 b4 b5 b6 b7 b8 a0 a1 a2 a3 a4 a5 a6 a7 a8
    obtain ⟨j0, j1, j2, j3, j4⟩ := hK4.box.head.two
    obtain ⟨r0, r1, r2, r3, r4, r5, r6, r7, r8⟩ := hK4.box.tail.head.four
    obtain ⟨b0, b1, b2, b3, b4, b5, b6, b7, b8⟩ := hK4.box.tail.tail.head.four
    obtain ⟨a0, a1, a2, a3, a4, a5, a6, a7, a8⟩ := hK4.box.tail.tail.tail.head.four
    go_wp2_with fail
    exact bodyPost_ret (v := .tuple #[Vl rv rm lo hi, N 0]) (by simp [results, Try.results32, go_sem, r0, r1, r2, r3, r8]) rfl ⟨rfl, ((hK4.set4 1 rfl).add4 _ _ _ _ _).bel⟩
  · have e1 : bmin l l' = l := if_neg h1
    have e2 : bmax h h' = h' := if_pos h2
    rw [e1, e2] at HN
    clear e1 e2
    have h1' : nv l ≤ nv l' := by omega
    clear h1
    go_wp2_with fail
    refine (HN.out _).mono ?_
    rintro e w4 ⟨rfl, hb4⟩
    have hK4 := (hK3.add2 _ _ _).keep hb4
    clear r0 r1 r2 r3 r4 r5 r6 r7 r8 b0 b1 b2 b3 b4 b5 b6 b7 b8 a0 a1 a2 a3 a4 a5 a6 a7 a8
    obtain ⟨j0, j1, j2, j3, j4⟩ := hK4.box.head.two
    obtain ⟨r0, r1, r2, r3, r4, r5, r6, r7, r8⟩ := hK4.box.tail.head.four
    obtain ⟨b0, b1, b2, b3, b4, b5, b6, b7, b8⟩ := hK4.box.tail.tail.head.four
    obtain ⟨a0, a1, a2, a3, a4, a5, a6, a7, a8⟩ := hK4.box.tail.tail.tail.head.four
    go_wp2_with fail
    exact bodyPost_ret (v := .tuple #[Vl rv rm lo hi, N 0]) (by simp [results, Try.results32, go_sem, r0, r1, r2, r3, r8]) rfl ⟨rfl, ((hK4.set4 1 rfl).add4 _ _ _ _ _).bel⟩
  · have e1 : bmin l l' = l := if_neg h1
    have e2 : bmax h h' = h := if_neg h2
    rw [e1, e2] at HN
    clear e1 e2
    have h1' : nv l ≤ nv l' := by omega
    clear h1
    have h2' : nv h' ≤ nv h := by omega
    clear h2
    go_wp2_with fail
    refine (HN.out _).mono ?_
    rintro e w4 ⟨rfl, hb4⟩
    have hK4 := (hK3.add2 _ _ _).keep hb4
    clear r0 r1 r2 r3 r4 r5 r6 r7 r8 b0 b1 b2 b3 b4 b5 b6 b7 b8 a0 a1 a2 a3 a4 a5 a6 a7 a8
    obtain ⟨j0, j1, j2, j3, j4⟩ := hK4.box.head.two
    obtain ⟨r0, r1, r2, r3, r4, r5, r6, r7, r8⟩ := hK4.box.tail.head.four
    obtain ⟨b0, b1, b2, b3, b4, b5, b6, b7, b8⟩ := hK4.box.tail.tail.head.four
    obtain ⟨a0, a1, a2, a3, a4, a5, a6, a7, a8⟩ := hK4.box.tail.tail.tail.head.four
    go_wp2_with fail
    exact bodyPost_ret (v := .tuple #[Vl rv rm lo hi, N 0]) (by simp [results, Try.results32, go_sem, r0, r1, r2, r3, r8]) rfl ⟨rfl, ((hK4.set4 1 rfl).add4 _ _ _ _ _).bel⟩

end Go.Proofs.Ytkigmocchaikgaa

/- The contracts of package calc's alone, shiftBounds, bounds, shift. -/
namespace Go.Proofs.Ytkigmocchaikgaa
open Go.RowKit
attribute [local go_sem] w_and w_or w_xor w_andNot w_and1 w_and63 w_add w_sub w_mul w_sub1 w_add1 w_shl w_shl1 w_shr c_beq c_bne c_beq0 c_bne0 c_beq1 c_bne1 wrap_nv

set_option maxHeartbeats 400000 in
theorem alone_any (v m l h : BitVec 64) (w : World) :
    Calls Try.prog 94 #[Vl v m l h] w fun e w' => e = .returned (.bool (eqb l h)) ∧ Below w.heap.size w w' := by
  go_enter Try.func94, Try.ntmps94
  go_wp2_with fail
  go_ret
  exact ⟨rfl, (by repeat (first | exact Below.refl _ _ | assumption | refine below_drewN ?_ _ | refine Below.drew ?_ | refine Below.alloc ?_ (by first | exact Nat.le_refl _ | (simp; done) | (simp; omega) | omega) _ | refine Below.setCell ?_ (by first | exact Nat.le_refl _ | (simp; done) | (simp; omega) | omega) _ | refine Below.trans ?_ (Below.mono (by assumption) (by first | exact Nat.le_refl _ | (simp; done) | (simp; omega) | omega))))⟩
theorem alone_is {v m l h : BitVec 64} {b : Bool} (hb : eqb l h = b) (w : World) :
    Calls Try.prog 94 #[Vl v m l h] w fun e w' => e = .returned (.bool b) ∧ Below w.heap.size w w' := hb ▸ alone_any v m l h w

def shiftBd (op : Int) (l h : BitVec 64) (n : Nat) : BitVec 64 × BitVec 64 := if op = 9 then (bshr l n, bshr h n) else shlB l h n
set_option maxRecDepth 100000 in
set_option maxHeartbeats 1000000 in
theorem shiftBounds_shr (v m l h : BitVec 64) (y : BitVec 64) (w : World) :
    Calls Try.prog 125 #[N 9, Vl v m l h, U (band y 63#64)] w fun e w' => e = .returned (.tuple #[U (bshr l (six y)), U (bshr h (six y))]) ∧ Below w.heap.size w w' := by
  have h6 := six_nv y
  have h7 := six_lt y
  go_enter Try.func125, Try.ntmps125
  go_wp2_with fail
  go_quiet (fail)
  go_wp2_with fail
  go_ret2
  exact ⟨rfl, (by repeat (first | exact Below.refl _ _ | assumption | refine below_drewN ?_ _ | refine Below.drew ?_ | refine Below.alloc ?_ (by first | exact Nat.le_refl _ | (simp; done) | (simp; omega) | omega) _ | refine Below.setCell ?_ (by first | exact Nat.le_refl _ | (simp; done) | (simp; omega) | omega) _ | refine Below.trans ?_ (Below.mono (by assumption) (by first | exact Nat.le_refl _ | (simp; done) | (simp; omega) | omega))))⟩
set_option maxRecDepth 100000 in
set_option maxHeartbeats 1000000 in
theorem shiftBounds_shl (v m l h : BitVec 64) (y : BitVec 64) (w : World) :
    Calls Try.prog 125 #[N 8, Vl v m l h, U (band y 63#64)] w fun e w' => e = .returned (.tuple #[U (shlB l h (six y)).1, U (shlB l h (six y)).2]) ∧ Below w.heap.size w w' := by
  have h6 := six_nv y
  have h7 := six_lt y
  have Ha : Hid (shlB l h (six y) = if eqb (bshr (bshl h (six y)) (six y)) h then (bshl l (six y), bshl h (six y)) else (zero, top)) := rfl
  obtain ⟨p, hp⟩ : ∃ b, eqb (bshr (bshl h (six y)) (six y)) h = b := ⟨_, rfl⟩
  rw [hp] at Ha
  cases p
  · go_enter Try.func125, Try.ntmps125
    go_wp2_with fail
    go_ret2
    rw [Ha.out]
    exact ⟨rfl, (by repeat (first | exact Below.refl _ _ | assumption | refine below_drewN ?_ _ | refine Below.drew ?_ | refine Below.alloc ?_ (by first | exact Nat.le_refl _ | (simp; done) | (simp; omega) | omega) _ | refine Below.setCell ?_ (by first | exact Nat.le_refl _ | (simp; done) | (simp; omega) | omega) _ | refine Below.trans ?_ (Below.mono (by assumption) (by first | exact Nat.le_refl _ | (simp; done) | (simp; omega) | omega))))⟩
  · go_enter Try.func125, Try.ntmps125
    go_wp2_with fail
    go_quiet (fail)
    go_wp2_with fail
    go_ret2
    rw [Ha.out]
    exact ⟨rfl, (by repeat (first | exact Below.refl _ _ | assumption | refine below_drewN ?_ _ | refine Below.drew ?_ | refine Below.alloc ?_ (by first | exact Nat.le_refl _ | (simp; done) | (simp; omega) | omega) _ | refine Below.setCell ?_ (by first | exact Nat.le_refl _ | (simp; done) | (simp; omega) | omega) _ | refine Below.trans ?_ (Below.mono (by assumption) (by first | exact Nat.le_refl _ | (simp; done) | (simp; omega) | omega))))⟩

set_option maxRecDepth 100000 in
set_option maxHeartbeats 1000000 in
theorem bounds_any {op : Int} (hop : Hid (2 ≤ op ∧ op ≤ 7)) (v m l h v' m' l' h' : BitVec 64) (w : World) :
    Calls Try.prog 113 #[N op, Vl v m l h, Vl v' m' l' h'] w fun e w' => e = .returned (.tuple #[U (boundsP op l h l' h').1, U (boundsP op l h l' h').2]) ∧ Below w.heap.size w w' := by
  rcases op_cases hop.out with rfl | rfl | rfl | rfl | rfl | rfl
  · clear hop
    go_enter Try.func113, Try.ntmps113
    go_wp2_with fail
    refine (addBounds_any v m l h v' m' l' h' _).mono ?_
    rintro e w1 ⟨rfl, hb1⟩
    have hK := (((Kp.start w).add4 _ _ _ _ _).add4 _ _ _ _ _).keep hb1
    go_wp2_with fail
    go_ret2
    exact ⟨rfl, hK.bel⟩
  · clear hop
    go_enter Try.func113, Try.ntmps113
    go_wp2_with fail
    refine (subBounds_any v m l h v' m' l' h' _).mono ?_
    rintro e w1 ⟨rfl, hb1⟩
    have hK := (((Kp.start w).add4 _ _ _ _ _).add4 _ _ _ _ _).keep hb1
    go_wp2_with fail
    go_ret2
    exact ⟨rfl, hK.bel⟩
  · clear hop
    go_enter Try.func113, Try.ntmps113
    go_wp2_with fail
    refine (mulBounds_any v m l h v' m' l' h' _).mono ?_
    rintro e w1 ⟨rfl, hb1⟩
    have hK := (((Kp.start w).add4 _ _ _ _ _).add4 _ _ _ _ _).keep hb1
    go_wp2_with fail
    go_ret2
    exact ⟨rfl, hK.bel⟩
  · clear hop
    have Hb : Hid (boundsP 5 l h l' h' = (zero, bmin h h')) := rfl
    rw [Hb.out]
    by_cases h1 : nv h' < nv h
    · have e1 : Hid (bmin h h' = h') := if_pos h1
      rw [e1.out]
      go_enter Try.func113, Try.ntmps113
      go_wp2_with fail
      first | (go_quiet (fail); go_wp2_with fail) | skip
      go_ret2
      exact ⟨rfl, (by repeat (first | exact Below.refl _ _ | assumption | refine below_drewN ?_ _ | refine Below.drew ?_ | refine Below.alloc ?_ (by first | exact Nat.le_refl _ | (simp; done) | (simp; omega) | omega) _ | refine Below.setCell ?_ (by first | exact Nat.le_refl _ | (simp; done) | (simp; omega) | omega) _ | refine Below.trans ?_ (Below.mono (by assumption) (by first | exact Nat.le_refl _ | (simp; done) | (simp; omega) | omega))))⟩
    · have e1 : Hid (bmin h h' = h) := if_neg h1
      have h1' : nv h ≤ nv h' := by omega
      clear h1
      rw [e1.out]
      go_enter Try.func113, Try.ntmps113
      go_wp2_with fail
      first | (go_quiet (fail); go_wp2_with fail) | skip
      go_ret2
      exact ⟨rfl, (by repeat (first | exact Below.refl _ _ | assumption | refine below_drewN ?_ _ | refine Below.drew ?_ | refine Below.alloc ?_ (by first | exact Nat.le_refl _ | (simp; done) | (simp; omega) | omega) _ | refine Below.setCell ?_ (by first | exact Nat.le_refl _ | (simp; done) | (simp; omega) | omega) _ | refine Below.trans ?_ (Below.mono (by assumption) (by first | exact Nat.le_refl _ | (simp; done) | (simp; omega) | omega))))⟩
  · clear hop
    have Hb : Hid (boundsP 6 l h l' h' = (bmax l l', top)) := rfl
    rw [Hb.out]
    by_cases h1 : nv l < nv l'
    · have e1 : Hid (bmax l l' = l') := if_pos h1
      rw [e1.out]
      go_enter Try.func113, Try.ntmps113
      go_wp2_with fail
      go_ret2
      exact ⟨rfl, (by repeat (first | exact Below.refl _ _ | assumption | refine below_drewN ?_ _ | refine Below.drew ?_ | refine Below.alloc ?_ (by first | exact Nat.le_refl _ | (simp; done) | (simp; omega) | omega) _ | refine Below.setCell ?_ (by first | exact Nat.le_refl _ | (simp; done) | (simp; omega) | omega) _ | refine Below.trans ?_ (Below.mono (by assumption) (by first | exact Nat.le_refl _ | (simp; done) | (simp; omega) | omega))))⟩
    · have e1 : Hid (bmax l l' = l) := if_neg h1
      have h1' : nv l' ≤ nv l := by omega
      clear h1
      rw [e1.out]
      go_enter Try.func113, Try.ntmps113
      go_wp2_with fail
      go_ret2
      exact ⟨rfl, (by repeat (first | exact Below.refl _ _ | assumption | refine below_drewN ?_ _ | refine Below.drew ?_ | refine Below.alloc ?_ (by first | exact Nat.le_refl _ | (simp; done) | (simp; omega) | omega) _ | refine Below.setCell ?_ (by first | exact Nat.le_refl _ | (simp; done) | (simp; omega) | omega) _ | refine Below.trans ?_ (Below.mono (by assumption) (by first | exact Nat.le_refl _ | (simp; done) | (simp; omega) | omega))))⟩
  · clear hop
    go_enter Try.func113, Try.ntmps113
    go_wp2_with fail
    go_ret2
    exact ⟨rfl, (by repeat (first | exact Below.refl _ _ | assumption | refine below_drewN ?_ _ | refine Below.drew ?_ | refine Below.alloc ?_ (by first | exact Nat.le_refl _ | (simp; done) | (simp; omega) | omega) _ | refine Below.setCell ?_ (by first | exact Nat.le_refl _ | (simp; done) | (simp; omega) | omega) _ | refine Below.trans ?_ (Below.mono (by assumption) (by first | exact Nat.le_refl _ | (simp; done) | (simp; omega) | omega))))⟩

end Go.Proofs.Ytkigmocchaikgaa

/- The contracts of package calc's shift and reckon. -/
namespace Go.Proofs.Ytkigmocchaikgaa
open Go.RowKit
attribute [local go_sem] w_and w_or w_xor w_andNot w_and1 w_and63 w_add w_sub w_mul w_sub1 w_add1 w_shl w_shl1 w_shr c_beq c_bne c_beq0 c_bne0 c_beq1 c_bne1 wrap_nv

set_option maxRecDepth 100000 in
set_option maxHeartbeats 1000000 in
theorem shift_wide8 {v m l g v' m' l' g' : BitVec 64} (ha : Hid (eqb l' g' = false)) (w : World) :
    Calls Try.prog 112 #[N 8, Vl v m l g, Vl v' m' l' g'] w fun e w' => e = .returned (Vl zero top zero top) ∧ Below w.heap.size w w' := by
  go_enter Try.func112, Try.ntmps112
  go_wp2_with fail
  refine (alone_is ha.out _).mono ?_
  rintro e w1 ⟨rfl, hb1⟩
  have hK := ((((Kp.start w).add4 _ _ _ _ _).add4 _ _ _ _ _).add4 _ _ _ _ _).keep hb1
  simp only [World.size_alloc] at hK
  obtain ⟨r0, r1, r2, r3, r4, r5, r6, r7, r8⟩ := hK.box.head.four
  obtain ⟨b0, b1, b2, b3, b4, b5, b6, b7, b8⟩ := hK.box.tail.head.four
  obtain ⟨a0, a1, a2, a3, a4, a5, a6, a7, a8⟩ := hK.box.tail.tail.head.four
  go_wp2_with fail
  exact bodyPost_ret (v := Vl zero top zero top) (by simp [results, Try.results112, go_sem, nv_zero, nv_top, r0, r1, r2, r3]) rfl ⟨rfl, (hK.set4 0 rfl).bel⟩
set_option maxRecDepth 100000 in
set_option maxHeartbeats 1000000 in
theorem shift_wide9 {v m l g v' m' l' g' : BitVec 64} (ha : Hid (eqb l' g' = false)) (w : World) :
    Calls Try.prog 112 #[N 9, Vl v m l g, Vl v' m' l' g'] w fun e w' => e = .returned (Vl zero top zero g) ∧ Below w.heap.size w w' := by
  go_enter Try.func112, Try.ntmps112
  go_wp2_with fail
  refine (alone_is ha.out _).mono ?_
  rintro e w1 ⟨rfl, hb1⟩
  have hK := ((((Kp.start w).add4 _ _ _ _ _).add4 _ _ _ _ _).add4 _ _ _ _ _).keep hb1
  simp only [World.size_alloc] at hK
  obtain ⟨r0, r1, r2, r3, r4, r5, r6, r7, r8⟩ := hK.box.head.four
  obtain ⟨b0, b1, b2, b3, b4, b5, b6, b7, b8⟩ := hK.box.tail.head.four
  obtain ⟨a0, a1, a2, a3, a4, a5, a6, a7, a8⟩ := hK.box.tail.tail.head.four
  go_wp2_with fail
  exact bodyPost_ret (v := Vl zero top zero g) (by simp [results, Try.results112, go_sem, nv_zero, nv_top, r0, r1, r2, r3]) rfl ⟨rfl, (hK.set4 0 rfl).bel⟩
set_option maxRecDepth 100000 in
set_option maxHeartbeats 1000000 in
theorem shift_one8 {v m l h v' m' l' h' : BitVec 64} (hr : Hid (eqb (band v m) zero = true)) (ha : Hid (eqb l' h' = true)) (w : World) :
    Calls Try.prog 112 #[N 8, Vl v m l h, Vl v' m' l' h'] w fun e w' => e = .returned (Vl (bshl v (six l')) (bshl m (six l')) (shlB l h (six l')).1 (shlB l h (six l')).2) ∧ Below w.heap.size w w' := by
  have h6 := six_nv l'
  have h7 := six_lt l'
  have HS : Hid (∀ w, Calls Try.prog 15 #[N 8, Bt v m, N (six l')] w fun e w' => e = .returned (.tuple #[Bt (bshl v (six l')) (bshl m (six l')), N 0]) ∧ Below w.heap.size w w') := fun w => shift_up hr h7 w
  have HB : Hid (∀ w, Calls Try.prog 125 #[N 8, Vl v m l h, U (band l' 63#64)] w fun e w' => e = .returned (.tuple #[U (shlB l h (six l')).1, U (shlB l h (six l')).2]) ∧ Below w.heap.size w w') := fun w => shiftBounds_shl v m l h l' w
  generalize shlB l h (six l') = S at HB ⊢
  obtain ⟨lo, hi⟩ := S
  generalize bshl v (six l') = sv at HS ⊢
  generalize bshl m (six l') = sm at HS ⊢
  go_enter Try.func112, Try.ntmps112
  go_wp2_with fail
  refine (alone_is ha.out _).mono ?_
  rintro e w1 ⟨rfl, hb1⟩
  have hK := ((((Kp.start w).add4 _ _ _ _ _).add4 _ _ _ _ _).add4 _ _ _ _ _).keep hb1
  simp only [World.size_alloc] at hK
  obtain ⟨r0, r1, r2, r3, r4, r5, r6, r7, r8⟩ := hK.box.head.four
  obtain ⟨b0, b1, b2, b3, b4, b5, b6, b7, b8⟩ := hK.box.tail.head.four
  obtain ⟨a0, a1, a2, a3, a4, a5, a6, a7, a8⟩ := hK.box.tail.tail.head.four
  go_wp2_with fail
  refine (HS.out _).mono ?_
  rintro e w2 ⟨rfl, hb2⟩
  have hK2 := hK.keep hb2
  clear r0 r1 r2 r3 r4 r5 r6 r7 r8 b0 b1 b2 b3 b4 b5 b6 b7 b8 a0 a1 a2 a3 a4 a5 a6 a7 a8
  obtain ⟨r0, r1, r2, r3, r4, r5, r6, r7, r8⟩ := hK2.box.head.four
  obtain ⟨b0, b1, b2, b3, b4, b5, b6, b7, b8⟩ := hK2.box.tail.head.four
  obtain ⟨a0, a1, a2, a3, a4, a5, a6, a7, a8⟩ := hK2.box.tail.tail.head.four
  go_wp2_with fail
  refine (HB.out _).mono ?_
  rintro e w3 ⟨rfl, hb3⟩
  have hK3 := (hK2.add2 _ _ _).keep hb3
  clear r0 r1 r2 r3 r4 r5 r6 r7 r8 b0 b1 b2 b3 b4 b5 b6 b7 b8 a0 a1 a2 a3 a4 a5 a6 a7 a8
  obtain ⟨s0, s1, s2, s3, s4⟩ := hK3.box.head.two
  obtain ⟨r0, r1, r2, r3, r4, r5, r6, r7, r8⟩ := hK3.box.tail.head.four
  obtain ⟨b0, b1, b2, b3, b4, b5, b6, b7, b8⟩ := hK3.box.tail.tail.head.four
  obtain ⟨a0, a1, a2, a3, a4, a5, a6, a7, a8⟩ := hK3.box.tail.tail.tail.head.four
  go_wp2_with fail
  exact bodyPost_ret (v := Vl sv sm lo hi) (by simp [results, Try.results112, go_sem, r0, r1, r2, r3]) rfl ⟨rfl, (hK3.set4 1 rfl).bel⟩
set_option maxRecDepth 100000 in
set_option maxHeartbeats 1000000 in
theorem shift_one9 {v m l h v' m' l' h' : BitVec 64} (hr : Hid (eqb (band v m) zero = true)) (ha : Hid (eqb l' h' = true)) (w : World) :
    Calls Try.prog 112 #[N 9, Vl v m l h, Vl v' m' l' h'] w fun e w' => e = .returned (Vl (bshr v (six l')) (bshr m (six l')) (bshr l (six l')) (bshr h (six l'))) ∧ Below w.heap.size w w' := by
  have h6 := six_nv l'
  have h7 := six_lt l'
  have HS : Hid (∀ w, Calls Try.prog 15 #[N 9, Bt v m, N (six l')] w fun e w' => e = .returned (.tuple #[Bt (bshr v (six l')) (bshr m (six l')), N 0]) ∧ Below w.heap.size w w') := fun w => shift_down hr h7 w
  have HB : Hid (∀ w, Calls Try.prog 125 #[N 9, Vl v m l h, U (band l' 63#64)] w fun e w' => e = .returned (.tuple #[U (bshr l (six l')), U (bshr h (six l'))]) ∧ Below w.heap.size w w') := fun w => shiftBounds_shr v m l h l' w
  generalize bshr l (six l') = lo at HB ⊢
  generalize bshr h (six l') = hi at HB ⊢
  generalize bshr v (six l') = sv at HS ⊢
  generalize bshr m (six l') = sm at HS ⊢
  go_enter Try.func112, Try.ntmps112
  go_wp2_with fail
  refine (alone_is ha.out _).mono ?_
  rintro e w1 ⟨rfl, hb1⟩
  have hK := ((((Kp.start w).add4 _ _ _ _ _).add4 _ _ _ _ _).add4 _ _ _ _ _).keep hb1
  simp only [World.size_alloc] at hK
  obtain ⟨r0, r1, r2, r3, r4, r5, r6, r7, r8⟩ := hK.box.head.four
  obtain ⟨b0, b1, b2, b3, b4, b5, b6, b7, b8⟩ := hK.box.tail.head.four
  obtain ⟨a0, a1, a2, a3, a4, a5, a6, a7, a8⟩ := hK.box.tail.tail.head.four
  go_wp2_with fail
  refine (HS.out _).mono ?_
  rintro e w2 ⟨rfl, hb2⟩
  have hK2 := hK.keep hb2
  clear r0 r1 r2 r3 r4 r5 r6 r7 r8 b0 b1 b2 b3 b4 b5 b6 b7 b8 a0 a1 a2 a3 a4 a5 a6 a7 a8
  obtain ⟨r0, r1, r2, r3, r4, r5, r6, r7, r8⟩ := hK2.box.head.four
  obtain ⟨b0, b1, b2, b3, b4, b5, b6, b7, b8⟩ := hK2.box.tail.head.four
  obtain ⟨a0, a1, a2, a3, a4, a5, a6, a7, a8⟩ := hK2.box.tail.tail.head.four
  go_wp2_with fail
  refine (HB.out _).mono ?_
  rintro e w3 ⟨rfl, hb3⟩
  have hK3 := (hK2.add2 _ _ _).keep hb3
  clear r0 r1 r2 r3 r4 r5 r6 r7 r8 b0 b1 b2 b3 b4 b5 b6 b7 b8 a0 a1 a2 a3 a4 a5 a6 a7 a8
  obtain ⟨s0, s1, s2, s3, s4⟩ := hK3.box.head.two
  obtain ⟨r0, r1, r2, r3, r4, r5, r6, r7, r8⟩ := hK3.box.tail.head.four
  obtain ⟨b0, b1, b2, b3, b4, b5, b6, b7, b8⟩ := hK3.box.tail.tail.head.four
  obtain ⟨a0, a1, a2, a3, a4, a5, a6, a7, a8⟩ := hK3.box.tail.tail.tail.head.four
  go_wp2_with fail
  exact bodyPost_ret (v := Vl sv sm lo hi) (by simp [results, Try.results112, go_sem, r0, r1, r2, r3]) rfl ⟨rfl, (hK3.set4 1 rfl).bel⟩

end Go.Proofs.Ytkigmocchaikgaa

/- The contracts of package calc's reckon, checkAll and Two. -/
namespace Go.Proofs.Ytkigmocchaikgaa
open Go.RowKit
attribute [local go_sem] w_and w_or w_xor w_andNot w_and1 w_and63 w_add w_sub w_mul w_sub1 w_add1 w_shl w_shl1 w_shr c_beq c_bne c_beq0 c_bne0 c_beq1 c_bne1 wrap_nv

def rk (op : Int) (v m l h v' m' l' h' : BitVec 64) : BitVec 64 × BitVec 64 × BitVec 64 × BitVec 64 :=
  if op = 8 then (if eqb l' h' then (bshl v (six l'), bshl m (six l'), (shlB l h (six l')).1, (shlB l h (six l')).2) else (zero, top, zero, top))
  else if op = 9 then (if eqb l' h' then (bshr v (six l'), bshr m (six l'), bshr l (six l'), bshr h (six l')) else (zero, top, zero, h))
  else ((twoP op v m v' m').1, (twoP op v m v' m').2, (boundsP op l h l' h').1, (boundsP op l h l' h').2)

theorem shift_is {op : Int} (hop : op = 8 ∨ op = 9) {v m l h : BitVec 64} (v' m' l' h' : BitVec 64) (hr : Hid (eqb (band v m) zero = true)) (w : World) :
    Calls Try.prog 112 #[N op, Vl v m l h, Vl v' m' l' h'] w fun e w' => e = .returned (Vl (rk op v m l h v' m' l' h').1 (rk op v m l h v' m' l' h').2.1 (rk op v m l h v' m' l' h').2.2.1 (rk op v m l h v' m' l' h').2.2.2) ∧ Below w.heap.size w w' := by
  rcases hop with rfl | rfl
  · cases ha : eqb l' h'
    · have e : rk 8 v m l h v' m' l' h' = (zero, top, zero, top) := by unfold rk; rw [if_pos rfl, ha]; rfl
      rw [e]; exact shift_wide8 ha w
    · have e : rk 8 v m l h v' m' l' h' = (bshl v (six l'), bshl m (six l'), (shlB l h (six l')).1, (shlB l h (six l')).2) := by unfold rk; rw [if_pos rfl, ha]; rfl
      rw [e]; exact shift_one8 hr ha w
  · cases ha : eqb l' h'
    · have e : rk 9 v m l h v' m' l' h' = (zero, top, zero, h) := by unfold rk; rw [if_neg (by decide), if_pos rfl, ha]; rfl
      rw [e]; exact shift_wide9 ha w
    · have e : rk 9 v m l h v' m' l' h' = (bshr v (six l'), bshr m (six l'), bshr l (six l'), bshr h (six l')) := by unfold rk; rw [if_neg (by decide), if_pos rfl, ha]; rfl
      rw [e]; exact shift_one9 hr ha w

set_option maxRecDepth 100000 in
set_option maxHeartbeats 1000000 in
theorem reckon_shift {op : Int} (hop : op = 8 ∨ op = 9) {v m l g : BitVec 64} (v' m' l' g' : BitVec 64) (hr : Hid (eqb (band v m) zero = true)) (w : World) :
    Calls Try.prog 88 #[N op, Vl v m l g, Vl v' m' l' g'] w fun e w' => e = .returned (.tuple #[Vl (rk op v m l g v' m' l' g').1 (rk op v m l g v' m' l' g').2.1 (rk op v m l g v' m' l' g').2.2.1 (rk op v m l g v' m' l' g').2.2.2, N 0]) ∧ Below w.heap.size w w' := by
  have HS : Hid (∀ w, Calls Try.prog 112 #[N op, Vl v m l g, Vl v' m' l' g'] w fun e w' => e = .returned (Vl (rk op v m l g v' m' l' g').1 (rk op v m l g v' m' l' g').2.1 (rk op v m l g v' m' l' g').2.2.1 (rk op v m l g v' m' l' g').2.2.2) ∧ Below w.heap.size w w') := fun w => shift_is hop v' m' l' g' hr w
  generalize rk op v m l g v' m' l' g' = S at HS ⊢
  obtain ⟨sa, sb, sc, sd⟩ := S
  rcases hop with rfl | rfl
  all_goals
    go_enter Try.func88, Try.ntmps88
    go_wp2_with fail
    refine (HS.out _).mono ?_
    rintro e w1 ⟨rfl, hb1⟩
    have hK := ((((Kp.start w).add4 _ _ _ _ _).add4 _ _ _ _ _).add4 _ _ _ _ _).keep hb1
    simp only [World.size_alloc] at hK
    obtain ⟨r0, r1, r2, r3, r4, r5, r6, r7, r8⟩ := hK.box.head.four
    obtain ⟨b0, b1, b2, b3, b4, b5, b6, b7, b8⟩ := hK.box.tail.head.four
    obtain ⟨a0, a1, a2, a3, a4, a5, a6, a7, a8⟩ := hK.box.tail.tail.head.four
    go_wp2_with fail
    exact bodyPost_ret (v := .tuple #[Vl sa sb sc sd, N 0]) (by simp [results, Try.results88, go_sem, r0, r1, r2, r3]) rfl ⟨rfl, (hK.set4 0 rfl).bel⟩
set_option maxRecDepth 100000 in
set_option maxHeartbeats 1000000 in
theorem reckon_two {op : Int} (hop : Hid (2 ≤ op ∧ op ≤ 7)) {v m l g v' m' l' g' : BitVec 64} (hr : Hid ((eqb (band v m) zero && eqb (band v' m') zero) = true)) (w : World) :
    Calls Try.prog 88 #[N op, Vl v m l g, Vl v' m' l' g'] w fun e w' => e = .returned (.tuple #[Vl (rk op v m l g v' m' l' g').1 (rk op v m l g v' m' l' g').2.1 (rk op v m l g v' m' l' g').2.2.1 (rk op v m l g v' m' l' g').2.2.2, N 0]) ∧ Below w.heap.size w w' := by
  have h8 : (op == 8) = false := by have := hop.out; simp; omega
  have h9 : (op == 9) = false := by have := hop.out; simp; omega
  have Hk : Hid (rk op v m l g v' m' l' g' = ((twoP op v m v' m').1, (twoP op v m v' m').2, (boundsP op l g l' g').1, (boundsP op l g l' g').2)) := by
    show _ = _
    unfold rk; rw [if_neg (by have := hop.out; omega), if_neg (by have := hop.out; omega)]
  rw [Hk.out]
  have HT : Hid (∀ w, Calls Try.prog 28 #[N op, Bt v m, Bt v' m'] w fun e w' => e = .returned (.tuple #[Bt (twoP op v m v' m').1 (twoP op v m v' m').2, N 0]) ∧ Below w.heap.size w w') := fun w => two_ok hr hop.out w
  have HB : Hid (∀ w, Calls Try.prog 113 #[N op, Vl v m l g, Vl v' m' l' g'] w fun e w' => e = .returned (.tuple #[U (boundsP op l g l' g').1, U (boundsP op l g l' g').2]) ∧ Below w.heap.size w w') := fun w => bounds_any hop v m l g v' m' l' g' w
  clear Hk
  generalize twoP op v m v' m' = T at HT ⊢
  generalize boundsP op l g l' g' = B at HB ⊢
  obtain ⟨ta, tb⟩ := T
  obtain ⟨ba, bb⟩ := B
  go_enter Try.func88, Try.ntmps88
  go_wp2_with fail
  refine (HT.out _).mono ?_
  rintro e w1 ⟨rfl, hb1⟩
  have hK := ((((Kp.start w).add4 _ _ _ _ _).add4 _ _ _ _ _).add4 _ _ _ _ _).keep hb1
  simp only [World.size_alloc] at hK
  obtain ⟨r0, r1, r2, r3, r4, r5, r6, r7, r8⟩ := hK.box.head.four
  obtain ⟨b0, b1, b2, b3, b4, b5, b6, b7, b8⟩ := hK.box.tail.head.four
  obtain ⟨a0, a1, a2, a3, a4, a5, a6, a7, a8⟩ := hK.box.tail.tail.head.four
  go_wp2_with fail
  refine (HB.out _).mono ?_
  rintro e w2 ⟨rfl, hb2⟩
  have hK2 := (hK.add2 _ _ _).keep hb2
  clear r0 r1 r2 r3 r4 r5 r6 r7 r8 b0 b1 b2 b3 b4 b5 b6 b7 b8 a0 a1 a2 a3 a4 a5 a6 a7 a8
  obtain ⟨k0, k1, k2, k3, k4⟩ := hK2.box.head.two
  obtain ⟨r0, r1, r2, r3, r4, r5, r6, r7, r8⟩ := hK2.box.tail.head.four
  obtain ⟨b0, b1, b2, b3, b4, b5, b6, b7, b8⟩ := hK2.box.tail.tail.head.four
  obtain ⟨a0, a1, a2, a3, a4, a5, a6, a7, a8⟩ := hK2.box.tail.tail.tail.head.four
  go_wp2_with fail
  exact bodyPost_ret (v := .tuple #[Vl ta tb ba bb, N 0]) (by simp [results, Try.results88, go_sem, r0, r1, r2, r3]) rfl ⟨rfl, (hK2.set4 1 rfl).bel⟩
set_option maxRecDepth 100000 in
set_option maxHeartbeats 1000000 in
theorem reckon_kind {op : Int} (hop : Hid (op < 2 ∨ 9 < op)) {v m l g v' m' l' g' : BitVec 64} (hr : Hid ((eqb (band v m) zero && eqb (band v' m') zero) = true)) (w : World) :
    Calls Try.prog 88 #[N op, Vl v m l g, Vl v' m' l' g'] w fun e w' => e = .returned (.tuple #[V0, N 4]) ∧ Below w.heap.size w w' := by
  have h8 : (op == 8) = false := by have := hop.out; simp; omega
  have h9 : (op == 9) = false := by have := hop.out; simp; omega
  have HT : Hid (∀ w, Calls Try.prog 28 #[N op, Bt v m, Bt v' m'] w fun e w' => e = .returned (.tuple #[Bt zero zero, N 4]) ∧ Below w.heap.size w w') := fun w => two_kind hr (by have := hop.out; omega) w
  go_enter Try.func88, Try.ntmps88
  go_wp2_with fail
  refine (HT.out _).mono ?_
  rintro e w1 ⟨rfl, hb1⟩
  have hK := ((((Kp.start w).add4 _ _ _ _ _).add4 _ _ _ _ _).add4 _ _ _ _ _).keep hb1
  simp only [World.size_alloc] at hK
  obtain ⟨r0, r1, r2, r3, r4, r5, r6, r7, r8⟩ := hK.box.head.four
  obtain ⟨b0, b1, b2, b3, b4, b5, b6, b7, b8⟩ := hK.box.tail.head.four
  obtain ⟨a0, a1, a2, a3, a4, a5, a6, a7, a8⟩ := hK.box.tail.tail.head.four
  go_wp2_with fail
  exact bodyPost_ret (v := .tuple #[V0, N 4]) (by simp [results, Try.results88, go_sem, nv_zero, r0, r1, r2, r3, r8]) rfl ⟨rfl, ((hK.set4 0 rfl).add2 _ _ _).bel⟩

end Go.Proofs.Ytkigmocchaikgaa

/- The contracts of package calc's checkAll and Two. -/
namespace Go.Proofs.Ytkigmocchaikgaa
open Go.RowKit
attribute [local go_sem] w_and w_or w_xor w_andNot w_and1 w_and63 w_add w_sub w_mul w_sub1 w_add1 w_shl w_shl1 w_shr c_beq c_bne c_beq0 c_bne0 c_beq1 c_bne1 wrap_nv

set_option maxRecDepth 100000 in
set_option maxHeartbeats 1000000 in
theorem vcheck2 {v m l g v' m' l' g' : BitVec 64} {r1 r2 : Bool} (h1 : Hid (valB v m l g = r1)) (h2 : Hid (valB v' m' l' g' = r2)) {b c : Nat} {w : World} (hbw : b < w.heap.size)
    (c0 : w.cell? ⟨b, 0, none⟩ = some (U v)) (c1 : w.cell? ⟨b, 1, none⟩ = some (U m)) (c2 : w.cell? ⟨b, 2, none⟩ = some (U l)) (c3 : w.cell? ⟨b, 3, none⟩ = some (U g))
    (c4 : w.cell? ⟨b, 4, none⟩ = some (U v')) (c5 : w.cell? ⟨b, 5, none⟩ = some (U m')) (c6 : w.cell? ⟨b, 6, none⟩ = some (U l')) (c7 : w.cell? ⟨b, 7, none⟩ = some (U g')) :
    Calls Try.prog 87 #[.slice (some ⟨b, 0, none⟩) 2 c] w fun e w' => e = .returned (N (er (r1 && r2))) ∧ Below w.heap.size w w' := by
  go_enter Try.func87, Try.ntmps87
  go_wp2_with fail
  refine wp_loop_rounds 3 ?_
  rw [rounds_succ]
  go_wp2_with fail
  refine (checkV h1.out _).mono ?_
  rintro e w1 ⟨rfl, hb1⟩
  obtain ⟨hc1, hf1, hs1⟩ := bk (b + 1) hb1 (by simp; omega)
  cases r1
  · rw [er_f]
    go_wp2_with fail
    go_ret
    exact ⟨rfl, (by repeat (first | exact Below.refl _ _ | assumption | refine below_drewN ?_ _ | refine Below.drew ?_ | refine Below.alloc ?_ (by first | exact Nat.le_refl _ | (simp; done) | (simp; omega) | omega) _ | refine Below.setCell ?_ (by first | exact Nat.le_refl _ | (simp; done) | (simp; omega) | omega) _ | refine Below.trans ?_ (Below.mono (by assumption) (by first | exact Nat.le_refl _ | (simp; done) | (simp; omega) | omega))))⟩
  · rw [er_t]
    go_wp2_with fail
    rw [rounds_succ]
    go_wp2_with fail
    refine (checkV h2.out _).mono ?_
    rintro e w2 ⟨rfl, hb2⟩
    have hz1 : w.heap.size ≤ w1.heap.size := Nat.le_trans (by simp) hb1.size
    cases r2
    · rw [er_f]
      go_wp2_with fail
      go_ret
      exact ⟨rfl, (by repeat (first | exact Below.refl _ _ | assumption | refine below_drewN ?_ _ | refine Below.drew ?_ | refine Below.alloc ?_ (by first | exact Nat.le_refl _ | (simp; done) | (simp; omega) | omega) _ | refine Below.setCell ?_ (by first | exact Nat.le_refl _ | (simp; done) | (simp; omega) | omega) _ | refine Below.trans ?_ (Below.mono (by assumption) (by first | exact Nat.le_refl _ | (simp; done) | (simp; omega) | omega))))⟩
    · rw [er_t]
      go_wp2_with fail
      rw [rounds_succ]
      go_wp2_with fail
      go_ret
      exact ⟨rfl, (by repeat (first | exact Below.refl _ _ | assumption | refine below_drewN ?_ _ | refine Below.drew ?_ | refine Below.alloc ?_ (by first | exact Nat.le_refl _ | (simp; done) | (simp; omega) | omega) _ | refine Below.setCell ?_ (by first | exact Nat.le_refl _ | (simp; done) | (simp; omega) | omega) _ | refine Below.trans ?_ (Below.mono (by assumption) (by first | exact Nat.le_refl _ | (simp; done) | (simp; omega) | omega))))⟩

theorem two_checked {v m l g v' m' l' g' : BitVec 64} (hr : (valB v m l g && valB v' m' l' g') = true) : (eqb (band v m) zero && eqb (band v' m') zero) = true := by
  rw [Bool.and_eq_true] at hr
  rw [(rt_iff _ _).2 (val_facts hr.1).1, (rt_iff _ _).2 (val_facts hr.2).1]; rfl
set_option maxRecDepth 100000 in
set_option maxHeartbeats 1000000 in
theorem calcTwo_wrong {op : Int} {v m l g v' m' l' g' : BitVec 64} (hr : Hid ((valB v m l g && valB v' m' l' g') = false)) (w : World) :
    Calls Try.prog 46 #[N op, Vl v m l g, Vl v' m' l' g'] w fun e w' => e = .returned (.tuple #[V0, N 1]) ∧ Below w.heap.size w w' := by
  obtain ⟨z1, H1⟩ : ∃ b, Hid (valB v m l g = b) := ⟨_, rfl⟩
  obtain ⟨z2, H2⟩ : ∃ b, Hid (valB v' m' l' g' = b) := ⟨_, rfl⟩
  rw [H1.out, H2.out] at hr
  go_enter Try.func46, Try.ntmps46
  go_wp2_with fail
  refine (vcheck2 H1 H2 (by simp) (by simp [go_sem]) (by simp [go_sem]) (by simp [go_sem]) (by simp [go_sem]) (by simp [go_sem]) (by simp [go_sem]) (by simp [go_sem]) (by simp [go_sem])).mono ?_
  rw [hr.out, er_f]
  rintro e w1 ⟨rfl, hb1⟩
  have hK := (((((Kp.start w).add4 _ _ _ _ _).add4 _ _ _ _ _).add4 _ _ _ _ _).keep ((Below.refl _ _).alloc (Nat.le_refl _) _)).keep hb1
  simp only [World.size_alloc] at hK
  obtain ⟨r0, r1, r2, r3, r4, r5, r6, r7, r8⟩ := hK.box.head.four
  obtain ⟨b0, b1, b2, b3, b4, b5, b6, b7, b8⟩ := hK.box.tail.head.four
  obtain ⟨a0, a1, a2, a3, a4, a5, a6, a7, a8⟩ := hK.box.tail.tail.head.four
  go_wp2_with fail
  exact bodyPost_ret (v := .tuple #[V0, N 1]) (by simp [results, Try.results46, go_sem, nv_zero, r0, r1, r2, r3]) rfl ⟨rfl, (hK.set4 0 rfl).bel⟩

set_option maxRecDepth 100000 in
set_option maxHeartbeats 1000000 in
theorem calcTwo_kind {op : Int} (hop : Hid (op < 2 ∨ 9 < op)) {v m l g v' m' l' g' : BitVec 64} (hr : Hid ((valB v m l g && valB v' m' l' g') = true))  (w : World) :
    Calls Try.prog 46 #[N op, Vl v m l g, Vl v' m' l' g'] w fun e w' => e = .returned (.tuple #[V0, N 4]) ∧ Below w.heap.size w w' := by
  obtain ⟨z1, H1⟩ : ∃ b, Hid (valB v m l g = b) := ⟨_, rfl⟩
  obtain ⟨z2, H2⟩ : ∃ b, Hid (valB v' m' l' g' = b) := ⟨_, rfl⟩
  have HR : Hid (∀ w, Calls Try.prog 88 #[N op, Vl v m l g, Vl v' m' l' g'] w fun e w' => e = .returned (.tuple #[V0, N 4]) ∧ Below w.heap.size w w') := fun w => reckon_kind hop (two_checked hr.out) w
  rw [H1.out, H2.out] at hr
  go_enter Try.func46, Try.ntmps46
  go_wp2_with fail
  refine (vcheck2 H1 H2 (by simp) (by simp [go_sem]) (by simp [go_sem]) (by simp [go_sem]) (by simp [go_sem]) (by simp [go_sem]) (by simp [go_sem]) (by simp [go_sem]) (by simp [go_sem])).mono ?_
  rw [hr.out, er_t]
  rintro e w1 ⟨rfl, hb1⟩
  have hK := (((((Kp.start w).add4 _ _ _ _ _).add4 _ _ _ _ _).add4 _ _ _ _ _).keep ((Below.refl _ _).alloc (Nat.le_refl _) _)).keep hb1
  simp only [World.size_alloc] at hK
  obtain ⟨r0, r1, r2, r3, r4, r5, r6, r7, r8⟩ := hK.box.head.four
  obtain ⟨b0, b1, b2, b3, b4, b5, b6, b7, b8⟩ := hK.box.tail.head.four
  obtain ⟨a0, a1, a2, a3, a4, a5, a6, a7, a8⟩ := hK.box.tail.tail.head.four
  go_wp2_with fail
  refine (HR.out _).mono ?_
  rintro e w2 ⟨rfl, hb2⟩
  have hK2 := hK.keep hb2
  clear r0 r1 r2 r3 r4 r5 r6 r7 r8 b0 b1 b2 b3 b4 b5 b6 b7 b8 a0 a1 a2 a3 a4 a5 a6 a7 a8
  obtain ⟨r0, r1, r2, r3, r4, r5, r6, r7, r8⟩ := hK2.box.head.four
  obtain ⟨b0, b1, b2, b3, b4, b5, b6, b7, b8⟩ := hK2.box.tail.head.four
  obtain ⟨a0, a1, a2, a3, a4, a5, a6, a7, a8⟩ := hK2.box.tail.tail.head.four
  go_wp2_with fail
  exact bodyPost_ret (v := .tuple #[V0, N 4]) (by simp [results, Try.results46, go_sem, nv_zero, r0, r1, r2, r3, r8]) rfl ⟨rfl, ((hK2.set4 0 rfl).add4 _ _ _ _ _).bel⟩

set_option maxRecDepth 100000 in
set_option maxHeartbeats 1000000 in
theorem calcTwo_none {op : Int}  {v m l g v' m' l' g' : BitVec 64} (hr : Hid ((valB v m l g && valB v' m' l' g') = true)) (hop : Hid (2 ≤ op ∧ op ≤ 9)) (hrr : Hid (eqb (band (rk op v m l g v' m' l' g').1 (rk op v m l g v' m' l' g').2.1) zero = true)) (ho : Hid (normOk (rk op v m l g v' m' l' g').1 (rk op v m l g v' m' l' g').2.1 (rk op v m l g v' m' l' g').2.2.1 (rk op v m l g v' m' l' g').2.2.2 = false)) (w : World) :
    Calls Try.prog 46 #[N op, Vl v m l g, Vl v' m' l' g'] w fun e w' => e = .returned (.tuple #[V0, N 0]) ∧ Below w.heap.size w w' := by
  obtain ⟨z1, H1⟩ : ∃ b, Hid (valB v m l g = b) := ⟨_, rfl⟩
  obtain ⟨z2, H2⟩ : ∃ b, Hid (valB v' m' l' g' = b) := ⟨_, rfl⟩
  have hb := two_checked hr.out
  have hb' := hb
  rw [Bool.and_eq_true] at hb'
  have HR : Hid (∀ w, Calls Try.prog 88 #[N op, Vl v m l g, Vl v' m' l' g'] w fun e w' => e = .returned (.tuple #[Vl (rk op v m l g v' m' l' g').1 (rk op v m l g v' m' l' g').2.1 (rk op v m l g v' m' l' g').2.2.1 (rk op v m l g v' m' l' g').2.2.2, N 0]) ∧ Below w.heap.size w w') := fun w => by
    by_cases h : op = 8 ∨ op = 9
    · exact reckon_shift h v' m' l' g' hb'.1 w
    · exact reckon_two (hid (by have := hop.out; omega)) hb w
  clear hb hb' hop
  generalize rk op v m l g v' m' l' g' = S at HR hrr ho ⊢
  obtain ⟨sa, sb, sc, sd⟩ := S
  dsimp only at HR hrr ho ⊢
  have HN : Hid (∀ w, Calls Try.prog 31 #[Vl sa sb sc sd] w fun e w' => e = .returned (.tuple #[V0, .bool false, N 0]) ∧ Below w.heap.size w w') := fun w => norm_none hrr ho w
  rw [H1.out, H2.out] at hr
  go_enter Try.func46, Try.ntmps46
  go_wp2_with fail
  refine (vcheck2 H1 H2 (by simp) (by simp [go_sem]) (by simp [go_sem]) (by simp [go_sem]) (by simp [go_sem]) (by simp [go_sem]) (by simp [go_sem]) (by simp [go_sem]) (by simp [go_sem])).mono ?_
  rw [hr.out, er_t]
  rintro e w1 ⟨rfl, hb1⟩
  have hK := (((((Kp.start w).add4 _ _ _ _ _).add4 _ _ _ _ _).add4 _ _ _ _ _).keep ((Below.refl _ _).alloc (Nat.le_refl _) _)).keep hb1
  simp only [World.size_alloc] at hK
  obtain ⟨r0, r1, r2, r3, r4, r5, r6, r7, r8⟩ := hK.box.head.four
  obtain ⟨b0, b1, b2, b3, b4, b5, b6, b7, b8⟩ := hK.box.tail.head.four
  obtain ⟨a0, a1, a2, a3, a4, a5, a6, a7, a8⟩ := hK.box.tail.tail.head.four
  go_wp2_with fail
  refine (HR.out _).mono ?_
  rintro e w2 ⟨rfl, hb2⟩
  have hK2 := hK.keep hb2
  clear r0 r1 r2 r3 r4 r5 r6 r7 r8 b0 b1 b2 b3 b4 b5 b6 b7 b8 a0 a1 a2 a3 a4 a5 a6 a7 a8
  obtain ⟨r0, r1, r2, r3, r4, r5, r6, r7, r8⟩ := hK2.box.head.four
  obtain ⟨b0, b1, b2, b3, b4, b5, b6, b7, b8⟩ := hK2.box.tail.head.four
  obtain ⟨a0, a1, a2, a3, a4, a5, a6, a7, a8⟩ := hK2.box.tail.tail.head.four
  go_wp2_with fail
  refine (HN.out _).mono ?_
  rintro e w3 ⟨rfl, hb3⟩
  have hK3 := (hK2.add4 _ _ _ _ _).keep hb3
  clear r0 r1 r2 r3 r4 r5 r6 r7 r8 b0 b1 b2 b3 b4 b5 b6 b7 b8 a0 a1 a2 a3 a4 a5 a6 a7 a8
  obtain ⟨k0, k1, k2, k3, k4, k5, k6, k7, k8⟩ := hK3.box.head.four
  obtain ⟨r0, r1, r2, r3, r4, r5, r6, r7, r8⟩ := hK3.box.tail.head.four
  obtain ⟨b0, b1, b2, b3, b4, b5, b6, b7, b8⟩ := hK3.box.tail.tail.head.four
  obtain ⟨a0, a1, a2, a3, a4, a5, a6, a7, a8⟩ := hK3.box.tail.tail.tail.head.four
  go_wp2_with fail
  exact bodyPost_ret (v := .tuple #[V0, N 0]) (by simp [results, Try.results46, go_sem, nv_zero, r0, r1, r2, r3, r8]) rfl ⟨rfl, ((hK3.set4 1 rfl).add4 _ _ _ _ _).bel⟩

set_option maxRecDepth 100000 in
set_option maxHeartbeats 1000000 in
theorem calcTwo_yes {op : Int}  {v m l g v' m' l' g' : BitVec 64} (hr : Hid ((valB v m l g && valB v' m' l' g') = true)) (hop : Hid (2 ≤ op ∧ op ≤ 9)) (hrr : Hid (eqb (band (rk op v m l g v' m' l' g').1 (rk op v m l g v' m' l' g').2.1) zero = true)) (ho : Hid (normOk (rk op v m l g v' m' l' g').1 (rk op v m l g v' m' l' g').2.1 (rk op v m l g v' m' l' g').2.2.1 (rk op v m l g v' m' l' g').2.2.2 = true)) (w : World) :
    Calls Try.prog 46 #[N op, Vl v m l g, Vl v' m' l' g'] w fun e w' => e = .returned (.tuple #[Vl (nV (rk op v m l g v' m' l' g').1 (rk op v m l g v' m' l' g').2.1 (rk op v m l g v' m' l' g').2.2.1 (rk op v m l g v' m' l' g').2.2.2) (nM (rk op v m l g v' m' l' g').2.1 (nLo (rk op v m l g v' m' l' g').1 (rk op v m l g v' m' l' g').2.1 (rk op v m l g v' m' l' g').2.2.1) (nHi (rk op v m l g v' m' l' g').1 (rk op v m l g v' m' l' g').2.1 (rk op v m l g v' m' l' g').2.2.2)) (nLo (rk op v m l g v' m' l' g').1 (rk op v m l g v' m' l' g').2.1 (rk op v m l g v' m' l' g').2.2.1) (nHi (rk op v m l g v' m' l' g').1 (rk op v m l g v' m' l' g').2.1 (rk op v m l g v' m' l' g').2.2.2), N 0]) ∧ Below w.heap.size w w' := by
  obtain ⟨z1, H1⟩ : ∃ b, Hid (valB v m l g = b) := ⟨_, rfl⟩
  obtain ⟨z2, H2⟩ : ∃ b, Hid (valB v' m' l' g' = b) := ⟨_, rfl⟩
  have hb := two_checked hr.out
  have hb' := hb
  rw [Bool.and_eq_true] at hb'
  have HR : Hid (∀ w, Calls Try.prog 88 #[N op, Vl v m l g, Vl v' m' l' g'] w fun e w' => e = .returned (.tuple #[Vl (rk op v m l g v' m' l' g').1 (rk op v m l g v' m' l' g').2.1 (rk op v m l g v' m' l' g').2.2.1 (rk op v m l g v' m' l' g').2.2.2, N 0]) ∧ Below w.heap.size w w') := fun w => by
    by_cases h : op = 8 ∨ op = 9
    · exact reckon_shift h v' m' l' g' hb'.1 w
    · exact reckon_two (hid (by have := hop.out; omega)) hb w
  clear hb hb' hop
  generalize rk op v m l g v' m' l' g' = S at HR hrr ho ⊢
  obtain ⟨sa, sb, sc, sd⟩ := S
  dsimp only at HR hrr ho ⊢
  have HN : Hid (∀ w, Calls Try.prog 31 #[Vl sa sb sc sd] w fun e w' => e = .returned (.tuple #[Vl (nV sa sb sc sd) (nM sb (nLo sa sb sc) (nHi sa sb sd)) (nLo sa sb sc) (nHi sa sb sd), .bool true, N 0]) ∧ Below w.heap.size w w') := fun w => norm_yes hrr ho w
  generalize nV sa sb sc sd = na at HN ⊢
  generalize nM sb (nLo sa sb sc) (nHi sa sb sd) = nb at HN ⊢
  generalize nLo sa sb sc = nc at HN ⊢
  generalize nHi sa sb sd = nd at HN ⊢
  rw [H1.out, H2.out] at hr
  go_enter Try.func46, Try.ntmps46
  go_wp2_with fail
  refine (vcheck2 H1 H2 (by simp) (by simp [go_sem]) (by simp [go_sem]) (by simp [go_sem]) (by simp [go_sem]) (by simp [go_sem]) (by simp [go_sem]) (by simp [go_sem]) (by simp [go_sem])).mono ?_
  rw [hr.out, er_t]
  rintro e w1 ⟨rfl, hb1⟩
  have hK := (((((Kp.start w).add4 _ _ _ _ _).add4 _ _ _ _ _).add4 _ _ _ _ _).keep ((Below.refl _ _).alloc (Nat.le_refl _) _)).keep hb1
  simp only [World.size_alloc] at hK
  obtain ⟨r0, r1, r2, r3, r4, r5, r6, r7, r8⟩ := hK.box.head.four
  obtain ⟨b0, b1, b2, b3, b4, b5, b6, b7, b8⟩ := hK.box.tail.head.four
  obtain ⟨a0, a1, a2, a3, a4, a5, a6, a7, a8⟩ := hK.box.tail.tail.head.four
  go_wp2_with fail
  refine (HR.out _).mono ?_
  rintro e w2 ⟨rfl, hb2⟩
  have hK2 := hK.keep hb2
  clear r0 r1 r2 r3 r4 r5 r6 r7 r8 b0 b1 b2 b3 b4 b5 b6 b7 b8 a0 a1 a2 a3 a4 a5 a6 a7 a8
  obtain ⟨r0, r1, r2, r3, r4, r5, r6, r7, r8⟩ := hK2.box.head.four
  obtain ⟨b0, b1, b2, b3, b4, b5, b6, b7, b8⟩ := hK2.box.tail.head.four
  obtain ⟨a0, a1, a2, a3, a4, a5, a6, a7, a8⟩ := hK2.box.tail.tail.head.four
  go_wp2_with fail
  refine (HN.out _).mono ?_
  rintro e w3 ⟨rfl, hb3⟩
  have hK3 := (hK2.add4 _ _ _ _ _).keep hb3
  clear r0 r1 r2 r3 r4 r5 r6 r7 r8 b0 b1 b2 b3 b4 b5 b6 b7 b8 a0 a1 a2 a3 a4 a5 a6 a7 a8
  obtain ⟨k0, k1, k2, k3, k4, k5, k6, k7, k8⟩ := hK3.box.head.four
  obtain ⟨r0, r1, r2, r3, r4, r5, r6, r7, r8⟩ := hK3.box.tail.head.four
  obtain ⟨b0, b1, b2, b3, b4, b5, b6, b7, b8⟩ := hK3.box.tail.tail.head.four
  obtain ⟨a0, a1, a2, a3, a4, a5, a6, a7, a8⟩ := hK3.box.tail.tail.tail.head.four
  go_wp2_with fail
  exact bodyPost_ret (v := .tuple #[Vl na nb nc nd, N 0]) (by simp [results, Try.results46, go_sem, r0, r1, r2, r3, r8]) rfl ⟨rfl, ((hK3.set4 1 rfl).add4 _ _ _ _ _).bel⟩

end Go.Proofs.Ytkigmocchaikgaa

/- The contracts of package calc's between and without. -/
namespace Go.Proofs.Ytkigmocchaikgaa
open Go.RowKit
attribute [local go_sem] w_and w_or w_xor w_andNot w_and1 w_and63 w_add w_sub w_mul w_sub1 w_add1 w_shl w_shl1 w_shr c_beq c_bne c_beq0 c_bne0 c_beq1 c_bne1 wrap_nv

set_option maxRecDepth 100000 in
set_option maxHeartbeats 1000000 in
theorem between_any (v m l g lo hi : BitVec 64) (w : World) :
    Calls Try.prog 97 #[Vl v m l g, U lo, U hi] w fun e w' => e = .returned (Vl v m (bmax l lo) (bmin g hi)) ∧ Below w.heap.size w w' := by
  by_cases h1 : nv l < nv lo <;> by_cases h2 : nv hi < nv g
  · have e1 : Hid (bmax l lo = lo) := if_pos h1
    have e2 : Hid (bmin g hi = hi) := if_pos h2
    rw [e1.out, e2.out]
    go_enter Try.func97, Try.ntmps97
    go_wp2_with fail
    exact bodyPost_ret (v := Vl v m lo hi) (by simp [results, Try.results97, go_sem]) rfl ⟨rfl, (by repeat (first | exact Below.refl _ _ | assumption | refine below_drewN ?_ _ | refine Below.drew ?_ | refine Below.alloc ?_ (by first | exact Nat.le_refl _ | (simp; done) | (simp; omega) | omega) _ | refine Below.setCell ?_ (by first | exact Nat.le_refl _ | (simp; done) | (simp; omega) | omega) _ | refine Below.trans ?_ (Below.mono (by assumption) (by first | exact Nat.le_refl _ | (simp; done) | (simp; omega) | omega))))⟩
  · have e1 : Hid (bmax l lo = lo) := if_pos h1
    have e2 : Hid (bmin g hi = g) := if_neg h2
    have h2' : nv g ≤ nv hi := by omega
    clear h2
    rw [e1.out, e2.out]
    go_enter Try.func97, Try.ntmps97
    go_wp2_with fail
    exact bodyPost_ret (v := Vl v m lo g) (by simp [results, Try.results97, go_sem]) rfl ⟨rfl, (by repeat (first | exact Below.refl _ _ | assumption | refine below_drewN ?_ _ | refine Below.drew ?_ | refine Below.alloc ?_ (by first | exact Nat.le_refl _ | (simp; done) | (simp; omega) | omega) _ | refine Below.setCell ?_ (by first | exact Nat.le_refl _ | (simp; done) | (simp; omega) | omega) _ | refine Below.trans ?_ (Below.mono (by assumption) (by first | exact Nat.le_refl _ | (simp; done) | (simp; omega) | omega))))⟩
  · have e1 : Hid (bmax l lo = l) := if_neg h1
    have e2 : Hid (bmin g hi = hi) := if_pos h2
    have h1' : nv lo ≤ nv l := by omega
    clear h1
    rw [e1.out, e2.out]
    go_enter Try.func97, Try.ntmps97
    go_wp2_with fail
    exact bodyPost_ret (v := Vl v m l hi) (by simp [results, Try.results97, go_sem]) rfl ⟨rfl, (by repeat (first | exact Below.refl _ _ | assumption | refine below_drewN ?_ _ | refine Below.drew ?_ | refine Below.alloc ?_ (by first | exact Nat.le_refl _ | (simp; done) | (simp; omega) | omega) _ | refine Below.setCell ?_ (by first | exact Nat.le_refl _ | (simp; done) | (simp; omega) | omega) _ | refine Below.trans ?_ (Below.mono (by assumption) (by first | exact Nat.le_refl _ | (simp; done) | (simp; omega) | omega))))⟩
  · have e1 : Hid (bmax l lo = l) := if_neg h1
    have e2 : Hid (bmin g hi = g) := if_neg h2
    have h1' : nv lo ≤ nv l := by omega
    have h2' : nv g ≤ nv hi := by omega
    clear h1 h2
    rw [e1.out, e2.out]
    go_enter Try.func97, Try.ntmps97
    go_wp2_with fail
    exact bodyPost_ret (v := Vl v m l g) (by simp [results, Try.results97, go_sem]) rfl ⟨rfl, (by repeat (first | exact Below.refl _ _ | assumption | refine below_drewN ?_ _ | refine Below.drew ?_ | refine Below.alloc ?_ (by first | exact Nat.le_refl _ | (simp; done) | (simp; omega) | omega) _ | refine Below.setCell ?_ (by first | exact Nat.le_refl _ | (simp; done) | (simp; omega) | omega) _ | refine Below.trans ?_ (Below.mono (by assumption) (by first | exact Nat.le_refl _ | (simp; done) | (simp; omega) | omega))))⟩

def woL (l l' h' : BitVec 64) : BitVec 64 := if eqb l' h' && eqb l l' then badd l one else l
def woH (l h l' h' : BitVec 64) : BitVec 64 := if eqb l' h' && (!eqb l l' && eqb h l') then bsub h one else h
set_option maxRecDepth 100000 in
set_option maxHeartbeats 1000000 in
theorem without_is (v m l g v' m' l' g' : BitVec 64) (w : World) :
    Calls Try.prog 95 #[Vl v m l g, Vl v' m' l' g'] w fun e w' => e = .returned (Vl v m (woL l l' g') (woH l g l' g')) ∧ Below w.heap.size w w' := by
  have H1 : Hid (woL l l' g' = if eqb l' g' && eqb l l' then badd l one else l) := rfl
  have H2 : Hid (woH l g l' g' = if eqb l' g' && (!eqb l l' && eqb g l') then bsub g one else g) := rfl
  obtain ⟨z1, ha⟩ : ∃ b, Hid (eqb l' g' = b) := ⟨_, rfl⟩
  obtain ⟨z2, hb⟩ : ∃ b, eqb l l' = b := ⟨_, rfl⟩
  obtain ⟨z3, hc⟩ : ∃ b, eqb g l' = b := ⟨_, rfl⟩
  rw [ha.out, hb] at H1
  rw [ha.out, hb, hc] at H2
  cases z1
  · rw [H1.out, H2.out]
    go_enter Try.func95, Try.ntmps95
    go_wp2_with fail
    refine (alone_is ha.out _).mono ?_
    rintro e w1 ⟨rfl, hb1⟩
    have hK := ((((Kp.start w).add4 _ _ _ _ _).add4 _ _ _ _ _).add4 _ _ _ _ _).keep hb1
    simp only [World.size_alloc] at hK
    obtain ⟨r0, r1, r2, r3, r4, r5, r6, r7, r8⟩ := hK.box.head.four
    obtain ⟨b0, b1, b2, b3, b4, b5, b6, b7, b8⟩ := hK.box.tail.head.four
    obtain ⟨a0, a1, a2, a3, a4, a5, a6, a7, a8⟩ := hK.box.tail.tail.head.four
    go_wp2_with fail
    exact bodyPost_ret (v := Vl v m l g) (by simp [results, Try.results95, go_sem, r0, r1, r2, r3]) rfl ⟨rfl, (hK.set4 0 rfl).bel⟩
  · cases z2
    · cases z3
      · rw [H1.out, H2.out]
        go_enter Try.func95, Try.ntmps95
        go_wp2_with fail
        refine (alone_is ha.out _).mono ?_
        rintro e w1 ⟨rfl, hb1⟩
        have hK := ((((Kp.start w).add4 _ _ _ _ _).add4 _ _ _ _ _).add4 _ _ _ _ _).keep hb1
        simp only [World.size_alloc] at hK
        obtain ⟨r0, r1, r2, r3, r4, r5, r6, r7, r8⟩ := hK.box.head.four
        obtain ⟨b0, b1, b2, b3, b4, b5, b6, b7, b8⟩ := hK.box.tail.head.four
        obtain ⟨a0, a1, a2, a3, a4, a5, a6, a7, a8⟩ := hK.box.tail.tail.head.four
        go_wp2_with fail
        exact bodyPost_ret (v := Vl v m l g) (by simp [results, Try.results95, go_sem, r0, r1, r2, r3]) rfl ⟨rfl, (hK.set4 0 rfl).bel⟩
      · rw [H1.out, H2.out]
        go_enter Try.func95, Try.ntmps95
        go_wp2_with fail
        refine (alone_is ha.out _).mono ?_
        rintro e w1 ⟨rfl, hb1⟩
        have hK := ((((Kp.start w).add4 _ _ _ _ _).add4 _ _ _ _ _).add4 _ _ _ _ _).keep hb1
        simp only [World.size_alloc] at hK
        obtain ⟨r0, r1, r2, r3, r4, r5, r6, r7, r8⟩ := hK.box.head.four
        obtain ⟨b0, b1, b2, b3, b4, b5, b6, b7, b8⟩ := hK.box.tail.head.four
        obtain ⟨a0, a1, a2, a3, a4, a5, a6, a7, a8⟩ := hK.box.tail.tail.head.four
        go_wp2_with fail
        refine bodyPost_ret (v := Vl v m l (bsub g one)) (by simp [results, Try.results95, go_sem, r0, r1, r2, r3]) rfl ⟨rfl, ?_⟩
        exact ((((hK.bel.setCell (by dsimp only; omega) _).setCell (by dsimp only; omega) _).setCell (by dsimp only; omega) _).setCell (by dsimp only; omega) _).setCell (by dsimp only; omega) _
    · rw [H1.out, H2.out]
      go_enter Try.func95, Try.ntmps95
      go_wp2_with fail
      refine (alone_is ha.out _).mono ?_
      rintro e w1 ⟨rfl, hb1⟩
      have hK := ((((Kp.start w).add4 _ _ _ _ _).add4 _ _ _ _ _).add4 _ _ _ _ _).keep hb1
      simp only [World.size_alloc] at hK
      obtain ⟨r0, r1, r2, r3, r4, r5, r6, r7, r8⟩ := hK.box.head.four
      obtain ⟨b0, b1, b2, b3, b4, b5, b6, b7, b8⟩ := hK.box.tail.head.four
      obtain ⟨a0, a1, a2, a3, a4, a5, a6, a7, a8⟩ := hK.box.tail.tail.head.four
      go_wp2_with fail
      refine bodyPost_ret (v := Vl v m (badd l one) g) (by simp [results, Try.results95, go_sem, r0, r1, r2, r3]) rfl ⟨rfl, ?_⟩
      exact ((((hK.bel.setCell (by dsimp only; omega) _).setCell (by dsimp only; omega) _).setCell (by dsimp only; omega) _).setCell (by dsimp only; omega) _).setCell (by dsimp only; omega) _

end Go.Proofs.Ytkigmocchaikgaa

/- What the one has and the other has, reckoned together, is within what reckon answers; what is left of both has them: plain facts. -/
namespace Go.Proofs.Ytkigmocchaikgaa

theorem has_facts {v m l h x : BitVec 64} (hx : hasV v m l h x = true) : valB v m l h = true ∧ RtB v m ∧ hasB v m x = true ∧ nv l ≤ nv x ∧ nv x ≤ nv h := by
  unfold hasV at hx
  simp only [Bool.and_eq_true, decide_eq_true_eq] at hx
  exact ⟨hx.1, (val_facts hx.1).1, hx.2.1, hx.2.2.1, hx.2.2.2⟩
theorem raw_mk {v m l h x : BitVec 64} (h1 : hasB v m x = true) (h2 : nv l ≤ nv x) (h3 : nv x ≤ nv h) : rawV v m l h x = true := by
  unfold rawV; rw [h1]; simp only [Bool.true_and, Bool.and_eq_true, decide_eq_true_eq]; exact ⟨h2, h3⟩
theorem top_has (x : BitVec 64) : RtB zero top ∧ hasB zero top x = true := by
  have hr : RtB zero top := zero_rt top
  refine ⟨hr, (hasB_iff _ _ _).2 ⟨hr, fun j hj => ?_⟩⟩
  rw [bit_top _ hj, bit_zero]; cases bit x j <;> rfl
theorem rk_sound {op : Int} (hop : 2 ≤ op ∧ op ≤ 9) {v m l h v' m' l' h' x y : BitVec 64} (hx : hasV v m l h x = true) (hy : hasV v' m' l' h' y = true) :
    RtB (rk op v m l h v' m' l' h').1 (rk op v m l h v' m' l' h').2.1 ∧ rawV (rk op v m l h v' m' l' h').1 (rk op v m l h v' m' l' h').2.1 (rk op v m l h v' m' l' h').2.2.1 (rk op v m l h v' m' l' h').2.2.2 (numN op x y) = true := by
  obtain ⟨_, r1, b1, p1, p2⟩ := has_facts hx
  obtain ⟨_, r2, b2, q1, q2⟩ := has_facts hy
  by_cases h8 : op = 8
  · subst h8
    have hn : numN 8 x y = bshl x (six y) := by unfold numN; rw [if_neg (by decide), if_neg (by decide), if_pos rfl]
    rw [hn]
    cases ha : eqb l' h'
    · have e : rk 8 v m l h v' m' l' h' = (zero, top, zero, top) := by unfold rk; rw [if_pos rfl, ha]; rfl
      rw [e]
      exact ⟨(top_has zero).1, raw_mk (top_has _).2 (ends _).1 (ends _).2⟩
    · have e : rk 8 v m l h v' m' l' h' = (bshl v (six l'), bshl m (six l'), (shlB l h (six l')).1, (shlB l h (six l')).2) := by unfold rk; rw [if_pos rfl, ha]; rfl
      have hl : y = l' := by
        have := (eqb_iff _ _).1 ha
        rw [← this] at q2
        exact nv_inj _ _ (by omega)
      rw [e, hl]
      exact ⟨shl_rt r1 _, raw_mk (sound_shl b1 _) (shl_bounds _ p1 p2).1 (shl_bounds _ p1 p2).2⟩
  · by_cases h9 : op = 9
    · subst h9
      have hn : numN 9 x y = bshr x (six y) := by unfold numN; rw [if_neg (by decide), if_neg (by decide), if_neg (by decide)]
      rw [hn]
      cases ha : eqb l' h'
      · have e : rk 9 v m l h v' m' l' h' = (zero, top, zero, h) := by unfold rk; rw [if_neg (by decide), if_pos rfl, ha]; rfl
        rw [e]
        exact ⟨(top_has zero).1, raw_mk (top_has _).2 (ends _).1 (Int.le_trans (shr_le _ _) p2)⟩
      · have e : rk 9 v m l h v' m' l' h' = (bshr v (six l'), bshr m (six l'), bshr l (six l'), bshr h (six l')) := by unfold rk; rw [if_neg (by decide), if_pos rfl, ha]; rfl
        have hl : y = l' := by
          have := (eqb_iff _ _).1 ha
          rw [← this] at q2
          exact nv_inj _ _ (by omega)
        rw [e, hl]
        have hs := sound_shr b1 (six l')
        exact ⟨((hasB_iff _ _ _).1 hs).1, raw_mk hs (shr_bounds _ p1 p2).1 (shr_bounds _ p1 p2).2⟩
    · have h27 : 2 ≤ op ∧ op ≤ 7 := by omega
      have hn : numN op x y = numB op x y := by unfold numN; rw [if_neg (by omega), if_pos h27]
      have e : rk op v m l h v' m' l' h' = ((twoP op v m v' m').1, (twoP op v m v' m').2, (boundsP op l h l' h').1, (boundsP op l h l' h').2) := by
        unfold rk; rw [if_neg h8, if_neg h9]
      rw [hn, e]
      exact ⟨two_rt h27, raw_mk (sound_two h27 b1 b2) (bounds_sound h27 p1 p2 q1 q2).1 (bounds_sound h27 p1 p2 q1 q2).2⟩

/- Equal -/
theorem left_equal {v m l h v' m' l' h' x : BitVec 64} (hx : hasV v m l h x = true) (hy : hasV v' m' l' h' x = true) :
    eqb (bandn (bxor v v') (bor m m')) zero = true ∧ RtB (bor v v') (band m m') ∧ rawV (bor v v') (band m m') (bmax l l') (bmin h h') x = true := by
  obtain ⟨_, r1, b1, p1, p2⟩ := has_facts hx
  obtain ⟨_, r2, b2, q1, q2⟩ := has_facts hy
  have hs := sound_meet (x := x) r1 r2
  rw [b1, b2] at hs
  have hs' := hs.symm
  rw [Bool.and_self, Bool.and_eq_true] at hs'
  exact ⟨hs'.1, ((hasB_iff _ _ _).1 hs'.2).1, raw_mk hs'.2 (bmax_le p1 q1) (le_bmin p2 q2)⟩
/- Other -/
theorem alone_eq {l h y : BitVec 64} (ha : eqb l h = true) (h1 : nv l ≤ nv y) (h2 : nv y ≤ nv h) : y = l := by
  have := (eqb_iff _ _).1 ha
  rw [← this] at h2
  exact nv_inj _ _ (by omega)
theorem left_other {v m l h v' m' l' h' x y : BitVec 64} (hx : hasV v m l h x = true) (hy : hasV v' m' l' h' y = true) (hne : x ≠ y) : rawV v m (woL l l' h') (woH l h l' h') x = true := by
  obtain ⟨_, r1, b1, p1, p2⟩ := has_facts hx
  obtain ⟨_, r2, b2, q1, q2⟩ := has_facts hy
  have hnv : nv x ≠ nv y := fun e => hne (nv_inj _ _ e)
  have hlt := nv_lt x
  have hge := nv_nonneg x
  have hgl := nv_nonneg l
  have hlh := nv_lt h
  refine raw_mk b1 ?_ ?_
  · unfold woL
    split
    · rename_i hc
      rw [Bool.and_eq_true] at hc
      have e1 := alone_eq hc.1 q1 q2
      have e2 := (eqb_iff _ _).1 hc.2
      rw [e1, ← e2] at hnv
      rw [nv_add, nv_one]
      omega
    · exact p1
  · unfold woH
    split
    · rename_i hc
      rw [Bool.and_eq_true, Bool.and_eq_true] at hc
      have e1 := alone_eq hc.1 q1 q2
      have e2 := (eqb_iff _ _).1 hc.2.2
      rw [e1, ← e2] at hnv
      rw [nv_sub, nv_one]
      omega
    · exact p2
theorem may_other {v m l h v' m' l' h' x y : BitVec 64} (hx : hasV v m l h x = true) (hy : hasV v' m' l' h' y = true) (hne : x ≠ y) : (eqb l h && (eqb l' h' && eqb l l')) = false := by
  obtain ⟨_, r1, b1, p1, p2⟩ := has_facts hx
  obtain ⟨_, r2, b2, q1, q2⟩ := has_facts hy
  cases hc : (eqb l h && (eqb l' h' && eqb l l'))
  · rfl
  · exfalso
    rw [Bool.and_eq_true, Bool.and_eq_true] at hc
    have e1 := alone_eq hc.1 p1 p2
    have e2 := alone_eq hc.2.1 q1 q2
    have e3 := (eqb_iff _ _).1 hc.2.2
    exact hne (by rw [e1, e2, e3])
/- Less -/
theorem left_less {v m l h v' m' l' h' x y : BitVec 64} (hx : hasV v m l h x = true) (hy : hasV v' m' l' h' y = true) (hlt : nv x < nv y) :
    eqb h' zero = false ∧ eqb l top = false ∧ rawV v m (bmax l l) (bmin h (bsub h' one)) x = true ∧ rawV v' m' (bmax l' (badd l one)) (bmin h' h') y = true := by
  obtain ⟨_, r1, b1, p1, p2⟩ := has_facts hx
  obtain ⟨_, r2, b2, q1, q2⟩ := has_facts hy
  have hx0 := nv_nonneg x
  have hy1 := nv_lt y
  have hl0 := nv_nonneg l
  have hh := nv_lt h'
  refine ⟨?_, ?_, raw_mk b1 (bmax_le p1 p1) (le_bmin p2 ?_), raw_mk b2 (bmax_le q1 ?_) (le_bmin q2 q2)⟩
  · rw [eqb_false]
    intro e
    rw [e, nv_zero] at q2
    omega
  · rw [eqb_false]
    intro e
    rw [e, nv_top] at p1
    omega
  · rw [nv_sub, nv_one]; omega
  · rw [nv_add, nv_one]; omega
/- NotLess -/
theorem left_notLess {v m l h v' m' l' h' x y : BitVec 64} (hx : hasV v m l h x = true) (hy : hasV v' m' l' h' y = true) (hle : nv y ≤ nv x) :
    rawV v m (bmax l l') (bmin h h) x = true ∧ rawV v' m' (bmax l' l') (bmin h' h) y = true := by
  obtain ⟨_, r1, b1, p1, p2⟩ := has_facts hx
  obtain ⟨_, r2, b2, q1, q2⟩ := has_facts hy
  exact ⟨raw_mk b1 (bmax_le p1 (by omega)) (le_bmin p2 p2), raw_mk b2 (bmax_le q1 q1) (le_bmin q2 (by omega))⟩

end Go.Proofs.Ytkigmocchaikgaa

/- Values and reckoning with them, as plain functions. -/
namespace Go.Proofs.Ytkigmocchaikgaa

structure V4 where
  v : BitVec 64
  m : BitVec 64
  l : BitVec 64
  h : BitVec 64
theorem V4.ext' {a b : V4} (h1 : a.v = b.v) (h2 : a.m = b.m) (h3 : a.l = b.l) (h4 : a.h = b.h) : a = b := by cases a; cases b; simp_all
def V4.cs (a : V4) : List AC := [.u a.v, .u a.m, .u a.l, .u a.h]
def V4.z : V4 := ⟨zero, zero, zero, zero⟩
def V4.rt (a : V4) : Bool := eqb (band a.v a.m) zero
def V4.ok (a : V4) : Bool := valB a.v a.m a.l a.h
def V4.nok (a : V4) : Bool := normOk a.v a.m a.l a.h
def V4.nrm (a : V4) : V4 := ⟨nV a.v a.m a.l a.h, nM a.m (nLo a.v a.m a.l) (nHi a.v a.m a.h), nLo a.v a.m a.l, nHi a.v a.m a.h⟩
def V4.norm (a : V4) : V4 := if a.nok then a.nrm else V4.z
def V4.has (a : V4) (x : BitVec 64) : Bool := hasV a.v a.m a.l a.h x
def V4.of (x : BitVec 64) : V4 := ⟨x, zero, x, x⟩
def V4.any : V4 := ⟨zero, top, zero, top⟩
def V4.alone (a : V4) : Bool := eqb a.l a.h
def V4.rawJoin (a b : V4) : V4 := ⟨jV a.v a.m b.v b.m, jM a.v a.m b.v b.m, bmin a.l b.l, bmax a.h b.h⟩
def V4.join (a b : V4) : V4 := (a.rawJoin b).nrm
def V4.raw2 (op : Int) (a b : V4) : V4 :=
  ⟨(rk op a.v a.m a.l a.h b.v b.m b.l b.h).1, (rk op a.v a.m a.l a.h b.v b.m b.l b.h).2.1, (rk op a.v a.m a.l a.h b.v b.m b.l b.h).2.2.1, (rk op a.v a.m a.l a.h b.v b.m b.l b.h).2.2.2⟩
def V4.two (op : Int) (a b : V4) : V4 := (V4.raw2 op a b).norm
def lvV (p : Bool) (a : V4) : V4 := if p then a else V4.z
def left2 (may : Bool) (x y : V4) : V4 × V4 × Bool := (lvV (may && (x.nok && y.nok)) x.nrm, lvV (may && (x.nok && y.nok)) y.nrm, may && (x.nok && y.nok))
def V4.meets (a b : V4) : Bool := eqb (bandn (bxor a.v b.v) (bor a.m b.m)) zero
def V4.rawEqual (a b : V4) : V4 := ⟨bor a.v b.v, band a.m b.m, bmax a.l b.l, bmin a.h b.h⟩
def V4.equal (a b : V4) : V4 × V4 × Bool := if a.meets b then left2 true (a.rawEqual b) (a.rawEqual b) else (V4.z, V4.z, false)
def V4.without (a b : V4) : V4 := ⟨a.v, a.m, woL a.l b.l b.h, woH a.l a.h b.l b.h⟩
def V4.other (a b : V4) : V4 × V4 × Bool := left2 (!(a.alone && (b.alone && eqb a.l b.l))) (a.without b) (b.without a)
def V4.less (a b : V4) : V4 × V4 × Bool :=
  if eqb b.h zero || eqb a.l top then (V4.z, V4.z, false)
  else left2 true ⟨a.v, a.m, a.l, bmin a.h (bsub b.h one)⟩ ⟨b.v, b.m, bmax b.l (badd a.l one), b.h⟩
def V4.notLess (a b : V4) : V4 × V4 × Bool := left2 true ⟨a.v, a.m, bmax a.l b.l, a.h⟩ ⟨b.v, b.m, b.l, bmin b.h a.h⟩
def byteTop (n : Int) : BitVec 64 := if n = 8 then top else if n = 4 then 4294967295#64 else if n = 2 then 65535#64 else 255#64
def V4.bytes (n : Int) : V4 := ⟨zero, byteTop n, zero, byteTop n⟩

theorem left2_false (x y : V4) : left2 false x y = (V4.z, V4.z, false) := rfl
theorem bmax_self (x : BitVec 64) : bmax x x = x := by unfold bmax; split <;> rfl
theorem bmin_self (x : BitVec 64) : bmin x x = x := by unfold bmin; split <;> rfl
theorem keys_cs (a : V4) : (AV.ag a.cs).ks = [] := rfl
end Go.Proofs.Ytkigmocchaikgaa

/- Ways of bodies, written by a program (ways.py): what each asks for, and hands back. -/
namespace Go.Proofs.Ytkigmocchaikgaa
open Go.RowKit

theorem refAlone_w0 {a : V4} :
    CallOK Try.prog ⟨90, [AV.ag (V4.cs a)], [], ⟨AV.c (AC.b (eqb (V4.l a) (V4.h a))), [], none⟩⟩ :=
  val_run 2000 [] [] ([]) [] Try.func90 rfl rfl rfl rfl (by kernel_rfl) rfl cr_nil
theorem refBoth_w0 {a : V4} {b : V4} {i1 : Bool} {i2 : Bool} (h : (!i1 && true) = true) :
    CallOK Try.prog ⟨99, [AV.ag (V4.cs a), AV.c (AC.b i1), AV.ag (V4.cs b), AV.c (AC.b i2)], [], ⟨AV.tu [AT.ag [AC.u 0#64, AC.u 0#64, AC.u 0#64, AC.u 0#64], AT.ag [AC.u 0#64, AC.u 0#64, AC.u 0#64, AC.u 0#64], AT.c (AC.b false)], [], none⟩⟩ :=
  val_run 2000 [] [true, true] ([]) [] Try.func99 rfl rfl rfl rfl (by kernel_rfl) h cr_nil
theorem refBoth_w1 {a : V4} {b : V4} {i1 : Bool} {i2 : Bool} (h : (!!i1 && (!i2 && true)) = true) :
    CallOK Try.prog ⟨99, [AV.ag (V4.cs a), AV.c (AC.b i1), AV.ag (V4.cs b), AV.c (AC.b i2)], [], ⟨AV.tu [AT.ag [AC.u 0#64, AC.u 0#64, AC.u 0#64, AC.u 0#64], AT.ag [AC.u 0#64, AC.u 0#64, AC.u 0#64, AC.u 0#64], AT.c (AC.b false)], [], none⟩⟩ :=
  val_run 2000 [] [false, true] ([]) [] Try.func99 rfl rfl rfl rfl (by kernel_rfl) h cr_nil
theorem refBoth_w2 {a : V4} {b : V4} {i1 : Bool} {i2 : Bool} (h : (!!i1 && (!!i2 && true)) = true) :
    CallOK Try.prog ⟨99, [AV.ag (V4.cs a), AV.c (AC.b i1), AV.ag (V4.cs b), AV.c (AC.b i2)], [], ⟨AV.tu [AT.ag (V4.cs a), AT.ag (V4.cs b), AT.c (AC.b true)], [], none⟩⟩ :=
  val_run 2000 [] [false, false] ([]) [] Try.func99 rfl rfl rfl rfl (by kernel_rfl) h cr_nil
theorem refBoth_all {a : V4} {b : V4} {i1 : Bool} {i2 : Bool} {V : AV}
    (l0 : (!i1) = true → (AV.tu [AT.ag [AC.u 0#64, AC.u 0#64, AC.u 0#64, AC.u 0#64], AT.ag [AC.u 0#64, AC.u 0#64, AC.u 0#64, AC.u 0#64], AT.c (AC.b false)] = V))
    (l1 : (!i1) = false → (!i2) = true → (AV.tu [AT.ag [AC.u 0#64, AC.u 0#64, AC.u 0#64, AC.u 0#64], AT.ag [AC.u 0#64, AC.u 0#64, AC.u 0#64, AC.u 0#64], AT.c (AC.b false)] = V))
    (l2 : (!i1) = false → (!i2) = false → (AV.tu [AT.ag (V4.cs a), AT.ag (V4.cs b), AT.c (AC.b true)] = V)) :
    CallOK Try.prog ⟨99, [AV.ag (V4.cs a), AV.c (AC.b i1), AV.ag (V4.cs b), AV.c (AC.b i2)], [], ⟨V, [], none⟩⟩ :=
  (tf (!i1)).elim (fun h0 => (match l0 h0 with | e => ok_eq (refBoth_w0 (and_yes h0 rfl)) e)) (fun h0 => (tf (!i2)).elim (fun h1 => (match l1 h0 h1 with | e => ok_eq (refBoth_w1 (and_yes (not_yes h0) (and_yes h1 rfl))) e)) (fun h1 => (match l2 h0 h1 with | e => ok_eq (refBoth_w2 (and_yes (not_yes h0) (and_yes (not_yes h1) rfl))) e)))
theorem refRid_w0 {a : V4} {x : BitVec 64} {al : Bool} (h : (al && (eqb (V4.l a) x && true)) = true) (c0 : CallOK Try.prog (CallRec.mk 90 [AV.ag (V4.cs a)] [] (Eff.mk (AV.c (AC.b al)) [] none))) :
    CallOK Try.prog ⟨100, [AV.ag (V4.cs a), AV.c (AC.u x)], [], ⟨AV.tu [AT.ag [AC.u 0#64, AC.u 0#64, AC.u 0#64, AC.u 0#64], AT.c (AC.b false)], [], none⟩⟩ :=
  val_run 2000 [Eff.mk (AV.c (AC.b al)) [] none] [true, true] ([]) [] Try.func100 rfl rfl rfl rfl (by kernel_rfl) h (cr_cons c0 cr_nil)
theorem refRid_w1 {a : V4} {n : V4} {x : BitVec 64} {al : Bool} {i : Bool} (h : (al && (!eqb (V4.l a) x && (!eqb (V4.l a) x && (eqb (V4.h a) x && true)))) = true) (c0 : CallOK Try.prog (CallRec.mk 90 [AV.ag (V4.cs a)] [] (Eff.mk (AV.c (AC.b al)) [] none))) (c1 : CallOK Try.prog (CallRec.mk 33 [AV.ag [AC.u (V4.v a), AC.u (V4.m a), AC.u (V4.l a), AC.u (bsub (V4.h a) 1#64)]] [] (Eff.mk (AV.tu [AT.ag (V4.cs n), AT.c (AC.b i)]) [] none))) :
    CallOK Try.prog ⟨100, [AV.ag (V4.cs a), AV.c (AC.u x)], [], ⟨AV.tu [AT.ag (V4.cs n), AT.c (AC.b i)], [], none⟩⟩ :=
  val_run 2000 [Eff.mk (AV.c (AC.b al)) [] none, Eff.mk (AV.tu [AT.ag (V4.cs n), AT.c (AC.b i)]) [] none] [true, false, false, true] ([]) [] Try.func100 rfl rfl rfl rfl (by kernel_rfl) h (cr_cons c0 (cr_cons c1 cr_nil))
theorem refRid_w2 {a : V4} {n : V4} {x : BitVec 64} {al : Bool} {i : Bool} (h : (al && (!eqb (V4.l a) x && (!eqb (V4.l a) x && (!eqb (V4.h a) x && true)))) = true) (c0 : CallOK Try.prog (CallRec.mk 90 [AV.ag (V4.cs a)] [] (Eff.mk (AV.c (AC.b al)) [] none))) (c1 : CallOK Try.prog (CallRec.mk 33 [AV.ag (V4.cs a)] [] (Eff.mk (AV.tu [AT.ag (V4.cs n), AT.c (AC.b i)]) [] none))) :
    CallOK Try.prog ⟨100, [AV.ag (V4.cs a), AV.c (AC.u x)], [], ⟨AV.tu [AT.ag (V4.cs n), AT.c (AC.b i)], [], none⟩⟩ :=
  val_run 2000 [Eff.mk (AV.c (AC.b al)) [] none, Eff.mk (AV.tu [AT.ag (V4.cs n), AT.c (AC.b i)]) [] none] [true, false, false, false] ([]) [] Try.func100 rfl rfl rfl rfl (by kernel_rfl) h (cr_cons c0 (cr_cons c1 cr_nil))
theorem refRid_w3 {a : V4} {n : V4} {x : BitVec 64} {al : Bool} {i : Bool} (h : (!al && (eqb (V4.l a) x && true)) = true) (c0 : CallOK Try.prog (CallRec.mk 90 [AV.ag (V4.cs a)] [] (Eff.mk (AV.c (AC.b al)) [] none))) (c1 : CallOK Try.prog (CallRec.mk 33 [AV.ag [AC.u (V4.v a), AC.u (V4.m a), AC.u (badd (V4.l a) 1#64), AC.u (V4.h a)]] [] (Eff.mk (AV.tu [AT.ag (V4.cs n), AT.c (AC.b i)]) [] none))) :
    CallOK Try.prog ⟨100, [AV.ag (V4.cs a), AV.c (AC.u x)], [], ⟨AV.tu [AT.ag (V4.cs n), AT.c (AC.b i)], [], none⟩⟩ :=
  val_run 2000 [Eff.mk (AV.c (AC.b al)) [] none, Eff.mk (AV.tu [AT.ag (V4.cs n), AT.c (AC.b i)]) [] none] [false, false, true] ([]) [] Try.func100 rfl rfl rfl rfl (by kernel_rfl) h (cr_cons c0 (cr_cons c1 cr_nil))
theorem refRid_w4 {a : V4} {n : V4} {x : BitVec 64} {al : Bool} {i : Bool} (h : (!al && (!eqb (V4.l a) x && (eqb (V4.h a) x && true))) = true) (c0 : CallOK Try.prog (CallRec.mk 90 [AV.ag (V4.cs a)] [] (Eff.mk (AV.c (AC.b al)) [] none))) (c1 : CallOK Try.prog (CallRec.mk 33 [AV.ag [AC.u (V4.v a), AC.u (V4.m a), AC.u (V4.l a), AC.u (bsub (V4.h a) 1#64)]] [] (Eff.mk (AV.tu [AT.ag (V4.cs n), AT.c (AC.b i)]) [] none))) :
    CallOK Try.prog ⟨100, [AV.ag (V4.cs a), AV.c (AC.u x)], [], ⟨AV.tu [AT.ag (V4.cs n), AT.c (AC.b i)], [], none⟩⟩ :=
  val_run 2000 [Eff.mk (AV.c (AC.b al)) [] none, Eff.mk (AV.tu [AT.ag (V4.cs n), AT.c (AC.b i)]) [] none] [false, false, false, true] ([]) [] Try.func100 rfl rfl rfl rfl (by kernel_rfl) h (cr_cons c0 (cr_cons c1 cr_nil))
theorem refRid_w5 {a : V4} {n : V4} {x : BitVec 64} {al : Bool} {i : Bool} (h : (!al && (!eqb (V4.l a) x && (!eqb (V4.h a) x && true))) = true) (c0 : CallOK Try.prog (CallRec.mk 90 [AV.ag (V4.cs a)] [] (Eff.mk (AV.c (AC.b al)) [] none))) (c1 : CallOK Try.prog (CallRec.mk 33 [AV.ag (V4.cs a)] [] (Eff.mk (AV.tu [AT.ag (V4.cs n), AT.c (AC.b i)]) [] none))) :
    CallOK Try.prog ⟨100, [AV.ag (V4.cs a), AV.c (AC.u x)], [], ⟨AV.tu [AT.ag (V4.cs n), AT.c (AC.b i)], [], none⟩⟩ :=
  val_run 2000 [Eff.mk (AV.c (AC.b al)) [] none, Eff.mk (AV.tu [AT.ag (V4.cs n), AT.c (AC.b i)]) [] none] [false, false, false, false] ([]) [] Try.func100 rfl rfl rfl rfl (by kernel_rfl) h (cr_cons c0 (cr_cons c1 cr_nil))
theorem refRid_all {a : V4} {n : V4} {x : BitVec 64} {al : Bool} {i : Bool} {V : AV}
    (l0 : (al) = true → (eqb (V4.l a) x) = true → (CallOK Try.prog (CallRec.mk 90 [AV.ag (V4.cs a)] [] (Eff.mk (AV.c (AC.b al)) [] none))) ∧ (AV.tu [AT.ag [AC.u 0#64, AC.u 0#64, AC.u 0#64, AC.u 0#64], AT.c (AC.b false)] = V))
    (l1 : (al) = true → (eqb (V4.l a) x) = false → (eqb (V4.h a) x) = true → (CallOK Try.prog (CallRec.mk 90 [AV.ag (V4.cs a)] [] (Eff.mk (AV.c (AC.b al)) [] none))) ∧ (CallOK Try.prog (CallRec.mk 33 [AV.ag [AC.u (V4.v a), AC.u (V4.m a), AC.u (V4.l a), AC.u (bsub (V4.h a) 1#64)]] [] (Eff.mk (AV.tu [AT.ag (V4.cs n), AT.c (AC.b i)]) [] none))) ∧ (AV.tu [AT.ag (V4.cs n), AT.c (AC.b i)] = V))
    (l2 : (al) = true → (eqb (V4.l a) x) = false → (eqb (V4.h a) x) = false → (CallOK Try.prog (CallRec.mk 90 [AV.ag (V4.cs a)] [] (Eff.mk (AV.c (AC.b al)) [] none))) ∧ (CallOK Try.prog (CallRec.mk 33 [AV.ag (V4.cs a)] [] (Eff.mk (AV.tu [AT.ag (V4.cs n), AT.c (AC.b i)]) [] none))) ∧ (AV.tu [AT.ag (V4.cs n), AT.c (AC.b i)] = V))
    (l3 : (al) = false → (eqb (V4.l a) x) = true → (CallOK Try.prog (CallRec.mk 90 [AV.ag (V4.cs a)] [] (Eff.mk (AV.c (AC.b al)) [] none))) ∧ (CallOK Try.prog (CallRec.mk 33 [AV.ag [AC.u (V4.v a), AC.u (V4.m a), AC.u (badd (V4.l a) 1#64), AC.u (V4.h a)]] [] (Eff.mk (AV.tu [AT.ag (V4.cs n), AT.c (AC.b i)]) [] none))) ∧ (AV.tu [AT.ag (V4.cs n), AT.c (AC.b i)] = V))
    (l4 : (al) = false → (eqb (V4.l a) x) = false → (eqb (V4.h a) x) = true → (CallOK Try.prog (CallRec.mk 90 [AV.ag (V4.cs a)] [] (Eff.mk (AV.c (AC.b al)) [] none))) ∧ (CallOK Try.prog (CallRec.mk 33 [AV.ag [AC.u (V4.v a), AC.u (V4.m a), AC.u (V4.l a), AC.u (bsub (V4.h a) 1#64)]] [] (Eff.mk (AV.tu [AT.ag (V4.cs n), AT.c (AC.b i)]) [] none))) ∧ (AV.tu [AT.ag (V4.cs n), AT.c (AC.b i)] = V))
    (l5 : (al) = false → (eqb (V4.l a) x) = false → (eqb (V4.h a) x) = false → (CallOK Try.prog (CallRec.mk 90 [AV.ag (V4.cs a)] [] (Eff.mk (AV.c (AC.b al)) [] none))) ∧ (CallOK Try.prog (CallRec.mk 33 [AV.ag (V4.cs a)] [] (Eff.mk (AV.tu [AT.ag (V4.cs n), AT.c (AC.b i)]) [] none))) ∧ (AV.tu [AT.ag (V4.cs n), AT.c (AC.b i)] = V)) :
    CallOK Try.prog ⟨100, [AV.ag (V4.cs a), AV.c (AC.u x)], [], ⟨V, [], none⟩⟩ :=
  (tf (al)).elim (fun h0 => (tf (eqb (V4.l a) x)).elim (fun h1 => (match l0 h0 h1 with | ⟨c0, e⟩ => ok_eq (refRid_w0 (and_yes h0 (and_yes h1 rfl)) c0) e)) (fun h1 => (tf (eqb (V4.h a) x)).elim (fun h2 => (match l1 h0 h1 h2 with | ⟨c0, c1, e⟩ => ok_eq (refRid_w1 (and_yes h0 (and_yes (not_yes h1) (and_yes (not_yes h1) (and_yes h2 rfl)))) c0 c1) e)) (fun h2 => (match l2 h0 h1 h2 with | ⟨c0, c1, e⟩ => ok_eq (refRid_w2 (and_yes h0 (and_yes (not_yes h1) (and_yes (not_yes h1) (and_yes (not_yes h2) rfl)))) c0 c1) e)))) (fun h0 => (tf (eqb (V4.l a) x)).elim (fun h1 => (match l3 h0 h1 with | ⟨c0, c1, e⟩ => ok_eq (refRid_w3 (and_yes (not_yes h0) (and_yes h1 rfl)) c0 c1) e)) (fun h1 => (tf (eqb (V4.h a) x)).elim (fun h2 => (match l4 h0 h1 h2 with | ⟨c0, c1, e⟩ => ok_eq (refRid_w4 (and_yes (not_yes h0) (and_yes (not_yes h1) (and_yes h2 rfl))) c0 c1) e)) (fun h2 => (match l5 h0 h1 h2 with | ⟨c0, c1, e⟩ => ok_eq (refRid_w5 (and_yes (not_yes h0) (and_yes (not_yes h1) (and_yes (not_yes h2) rfl))) c0 c1) e))))
theorem refEqual_w0 {a : V4} {b : V4} {kv : BitVec 64} {km : BitVec 64} {may : Bool} (h : (!may && true) = true) (c0 : CallOK Try.prog (CallRec.mk 19 [AV.ag [AC.u (V4.v a), AC.u (V4.m a)], AV.ag [AC.u (V4.v b), AC.u (V4.m b)]] [] (Eff.mk (AV.tu [AT.ag [AC.u kv, AC.u km], AT.c (AC.b may)]) [] none))) :
    CallOK Try.prog ⟨55, [AV.ag (V4.cs a), AV.ag (V4.cs b)], [], ⟨AV.tu [AT.ag [AC.u 0#64, AC.u 0#64, AC.u 0#64, AC.u 0#64], AT.ag [AC.u 0#64, AC.u 0#64, AC.u 0#64, AC.u 0#64], AT.c (AC.b false)], [], none⟩⟩ :=
  val_run 2000 [Eff.mk (AV.tu [AT.ag [AC.u kv, AC.u km], AT.c (AC.b may)]) [] none] [true] ([]) [] Try.func55 rfl rfl rfl rfl (by kernel_rfl) h (cr_cons c0 cr_nil)
theorem refEqual_w1 {a : V4} {b : V4} {n : V4} {p : V4} {q : V4} {kv : BitVec 64} {km : BitVec 64} {may : Bool} {i : Bool} {r : Bool} (h : (!!may && true) = true) (c0 : CallOK Try.prog (CallRec.mk 19 [AV.ag [AC.u (V4.v a), AC.u (V4.m a)], AV.ag [AC.u (V4.v b), AC.u (V4.m b)]] [] (Eff.mk (AV.tu [AT.ag [AC.u kv, AC.u km], AT.c (AC.b may)]) [] none))) (c1 : CallOK Try.prog (CallRec.mk 33 [AV.ag [AC.u kv, AC.u km, AC.u (bmax (V4.l a) (V4.l b)), AC.u (bmin (V4.h a) (V4.h b))]] [] (Eff.mk (AV.tu [AT.ag (V4.cs n), AT.c (AC.b i)]) [] none))) (c2 : CallOK Try.prog (CallRec.mk 99 [AV.ag (V4.cs n), AV.c (AC.b i), AV.ag (V4.cs n), AV.c (AC.b i)] [] (Eff.mk (AV.tu [AT.ag (V4.cs p), AT.ag (V4.cs q), AT.c (AC.b r)]) [] none))) :
    CallOK Try.prog ⟨55, [AV.ag (V4.cs a), AV.ag (V4.cs b)], [], ⟨AV.tu [AT.ag (V4.cs p), AT.ag (V4.cs q), AT.c (AC.b r)], [], none⟩⟩ :=
  val_run 2000 [Eff.mk (AV.tu [AT.ag [AC.u kv, AC.u km], AT.c (AC.b may)]) [] none, Eff.mk (AV.tu [AT.ag (V4.cs n), AT.c (AC.b i)]) [] none, Eff.mk (AV.tu [AT.ag (V4.cs p), AT.ag (V4.cs q), AT.c (AC.b r)]) [] none] [false] ([]) [] Try.func55 rfl rfl rfl rfl (by kernel_rfl) h (cr_cons c0 (cr_cons c1 (cr_cons c2 cr_nil)))
theorem refEqual_all {a : V4} {b : V4} {n : V4} {p : V4} {q : V4} {kv : BitVec 64} {km : BitVec 64} {may : Bool} {i : Bool} {r : Bool} {V : AV}
    (l0 : (!may) = true → (CallOK Try.prog (CallRec.mk 19 [AV.ag [AC.u (V4.v a), AC.u (V4.m a)], AV.ag [AC.u (V4.v b), AC.u (V4.m b)]] [] (Eff.mk (AV.tu [AT.ag [AC.u kv, AC.u km], AT.c (AC.b may)]) [] none))) ∧ (AV.tu [AT.ag [AC.u 0#64, AC.u 0#64, AC.u 0#64, AC.u 0#64], AT.ag [AC.u 0#64, AC.u 0#64, AC.u 0#64, AC.u 0#64], AT.c (AC.b false)] = V))
    (l1 : (!may) = false → (CallOK Try.prog (CallRec.mk 19 [AV.ag [AC.u (V4.v a), AC.u (V4.m a)], AV.ag [AC.u (V4.v b), AC.u (V4.m b)]] [] (Eff.mk (AV.tu [AT.ag [AC.u kv, AC.u km], AT.c (AC.b may)]) [] none))) ∧ (CallOK Try.prog (CallRec.mk 33 [AV.ag [AC.u kv, AC.u km, AC.u (bmax (V4.l a) (V4.l b)), AC.u (bmin (V4.h a) (V4.h b))]] [] (Eff.mk (AV.tu [AT.ag (V4.cs n), AT.c (AC.b i)]) [] none))) ∧ (CallOK Try.prog (CallRec.mk 99 [AV.ag (V4.cs n), AV.c (AC.b i), AV.ag (V4.cs n), AV.c (AC.b i)] [] (Eff.mk (AV.tu [AT.ag (V4.cs p), AT.ag (V4.cs q), AT.c (AC.b r)]) [] none))) ∧ (AV.tu [AT.ag (V4.cs p), AT.ag (V4.cs q), AT.c (AC.b r)] = V)) :
    CallOK Try.prog ⟨55, [AV.ag (V4.cs a), AV.ag (V4.cs b)], [], ⟨V, [], none⟩⟩ :=
  (tf (!may)).elim (fun h0 => (match l0 h0 with | ⟨c0, e⟩ => ok_eq (refEqual_w0 (and_yes h0 rfl) c0) e)) (fun h0 => (match l1 h0 with | ⟨c0, c1, c2, e⟩ => ok_eq (refEqual_w1 (and_yes (not_yes h0) rfl) c0 c1 c2) e))
theorem refLess_w0 {a : V4} {b : V4} (h : (eqb (V4.h b) 0#64 && true) = true) :
    CallOK Try.prog ⟨57, [AV.ag (V4.cs a), AV.ag (V4.cs b)], [], ⟨AV.tu [AT.ag [AC.u 0#64, AC.u 0#64, AC.u 0#64, AC.u 0#64], AT.ag [AC.u 0#64, AC.u 0#64, AC.u 0#64, AC.u 0#64], AT.c (AC.b false)], [], none⟩⟩ :=
  val_run 2000 [] [true, true] ([]) [] Try.func57 rfl rfl rfl rfl (by kernel_rfl) h cr_nil
theorem refLess_w1 {a : V4} {b : V4} (h : (!eqb (V4.h b) 0#64 && (eqb (V4.l a) 18446744073709551615#64 && true)) = true) :
    CallOK Try.prog ⟨57, [AV.ag (V4.cs a), AV.ag (V4.cs b)], [], ⟨AV.tu [AT.ag [AC.u 0#64, AC.u 0#64, AC.u 0#64, AC.u 0#64], AT.ag [AC.u 0#64, AC.u 0#64, AC.u 0#64, AC.u 0#64], AT.c (AC.b false)], [], none⟩⟩ :=
  val_run 2000 [] [false, true] ([]) [] Try.func57 rfl rfl rfl rfl (by kernel_rfl) h cr_nil
theorem refLess_w2 {a : V4} {b : V4} {n : V4} {n2 : V4} {p : V4} {q : V4} {i : Bool} {i2 : Bool} {r : Bool} (h : (!eqb (V4.h b) 0#64 && (!eqb (V4.l a) 18446744073709551615#64 && true)) = true) (c0 : CallOK Try.prog (CallRec.mk 33 [AV.ag [AC.u (V4.v a), AC.u (V4.m a), AC.u (V4.l a), AC.u (bmin (V4.h a) (bsub (V4.h b) 1#64))]] [] (Eff.mk (AV.tu [AT.ag (V4.cs n), AT.c (AC.b i)]) [] none))) (c1 : CallOK Try.prog (CallRec.mk 33 [AV.ag [AC.u (V4.v b), AC.u (V4.m b), AC.u (bmax (V4.l b) (badd (V4.l a) 1#64)), AC.u (V4.h b)]] [] (Eff.mk (AV.tu [AT.ag (V4.cs n2), AT.c (AC.b i2)]) [] none))) (c2 : CallOK Try.prog (CallRec.mk 99 [AV.ag (V4.cs n), AV.c (AC.b i), AV.ag (V4.cs n2), AV.c (AC.b i2)] [] (Eff.mk (AV.tu [AT.ag (V4.cs p), AT.ag (V4.cs q), AT.c (AC.b r)]) [] none))) :
    CallOK Try.prog ⟨57, [AV.ag (V4.cs a), AV.ag (V4.cs b)], [], ⟨AV.tu [AT.ag (V4.cs p), AT.ag (V4.cs q), AT.c (AC.b r)], [], none⟩⟩ :=
  val_run 2000 [Eff.mk (AV.tu [AT.ag (V4.cs n), AT.c (AC.b i)]) [] none, Eff.mk (AV.tu [AT.ag (V4.cs n2), AT.c (AC.b i2)]) [] none, Eff.mk (AV.tu [AT.ag (V4.cs p), AT.ag (V4.cs q), AT.c (AC.b r)]) [] none] [false, false] ([]) [] Try.func57 rfl rfl rfl rfl (by kernel_rfl) h (cr_cons c0 (cr_cons c1 (cr_cons c2 cr_nil)))
theorem refLess_all {a : V4} {b : V4} {n : V4} {n2 : V4} {p : V4} {q : V4} {i : Bool} {i2 : Bool} {r : Bool} {V : AV}
    (l0 : (eqb (V4.h b) 0#64) = true → (AV.tu [AT.ag [AC.u 0#64, AC.u 0#64, AC.u 0#64, AC.u 0#64], AT.ag [AC.u 0#64, AC.u 0#64, AC.u 0#64, AC.u 0#64], AT.c (AC.b false)] = V))
    (l1 : (eqb (V4.h b) 0#64) = false → (eqb (V4.l a) 18446744073709551615#64) = true → (AV.tu [AT.ag [AC.u 0#64, AC.u 0#64, AC.u 0#64, AC.u 0#64], AT.ag [AC.u 0#64, AC.u 0#64, AC.u 0#64, AC.u 0#64], AT.c (AC.b false)] = V))
    (l2 : (eqb (V4.h b) 0#64) = false → (eqb (V4.l a) 18446744073709551615#64) = false → (CallOK Try.prog (CallRec.mk 33 [AV.ag [AC.u (V4.v a), AC.u (V4.m a), AC.u (V4.l a), AC.u (bmin (V4.h a) (bsub (V4.h b) 1#64))]] [] (Eff.mk (AV.tu [AT.ag (V4.cs n), AT.c (AC.b i)]) [] none))) ∧ (CallOK Try.prog (CallRec.mk 33 [AV.ag [AC.u (V4.v b), AC.u (V4.m b), AC.u (bmax (V4.l b) (badd (V4.l a) 1#64)), AC.u (V4.h b)]] [] (Eff.mk (AV.tu [AT.ag (V4.cs n2), AT.c (AC.b i2)]) [] none))) ∧ (CallOK Try.prog (CallRec.mk 99 [AV.ag (V4.cs n), AV.c (AC.b i), AV.ag (V4.cs n2), AV.c (AC.b i2)] [] (Eff.mk (AV.tu [AT.ag (V4.cs p), AT.ag (V4.cs q), AT.c (AC.b r)]) [] none))) ∧ (AV.tu [AT.ag (V4.cs p), AT.ag (V4.cs q), AT.c (AC.b r)] = V)) :
    CallOK Try.prog ⟨57, [AV.ag (V4.cs a), AV.ag (V4.cs b)], [], ⟨V, [], none⟩⟩ :=
  (tf (eqb (V4.h b) 0#64)).elim (fun h0 => (match l0 h0 with | e => ok_eq (refLess_w0 (and_yes h0 rfl)) e)) (fun h0 => (tf (eqb (V4.l a) 18446744073709551615#64)).elim (fun h1 => (match l1 h0 h1 with | e => ok_eq (refLess_w1 (and_yes (not_yes h0) (and_yes h1 rfl))) e)) (fun h1 => (match l2 h0 h1 with | ⟨c0, c1, c2, e⟩ => ok_eq (refLess_w2 (and_yes (not_yes h0) (and_yes (not_yes h1) rfl)) c0 c1 c2) e)))
theorem refNotLess_w0 {a : V4} {b : V4} {n : V4} {n2 : V4} {p : V4} {q : V4} {i : Bool} {i2 : Bool} {r : Bool} (c0 : CallOK Try.prog (CallRec.mk 33 [AV.ag [AC.u (V4.v a), AC.u (V4.m a), AC.u (bmax (V4.l a) (V4.l b)), AC.u (V4.h a)]] [] (Eff.mk (AV.tu [AT.ag (V4.cs n), AT.c (AC.b i)]) [] none))) (c1 : CallOK Try.prog (CallRec.mk 33 [AV.ag [AC.u (V4.v b), AC.u (V4.m b), AC.u (V4.l b), AC.u (bmin (V4.h b) (V4.h a))]] [] (Eff.mk (AV.tu [AT.ag (V4.cs n2), AT.c (AC.b i2)]) [] none))) (c2 : CallOK Try.prog (CallRec.mk 99 [AV.ag (V4.cs n), AV.c (AC.b i), AV.ag (V4.cs n2), AV.c (AC.b i2)] [] (Eff.mk (AV.tu [AT.ag (V4.cs p), AT.ag (V4.cs q), AT.c (AC.b r)]) [] none))) :
    CallOK Try.prog ⟨58, [AV.ag (V4.cs a), AV.ag (V4.cs b)], [], ⟨AV.tu [AT.ag (V4.cs p), AT.ag (V4.cs q), AT.c (AC.b r)], [], none⟩⟩ :=
  val_run 2000 [Eff.mk (AV.tu [AT.ag (V4.cs n), AT.c (AC.b i)]) [] none, Eff.mk (AV.tu [AT.ag (V4.cs n2), AT.c (AC.b i2)]) [] none, Eff.mk (AV.tu [AT.ag (V4.cs p), AT.ag (V4.cs q), AT.c (AC.b r)]) [] none] [] ([]) [] Try.func58 rfl rfl rfl rfl (by kernel_rfl) rfl (cr_cons c0 (cr_cons c1 (cr_cons c2 cr_nil)))
theorem refOther_w0 {a : V4} {b : V4} {n : V4} {n2 : V4} {p : V4} {q : V4} {al : Bool} {bl : Bool} {i : Bool} {i2 : Bool} {r : Bool} (h : (bl && (al && true)) = true) (c0 : CallOK Try.prog (CallRec.mk 90 [AV.ag (V4.cs b)] [] (Eff.mk (AV.c (AC.b bl)) [] none))) (c1 : CallOK Try.prog (CallRec.mk 100 [AV.ag (V4.cs a), AV.c (AC.u (V4.l b))] [] (Eff.mk (AV.tu [AT.ag (V4.cs n), AT.c (AC.b i)]) [] none))) (c2 : CallOK Try.prog (CallRec.mk 90 [AV.ag (V4.cs a)] [] (Eff.mk (AV.c (AC.b al)) [] none))) (c3 : CallOK Try.prog (CallRec.mk 100 [AV.ag (V4.cs b), AV.c (AC.u (V4.l a))] [] (Eff.mk (AV.tu [AT.ag (V4.cs n2), AT.c (AC.b i2)]) [] none))) (c4 : CallOK Try.prog (CallRec.mk 99 [AV.ag (V4.cs n), AV.c (AC.b i), AV.ag (V4.cs n2), AV.c (AC.b i2)] [] (Eff.mk (AV.tu [AT.ag (V4.cs p), AT.ag (V4.cs q), AT.c (AC.b r)]) [] none))) :
    CallOK Try.prog ⟨56, [AV.ag (V4.cs a), AV.ag (V4.cs b)], [], ⟨AV.tu [AT.ag (V4.cs p), AT.ag (V4.cs q), AT.c (AC.b r)], [], none⟩⟩ :=
  val_run 2000 [Eff.mk (AV.c (AC.b bl)) [] none, Eff.mk (AV.tu [AT.ag (V4.cs n), AT.c (AC.b i)]) [] none, Eff.mk (AV.c (AC.b al)) [] none, Eff.mk (AV.tu [AT.ag (V4.cs n2), AT.c (AC.b i2)]) [] none, Eff.mk (AV.tu [AT.ag (V4.cs p), AT.ag (V4.cs q), AT.c (AC.b r)]) [] none] [true, true] ([]) [] Try.func56 rfl rfl rfl rfl (by kernel_rfl) h (cr_cons c0 (cr_cons c1 (cr_cons c2 (cr_cons c3 (cr_cons c4 cr_nil)))))
theorem refOtherB_w0 {a : V4} {b : V4} {n : V4} {p : V4} {q : V4} {al : Bool} {bl : Bool} {i : Bool} {r : Bool} (h : (bl && (!al && true)) = true) (c0 : CallOK Try.prog (CallRec.mk 90 [AV.ag (V4.cs b)] [] (Eff.mk (AV.c (AC.b bl)) [] none))) (c1 : CallOK Try.prog (CallRec.mk 100 [AV.ag (V4.cs a), AV.c (AC.u (V4.l b))] [] (Eff.mk (AV.tu [AT.ag (V4.cs n), AT.c (AC.b i)]) [] none))) (c2 : CallOK Try.prog (CallRec.mk 90 [AV.ag (V4.cs a)] [] (Eff.mk (AV.c (AC.b al)) [] none))) (c3 : CallOK Try.prog (CallRec.mk 99 [AV.ag (V4.cs n), AV.c (AC.b i), AV.ag (V4.cs b), AV.c (AC.b true)] [] (Eff.mk (AV.tu [AT.ag (V4.cs p), AT.ag (V4.cs q), AT.c (AC.b r)]) [] none))) :
    CallOK Try.prog ⟨56, [AV.ag (V4.cs a), AV.ag (V4.cs b)], [], ⟨AV.tu [AT.ag (V4.cs p), AT.ag (V4.cs q), AT.c (AC.b r)], [], none⟩⟩ :=
  val_run 2000 [Eff.mk (AV.c (AC.b bl)) [] none, Eff.mk (AV.tu [AT.ag (V4.cs n), AT.c (AC.b i)]) [] none, Eff.mk (AV.c (AC.b al)) [] none, Eff.mk (AV.tu [AT.ag (V4.cs p), AT.ag (V4.cs q), AT.c (AC.b r)]) [] none] [true, false] ([]) [] Try.func56 rfl rfl rfl rfl (by kernel_rfl) h (cr_cons c0 (cr_cons c1 (cr_cons c2 (cr_cons c3 cr_nil))))
theorem refOtherA_w0 {a : V4} {b : V4} {n2 : V4} {p : V4} {q : V4} {al : Bool} {bl : Bool} {i2 : Bool} {r : Bool} (h : (!bl && (al && true)) = true) (c0 : CallOK Try.prog (CallRec.mk 90 [AV.ag (V4.cs b)] [] (Eff.mk (AV.c (AC.b bl)) [] none))) (c1 : CallOK Try.prog (CallRec.mk 90 [AV.ag (V4.cs a)] [] (Eff.mk (AV.c (AC.b al)) [] none))) (c2 : CallOK Try.prog (CallRec.mk 100 [AV.ag (V4.cs b), AV.c (AC.u (V4.l a))] [] (Eff.mk (AV.tu [AT.ag (V4.cs n2), AT.c (AC.b i2)]) [] none))) (c3 : CallOK Try.prog (CallRec.mk 99 [AV.ag (V4.cs a), AV.c (AC.b true), AV.ag (V4.cs n2), AV.c (AC.b i2)] [] (Eff.mk (AV.tu [AT.ag (V4.cs p), AT.ag (V4.cs q), AT.c (AC.b r)]) [] none))) :
    CallOK Try.prog ⟨56, [AV.ag (V4.cs a), AV.ag (V4.cs b)], [], ⟨AV.tu [AT.ag (V4.cs p), AT.ag (V4.cs q), AT.c (AC.b r)], [], none⟩⟩ :=
  val_run 2000 [Eff.mk (AV.c (AC.b bl)) [] none, Eff.mk (AV.c (AC.b al)) [] none, Eff.mk (AV.tu [AT.ag (V4.cs n2), AT.c (AC.b i2)]) [] none, Eff.mk (AV.tu [AT.ag (V4.cs p), AT.ag (V4.cs q), AT.c (AC.b r)]) [] none] [false, true] ([]) [] Try.func56 rfl rfl rfl rfl (by kernel_rfl) h (cr_cons c0 (cr_cons c1 (cr_cons c2 (cr_cons c3 cr_nil))))
theorem refOtherN_w0 {a : V4} {b : V4} {p : V4} {q : V4} {al : Bool} {bl : Bool} {r : Bool} (h : (!bl && (!al && true)) = true) (c0 : CallOK Try.prog (CallRec.mk 90 [AV.ag (V4.cs b)] [] (Eff.mk (AV.c (AC.b bl)) [] none))) (c1 : CallOK Try.prog (CallRec.mk 90 [AV.ag (V4.cs a)] [] (Eff.mk (AV.c (AC.b al)) [] none))) (c2 : CallOK Try.prog (CallRec.mk 99 [AV.ag (V4.cs a), AV.c (AC.b true), AV.ag (V4.cs b), AV.c (AC.b true)] [] (Eff.mk (AV.tu [AT.ag (V4.cs p), AT.ag (V4.cs q), AT.c (AC.b r)]) [] none))) :
    CallOK Try.prog ⟨56, [AV.ag (V4.cs a), AV.ag (V4.cs b)], [], ⟨AV.tu [AT.ag (V4.cs p), AT.ag (V4.cs q), AT.c (AC.b r)], [], none⟩⟩ :=
  val_run 2000 [Eff.mk (AV.c (AC.b bl)) [] none, Eff.mk (AV.c (AC.b al)) [] none, Eff.mk (AV.tu [AT.ag (V4.cs p), AT.ag (V4.cs q), AT.c (AC.b r)]) [] none] [false, false] ([]) [] Try.func56 rfl rfl rfl rfl (by kernel_rfl) h (cr_cons c0 (cr_cons c1 (cr_cons c2 cr_nil)))
theorem refBytes_w0 {n : Int} {p : V4} (h : (n == 8 && true) = true) (c0 : CallOK Try.prog (CallRec.mk 43 [] [] (Eff.mk (AV.ag (V4.cs p)) [] none))) :
    CallOK Try.prog ⟨49, [AV.c (AC.i n)], [], ⟨AV.ag (V4.cs p), [], none⟩⟩ :=
  val_run 2000 [Eff.mk (AV.ag (V4.cs p)) [] none] [true] ([]) [] Try.func49 rfl rfl rfl rfl (by kernel_rfl) h (cr_cons c0 cr_nil)
theorem refBytes_w1 {n : Int} (h : (!n == 8 && (decide (0 ≤ IntKind.wrap IntKind.i64 (8 * n)) && decide (IntKind.wrap IntKind.i64 (8 * n) ≤ 64) && true)) = true) :
    CallOK Try.prog ⟨49, [AV.c (AC.i n)], [], ⟨AV.ag [AC.u 0#64, AC.u (bsub (bshl (1#64) (Int.toNat (IntKind.wrap IntKind.i64 (8 * n)))) 1#64), AC.u 0#64, AC.u (bsub (bshl (1#64) (Int.toNat (IntKind.wrap IntKind.i64 (8 * n)))) 1#64)], [], none⟩⟩ :=
  val_run 2000 [] [false] ([]) [] Try.func49 rfl rfl rfl rfl (by kernel_rfl) h cr_nil
theorem refBytes_all {n : Int} {p : V4} {V : AV}
    (l0 : (n == 8) = true → (CallOK Try.prog (CallRec.mk 43 [] [] (Eff.mk (AV.ag (V4.cs p)) [] none))) ∧ (AV.ag (V4.cs p) = V))
    (l1 : (n == 8) = false → (decide (0 ≤ IntKind.wrap IntKind.i64 (8 * n)) && decide (IntKind.wrap IntKind.i64 (8 * n) ≤ 64)) = true ∧ (AV.ag [AC.u 0#64, AC.u (bsub (bshl (1#64) (Int.toNat (IntKind.wrap IntKind.i64 (8 * n)))) 1#64), AC.u 0#64, AC.u (bsub (bshl (1#64) (Int.toNat (IntKind.wrap IntKind.i64 (8 * n)))) 1#64)] = V)) :
    CallOK Try.prog ⟨49, [AV.c (AC.i n)], [], ⟨V, [], none⟩⟩ :=
  (tf (n == 8)).elim (fun h0 => (match l0 h0 with | ⟨c0, e⟩ => ok_eq (refBytes_w0 (and_yes h0 rfl) c0) e)) (fun h0 => (match l1 h0 with | ⟨o0, e⟩ => ok_eq (refBytes_w1 (and_yes (not_yes h0) (and_yes o0 rfl))) e))
theorem calcBytes_w0 {n : Int} (h : (n == 1 && (n == 1 && (decide (nv (BitVec.ofInt 64 (IntKind.wrap IntKind.i64 (64 - IntKind.wrap IntKind.i64 (8 * n)))) ≤ 64) && true))) = true) :
    CallOK Try.prog ⟨48, [AV.c (AC.i n)], [], ⟨AV.tu [AT.ag [AC.u 0#64, AC.u (bshr (18446744073709551615#64) (Int.toNat (nv (BitVec.ofInt 64 (IntKind.wrap IntKind.i64 (64 - IntKind.wrap IntKind.i64 (8 * n))))))), AC.u 0#64, AC.u (bshr (18446744073709551615#64) (Int.toNat (nv (BitVec.ofInt 64 (IntKind.wrap IntKind.i64 (64 - IntKind.wrap IntKind.i64 (8 * n)))))))], AT.c (AC.i 0)], [], none⟩⟩ :=
  val_run 2000 [] [true, true] ([]) [] Try.func48 rfl rfl rfl rfl (by kernel_rfl) h cr_nil
theorem calcBytes_w1 {n : Int} (h : (!n == 1 && (n == 2 && (n == 2 && (decide (nv (BitVec.ofInt 64 (IntKind.wrap IntKind.i64 (64 - IntKind.wrap IntKind.i64 (8 * n)))) ≤ 64) && true)))) = true) :
    CallOK Try.prog ⟨48, [AV.c (AC.i n)], [], ⟨AV.tu [AT.ag [AC.u 0#64, AC.u (bshr (18446744073709551615#64) (Int.toNat (nv (BitVec.ofInt 64 (IntKind.wrap IntKind.i64 (64 - IntKind.wrap IntKind.i64 (8 * n))))))), AC.u 0#64, AC.u (bshr (18446744073709551615#64) (Int.toNat (nv (BitVec.ofInt 64 (IntKind.wrap IntKind.i64 (64 - IntKind.wrap IntKind.i64 (8 * n)))))))], AT.c (AC.i 0)], [], none⟩⟩ :=
  val_run 2000 [] [false, true, true] ([]) [] Try.func48 rfl rfl rfl rfl (by kernel_rfl) h cr_nil
theorem calcBytes_w2 {n : Int} (h : (!n == 1 && (!n == 2 && (n == 4 && (n == 4 && (decide (nv (BitVec.ofInt 64 (IntKind.wrap IntKind.i64 (64 - IntKind.wrap IntKind.i64 (8 * n)))) ≤ 64) && true))))) = true) :
    CallOK Try.prog ⟨48, [AV.c (AC.i n)], [], ⟨AV.tu [AT.ag [AC.u 0#64, AC.u (bshr (18446744073709551615#64) (Int.toNat (nv (BitVec.ofInt 64 (IntKind.wrap IntKind.i64 (64 - IntKind.wrap IntKind.i64 (8 * n))))))), AC.u 0#64, AC.u (bshr (18446744073709551615#64) (Int.toNat (nv (BitVec.ofInt 64 (IntKind.wrap IntKind.i64 (64 - IntKind.wrap IntKind.i64 (8 * n)))))))], AT.c (AC.i 0)], [], none⟩⟩ :=
  val_run 2000 [] [false, false, true, true] ([]) [] Try.func48 rfl rfl rfl rfl (by kernel_rfl) h cr_nil
theorem calcBytes_w3 {n : Int} (h : (!n == 1 && (!n == 2 && (!n == 4 && (n == 8 && (decide (nv (BitVec.ofInt 64 (IntKind.wrap IntKind.i64 (64 - IntKind.wrap IntKind.i64 (8 * n)))) ≤ 64) && true))))) = true) :
    CallOK Try.prog ⟨48, [AV.c (AC.i n)], [], ⟨AV.tu [AT.ag [AC.u 0#64, AC.u (bshr (18446744073709551615#64) (Int.toNat (nv (BitVec.ofInt 64 (IntKind.wrap IntKind.i64 (64 - IntKind.wrap IntKind.i64 (8 * n))))))), AC.u 0#64, AC.u (bshr (18446744073709551615#64) (Int.toNat (nv (BitVec.ofInt 64 (IntKind.wrap IntKind.i64 (64 - IntKind.wrap IntKind.i64 (8 * n)))))))], AT.c (AC.i 0)], [], none⟩⟩ :=
  val_run 2000 [] [false, false, false, true] ([]) [] Try.func48 rfl rfl rfl rfl (by kernel_rfl) h cr_nil
theorem calcBytes_w4 {n : Int} (h : (!n == 1 && (!n == 2 && (!n == 4 && (!n == 8 && true)))) = true) :
    CallOK Try.prog ⟨48, [AV.c (AC.i n)], [], ⟨AV.tu [AT.ag [AC.u 0#64, AC.u 0#64, AC.u 0#64, AC.u 0#64], AT.c (AC.i 3)], [], none⟩⟩ :=
  val_run 2000 [] [false, false, false, false] ([]) [] Try.func48 rfl rfl rfl rfl (by kernel_rfl) h cr_nil
theorem calcBytes_all {n : Int} {V : AV}
    (l0 : (n == 1) = true → (decide (nv (BitVec.ofInt 64 (IntKind.wrap IntKind.i64 (64 - IntKind.wrap IntKind.i64 (8 * n)))) ≤ 64)) = true ∧ (AV.tu [AT.ag [AC.u 0#64, AC.u (bshr (18446744073709551615#64) (Int.toNat (nv (BitVec.ofInt 64 (IntKind.wrap IntKind.i64 (64 - IntKind.wrap IntKind.i64 (8 * n))))))), AC.u 0#64, AC.u (bshr (18446744073709551615#64) (Int.toNat (nv (BitVec.ofInt 64 (IntKind.wrap IntKind.i64 (64 - IntKind.wrap IntKind.i64 (8 * n)))))))], AT.c (AC.i 0)] = V))
    (l1 : (n == 1) = false → (n == 2) = true → (decide (nv (BitVec.ofInt 64 (IntKind.wrap IntKind.i64 (64 - IntKind.wrap IntKind.i64 (8 * n)))) ≤ 64)) = true ∧ (AV.tu [AT.ag [AC.u 0#64, AC.u (bshr (18446744073709551615#64) (Int.toNat (nv (BitVec.ofInt 64 (IntKind.wrap IntKind.i64 (64 - IntKind.wrap IntKind.i64 (8 * n))))))), AC.u 0#64, AC.u (bshr (18446744073709551615#64) (Int.toNat (nv (BitVec.ofInt 64 (IntKind.wrap IntKind.i64 (64 - IntKind.wrap IntKind.i64 (8 * n)))))))], AT.c (AC.i 0)] = V))
    (l2 : (n == 1) = false → (n == 2) = false → (n == 4) = true → (decide (nv (BitVec.ofInt 64 (IntKind.wrap IntKind.i64 (64 - IntKind.wrap IntKind.i64 (8 * n)))) ≤ 64)) = true ∧ (AV.tu [AT.ag [AC.u 0#64, AC.u (bshr (18446744073709551615#64) (Int.toNat (nv (BitVec.ofInt 64 (IntKind.wrap IntKind.i64 (64 - IntKind.wrap IntKind.i64 (8 * n))))))), AC.u 0#64, AC.u (bshr (18446744073709551615#64) (Int.toNat (nv (BitVec.ofInt 64 (IntKind.wrap IntKind.i64 (64 - IntKind.wrap IntKind.i64 (8 * n)))))))], AT.c (AC.i 0)] = V))
    (l3 : (n == 1) = false → (n == 2) = false → (n == 4) = false → (n == 8) = true → (decide (nv (BitVec.ofInt 64 (IntKind.wrap IntKind.i64 (64 - IntKind.wrap IntKind.i64 (8 * n)))) ≤ 64)) = true ∧ (AV.tu [AT.ag [AC.u 0#64, AC.u (bshr (18446744073709551615#64) (Int.toNat (nv (BitVec.ofInt 64 (IntKind.wrap IntKind.i64 (64 - IntKind.wrap IntKind.i64 (8 * n))))))), AC.u 0#64, AC.u (bshr (18446744073709551615#64) (Int.toNat (nv (BitVec.ofInt 64 (IntKind.wrap IntKind.i64 (64 - IntKind.wrap IntKind.i64 (8 * n)))))))], AT.c (AC.i 0)] = V))
    (l4 : (n == 1) = false → (n == 2) = false → (n == 4) = false → (n == 8) = false → (AV.tu [AT.ag [AC.u 0#64, AC.u 0#64, AC.u 0#64, AC.u 0#64], AT.c (AC.i 3)] = V)) :
    CallOK Try.prog ⟨48, [AV.c (AC.i n)], [], ⟨V, [], none⟩⟩ :=
  (tf (n == 1)).elim (fun h0 => (match l0 h0 with | ⟨o0, e⟩ => ok_eq (calcBytes_w0 (and_yes h0 (and_yes h0 (and_yes o0 rfl)))) e)) (fun h0 => (tf (n == 2)).elim (fun h1 => (match l1 h0 h1 with | ⟨o0, e⟩ => ok_eq (calcBytes_w1 (and_yes (not_yes h0) (and_yes h1 (and_yes h1 (and_yes o0 rfl))))) e)) (fun h1 => (tf (n == 4)).elim (fun h2 => (match l2 h0 h1 h2 with | ⟨o0, e⟩ => ok_eq (calcBytes_w2 (and_yes (not_yes h0) (and_yes (not_yes h1) (and_yes h2 (and_yes h2 (and_yes o0 rfl)))))) e)) (fun h2 => (tf (n == 8)).elim (fun h3 => (match l3 h0 h1 h2 h3 with | ⟨o0, e⟩ => ok_eq (calcBytes_w3 (and_yes (not_yes h0) (and_yes (not_yes h1) (and_yes (not_yes h2) (and_yes h3 (and_yes o0 rfl)))))) e)) (fun h3 => (match l4 h0 h1 h2 h3 with | e => ok_eq (calcBytes_w4 (and_yes (not_yes h0) (and_yes (not_yes h1) (and_yes (not_yes h2) (and_yes (not_yes h3) rfl))))) e)))))
theorem refOver_w0 {x : BitVec 64} {y : BitVec 64} (h : (!eqb y 0#64 && (!eqb y zero && true)) = true) :
    CallOK Try.prog ⟨89, [AV.c (AC.u x), AV.c (AC.u y)], [], ⟨AV.c (AC.b (decide (nv (18446744073709551615#64 / y) < nv x))), [], none⟩⟩ :=
  val_run 2000 [] [true] ([]) [] Try.func89 rfl rfl rfl rfl (by kernel_rfl) h cr_nil
theorem refOver_w1 {x : BitVec 64} {y : BitVec 64} (h : (!!eqb y 0#64 && true) = true) :
    CallOK Try.prog ⟨89, [AV.c (AC.u x), AV.c (AC.u y)], [], ⟨AV.c (AC.b false), [], none⟩⟩ :=
  val_run 2000 [] [false] ([]) [] Try.func89 rfl rfl rfl rfl (by kernel_rfl) h cr_nil
theorem refOver_all {x : BitVec 64} {y : BitVec 64} {V : AV}
    (l0 : (!eqb y 0#64) = true → (!eqb y zero) = true ∧ (AV.c (AC.b (decide (nv (18446744073709551615#64 / y) < nv x))) = V))
    (l1 : (!eqb y 0#64) = false → (AV.c (AC.b false) = V)) :
    CallOK Try.prog ⟨89, [AV.c (AC.u x), AV.c (AC.u y)], [], ⟨V, [], none⟩⟩ :=
  (tf (!eqb y 0#64)).elim (fun h0 => (match l0 h0 with | ⟨o0, e⟩ => ok_eq (refOver_w0 (and_yes h0 (and_yes o0 rfl))) e)) (fun h0 => (match l1 h0 with | e => ok_eq (refOver_w1 (and_yes (not_yes h0) rfl)) e))
theorem refTwo2_w0 {a : V4} {b : V4} {p : V4} {kv : BitVec 64} {km : BitVec 64} {i : Bool} (h : (decide (nv (badd (V4.l a) (V4.l b)) < nv (V4.l a)) == decide (nv (badd (V4.h a) (V4.h b)) < nv (V4.h a)) && true) = true) (c0 : CallOK Try.prog (CallRec.mk 29 [AV.c (AC.i 2), AV.ag [AC.u (V4.v a), AC.u (V4.m a)], AV.ag [AC.u (V4.v b), AC.u (V4.m b)]] [] (Eff.mk (AV.ag [AC.u kv, AC.u km]) [] none))) (c1 : CallOK Try.prog (CallRec.mk 33 [AV.ag [AC.u kv, AC.u km, AC.u (badd (V4.l a) (V4.l b)), AC.u (badd (V4.h a) (V4.h b))]] [] (Eff.mk (AV.tu [AT.ag (V4.cs p), AT.c (AC.b i)]) [] none))) :
    CallOK Try.prog ⟨47, [AV.c (AC.i 2), AV.ag (V4.cs a), AV.ag (V4.cs b)], [], ⟨AV.ag (V4.cs p), [], none⟩⟩ :=
  val_run 2000 [Eff.mk (AV.ag [AC.u kv, AC.u km]) [] none, Eff.mk (AV.tu [AT.ag (V4.cs p), AT.c (AC.b i)]) [] none] [true, true, true] ([]) [] Try.func47 rfl rfl rfl rfl (by kernel_rfl) h (cr_cons c0 (cr_cons c1 cr_nil))
theorem refTwo2_w1 {a : V4} {b : V4} {p : V4} {kv : BitVec 64} {km : BitVec 64} {i : Bool} (h : (!decide (nv (badd (V4.l a) (V4.l b)) < nv (V4.l a)) == decide (nv (badd (V4.h a) (V4.h b)) < nv (V4.h a)) && true) = true) (c0 : CallOK Try.prog (CallRec.mk 29 [AV.c (AC.i 2), AV.ag [AC.u (V4.v a), AC.u (V4.m a)], AV.ag [AC.u (V4.v b), AC.u (V4.m b)]] [] (Eff.mk (AV.ag [AC.u kv, AC.u km]) [] none))) (c1 : CallOK Try.prog (CallRec.mk 33 [AV.ag [AC.u kv, AC.u km, AC.u 0#64, AC.u 18446744073709551615#64]] [] (Eff.mk (AV.tu [AT.ag (V4.cs p), AT.c (AC.b i)]) [] none))) :
    CallOK Try.prog ⟨47, [AV.c (AC.i 2), AV.ag (V4.cs a), AV.ag (V4.cs b)], [], ⟨AV.ag (V4.cs p), [], none⟩⟩ :=
  val_run 2000 [Eff.mk (AV.ag [AC.u kv, AC.u km]) [] none, Eff.mk (AV.tu [AT.ag (V4.cs p), AT.c (AC.b i)]) [] none] [true, true, false] ([]) [] Try.func47 rfl rfl rfl rfl (by kernel_rfl) h (cr_cons c0 (cr_cons c1 cr_nil))
theorem refTwo2_all {a : V4} {b : V4} {p : V4} {kv : BitVec 64} {km : BitVec 64} {i : Bool} {V : AV}
    (l0 : (decide (nv (badd (V4.l a) (V4.l b)) < nv (V4.l a)) == decide (nv (badd (V4.h a) (V4.h b)) < nv (V4.h a))) = true → (CallOK Try.prog (CallRec.mk 29 [AV.c (AC.i 2), AV.ag [AC.u (V4.v a), AC.u (V4.m a)], AV.ag [AC.u (V4.v b), AC.u (V4.m b)]] [] (Eff.mk (AV.ag [AC.u kv, AC.u km]) [] none))) ∧ (CallOK Try.prog (CallRec.mk 33 [AV.ag [AC.u kv, AC.u km, AC.u (badd (V4.l a) (V4.l b)), AC.u (badd (V4.h a) (V4.h b))]] [] (Eff.mk (AV.tu [AT.ag (V4.cs p), AT.c (AC.b i)]) [] none))) ∧ (AV.ag (V4.cs p) = V))
    (l1 : (decide (nv (badd (V4.l a) (V4.l b)) < nv (V4.l a)) == decide (nv (badd (V4.h a) (V4.h b)) < nv (V4.h a))) = false → (CallOK Try.prog (CallRec.mk 29 [AV.c (AC.i 2), AV.ag [AC.u (V4.v a), AC.u (V4.m a)], AV.ag [AC.u (V4.v b), AC.u (V4.m b)]] [] (Eff.mk (AV.ag [AC.u kv, AC.u km]) [] none))) ∧ (CallOK Try.prog (CallRec.mk 33 [AV.ag [AC.u kv, AC.u km, AC.u 0#64, AC.u 18446744073709551615#64]] [] (Eff.mk (AV.tu [AT.ag (V4.cs p), AT.c (AC.b i)]) [] none))) ∧ (AV.ag (V4.cs p) = V)) :
    CallOK Try.prog ⟨47, [AV.c (AC.i 2), AV.ag (V4.cs a), AV.ag (V4.cs b)], [], ⟨V, [], none⟩⟩ :=
  (tf (decide (nv (badd (V4.l a) (V4.l b)) < nv (V4.l a)) == decide (nv (badd (V4.h a) (V4.h b)) < nv (V4.h a)))).elim (fun h0 => (match l0 h0 with | ⟨c0, c1, e⟩ => ok_eq (refTwo2_w0 (and_yes h0 rfl) c0 c1) e)) (fun h0 => (match l1 h0 with | ⟨c0, c1, e⟩ => ok_eq (refTwo2_w1 (and_yes (not_yes h0) rfl) c0 c1) e))
theorem refTwo3_w0 {a : V4} {b : V4} {p : V4} {kv : BitVec 64} {km : BitVec 64} {i : Bool} (h : (decide (nv (V4.l a) < nv (V4.h b)) == decide (nv (V4.h a) < nv (V4.l b)) && true) = true) (c0 : CallOK Try.prog (CallRec.mk 29 [AV.c (AC.i 3), AV.ag [AC.u (V4.v a), AC.u (V4.m a)], AV.ag [AC.u (V4.v b), AC.u (V4.m b)]] [] (Eff.mk (AV.ag [AC.u kv, AC.u km]) [] none))) (c1 : CallOK Try.prog (CallRec.mk 33 [AV.ag [AC.u kv, AC.u km, AC.u (bsub (V4.l a) (V4.h b)), AC.u (bsub (V4.h a) (V4.l b))]] [] (Eff.mk (AV.tu [AT.ag (V4.cs p), AT.c (AC.b i)]) [] none))) :
    CallOK Try.prog ⟨47, [AV.c (AC.i 3), AV.ag (V4.cs a), AV.ag (V4.cs b)], [], ⟨AV.ag (V4.cs p), [], none⟩⟩ :=
  val_run 2000 [Eff.mk (AV.ag [AC.u kv, AC.u km]) [] none, Eff.mk (AV.tu [AT.ag (V4.cs p), AT.c (AC.b i)]) [] none] [true, false, true, true] ([]) [] Try.func47 rfl rfl rfl rfl (by kernel_rfl) h (cr_cons c0 (cr_cons c1 cr_nil))
theorem refTwo3_w1 {a : V4} {b : V4} {p : V4} {kv : BitVec 64} {km : BitVec 64} {i : Bool} (h : (!decide (nv (V4.l a) < nv (V4.h b)) == decide (nv (V4.h a) < nv (V4.l b)) && true) = true) (c0 : CallOK Try.prog (CallRec.mk 29 [AV.c (AC.i 3), AV.ag [AC.u (V4.v a), AC.u (V4.m a)], AV.ag [AC.u (V4.v b), AC.u (V4.m b)]] [] (Eff.mk (AV.ag [AC.u kv, AC.u km]) [] none))) (c1 : CallOK Try.prog (CallRec.mk 33 [AV.ag [AC.u kv, AC.u km, AC.u 0#64, AC.u 18446744073709551615#64]] [] (Eff.mk (AV.tu [AT.ag (V4.cs p), AT.c (AC.b i)]) [] none))) :
    CallOK Try.prog ⟨47, [AV.c (AC.i 3), AV.ag (V4.cs a), AV.ag (V4.cs b)], [], ⟨AV.ag (V4.cs p), [], none⟩⟩ :=
  val_run 2000 [Eff.mk (AV.ag [AC.u kv, AC.u km]) [] none, Eff.mk (AV.tu [AT.ag (V4.cs p), AT.c (AC.b i)]) [] none] [true, false, true, false] ([]) [] Try.func47 rfl rfl rfl rfl (by kernel_rfl) h (cr_cons c0 (cr_cons c1 cr_nil))
theorem refTwo3_all {a : V4} {b : V4} {p : V4} {kv : BitVec 64} {km : BitVec 64} {i : Bool} {V : AV}
    (l0 : (decide (nv (V4.l a) < nv (V4.h b)) == decide (nv (V4.h a) < nv (V4.l b))) = true → (CallOK Try.prog (CallRec.mk 29 [AV.c (AC.i 3), AV.ag [AC.u (V4.v a), AC.u (V4.m a)], AV.ag [AC.u (V4.v b), AC.u (V4.m b)]] [] (Eff.mk (AV.ag [AC.u kv, AC.u km]) [] none))) ∧ (CallOK Try.prog (CallRec.mk 33 [AV.ag [AC.u kv, AC.u km, AC.u (bsub (V4.l a) (V4.h b)), AC.u (bsub (V4.h a) (V4.l b))]] [] (Eff.mk (AV.tu [AT.ag (V4.cs p), AT.c (AC.b i)]) [] none))) ∧ (AV.ag (V4.cs p) = V))
    (l1 : (decide (nv (V4.l a) < nv (V4.h b)) == decide (nv (V4.h a) < nv (V4.l b))) = false → (CallOK Try.prog (CallRec.mk 29 [AV.c (AC.i 3), AV.ag [AC.u (V4.v a), AC.u (V4.m a)], AV.ag [AC.u (V4.v b), AC.u (V4.m b)]] [] (Eff.mk (AV.ag [AC.u kv, AC.u km]) [] none))) ∧ (CallOK Try.prog (CallRec.mk 33 [AV.ag [AC.u kv, AC.u km, AC.u 0#64, AC.u 18446744073709551615#64]] [] (Eff.mk (AV.tu [AT.ag (V4.cs p), AT.c (AC.b i)]) [] none))) ∧ (AV.ag (V4.cs p) = V)) :
    CallOK Try.prog ⟨47, [AV.c (AC.i 3), AV.ag (V4.cs a), AV.ag (V4.cs b)], [], ⟨V, [], none⟩⟩ :=
  (tf (decide (nv (V4.l a) < nv (V4.h b)) == decide (nv (V4.h a) < nv (V4.l b)))).elim (fun h0 => (match l0 h0 with | ⟨c0, c1, e⟩ => ok_eq (refTwo3_w0 (and_yes h0 rfl) c0 c1) e)) (fun h0 => (match l1 h0 with | ⟨c0, c1, e⟩ => ok_eq (refTwo3_w1 (and_yes (not_yes h0) rfl) c0 c1) e))
theorem refTwo5_w0 {a : V4} {b : V4} {p : V4} {kv : BitVec 64} {km : BitVec 64} {i : Bool} (c0 : CallOK Try.prog (CallRec.mk 29 [AV.c (AC.i 5), AV.ag [AC.u (V4.v a), AC.u (V4.m a)], AV.ag [AC.u (V4.v b), AC.u (V4.m b)]] [] (Eff.mk (AV.ag [AC.u kv, AC.u km]) [] none))) (c1 : CallOK Try.prog (CallRec.mk 33 [AV.ag [AC.u kv, AC.u km, AC.u 0#64, AC.u (bmin (V4.h a) (V4.h b))]] [] (Eff.mk (AV.tu [AT.ag (V4.cs p), AT.c (AC.b i)]) [] none))) :
    CallOK Try.prog ⟨47, [AV.c (AC.i 5), AV.ag (V4.cs a), AV.ag (V4.cs b)], [], ⟨AV.ag (V4.cs p), [], none⟩⟩ :=
  val_run 2000 [Eff.mk (AV.ag [AC.u kv, AC.u km]) [] none, Eff.mk (AV.tu [AT.ag (V4.cs p), AT.c (AC.b i)]) [] none] [true, false, false, false, true] ([]) [] Try.func47 rfl rfl rfl rfl (by kernel_rfl) rfl (cr_cons c0 (cr_cons c1 cr_nil))
theorem refTwo6_w0 {a : V4} {b : V4} {p : V4} {kv : BitVec 64} {km : BitVec 64} {i : Bool} (c0 : CallOK Try.prog (CallRec.mk 29 [AV.c (AC.i 6), AV.ag [AC.u (V4.v a), AC.u (V4.m a)], AV.ag [AC.u (V4.v b), AC.u (V4.m b)]] [] (Eff.mk (AV.ag [AC.u kv, AC.u km]) [] none))) (c1 : CallOK Try.prog (CallRec.mk 33 [AV.ag [AC.u kv, AC.u km, AC.u (bmax (V4.l a) (V4.l b)), AC.u 18446744073709551615#64]] [] (Eff.mk (AV.tu [AT.ag (V4.cs p), AT.c (AC.b i)]) [] none))) :
    CallOK Try.prog ⟨47, [AV.c (AC.i 6), AV.ag (V4.cs a), AV.ag (V4.cs b)], [], ⟨AV.ag (V4.cs p), [], none⟩⟩ :=
  val_run 2000 [Eff.mk (AV.ag [AC.u kv, AC.u km]) [] none, Eff.mk (AV.tu [AT.ag (V4.cs p), AT.c (AC.b i)]) [] none] [true, false, false, false, false, true] ([]) [] Try.func47 rfl rfl rfl rfl (by kernel_rfl) rfl (cr_cons c0 (cr_cons c1 cr_nil))
theorem refTwo7_w0 {a : V4} {b : V4} {p : V4} {kv : BitVec 64} {km : BitVec 64} {i : Bool} (c0 : CallOK Try.prog (CallRec.mk 29 [AV.c (AC.i 7), AV.ag [AC.u (V4.v a), AC.u (V4.m a)], AV.ag [AC.u (V4.v b), AC.u (V4.m b)]] [] (Eff.mk (AV.ag [AC.u kv, AC.u km]) [] none))) (c1 : CallOK Try.prog (CallRec.mk 33 [AV.ag [AC.u kv, AC.u km, AC.u 0#64, AC.u 18446744073709551615#64]] [] (Eff.mk (AV.tu [AT.ag (V4.cs p), AT.c (AC.b i)]) [] none))) :
    CallOK Try.prog ⟨47, [AV.c (AC.i 7), AV.ag (V4.cs a), AV.ag (V4.cs b)], [], ⟨AV.ag (V4.cs p), [], none⟩⟩ :=
  val_run 2000 [Eff.mk (AV.ag [AC.u kv, AC.u km]) [] none, Eff.mk (AV.tu [AT.ag (V4.cs p), AT.c (AC.b i)]) [] none] [true, false, false, false, false, false, false, false] ([]) [] Try.func47 rfl rfl rfl rfl (by kernel_rfl) rfl (cr_cons c0 (cr_cons c1 cr_nil))
theorem refTwo4_w0 {a : V4} {b : V4} {p : V4} {kv : BitVec 64} {km : BitVec 64} {i : Bool} {ov : Bool} (h : (!ov && true) = true) (c0 : CallOK Try.prog (CallRec.mk 29 [AV.c (AC.i 4), AV.ag [AC.u (V4.v a), AC.u (V4.m a)], AV.ag [AC.u (V4.v b), AC.u (V4.m b)]] [] (Eff.mk (AV.ag [AC.u kv, AC.u km]) [] none))) (c1 : CallOK Try.prog (CallRec.mk 89 [AV.c (AC.u (V4.h a)), AV.c (AC.u (V4.h b))] [] (Eff.mk (AV.c (AC.b ov)) [] none))) (c2 : CallOK Try.prog (CallRec.mk 33 [AV.ag [AC.u kv, AC.u km, AC.u (bmul (V4.l a) (V4.l b)), AC.u (bmul (V4.h a) (V4.h b))]] [] (Eff.mk (AV.tu [AT.ag (V4.cs p), AT.c (AC.b i)]) [] none))) :
    CallOK Try.prog ⟨47, [AV.c (AC.i 4), AV.ag (V4.cs a), AV.ag (V4.cs b)], [], ⟨AV.ag (V4.cs p), [], none⟩⟩ :=
  val_run 2000 [Eff.mk (AV.ag [AC.u kv, AC.u km]) [] none, Eff.mk (AV.c (AC.b ov)) [] none, Eff.mk (AV.tu [AT.ag (V4.cs p), AT.c (AC.b i)]) [] none] [true, false, false, true, true] ([]) [] Try.func47 rfl rfl rfl rfl (by kernel_rfl) h (cr_cons c0 (cr_cons c1 (cr_cons c2 cr_nil)))
theorem refTwo4_w1 {a : V4} {b : V4} {p : V4} {kv : BitVec 64} {km : BitVec 64} {i : Bool} {ov : Bool} (h : (!!ov && true) = true) (c0 : CallOK Try.prog (CallRec.mk 29 [AV.c (AC.i 4), AV.ag [AC.u (V4.v a), AC.u (V4.m a)], AV.ag [AC.u (V4.v b), AC.u (V4.m b)]] [] (Eff.mk (AV.ag [AC.u kv, AC.u km]) [] none))) (c1 : CallOK Try.prog (CallRec.mk 89 [AV.c (AC.u (V4.h a)), AV.c (AC.u (V4.h b))] [] (Eff.mk (AV.c (AC.b ov)) [] none))) (c2 : CallOK Try.prog (CallRec.mk 33 [AV.ag [AC.u kv, AC.u km, AC.u 0#64, AC.u 18446744073709551615#64]] [] (Eff.mk (AV.tu [AT.ag (V4.cs p), AT.c (AC.b i)]) [] none))) :
    CallOK Try.prog ⟨47, [AV.c (AC.i 4), AV.ag (V4.cs a), AV.ag (V4.cs b)], [], ⟨AV.ag (V4.cs p), [], none⟩⟩ :=
  val_run 2000 [Eff.mk (AV.ag [AC.u kv, AC.u km]) [] none, Eff.mk (AV.c (AC.b ov)) [] none, Eff.mk (AV.tu [AT.ag (V4.cs p), AT.c (AC.b i)]) [] none] [true, false, false, true, false] ([]) [] Try.func47 rfl rfl rfl rfl (by kernel_rfl) h (cr_cons c0 (cr_cons c1 (cr_cons c2 cr_nil)))
theorem refTwo4_all {a : V4} {b : V4} {p : V4} {kv : BitVec 64} {km : BitVec 64} {i : Bool} {ov : Bool} {V : AV}
    (l0 : (!ov) = true → (CallOK Try.prog (CallRec.mk 29 [AV.c (AC.i 4), AV.ag [AC.u (V4.v a), AC.u (V4.m a)], AV.ag [AC.u (V4.v b), AC.u (V4.m b)]] [] (Eff.mk (AV.ag [AC.u kv, AC.u km]) [] none))) ∧ (CallOK Try.prog (CallRec.mk 89 [AV.c (AC.u (V4.h a)), AV.c (AC.u (V4.h b))] [] (Eff.mk (AV.c (AC.b ov)) [] none))) ∧ (CallOK Try.prog (CallRec.mk 33 [AV.ag [AC.u kv, AC.u km, AC.u (bmul (V4.l a) (V4.l b)), AC.u (bmul (V4.h a) (V4.h b))]] [] (Eff.mk (AV.tu [AT.ag (V4.cs p), AT.c (AC.b i)]) [] none))) ∧ (AV.ag (V4.cs p) = V))
    (l1 : (!ov) = false → (CallOK Try.prog (CallRec.mk 29 [AV.c (AC.i 4), AV.ag [AC.u (V4.v a), AC.u (V4.m a)], AV.ag [AC.u (V4.v b), AC.u (V4.m b)]] [] (Eff.mk (AV.ag [AC.u kv, AC.u km]) [] none))) ∧ (CallOK Try.prog (CallRec.mk 89 [AV.c (AC.u (V4.h a)), AV.c (AC.u (V4.h b))] [] (Eff.mk (AV.c (AC.b ov)) [] none))) ∧ (CallOK Try.prog (CallRec.mk 33 [AV.ag [AC.u kv, AC.u km, AC.u 0#64, AC.u 18446744073709551615#64]] [] (Eff.mk (AV.tu [AT.ag (V4.cs p), AT.c (AC.b i)]) [] none))) ∧ (AV.ag (V4.cs p) = V)) :
    CallOK Try.prog ⟨47, [AV.c (AC.i 4), AV.ag (V4.cs a), AV.ag (V4.cs b)], [], ⟨V, [], none⟩⟩ :=
  (tf (!ov)).elim (fun h0 => (match l0 h0 with | ⟨c0, c1, c2, e⟩ => ok_eq (refTwo4_w0 (and_yes h0 rfl) c0 c1 c2) e)) (fun h0 => (match l1 h0 with | ⟨c0, c1, c2, e⟩ => ok_eq (refTwo4_w1 (and_yes (not_yes h0) rfl) c0 c1 c2) e))
theorem refTwo8n_w0 {a : V4} {b : V4} {p : V4} {i : Bool} {al : Bool} (h : (!al && true) = true) (c0 : CallOK Try.prog (CallRec.mk 90 [AV.ag (V4.cs b)] [] (Eff.mk (AV.c (AC.b al)) [] none))) (c1 : CallOK Try.prog (CallRec.mk 33 [AV.ag [AC.u 0#64, AC.u 18446744073709551615#64, AC.u 0#64, AC.u 18446744073709551615#64]] [] (Eff.mk (AV.tu [AT.ag (V4.cs p), AT.c (AC.b i)]) [] none))) :
    CallOK Try.prog ⟨47, [AV.c (AC.i 8), AV.ag (V4.cs a), AV.ag (V4.cs b)], [], ⟨AV.ag (V4.cs p), [], none⟩⟩ :=
  val_run 2000 [Eff.mk (AV.c (AC.b al)) [] none, Eff.mk (AV.tu [AT.ag (V4.cs p), AT.c (AC.b i)]) [] none] [false, false, false, false, false, false, true, false] ([]) [] Try.func47 rfl rfl rfl rfl (by kernel_rfl) h (cr_cons c0 (cr_cons c1 cr_nil))
theorem refTwo8y_w0 {a : V4} {b : V4} {p : V4} {kv : BitVec 64} {km : BitVec 64} {i : Bool} {al : Bool} (h : (al && (decide (0 ≤ IntKind.wrap IntKind.i64 (nv (band (V4.l b) 63#64))) && decide (IntKind.wrap IntKind.i64 (nv (band (V4.l b) 63#64)) ≤ 64) && (decide (0 ≤ IntKind.wrap IntKind.i64 (nv (band (V4.l b) 63#64))) && decide (IntKind.wrap IntKind.i64 (nv (band (V4.l b) 63#64)) ≤ 64) && (eqb (bshr (bshl (V4.h a) (Int.toNat (IntKind.wrap IntKind.i64 (nv (band (V4.l b) 63#64))))) (Int.toNat (IntKind.wrap IntKind.i64 (nv (band (V4.l b) 63#64))))) (V4.h a) && (decide (0 ≤ IntKind.wrap IntKind.i64 (nv (band (V4.l b) 63#64))) && decide (IntKind.wrap IntKind.i64 (nv (band (V4.l b) 63#64)) ≤ 64) && (decide (0 ≤ IntKind.wrap IntKind.i64 (nv (band (V4.l b) 63#64))) && decide (IntKind.wrap IntKind.i64 (nv (band (V4.l b) 63#64)) ≤ 64) && true)))))) = true) (c0 : CallOK Try.prog (CallRec.mk 90 [AV.ag (V4.cs b)] [] (Eff.mk (AV.c (AC.b al)) [] none))) (c1 : CallOK Try.prog (CallRec.mk 20 [AV.c (AC.i 8), AV.ag [AC.u (V4.v a), AC.u (V4.m a)], AV.c (AC.i (IntKind.wrap IntKind.i64 (nv (band (V4.l b) 63#64))))] [] (Eff.mk (AV.ag [AC.u kv, AC.u km]) [] none))) (c2 : CallOK Try.prog (CallRec.mk 33 [AV.ag [AC.u kv, AC.u km, AC.u (bshl (V4.l a) (Int.toNat (IntKind.wrap IntKind.i64 (nv (band (V4.l b) 63#64))))), AC.u (bshl (V4.h a) (Int.toNat (IntKind.wrap IntKind.i64 (nv (band (V4.l b) 63#64)))))]] [] (Eff.mk (AV.tu [AT.ag (V4.cs p), AT.c (AC.b i)]) [] none))) :
    CallOK Try.prog ⟨47, [AV.c (AC.i 8), AV.ag (V4.cs a), AV.ag (V4.cs b)], [], ⟨AV.ag (V4.cs p), [], none⟩⟩ :=
  val_run 2000 [Eff.mk (AV.c (AC.b al)) [] none, Eff.mk (AV.ag [AC.u kv, AC.u km]) [] none, Eff.mk (AV.tu [AT.ag (V4.cs p), AT.c (AC.b i)]) [] none] [false, false, false, false, false, false, true, true, true] ([]) [] Try.func47 rfl rfl rfl rfl (by kernel_rfl) h (cr_cons c0 (cr_cons c1 (cr_cons c2 cr_nil)))
theorem refTwo8y_w1 {a : V4} {b : V4} {p : V4} {kv : BitVec 64} {km : BitVec 64} {i : Bool} {al : Bool} (h : (al && (decide (0 ≤ IntKind.wrap IntKind.i64 (nv (band (V4.l b) 63#64))) && decide (IntKind.wrap IntKind.i64 (nv (band (V4.l b) 63#64)) ≤ 64) && (decide (0 ≤ IntKind.wrap IntKind.i64 (nv (band (V4.l b) 63#64))) && decide (IntKind.wrap IntKind.i64 (nv (band (V4.l b) 63#64)) ≤ 64) && (!eqb (bshr (bshl (V4.h a) (Int.toNat (IntKind.wrap IntKind.i64 (nv (band (V4.l b) 63#64))))) (Int.toNat (IntKind.wrap IntKind.i64 (nv (band (V4.l b) 63#64))))) (V4.h a) && true)))) = true) (c0 : CallOK Try.prog (CallRec.mk 90 [AV.ag (V4.cs b)] [] (Eff.mk (AV.c (AC.b al)) [] none))) (c1 : CallOK Try.prog (CallRec.mk 20 [AV.c (AC.i 8), AV.ag [AC.u (V4.v a), AC.u (V4.m a)], AV.c (AC.i (IntKind.wrap IntKind.i64 (nv (band (V4.l b) 63#64))))] [] (Eff.mk (AV.ag [AC.u kv, AC.u km]) [] none))) (c2 : CallOK Try.prog (CallRec.mk 33 [AV.ag [AC.u kv, AC.u km, AC.u 0#64, AC.u 18446744073709551615#64]] [] (Eff.mk (AV.tu [AT.ag (V4.cs p), AT.c (AC.b i)]) [] none))) :
    CallOK Try.prog ⟨47, [AV.c (AC.i 8), AV.ag (V4.cs a), AV.ag (V4.cs b)], [], ⟨AV.ag (V4.cs p), [], none⟩⟩ :=
  val_run 2000 [Eff.mk (AV.c (AC.b al)) [] none, Eff.mk (AV.ag [AC.u kv, AC.u km]) [] none, Eff.mk (AV.tu [AT.ag (V4.cs p), AT.c (AC.b i)]) [] none] [false, false, false, false, false, false, true, true, false] ([]) [] Try.func47 rfl rfl rfl rfl (by kernel_rfl) h (cr_cons c0 (cr_cons c1 (cr_cons c2 cr_nil)))
theorem refTwo8y_all {a : V4} {b : V4} {p : V4} {kv : BitVec 64} {km : BitVec 64} {i : Bool} {al : Bool} {V : AV}
    (l0 : (eqb (bshr (bshl (V4.h a) (Int.toNat (IntKind.wrap IntKind.i64 (nv (band (V4.l b) 63#64))))) (Int.toNat (IntKind.wrap IntKind.i64 (nv (band (V4.l b) 63#64))))) (V4.h a)) = true → (al) = true ∧ (decide (0 ≤ IntKind.wrap IntKind.i64 (nv (band (V4.l b) 63#64))) && decide (IntKind.wrap IntKind.i64 (nv (band (V4.l b) 63#64)) ≤ 64)) = true ∧ (decide (0 ≤ IntKind.wrap IntKind.i64 (nv (band (V4.l b) 63#64))) && decide (IntKind.wrap IntKind.i64 (nv (band (V4.l b) 63#64)) ≤ 64)) = true ∧ (decide (0 ≤ IntKind.wrap IntKind.i64 (nv (band (V4.l b) 63#64))) && decide (IntKind.wrap IntKind.i64 (nv (band (V4.l b) 63#64)) ≤ 64)) = true ∧ (decide (0 ≤ IntKind.wrap IntKind.i64 (nv (band (V4.l b) 63#64))) && decide (IntKind.wrap IntKind.i64 (nv (band (V4.l b) 63#64)) ≤ 64)) = true ∧ (CallOK Try.prog (CallRec.mk 90 [AV.ag (V4.cs b)] [] (Eff.mk (AV.c (AC.b al)) [] none))) ∧ (CallOK Try.prog (CallRec.mk 20 [AV.c (AC.i 8), AV.ag [AC.u (V4.v a), AC.u (V4.m a)], AV.c (AC.i (IntKind.wrap IntKind.i64 (nv (band (V4.l b) 63#64))))] [] (Eff.mk (AV.ag [AC.u kv, AC.u km]) [] none))) ∧ (CallOK Try.prog (CallRec.mk 33 [AV.ag [AC.u kv, AC.u km, AC.u (bshl (V4.l a) (Int.toNat (IntKind.wrap IntKind.i64 (nv (band (V4.l b) 63#64))))), AC.u (bshl (V4.h a) (Int.toNat (IntKind.wrap IntKind.i64 (nv (band (V4.l b) 63#64)))))]] [] (Eff.mk (AV.tu [AT.ag (V4.cs p), AT.c (AC.b i)]) [] none))) ∧ (AV.ag (V4.cs p) = V))
    (l1 : (eqb (bshr (bshl (V4.h a) (Int.toNat (IntKind.wrap IntKind.i64 (nv (band (V4.l b) 63#64))))) (Int.toNat (IntKind.wrap IntKind.i64 (nv (band (V4.l b) 63#64))))) (V4.h a)) = false → (al) = true ∧ (decide (0 ≤ IntKind.wrap IntKind.i64 (nv (band (V4.l b) 63#64))) && decide (IntKind.wrap IntKind.i64 (nv (band (V4.l b) 63#64)) ≤ 64)) = true ∧ (decide (0 ≤ IntKind.wrap IntKind.i64 (nv (band (V4.l b) 63#64))) && decide (IntKind.wrap IntKind.i64 (nv (band (V4.l b) 63#64)) ≤ 64)) = true ∧ (CallOK Try.prog (CallRec.mk 90 [AV.ag (V4.cs b)] [] (Eff.mk (AV.c (AC.b al)) [] none))) ∧ (CallOK Try.prog (CallRec.mk 20 [AV.c (AC.i 8), AV.ag [AC.u (V4.v a), AC.u (V4.m a)], AV.c (AC.i (IntKind.wrap IntKind.i64 (nv (band (V4.l b) 63#64))))] [] (Eff.mk (AV.ag [AC.u kv, AC.u km]) [] none))) ∧ (CallOK Try.prog (CallRec.mk 33 [AV.ag [AC.u kv, AC.u km, AC.u 0#64, AC.u 18446744073709551615#64]] [] (Eff.mk (AV.tu [AT.ag (V4.cs p), AT.c (AC.b i)]) [] none))) ∧ (AV.ag (V4.cs p) = V)) :
    CallOK Try.prog ⟨47, [AV.c (AC.i 8), AV.ag (V4.cs a), AV.ag (V4.cs b)], [], ⟨V, [], none⟩⟩ :=
  (tf (eqb (bshr (bshl (V4.h a) (Int.toNat (IntKind.wrap IntKind.i64 (nv (band (V4.l b) 63#64))))) (Int.toNat (IntKind.wrap IntKind.i64 (nv (band (V4.l b) 63#64))))) (V4.h a))).elim (fun h0 => (match l0 h0 with | ⟨o0, o1, o2, o3, o4, c0, c1, c2, e⟩ => ok_eq (refTwo8y_w0 (and_yes o0 (and_yes o1 (and_yes o2 (and_yes h0 (and_yes o3 (and_yes o4 rfl)))))) c0 c1 c2) e)) (fun h0 => (match l1 h0 with | ⟨o0, o1, o2, c0, c1, c2, e⟩ => ok_eq (refTwo8y_w1 (and_yes o0 (and_yes o1 (and_yes o2 (and_yes (not_yes h0) rfl)))) c0 c1 c2) e))
theorem refTwo9n_w0 {a : V4} {b : V4} {p : V4} {i : Bool} {al : Bool} (h : (!al && true) = true) (c0 : CallOK Try.prog (CallRec.mk 90 [AV.ag (V4.cs b)] [] (Eff.mk (AV.c (AC.b al)) [] none))) (c1 : CallOK Try.prog (CallRec.mk 33 [AV.ag [AC.u 0#64, AC.u 18446744073709551615#64, AC.u 0#64, AC.u (V4.h a)]] [] (Eff.mk (AV.tu [AT.ag (V4.cs p), AT.c (AC.b i)]) [] none))) :
    CallOK Try.prog ⟨47, [AV.c (AC.i 9), AV.ag (V4.cs a), AV.ag (V4.cs b)], [], ⟨AV.ag (V4.cs p), [], none⟩⟩ :=
  val_run 2000 [Eff.mk (AV.c (AC.b al)) [] none, Eff.mk (AV.tu [AT.ag (V4.cs p), AT.c (AC.b i)]) [] none] [false, false, false, false, false, false, false, true, false] ([]) [] Try.func47 rfl rfl rfl rfl (by kernel_rfl) h (cr_cons c0 (cr_cons c1 cr_nil))
theorem refTwo9y_w0 {a : V4} {b : V4} {p : V4} {kv : BitVec 64} {km : BitVec 64} {i : Bool} {al : Bool} (h : (al && (decide (0 ≤ IntKind.wrap IntKind.i64 (nv (band (V4.l b) 63#64))) && decide (IntKind.wrap IntKind.i64 (nv (band (V4.l b) 63#64)) ≤ 64) && (decide (0 ≤ IntKind.wrap IntKind.i64 (nv (band (V4.l b) 63#64))) && decide (IntKind.wrap IntKind.i64 (nv (band (V4.l b) 63#64)) ≤ 64) && true))) = true) (c0 : CallOK Try.prog (CallRec.mk 90 [AV.ag (V4.cs b)] [] (Eff.mk (AV.c (AC.b al)) [] none))) (c1 : CallOK Try.prog (CallRec.mk 20 [AV.c (AC.i 9), AV.ag [AC.u (V4.v a), AC.u (V4.m a)], AV.c (AC.i (IntKind.wrap IntKind.i64 (nv (band (V4.l b) 63#64))))] [] (Eff.mk (AV.ag [AC.u kv, AC.u km]) [] none))) (c2 : CallOK Try.prog (CallRec.mk 33 [AV.ag [AC.u kv, AC.u km, AC.u (bshr (V4.l a) (Int.toNat (IntKind.wrap IntKind.i64 (nv (band (V4.l b) 63#64))))), AC.u (bshr (V4.h a) (Int.toNat (IntKind.wrap IntKind.i64 (nv (band (V4.l b) 63#64)))))]] [] (Eff.mk (AV.tu [AT.ag (V4.cs p), AT.c (AC.b i)]) [] none))) :
    CallOK Try.prog ⟨47, [AV.c (AC.i 9), AV.ag (V4.cs a), AV.ag (V4.cs b)], [], ⟨AV.ag (V4.cs p), [], none⟩⟩ :=
  val_run 2000 [Eff.mk (AV.c (AC.b al)) [] none, Eff.mk (AV.ag [AC.u kv, AC.u km]) [] none, Eff.mk (AV.tu [AT.ag (V4.cs p), AT.c (AC.b i)]) [] none] [false, false, false, false, false, false, false, true, true] ([]) [] Try.func47 rfl rfl rfl rfl (by kernel_rfl) h (cr_cons c0 (cr_cons c1 (cr_cons c2 cr_nil)))
end Go.Proofs.Ytkigmocchaikgaa

/- The contract of package calc's leave, over each of the four functions that it is handed. (Written by gen_w26.py.) -/
namespace Go.Proofs.Ytkigmocchaikgaa
open Go.RowKit
attribute [local go_sem] w_and w_or w_xor w_andNot w_and1 w_and63 w_add w_sub w_mul w_sub1 w_add1 w_shl w_shl1 w_shr c_beq c_bne c_beq0 c_bne0 c_beq1 c_bne1 wrap_nv

abbrev PT (b : Nat) : Value := .pointer (some ⟨b, 0, none⟩)
/- what is left of both -/
def lv (p : Bool) (a : Value) : Value := if p then a else V0

set_option maxRecDepth 100000 in
set_option maxHeartbeats 1000000 in
theorem leave_wrongEqual {p1 p2 : Value} {v m l g v' m' l' g' : BitVec 64} (hr : Hid ((valB v m l g && valB v' m' l' g') = false)) (w : World) :
    Calls Try.prog 91 #[Vl v m l g, Vl v' m' l' g', .func (.func 92) #[] #[p1, p2]] w fun e w' => e = .returned (.tuple #[V0, V0, .bool false, N 1]) ∧ Below w.heap.size w w' := by
  obtain ⟨z1, H1⟩ : ∃ b, Hid (valB v m l g = b) := ⟨_, rfl⟩
  obtain ⟨z2, H2⟩ : ∃ b, Hid (valB v' m' l' g' = b) := ⟨_, rfl⟩
  rw [H1.out, H2.out] at hr
  go_enter Try.func91, Try.ntmps91
  go_wp2_with fail
  refine (vcheck2 H1 H2 (by simp) (by simp [go_sem]) (by simp [go_sem]) (by simp [go_sem]) (by simp [go_sem]) (by simp [go_sem]) (by simp [go_sem]) (by simp [go_sem]) (by simp [go_sem])).mono ?_
  rw [hr.out, er_f]
  rintro e w1 ⟨rfl, hb1⟩
  have hK := ((((((Kp.start w).add4 _ _ _ _ _).add4 _ _ _ _ _).add4 _ _ _ _ _).add4 _ _ _ _ _).keep ((Below.refl _ _).alloc (Nat.le_refl _) _)).keep hb1
  simp only [World.size_alloc] at hK
  obtain ⟨s0, s1, s2, s3, s4, s5, s6, s7, s8⟩ := hK.box.head.four
  obtain ⟨r0, r1, r2, r3, r4, r5, r6, r7, r8⟩ := hK.box.tail.head.four
  obtain ⟨b0, b1, b2, b3, b4, b5, b6, b7, b8⟩ := hK.box.tail.tail.head.four
  obtain ⟨a0, a1, a2, a3, a4, a5, a6, a7, a8⟩ := hK.box.tail.tail.tail.head.four
  go_wp2_with fail
  exact bodyPost_ret (v := .tuple #[V0, V0, .bool false, N 1]) (by simp [results, Try.results91, go_sem, nv_zero, s0, s1, s2, s3, r0, r1, r2, r3]) rfl ⟨rfl, ((hK.set4 1 rfl).set4 0 rfl).bel⟩
set_option maxRecDepth 100000 in
set_option maxHeartbeats 4000000 in
theorem leave_Equal {p1 p2 : Value} {v m l g v' m' l' g' a b c d a' b' c' d' x y z t x' y' z' t' : BitVec 64} {may i1 i2 : Bool} {e1 e2 : Int} (hr : Hid ((valB v m l g && valB v' m' l' g') = true)) (w : World)
    (HR : Hid (∀ w', Below w.heap.size w w' → Calls Try.prog 92 #[p1, p2] w' fun e w'' => e = .returned (.tuple #[Vl a b c d, Vl a' b' c' d', .bool may]) ∧ Below w'.heap.size w' w''))
    (N1 : Hid (∀ w, Calls Try.prog 31 #[Vl a b c d] w fun e w' => e = .returned (.tuple #[Vl x y z t, .bool i1, N e1]) ∧ Below w.heap.size w w'))
    (N2 : Hid (∀ w, Calls Try.prog 31 #[Vl a' b' c' d'] w fun e w' => e = .returned (.tuple #[Vl x' y' z' t', .bool i2, N e2]) ∧ Below w.heap.size w w')) :
    Calls Try.prog 91 #[Vl v m l g, Vl v' m' l' g', .func (.func 92) #[] #[p1, p2]] w fun e w' => e = .returned (.tuple #[lv (may && (i1 && i2)) (Vl x y z t), lv (may && (i1 && i2)) (Vl x' y' z' t'), .bool (may && (i1 && i2)), N 0]) ∧ Below w.heap.size w w' := by
  obtain ⟨z1, H1⟩ : ∃ b, Hid (valB v m l g = b) := ⟨_, rfl⟩
  obtain ⟨z2, H2⟩ : ∃ b, Hid (valB v' m' l' g' = b) := ⟨_, rfl⟩
  rw [H1.out, H2.out] at hr
  obtain ⟨q, hq⟩ : ∃ q, Hid (q = (may && (i1 && i2))) := ⟨_, rfl⟩
  rw [← hq.out]
  go_enter Try.func91, Try.ntmps91
  go_wp2_with fail
  refine (vcheck2 H1 H2 (by simp) (by simp [go_sem]) (by simp [go_sem]) (by simp [go_sem]) (by simp [go_sem]) (by simp [go_sem]) (by simp [go_sem]) (by simp [go_sem]) (by simp [go_sem])).mono ?_
  rw [hr.out, er_t]
  rintro e w1 ⟨rfl, hb1⟩
  have hK := ((((((Kp.start w).add4 _ _ _ _ _).add4 _ _ _ _ _).add4 _ _ _ _ _).add4 _ _ _ _ _).keep ((Below.refl _ _).alloc (Nat.le_refl _) _)).keep hb1
  simp only [World.size_alloc] at hK
  clear hb1
  go_wp2_with fail
  refine (HR.out _ hK.bel).mono ?_
  rintro e w2 ⟨rfl, hb2⟩
  have hK2 := hK.keep hb2
  have hK3 := (hK2.set4 (x := U a) (y := U b) (z := U c) (t := U d) 3 rfl).set4 (x := U a') (y := U b') (z := U c') (t := U d') 2 rfl
  obtain ⟨s0, s1, s2, s3, s4, s5, s6, s7, s8⟩ := hK2.box.head.four
  obtain ⟨r0, r1, r2, r3, r4, r5, r6, r7, r8⟩ := hK2.box.tail.head.four
  obtain ⟨b0, b1, b2, b3, b4, b5, b6, b7, b8⟩ := hK2.box.tail.tail.head.four
  obtain ⟨a0, a1, a2, a3, a4, a5, a6, a7, a8⟩ := hK2.box.tail.tail.tail.head.four
  clear hb2 hK
  go_wp2_with fail
  refine (N1.out _).mono ?_
  rintro e w3 ⟨rfl, hb3⟩
  have hK4 := hK3.keep hb3
  have hK5 := hK4.set4 (x := U x) (y := U y) (z := U z) (t := U t) 3 rfl
  clear s0 s1 s2 s3 s4 s5 s6 s7 s8 r0 r1 r2 r3 r4 r5 r6 r7 r8 b0 b1 b2 b3 b4 b5 b6 b7 b8 a0 a1 a2 a3 a4 a5 a6 a7 a8
  obtain ⟨s0, s1, s2, s3, s4, s5, s6, s7, s8⟩ := hK4.box.head.four
  obtain ⟨r0, r1, r2, r3, r4, r5, r6, r7, r8⟩ := hK4.box.tail.head.four
  obtain ⟨b0, b1, b2, b3, b4, b5, b6, b7, b8⟩ := hK4.box.tail.tail.head.four
  obtain ⟨a0, a1, a2, a3, a4, a5, a6, a7, a8⟩ := hK4.box.tail.tail.tail.head.four
  clear hb3 hK2 hK3
  go_wp2_with fail
  refine (N2.out _).mono ?_
  rintro e w4 ⟨rfl, hb4⟩
  have hK6 := hK5.keep hb4
  have hK7 := hK6.set4 (x := U x') (y := U y') (z := U z') (t := U t') 2 rfl
  clear s0 s1 s2 s3 s4 s5 s6 s7 s8 r0 r1 r2 r3 r4 r5 r6 r7 r8 b0 b1 b2 b3 b4 b5 b6 b7 b8 a0 a1 a2 a3 a4 a5 a6 a7 a8
  obtain ⟨s0, s1, s2, s3, s4, s5, s6, s7, s8⟩ := hK6.box.head.four
  obtain ⟨r0, r1, r2, r3, r4, r5, r6, r7, r8⟩ := hK6.box.tail.head.four
  obtain ⟨b0, b1, b2, b3, b4, b5, b6, b7, b8⟩ := hK6.box.tail.tail.head.four
  obtain ⟨a0, a1, a2, a3, a4, a5, a6, a7, a8⟩ := hK6.box.tail.tail.tail.head.four
  clear hb4 hK4 hK5
  go_upto_region 7 with fail
  clear s0 s1 s2 s3 s4 s5 s6 s7 s8 r0 r1 r2 r3 r4 r5 r6 r7 r8 b0 b1 b2 b3 b4 b5 b6 b7 b8 a0 a1 a2 a3 a4 a5 a6 a7 a8
  clear hK6
  go_cut [52] (fun u wc => u = .bool (!q) ∧ Kp w wc [(w.heap.size + 1 + 1 + 1, [.int .u64 0, .int .u64 0, .int .u64 0, .int .u64 0]), (w.heap.size + 1 + 1, [.int .u64 0, .int .u64 0, .int .u64 0, .int .u64 0]), (w.heap.size + 1, [U x', U y', U z', U t']), (w.heap.size, [U x, U y, U z, U t])])
  case first =>
    cases may
    · go_wp2_with fail
      go_meet
      case rel => exact ⟨by rw [hq.out]; rfl, hK7⟩
    · cases i1
      · go_wp2_with fail
        go_meet
        case rel => exact ⟨by rw [hq.out]; rfl, hK7⟩
      · cases i2
        all_goals
          go_wp2_with fail
          go_meet
          case rel => exact ⟨by rw [hq.out]; rfl, hK7⟩
  case rest =>
    clear hK7 hq
    obtain ⟨rfl, hK8⟩ := hcut
    obtain ⟨s0, s1, s2, s3, s4, s5, s6, s7, s8⟩ := hK8.box.head.four
    obtain ⟨r0, r1, r2, r3, r4, r5, r6, r7, r8⟩ := hK8.box.tail.head.four
    obtain ⟨b0, b1, b2, b3, b4, b5, b6, b7, b8⟩ := hK8.box.tail.tail.head.four
    obtain ⟨a0, a1, a2, a3, a4, a5, a6, a7, a8⟩ := hK8.box.tail.tail.tail.head.four
    cases q
    · go_wp2_with fail
      exact bodyPost_ret (v := .tuple #[V0, V0, .bool false, N 0]) (by simp [results, Try.results91, go_sem, nv_zero, s0, s1, s2, s3, r0, r1, r2, r3]) rfl ⟨rfl, ((hK8.set4 1 rfl).set4 0 rfl).bel⟩
    · go_wp2_with fail
      go_region
      all_goals
        go_wp2_with fail
        exact bodyPost_ret (v := .tuple #[Vl x y z t, Vl x' y' z' t', .bool true, N 0]) (by simp [results, Try.results91, go_sem, s0, s1, s2, s3, r0, r1, r2, r3]) rfl ⟨rfl, Below.drew ((hK8.set4 1 rfl).set4 0 rfl).bel⟩

set_option maxRecDepth 100000 in
set_option maxHeartbeats 1000000 in
theorem leave_wrongOther {p1 p2 : Value} {v m l g v' m' l' g' : BitVec 64} (hr : Hid ((valB v m l g && valB v' m' l' g') = false)) (w : World) :
    Calls Try.prog 91 #[Vl v m l g, Vl v' m' l' g', .func (.func 93) #[] #[p1, p2]] w fun e w' => e = .returned (.tuple #[V0, V0, .bool false, N 1]) ∧ Below w.heap.size w w' := by
  obtain ⟨z1, H1⟩ : ∃ b, Hid (valB v m l g = b) := ⟨_, rfl⟩
  obtain ⟨z2, H2⟩ : ∃ b, Hid (valB v' m' l' g' = b) := ⟨_, rfl⟩
  rw [H1.out, H2.out] at hr
  go_enter Try.func91, Try.ntmps91
  go_wp2_with fail
  refine (vcheck2 H1 H2 (by simp) (by simp [go_sem]) (by simp [go_sem]) (by simp [go_sem]) (by simp [go_sem]) (by simp [go_sem]) (by simp [go_sem]) (by simp [go_sem]) (by simp [go_sem])).mono ?_
  rw [hr.out, er_f]
  rintro e w1 ⟨rfl, hb1⟩
  have hK := ((((((Kp.start w).add4 _ _ _ _ _).add4 _ _ _ _ _).add4 _ _ _ _ _).add4 _ _ _ _ _).keep ((Below.refl _ _).alloc (Nat.le_refl _) _)).keep hb1
  simp only [World.size_alloc] at hK
  obtain ⟨s0, s1, s2, s3, s4, s5, s6, s7, s8⟩ := hK.box.head.four
  obtain ⟨r0, r1, r2, r3, r4, r5, r6, r7, r8⟩ := hK.box.tail.head.four
  obtain ⟨b0, b1, b2, b3, b4, b5, b6, b7, b8⟩ := hK.box.tail.tail.head.four
  obtain ⟨a0, a1, a2, a3, a4, a5, a6, a7, a8⟩ := hK.box.tail.tail.tail.head.four
  go_wp2_with fail
  exact bodyPost_ret (v := .tuple #[V0, V0, .bool false, N 1]) (by simp [results, Try.results91, go_sem, nv_zero, s0, s1, s2, s3, r0, r1, r2, r3]) rfl ⟨rfl, ((hK.set4 1 rfl).set4 0 rfl).bel⟩
set_option maxRecDepth 100000 in
set_option maxHeartbeats 4000000 in
theorem leave_Other {p1 p2 : Value} {v m l g v' m' l' g' a b c d a' b' c' d' x y z t x' y' z' t' : BitVec 64} {may i1 i2 : Bool} {e1 e2 : Int} (hr : Hid ((valB v m l g && valB v' m' l' g') = true)) (w : World)
    (HR : Hid (∀ w', Below w.heap.size w w' → Calls Try.prog 93 #[p1, p2] w' fun e w'' => e = .returned (.tuple #[Vl a b c d, Vl a' b' c' d', .bool may]) ∧ Below w'.heap.size w' w''))
    (N1 : Hid (∀ w, Calls Try.prog 31 #[Vl a b c d] w fun e w' => e = .returned (.tuple #[Vl x y z t, .bool i1, N e1]) ∧ Below w.heap.size w w'))
    (N2 : Hid (∀ w, Calls Try.prog 31 #[Vl a' b' c' d'] w fun e w' => e = .returned (.tuple #[Vl x' y' z' t', .bool i2, N e2]) ∧ Below w.heap.size w w')) :
    Calls Try.prog 91 #[Vl v m l g, Vl v' m' l' g', .func (.func 93) #[] #[p1, p2]] w fun e w' => e = .returned (.tuple #[lv (may && (i1 && i2)) (Vl x y z t), lv (may && (i1 && i2)) (Vl x' y' z' t'), .bool (may && (i1 && i2)), N 0]) ∧ Below w.heap.size w w' := by
  obtain ⟨z1, H1⟩ : ∃ b, Hid (valB v m l g = b) := ⟨_, rfl⟩
  obtain ⟨z2, H2⟩ : ∃ b, Hid (valB v' m' l' g' = b) := ⟨_, rfl⟩
  rw [H1.out, H2.out] at hr
  obtain ⟨q, hq⟩ : ∃ q, Hid (q = (may && (i1 && i2))) := ⟨_, rfl⟩
  rw [← hq.out]
  go_enter Try.func91, Try.ntmps91
  go_wp2_with fail
  refine (vcheck2 H1 H2 (by simp) (by simp [go_sem]) (by simp [go_sem]) (by simp [go_sem]) (by simp [go_sem]) (by simp [go_sem]) (by simp [go_sem]) (by simp [go_sem]) (by simp [go_sem])).mono ?_
  rw [hr.out, er_t]
  rintro e w1 ⟨rfl, hb1⟩
  have hK := ((((((Kp.start w).add4 _ _ _ _ _).add4 _ _ _ _ _).add4 _ _ _ _ _).add4 _ _ _ _ _).keep ((Below.refl _ _).alloc (Nat.le_refl _) _)).keep hb1
  simp only [World.size_alloc] at hK
  clear hb1
  go_wp2_with fail
  refine (HR.out _ hK.bel).mono ?_
  rintro e w2 ⟨rfl, hb2⟩
  have hK2 := hK.keep hb2
  have hK3 := (hK2.set4 (x := U a) (y := U b) (z := U c) (t := U d) 3 rfl).set4 (x := U a') (y := U b') (z := U c') (t := U d') 2 rfl
  obtain ⟨s0, s1, s2, s3, s4, s5, s6, s7, s8⟩ := hK2.box.head.four
  obtain ⟨r0, r1, r2, r3, r4, r5, r6, r7, r8⟩ := hK2.box.tail.head.four
  obtain ⟨b0, b1, b2, b3, b4, b5, b6, b7, b8⟩ := hK2.box.tail.tail.head.four
  obtain ⟨a0, a1, a2, a3, a4, a5, a6, a7, a8⟩ := hK2.box.tail.tail.tail.head.four
  clear hb2 hK
  go_wp2_with fail
  refine (N1.out _).mono ?_
  rintro e w3 ⟨rfl, hb3⟩
  have hK4 := hK3.keep hb3
  have hK5 := hK4.set4 (x := U x) (y := U y) (z := U z) (t := U t) 3 rfl
  clear s0 s1 s2 s3 s4 s5 s6 s7 s8 r0 r1 r2 r3 r4 r5 r6 r7 r8 b0 b1 b2 b3 b4 b5 b6 b7 b8 a0 a1 a2 a3 a4 a5 a6 a7 a8
  obtain ⟨s0, s1, s2, s3, s4, s5, s6, s7, s8⟩ := hK4.box.head.four
  obtain ⟨r0, r1, r2, r3, r4, r5, r6, r7, r8⟩ := hK4.box.tail.head.four
  obtain ⟨b0, b1, b2, b3, b4, b5, b6, b7, b8⟩ := hK4.box.tail.tail.head.four
  obtain ⟨a0, a1, a2, a3, a4, a5, a6, a7, a8⟩ := hK4.box.tail.tail.tail.head.four
  clear hb3 hK2 hK3
  go_wp2_with fail
  refine (N2.out _).mono ?_
  rintro e w4 ⟨rfl, hb4⟩
  have hK6 := hK5.keep hb4
  have hK7 := hK6.set4 (x := U x') (y := U y') (z := U z') (t := U t') 2 rfl
  clear s0 s1 s2 s3 s4 s5 s6 s7 s8 r0 r1 r2 r3 r4 r5 r6 r7 r8 b0 b1 b2 b3 b4 b5 b6 b7 b8 a0 a1 a2 a3 a4 a5 a6 a7 a8
  obtain ⟨s0, s1, s2, s3, s4, s5, s6, s7, s8⟩ := hK6.box.head.four
  obtain ⟨r0, r1, r2, r3, r4, r5, r6, r7, r8⟩ := hK6.box.tail.head.four
  obtain ⟨b0, b1, b2, b3, b4, b5, b6, b7, b8⟩ := hK6.box.tail.tail.head.four
  obtain ⟨a0, a1, a2, a3, a4, a5, a6, a7, a8⟩ := hK6.box.tail.tail.tail.head.four
  clear hb4 hK4 hK5
  go_upto_region 7 with fail
  clear s0 s1 s2 s3 s4 s5 s6 s7 s8 r0 r1 r2 r3 r4 r5 r6 r7 r8 b0 b1 b2 b3 b4 b5 b6 b7 b8 a0 a1 a2 a3 a4 a5 a6 a7 a8
  clear hK6
  go_cut [52] (fun u wc => u = .bool (!q) ∧ Kp w wc [(w.heap.size + 1 + 1 + 1, [.int .u64 0, .int .u64 0, .int .u64 0, .int .u64 0]), (w.heap.size + 1 + 1, [.int .u64 0, .int .u64 0, .int .u64 0, .int .u64 0]), (w.heap.size + 1, [U x', U y', U z', U t']), (w.heap.size, [U x, U y, U z, U t])])
  case first =>
    cases may
    · go_wp2_with fail
      go_meet
      case rel => exact ⟨by rw [hq.out]; rfl, hK7⟩
    · cases i1
      · go_wp2_with fail
        go_meet
        case rel => exact ⟨by rw [hq.out]; rfl, hK7⟩
      · cases i2
        all_goals
          go_wp2_with fail
          go_meet
          case rel => exact ⟨by rw [hq.out]; rfl, hK7⟩
  case rest =>
    clear hK7 hq
    obtain ⟨rfl, hK8⟩ := hcut
    obtain ⟨s0, s1, s2, s3, s4, s5, s6, s7, s8⟩ := hK8.box.head.four
    obtain ⟨r0, r1, r2, r3, r4, r5, r6, r7, r8⟩ := hK8.box.tail.head.four
    obtain ⟨b0, b1, b2, b3, b4, b5, b6, b7, b8⟩ := hK8.box.tail.tail.head.four
    obtain ⟨a0, a1, a2, a3, a4, a5, a6, a7, a8⟩ := hK8.box.tail.tail.tail.head.four
    cases q
    · go_wp2_with fail
      exact bodyPost_ret (v := .tuple #[V0, V0, .bool false, N 0]) (by simp [results, Try.results91, go_sem, nv_zero, s0, s1, s2, s3, r0, r1, r2, r3]) rfl ⟨rfl, ((hK8.set4 1 rfl).set4 0 rfl).bel⟩
    · go_wp2_with fail
      go_region
      all_goals
        go_wp2_with fail
        exact bodyPost_ret (v := .tuple #[Vl x y z t, Vl x' y' z' t', .bool true, N 0]) (by simp [results, Try.results91, go_sem, s0, s1, s2, s3, r0, r1, r2, r3]) rfl ⟨rfl, Below.drew ((hK8.set4 1 rfl).set4 0 rfl).bel⟩

set_option maxRecDepth 100000 in
set_option maxHeartbeats 1000000 in
theorem leave_wrongLess {p1 p2 : Value} {v m l g v' m' l' g' : BitVec 64} (hr : Hid ((valB v m l g && valB v' m' l' g') = false)) (w : World) :
    Calls Try.prog 91 #[Vl v m l g, Vl v' m' l' g', .func (.func 96) #[] #[p1, p2]] w fun e w' => e = .returned (.tuple #[V0, V0, .bool false, N 1]) ∧ Below w.heap.size w w' := by
  obtain ⟨z1, H1⟩ : ∃ b, Hid (valB v m l g = b) := ⟨_, rfl⟩
  obtain ⟨z2, H2⟩ : ∃ b, Hid (valB v' m' l' g' = b) := ⟨_, rfl⟩
  rw [H1.out, H2.out] at hr
  go_enter Try.func91, Try.ntmps91
  go_wp2_with fail
  refine (vcheck2 H1 H2 (by simp) (by simp [go_sem]) (by simp [go_sem]) (by simp [go_sem]) (by simp [go_sem]) (by simp [go_sem]) (by simp [go_sem]) (by simp [go_sem]) (by simp [go_sem])).mono ?_
  rw [hr.out, er_f]
  rintro e w1 ⟨rfl, hb1⟩
  have hK := ((((((Kp.start w).add4 _ _ _ _ _).add4 _ _ _ _ _).add4 _ _ _ _ _).add4 _ _ _ _ _).keep ((Below.refl _ _).alloc (Nat.le_refl _) _)).keep hb1
  simp only [World.size_alloc] at hK
  obtain ⟨s0, s1, s2, s3, s4, s5, s6, s7, s8⟩ := hK.box.head.four
  obtain ⟨r0, r1, r2, r3, r4, r5, r6, r7, r8⟩ := hK.box.tail.head.four
  obtain ⟨b0, b1, b2, b3, b4, b5, b6, b7, b8⟩ := hK.box.tail.tail.head.four
  obtain ⟨a0, a1, a2, a3, a4, a5, a6, a7, a8⟩ := hK.box.tail.tail.tail.head.four
  go_wp2_with fail
  exact bodyPost_ret (v := .tuple #[V0, V0, .bool false, N 1]) (by simp [results, Try.results91, go_sem, nv_zero, s0, s1, s2, s3, r0, r1, r2, r3]) rfl ⟨rfl, ((hK.set4 1 rfl).set4 0 rfl).bel⟩
set_option maxRecDepth 100000 in
set_option maxHeartbeats 4000000 in
theorem leave_Less {p1 p2 : Value} {v m l g v' m' l' g' a b c d a' b' c' d' x y z t x' y' z' t' : BitVec 64} {may i1 i2 : Bool} {e1 e2 : Int} (hr : Hid ((valB v m l g && valB v' m' l' g') = true)) (w : World)
    (HR : Hid (∀ w', Below w.heap.size w w' → Calls Try.prog 96 #[p1, p2] w' fun e w'' => e = .returned (.tuple #[Vl a b c d, Vl a' b' c' d', .bool may]) ∧ Below w'.heap.size w' w''))
    (N1 : Hid (∀ w, Calls Try.prog 31 #[Vl a b c d] w fun e w' => e = .returned (.tuple #[Vl x y z t, .bool i1, N e1]) ∧ Below w.heap.size w w'))
    (N2 : Hid (∀ w, Calls Try.prog 31 #[Vl a' b' c' d'] w fun e w' => e = .returned (.tuple #[Vl x' y' z' t', .bool i2, N e2]) ∧ Below w.heap.size w w')) :
    Calls Try.prog 91 #[Vl v m l g, Vl v' m' l' g', .func (.func 96) #[] #[p1, p2]] w fun e w' => e = .returned (.tuple #[lv (may && (i1 && i2)) (Vl x y z t), lv (may && (i1 && i2)) (Vl x' y' z' t'), .bool (may && (i1 && i2)), N 0]) ∧ Below w.heap.size w w' := by
  obtain ⟨z1, H1⟩ : ∃ b, Hid (valB v m l g = b) := ⟨_, rfl⟩
  obtain ⟨z2, H2⟩ : ∃ b, Hid (valB v' m' l' g' = b) := ⟨_, rfl⟩
  rw [H1.out, H2.out] at hr
  obtain ⟨q, hq⟩ : ∃ q, Hid (q = (may && (i1 && i2))) := ⟨_, rfl⟩
  rw [← hq.out]
  go_enter Try.func91, Try.ntmps91
  go_wp2_with fail
  refine (vcheck2 H1 H2 (by simp) (by simp [go_sem]) (by simp [go_sem]) (by simp [go_sem]) (by simp [go_sem]) (by simp [go_sem]) (by simp [go_sem]) (by simp [go_sem]) (by simp [go_sem])).mono ?_
  rw [hr.out, er_t]
  rintro e w1 ⟨rfl, hb1⟩
  have hK := ((((((Kp.start w).add4 _ _ _ _ _).add4 _ _ _ _ _).add4 _ _ _ _ _).add4 _ _ _ _ _).keep ((Below.refl _ _).alloc (Nat.le_refl _) _)).keep hb1
  simp only [World.size_alloc] at hK
  clear hb1
  go_wp2_with fail
  refine (HR.out _ hK.bel).mono ?_
  rintro e w2 ⟨rfl, hb2⟩
  have hK2 := hK.keep hb2
  have hK3 := (hK2.set4 (x := U a) (y := U b) (z := U c) (t := U d) 3 rfl).set4 (x := U a') (y := U b') (z := U c') (t := U d') 2 rfl
  obtain ⟨s0, s1, s2, s3, s4, s5, s6, s7, s8⟩ := hK2.box.head.four
  obtain ⟨r0, r1, r2, r3, r4, r5, r6, r7, r8⟩ := hK2.box.tail.head.four
  obtain ⟨b0, b1, b2, b3, b4, b5, b6, b7, b8⟩ := hK2.box.tail.tail.head.four
  obtain ⟨a0, a1, a2, a3, a4, a5, a6, a7, a8⟩ := hK2.box.tail.tail.tail.head.four
  clear hb2 hK
  go_wp2_with fail
  refine (N1.out _).mono ?_
  rintro e w3 ⟨rfl, hb3⟩
  have hK4 := hK3.keep hb3
  have hK5 := hK4.set4 (x := U x) (y := U y) (z := U z) (t := U t) 3 rfl
  clear s0 s1 s2 s3 s4 s5 s6 s7 s8 r0 r1 r2 r3 r4 r5 r6 r7 r8 b0 b1 b2 b3 b4 b5 b6 b7 b8 a0 a1 a2 a3 a4 a5 a6 a7 a8
  obtain ⟨s0, s1, s2, s3, s4, s5, s6, s7, s8⟩ := hK4.box.head.four
  obtain ⟨r0, r1, r2, r3, r4, r5, r6, r7, r8⟩ := hK4.box.tail.head.four
  obtain ⟨b0, b1, b2, b3, b4, b5, b6, b7, b8⟩ := hK4.box.tail.tail.head.four
  obtain ⟨a0, a1, a2, a3, a4, a5, a6, a7, a8⟩ := hK4.box.tail.tail.tail.head.four
  clear hb3 hK2 hK3
  go_wp2_with fail
  refine (N2.out _).mono ?_
  rintro e w4 ⟨rfl, hb4⟩
  have hK6 := hK5.keep hb4
  have hK7 := hK6.set4 (x := U x') (y := U y') (z := U z') (t := U t') 2 rfl
  clear s0 s1 s2 s3 s4 s5 s6 s7 s8 r0 r1 r2 r3 r4 r5 r6 r7 r8 b0 b1 b2 b3 b4 b5 b6 b7 b8 a0 a1 a2 a3 a4 a5 a6 a7 a8
  obtain ⟨s0, s1, s2, s3, s4, s5, s6, s7, s8⟩ := hK6.box.head.four
  obtain ⟨r0, r1, r2, r3, r4, r5, r6, r7, r8⟩ := hK6.box.tail.head.four
  obtain ⟨b0, b1, b2, b3, b4, b5, b6, b7, b8⟩ := hK6.box.tail.tail.head.four
  obtain ⟨a0, a1, a2, a3, a4, a5, a6, a7, a8⟩ := hK6.box.tail.tail.tail.head.four
  clear hb4 hK4 hK5
  go_upto_region 7 with fail
  clear s0 s1 s2 s3 s4 s5 s6 s7 s8 r0 r1 r2 r3 r4 r5 r6 r7 r8 b0 b1 b2 b3 b4 b5 b6 b7 b8 a0 a1 a2 a3 a4 a5 a6 a7 a8
  clear hK6
  go_cut [52] (fun u wc => u = .bool (!q) ∧ Kp w wc [(w.heap.size + 1 + 1 + 1, [.int .u64 0, .int .u64 0, .int .u64 0, .int .u64 0]), (w.heap.size + 1 + 1, [.int .u64 0, .int .u64 0, .int .u64 0, .int .u64 0]), (w.heap.size + 1, [U x', U y', U z', U t']), (w.heap.size, [U x, U y, U z, U t])])
  case first =>
    cases may
    · go_wp2_with fail
      go_meet
      case rel => exact ⟨by rw [hq.out]; rfl, hK7⟩
    · cases i1
      · go_wp2_with fail
        go_meet
        case rel => exact ⟨by rw [hq.out]; rfl, hK7⟩
      · cases i2
        all_goals
          go_wp2_with fail
          go_meet
          case rel => exact ⟨by rw [hq.out]; rfl, hK7⟩
  case rest =>
    clear hK7 hq
    obtain ⟨rfl, hK8⟩ := hcut
    obtain ⟨s0, s1, s2, s3, s4, s5, s6, s7, s8⟩ := hK8.box.head.four
    obtain ⟨r0, r1, r2, r3, r4, r5, r6, r7, r8⟩ := hK8.box.tail.head.four
    obtain ⟨b0, b1, b2, b3, b4, b5, b6, b7, b8⟩ := hK8.box.tail.tail.head.four
    obtain ⟨a0, a1, a2, a3, a4, a5, a6, a7, a8⟩ := hK8.box.tail.tail.tail.head.four
    cases q
    · go_wp2_with fail
      exact bodyPost_ret (v := .tuple #[V0, V0, .bool false, N 0]) (by simp [results, Try.results91, go_sem, nv_zero, s0, s1, s2, s3, r0, r1, r2, r3]) rfl ⟨rfl, ((hK8.set4 1 rfl).set4 0 rfl).bel⟩
    · go_wp2_with fail
      go_region
      all_goals
        go_wp2_with fail
        exact bodyPost_ret (v := .tuple #[Vl x y z t, Vl x' y' z' t', .bool true, N 0]) (by simp [results, Try.results91, go_sem, s0, s1, s2, s3, r0, r1, r2, r3]) rfl ⟨rfl, Below.drew ((hK8.set4 1 rfl).set4 0 rfl).bel⟩

set_option maxRecDepth 100000 in
set_option maxHeartbeats 1000000 in
theorem leave_wrongNotLess {p1 p2 : Value} {v m l g v' m' l' g' : BitVec 64} (hr : Hid ((valB v m l g && valB v' m' l' g') = false)) (w : World) :
    Calls Try.prog 91 #[Vl v m l g, Vl v' m' l' g', .func (.func 98) #[] #[p1, p2]] w fun e w' => e = .returned (.tuple #[V0, V0, .bool false, N 1]) ∧ Below w.heap.size w w' := by
  obtain ⟨z1, H1⟩ : ∃ b, Hid (valB v m l g = b) := ⟨_, rfl⟩
  obtain ⟨z2, H2⟩ : ∃ b, Hid (valB v' m' l' g' = b) := ⟨_, rfl⟩
  rw [H1.out, H2.out] at hr
  go_enter Try.func91, Try.ntmps91
  go_wp2_with fail
  refine (vcheck2 H1 H2 (by simp) (by simp [go_sem]) (by simp [go_sem]) (by simp [go_sem]) (by simp [go_sem]) (by simp [go_sem]) (by simp [go_sem]) (by simp [go_sem]) (by simp [go_sem])).mono ?_
  rw [hr.out, er_f]
  rintro e w1 ⟨rfl, hb1⟩
  have hK := ((((((Kp.start w).add4 _ _ _ _ _).add4 _ _ _ _ _).add4 _ _ _ _ _).add4 _ _ _ _ _).keep ((Below.refl _ _).alloc (Nat.le_refl _) _)).keep hb1
  simp only [World.size_alloc] at hK
  obtain ⟨s0, s1, s2, s3, s4, s5, s6, s7, s8⟩ := hK.box.head.four
  obtain ⟨r0, r1, r2, r3, r4, r5, r6, r7, r8⟩ := hK.box.tail.head.four
  obtain ⟨b0, b1, b2, b3, b4, b5, b6, b7, b8⟩ := hK.box.tail.tail.head.four
  obtain ⟨a0, a1, a2, a3, a4, a5, a6, a7, a8⟩ := hK.box.tail.tail.tail.head.four
  go_wp2_with fail
  exact bodyPost_ret (v := .tuple #[V0, V0, .bool false, N 1]) (by simp [results, Try.results91, go_sem, nv_zero, s0, s1, s2, s3, r0, r1, r2, r3]) rfl ⟨rfl, ((hK.set4 1 rfl).set4 0 rfl).bel⟩
set_option maxRecDepth 100000 in
set_option maxHeartbeats 4000000 in
theorem leave_NotLess {p1 p2 : Value} {v m l g v' m' l' g' a b c d a' b' c' d' x y z t x' y' z' t' : BitVec 64} {may i1 i2 : Bool} {e1 e2 : Int} (hr : Hid ((valB v m l g && valB v' m' l' g') = true)) (w : World)
    (HR : Hid (∀ w', Below w.heap.size w w' → Calls Try.prog 98 #[p1, p2] w' fun e w'' => e = .returned (.tuple #[Vl a b c d, Vl a' b' c' d', .bool may]) ∧ Below w'.heap.size w' w''))
    (N1 : Hid (∀ w, Calls Try.prog 31 #[Vl a b c d] w fun e w' => e = .returned (.tuple #[Vl x y z t, .bool i1, N e1]) ∧ Below w.heap.size w w'))
    (N2 : Hid (∀ w, Calls Try.prog 31 #[Vl a' b' c' d'] w fun e w' => e = .returned (.tuple #[Vl x' y' z' t', .bool i2, N e2]) ∧ Below w.heap.size w w')) :
    Calls Try.prog 91 #[Vl v m l g, Vl v' m' l' g', .func (.func 98) #[] #[p1, p2]] w fun e w' => e = .returned (.tuple #[lv (may && (i1 && i2)) (Vl x y z t), lv (may && (i1 && i2)) (Vl x' y' z' t'), .bool (may && (i1 && i2)), N 0]) ∧ Below w.heap.size w w' := by
  obtain ⟨z1, H1⟩ : ∃ b, Hid (valB v m l g = b) := ⟨_, rfl⟩
  obtain ⟨z2, H2⟩ : ∃ b, Hid (valB v' m' l' g' = b) := ⟨_, rfl⟩
  rw [H1.out, H2.out] at hr
  obtain ⟨q, hq⟩ : ∃ q, Hid (q = (may && (i1 && i2))) := ⟨_, rfl⟩
  rw [← hq.out]
  go_enter Try.func91, Try.ntmps91
  go_wp2_with fail
  refine (vcheck2 H1 H2 (by simp) (by simp [go_sem]) (by simp [go_sem]) (by simp [go_sem]) (by simp [go_sem]) (by simp [go_sem]) (by simp [go_sem]) (by simp [go_sem]) (by simp [go_sem])).mono ?_
  rw [hr.out, er_t]
  rintro e w1 ⟨rfl, hb1⟩
  have hK := ((((((Kp.start w).add4 _ _ _ _ _).add4 _ _ _ _ _).add4 _ _ _ _ _).add4 _ _ _ _ _).keep ((Below.refl _ _).alloc (Nat.le_refl _) _)).keep hb1
  simp only [World.size_alloc] at hK
  clear hb1
  go_wp2_with fail
  refine (HR.out _ hK.bel).mono ?_
  rintro e w2 ⟨rfl, hb2⟩
  have hK2 := hK.keep hb2
  have hK3 := (hK2.set4 (x := U a) (y := U b) (z := U c) (t := U d) 3 rfl).set4 (x := U a') (y := U b') (z := U c') (t := U d') 2 rfl
  obtain ⟨s0, s1, s2, s3, s4, s5, s6, s7, s8⟩ := hK2.box.head.four
  obtain ⟨r0, r1, r2, r3, r4, r5, r6, r7, r8⟩ := hK2.box.tail.head.four
  obtain ⟨b0, b1, b2, b3, b4, b5, b6, b7, b8⟩ := hK2.box.tail.tail.head.four
  obtain ⟨a0, a1, a2, a3, a4, a5, a6, a7, a8⟩ := hK2.box.tail.tail.tail.head.four
  clear hb2 hK
  go_wp2_with fail
  refine (N1.out _).mono ?_
  rintro e w3 ⟨rfl, hb3⟩
  have hK4 := hK3.keep hb3
  have hK5 := hK4.set4 (x := U x) (y := U y) (z := U z) (t := U t) 3 rfl
  clear s0 s1 s2 s3 s4 s5 s6 s7 s8 r0 r1 r2 r3 r4 r5 r6 r7 r8 b0 b1 b2 b3 b4 b5 b6 b7 b8 a0 a1 a2 a3 a4 a5 a6 a7 a8
  obtain ⟨s0, s1, s2, s3, s4, s5, s6, s7, s8⟩ := hK4.box.head.four
  obtain ⟨r0, r1, r2, r3, r4, r5, r6, r7, r8⟩ := hK4.box.tail.head.four
  obtain ⟨b0, b1, b2, b3, b4, b5, b6, b7, b8⟩ := hK4.box.tail.tail.head.four
  obtain ⟨a0, a1, a2, a3, a4, a5, a6, a7, a8⟩ := hK4.box.tail.tail.tail.head.four
  clear hb3 hK2 hK3
  go_wp2_with fail
  refine (N2.out _).mono ?_
  rintro e w4 ⟨rfl, hb4⟩
  have hK6 := hK5.keep hb4
  have hK7 := hK6.set4 (x := U x') (y := U y') (z := U z') (t := U t') 2 rfl
  clear s0 s1 s2 s3 s4 s5 s6 s7 s8 r0 r1 r2 r3 r4 r5 r6 r7 r8 b0 b1 b2 b3 b4 b5 b6 b7 b8 a0 a1 a2 a3 a4 a5 a6 a7 a8
  obtain ⟨s0, s1, s2, s3, s4, s5, s6, s7, s8⟩ := hK6.box.head.four
  obtain ⟨r0, r1, r2, r3, r4, r5, r6, r7, r8⟩ := hK6.box.tail.head.four
  obtain ⟨b0, b1, b2, b3, b4, b5, b6, b7, b8⟩ := hK6.box.tail.tail.head.four
  obtain ⟨a0, a1, a2, a3, a4, a5, a6, a7, a8⟩ := hK6.box.tail.tail.tail.head.four
  clear hb4 hK4 hK5
  go_upto_region 7 with fail
  clear s0 s1 s2 s3 s4 s5 s6 s7 s8 r0 r1 r2 r3 r4 r5 r6 r7 r8 b0 b1 b2 b3 b4 b5 b6 b7 b8 a0 a1 a2 a3 a4 a5 a6 a7 a8
  clear hK6
  go_cut [52] (fun u wc => u = .bool (!q) ∧ Kp w wc [(w.heap.size + 1 + 1 + 1, [.int .u64 0, .int .u64 0, .int .u64 0, .int .u64 0]), (w.heap.size + 1 + 1, [.int .u64 0, .int .u64 0, .int .u64 0, .int .u64 0]), (w.heap.size + 1, [U x', U y', U z', U t']), (w.heap.size, [U x, U y, U z, U t])])
  case first =>
    cases may
    · go_wp2_with fail
      go_meet
      case rel => exact ⟨by rw [hq.out]; rfl, hK7⟩
    · cases i1
      · go_wp2_with fail
        go_meet
        case rel => exact ⟨by rw [hq.out]; rfl, hK7⟩
      · cases i2
        all_goals
          go_wp2_with fail
          go_meet
          case rel => exact ⟨by rw [hq.out]; rfl, hK7⟩
  case rest =>
    clear hK7 hq
    obtain ⟨rfl, hK8⟩ := hcut
    obtain ⟨s0, s1, s2, s3, s4, s5, s6, s7, s8⟩ := hK8.box.head.four
    obtain ⟨r0, r1, r2, r3, r4, r5, r6, r7, r8⟩ := hK8.box.tail.head.four
    obtain ⟨b0, b1, b2, b3, b4, b5, b6, b7, b8⟩ := hK8.box.tail.tail.head.four
    obtain ⟨a0, a1, a2, a3, a4, a5, a6, a7, a8⟩ := hK8.box.tail.tail.tail.head.four
    cases q
    · go_wp2_with fail
      exact bodyPost_ret (v := .tuple #[V0, V0, .bool false, N 0]) (by simp [results, Try.results91, go_sem, nv_zero, s0, s1, s2, s3, r0, r1, r2, r3]) rfl ⟨rfl, ((hK8.set4 1 rfl).set4 0 rfl).bel⟩
    · go_wp2_with fail
      go_region
      all_goals
        go_wp2_with fail
        exact bodyPost_ret (v := .tuple #[Vl x y z t, Vl x' y' z' t', .bool true, N 0]) (by simp [results, Try.results91, go_sem, s0, s1, s2, s3, r0, r1, r2, r3]) rfl ⟨rfl, Below.drew ((hK8.set4 1 rfl).set4 0 rfl).bel⟩

end Go.Proofs.Ytkigmocchaikgaa

/- The contract of the reference's JoinVal, of right ones. -/
namespace Go.Proofs.Ytkigmocchaikgaa
open Go.RowKit
attribute [local go_sem] w_and w_or w_xor w_andNot w_and1 w_and63 w_add w_sub w_mul w_sub1 w_add1 w_shl w_shl1 w_shr c_beq c_bne c_beq0 c_bne0 c_beq1 c_bne1 wrap_nv

theorem Kp.drop' {w0 w : World} {p : Nat × List Value} {L : List (Nat × List Value)} (h : Kp w0 w (p :: L)) : Kp w0 w L := ⟨h.bel, h.box.tail, fun q hq => h.lo q (List.mem_cons_of_mem _ hq)⟩
theorem Kp.other1 {w0 w : World} {L : List (Nat × List Value)} (h : Kp w0 w L) {b i : Nat} (v : Value) (hlo : w0.heap.size ≤ b) (hne : ∀ p, p ∈ L → p.1 ≠ b) : Kp w0 (w.setCell ⟨b, i, none⟩ v) L :=
  ⟨h.bel.setCell hlo v, h.box.other hne, h.lo⟩
theorem Kp.other4 {w0 w : World} {L : List (Nat × List Value)} (h : Kp w0 w L) {b : Nat} (x y z t : Value) (hlo : w0.heap.size ≤ b) (hne : ∀ p, p ∈ L → p.1 ≠ b) :
    Kp w0 ((((w.setCell ⟨b, 0, none⟩ x).setCell ⟨b, 1, none⟩ y).setCell ⟨b, 2, none⟩ z).setCell ⟨b, 3, none⟩ t) L :=
  (((h.other1 x hlo hne).other1 y hlo hne).other1 z hlo hne).other1 t hlo hne

set_option maxRecDepth 100000 in
set_option maxHeartbeats 8000000 in
theorem joinVal_yes {v m l h v' m' l' h' : BitVec 64} (hr : Hid ((valB v m l h && valB v' m' l' h') = true)) (w : World) :
    Calls Try.prog 35 #[Vl v m l h, Vl v' m' l' h'] w fun e w' => e = .returned (Vl (nV (jV v m v' m') (jM v m v' m') (bmin l l') (bmax h h')) (nM (jM v m v' m') (nLo (jV v m v' m') (jM v m v' m') (bmin l l')) (nHi (jV v m v' m') (jM v m v' m') (bmax h h'))) (nLo (jV v m v' m') (jM v m v' m') (bmin l l')) (nHi (jV v m v' m') (jM v m v' m') (bmax h h'))) ∧ Below w.heap.size w w' := by
  have hr' := hr.out
  rw [Bool.and_eq_true] at hr'
  have hf := join_facts hr'.1 hr'.2
  have ha := (val_facts hr'.1).1
  have hb := (val_facts hr'.2).1
  have HJ : Hid (∀ w, Calls Try.prog 18 #[Bt v m, Bt v' m'] w fun e w' => e = .returned (Bt (jV v m v' m') (jM v m v' m')) ∧ Below w.heap.size w w') := fun w => by
    have hj := joinBits_any v m v' m' w
    rw [(join_eq (both_right ha hb).out).1, (join_eq (both_right ha hb).out).2] at hj
    exact hj
  have HN : Hid (∀ w, Calls Try.prog 33 #[Vl (jV v m v' m') (jM v m v' m') (bmin l l') (bmax h h')] w fun e w' => e = .returned (.tuple #[Vl (nV (jV v m v' m') (jM v m v' m') (bmin l l') (bmax h h')) (nM (jM v m v' m') (nLo (jV v m v' m') (jM v m v' m') (bmin l l')) (nHi (jV v m v' m') (jM v m v' m') (bmax h h'))) (nLo (jV v m v' m') (jM v m v' m') (bmin l l')) (nHi (jV v m v' m') (jM v m v' m') (bmax h h')), .bool true]) ∧ Below w.heap.size w w') := fun w =>
    normVal_yes ((rt_iff _ _).2 (join_rt v m v' m')) hf.1 w
  clear hf ha hb hr hr'
  generalize nV (jV v m v' m') (jM v m v' m') (bmin l l') (bmax h h') = rv at HN ⊢
  generalize nM (jM v m v' m') (nLo (jV v m v' m') (jM v m v' m') (bmin l l')) (nHi (jV v m v' m') (jM v m v' m') (bmax h h')) = rm at HN ⊢
  generalize nLo (jV v m v' m') (jM v m v' m') (bmin l l') = lo at HN ⊢
  generalize nHi (jV v m v' m') (jM v m v' m') (bmax h h') = hi at HN ⊢
  generalize jV v m v' m' = jv at HN HJ
  generalize jM v m v' m' = jm at HN HJ
  obtain ⟨l0, e1⟩ : ∃ a, Hid (bmin l l' = a) := ⟨_, rfl⟩
  obtain ⟨h0, e2⟩ : ∃ a, Hid (bmax h h' = a) := ⟨_, rfl⟩
  have m1 : (if nv l' < nv l then nv l' else nv l) = nv l0 := by rw [← e1.out]; unfold bmin; split <;> rfl
  have m2 : (if nv h < nv h' then nv h' else nv h) = nv h0 := by rw [← e2.out]; unfold bmax; split <;> rfl
  rw [e1.out, e2.out] at HN
  clear e1 e2
  go_enter Try.func35, Try.ntmps35
  go_wp2_with fail
  have hK0 := (((Kp.start w).add4 (U v) (U m) (U l) (U h) 49).add4 (U v') (U m') (U l') (U h') 49).add4 (.int .u64 0) (.int .u64 0) (.int .u64 0) (.int .u64 0) 49
  simp only [World.size_alloc] at hK0
  have HS : Hid (∀ w', Kp w w' [(w.heap.size + 1 + 1, [.int .u64 0, .int .u64 0, .int .u64 0, .int .u64 0]), (w.heap.size + 1, [U v', U m', U l', U h']), (w.heap.size, [U v, U m, U l, U h])] → Kp w w' [(w.heap.size + 1 + 1, [.int .u64 0, .int .u64 0, .int .u64 0, .int .u64 0]), (w.heap.size + 1, [U v', U m', U l', U h']), (w.heap.size, [U v, U m, U l, U h])] ∧ w'.cell? ⟨w.heap.size, 0, none⟩ = some (U v) ∧ w'.cell? ⟨w.heap.size, 1, none⟩ = some (U m) ∧ w'.cell? ⟨w.heap.size, 2, none⟩ = some (U l) ∧ w'.cell? ⟨w.heap.size, 3, none⟩ = some (U h) ∧ w'.cell? ⟨w.heap.size + 1, 0, none⟩ = some (U v') ∧ w'.cell? ⟨w.heap.size + 1, 1, none⟩ = some (U m') ∧ w'.cell? ⟨w.heap.size + 1, 2, none⟩ = some (U l') ∧ w'.cell? ⟨w.heap.size + 1, 3, none⟩ = some (U h')) := by
    intro w' hk
    obtain ⟨a0, a1, a2, a3, _⟩ := hk.box.tail.tail.head.four; obtain ⟨b0, b1, b2, b3, _⟩ := hk.box.tail.head.four; exact ⟨hk, a0, a1, a2, a3, b0, b1, b2, b3⟩
  have hlt : Hid (∀ w', Kp w w' [(w.heap.size + 1 + 1, [.int .u64 0, .int .u64 0, .int .u64 0, .int .u64 0]), (w.heap.size + 1, [U v', U m', U l', U h']), (w.heap.size, [U v, U m, U l, U h])] → w.heap.size + 1 + 1 + 1 ≤ w'.heap.size) := fun w' hk => hk.box.head.2.2
  have hne : Hid (∀ b, w.heap.size + 1 + 1 + 1 ≤ b → ∀ p, p ∈ ([(w.heap.size + 1 + 1, [.int .u64 0, .int .u64 0, .int .u64 0, .int .u64 0]), (w.heap.size + 1, [U v', U m', U l', U h']), (w.heap.size, [U v, U m, U l, U h])] : List (Nat × List Value)) → p.1 ≠ b) := by
    intro b hb p hp
    simp only [List.mem_cons, List.not_mem_nil, or_false] at hp
    rcases hp with rfl | rfl | rfl <;> simp <;> omega
  have K0d := hK0.keep (Below.drew (Below.refl _ _))
  go_cut [5, 6] (fun p f wc => ∃ b, p = .pointer (some ⟨b, 0, none⟩) ∧ f = .bool true ∧ Kp w wc ((b, [U rv, U rm, U lo, U hi]) :: [(w.heap.size + 1 + 1, [.int .u64 0, .int .u64 0, .int .u64 0, .int .u64 0]), (w.heap.size + 1, [U v', U m', U l', U h']), (w.heap.size, [U v, U m, U l, U h])]))
  case first =>
    refine wp_region_held_drew (S := fun w' => Kp w w' [(w.heap.size + 1 + 1, [.int .u64 0, .int .u64 0, .int .u64 0, .int .u64 0]), (w.heap.size + 1, [U v', U m', U l', U h']), (w.heap.size, [U v, U m, U l, U h])]) (by kernel_rfl) K0d (fun hHeld => ?_)
    refine wpAnyH_take (i := 0) (oi := ({ dst := some 8, op := Op.fieldAddr 49 (Operand.tmp 2) 0, type := 0, pos := "bits.go:249", after := #[], guard := none } : Oper)) (v := ?_) rfl (by kernel_rfl) (by kernel_rfl) (by kernel_rfl) (fun _ _ _ h => h) (Or.inl ⟨by rfl, ?_⟩) (by assumption) ?_
    rotate_left
    · intro wq hq
      obtain ⟨a0, a1, a2, a3, _⟩ := hq.box.tail.tail.head.four
      obtain ⟨b0, b1, b2, b3, _⟩ := hq.box.tail.head.four
      go_simp
      try rfl
    simp only [Act.put, List.setIfInBounds_toArray, List.set_cons_zero, List.set_cons_succ]
    refine wpAnyH_take (i := 1) (oi := ({ dst := some 9, op := Op.load 24 (Operand.tmp 8), type := 24, pos := "bits.go:249", after := #[{ on := 0, ground := Ground.data }], guard := none } : Oper)) (v := ?_) rfl (by kernel_rfl) (by kernel_rfl) (by kernel_rfl) (fun _ _ _ h => h) (Or.inl ⟨by rfl, ?_⟩) (by assumption) ?_
    rotate_left
    · intro wq hq
      obtain ⟨a0, a1, a2, a3, _⟩ := hq.box.tail.tail.head.four
      obtain ⟨b0, b1, b2, b3, _⟩ := hq.box.tail.head.four
      go_simp
      try rfl
    simp only [Act.put, List.setIfInBounds_toArray, List.set_cons_zero, List.set_cons_succ]
    refine wpAnyH_take (i := 2) (oi := ({ dst := some 10, op := Op.fieldAddr 49 (Operand.tmp 3) 0, type := 0, pos := "bits.go:249", after := #[], guard := none } : Oper)) (v := ?_) rfl (by kernel_rfl) (by kernel_rfl) (by kernel_rfl) (fun _ _ _ h => h) (Or.inl ⟨by rfl, ?_⟩) (by assumption) ?_
    rotate_left
    · intro wq hq
      obtain ⟨a0, a1, a2, a3, _⟩ := hq.box.tail.tail.head.four
      obtain ⟨b0, b1, b2, b3, _⟩ := hq.box.tail.head.four
      go_simp
      try rfl
    simp only [Act.put, List.setIfInBounds_toArray, List.set_cons_zero, List.set_cons_succ]
    refine wpAnyH_take (i := 3) (oi := ({ dst := some 11, op := Op.load 24 (Operand.tmp 10), type := 24, pos := "bits.go:249", after := #[{ on := 2, ground := Ground.data }], guard := none } : Oper)) (v := ?_) rfl (by kernel_rfl) (by kernel_rfl) (by kernel_rfl) (fun _ _ _ h => h) (Or.inl ⟨by rfl, ?_⟩) (by assumption) ?_
    rotate_left
    · intro wq hq
      obtain ⟨a0, a1, a2, a3, _⟩ := hq.box.tail.tail.head.four
      obtain ⟨b0, b1, b2, b3, _⟩ := hq.box.tail.head.four
      go_simp
      try rfl
    simp only [Act.put, List.setIfInBounds_toArray, List.set_cons_zero, List.set_cons_succ]
    refine wpAnyH_take (i := 5) (oi := ({ dst := some 13, op := Op.fieldAddr 49 (Operand.tmp 2) 1, type := 0, pos := "bits.go:249", after := #[], guard := none } : Oper)) (v := ?_) rfl (by kernel_rfl) (by kernel_rfl) (by kernel_rfl) (fun _ _ _ h => h) (Or.inl ⟨by rfl, ?_⟩) (by assumption) ?_
    rotate_left
    · intro wq hq
      obtain ⟨a0, a1, a2, a3, _⟩ := hq.box.tail.tail.head.four
      obtain ⟨b0, b1, b2, b3, _⟩ := hq.box.tail.head.four
      go_simp
      try rfl
    simp only [Act.put, List.setIfInBounds_toArray, List.set_cons_zero, List.set_cons_succ]
    refine wpAnyH_take (i := 6) (oi := ({ dst := some 14, op := Op.load 22 (Operand.tmp 13), type := 22, pos := "bits.go:249", after := #[{ on := 5, ground := Ground.data }], guard := none } : Oper)) (v := ?_) rfl (by kernel_rfl) (by kernel_rfl) (by kernel_rfl) (fun _ _ _ h => h) (Or.inl ⟨by rfl, ?_⟩) (by assumption) ?_
    rotate_left
    · intro wq hq
      obtain ⟨a0, a1, a2, a3, _⟩ := hq.box.tail.tail.head.four
      obtain ⟨b0, b1, b2, b3, _⟩ := hq.box.tail.head.four
      go_simp
      try rfl
    simp only [Act.put, List.setIfInBounds_toArray, List.set_cons_zero, List.set_cons_succ]
    refine wpAnyH_take (i := 7) (oi := ({ dst := some 15, op := Op.fieldAddr 49 (Operand.tmp 3) 1, type := 0, pos := "bits.go:249", after := #[], guard := none } : Oper)) (v := ?_) rfl (by kernel_rfl) (by kernel_rfl) (by kernel_rfl) (fun _ _ _ h => h) (Or.inl ⟨by rfl, ?_⟩) (by assumption) ?_
    rotate_left
    · intro wq hq
      obtain ⟨a0, a1, a2, a3, _⟩ := hq.box.tail.tail.head.four
      obtain ⟨b0, b1, b2, b3, _⟩ := hq.box.tail.head.four
      go_simp
      try rfl
    simp only [Act.put, List.setIfInBounds_toArray, List.set_cons_zero, List.set_cons_succ]
    refine wpAnyH_take (i := 8) (oi := ({ dst := some 16, op := Op.load 22 (Operand.tmp 15), type := 22, pos := "bits.go:249", after := #[{ on := 7, ground := Ground.data }], guard := none } : Oper)) (v := ?_) rfl (by kernel_rfl) (by kernel_rfl) (by kernel_rfl) (fun _ _ _ h => h) (Or.inl ⟨by rfl, ?_⟩) (by assumption) ?_
    rotate_left
    · intro wq hq
      obtain ⟨a0, a1, a2, a3, _⟩ := hq.box.tail.tail.head.four
      obtain ⟨b0, b1, b2, b3, _⟩ := hq.box.tail.head.four
      go_simp
      try rfl
    simp only [Act.put, List.setIfInBounds_toArray, List.set_cons_zero, List.set_cons_succ]
    refine wpAnyH_take (i := 9) (oi := ({ dst := some 17, op := Op.call { callee := Callee.builtin Builtin.min, args := #[Operand.tmp 14, Operand.tmp 16], argTypes := #[22, 22] }, type := 22, pos := "bits.go:249", after := #[{ on := 6, ground := Ground.data }, { on := 8, ground := Ground.data }], guard := none } : Oper)) (v := ?_) rfl (by kernel_rfl) (by kernel_rfl) (by kernel_rfl) (fun _ _ _ h => h) (Or.inl ⟨by rfl, ?_⟩) (by assumption) ?_
    rotate_left
    · intro wq hq
      obtain ⟨a0, a1, a2, a3, _⟩ := hq.box.tail.tail.head.four
      obtain ⟨b0, b1, b2, b3, _⟩ := hq.box.tail.head.four
      go_simp
      try rfl
    simp only [Act.put, List.setIfInBounds_toArray, List.set_cons_zero, List.set_cons_succ]
    refine wpAnyH_take (i := 10) (oi := ({ dst := some 18, op := Op.fieldAddr 49 (Operand.tmp 2) 2, type := 0, pos := "bits.go:249", after := #[], guard := none } : Oper)) (v := ?_) rfl (by kernel_rfl) (by kernel_rfl) (by kernel_rfl) (fun _ _ _ h => h) (Or.inl ⟨by rfl, ?_⟩) (by assumption) ?_
    rotate_left
    · intro wq hq
      obtain ⟨a0, a1, a2, a3, _⟩ := hq.box.tail.tail.head.four
      obtain ⟨b0, b1, b2, b3, _⟩ := hq.box.tail.head.four
      go_simp
      try rfl
    simp only [Act.put, List.setIfInBounds_toArray, List.set_cons_zero, List.set_cons_succ]
    refine wpAnyH_take (i := 11) (oi := ({ dst := some 19, op := Op.load 22 (Operand.tmp 18), type := 22, pos := "bits.go:249", after := #[{ on := 10, ground := Ground.data }], guard := none } : Oper)) (v := ?_) rfl (by kernel_rfl) (by kernel_rfl) (by kernel_rfl) (fun _ _ _ h => h) (Or.inl ⟨by rfl, ?_⟩) (by assumption) ?_
    rotate_left
    · intro wq hq
      obtain ⟨a0, a1, a2, a3, _⟩ := hq.box.tail.tail.head.four
      obtain ⟨b0, b1, b2, b3, _⟩ := hq.box.tail.head.four
      go_simp
      try rfl
    simp only [Act.put, List.setIfInBounds_toArray, List.set_cons_zero, List.set_cons_succ]
    refine wpAnyH_take (i := 12) (oi := ({ dst := some 20, op := Op.fieldAddr 49 (Operand.tmp 3) 2, type := 0, pos := "bits.go:249", after := #[], guard := none } : Oper)) (v := ?_) rfl (by kernel_rfl) (by kernel_rfl) (by kernel_rfl) (fun _ _ _ h => h) (Or.inl ⟨by rfl, ?_⟩) (by assumption) ?_
    rotate_left
    · intro wq hq
      obtain ⟨a0, a1, a2, a3, _⟩ := hq.box.tail.tail.head.four
      obtain ⟨b0, b1, b2, b3, _⟩ := hq.box.tail.head.four
      go_simp
      try rfl
    simp only [Act.put, List.setIfInBounds_toArray, List.set_cons_zero, List.set_cons_succ]
    refine wpAnyH_take (i := 13) (oi := ({ dst := some 21, op := Op.load 22 (Operand.tmp 20), type := 22, pos := "bits.go:249", after := #[{ on := 12, ground := Ground.data }], guard := none } : Oper)) (v := ?_) rfl (by kernel_rfl) (by kernel_rfl) (by kernel_rfl) (fun _ _ _ h => h) (Or.inl ⟨by rfl, ?_⟩) (by assumption) ?_
    rotate_left
    · intro wq hq
      obtain ⟨a0, a1, a2, a3, _⟩ := hq.box.tail.tail.head.four
      obtain ⟨b0, b1, b2, b3, _⟩ := hq.box.tail.head.four
      go_simp
      try rfl
    simp only [Act.put, List.setIfInBounds_toArray, List.set_cons_zero, List.set_cons_succ]
    refine wpAnyH_take (i := 14) (oi := ({ dst := some 22, op := Op.call { callee := Callee.builtin Builtin.max, args := #[Operand.tmp 19, Operand.tmp 21], argTypes := #[22, 22] }, type := 22, pos := "bits.go:249", after := #[{ on := 11, ground := Ground.data }, { on := 13, ground := Ground.data }], guard := none } : Oper)) (v := ?_) rfl (by kernel_rfl) (by kernel_rfl) (by kernel_rfl) (fun _ _ _ h => h) (Or.inl ⟨by rfl, ?_⟩) (by assumption) ?_
    rotate_left
    · intro wq hq
      obtain ⟨a0, a1, a2, a3, _⟩ := hq.box.tail.tail.head.four
      obtain ⟨b0, b1, b2, b3, _⟩ := hq.box.tail.head.four
      go_simp
      try rfl
    simp only [Act.put, List.setIfInBounds_toArray, List.set_cons_zero, List.set_cons_succ]
    refine wpAnyH_ready (rs := [4, 20]) (by kernel_rfl) (by simp) ?_
    refine AllReadyH.cons (o := ({ dst := some 12, op := Op.call { callee := Callee.value (Operand.func 18), args := #[Operand.tmp 9, Operand.tmp 11], argTypes := #[24, 24] }, type := 24, pos := "bits.go:249", after := #[{ on := 1, ground := Ground.data }, { on := 3, ground := Ground.data }], guard := none } : Oper)) rfl (fun K hK => ?_) ?_
    · skip
      go_simp
      refine (HJ.out _).mono ?_
      rintro e w4 ⟨rfl, hb4⟩
      go_wp2_with fail
      refine hK.out _ _ (K0d.keep hb4) (fun hHeld => ?_)
      clear hK K
      try simp only [Act.put, List.setIfInBounds_toArray, List.set_cons_zero, List.set_cons_succ]
      refine wpAnyH_take (i := 15) (oi := ({ dst := some 23, op := Op.build 49 #[(0, Operand.tmp 12), (1, Operand.tmp 17), (2, Operand.tmp 22)], type := 49, pos := "bits.go:249", after := #[{ on := 4, ground := Ground.data }, { on := 9, ground := Ground.data }, { on := 14, ground := Ground.data }], guard := none } : Oper)) (v := ?_) rfl (by kernel_rfl) (by kernel_rfl) (by kernel_rfl) (fun _ _ _ h => h) (Or.inl ⟨by rfl, ?_⟩) (by assumption) ?_
      rotate_left
      · intro wq hq
        go_simp
        try rfl
      simp only [Act.put, List.setIfInBounds_toArray, List.set_cons_zero, List.set_cons_succ]
      refine wpAnyH_ready (rs := [16, 20]) (by kernel_rfl) (by simp) ?_
      refine AllReadyH.cons (o := ({ dst := some 24, op := Op.call { callee := Callee.value (Operand.func 33), args := #[Operand.tmp 23], argTypes := #[49] }, type := 54, pos := "bits.go:249", after := #[{ on := 15, ground := Ground.data }, { on := 4, ground := Ground.chain }], guard := none } : Oper)) rfl (fun K hK => ?_) ?_
      · skip
        go_simp
        refine (HN.out _).mono ?_
        rintro e w5 ⟨rfl, hb5⟩
        go_wp2_with fail
        refine hK.out _ _ ((K0d.keep hb4).keep hb5) (fun hHeld => ?_)
        clear hK K
        try simp only [Act.put, List.setIfInBounds_toArray, List.set_cons_zero, List.set_cons_succ]
        refine wpAnyH_take (i := 17) (oi := ({ dst := some 7, op := Op.move (Operand.tmp 24), type := 54, pos := "bits.go:249", after := #[{ on := 16, ground := Ground.data }], guard := none } : Oper)) (v := ?_) rfl (by kernel_rfl) (by kernel_rfl) (by kernel_rfl) (fun _ _ _ h => h) (Or.inl ⟨by rfl, ?_⟩) (by assumption) ?_
        rotate_left
        · intro wq hq
          go_simp
          try rfl
        simp only [Act.put, List.setIfInBounds_toArray, List.set_cons_zero, List.set_cons_succ]
        refine wpAnyH_take (i := 18) (oi := ({ dst := some 25, op := Op.extract (Operand.tmp 7) 0, type := 49, pos := "bits.go:249", after := #[{ on := 17, ground := Ground.data }], guard := none } : Oper)) (v := ?_) rfl (by kernel_rfl) (by kernel_rfl) (by kernel_rfl) (fun _ _ _ h => h) (Or.inl ⟨by rfl, ?_⟩) (by assumption) ?_
        rotate_left
        · intro wq hq
          go_simp
          try rfl
        simp only [Act.put, List.setIfInBounds_toArray, List.set_cons_zero, List.set_cons_succ]
        refine wpAnyH_take (i := 19) (oi := ({ dst := some 26, op := Op.extract (Operand.tmp 7) 1, type := 4, pos := "bits.go:249", after := #[{ on := 17, ground := Ground.data }, { on := 21, ground := Ground.gcOnly Departure.lateStores }], guard := none } : Oper)) (v := ?_) rfl (by kernel_rfl) (by kernel_rfl) (by kernel_rfl) (fun _ _ _ h => h) (Or.inl ⟨by rfl, ?_⟩) (by assumption) ?_
        rotate_left
        · intro wq hq
          go_simp
          try rfl
        simp only [Act.put, List.setIfInBounds_toArray, List.set_cons_zero, List.set_cons_succ]
        refine wpAnyH_ready (rs := [20]) (by kernel_rfl) (by simp) ?_
        refine AllReadyH.cons (o := ({ dst := some 5, op := Op.alloc 49, type := 0, pos := "bits.go:249", after := #[], guard := none } : Oper)) rfl (fun K hK => ?_) ?_
        · skip
          go_simp
          have hA1 := ((K0d.keep hb4).keep hb5).add4 (.int .u64 0) (.int .u64 0) (.int .u64 0) (.int .u64 0) 49
          refine hK.out _ _ hA1.drop' (fun hHeld => ?_)
          clear hK K
          try simp only [Act.put, List.setIfInBounds_toArray, List.set_cons_zero, List.set_cons_succ]
          refine wpAnyH_ready (rs := [21]) (by kernel_rfl) (by simp) ?_
          refine AllReadyH.cons (o := ({ dst := none, op := Op.store 49 (Operand.tmp 5) (Operand.tmp 25), type := 0, pos := "bits.go:249", after := #[{ on := 20, ground := Ground.data }, { on := 18, ground := Ground.data }, { on := 16, ground := Ground.chain }, { on := 0, ground := Ground.phase }, { on := 1, ground := Ground.phase }, { on := 2, ground := Ground.phase }, { on := 3, ground := Ground.phase }, { on := 4, ground := Ground.phase }, { on := 5, ground := Ground.phase }, { on := 6, ground := Ground.phase }, { on := 7, ground := Ground.phase }, { on := 8, ground := Ground.phase }, { on := 9, ground := Ground.phase }, { on := 10, ground := Ground.phase }, { on := 11, ground := Ground.phase }, { on := 12, ground := Ground.phase }, { on := 13, ground := Ground.phase }, { on := 14, ground := Ground.phase }, { on := 15, ground := Ground.phase }, { on := 16, ground := Ground.phase }, { on := 17, ground := Ground.phase }, { on := 18, ground := Ground.phase }, { on := 19, ground := Ground.textOnly Departure.lateStores }, { on := 20, ground := Ground.phase }], guard := none } : Oper)) rfl (fun K hK => ?_) ?_
          · skip
            go_simp
            have hA2 := ((K0d.keep hb4).keep hb5).add4 (U rv) (U rm) (U lo) (U hi) 49
            refine hK.out _ _ hA2.drop' (fun hHeld => ?_)
            clear hK K
            try simp only [Act.put, List.setIfInBounds_toArray, List.set_cons_zero, List.set_cons_succ]
            refine wpAnyH_take (i := 22) (oi := ({ dst := some 6, op := Op.assign (Operand.tmp 26), type := 4, pos := "bits.go:249", after := #[{ on := 19, ground := Ground.data }, { on := 21, ground := Ground.chain }, { on := 0, ground := Ground.phase }, { on := 1, ground := Ground.phase }, { on := 2, ground := Ground.phase }, { on := 3, ground := Ground.phase }, { on := 4, ground := Ground.phase }, { on := 5, ground := Ground.phase }, { on := 6, ground := Ground.phase }, { on := 7, ground := Ground.phase }, { on := 8, ground := Ground.phase }, { on := 9, ground := Ground.phase }, { on := 10, ground := Ground.phase }, { on := 11, ground := Ground.phase }, { on := 12, ground := Ground.phase }, { on := 13, ground := Ground.phase }, { on := 14, ground := Ground.phase }, { on := 15, ground := Ground.phase }, { on := 16, ground := Ground.phase }, { on := 17, ground := Ground.phase }, { on := 18, ground := Ground.phase }, { on := 19, ground := Ground.phase }, { on := 20, ground := Ground.phase }, { on := 21, ground := Ground.phase }], guard := none } : Oper)) (v := ?_) rfl (by kernel_rfl) (by kernel_rfl) (by kernel_rfl) (fun _ _ _ h => h) (Or.inl ⟨by rfl, ?_⟩) (by assumption) ?_
            rotate_left
            · intro wq hq
              go_simp
              try rfl
            simp only [Act.put, List.setIfInBounds_toArray, List.set_cons_zero, List.set_cons_succ]
            refine wpAnyH_done (by kernel_rfl) ?_ _
            go_wp2_with fail
            go_meet
            case rel => exact ⟨_, rfl, rfl, hA2⟩
          exact AllReadyH.nil
        exact AllReadyH.nil
      refine AllReadyH.cons (o := ({ dst := some 5, op := Op.alloc 49, type := 0, pos := "bits.go:249", after := #[], guard := none } : Oper)) rfl (fun K hK => ?_) ?_
      · skip
        go_simp
        have hA1 := (K0d.keep hb4).add4 (.int .u64 0) (.int .u64 0) (.int .u64 0) (.int .u64 0) 49
        refine hK.out _ _ hA1.drop' (fun hHeld => ?_)
        clear hK K
        try simp only [Act.put, List.setIfInBounds_toArray, List.set_cons_zero, List.set_cons_succ]
        refine wpAnyH_ready (rs := [16]) (by kernel_rfl) (by simp) ?_
        refine AllReadyH.cons (o := ({ dst := some 24, op := Op.call { callee := Callee.value (Operand.func 33), args := #[Operand.tmp 23], argTypes := #[49] }, type := 54, pos := "bits.go:249", after := #[{ on := 15, ground := Ground.data }, { on := 4, ground := Ground.chain }], guard := none } : Oper)) rfl (fun K hK => ?_) ?_
        · skip
          go_simp
          refine (HN.out _).mono ?_
          rintro e w5 ⟨rfl, hb5⟩
          have hA5 := hA1.keep hb5
          obtain ⟨q0, q1, q2, q3, q4, q5, q6, q7, q8⟩ := hA5.box.head.four
          go_wp2_with fail
          refine hK.out _ _ (hA1.drop'.keep hb5) (fun hHeld => ?_)
          clear hK K
          try simp only [Act.put, List.setIfInBounds_toArray, List.set_cons_zero, List.set_cons_succ]
          refine wpAnyH_take (i := 17) (oi := ({ dst := some 7, op := Op.move (Operand.tmp 24), type := 54, pos := "bits.go:249", after := #[{ on := 16, ground := Ground.data }], guard := none } : Oper)) (v := ?_) rfl (by kernel_rfl) (by kernel_rfl) (by kernel_rfl) (fun _ _ _ h => h) (Or.inl ⟨by rfl, ?_⟩) (by assumption) ?_
          rotate_left
          · intro wq hq
            go_simp
            try rfl
          simp only [Act.put, List.setIfInBounds_toArray, List.set_cons_zero, List.set_cons_succ]
          refine wpAnyH_take (i := 18) (oi := ({ dst := some 25, op := Op.extract (Operand.tmp 7) 0, type := 49, pos := "bits.go:249", after := #[{ on := 17, ground := Ground.data }], guard := none } : Oper)) (v := ?_) rfl (by kernel_rfl) (by kernel_rfl) (by kernel_rfl) (fun _ _ _ h => h) (Or.inl ⟨by rfl, ?_⟩) (by assumption) ?_
          rotate_left
          · intro wq hq
            go_simp
            try rfl
          simp only [Act.put, List.setIfInBounds_toArray, List.set_cons_zero, List.set_cons_succ]
          refine wpAnyH_take (i := 19) (oi := ({ dst := some 26, op := Op.extract (Operand.tmp 7) 1, type := 4, pos := "bits.go:249", after := #[{ on := 17, ground := Ground.data }, { on := 21, ground := Ground.gcOnly Departure.lateStores }], guard := none } : Oper)) (v := ?_) rfl (by kernel_rfl) (by kernel_rfl) (by kernel_rfl) (fun _ _ _ h => h) (Or.inl ⟨by rfl, ?_⟩) (by assumption) ?_
          rotate_left
          · intro wq hq
            go_simp
            try rfl
          simp only [Act.put, List.setIfInBounds_toArray, List.set_cons_zero, List.set_cons_succ]
          refine wpAnyH_ready (rs := [21]) (by kernel_rfl) (by simp) ?_
          refine AllReadyH.cons (o := ({ dst := none, op := Op.store 49 (Operand.tmp 5) (Operand.tmp 25), type := 0, pos := "bits.go:249", after := #[{ on := 20, ground := Ground.data }, { on := 18, ground := Ground.data }, { on := 16, ground := Ground.chain }, { on := 0, ground := Ground.phase }, { on := 1, ground := Ground.phase }, { on := 2, ground := Ground.phase }, { on := 3, ground := Ground.phase }, { on := 4, ground := Ground.phase }, { on := 5, ground := Ground.phase }, { on := 6, ground := Ground.phase }, { on := 7, ground := Ground.phase }, { on := 8, ground := Ground.phase }, { on := 9, ground := Ground.phase }, { on := 10, ground := Ground.phase }, { on := 11, ground := Ground.phase }, { on := 12, ground := Ground.phase }, { on := 13, ground := Ground.phase }, { on := 14, ground := Ground.phase }, { on := 15, ground := Ground.phase }, { on := 16, ground := Ground.phase }, { on := 17, ground := Ground.phase }, { on := 18, ground := Ground.phase }, { on := 19, ground := Ground.textOnly Departure.lateStores }, { on := 20, ground := Ground.phase }], guard := none } : Oper)) rfl (fun K hK => ?_) ?_
          · skip
            go_simp
            have hA2 := hA5.set4 (x := U rv) (y := U rm) (z := U lo) (t := U hi) 0 rfl
            refine hK.out _ _ hA2.drop' (fun hHeld => ?_)
            clear hK K
            try simp only [Act.put, List.setIfInBounds_toArray, List.set_cons_zero, List.set_cons_succ]
            refine wpAnyH_take (i := 22) (oi := ({ dst := some 6, op := Op.assign (Operand.tmp 26), type := 4, pos := "bits.go:249", after := #[{ on := 19, ground := Ground.data }, { on := 21, ground := Ground.chain }, { on := 0, ground := Ground.phase }, { on := 1, ground := Ground.phase }, { on := 2, ground := Ground.phase }, { on := 3, ground := Ground.phase }, { on := 4, ground := Ground.phase }, { on := 5, ground := Ground.phase }, { on := 6, ground := Ground.phase }, { on := 7, ground := Ground.phase }, { on := 8, ground := Ground.phase }, { on := 9, ground := Ground.phase }, { on := 10, ground := Ground.phase }, { on := 11, ground := Ground.phase }, { on := 12, ground := Ground.phase }, { on := 13, ground := Ground.phase }, { on := 14, ground := Ground.phase }, { on := 15, ground := Ground.phase }, { on := 16, ground := Ground.phase }, { on := 17, ground := Ground.phase }, { on := 18, ground := Ground.phase }, { on := 19, ground := Ground.phase }, { on := 20, ground := Ground.phase }, { on := 21, ground := Ground.phase }], guard := none } : Oper)) (v := ?_) rfl (by kernel_rfl) (by kernel_rfl) (by kernel_rfl) (fun _ _ _ h => h) (Or.inl ⟨by rfl, ?_⟩) (by assumption) ?_
            rotate_left
            · intro wq hq
              go_simp
              try rfl
            simp only [Act.put, List.setIfInBounds_toArray, List.set_cons_zero, List.set_cons_succ]
            refine wpAnyH_done (by kernel_rfl) ?_ _
            go_wp2_with fail
            go_meet
            case rel => exact ⟨_, rfl, rfl, hA2⟩
          exact AllReadyH.nil
        exact AllReadyH.nil
      exact AllReadyH.nil
    refine AllReadyH.cons (o := ({ dst := some 5, op := Op.alloc 49, type := 0, pos := "bits.go:249", after := #[], guard := none } : Oper)) rfl (fun K hK => ?_) ?_
    · skip
      go_simp
      have hA0 := (hK0.add4 (.int .u64 0) (.int .u64 0) (.int .u64 0) (.int .u64 0) 49).keep (Below.drew (Below.refl _ _))
      simp only [World.size_alloc] at hA0
      refine hK.out _ _ hA0.drop' (fun hHeld => ?_)
      clear hK K
      try simp only [Act.put, List.setIfInBounds_toArray, List.set_cons_zero, List.set_cons_succ]
      refine wpAnyH_ready (rs := [4]) (by kernel_rfl) (by simp) ?_
      refine AllReadyH.cons (o := ({ dst := some 12, op := Op.call { callee := Callee.value (Operand.func 18), args := #[Operand.tmp 9, Operand.tmp 11], argTypes := #[24, 24] }, type := 24, pos := "bits.go:249", after := #[{ on := 1, ground := Ground.data }, { on := 3, ground := Ground.data }], guard := none } : Oper)) rfl (fun K hK => ?_) ?_
      · skip
        go_simp
        refine (HJ.out _).mono ?_
        rintro e w4 ⟨rfl, hb4⟩
        have hA4 := hA0.keep hb4
        go_wp2_with fail
        refine hK.out _ _ (hA0.drop'.keep hb4) (fun hHeld => ?_)
        clear hK K
        try simp only [Act.put, List.setIfInBounds_toArray, List.set_cons_zero, List.set_cons_succ]
        refine wpAnyH_take (i := 15) (oi := ({ dst := some 23, op := Op.build 49 #[(0, Operand.tmp 12), (1, Operand.tmp 17), (2, Operand.tmp 22)], type := 49, pos := "bits.go:249", after := #[{ on := 4, ground := Ground.data }, { on := 9, ground := Ground.data }, { on := 14, ground := Ground.data }], guard := none } : Oper)) (v := ?_) rfl (by kernel_rfl) (by kernel_rfl) (by kernel_rfl) (fun _ _ _ h => h) (Or.inl ⟨by rfl, ?_⟩) (by assumption) ?_
        rotate_left
        · intro wq hq
          go_simp
          try rfl
        simp only [Act.put, List.setIfInBounds_toArray, List.set_cons_zero, List.set_cons_succ]
        refine wpAnyH_ready (rs := [16]) (by kernel_rfl) (by simp) ?_
        refine AllReadyH.cons (o := ({ dst := some 24, op := Op.call { callee := Callee.value (Operand.func 33), args := #[Operand.tmp 23], argTypes := #[49] }, type := 54, pos := "bits.go:249", after := #[{ on := 15, ground := Ground.data }, { on := 4, ground := Ground.chain }], guard := none } : Oper)) rfl (fun K hK => ?_) ?_
        · skip
          go_simp
          refine (HN.out _).mono ?_
          rintro e w5 ⟨rfl, hb5⟩
          have hA5 := hA4.keep hb5
          obtain ⟨q0, q1, q2, q3, q4, q5, q6, q7, q8⟩ := hA5.box.head.four
          go_wp2_with fail
          refine hK.out _ _ ((hA0.drop'.keep hb4).keep hb5) (fun hHeld => ?_)
          clear hK K
          try simp only [Act.put, List.setIfInBounds_toArray, List.set_cons_zero, List.set_cons_succ]
          refine wpAnyH_take (i := 17) (oi := ({ dst := some 7, op := Op.move (Operand.tmp 24), type := 54, pos := "bits.go:249", after := #[{ on := 16, ground := Ground.data }], guard := none } : Oper)) (v := ?_) rfl (by kernel_rfl) (by kernel_rfl) (by kernel_rfl) (fun _ _ _ h => h) (Or.inl ⟨by rfl, ?_⟩) (by assumption) ?_
          rotate_left
          · intro wq hq
            go_simp
            try rfl
          simp only [Act.put, List.setIfInBounds_toArray, List.set_cons_zero, List.set_cons_succ]
          refine wpAnyH_take (i := 18) (oi := ({ dst := some 25, op := Op.extract (Operand.tmp 7) 0, type := 49, pos := "bits.go:249", after := #[{ on := 17, ground := Ground.data }], guard := none } : Oper)) (v := ?_) rfl (by kernel_rfl) (by kernel_rfl) (by kernel_rfl) (fun _ _ _ h => h) (Or.inl ⟨by rfl, ?_⟩) (by assumption) ?_
          rotate_left
          · intro wq hq
            go_simp
            try rfl
          simp only [Act.put, List.setIfInBounds_toArray, List.set_cons_zero, List.set_cons_succ]
          refine wpAnyH_take (i := 19) (oi := ({ dst := some 26, op := Op.extract (Operand.tmp 7) 1, type := 4, pos := "bits.go:249", after := #[{ on := 17, ground := Ground.data }, { on := 21, ground := Ground.gcOnly Departure.lateStores }], guard := none } : Oper)) (v := ?_) rfl (by kernel_rfl) (by kernel_rfl) (by kernel_rfl) (fun _ _ _ h => h) (Or.inl ⟨by rfl, ?_⟩) (by assumption) ?_
          rotate_left
          · intro wq hq
            go_simp
            try rfl
          simp only [Act.put, List.setIfInBounds_toArray, List.set_cons_zero, List.set_cons_succ]
          refine wpAnyH_ready (rs := [21]) (by kernel_rfl) (by simp) ?_
          refine AllReadyH.cons (o := ({ dst := none, op := Op.store 49 (Operand.tmp 5) (Operand.tmp 25), type := 0, pos := "bits.go:249", after := #[{ on := 20, ground := Ground.data }, { on := 18, ground := Ground.data }, { on := 16, ground := Ground.chain }, { on := 0, ground := Ground.phase }, { on := 1, ground := Ground.phase }, { on := 2, ground := Ground.phase }, { on := 3, ground := Ground.phase }, { on := 4, ground := Ground.phase }, { on := 5, ground := Ground.phase }, { on := 6, ground := Ground.phase }, { on := 7, ground := Ground.phase }, { on := 8, ground := Ground.phase }, { on := 9, ground := Ground.phase }, { on := 10, ground := Ground.phase }, { on := 11, ground := Ground.phase }, { on := 12, ground := Ground.phase }, { on := 13, ground := Ground.phase }, { on := 14, ground := Ground.phase }, { on := 15, ground := Ground.phase }, { on := 16, ground := Ground.phase }, { on := 17, ground := Ground.phase }, { on := 18, ground := Ground.phase }, { on := 19, ground := Ground.textOnly Departure.lateStores }, { on := 20, ground := Ground.phase }], guard := none } : Oper)) rfl (fun K hK => ?_) ?_
          · skip
            go_simp
            have hA2 := hA5.set4 (x := U rv) (y := U rm) (z := U lo) (t := U hi) 0 rfl
            refine hK.out _ _ hA2.drop' (fun hHeld => ?_)
            clear hK K
            try simp only [Act.put, List.setIfInBounds_toArray, List.set_cons_zero, List.set_cons_succ]
            refine wpAnyH_take (i := 22) (oi := ({ dst := some 6, op := Op.assign (Operand.tmp 26), type := 4, pos := "bits.go:249", after := #[{ on := 19, ground := Ground.data }, { on := 21, ground := Ground.chain }, { on := 0, ground := Ground.phase }, { on := 1, ground := Ground.phase }, { on := 2, ground := Ground.phase }, { on := 3, ground := Ground.phase }, { on := 4, ground := Ground.phase }, { on := 5, ground := Ground.phase }, { on := 6, ground := Ground.phase }, { on := 7, ground := Ground.phase }, { on := 8, ground := Ground.phase }, { on := 9, ground := Ground.phase }, { on := 10, ground := Ground.phase }, { on := 11, ground := Ground.phase }, { on := 12, ground := Ground.phase }, { on := 13, ground := Ground.phase }, { on := 14, ground := Ground.phase }, { on := 15, ground := Ground.phase }, { on := 16, ground := Ground.phase }, { on := 17, ground := Ground.phase }, { on := 18, ground := Ground.phase }, { on := 19, ground := Ground.phase }, { on := 20, ground := Ground.phase }, { on := 21, ground := Ground.phase }], guard := none } : Oper)) (v := ?_) rfl (by kernel_rfl) (by kernel_rfl) (by kernel_rfl) (fun _ _ _ h => h) (Or.inl ⟨by rfl, ?_⟩) (by assumption) ?_
            rotate_left
            · intro wq hq
              go_simp
              try rfl
            simp only [Act.put, List.setIfInBounds_toArray, List.set_cons_zero, List.set_cons_succ]
            refine wpAnyH_done (by kernel_rfl) ?_ _
            go_wp2_with fail
            go_meet
            case rel => exact ⟨_, rfl, rfl, hA2⟩
          exact AllReadyH.nil
        exact AllReadyH.nil
      exact AllReadyH.nil
    exact AllReadyH.nil
  case rest =>
    obtain ⟨b, rfl, rfl, hK6⟩ := hcut
    obtain ⟨q0, q1, q2, q3, q4, q5, q6, q7, q8⟩ := hK6.box.head.four
    obtain ⟨r0, r1, r2, r3, r4, r5, r6, r7, r8⟩ := hK6.box.tail.head.four
    have hne : w.heap.size + 1 + 1 < b := hK6.box.2.1 _ (List.Mem.head _)
    go_wp2_with fail
    exact bodyPost_ret (v := Vl rv rm lo hi) (by simp [results, Try.results35, go_sem, r0, r1, r2, r3]) rfl ⟨rfl, (hK6.set4 1 rfl).bel⟩

end Go.Proofs.Ytkigmocchaikgaa

/- The contracts of the functions that Equal and Less hand to leave. -/
namespace Go.Proofs.Ytkigmocchaikgaa
open Go.RowKit
attribute [local go_sem] w_and w_or w_xor w_andNot w_and1 w_and63 w_add w_sub w_mul w_sub1 w_add1 w_shl w_shl1 w_shr c_beq c_bne c_beq0 c_bne0 c_beq1 c_bne1 wrap_nv

/- the two that are captured -/
def Cap (w : World) (b1 b2 : Nat) (v m l g v' m' l' g' : BitVec 64) : Prop :=
  b1 < w.heap.size ∧ b2 < w.heap.size ∧ w.cell? ⟨b1, 0, none⟩ = some (U v) ∧ w.cell? ⟨b1, 1, none⟩ = some (U m) ∧ w.cell? ⟨b1, 2, none⟩ = some (U l) ∧ w.cell? ⟨b1, 3, none⟩ = some (U g)
  ∧ w.cell? ⟨b2, 0, none⟩ = some (U v') ∧ w.cell? ⟨b2, 1, none⟩ = some (U m') ∧ w.cell? ⟨b2, 2, none⟩ = some (U l') ∧ w.cell? ⟨b2, 3, none⟩ = some (U g')
theorem Cap.keep {w w' : World} {b1 b2 : Nat} {v m l g v' m' l' g' : BitVec 64} (h : Cap w b1 b2 v m l g v' m' l' g') (hb : Below w.heap.size w w') : Cap w' b1 b2 v m l g v' m' l' g' := by
  obtain ⟨s1, s2, a0, a1, a2, a3, c0, c1, c2, c3⟩ := h
  exact ⟨Nat.lt_of_lt_of_le s1 hb.size, Nat.lt_of_lt_of_le s2 hb.size, (hb.cell (p := ⟨b1, 0, none⟩) s1).trans a0, (hb.cell (p := ⟨b1, 1, none⟩) s1).trans a1, (hb.cell (p := ⟨b1, 2, none⟩) s1).trans a2, (hb.cell (p := ⟨b1, 3, none⟩) s1).trans a3,
    (hb.cell (p := ⟨b2, 0, none⟩) s2).trans c0, (hb.cell (p := ⟨b2, 1, none⟩) s2).trans c1, (hb.cell (p := ⟨b2, 2, none⟩) s2).trans c2, (hb.cell (p := ⟨b2, 3, none⟩) s2).trans c3⟩

set_option maxRecDepth 100000 in
set_option maxHeartbeats 4000000 in
theorem equal1_is {b1 b2 : Nat} {v m l g v' m' l' g' kv km lo hi : BitVec 64} {may : Bool} {w : World} (hc : Hid (Cap w b1 b2 v m l g v' m' l' g'))
    (HM : Hid (∀ w, Calls Try.prog 14 #[Bt v m, Bt v' m'] w fun e w' => e = .returned (.tuple #[Bt kv km, .bool may, N 0]) ∧ Below w.heap.size w w'))
    (m1 : Hid (bmax l l' = lo)) (m2 : Hid (bmin g g' = hi)) :
    Calls Try.prog 92 #[PT b1, PT b2] w fun e w' => e = .returned (.tuple #[Vl kv km lo hi, Vl kv km lo hi, .bool may]) ∧ Below w.heap.size w w' := by
  have e1 : (if nv l < nv l' then nv l' else nv l) = nv lo := by rw [← m1.out]; unfold bmax; split <;> rfl
  have e2 : (if nv g' < nv g then nv g' else nv g) = nv hi := by rw [← m2.out]; unfold bmin; split <;> rfl
  obtain ⟨s1, s2, a0, a1, a2, a3, c0, c1, c2, c3⟩ := hc.out
  go_enter Try.func92, Try.ntmps92
  go_wp2_with fail
  refine (HM.out _).mono ?_
  rintro e w1 ⟨rfl, hb1⟩
  have hK := (((Kp.start w).add4 _ _ _ _ _).add4 _ _ _ _ _).keep hb1
  simp only [World.size_alloc] at hK
  have hcc := hc.out.keep hK.bel
  clear s1 s2 a0 a1 a2 a3 c0 c1 c2 c3
  obtain ⟨s1, s2, a0, a1, a2, a3, c0, c1, c2, c3⟩ := hcc
  obtain ⟨t0, t1, t2, t3, t4, t5, t6, t7, t8⟩ := hK.box.head.four
  obtain ⟨r0, r1, r2, r3, r4, r5, r6, r7, r8⟩ := hK.box.tail.head.four
  go_wp2_with fail
  have hK2 := (hK.add2 (U kv) (U km) 24).add4 (U kv) (U km) (U lo) (U hi) 49
  simp only [World.size_alloc] at hK2
  have n1 : w.heap.size ≠ w1.heap.size + 1 := by omega
  have n2 : w1.heap.size + 1 ≠ w.heap.size := by omega
  have n3 : w.heap.size ≠ w1.heap.size := by omega
  have n4 : w1.heap.size ≠ w.heap.size := by omega
  have n5 : w.heap.size + 1 ≠ w1.heap.size := by omega
  have n6 : w1.heap.size ≠ w.heap.size + 1 := by omega
  clear t0 t1 t2 t3 t4 t5 t6 t7 t8 r0 r1 r2 r3 r4 r5 r6 r7 r8
  obtain ⟨k0, k1, k2, k3, k4, k5, k6, k7, k8⟩ := hK2.box.head.four
  obtain ⟨t0, t1, t2, t3, t4, t5, t6, t7, t8⟩ := hK2.box.tail.tail.head.four
  obtain ⟨r0, r1, r2, r3, r4, r5, r6, r7, r8⟩ := hK2.box.tail.tail.tail.head.four
  go_region
  all_goals
    go_wp2_with fail
    refine bodyPost_ret (v := .tuple #[Vl kv km lo hi, Vl kv km lo hi, .bool may]) ?_ rfl ⟨rfl, ?_⟩
    · simp [results, Try.results92, go_sem, t0, t1, t2, t3, r0, r1, r2, r3]
    · exact Below.drew ((hK2.set4 3 rfl).set4 2 rfl).bel

set_option maxRecDepth 100000 in
set_option maxHeartbeats 4000000 in
theorem notLess1_is {b1 b2 : Nat} {v m l g v' m' l' g' : BitVec 64} {w : World} (hc : Hid (Cap w b1 b2 v m l g v' m' l' g')) :
    Calls Try.prog 98 #[PT b1, PT b2] w fun e w' => e = .returned (.tuple #[Vl v m (bmax l l') (bmin g g), Vl v' m' (bmax l' l') (bmin g' g), .bool true]) ∧ Below w.heap.size w w' := by
  obtain ⟨s1, s2, a0, a1, a2, a3, c0, c1, c2, c3⟩ := hc.out
  have hK0 := ((Kp.start w).add4 (.int .u64 0) (.int .u64 0) (.int .u64 0) (.int .u64 0) 49).add4 (.int .u64 0) (.int .u64 0) (.int .u64 0) (.int .u64 0) 49
  simp only [World.size_alloc] at hK0
  go_enter Try.func98, Try.ntmps98
  go_wp2_with fail
  have hS0 : Kp w _ [] := (hK0).drop'.drop'.keep (Below.drew (Below.refl _ _))
  have hR0 := (hK0).keep (Below.drew (Below.refl _ _))
  have HS : Hid (∀ w', Kp w w' [] → Kp w w' [] ∧ w'.cell? ⟨b1, 0, none⟩ = some (U v) ∧ w'.cell? ⟨b1, 1, none⟩ = some (U m) ∧ w'.cell? ⟨b1, 2, none⟩ = some (U l) ∧ w'.cell? ⟨b1, 3, none⟩ = some (U g) ∧ w'.cell? ⟨b2, 0, none⟩ = some (U v') ∧ w'.cell? ⟨b2, 1, none⟩ = some (U m') ∧ w'.cell? ⟨b2, 2, none⟩ = some (U l') ∧ w'.cell? ⟨b2, 3, none⟩ = some (U g')) := by
    intro w' hk
    obtain ⟨_, _, d0, d1, d2, d3, f0, f1, f2, f3⟩ := hc.out.keep hk.bel
    exact ⟨hk, d0, d1, d2, d3, f0, f1, f2, f3⟩
  go_region_held3 (fun w' => Kp w w' [] ∧ w'.cell? ⟨b1, 0, none⟩ = some (U v) ∧ w'.cell? ⟨b1, 1, none⟩ = some (U m) ∧ w'.cell? ⟨b1, 2, none⟩ = some (U l) ∧ w'.cell? ⟨b1, 3, none⟩ = some (U g) ∧ w'.cell? ⟨b2, 0, none⟩ = some (U v') ∧ w'.cell? ⟨b2, 1, none⟩ = some (U m') ∧ w'.cell? ⟨b2, 2, none⟩ = some (U l') ∧ w'.cell? ⟨b2, 3, none⟩ = some (U g'))
    ((refine HS.out _ ?_; repeat (first | refine Kp.other4 ?_ _ _ _ _ (by first | exact Nat.le_refl _ | omega) (by simp) | exact hS0 | refine Kp.keep ?_ (by assumption) | refine Kp.keep ?_ (Below.drew (Below.refl _ _)))))
    (first
      | (go_at_call 97; refine (between_any _ _ _ _ _ _ _).mono ?_; rintro e wk ⟨rfl, hb⟩; first | (have hR2 := hR1.keep hb; obtain ⟨t0, t1, t2, t3, t4, t5, t6, t7, t8⟩ := hR2.box.head.four; obtain ⟨r0, r1, r2, r3, r4, r5, r6, r7, r8⟩ := hR2.box.tail.head.four) | (have hR1 := hR0.keep hb)))
  all_goals
    go_wp2_with fail
    refine bodyPost_ret (v := .tuple #[Vl v m (bmax l l') (bmin g g), Vl v' m' (bmax l' l') (bmin g' g), .bool true]) ?_ rfl ⟨rfl, ?_⟩
    · simp [results, Try.results98, go_sem, t0, t1, t2, t3, r0, r1, r2, r3]
    · exact ((hR2.set4 1 rfl).set4 0 rfl).bel

end Go.Proofs.Ytkigmocchaikgaa
