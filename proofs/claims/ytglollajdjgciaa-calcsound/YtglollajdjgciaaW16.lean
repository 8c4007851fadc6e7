/- The contracts of package val's Inside and Join, and of the reference's InsideVal. -/
import Derived.Test.YtglollajdjgciaaW15
namespace Go.Proofs.Ytglollajdjgciaa
open Go.RowKit
attribute [local go_sem] w_and w_or w_xor w_andNot w_and1 w_and63 w_add w_sub w_mul w_sub1 w_add1 w_shl w_shl1 w_shr c_beq c_bne c_beq0 c_bne0 c_beq1 c_bne1 wrap_nv

theorem insideBits_any (av am bv bm : BitVec 64) (w : World) :
    Calls Try.prog 27 #[Bt av am, Bt bv bm] w fun e w' => e = .returned (.bool (insB av am bv bm)) ∧ Below w.heap.size w w' := by
  cases hr : (eqb (band av am) zero && eqb (band bv bm) zero)
  · have e : insB av am bv bm = false := by unfold insB; rw [hr]; rfl
    rw [e]; exact insideBits_wrong av am bv bm hr w
  · have hi := inside_eq hr
    rw [Bool.and_eq_true] at hr
    rcases first_no (insOk av am bv bm) 64 with h | ⟨j, hj, hno, hok⟩
    · rw [hi.2 h]; exact insideBits_yes av am bv bm hr.1 hr.2 h w
    · have e : insB av am bv bm = false := by
        cases hx : insB av am bv bm
        · rfl
        · rw [hi.1 hx j hj] at hno; cases hno
      rw [e]; exact insideBits_no av am bv bm hr.1 hr.2 j hj hno hok w
theorem insR {av am bv bm : BitVec 64} {b : Bool} (h : insB av am bv bm = b) (w : World) :
    Calls Try.prog 27 #[Bt av am, Bt bv bm] w fun e w' => e = .returned (.bool b) ∧ Below w.heap.size w w' := h ▸ insideBits_any av am bv bm w

set_option maxHeartbeats 1000000 in
theorem valInside_any (v m l h v' m' l' h' : BitVec 64) (w : World) :
    Calls Try.prog 44 #[Vl v m l h, Vl v' m' l' h'] w fun e w' => e = .returned (.bool (insV v m l h v' m' l' h')) ∧ Below w.heap.size w w' := by
  have Hh : Hid (insV v m l h v' m' l' h' = (valB v m l h && (valB v' m' l' h' && (insB v m v' m' && (decide (nv l' ≤ nv l) && decide (nv h ≤ nv h')))))) := rfl
  obtain ⟨z1, H1⟩ : ∃ b, Hid (valB v m l h = b) := ⟨_, rfl⟩
  obtain ⟨z2, H2⟩ : ∃ b, Hid (valB v' m' l' h' = b) := ⟨_, rfl⟩
  obtain ⟨z3, H3⟩ : ∃ b, Hid (insB v m v' m' = b) := ⟨_, rfl⟩
  rw [H1.out, H2.out, H3.out] at Hh
  rw [Hh.out]
  clear Hh
  go_enter Try.func44, Try.ntmps44
  go_wp2_with fail
  refine (checkV H1.out _).mono ?_
  rintro e w1 ⟨rfl, hb1⟩
  have hK := (((Kp.start w).add4 _ _ _ _ _).add4 _ _ _ _ _).keep hb1
  simp only [World.size_alloc] at hK
  obtain ⟨b0, b1, b2, b3, b4, b5, b6, b7, b8⟩ := hK.box.head.four
  obtain ⟨a0, a1, a2, a3, a4, a5, a6, a7, a8⟩ := hK.box.tail.head.four
  cases z1
  · rw [er_f]
    go_wp2_with fail
    go_ret
    exact ⟨rfl, hK.bel⟩
  · rw [er_t]
    go_wp2_with fail
    refine (checkV H2.out _).mono ?_
    rintro e w2 ⟨rfl, hb2⟩
    have hK2 := hK.keep hb2
    clear b0 b1 b2 b3 b4 b5 b6 b7 b8 a0 a1 a2 a3 a4 a5 a6 a7 a8
    obtain ⟨b0, b1, b2, b3, b4, b5, b6, b7, b8⟩ := hK2.box.head.four
    obtain ⟨a0, a1, a2, a3, a4, a5, a6, a7, a8⟩ := hK2.box.tail.head.four
    cases z2
    · rw [er_f]
      go_wp2_with fail
      go_ret
      exact ⟨rfl, hK2.bel⟩
    · rw [er_t]
      go_wp2_with fail
      refine (insC H3.out _).mono ?_
      rintro e w3 ⟨rfl, hb3⟩
      have hK3 := hK2.keep hb3
      clear b0 b1 b2 b3 b4 b5 b6 b7 b8 a0 a1 a2 a3 a4 a5 a6 a7 a8
      obtain ⟨b0, b1, b2, b3, b4, b5, b6, b7, b8⟩ := hK3.box.head.four
      obtain ⟨a0, a1, a2, a3, a4, a5, a6, a7, a8⟩ := hK3.box.tail.head.four
      cases z3
      · go_wp2_with fail
        go_ret
        exact ⟨rfl, hK3.bel⟩
      · by_cases h1 : nv l' ≤ nv l
        · go_wp2_with fail
          go_ret
          exact ⟨by simp <;> omega, hK3.bel⟩
        · have h1' : nv l < nv l' := by omega
          go_wp2_with fail
          go_ret
          exact ⟨by simp <;> omega, hK3.bel⟩
set_option maxHeartbeats 1000000 in
theorem insideVal_any (v m l h v' m' l' h' : BitVec 64) (w : World) :
    Calls Try.prog 45 #[Vl v m l h, Vl v' m' l' h'] w fun e w' => e = .returned (.bool (insV v m l h v' m' l' h')) ∧ Below w.heap.size w w' := by
  have Hh : Hid (insV v m l h v' m' l' h' = (valB v m l h && (valB v' m' l' h' && (insB v m v' m' && (decide (nv l' ≤ nv l) && decide (nv h ≤ nv h')))))) := rfl
  obtain ⟨z1, H1⟩ : ∃ b, Hid (valB v m l h = b) := ⟨_, rfl⟩
  obtain ⟨z2, H2⟩ : ∃ b, Hid (valB v' m' l' h' = b) := ⟨_, rfl⟩
  obtain ⟨z3, H3⟩ : ∃ b, Hid (insB v m v' m' = b) := ⟨_, rfl⟩
  rw [H1.out, H2.out, H3.out] at Hh
  rw [Hh.out]
  clear Hh
  go_enter Try.func45, Try.ntmps45
  go_wp2_with fail
  refine (rightV H1.out _).mono ?_
  rintro e w1 ⟨rfl, hb1⟩
  have hK := (((Kp.start w).add4 _ _ _ _ _).add4 _ _ _ _ _).keep hb1
  simp only [World.size_alloc] at hK
  obtain ⟨b0, b1, b2, b3, b4, b5, b6, b7, b8⟩ := hK.box.head.four
  obtain ⟨a0, a1, a2, a3, a4, a5, a6, a7, a8⟩ := hK.box.tail.head.four
  cases z1
  · go_wp2_with fail
    go_ret
    exact ⟨rfl, hK.bel⟩
  · go_wp2_with fail
    refine (rightV H2.out _).mono ?_
    rintro e w2 ⟨rfl, hb2⟩
    have hK2 := hK.keep hb2
    clear b0 b1 b2 b3 b4 b5 b6 b7 b8 a0 a1 a2 a3 a4 a5 a6 a7 a8
    obtain ⟨b0, b1, b2, b3, b4, b5, b6, b7, b8⟩ := hK2.box.head.four
    obtain ⟨a0, a1, a2, a3, a4, a5, a6, a7, a8⟩ := hK2.box.tail.head.four
    cases z2
    · go_wp2_with fail
      go_ret
      exact ⟨rfl, hK2.bel⟩
    · go_wp2_with fail
      refine (insR H3.out _).mono ?_
      rintro e w3 ⟨rfl, hb3⟩
      have hK3 := hK2.keep hb3
      clear b0 b1 b2 b3 b4 b5 b6 b7 b8 a0 a1 a2 a3 a4 a5 a6 a7 a8
      obtain ⟨b0, b1, b2, b3, b4, b5, b6, b7, b8⟩ := hK3.box.head.four
      obtain ⟨a0, a1, a2, a3, a4, a5, a6, a7, a8⟩ := hK3.box.tail.head.four
      cases z3
      · go_wp2_with fail
        go_ret
        exact ⟨rfl, hK3.bel⟩
      · by_cases h1 : nv l' ≤ nv l
        · go_wp2_with fail
          go_ret
          exact ⟨by simp <;> omega, hK3.bel⟩
        · have h1' : nv l < nv l' := by omega
          go_wp2_with fail
          go_ret
          exact ⟨by simp <;> omega, hK3.bel⟩

end Go.Proofs.Ytglollajdjgciaa
