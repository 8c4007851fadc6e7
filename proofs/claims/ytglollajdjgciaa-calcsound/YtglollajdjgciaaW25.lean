/- The contracts of package calc's between and without. -/
import Derived.Test.YtglollajdjgciaaW24
namespace Go.Proofs.Ytglollajdjgciaa
open Go.RowKit
attribute [local go_sem] w_and w_or w_xor w_andNot w_and1 w_and63 w_add w_sub w_mul w_sub1 w_add1 w_shl w_shl1 w_shr c_beq c_bne c_beq0 c_bne0 c_beq1 c_bne1 wrap_nv

set_option maxRecDepth 100000 in
set_option maxHeartbeats 1000000 in
theorem between_any (v m l g lo hi : BitVec 64) (w : World) :
    Calls Try.prog 97 #[Vl v m l g, U lo, U hi] w fun e w' => e = .returned (Vl v m (bmax l lo) (bmin g hi)) ∧ Below w.heap.size w w' := by
  by_cases h1 : nv l < nv lo <;> by_cases h2 : nv hi < nv g
  · have e1 : Hid (bmax l lo = lo) := if_pos h1
    have e2 : Hid (bmin g hi = hi) := if_pos h2
    rw [e1.out, e2.out]
    go_enter Try.func97, Try.ntmps97
    go_wp2_with fail
    exact bodyPost_ret (v := Vl v m lo hi) (by simp [results, Try.results97, go_sem]) rfl ⟨rfl, (by repeat (first | exact Below.refl _ _ | assumption | refine below_drewN ?_ _ | refine Below.drew ?_ | refine Below.alloc ?_ (by first | exact Nat.le_refl _ | (simp; done) | (simp; omega) | omega) _ | refine Below.setCell ?_ (by first | exact Nat.le_refl _ | (simp; done) | (simp; omega) | omega) _ | refine Below.trans ?_ (Below.mono (by assumption) (by first | exact Nat.le_refl _ | (simp; done) | (simp; omega) | omega))))⟩
  · have e1 : Hid (bmax l lo = lo) := if_pos h1
    have e2 : Hid (bmin g hi = g) := if_neg h2
    have h2' : nv g ≤ nv hi := by omega
    clear h2
    rw [e1.out, e2.out]
    go_enter Try.func97, Try.ntmps97
    go_wp2_with fail
    exact bodyPost_ret (v := Vl v m lo g) (by simp [results, Try.results97, go_sem]) rfl ⟨rfl, (by repeat (first | exact Below.refl _ _ | assumption | refine below_drewN ?_ _ | refine Below.drew ?_ | refine Below.alloc ?_ (by first | exact Nat.le_refl _ | (simp; done) | (simp; omega) | omega) _ | refine Below.setCell ?_ (by first | exact Nat.le_refl _ | (simp; done) | (simp; omega) | omega) _ | refine Below.trans ?_ (Below.mono (by assumption) (by first | exact Nat.le_refl _ | (simp; done) | (simp; omega) | omega))))⟩
  · have e1 : Hid (bmax l lo = l) := if_neg h1
    have e2 : Hid (bmin g hi = hi) := if_pos h2
    have h1' : nv lo ≤ nv l := by omega
    clear h1
    rw [e1.out, e2.out]
    go_enter Try.func97, Try.ntmps97
    go_wp2_with fail
    exact bodyPost_ret (v := Vl v m l hi) (by simp [results, Try.results97, go_sem]) rfl ⟨rfl, (by repeat (first | exact Below.refl _ _ | assumption | refine below_drewN ?_ _ | refine Below.drew ?_ | refine Below.alloc ?_ (by first | exact Nat.le_refl _ | (simp; done) | (simp; omega) | omega) _ | refine Below.setCell ?_ (by first | exact Nat.le_refl _ | (simp; done) | (simp; omega) | omega) _ | refine Below.trans ?_ (Below.mono (by assumption) (by first | exact Nat.le_refl _ | (simp; done) | (simp; omega) | omega))))⟩
  · have e1 : Hid (bmax l lo = l) := if_neg h1
    have e2 : Hid (bmin g hi = g) := if_neg h2
    have h1' : nv lo ≤ nv l := by omega
    have h2' : nv g ≤ nv hi := by omega
    clear h1 h2
    rw [e1.out, e2.out]
    go_enter Try.func97, Try.ntmps97
    go_wp2_with fail
    exact bodyPost_ret (v := Vl v m l g) (by simp [results, Try.results97, go_sem]) rfl ⟨rfl, (by repeat (first | exact Below.refl _ _ | assumption | refine below_drewN ?_ _ | refine Below.drew ?_ | refine Below.alloc ?_ (by first | exact Nat.le_refl _ | (simp; done) | (simp; omega) | omega) _ | refine Below.setCell ?_ (by first | exact Nat.le_refl _ | (simp; done) | (simp; omega) | omega) _ | refine Below.trans ?_ (Below.mono (by assumption) (by first | exact Nat.le_refl _ | (simp; done) | (simp; omega) | omega))))⟩

def woL (l l' h' : BitVec 64) : BitVec 64 := if eqb l' h' && eqb l l' then badd l one else l
def woH (l h l' h' : BitVec 64) : BitVec 64 := if eqb l' h' && (!eqb l l' && eqb h l') then bsub h one else h
set_option maxRecDepth 100000 in
set_option maxHeartbeats 1000000 in
theorem without_is (v m l g v' m' l' g' : BitVec 64) (w : World) :
    Calls Try.prog 95 #[Vl v m l g, Vl v' m' l' g'] w fun e w' => e = .returned (Vl v m (woL l l' g') (woH l g l' g')) ∧ Below w.heap.size w w' := by
  have H1 : Hid (woL l l' g' = if eqb l' g' && eqb l l' then badd l one else l) := rfl
  have H2 : Hid (woH l g l' g' = if eqb l' g' && (!eqb l l' && eqb g l') then bsub g one else g) := rfl
  obtain ⟨z1, ha⟩ : ∃ b, Hid (eqb l' g' = b) := ⟨_, rfl⟩
  obtain ⟨z2, hb⟩ : ∃ b, eqb l l' = b := ⟨_, rfl⟩
  obtain ⟨z3, hc⟩ : ∃ b, eqb g l' = b := ⟨_, rfl⟩
  rw [ha.out, hb] at H1
  rw [ha.out, hb, hc] at H2
  cases z1
  · rw [H1.out, H2.out]
    go_enter Try.func95, Try.ntmps95
    go_wp2_with fail
    refine (alone_is ha.out _).mono ?_
    rintro e w1 ⟨rfl, hb1⟩
    have hK := ((((Kp.start w).add4 _ _ _ _ _).add4 _ _ _ _ _).add4 _ _ _ _ _).keep hb1
    simp only [World.size_alloc] at hK
    obtain ⟨r0, r1, r2, r3, r4, r5, r6, r7, r8⟩ := hK.box.head.four
    obtain ⟨b0, b1, b2, b3, b4, b5, b6, b7, b8⟩ := hK.box.tail.head.four
    obtain ⟨a0, a1, a2, a3, a4, a5, a6, a7, a8⟩ := hK.box.tail.tail.head.four
    go_wp2_with fail
    exact bodyPost_ret (v := Vl v m l g) (by simp [results, Try.results95, go_sem, r0, r1, r2, r3]) rfl ⟨rfl, (hK.set4 0 rfl).bel⟩
  · cases z2
    · cases z3
      · rw [H1.out, H2.out]
        go_enter Try.func95, Try.ntmps95
        go_wp2_with fail
        refine (alone_is ha.out _).mono ?_
        rintro e w1 ⟨rfl, hb1⟩
        have hK := ((((Kp.start w).add4 _ _ _ _ _).add4 _ _ _ _ _).add4 _ _ _ _ _).keep hb1
        simp only [World.size_alloc] at hK
        obtain ⟨r0, r1, r2, r3, r4, r5, r6, r7, r8⟩ := hK.box.head.four
        obtain ⟨b0, b1, b2, b3, b4, b5, b6, b7, b8⟩ := hK.box.tail.head.four
        obtain ⟨a0, a1, a2, a3, a4, a5, a6, a7, a8⟩ := hK.box.tail.tail.head.four
        go_wp2_with fail
        exact bodyPost_ret (v := Vl v m l g) (by simp [results, Try.results95, go_sem, r0, r1, r2, r3]) rfl ⟨rfl, (hK.set4 0 rfl).bel⟩
      · rw [H1.out, H2.out]
        go_enter Try.func95, Try.ntmps95
        go_wp2_with fail
        refine (alone_is ha.out _).mono ?_
        rintro e w1 ⟨rfl, hb1⟩
        have hK := ((((Kp.start w).add4 _ _ _ _ _).add4 _ _ _ _ _).add4 _ _ _ _ _).keep hb1
        simp only [World.size_alloc] at hK
        obtain ⟨r0, r1, r2, r3, r4, r5, r6, r7, r8⟩ := hK.box.head.four
        obtain ⟨b0, b1, b2, b3, b4, b5, b6, b7, b8⟩ := hK.box.tail.head.four
        obtain ⟨a0, a1, a2, a3, a4, a5, a6, a7, a8⟩ := hK.box.tail.tail.head.four
        go_wp2_with fail
        refine bodyPost_ret (v := Vl v m l (bsub g one)) (by simp [results, Try.results95, go_sem, r0, r1, r2, r3]) rfl ⟨rfl, ?_⟩
        exact ((((hK.bel.setCell (by dsimp only; omega) _).setCell (by dsimp only; omega) _).setCell (by dsimp only; omega) _).setCell (by dsimp only; omega) _).setCell (by dsimp only; omega) _
    · rw [H1.out, H2.out]
      go_enter Try.func95, Try.ntmps95
      go_wp2_with fail
      refine (alone_is ha.out _).mono ?_
      rintro e w1 ⟨rfl, hb1⟩
      have hK := ((((Kp.start w).add4 _ _ _ _ _).add4 _ _ _ _ _).add4 _ _ _ _ _).keep hb1
      simp only [World.size_alloc] at hK
      obtain ⟨r0, r1, r2, r3, r4, r5, r6, r7, r8⟩ := hK.box.head.four
      obtain ⟨b0, b1, b2, b3, b4, b5, b6, b7, b8⟩ := hK.box.tail.head.four
      obtain ⟨a0, a1, a2, a3, a4, a5, a6, a7, a8⟩ := hK.box.tail.tail.head.four
      go_wp2_with fail
      refine bodyPost_ret (v := Vl v m (badd l one) g) (by simp [results, Try.results95, go_sem, r0, r1, r2, r3]) rfl ⟨rfl, ?_⟩
      exact ((((hK.bel.setCell (by dsimp only; omega) _).setCell (by dsimp only; omega) _).setCell (by dsimp only; omega) _).setCell (by dsimp only; omega) _).setCell (by dsimp only; omega) _

end Go.Proofs.Ytglollajdjgciaa
