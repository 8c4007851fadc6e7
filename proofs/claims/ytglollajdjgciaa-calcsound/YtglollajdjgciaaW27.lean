/- The contracts of the functions that Equal and Less hand to leave. -/
import Derived.Test.YtglollajdjgciaaW25
import Derived.Test.YtglollajdjgciaaW26
import Derived.Test.YtglollajdjgciaaW18
import Derived.Deep.RegionHeld3
namespace Go.Proofs.Ytglollajdjgciaa
open Go.RowKit
attribute [local go_sem] w_and w_or w_xor w_andNot w_and1 w_and63 w_add w_sub w_mul w_sub1 w_add1 w_shl w_shl1 w_shr c_beq c_bne c_beq0 c_bne0 c_beq1 c_bne1 wrap_nv

/- the two that are captured -/
def Cap (w : World) (b1 b2 : Nat) (v m l g v' m' l' g' : BitVec 64) : Prop :=
  b1 < w.heap.size ∧ b2 < w.heap.size ∧ w.cell? ⟨b1, 0, none⟩ = some (U v) ∧ w.cell? ⟨b1, 1, none⟩ = some (U m) ∧ w.cell? ⟨b1, 2, none⟩ = some (U l) ∧ w.cell? ⟨b1, 3, none⟩ = some (U g)
  ∧ w.cell? ⟨b2, 0, none⟩ = some (U v') ∧ w.cell? ⟨b2, 1, none⟩ = some (U m') ∧ w.cell? ⟨b2, 2, none⟩ = some (U l') ∧ w.cell? ⟨b2, 3, none⟩ = some (U g')
theorem Cap.keep {w w' : World} {b1 b2 : Nat} {v m l g v' m' l' g' : BitVec 64} (h : Cap w b1 b2 v m l g v' m' l' g') (hb : Below w.heap.size w w') : Cap w' b1 b2 v m l g v' m' l' g' := by
  obtain ⟨s1, s2, a0, a1, a2, a3, c0, c1, c2, c3⟩ := h
  exact ⟨Nat.lt_of_lt_of_le s1 hb.size, Nat.lt_of_lt_of_le s2 hb.size, (hb.cell (p := ⟨b1, 0, none⟩) s1).trans a0, (hb.cell (p := ⟨b1, 1, none⟩) s1).trans a1, (hb.cell (p := ⟨b1, 2, none⟩) s1).trans a2, (hb.cell (p := ⟨b1, 3, none⟩) s1).trans a3,
    (hb.cell (p := ⟨b2, 0, none⟩) s2).trans c0, (hb.cell (p := ⟨b2, 1, none⟩) s2).trans c1, (hb.cell (p := ⟨b2, 2, none⟩) s2).trans c2, (hb.cell (p := ⟨b2, 3, none⟩) s2).trans c3⟩

set_option maxRecDepth 100000 in
set_option maxHeartbeats 4000000 in
theorem equal1_is {b1 b2 : Nat} {v m l g v' m' l' g' kv km lo hi : BitVec 64} {may : Bool} {w : World} (hc : Hid (Cap w b1 b2 v m l g v' m' l' g'))
    (HM : Hid (∀ w, Calls Try.prog 14 #[Bt v m, Bt v' m'] w fun e w' => e = .returned (.tuple #[Bt kv km, .bool may, N 0]) ∧ Below w.heap.size w w'))
    (m1 : Hid (bmax l l' = lo)) (m2 : Hid (bmin g g' = hi)) :
    Calls Try.prog 92 #[PT b1, PT b2] w fun e w' => e = .returned (.tuple #[Vl kv km lo hi, Vl kv km lo hi, .bool may]) ∧ Below w.heap.size w w' := by
  have e1 : (if nv l < nv l' then nv l' else nv l) = nv lo := by rw [← m1.out]; unfold bmax; split <;> rfl
  have e2 : (if nv g' < nv g then nv g' else nv g) = nv hi := by rw [← m2.out]; unfold bmin; split <;> rfl
  obtain ⟨s1, s2, a0, a1, a2, a3, c0, c1, c2, c3⟩ := hc.out
  go_enter Try.func92, Try.ntmps92
  go_wp2_with fail
  refine (HM.out _).mono ?_
  rintro e w1 ⟨rfl, hb1⟩
  have hK := (((Kp.start w).add4 _ _ _ _ _).add4 _ _ _ _ _).keep hb1
  simp only [World.size_alloc] at hK
  have hcc := hc.out.keep hK.bel
  clear s1 s2 a0 a1 a2 a3 c0 c1 c2 c3
  obtain ⟨s1, s2, a0, a1, a2, a3, c0, c1, c2, c3⟩ := hcc
  obtain ⟨t0, t1, t2, t3, t4, t5, t6, t7, t8⟩ := hK.box.head.four
  obtain ⟨r0, r1, r2, r3, r4, r5, r6, r7, r8⟩ := hK.box.tail.head.four
  go_wp2_with fail
  have hK2 := (hK.add2 (U kv) (U km) 24).add4 (U kv) (U km) (U lo) (U hi) 49
  simp only [World.size_alloc] at hK2
  have n1 : w.heap.size ≠ w1.heap.size + 1 := by omega
  have n2 : w1.heap.size + 1 ≠ w.heap.size := by omega
  have n3 : w.heap.size ≠ w1.heap.size := by omega
  have n4 : w1.heap.size ≠ w.heap.size := by omega
  have n5 : w.heap.size + 1 ≠ w1.heap.size := by omega
  have n6 : w1.heap.size ≠ w.heap.size + 1 := by omega
  clear t0 t1 t2 t3 t4 t5 t6 t7 t8 r0 r1 r2 r3 r4 r5 r6 r7 r8
  obtain ⟨k0, k1, k2, k3, k4, k5, k6, k7, k8⟩ := hK2.box.head.four
  obtain ⟨t0, t1, t2, t3, t4, t5, t6, t7, t8⟩ := hK2.box.tail.tail.head.four
  obtain ⟨r0, r1, r2, r3, r4, r5, r6, r7, r8⟩ := hK2.box.tail.tail.tail.head.four
  go_region
  all_goals
    go_wp2_with fail
    refine bodyPost_ret (v := .tuple #[Vl kv km lo hi, Vl kv km lo hi, .bool may]) ?_ rfl ⟨rfl, ?_⟩
    · simp [results, Try.results92, go_sem, t0, t1, t2, t3, r0, r1, r2, r3]
    · exact Below.drew ((hK2.set4 3 rfl).set4 2 rfl).bel

set_option maxRecDepth 100000 in
set_option maxHeartbeats 4000000 in
theorem notLess1_is {b1 b2 : Nat} {v m l g v' m' l' g' : BitVec 64} {w : World} (hc : Hid (Cap w b1 b2 v m l g v' m' l' g')) :
    Calls Try.prog 98 #[PT b1, PT b2] w fun e w' => e = .returned (.tuple #[Vl v m (bmax l l') (bmin g g), Vl v' m' (bmax l' l') (bmin g' g), .bool true]) ∧ Below w.heap.size w w' := by
  obtain ⟨s1, s2, a0, a1, a2, a3, c0, c1, c2, c3⟩ := hc.out
  have hK0 := ((Kp.start w).add4 (.int .u64 0) (.int .u64 0) (.int .u64 0) (.int .u64 0) 49).add4 (.int .u64 0) (.int .u64 0) (.int .u64 0) (.int .u64 0) 49
  simp only [World.size_alloc] at hK0
  go_enter Try.func98, Try.ntmps98
  go_wp2_with fail
  have hS0 : Kp w _ [] := (hK0).drop'.drop'.keep (Below.drew (Below.refl _ _))
  have hR0 := (hK0).keep (Below.drew (Below.refl _ _))
  have HS : Hid (∀ w', Kp w w' [] → Kp w w' [] ∧ w'.cell? ⟨b1, 0, none⟩ = some (U v) ∧ w'.cell? ⟨b1, 1, none⟩ = some (U m) ∧ w'.cell? ⟨b1, 2, none⟩ = some (U l) ∧ w'.cell? ⟨b1, 3, none⟩ = some (U g) ∧ w'.cell? ⟨b2, 0, none⟩ = some (U v') ∧ w'.cell? ⟨b2, 1, none⟩ = some (U m') ∧ w'.cell? ⟨b2, 2, none⟩ = some (U l') ∧ w'.cell? ⟨b2, 3, none⟩ = some (U g')) := by
    intro w' hk
    obtain ⟨_, _, d0, d1, d2, d3, f0, f1, f2, f3⟩ := hc.out.keep hk.bel
    exact ⟨hk, d0, d1, d2, d3, f0, f1, f2, f3⟩
  go_region_held3 (fun w' => Kp w w' [] ∧ w'.cell? ⟨b1, 0, none⟩ = some (U v) ∧ w'.cell? ⟨b1, 1, none⟩ = some (U m) ∧ w'.cell? ⟨b1, 2, none⟩ = some (U l) ∧ w'.cell? ⟨b1, 3, none⟩ = some (U g) ∧ w'.cell? ⟨b2, 0, none⟩ = some (U v') ∧ w'.cell? ⟨b2, 1, none⟩ = some (U m') ∧ w'.cell? ⟨b2, 2, none⟩ = some (U l') ∧ w'.cell? ⟨b2, 3, none⟩ = some (U g'))
    ((refine HS.out _ ?_; repeat (first | refine Kp.other4 ?_ _ _ _ _ (by first | exact Nat.le_refl _ | omega) (by simp) | exact hS0 | refine Kp.keep ?_ (by assumption) | refine Kp.keep ?_ (Below.drew (Below.refl _ _)))))
    (first
      | (go_at_call 97; refine (between_any _ _ _ _ _ _ _).mono ?_; rintro e wk ⟨rfl, hb⟩; first | (have hR2 := hR1.keep hb; obtain ⟨t0, t1, t2, t3, t4, t5, t6, t7, t8⟩ := hR2.box.head.four; obtain ⟨r0, r1, r2, r3, r4, r5, r6, r7, r8⟩ := hR2.box.tail.head.four) | (have hR1 := hR0.keep hb)))
  all_goals
    go_wp2_with fail
    refine bodyPost_ret (v := .tuple #[Vl v m (bmax l l') (bmin g g), Vl v' m' (bmax l' l') (bmin g' g), .bool true]) ?_ rfl ⟨rfl, ?_⟩
    · simp [results, Try.results98, go_sem, t0, t1, t2, t3, r0, r1, r2, r3]
    · exact ((hR2.set4 1 rfl).set4 0 rfl).bel

end Go.Proofs.Ytglollajdjgciaa
