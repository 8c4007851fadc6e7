/- The contracts of package calc's reckon, checkAll and Two. -/
import Derived.Test.YtglollajdjgciaaW22
namespace Go.Proofs.Ytglollajdjgciaa
open Go.RowKit
attribute [local go_sem] w_and w_or w_xor w_andNot w_and1 w_and63 w_add w_sub w_mul w_sub1 w_add1 w_shl w_shl1 w_shr c_beq c_bne c_beq0 c_bne0 c_beq1 c_bne1 wrap_nv

def rk (op : Int) (v m l h v' m' l' h' : BitVec 64) : BitVec 64 × BitVec 64 × BitVec 64 × BitVec 64 :=
  if op = 8 then (if eqb l' h' then (bshl v (six l'), bshl m (six l'), (shlB l h (six l')).1, (shlB l h (six l')).2) else (zero, top, zero, top))
  else if op = 9 then (if eqb l' h' then (bshr v (six l'), bshr m (six l'), bshr l (six l'), bshr h (six l')) else (zero, top, zero, h))
  else ((twoP op v m v' m').1, (twoP op v m v' m').2, (boundsP op l h l' h').1, (boundsP op l h l' h').2)

theorem shift_is {op : Int} (hop : op = 8 ∨ op = 9) {v m l h : BitVec 64} (v' m' l' h' : BitVec 64) (hr : Hid (eqb (band v m) zero = true)) (w : World) :
    Calls Try.prog 112 #[N op, Vl v m l h, Vl v' m' l' h'] w fun e w' => e = .returned (Vl (rk op v m l h v' m' l' h').1 (rk op v m l h v' m' l' h').2.1 (rk op v m l h v' m' l' h').2.2.1 (rk op v m l h v' m' l' h').2.2.2) ∧ Below w.heap.size w w' := by
  rcases hop with rfl | rfl
  · cases ha : eqb l' h'
    · have e : rk 8 v m l h v' m' l' h' = (zero, top, zero, top) := by unfold rk; rw [if_pos rfl, ha]; rfl
      rw [e]; exact shift_wide8 ha w
    · have e : rk 8 v m l h v' m' l' h' = (bshl v (six l'), bshl m (six l'), (shlB l h (six l')).1, (shlB l h (six l')).2) := by unfold rk; rw [if_pos rfl, ha]; rfl
      rw [e]; exact shift_one8 hr ha w
  · cases ha : eqb l' h'
    · have e : rk 9 v m l h v' m' l' h' = (zero, top, zero, h) := by unfold rk; rw [if_neg (by decide), if_pos rfl, ha]; rfl
      rw [e]; exact shift_wide9 ha w
    · have e : rk 9 v m l h v' m' l' h' = (bshr v (six l'), bshr m (six l'), bshr l (six l'), bshr h (six l')) := by unfold rk; rw [if_neg (by decide), if_pos rfl, ha]; rfl
      rw [e]; exact shift_one9 hr ha w

set_option maxRecDepth 100000 in
set_option maxHeartbeats 1000000 in
theorem reckon_shift {op : Int} (hop : op = 8 ∨ op = 9) {v m l g : BitVec 64} (v' m' l' g' : BitVec 64) (hr : Hid (eqb (band v m) zero = true)) (w : World) :
    Calls Try.prog 88 #[N op, Vl v m l g, Vl v' m' l' g'] w fun e w' => e = .returned (.tuple #[Vl (rk op v m l g v' m' l' g').1 (rk op v m l g v' m' l' g').2.1 (rk op v m l g v' m' l' g').2.2.1 (rk op v m l g v' m' l' g').2.2.2, N 0]) ∧ Below w.heap.size w w' := by
  have HS : Hid (∀ w, Calls Try.prog 112 #[N op, Vl v m l g, Vl v' m' l' g'] w fun e w' => e = .returned (Vl (rk op v m l g v' m' l' g').1 (rk op v m l g v' m' l' g').2.1 (rk op v m l g v' m' l' g').2.2.1 (rk op v m l g v' m' l' g').2.2.2) ∧ Below w.heap.size w w') := fun w => shift_is hop v' m' l' g' hr w
  generalize rk op v m l g v' m' l' g' = S at HS ⊢
  obtain ⟨sa, sb, sc, sd⟩ := S
  rcases hop with rfl | rfl
  all_goals
    go_enter Try.func88, Try.ntmps88
    go_wp2_with fail
    refine (HS.out _).mono ?_
    rintro e w1 ⟨rfl, hb1⟩
    have hK := ((((Kp.start w).add4 _ _ _ _ _).add4 _ _ _ _ _).add4 _ _ _ _ _).keep hb1
    simp only [World.size_alloc] at hK
    obtain ⟨r0, r1, r2, r3, r4, r5, r6, r7, r8⟩ := hK.box.head.four
    obtain ⟨b0, b1, b2, b3, b4, b5, b6, b7, b8⟩ := hK.box.tail.head.four
    obtain ⟨a0, a1, a2, a3, a4, a5, a6, a7, a8⟩ := hK.box.tail.tail.head.four
    go_wp2_with fail
    exact bodyPost_ret (v := .tuple #[Vl sa sb sc sd, N 0]) (by simp [results, Try.results88, go_sem, r0, r1, r2, r3]) rfl ⟨rfl, (hK.set4 0 rfl).bel⟩
set_option maxRecDepth 100000 in
set_option maxHeartbeats 1000000 in
theorem reckon_two {op : Int} (hop : Hid (2 ≤ op ∧ op ≤ 7)) {v m l g v' m' l' g' : BitVec 64} (hr : Hid ((eqb (band v m) zero && eqb (band v' m') zero) = true)) (w : World) :
    Calls Try.prog 88 #[N op, Vl v m l g, Vl v' m' l' g'] w fun e w' => e = .returned (.tuple #[Vl (rk op v m l g v' m' l' g').1 (rk op v m l g v' m' l' g').2.1 (rk op v m l g v' m' l' g').2.2.1 (rk op v m l g v' m' l' g').2.2.2, N 0]) ∧ Below w.heap.size w w' := by
  have h8 : (op == 8) = false := by have := hop.out; simp; omega
  have h9 : (op == 9) = false := by have := hop.out; simp; omega
  have Hk : Hid (rk op v m l g v' m' l' g' = ((twoP op v m v' m').1, (twoP op v m v' m').2, (boundsP op l g l' g').1, (boundsP op l g l' g').2)) := by
    show _ = _
    unfold rk; rw [if_neg (by have := hop.out; omega), if_neg (by have := hop.out; omega)]
  rw [Hk.out]
  have HT : Hid (∀ w, Calls Try.prog 28 #[N op, Bt v m, Bt v' m'] w fun e w' => e = .returned (.tuple #[Bt (twoP op v m v' m').1 (twoP op v m v' m').2, N 0]) ∧ Below w.heap.size w w') := fun w => two_ok hr hop.out w
  have HB : Hid (∀ w, Calls Try.prog 113 #[N op, Vl v m l g, Vl v' m' l' g'] w fun e w' => e = .returned (.tuple #[U (boundsP op l g l' g').1, U (boundsP op l g l' g').2]) ∧ Below w.heap.size w w') := fun w => bounds_any hop v m l g v' m' l' g' w
  clear Hk
  generalize twoP op v m v' m' = T at HT ⊢
  generalize boundsP op l g l' g' = B at HB ⊢
  obtain ⟨ta, tb⟩ := T
  obtain ⟨ba, bb⟩ := B
  go_enter Try.func88, Try.ntmps88
  go_wp2_with fail
  refine (HT.out _).mono ?_
  rintro e w1 ⟨rfl, hb1⟩
  have hK := ((((Kp.start w).add4 _ _ _ _ _).add4 _ _ _ _ _).add4 _ _ _ _ _).keep hb1
  simp only [World.size_alloc] at hK
  obtain ⟨r0, r1, r2, r3, r4, r5, r6, r7, r8⟩ := hK.box.head.four
  obtain ⟨b0, b1, b2, b3, b4, b5, b6, b7, b8⟩ := hK.box.tail.head.four
  obtain ⟨a0, a1, a2, a3, a4, a5, a6, a7, a8⟩ := hK.box.tail.tail.head.four
  go_wp2_with fail
  refine (HB.out _).mono ?_
  rintro e w2 ⟨rfl, hb2⟩
  have hK2 := (hK.add2 _ _ _).keep hb2
  clear r0 r1 r2 r3 r4 r5 r6 r7 r8 b0 b1 b2 b3 b4 b5 b6 b7 b8 a0 a1 a2 a3 a4 a5 a6 a7 a8
  obtain ⟨k0, k1, k2, k3, k4⟩ := hK2.box.head.two
  obtain ⟨r0, r1, r2, r3, r4, r5, r6, r7, r8⟩ := hK2.box.tail.head.four
  obtain ⟨b0, b1, b2, b3, b4, b5, b6, b7, b8⟩ := hK2.box.tail.tail.head.four
  obtain ⟨a0, a1, a2, a3, a4, a5, a6, a7, a8⟩ := hK2.box.tail.tail.tail.head.four
  go_wp2_with fail
  exact bodyPost_ret (v := .tuple #[Vl ta tb ba bb, N 0]) (by simp [results, Try.results88, go_sem, r0, r1, r2, r3]) rfl ⟨rfl, (hK2.set4 1 rfl).bel⟩
set_option maxRecDepth 100000 in
set_option maxHeartbeats 1000000 in
theorem reckon_kind {op : Int} (hop : Hid (op < 2 ∨ 9 < op)) {v m l g v' m' l' g' : BitVec 64} (hr : Hid ((eqb (band v m) zero && eqb (band v' m') zero) = true)) (w : World) :
    Calls Try.prog 88 #[N op, Vl v m l g, Vl v' m' l' g'] w fun e w' => e = .returned (.tuple #[V0, N 4]) ∧ Below w.heap.size w w' := by
  have h8 : (op == 8) = false := by have := hop.out; simp; omega
  have h9 : (op == 9) = false := by have := hop.out; simp; omega
  have HT : Hid (∀ w, Calls Try.prog 28 #[N op, Bt v m, Bt v' m'] w fun e w' => e = .returned (.tuple #[Bt zero zero, N 4]) ∧ Below w.heap.size w w') := fun w => two_kind hr (by have := hop.out; omega) w
  go_enter Try.func88, Try.ntmps88
  go_wp2_with fail
  refine (HT.out _).mono ?_
  rintro e w1 ⟨rfl, hb1⟩
  have hK := ((((Kp.start w).add4 _ _ _ _ _).add4 _ _ _ _ _).add4 _ _ _ _ _).keep hb1
  simp only [World.size_alloc] at hK
  obtain ⟨r0, r1, r2, r3, r4, r5, r6, r7, r8⟩ := hK.box.head.four
  obtain ⟨b0, b1, b2, b3, b4, b5, b6, b7, b8⟩ := hK.box.tail.head.four
  obtain ⟨a0, a1, a2, a3, a4, a5, a6, a7, a8⟩ := hK.box.tail.tail.head.four
  go_wp2_with fail
  exact bodyPost_ret (v := .tuple #[V0, N 4]) (by simp [results, Try.results88, go_sem, nv_zero, r0, r1, r2, r3, r8]) rfl ⟨rfl, ((hK.set4 0 rfl).add2 _ _ _).bel⟩

end Go.Proofs.Ytglollajdjgciaa
