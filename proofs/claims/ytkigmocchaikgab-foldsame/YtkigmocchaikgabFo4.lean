import Derived.Test.YtkigmocchaikgabFo3
import Derived.Test.YtkigmocchaikgabFo1
import Derived.Test.YtkigmocchaikgabFo2
import Derived.Test.YtkigmocchaikgabProg
import Derived.OrdersIn
import Derived.RangeFuncWrites
import Derived.RangeFuncLeaves
import Derived.TacticsIn
/- The contracts of package calc's shift and reckon. -/
namespace Go.Proofs.Ytkigmocchaikgab
open Go.RowKit
attribute [local go_sem] w_and w_or w_xor w_andNot w_and1 w_and63 w_add w_sub w_mul w_sub1 w_add1 w_shl w_shl1 w_shr c_beq c_bne c_beq0 c_bne0 c_beq1 c_bne1 wrap_nv

set_option maxRecDepth 100000 in
set_option maxHeartbeats 1000000 in
theorem shift_wide8 {v m l g v' m' l' g' : BitVec 64} (ha : Hid (eqb l' g' = false)) (w : World) :
    Calls Try.prog 123 #[N 8, Vl v m l g, Vl v' m' l' g'] w fun e w' => e = .returned (Vl zero top zero top) ∧ Below w.heap.size w w' := by
  go_enter Try.func123, Try.ntmps123
  go_wp2_with fail
  refine (alone_is ha.out _).mono ?_
  rintro e w1 ⟨rfl, hb1⟩
  have hK := ((((Kp.start w).add4 _ _ _ _ _).add4 _ _ _ _ _).add4 _ _ _ _ _).keep hb1
  simp only [World.size_alloc] at hK
  obtain ⟨r0, r1, r2, r3, r4, r5, r6, r7, r8⟩ := hK.box.head.four
  obtain ⟨b0, b1, b2, b3, b4, b5, b6, b7, b8⟩ := hK.box.tail.head.four
  obtain ⟨a0, a1, a2, a3, a4, a5, a6, a7, a8⟩ := hK.box.tail.tail.head.four
  go_wp2_with fail
  exact bodyPost_ret (v := Vl zero top zero top) (by simp [results, Try.results123, go_sem, nv_zero, nv_top, r0, r1, r2, r3]) rfl ⟨rfl, (hK.set4 0 rfl).bel⟩
set_option maxRecDepth 100000 in
set_option maxHeartbeats 1000000 in
theorem shift_wide9 {v m l g v' m' l' g' : BitVec 64} (ha : Hid (eqb l' g' = false)) (w : World) :
    Calls Try.prog 123 #[N 9, Vl v m l g, Vl v' m' l' g'] w fun e w' => e = .returned (Vl zero top zero g) ∧ Below w.heap.size w w' := by
  go_enter Try.func123, Try.ntmps123
  go_wp2_with fail
  refine (alone_is ha.out _).mono ?_
  rintro e w1 ⟨rfl, hb1⟩
  have hK := ((((Kp.start w).add4 _ _ _ _ _).add4 _ _ _ _ _).add4 _ _ _ _ _).keep hb1
  simp only [World.size_alloc] at hK
  obtain ⟨r0, r1, r2, r3, r4, r5, r6, r7, r8⟩ := hK.box.head.four
  obtain ⟨b0, b1, b2, b3, b4, b5, b6, b7, b8⟩ := hK.box.tail.head.four
  obtain ⟨a0, a1, a2, a3, a4, a5, a6, a7, a8⟩ := hK.box.tail.tail.head.four
  go_wp2_with fail
  exact bodyPost_ret (v := Vl zero top zero g) (by simp [results, Try.results123, go_sem, nv_zero, nv_top, r0, r1, r2, r3]) rfl ⟨rfl, (hK.set4 0 rfl).bel⟩
set_option maxRecDepth 100000 in
set_option maxHeartbeats 1000000 in
theorem shift_one8 {v m l h v' m' l' h' : BitVec 64} (hr : Hid (eqb (band v m) zero = true)) (ha : Hid (eqb l' h' = true)) (w : World) :
    Calls Try.prog 123 #[N 8, Vl v m l h, Vl v' m' l' h'] w fun e w' => e = .returned (Vl (bshl v (six l')) (bshl m (six l')) (shlB l h (six l')).1 (shlB l h (six l')).2) ∧ Below w.heap.size w w' := by
  have h6 := six_nv l'
  have h7 := six_lt l'
  have HS : Hid (∀ w, Calls Try.prog 126 #[N 8, Bt v m, N (six l')] w fun e w' => e = .returned (.tuple #[Bt (bshl v (six l')) (bshl m (six l')), N 0]) ∧ Below w.heap.size w w') := fun w => shift_up hr h7 w
  have HB : Hid (∀ w, Calls Try.prog 127 #[N 8, Vl v m l h, U (band l' 63#64)] w fun e w' => e = .returned (.tuple #[U (shlB l h (six l')).1, U (shlB l h (six l')).2]) ∧ Below w.heap.size w w') := fun w => shiftBounds_shl v m l h l' w
  generalize shlB l h (six l') = S at HB ⊢
  obtain ⟨lo, hi⟩ := S
  generalize bshl v (six l') = sv at HS ⊢
  generalize bshl m (six l') = sm at HS ⊢
  go_enter Try.func123, Try.ntmps123
  go_wp2_with fail
  refine (alone_is ha.out _).mono ?_
  rintro e w1 ⟨rfl, hb1⟩
  have hK := ((((Kp.start w).add4 _ _ _ _ _).add4 _ _ _ _ _).add4 _ _ _ _ _).keep hb1
  simp only [World.size_alloc] at hK
  obtain ⟨r0, r1, r2, r3, r4, r5, r6, r7, r8⟩ := hK.box.head.four
  obtain ⟨b0, b1, b2, b3, b4, b5, b6, b7, b8⟩ := hK.box.tail.head.four
  obtain ⟨a0, a1, a2, a3, a4, a5, a6, a7, a8⟩ := hK.box.tail.tail.head.four
  go_wp2_with fail
  refine (HS.out _).mono ?_
  rintro e w2 ⟨rfl, hb2⟩
  have hK2 := hK.keep hb2
  clear r0 r1 r2 r3 r4 r5 r6 r7 r8 b0 b1 b2 b3 b4 b5 b6 b7 b8 a0 a1 a2 a3 a4 a5 a6 a7 a8
  obtain ⟨r0, r1, r2, r3, r4, r5, r6, r7, r8⟩ := hK2.box.head.four
  obtain ⟨b0, b1, b2, b3, b4, b5, b6, b7, b8⟩ := hK2.box.tail.head.four
  obtain ⟨a0, a1, a2, a3, a4, a5, a6, a7, a8⟩ := hK2.box.tail.tail.head.four
  go_wp2_with fail
  refine (HB.out _).mono ?_
  rintro e w3 ⟨rfl, hb3⟩
  have hK3 := (hK2.add2 _ _ _).keep hb3
  clear r0 r1 r2 r3 r4 r5 r6 r7 r8 b0 b1 b2 b3 b4 b5 b6 b7 b8 a0 a1 a2 a3 a4 a5 a6 a7 a8
  obtain ⟨s0, s1, s2, s3, s4⟩ := hK3.box.head.two
  obtain ⟨r0, r1, r2, r3, r4, r5, r6, r7, r8⟩ := hK3.box.tail.head.four
  obtain ⟨b0, b1, b2, b3, b4, b5, b6, b7, b8⟩ := hK3.box.tail.tail.head.four
  obtain ⟨a0, a1, a2, a3, a4, a5, a6, a7, a8⟩ := hK3.box.tail.tail.tail.head.four
  go_wp2_with fail
  exact bodyPost_ret (v := Vl sv sm lo hi) (by simp [results, Try.results123, go_sem, r0, r1, r2, r3]) rfl ⟨rfl, (hK3.set4 1 rfl).bel⟩
set_option maxRecDepth 100000 in
set_option maxHeartbeats 1000000 in
theorem shift_one9 {v m l h v' m' l' h' : BitVec 64} (hr : Hid (eqb (band v m) zero = true)) (ha : Hid (eqb l' h' = true)) (w : World) :
    Calls Try.prog 123 #[N 9, Vl v m l h, Vl v' m' l' h'] w fun e w' => e = .returned (Vl (bshr v (six l')) (bshr m (six l')) (bshr l (six l')) (bshr h (six l'))) ∧ Below w.heap.size w w' := by
  have h6 := six_nv l'
  have h7 := six_lt l'
  have HS : Hid (∀ w, Calls Try.prog 126 #[N 9, Bt v m, N (six l')] w fun e w' => e = .returned (.tuple #[Bt (bshr v (six l')) (bshr m (six l')), N 0]) ∧ Below w.heap.size w w') := fun w => shift_down hr h7 w
  have HB : Hid (∀ w, Calls Try.prog 127 #[N 9, Vl v m l h, U (band l' 63#64)] w fun e w' => e = .returned (.tuple #[U (bshr l (six l')), U (bshr h (six l'))]) ∧ Below w.heap.size w w') := fun w => shiftBounds_shr v m l h l' w
  generalize bshr l (six l') = lo at HB ⊢
  generalize bshr h (six l') = hi at HB ⊢
  generalize bshr v (six l') = sv at HS ⊢
  generalize bshr m (six l') = sm at HS ⊢
  go_enter Try.func123, Try.ntmps123
  go_wp2_with fail
  refine (alone_is ha.out _).mono ?_
  rintro e w1 ⟨rfl, hb1⟩
  have hK := ((((Kp.start w).add4 _ _ _ _ _).add4 _ _ _ _ _).add4 _ _ _ _ _).keep hb1
  simp only [World.size_alloc] at hK
  obtain ⟨r0, r1, r2, r3, r4, r5, r6, r7, r8⟩ := hK.box.head.four
  obtain ⟨b0, b1, b2, b3, b4, b5, b6, b7, b8⟩ := hK.box.tail.head.four
  obtain ⟨a0, a1, a2, a3, a4, a5, a6, a7, a8⟩ := hK.box.tail.tail.head.four
  go_wp2_with fail
  refine (HS.out _).mono ?_
  rintro e w2 ⟨rfl, hb2⟩
  have hK2 := hK.keep hb2
  clear r0 r1 r2 r3 r4 r5 r6 r7 r8 b0 b1 b2 b3 b4 b5 b6 b7 b8 a0 a1 a2 a3 a4 a5 a6 a7 a8
  obtain ⟨r0, r1, r2, r3, r4, r5, r6, r7, r8⟩ := hK2.box.head.four
  obtain ⟨b0, b1, b2, b3, b4, b5, b6, b7, b8⟩ := hK2.box.tail.head.four
  obtain ⟨a0, a1, a2, a3, a4, a5, a6, a7, a8⟩ := hK2.box.tail.tail.head.four
  go_wp2_with fail
  refine (HB.out _).mono ?_
  rintro e w3 ⟨rfl, hb3⟩
  have hK3 := (hK2.add2 _ _ _).keep hb3
  clear r0 r1 r2 r3 r4 r5 r6 r7 r8 b0 b1 b2 b3 b4 b5 b6 b7 b8 a0 a1 a2 a3 a4 a5 a6 a7 a8
  obtain ⟨s0, s1, s2, s3, s4⟩ := hK3.box.head.two
  obtain ⟨r0, r1, r2, r3, r4, r5, r6, r7, r8⟩ := hK3.box.tail.head.four
  obtain ⟨b0, b1, b2, b3, b4, b5, b6, b7, b8⟩ := hK3.box.tail.tail.head.four
  obtain ⟨a0, a1, a2, a3, a4, a5, a6, a7, a8⟩ := hK3.box.tail.tail.tail.head.four
  go_wp2_with fail
  exact bodyPost_ret (v := Vl sv sm lo hi) (by simp [results, Try.results123, go_sem, r0, r1, r2, r3]) rfl ⟨rfl, (hK3.set4 1 rfl).bel⟩

end Go.Proofs.Ytkigmocchaikgab

/- The contracts of package calc's reckon, checkAll and Two. -/
namespace Go.Proofs.Ytkigmocchaikgab
open Go.RowKit
attribute [local go_sem] w_and w_or w_xor w_andNot w_and1 w_and63 w_add w_sub w_mul w_sub1 w_add1 w_shl w_shl1 w_shr c_beq c_bne c_beq0 c_bne0 c_beq1 c_bne1 wrap_nv

def rk (op : Int) (v m l h v' m' l' h' : BitVec 64) : BitVec 64 × BitVec 64 × BitVec 64 × BitVec 64 :=
  if op = 8 then (if eqb l' h' then (bshl v (six l'), bshl m (six l'), (shlB l h (six l')).1, (shlB l h (six l')).2) else (zero, top, zero, top))
  else if op = 9 then (if eqb l' h' then (bshr v (six l'), bshr m (six l'), bshr l (six l'), bshr h (six l')) else (zero, top, zero, h))
  else ((twoP op v m v' m').1, (twoP op v m v' m').2, (boundsP op l h l' h').1, (boundsP op l h l' h').2)

theorem shift_is {op : Int} (hop : op = 8 ∨ op = 9) {v m l h : BitVec 64} (v' m' l' h' : BitVec 64) (hr : Hid (eqb (band v m) zero = true)) (w : World) :
    Calls Try.prog 123 #[N op, Vl v m l h, Vl v' m' l' h'] w fun e w' => e = .returned (Vl (rk op v m l h v' m' l' h').1 (rk op v m l h v' m' l' h').2.1 (rk op v m l h v' m' l' h').2.2.1 (rk op v m l h v' m' l' h').2.2.2) ∧ Below w.heap.size w w' := by
  rcases hop with rfl | rfl
  · cases ha : eqb l' h'
    · have e : rk 8 v m l h v' m' l' h' = (zero, top, zero, top) := by unfold rk; rw [if_pos rfl, ha]; rfl
      rw [e]; exact shift_wide8 ha w
    · have e : rk 8 v m l h v' m' l' h' = (bshl v (six l'), bshl m (six l'), (shlB l h (six l')).1, (shlB l h (six l')).2) := by unfold rk; rw [if_pos rfl, ha]; rfl
      rw [e]; exact shift_one8 hr ha w
  · cases ha : eqb l' h'
    · have e : rk 9 v m l h v' m' l' h' = (zero, top, zero, h) := by unfold rk; rw [if_neg (by decide), if_pos rfl, ha]; rfl
      rw [e]; exact shift_wide9 ha w
    · have e : rk 9 v m l h v' m' l' h' = (bshr v (six l'), bshr m (six l'), bshr l (six l'), bshr h (six l')) := by unfold rk; rw [if_neg (by decide), if_pos rfl, ha]; rfl
      rw [e]; exact shift_one9 hr ha w

set_option maxRecDepth 100000 in
set_option maxHeartbeats 1000000 in
theorem reckon_shift {op : Int} (hop : op = 8 ∨ op = 9) {v m l g : BitVec 64} (v' m' l' g' : BitVec 64) (hr : Hid (eqb (band v m) zero = true)) (w : World) :
    Calls Try.prog 120 #[N op, Vl v m l g, Vl v' m' l' g'] w fun e w' => e = .returned (.tuple #[Vl (rk op v m l g v' m' l' g').1 (rk op v m l g v' m' l' g').2.1 (rk op v m l g v' m' l' g').2.2.1 (rk op v m l g v' m' l' g').2.2.2, N 0]) ∧ Below w.heap.size w w' := by
  have HS : Hid (∀ w, Calls Try.prog 123 #[N op, Vl v m l g, Vl v' m' l' g'] w fun e w' => e = .returned (Vl (rk op v m l g v' m' l' g').1 (rk op v m l g v' m' l' g').2.1 (rk op v m l g v' m' l' g').2.2.1 (rk op v m l g v' m' l' g').2.2.2) ∧ Below w.heap.size w w') := fun w => shift_is hop v' m' l' g' hr w
  generalize rk op v m l g v' m' l' g' = S at HS ⊢
  obtain ⟨sa, sb, sc, sd⟩ := S
  rcases hop with rfl | rfl
  all_goals
    go_enter Try.func120, Try.ntmps120
    go_wp2_with fail
    refine (HS.out _).mono ?_
    rintro e w1 ⟨rfl, hb1⟩
    have hK := ((((Kp.start w).add4 _ _ _ _ _).add4 _ _ _ _ _).add4 _ _ _ _ _).keep hb1
    simp only [World.size_alloc] at hK
    obtain ⟨r0, r1, r2, r3, r4, r5, r6, r7, r8⟩ := hK.box.head.four
    obtain ⟨b0, b1, b2, b3, b4, b5, b6, b7, b8⟩ := hK.box.tail.head.four
    obtain ⟨a0, a1, a2, a3, a4, a5, a6, a7, a8⟩ := hK.box.tail.tail.head.four
    go_wp2_with fail
    exact bodyPost_ret (v := .tuple #[Vl sa sb sc sd, N 0]) (by simp [results, Try.results120, go_sem, r0, r1, r2, r3]) rfl ⟨rfl, (hK.set4 0 rfl).bel⟩
set_option maxRecDepth 100000 in
set_option maxHeartbeats 1000000 in
theorem reckon_two {op : Int} (hop : Hid (2 ≤ op ∧ op ≤ 7)) {v m l g v' m' l' g' : BitVec 64} (hr : Hid ((eqb (band v m) zero && eqb (band v' m') zero) = true)) (w : World) :
    Calls Try.prog 120 #[N op, Vl v m l g, Vl v' m' l' g'] w fun e w' => e = .returned (.tuple #[Vl (rk op v m l g v' m' l' g').1 (rk op v m l g v' m' l' g').2.1 (rk op v m l g v' m' l' g').2.2.1 (rk op v m l g v' m' l' g').2.2.2, N 0]) ∧ Below w.heap.size w w' := by
  have h8 : (op == 8) = false := by have := hop.out; simp; omega
  have h9 : (op == 9) = false := by have := hop.out; simp; omega
  have Hk : Hid (rk op v m l g v' m' l' g' = ((twoP op v m v' m').1, (twoP op v m v' m').2, (boundsP op l g l' g').1, (boundsP op l g l' g').2)) := by
    show _ = _
    unfold rk; rw [if_neg (by have := hop.out; omega), if_neg (by have := hop.out; omega)]
  rw [Hk.out]
  have HT : Hid (∀ w, Calls Try.prog 124 #[N op, Bt v m, Bt v' m'] w fun e w' => e = .returned (.tuple #[Bt (twoP op v m v' m').1 (twoP op v m v' m').2, N 0]) ∧ Below w.heap.size w w') := fun w => two_ok hr hop.out w
  have HB : Hid (∀ w, Calls Try.prog 125 #[N op, Vl v m l g, Vl v' m' l' g'] w fun e w' => e = .returned (.tuple #[U (boundsP op l g l' g').1, U (boundsP op l g l' g').2]) ∧ Below w.heap.size w w') := fun w => bounds_any hop v m l g v' m' l' g' w
  clear Hk
  generalize twoP op v m v' m' = T at HT ⊢
  generalize boundsP op l g l' g' = B at HB ⊢
  obtain ⟨ta, tb⟩ := T
  obtain ⟨ba, bb⟩ := B
  go_enter Try.func120, Try.ntmps120
  go_wp2_with fail
  refine (HT.out _).mono ?_
  rintro e w1 ⟨rfl, hb1⟩
  have hK := ((((Kp.start w).add4 _ _ _ _ _).add4 _ _ _ _ _).add4 _ _ _ _ _).keep hb1
  simp only [World.size_alloc] at hK
  obtain ⟨r0, r1, r2, r3, r4, r5, r6, r7, r8⟩ := hK.box.head.four
  obtain ⟨b0, b1, b2, b3, b4, b5, b6, b7, b8⟩ := hK.box.tail.head.four
  obtain ⟨a0, a1, a2, a3, a4, a5, a6, a7, a8⟩ := hK.box.tail.tail.head.four
  go_wp2_with fail
  refine (HB.out _).mono ?_
  rintro e w2 ⟨rfl, hb2⟩
  have hK2 := (hK.add2 _ _ _).keep hb2
  clear r0 r1 r2 r3 r4 r5 r6 r7 r8 b0 b1 b2 b3 b4 b5 b6 b7 b8 a0 a1 a2 a3 a4 a5 a6 a7 a8
  obtain ⟨k0, k1, k2, k3, k4⟩ := hK2.box.head.two
  obtain ⟨r0, r1, r2, r3, r4, r5, r6, r7, r8⟩ := hK2.box.tail.head.four
  obtain ⟨b0, b1, b2, b3, b4, b5, b6, b7, b8⟩ := hK2.box.tail.tail.head.four
  obtain ⟨a0, a1, a2, a3, a4, a5, a6, a7, a8⟩ := hK2.box.tail.tail.tail.head.four
  go_wp2_with fail
  exact bodyPost_ret (v := .tuple #[Vl ta tb ba bb, N 0]) (by simp [results, Try.results120, go_sem, r0, r1, r2, r3]) rfl ⟨rfl, (hK2.set4 1 rfl).bel⟩
end Go.Proofs.Ytkigmocchaikgab

/- The contracts of package calc's checkAll and Two. -/
namespace Go.Proofs.Ytkigmocchaikgab
open Go.RowKit
attribute [local go_sem] w_and w_or w_xor w_andNot w_and1 w_and63 w_add w_sub w_mul w_sub1 w_add1 w_shl w_shl1 w_shr c_beq c_bne c_beq0 c_bne0 c_beq1 c_bne1 wrap_nv

set_option maxRecDepth 100000 in
set_option maxHeartbeats 1000000 in
theorem vcheck2 {v m l g v' m' l' g' : BitVec 64} {r1 r2 : Bool} (h1 : Hid (valB v m l g = r1)) (h2 : Hid (valB v' m' l' g' = r2)) {b c : Nat} {w : World} (hbw : b < w.heap.size)
    (c0 : w.cell? ⟨b, 0, none⟩ = some (U v)) (c1 : w.cell? ⟨b, 1, none⟩ = some (U m)) (c2 : w.cell? ⟨b, 2, none⟩ = some (U l)) (c3 : w.cell? ⟨b, 3, none⟩ = some (U g))
    (c4 : w.cell? ⟨b, 4, none⟩ = some (U v')) (c5 : w.cell? ⟨b, 5, none⟩ = some (U m')) (c6 : w.cell? ⟨b, 6, none⟩ = some (U l')) (c7 : w.cell? ⟨b, 7, none⟩ = some (U g')) :
    Calls Try.prog 119 #[.slice (some ⟨b, 0, none⟩) 2 c] w fun e w' => e = .returned (N (er (r1 && r2))) ∧ Below w.heap.size w w' := by
  go_enter Try.func119, Try.ntmps119
  go_wp2_with fail
  refine wp_loop_rounds 3 ?_
  rw [rounds_succ]
  go_wp2_with fail
  refine (checkV h1.out _).mono ?_
  rintro e w1 ⟨rfl, hb1⟩
  obtain ⟨hc1, hf1, hs1⟩ := bk (b + 1) hb1 (by simp; omega)
  cases r1
  · rw [er_f]
    go_wp2_with fail
    go_ret
    exact ⟨rfl, (by repeat (first | exact Below.refl _ _ | assumption | refine below_drewN ?_ _ | refine Below.drew ?_ | refine Below.alloc ?_ (by first | exact Nat.le_refl _ | (simp; done) | (simp; omega) | omega) _ | refine Below.setCell ?_ (by first | exact Nat.le_refl _ | (simp; done) | (simp; omega) | omega) _ | refine Below.trans ?_ (Below.mono (by assumption) (by first | exact Nat.le_refl _ | (simp; done) | (simp; omega) | omega))))⟩
  · rw [er_t]
    go_wp2_with fail
    rw [rounds_succ]
    go_wp2_with fail
    refine (checkV h2.out _).mono ?_
    rintro e w2 ⟨rfl, hb2⟩
    have hz1 : w.heap.size ≤ w1.heap.size := Nat.le_trans (by simp) hb1.size
    cases r2
    · rw [er_f]
      go_wp2_with fail
      go_ret
      exact ⟨rfl, (by repeat (first | exact Below.refl _ _ | assumption | refine below_drewN ?_ _ | refine Below.drew ?_ | refine Below.alloc ?_ (by first | exact Nat.le_refl _ | (simp; done) | (simp; omega) | omega) _ | refine Below.setCell ?_ (by first | exact Nat.le_refl _ | (simp; done) | (simp; omega) | omega) _ | refine Below.trans ?_ (Below.mono (by assumption) (by first | exact Nat.le_refl _ | (simp; done) | (simp; omega) | omega))))⟩
    · rw [er_t]
      go_wp2_with fail
      rw [rounds_succ]
      go_wp2_with fail
      go_ret
      exact ⟨rfl, (by repeat (first | exact Below.refl _ _ | assumption | refine below_drewN ?_ _ | refine Below.drew ?_ | refine Below.alloc ?_ (by first | exact Nat.le_refl _ | (simp; done) | (simp; omega) | omega) _ | refine Below.setCell ?_ (by first | exact Nat.le_refl _ | (simp; done) | (simp; omega) | omega) _ | refine Below.trans ?_ (Below.mono (by assumption) (by first | exact Nat.le_refl _ | (simp; done) | (simp; omega) | omega))))⟩

theorem two_checked {v m l g v' m' l' g' : BitVec 64} (hr : (valB v m l g && valB v' m' l' g') = true) : (eqb (band v m) zero && eqb (band v' m') zero) = true := by
  rw [Bool.and_eq_true] at hr
  rw [(rt_iff _ _).2 (val_facts hr.1).1, (rt_iff _ _).2 (val_facts hr.2).1]; rfl
set_option maxRecDepth 100000 in
set_option maxHeartbeats 1000000 in
theorem calcTwo_none {op : Int}  {v m l g v' m' l' g' : BitVec 64} (hr : Hid ((valB v m l g && valB v' m' l' g') = true)) (hop : Hid (2 ≤ op ∧ op ≤ 9)) (hrr : Hid (eqb (band (rk op v m l g v' m' l' g').1 (rk op v m l g v' m' l' g').2.1) zero = true)) (ho : Hid (normOk (rk op v m l g v' m' l' g').1 (rk op v m l g v' m' l' g').2.1 (rk op v m l g v' m' l' g').2.2.1 (rk op v m l g v' m' l' g').2.2.2 = false)) (w : World) :
    Calls Try.prog 82 #[N op, Vl v m l g, Vl v' m' l' g'] w fun e w' => e = .returned (.tuple #[V0, N 0]) ∧ Below w.heap.size w w' := by
  obtain ⟨z1, H1⟩ : ∃ b, Hid (valB v m l g = b) := ⟨_, rfl⟩
  obtain ⟨z2, H2⟩ : ∃ b, Hid (valB v' m' l' g' = b) := ⟨_, rfl⟩
  have hb := two_checked hr.out
  have hb' := hb
  rw [Bool.and_eq_true] at hb'
  have HR : Hid (∀ w, Calls Try.prog 120 #[N op, Vl v m l g, Vl v' m' l' g'] w fun e w' => e = .returned (.tuple #[Vl (rk op v m l g v' m' l' g').1 (rk op v m l g v' m' l' g').2.1 (rk op v m l g v' m' l' g').2.2.1 (rk op v m l g v' m' l' g').2.2.2, N 0]) ∧ Below w.heap.size w w') := fun w => by
    by_cases h : op = 8 ∨ op = 9
    · exact reckon_shift h v' m' l' g' hb'.1 w
    · exact reckon_two (hid (by have := hop.out; omega)) hb w
  clear hb hb' hop
  generalize rk op v m l g v' m' l' g' = S at HR hrr ho ⊢
  obtain ⟨sa, sb, sc, sd⟩ := S
  dsimp only at HR hrr ho ⊢
  have HN : Hid (∀ w, Calls Try.prog 65 #[Vl sa sb sc sd] w fun e w' => e = .returned (.tuple #[V0, .bool false, N 0]) ∧ Below w.heap.size w w') := fun w => norm_none hrr ho w
  rw [H1.out, H2.out] at hr
  go_enter Try.func82, Try.ntmps82
  go_wp2_with fail
  refine (vcheck2 H1 H2 (by simp) (by simp [go_sem]) (by simp [go_sem]) (by simp [go_sem]) (by simp [go_sem]) (by simp [go_sem]) (by simp [go_sem]) (by simp [go_sem]) (by simp [go_sem])).mono ?_
  rw [hr.out, er_t]
  rintro e w1 ⟨rfl, hb1⟩
  have hK := (((((Kp.start w).add4 _ _ _ _ _).add4 _ _ _ _ _).add4 _ _ _ _ _).keep ((Below.refl _ _).alloc (Nat.le_refl _) _)).keep hb1
  simp only [World.size_alloc] at hK
  obtain ⟨r0, r1, r2, r3, r4, r5, r6, r7, r8⟩ := hK.box.head.four
  obtain ⟨b0, b1, b2, b3, b4, b5, b6, b7, b8⟩ := hK.box.tail.head.four
  obtain ⟨a0, a1, a2, a3, a4, a5, a6, a7, a8⟩ := hK.box.tail.tail.head.four
  go_wp2_with fail
  refine (HR.out _).mono ?_
  rintro e w2 ⟨rfl, hb2⟩
  have hK2 := hK.keep hb2
  clear r0 r1 r2 r3 r4 r5 r6 r7 r8 b0 b1 b2 b3 b4 b5 b6 b7 b8 a0 a1 a2 a3 a4 a5 a6 a7 a8
  obtain ⟨r0, r1, r2, r3, r4, r5, r6, r7, r8⟩ := hK2.box.head.four
  obtain ⟨b0, b1, b2, b3, b4, b5, b6, b7, b8⟩ := hK2.box.tail.head.four
  obtain ⟨a0, a1, a2, a3, a4, a5, a6, a7, a8⟩ := hK2.box.tail.tail.head.four
  go_wp2_with fail
  refine (HN.out _).mono ?_
  rintro e w3 ⟨rfl, hb3⟩
  have hK3 := (hK2.add4 _ _ _ _ _).keep hb3
  clear r0 r1 r2 r3 r4 r5 r6 r7 r8 b0 b1 b2 b3 b4 b5 b6 b7 b8 a0 a1 a2 a3 a4 a5 a6 a7 a8
  obtain ⟨k0, k1, k2, k3, k4, k5, k6, k7, k8⟩ := hK3.box.head.four
  obtain ⟨r0, r1, r2, r3, r4, r5, r6, r7, r8⟩ := hK3.box.tail.head.four
  obtain ⟨b0, b1, b2, b3, b4, b5, b6, b7, b8⟩ := hK3.box.tail.tail.head.four
  obtain ⟨a0, a1, a2, a3, a4, a5, a6, a7, a8⟩ := hK3.box.tail.tail.tail.head.four
  go_wp2_with fail
  exact bodyPost_ret (v := .tuple #[V0, N 0]) (by simp [results, Try.results82, go_sem, nv_zero, r0, r1, r2, r3, r8]) rfl ⟨rfl, ((hK3.set4 1 rfl).add4 _ _ _ _ _).bel⟩

set_option maxRecDepth 100000 in
set_option maxHeartbeats 1000000 in
theorem calcTwo_yes {op : Int}  {v m l g v' m' l' g' : BitVec 64} (hr : Hid ((valB v m l g && valB v' m' l' g') = true)) (hop : Hid (2 ≤ op ∧ op ≤ 9)) (hrr : Hid (eqb (band (rk op v m l g v' m' l' g').1 (rk op v m l g v' m' l' g').2.1) zero = true)) (ho : Hid (normOk (rk op v m l g v' m' l' g').1 (rk op v m l g v' m' l' g').2.1 (rk op v m l g v' m' l' g').2.2.1 (rk op v m l g v' m' l' g').2.2.2 = true)) (w : World) :
    Calls Try.prog 82 #[N op, Vl v m l g, Vl v' m' l' g'] w fun e w' => e = .returned (.tuple #[Vl (nV (rk op v m l g v' m' l' g').1 (rk op v m l g v' m' l' g').2.1 (rk op v m l g v' m' l' g').2.2.1 (rk op v m l g v' m' l' g').2.2.2) (nM (rk op v m l g v' m' l' g').2.1 (nLo (rk op v m l g v' m' l' g').1 (rk op v m l g v' m' l' g').2.1 (rk op v m l g v' m' l' g').2.2.1) (nHi (rk op v m l g v' m' l' g').1 (rk op v m l g v' m' l' g').2.1 (rk op v m l g v' m' l' g').2.2.2)) (nLo (rk op v m l g v' m' l' g').1 (rk op v m l g v' m' l' g').2.1 (rk op v m l g v' m' l' g').2.2.1) (nHi (rk op v m l g v' m' l' g').1 (rk op v m l g v' m' l' g').2.1 (rk op v m l g v' m' l' g').2.2.2), N 0]) ∧ Below w.heap.size w w' := by
  obtain ⟨z1, H1⟩ : ∃ b, Hid (valB v m l g = b) := ⟨_, rfl⟩
  obtain ⟨z2, H2⟩ : ∃ b, Hid (valB v' m' l' g' = b) := ⟨_, rfl⟩
  have hb := two_checked hr.out
  have hb' := hb
  rw [Bool.and_eq_true] at hb'
  have HR : Hid (∀ w, Calls Try.prog 120 #[N op, Vl v m l g, Vl v' m' l' g'] w fun e w' => e = .returned (.tuple #[Vl (rk op v m l g v' m' l' g').1 (rk op v m l g v' m' l' g').2.1 (rk op v m l g v' m' l' g').2.2.1 (rk op v m l g v' m' l' g').2.2.2, N 0]) ∧ Below w.heap.size w w') := fun w => by
    by_cases h : op = 8 ∨ op = 9
    · exact reckon_shift h v' m' l' g' hb'.1 w
    · exact reckon_two (hid (by have := hop.out; omega)) hb w
  clear hb hb' hop
  generalize rk op v m l g v' m' l' g' = S at HR hrr ho ⊢
  obtain ⟨sa, sb, sc, sd⟩ := S
  dsimp only at HR hrr ho ⊢
  have HN : Hid (∀ w, Calls Try.prog 65 #[Vl sa sb sc sd] w fun e w' => e = .returned (.tuple #[Vl (nV sa sb sc sd) (nM sb (nLo sa sb sc) (nHi sa sb sd)) (nLo sa sb sc) (nHi sa sb sd), .bool true, N 0]) ∧ Below w.heap.size w w') := fun w => norm_yes hrr ho w
  generalize nV sa sb sc sd = na at HN ⊢
  generalize nM sb (nLo sa sb sc) (nHi sa sb sd) = nb at HN ⊢
  generalize nLo sa sb sc = nc at HN ⊢
  generalize nHi sa sb sd = nd at HN ⊢
  rw [H1.out, H2.out] at hr
  go_enter Try.func82, Try.ntmps82
  go_wp2_with fail
  refine (vcheck2 H1 H2 (by simp) (by simp [go_sem]) (by simp [go_sem]) (by simp [go_sem]) (by simp [go_sem]) (by simp [go_sem]) (by simp [go_sem]) (by simp [go_sem]) (by simp [go_sem])).mono ?_
  rw [hr.out, er_t]
  rintro e w1 ⟨rfl, hb1⟩
  have hK := (((((Kp.start w).add4 _ _ _ _ _).add4 _ _ _ _ _).add4 _ _ _ _ _).keep ((Below.refl _ _).alloc (Nat.le_refl _) _)).keep hb1
  simp only [World.size_alloc] at hK
  obtain ⟨r0, r1, r2, r3, r4, r5, r6, r7, r8⟩ := hK.box.head.four
  obtain ⟨b0, b1, b2, b3, b4, b5, b6, b7, b8⟩ := hK.box.tail.head.four
  obtain ⟨a0, a1, a2, a3, a4, a5, a6, a7, a8⟩ := hK.box.tail.tail.head.four
  go_wp2_with fail
  refine (HR.out _).mono ?_
  rintro e w2 ⟨rfl, hb2⟩
  have hK2 := hK.keep hb2
  clear r0 r1 r2 r3 r4 r5 r6 r7 r8 b0 b1 b2 b3 b4 b5 b6 b7 b8 a0 a1 a2 a3 a4 a5 a6 a7 a8
  obtain ⟨r0, r1, r2, r3, r4, r5, r6, r7, r8⟩ := hK2.box.head.four
  obtain ⟨b0, b1, b2, b3, b4, b5, b6, b7, b8⟩ := hK2.box.tail.head.four
  obtain ⟨a0, a1, a2, a3, a4, a5, a6, a7, a8⟩ := hK2.box.tail.tail.head.four
  go_wp2_with fail
  refine (HN.out _).mono ?_
  rintro e w3 ⟨rfl, hb3⟩
  have hK3 := (hK2.add4 _ _ _ _ _).keep hb3
  clear r0 r1 r2 r3 r4 r5 r6 r7 r8 b0 b1 b2 b3 b4 b5 b6 b7 b8 a0 a1 a2 a3 a4 a5 a6 a7 a8
  obtain ⟨k0, k1, k2, k3, k4, k5, k6, k7, k8⟩ := hK3.box.head.four
  obtain ⟨r0, r1, r2, r3, r4, r5, r6, r7, r8⟩ := hK3.box.tail.head.four
  obtain ⟨b0, b1, b2, b3, b4, b5, b6, b7, b8⟩ := hK3.box.tail.tail.head.four
  obtain ⟨a0, a1, a2, a3, a4, a5, a6, a7, a8⟩ := hK3.box.tail.tail.tail.head.four
  go_wp2_with fail
  exact bodyPost_ret (v := .tuple #[Vl na nb nc nd, N 0]) (by simp [results, Try.results82, go_sem, r0, r1, r2, r3, r8]) rfl ⟨rfl, ((hK3.set4 1 rfl).add4 _ _ _ _ _).bel⟩

end Go.Proofs.Ytkigmocchaikgab

/- The contracts of package calc's between and without. -/
namespace Go.Proofs.Ytkigmocchaikgab
open Go.RowKit
attribute [local go_sem] w_and w_or w_xor w_andNot w_and1 w_and63 w_add w_sub w_mul w_sub1 w_add1 w_shl w_shl1 w_shr c_beq c_bne c_beq0 c_bne0 c_beq1 c_bne1 wrap_nv

set_option maxRecDepth 100000 in
set_option maxHeartbeats 1000000 in
theorem between_any (v m l g lo hi : BitVec 64) (w : World) :
    Calls Try.prog 117 #[Vl v m l g, U lo, U hi] w fun e w' => e = .returned (Vl v m (bmax l lo) (bmin g hi)) ∧ Below w.heap.size w w' := by
  by_cases h1 : nv l < nv lo <;> by_cases h2 : nv hi < nv g
  · have e1 : Hid (bmax l lo = lo) := if_pos h1
    have e2 : Hid (bmin g hi = hi) := if_pos h2
    rw [e1.out, e2.out]
    go_enter Try.func117, Try.ntmps117
    go_wp2_with fail
    exact bodyPost_ret (v := Vl v m lo hi) (by simp [results, Try.results117, go_sem]) rfl ⟨rfl, (by repeat (first | exact Below.refl _ _ | assumption | refine below_drewN ?_ _ | refine Below.drew ?_ | refine Below.alloc ?_ (by first | exact Nat.le_refl _ | (simp; done) | (simp; omega) | omega) _ | refine Below.setCell ?_ (by first | exact Nat.le_refl _ | (simp; done) | (simp; omega) | omega) _ | refine Below.trans ?_ (Below.mono (by assumption) (by first | exact Nat.le_refl _ | (simp; done) | (simp; omega) | omega))))⟩
  · have e1 : Hid (bmax l lo = lo) := if_pos h1
    have e2 : Hid (bmin g hi = g) := if_neg h2
    have h2' : nv g ≤ nv hi := by omega
    clear h2
    rw [e1.out, e2.out]
    go_enter Try.func117, Try.ntmps117
    go_wp2_with fail
    exact bodyPost_ret (v := Vl v m lo g) (by simp [results, Try.results117, go_sem]) rfl ⟨rfl, (by repeat (first | exact Below.refl _ _ | assumption | refine below_drewN ?_ _ | refine Below.drew ?_ | refine Below.alloc ?_ (by first | exact Nat.le_refl _ | (simp; done) | (simp; omega) | omega) _ | refine Below.setCell ?_ (by first | exact Nat.le_refl _ | (simp; done) | (simp; omega) | omega) _ | refine Below.trans ?_ (Below.mono (by assumption) (by first | exact Nat.le_refl _ | (simp; done) | (simp; omega) | omega))))⟩
  · have e1 : Hid (bmax l lo = l) := if_neg h1
    have e2 : Hid (bmin g hi = hi) := if_pos h2
    have h1' : nv lo ≤ nv l := by omega
    clear h1
    rw [e1.out, e2.out]
    go_enter Try.func117, Try.ntmps117
    go_wp2_with fail
    exact bodyPost_ret (v := Vl v m l hi) (by simp [results, Try.results117, go_sem]) rfl ⟨rfl, (by repeat (first | exact Below.refl _ _ | assumption | refine below_drewN ?_ _ | refine Below.drew ?_ | refine Below.alloc ?_ (by first | exact Nat.le_refl _ | (simp; done) | (simp; omega) | omega) _ | refine Below.setCell ?_ (by first | exact Nat.le_refl _ | (simp; done) | (simp; omega) | omega) _ | refine Below.trans ?_ (Below.mono (by assumption) (by first | exact Nat.le_refl _ | (simp; done) | (simp; omega) | omega))))⟩
  · have e1 : Hid (bmax l lo = l) := if_neg h1
    have e2 : Hid (bmin g hi = g) := if_neg h2
    have h1' : nv lo ≤ nv l := by omega
    have h2' : nv g ≤ nv hi := by omega
    clear h1 h2
    rw [e1.out, e2.out]
    go_enter Try.func117, Try.ntmps117
    go_wp2_with fail
    exact bodyPost_ret (v := Vl v m l g) (by simp [results, Try.results117, go_sem]) rfl ⟨rfl, (by repeat (first | exact Below.refl _ _ | assumption | refine below_drewN ?_ _ | refine Below.drew ?_ | refine Below.alloc ?_ (by first | exact Nat.le_refl _ | (simp; done) | (simp; omega) | omega) _ | refine Below.setCell ?_ (by first | exact Nat.le_refl _ | (simp; done) | (simp; omega) | omega) _ | refine Below.trans ?_ (Below.mono (by assumption) (by first | exact Nat.le_refl _ | (simp; done) | (simp; omega) | omega))))⟩

def woL (l l' h' : BitVec 64) : BitVec 64 := if eqb l' h' && eqb l l' then badd l one else l
def woH (l h l' h' : BitVec 64) : BitVec 64 := if eqb l' h' && (!eqb l l' && eqb h l') then bsub h one else h
set_option maxRecDepth 100000 in
set_option maxHeartbeats 1000000 in
theorem without_is (v m l g v' m' l' g' : BitVec 64) (w : World) :
    Calls Try.prog 114 #[Vl v m l g, Vl v' m' l' g'] w fun e w' => e = .returned (Vl v m (woL l l' g') (woH l g l' g')) ∧ Below w.heap.size w w' := by
  have H1 : Hid (woL l l' g' = if eqb l' g' && eqb l l' then badd l one else l) := rfl
  have H2 : Hid (woH l g l' g' = if eqb l' g' && (!eqb l l' && eqb g l') then bsub g one else g) := rfl
  obtain ⟨z1, ha⟩ : ∃ b, Hid (eqb l' g' = b) := ⟨_, rfl⟩
  obtain ⟨z2, hb⟩ : ∃ b, eqb l l' = b := ⟨_, rfl⟩
  obtain ⟨z3, hc⟩ : ∃ b, eqb g l' = b := ⟨_, rfl⟩
  rw [ha.out, hb] at H1
  rw [ha.out, hb, hc] at H2
  cases z1
  · rw [H1.out, H2.out]
    go_enter Try.func114, Try.ntmps114
    go_wp2_with fail
    refine (alone_is ha.out _).mono ?_
    rintro e w1 ⟨rfl, hb1⟩
    have hK := ((((Kp.start w).add4 _ _ _ _ _).add4 _ _ _ _ _).add4 _ _ _ _ _).keep hb1
    simp only [World.size_alloc] at hK
    obtain ⟨r0, r1, r2, r3, r4, r5, r6, r7, r8⟩ := hK.box.head.four
    obtain ⟨b0, b1, b2, b3, b4, b5, b6, b7, b8⟩ := hK.box.tail.head.four
    obtain ⟨a0, a1, a2, a3, a4, a5, a6, a7, a8⟩ := hK.box.tail.tail.head.four
    go_wp2_with fail
    exact bodyPost_ret (v := Vl v m l g) (by simp [results, Try.results114, go_sem, r0, r1, r2, r3]) rfl ⟨rfl, (hK.set4 0 rfl).bel⟩
  · cases z2
    · cases z3
      · rw [H1.out, H2.out]
        go_enter Try.func114, Try.ntmps114
        go_wp2_with fail
        refine (alone_is ha.out _).mono ?_
        rintro e w1 ⟨rfl, hb1⟩
        have hK := ((((Kp.start w).add4 _ _ _ _ _).add4 _ _ _ _ _).add4 _ _ _ _ _).keep hb1
        simp only [World.size_alloc] at hK
        obtain ⟨r0, r1, r2, r3, r4, r5, r6, r7, r8⟩ := hK.box.head.four
        obtain ⟨b0, b1, b2, b3, b4, b5, b6, b7, b8⟩ := hK.box.tail.head.four
        obtain ⟨a0, a1, a2, a3, a4, a5, a6, a7, a8⟩ := hK.box.tail.tail.head.four
        go_wp2_with fail
        exact bodyPost_ret (v := Vl v m l g) (by simp [results, Try.results114, go_sem, r0, r1, r2, r3]) rfl ⟨rfl, (hK.set4 0 rfl).bel⟩
      · rw [H1.out, H2.out]
        go_enter Try.func114, Try.ntmps114
        go_wp2_with fail
        refine (alone_is ha.out _).mono ?_
        rintro e w1 ⟨rfl, hb1⟩
        have hK := ((((Kp.start w).add4 _ _ _ _ _).add4 _ _ _ _ _).add4 _ _ _ _ _).keep hb1
        simp only [World.size_alloc] at hK
        obtain ⟨r0, r1, r2, r3, r4, r5, r6, r7, r8⟩ := hK.box.head.four
        obtain ⟨b0, b1, b2, b3, b4, b5, b6, b7, b8⟩ := hK.box.tail.head.four
        obtain ⟨a0, a1, a2, a3, a4, a5, a6, a7, a8⟩ := hK.box.tail.tail.head.four
        go_wp2_with fail
        refine bodyPost_ret (v := Vl v m l (bsub g one)) (by simp [results, Try.results114, go_sem, r0, r1, r2, r3]) rfl ⟨rfl, ?_⟩
        exact ((((hK.bel.setCell (by dsimp only; omega) _).setCell (by dsimp only; omega) _).setCell (by dsimp only; omega) _).setCell (by dsimp only; omega) _).setCell (by dsimp only; omega) _
    · rw [H1.out, H2.out]
      go_enter Try.func114, Try.ntmps114
      go_wp2_with fail
      refine (alone_is ha.out _).mono ?_
      rintro e w1 ⟨rfl, hb1⟩
      have hK := ((((Kp.start w).add4 _ _ _ _ _).add4 _ _ _ _ _).add4 _ _ _ _ _).keep hb1
      simp only [World.size_alloc] at hK
      obtain ⟨r0, r1, r2, r3, r4, r5, r6, r7, r8⟩ := hK.box.head.four
      obtain ⟨b0, b1, b2, b3, b4, b5, b6, b7, b8⟩ := hK.box.tail.head.four
      obtain ⟨a0, a1, a2, a3, a4, a5, a6, a7, a8⟩ := hK.box.tail.tail.head.four
      go_wp2_with fail
      refine bodyPost_ret (v := Vl v m (badd l one) g) (by simp [results, Try.results114, go_sem, r0, r1, r2, r3]) rfl ⟨rfl, ?_⟩
      exact ((((hK.bel.setCell (by dsimp only; omega) _).setCell (by dsimp only; omega) _).setCell (by dsimp only; omega) _).setCell (by dsimp only; omega) _).setCell (by dsimp only; omega) _

end Go.Proofs.Ytkigmocchaikgab

/- What the one has and the other has, reckoned together, is within what reckon answers; what is left of both has them: plain facts. -/
namespace Go.Proofs.Ytkigmocchaikgab

theorem has_facts {v m l h x : BitVec 64} (hx : hasV v m l h x = true) : valB v m l h = true ∧ RtB v m ∧ hasB v m x = true ∧ nv l ≤ nv x ∧ nv x ≤ nv h := by
  unfold hasV at hx
  simp only [Bool.and_eq_true, decide_eq_true_eq] at hx
  exact ⟨hx.1, (val_facts hx.1).1, hx.2.1, hx.2.2.1, hx.2.2.2⟩
theorem raw_mk {v m l h x : BitVec 64} (h1 : hasB v m x = true) (h2 : nv l ≤ nv x) (h3 : nv x ≤ nv h) : rawV v m l h x = true := by
  unfold rawV; rw [h1]; simp only [Bool.true_and, Bool.and_eq_true, decide_eq_true_eq]; exact ⟨h2, h3⟩
theorem top_has (x : BitVec 64) : RtB zero top ∧ hasB zero top x = true := by
  have hr : RtB zero top := zero_rt top
  refine ⟨hr, (hasB_iff _ _ _).2 ⟨hr, fun j hj => ?_⟩⟩
  rw [bit_top _ hj, bit_zero]; cases bit x j <;> rfl
theorem rk_sound {op : Int} (hop : 2 ≤ op ∧ op ≤ 9) {v m l h v' m' l' h' x y : BitVec 64} (hx : hasV v m l h x = true) (hy : hasV v' m' l' h' y = true) :
    RtB (rk op v m l h v' m' l' h').1 (rk op v m l h v' m' l' h').2.1 ∧ rawV (rk op v m l h v' m' l' h').1 (rk op v m l h v' m' l' h').2.1 (rk op v m l h v' m' l' h').2.2.1 (rk op v m l h v' m' l' h').2.2.2 (numN op x y) = true := by
  obtain ⟨_, r1, b1, p1, p2⟩ := has_facts hx
  obtain ⟨_, r2, b2, q1, q2⟩ := has_facts hy
  by_cases h8 : op = 8
  · subst h8
    have hn : numN 8 x y = bshl x (six y) := by unfold numN; rw [if_neg (by decide), if_neg (by decide), if_pos rfl]
    rw [hn]
    cases ha : eqb l' h'
    · have e : rk 8 v m l h v' m' l' h' = (zero, top, zero, top) := by unfold rk; rw [if_pos rfl, ha]; rfl
      rw [e]
      exact ⟨(top_has zero).1, raw_mk (top_has _).2 (ends _).1 (ends _).2⟩
    · have e : rk 8 v m l h v' m' l' h' = (bshl v (six l'), bshl m (six l'), (shlB l h (six l')).1, (shlB l h (six l')).2) := by unfold rk; rw [if_pos rfl, ha]; rfl
      have hl : y = l' := by
        have := (eqb_iff _ _).1 ha
        rw [← this] at q2
        exact nv_inj _ _ (by omega)
      rw [e, hl]
      exact ⟨shl_rt r1 _, raw_mk (sound_shl b1 _) (shl_bounds _ p1 p2).1 (shl_bounds _ p1 p2).2⟩
  · by_cases h9 : op = 9
    · subst h9
      have hn : numN 9 x y = bshr x (six y) := by unfold numN; rw [if_neg (by decide), if_neg (by decide), if_neg (by decide)]
      rw [hn]
      cases ha : eqb l' h'
      · have e : rk 9 v m l h v' m' l' h' = (zero, top, zero, h) := by unfold rk; rw [if_neg (by decide), if_pos rfl, ha]; rfl
        rw [e]
        exact ⟨(top_has zero).1, raw_mk (top_has _).2 (ends _).1 (Int.le_trans (shr_le _ _) p2)⟩
      · have e : rk 9 v m l h v' m' l' h' = (bshr v (six l'), bshr m (six l'), bshr l (six l'), bshr h (six l')) := by unfold rk; rw [if_neg (by decide), if_pos rfl, ha]; rfl
        have hl : y = l' := by
          have := (eqb_iff _ _).1 ha
          rw [← this] at q2
          exact nv_inj _ _ (by omega)
        rw [e, hl]
        have hs := sound_shr b1 (six l')
        exact ⟨((hasB_iff _ _ _).1 hs).1, raw_mk hs (shr_bounds _ p1 p2).1 (shr_bounds _ p1 p2).2⟩
    · have h27 : 2 ≤ op ∧ op ≤ 7 := by omega
      have hn : numN op x y = numB op x y := by unfold numN; rw [if_neg (by omega), if_pos h27]
      have e : rk op v m l h v' m' l' h' = ((twoP op v m v' m').1, (twoP op v m v' m').2, (boundsP op l h l' h').1, (boundsP op l h l' h').2) := by
        unfold rk; rw [if_neg h8, if_neg h9]
      rw [hn, e]
      exact ⟨two_rt h27, raw_mk (sound_two h27 b1 b2) (bounds_sound h27 p1 p2 q1 q2).1 (bounds_sound h27 p1 p2 q1 q2).2⟩

/- Equal -/
theorem left_equal {v m l h v' m' l' h' x : BitVec 64} (hx : hasV v m l h x = true) (hy : hasV v' m' l' h' x = true) :
    eqb (bandn (bxor v v') (bor m m')) zero = true ∧ RtB (bor v v') (band m m') ∧ rawV (bor v v') (band m m') (bmax l l') (bmin h h') x = true := by
  obtain ⟨_, r1, b1, p1, p2⟩ := has_facts hx
  obtain ⟨_, r2, b2, q1, q2⟩ := has_facts hy
  have hs := sound_meet (x := x) r1 r2
  rw [b1, b2] at hs
  have hs' := hs.symm
  rw [Bool.and_self, Bool.and_eq_true] at hs'
  exact ⟨hs'.1, ((hasB_iff _ _ _).1 hs'.2).1, raw_mk hs'.2 (bmax_le p1 q1) (le_bmin p2 q2)⟩
/- Other -/
theorem alone_eq {l h y : BitVec 64} (ha : eqb l h = true) (h1 : nv l ≤ nv y) (h2 : nv y ≤ nv h) : y = l := by
  have := (eqb_iff _ _).1 ha
  rw [← this] at h2
  exact nv_inj _ _ (by omega)
theorem left_other {v m l h v' m' l' h' x y : BitVec 64} (hx : hasV v m l h x = true) (hy : hasV v' m' l' h' y = true) (hne : x ≠ y) : rawV v m (woL l l' h') (woH l h l' h') x = true := by
  obtain ⟨_, r1, b1, p1, p2⟩ := has_facts hx
  obtain ⟨_, r2, b2, q1, q2⟩ := has_facts hy
  have hnv : nv x ≠ nv y := fun e => hne (nv_inj _ _ e)
  have hlt := nv_lt x
  have hge := nv_nonneg x
  have hgl := nv_nonneg l
  have hlh := nv_lt h
  refine raw_mk b1 ?_ ?_
  · unfold woL
    split
    · rename_i hc
      rw [Bool.and_eq_true] at hc
      have e1 := alone_eq hc.1 q1 q2
      have e2 := (eqb_iff _ _).1 hc.2
      rw [e1, ← e2] at hnv
      rw [nv_add, nv_one]
      omega
    · exact p1
  · unfold woH
    split
    · rename_i hc
      rw [Bool.and_eq_true, Bool.and_eq_true] at hc
      have e1 := alone_eq hc.1 q1 q2
      have e2 := (eqb_iff _ _).1 hc.2.2
      rw [e1, ← e2] at hnv
      rw [nv_sub, nv_one]
      omega
    · exact p2
theorem may_other {v m l h v' m' l' h' x y : BitVec 64} (hx : hasV v m l h x = true) (hy : hasV v' m' l' h' y = true) (hne : x ≠ y) : (eqb l h && (eqb l' h' && eqb l l')) = false := by
  obtain ⟨_, r1, b1, p1, p2⟩ := has_facts hx
  obtain ⟨_, r2, b2, q1, q2⟩ := has_facts hy
  cases hc : (eqb l h && (eqb l' h' && eqb l l'))
  · rfl
  · exfalso
    rw [Bool.and_eq_true, Bool.and_eq_true] at hc
    have e1 := alone_eq hc.1 p1 p2
    have e2 := alone_eq hc.2.1 q1 q2
    have e3 := (eqb_iff _ _).1 hc.2.2
    exact hne (by rw [e1, e2, e3])
/- Less -/
theorem left_less {v m l h v' m' l' h' x y : BitVec 64} (hx : hasV v m l h x = true) (hy : hasV v' m' l' h' y = true) (hlt : nv x < nv y) :
    eqb h' zero = false ∧ eqb l top = false ∧ rawV v m (bmax l l) (bmin h (bsub h' one)) x = true ∧ rawV v' m' (bmax l' (badd l one)) (bmin h' h') y = true := by
  obtain ⟨_, r1, b1, p1, p2⟩ := has_facts hx
  obtain ⟨_, r2, b2, q1, q2⟩ := has_facts hy
  have hx0 := nv_nonneg x
  have hy1 := nv_lt y
  have hl0 := nv_nonneg l
  have hh := nv_lt h'
  refine ⟨?_, ?_, raw_mk b1 (bmax_le p1 p1) (le_bmin p2 ?_), raw_mk b2 (bmax_le q1 ?_) (le_bmin q2 q2)⟩
  · rw [eqb_false]
    intro e
    rw [e, nv_zero] at q2
    omega
  · rw [eqb_false]
    intro e
    rw [e, nv_top] at p1
    omega
  · rw [nv_sub, nv_one]; omega
  · rw [nv_add, nv_one]; omega
/- NotLess -/
theorem left_notLess {v m l h v' m' l' h' x y : BitVec 64} (hx : hasV v m l h x = true) (hy : hasV v' m' l' h' y = true) (hle : nv y ≤ nv x) :
    rawV v m (bmax l l') (bmin h h) x = true ∧ rawV v' m' (bmax l' l') (bmin h' h) y = true := by
  obtain ⟨_, r1, b1, p1, p2⟩ := has_facts hx
  obtain ⟨_, r2, b2, q1, q2⟩ := has_facts hy
  exact ⟨raw_mk b1 (bmax_le p1 (by omega)) (le_bmin p2 p2), raw_mk b2 (bmax_le q1 q1) (le_bmin q2 (by omega))⟩

end Go.Proofs.Ytkigmocchaikgab

/- Values and reckoning with them, as plain functions. -/
namespace Go.Proofs.Ytkigmocchaikgab

structure V4 where
  v : BitVec 64
  m : BitVec 64
  l : BitVec 64
  h : BitVec 64
theorem V4.ext' {a b : V4} (h1 : a.v = b.v) (h2 : a.m = b.m) (h3 : a.l = b.l) (h4 : a.h = b.h) : a = b := by cases a; cases b; simp_all
def V4.cs (a : V4) : List AC := [.u a.v, .u a.m, .u a.l, .u a.h]
def V4.z : V4 := ⟨zero, zero, zero, zero⟩
def V4.rt (a : V4) : Bool := eqb (band a.v a.m) zero
def V4.ok (a : V4) : Bool := valB a.v a.m a.l a.h
def V4.nok (a : V4) : Bool := normOk a.v a.m a.l a.h
def V4.nrm (a : V4) : V4 := ⟨nV a.v a.m a.l a.h, nM a.m (nLo a.v a.m a.l) (nHi a.v a.m a.h), nLo a.v a.m a.l, nHi a.v a.m a.h⟩
def V4.norm (a : V4) : V4 := if a.nok then a.nrm else V4.z
def V4.has (a : V4) (x : BitVec 64) : Bool := hasV a.v a.m a.l a.h x
def V4.of (x : BitVec 64) : V4 := ⟨x, zero, x, x⟩
def V4.any : V4 := ⟨zero, top, zero, top⟩
def V4.alone (a : V4) : Bool := eqb a.l a.h
def V4.rawJoin (a b : V4) : V4 := ⟨jV a.v a.m b.v b.m, jM a.v a.m b.v b.m, bmin a.l b.l, bmax a.h b.h⟩
def V4.join (a b : V4) : V4 := (a.rawJoin b).nrm
def V4.raw2 (op : Int) (a b : V4) : V4 :=
  ⟨(rk op a.v a.m a.l a.h b.v b.m b.l b.h).1, (rk op a.v a.m a.l a.h b.v b.m b.l b.h).2.1, (rk op a.v a.m a.l a.h b.v b.m b.l b.h).2.2.1, (rk op a.v a.m a.l a.h b.v b.m b.l b.h).2.2.2⟩
def V4.two (op : Int) (a b : V4) : V4 := (V4.raw2 op a b).norm
def lvV (p : Bool) (a : V4) : V4 := if p then a else V4.z
def left2 (may : Bool) (x y : V4) : V4 × V4 × Bool := (lvV (may && (x.nok && y.nok)) x.nrm, lvV (may && (x.nok && y.nok)) y.nrm, may && (x.nok && y.nok))
def V4.meets (a b : V4) : Bool := eqb (bandn (bxor a.v b.v) (bor a.m b.m)) zero
def V4.rawEqual (a b : V4) : V4 := ⟨bor a.v b.v, band a.m b.m, bmax a.l b.l, bmin a.h b.h⟩
def V4.equal (a b : V4) : V4 × V4 × Bool := if a.meets b then left2 true (a.rawEqual b) (a.rawEqual b) else (V4.z, V4.z, false)
def V4.without (a b : V4) : V4 := ⟨a.v, a.m, woL a.l b.l b.h, woH a.l a.h b.l b.h⟩
def V4.other (a b : V4) : V4 × V4 × Bool := left2 (!(a.alone && (b.alone && eqb a.l b.l))) (a.without b) (b.without a)
def V4.less (a b : V4) : V4 × V4 × Bool :=
  if eqb b.h zero || eqb a.l top then (V4.z, V4.z, false)
  else left2 true ⟨a.v, a.m, a.l, bmin a.h (bsub b.h one)⟩ ⟨b.v, b.m, bmax b.l (badd a.l one), b.h⟩
def V4.notLess (a b : V4) : V4 × V4 × Bool := left2 true ⟨a.v, a.m, bmax a.l b.l, a.h⟩ ⟨b.v, b.m, b.l, bmin b.h a.h⟩
def byteTop (n : Int) : BitVec 64 := if n = 8 then top else if n = 4 then 4294967295#64 else if n = 2 then 65535#64 else 255#64
def V4.bytes (n : Int) : V4 := ⟨zero, byteTop n, zero, byteTop n⟩

theorem bmax_self (x : BitVec 64) : bmax x x = x := by unfold bmax; split <;> rfl
theorem bmin_self (x : BitVec 64) : bmin x x = x := by unfold bmin; split <;> rfl
end Go.Proofs.Ytkigmocchaikgab

/- States of what may be, as plain functions. -/
namespace Go.Proofs.Ytkigmocchaikgab

structure St where
  live : Bool
  s : V6 Bool
  r : V6 V4
def St.cs (t : St) : List AC := [.b t.live, .b t.s.x0, .b t.s.x1, .b t.s.x2, .b t.s.x3, .b t.s.x4, .b t.s.x5,
  .u t.r.x0.v, .u t.r.x0.m, .u t.r.x0.l, .u t.r.x0.h, .u t.r.x1.v, .u t.r.x1.m, .u t.r.x1.l, .u t.r.x1.h, .u t.r.x2.v, .u t.r.x2.m, .u t.r.x2.l, .u t.r.x2.h,
  .u t.r.x3.v, .u t.r.x3.m, .u t.r.x3.l, .u t.r.x3.h, .u t.r.x4.v, .u t.r.x4.m, .u t.r.x4.l, .u t.r.x4.h, .u t.r.x5.v, .u t.r.x5.m, .u t.r.x5.l, .u t.r.x5.h]
def St.z : St := ⟨false, no6, V6.rep V4.z⟩
def St.e : St := ⟨true, no6, V6.rep V4.z⟩
/- what is wrong with a register; a state that is right -/
def badR (t : St) (j : Nat) : Bool := bif t.s.get j then !(t.r.get j).ok else !eqCs (t.r.get j).cs V4.z.cs
def St.ok (t : St) : Bool := (t.live || eqCs t.cs St.z.cs) && !anyFrom (badR t) 6
def St.wth (t : St) (d : Nat) (a : V4) : St := ⟨t.live, t.s.set d true, t.r.set d a⟩
def beginS : St := St.e.wth 1 V4.any
/- a register that the machine's is not one of -/
def lackR (t : St) (m : Mach) (j : Nat) : Bool := t.s.get j && !(m.s.get j && (t.r.get j).has (m.r.get j))
def St.has (t : St) (m : Mach) : Bool := t.ok && (t.live && (decide (machErr m = 0) && (decide (m.fin = 0) && !anyFrom (lackR t m) 6)))
def joinR (t u : St) (j : Nat) (b : St) : St := if t.s.get j && u.s.get j then b.wth j ((t.r.get j).join (u.r.get j)) else b
def joinFrom (t u : St) : Nat → St → St
  | 0, b => b
  | n + 1, b => joinFrom t u n (joinR t u (5 - n) b)
def St.join (t u : St) : St := if t.live then (if u.live then joinFrom t u 6 St.e else t) else u

/- a step, on what may be -/
def exitI : Ins := ⟨15, 0, 0, 0#64, 0⟩
def fineI (i : Ins) : Bool := kindB i && (inB i 65 && bareB i)
def srcV (i : Ins) (t : St) : V4 := if i.s = -1 then V4.of i.im else t.r.get i.s.toNat
def farS (i : Ins) (a : V4) : Bool := decide (nv (bsub 64#64 i.im) < nv (V4.two 2 a (V4.of (BitVec.ofInt 64 i.of))).h)
def trapS (i : Ins) (t : St) : Int :=
  if lacks (useOf i) t.s then 1
  else if i.op = 10 then (if farS i (t.r.get i.s.toNat) then 2 else 0)
  else if i.op = 11 then (if farS i (t.r.get i.d.toNat) then 2 else 0)
  else 0
def leftS (i : Ins) (t : St) (x : V4 × V4 × Bool) : St :=
  if x.2.2 then (if i.s = -1 then t.wth i.d.toNat x.1 else (t.wth i.d.toNat x.1).wth i.s.toNat x.2.1) else St.z
def goS (i : Ins) (t : St) : St × St :=
  if i.op = 10 then (t.wth i.d.toNat (V4.bytes (nv i.im)), St.z)
  else if i.op = 11 then (t, St.z)
  else if i.op = 12 then (St.z, t)
  else if i.op = 13 then (leftS i t ((t.r.get i.d.toNat).other (srcV i t)), leftS i t ((t.r.get i.d.toNat).equal (srcV i t)))
  else if i.op = 14 then (leftS i t ((t.r.get i.d.toNat).notLess (srcV i t)), leftS i t ((t.r.get i.d.toNat).less (srcV i t)))
  else if i.op = 15 then (St.z, St.z)
  else if i.op = 1 then (t.wth i.d.toNat (srcV i t), St.z)
  else (t.wth i.d.toNat (V4.two i.op (t.r.get i.d.toNat) (srcV i t)), St.z)
def stepS (i : Ins) (t : St) : St × St × Int :=
  if t.live then (if trapS i t = 0 then ((goS i t).1, (goS i t).2, 0) else (St.z, St.z, trapS i t)) else (St.z, St.z, 0)
def stepE (i : Ins) (t : St) : Int := if fineI i && t.ok then 0 else 1
def stepA (i : Ins) (t : St) : St × St × Int := if fineI i && t.ok then stepS i t else (St.z, St.z, 0)

theorem st_len (t : St) : t.cs.length = 31 := rfl
theorem st_get_r {t : St} {r : Int} (h : regB r = true) : List.take 4 (List.drop (7 + r.toNat * 4) t.cs) = (t.r.get r.toNat).cs :=
  reg_elim (P := fun r => List.take 4 (List.drop (7 + r.toNat * 4) t.cs) = (t.r.get r.toNat).cs) h rfl rfl rfl rfl rfl rfl
theorem st_set_s {t : St} {r : Int} (h : regB r = true) : t.cs.set (1 + r.toNat * 1) (.b true) = (St.mk t.live (t.s.set r.toNat true) t.r).cs :=
  reg_elim (P := fun r => t.cs.set (1 + r.toNat * 1) (.b true) = (St.mk t.live (t.s.set r.toNat true) t.r).cs) h rfl rfl rfl rfl rfl rfl
theorem st_set_r {t : St} {r : Int} (a : V4) (h : regB r = true) : splice t.cs (7 + r.toNat * 4) a.cs = (St.mk t.live t.s (t.r.set r.toNat a)).cs :=
  reg_elim (P := fun r => splice t.cs (7 + r.toNat * 4) a.cs = (St.mk t.live t.s (t.r.set r.toNat a)).cs) h rfl rfl rfl rfl rfl rfl
end Go.Proofs.Ytkigmocchaikgab

/- Verifying, folding and ridding, as plain functions. -/
namespace Go.Proofs.Ytkigmocchaikgab

structure Rep where
  trap : Int
  pos : Int
  sts : List St
def scell (l : List St) : List AC := l.flatMap St.cs
def stAt (S : List St) (k : Nat) : St := S.getD k St.z
def addS (S : List St) (k : Nat) (t : St) : List St := if t.live then S.set k ((stAt S k).join t) else S
def verL (L : List Ins) : Nat → Nat → List St → Rep
  | 0, _, S => ⟨0, 0, S⟩
  | n + 1, k, S => if (stepS (elt L k) (stAt S k)).2.2 = 0 then verL L n (k + 1) (addS (addS S (k + 1) (stepS (elt L k) (stAt S k)).1) (k + 1 + (elt L k).of.toNat) (stepS (elt L k) (stAt S k)).2.1)
    else ⟨(stepS (elt L k) (stAt S k)).2.2, k, S.take (k + 1)⟩
def firstS (n : Nat) : List St := (List.replicate n St.z).set 0 beginS
def verifyS (L : List Ins) : Rep := verL L L.length 0 (firstS L.length)
/- folding -/
def onI : Ins := ⟨12, 0, 0, 0#64, 0⟩
def branchB (i : Ins) : Bool := i.op == 13 || i.op == 14
def foldI (i : Ins) (t : St) : Ins :=
  if t.live then
    (if decide (i.op ≤ 9) && ((stepS i t).1.r.get i.d.toNat).alone then ⟨1, i.d, -1, ((stepS i t).1.r.get i.d.toNat).l, 0⟩
    else if branchB i && !(stepS i t).2.1.live then onI
    else if branchB i && !(stepS i t).1.live then ⟨12, 0, 0, 0#64, i.of⟩
    else i)
  else onI
def foldL (S : List St) : List Ins → Nat → List Ins
  | [], _ => []
  | [i], _ => [i]
  | i :: j :: l, k => foldI i (stAt S k) :: foldL S (j :: l) (k + 1)
def foldS (L : List Ins) : List Ins := if (verifyS L).trap = 0 then foldL (verifyS L).sts L 0 else L
/- ridding, from behind -/
def orS (a b : V6 Bool) : V6 Bool := ⟨a.x0 || b.x0, a.x1 || b.x1, a.x2 || b.x2, a.x3 || b.x3, a.x4 || b.x4, a.x5 || b.x5⟩
def lvAt (A : List (V6 Bool)) (k : Nat) : V6 Bool := A.getD k no6
/- what is live behind i, if A is what is live ahead of those behind it -/
def liveB (i : Ins) (A : List (V6 Bool)) : V6 Bool :=
  if i.op = 15 then no6 else if i.op = 12 then lvAt A i.of.toNat else if branchB i then orS (lvAt A 0) (lvAt A i.of.toNat) else lvAt A 0
def deadI (i : Ins) (b : V6 Bool) : Ins := if decide (i.op ≤ 10) && !b.get i.d.toNat then onI else i
def liveA (i : Ins) (b : V6 Bool) : V6 Bool := orS (useOf i) (if i.op ≤ 10 then b.set i.d.toNat false else b)
def ridR : List Ins → List Ins × List (V6 Bool)
  | [] => ([], [])
  | i :: l => (deadI i (liveB i (ridR l).2) :: (ridR l).1, liveA (deadI i (liveB i (ridR l).2)) (liveB i (ridR l).2) :: (ridR l).2)
def deadS (L : List Ins) : List Ins := if (verifyS L).trap = 0 then (ridR L).1 else L

def rcell (A : List (V6 Bool)) : List AC := A.flatMap bcs
/- the laws' program of which much is known; folded; rid of what is dead then -/
def fL : List Ins := [⟨1, 2, -1, 5#64, 0⟩, ⟨5, 1, -1, 3#64, 0⟩, ⟨14, 1, 2, 0#64, 1⟩, ⟨1, 1, -1, 9#64, 0⟩, ⟨1, 0, 2, 0#64, 0⟩, ⟨15, 0, 0, 0#64, 0⟩]
def fF : List Ins := [⟨1, 2, -1, 5#64, 0⟩, ⟨5, 1, -1, 3#64, 0⟩, ⟨12, 0, 0, 0#64, 1⟩, onI, ⟨1, 0, -1, 5#64, 0⟩, ⟨15, 0, 0, 0#64, 0⟩]
def fD : List Ins := [onI, onI, ⟨12, 0, 0, 0#64, 1⟩, onI, ⟨1, 0, -1, 5#64, 0⟩, ⟨15, 0, 0, 0#64, 0⟩]
end Go.Proofs.Ytkigmocchaikgab

/- Ways of bodies, written by a program (ways.py): what each asks for, and hands back. -/
namespace Go.Proofs.Ytkigmocchaikgab
open Go.RowKit

theorem foF_w0 {L : List Ins} {L2 : List Ins} {c : Nat} {p : Nat} {w : World} {β : Bs} {n : Nat} (c0 : CallOK Try.prog (CallRec.mk 50 [AV.c (AC.sl 0 0 p c), AV.c (AC.f 51 [])] [(0, Ent.mk false (pcell L) 0)] (Eff.mk (AV.tu [AT.c (AC.sx 4 p), AT.c (AC.i 0)]) [] (some (4, Ent.mk true (pcell L2) 0))))) (hk : EKeys n [] (some 4) ⟨AV.tu [AT.c (AC.sx 4 p), AT.c (AC.i 0)], [], some (4, Ent.mk true (pcell L2) 0)⟩) :
    ART Try.prog 26 (cx w β n []) Try.f26.ntmps ([Item.code (bodyOf Try.f26)]) (Kn.start [AV.c (AC.sl 0 0 p c)] [(0, Ent.mk false (pcell L) 0)] 1) (REff w β ⟨AV.tu [AT.c (AC.sx 4 p), AT.c (AC.i 0)], [], some (4, Ent.mk true (pcell L2) 0)⟩) :=
  run_eff [] (some 4) 2000 [Eff.mk (AV.tu [AT.c (AC.sx 4 p), AT.c (AC.i 0)]) [] (some (4, Ent.mk true (pcell L2) 0))] [] ([]) [] Try.func26 hk (by kernel_rfl) rfl (cr_cons c0 cr_nil)
theorem foD_w0 {L : List Ins} {L2 : List Ins} {c : Nat} {p : Nat} {w : World} {β : Bs} {n : Nat} (c0 : CallOK Try.prog (CallRec.mk 50 [AV.c (AC.sl 0 0 p c), AV.c (AC.f 53 [])] [(0, Ent.mk false (pcell L) 0)] (Eff.mk (AV.tu [AT.c (AC.sx 4 p), AT.c (AC.i 0)]) [] (some (4, Ent.mk true (pcell L2) 0))))) (hk : EKeys n [] (some 4) ⟨AV.tu [AT.c (AC.sx 4 p), AT.c (AC.i 0)], [], some (4, Ent.mk true (pcell L2) 0)⟩) :
    ART Try.prog 27 (cx w β n []) Try.f27.ntmps ([Item.code (bodyOf Try.f27)]) (Kn.start [AV.c (AC.sl 0 0 p c)] [(0, Ent.mk false (pcell L) 0)] 1) (REff w β ⟨AV.tu [AT.c (AC.sx 4 p), AT.c (AC.i 0)], [], some (4, Ent.mk true (pcell L2) 0)⟩) :=
  run_eff [] (some 4) 2000 [Eff.mk (AV.tu [AT.c (AC.sx 4 p), AT.c (AC.i 0)]) [] (some (4, Ent.mk true (pcell L2) 0))] [] ([]) [] Try.func27 hk (by kernel_rfl) rfl (cr_cons c0 cr_nil)
theorem d1_w0 {L : List Ins} {L2 : List Ins} {S : List St} {p : Nat} {w : World} {β : Bs} {n : Nat} (c0 : CallOK Try.prog (CallRec.mk 54 [AV.c (AC.sx 0 p)] [(0, Ent.mk true (pcell L) 5)] (Eff.mk (AV.tu []) [(0, pcell L2)] none))) (hk : EKeys n [0] (none) ⟨AV.tu [], [(0, pcell L2)], none⟩) :
    ART Try.prog 53 (cx w β n [0]) Try.f53.ntmps ([Item.code (bodyOf Try.f53)]) (Kn.start [AV.c (AC.sx 0 p), AV.c (AC.sl 1 0 p p)] [(0, Ent.mk true (pcell L) 5), (1, Ent.mk false (scell S) 0)] 2) (REff w β ⟨AV.tu [], [(0, pcell L2)], none⟩) :=
  run_eff [0] (none) 2000 [Eff.mk (AV.tu []) [(0, pcell L2)] none] [] ([]) [] Try.func53 hk (by kernel_rfl) rfl (cr_cons c0 cr_nil)
theorem folding_w0 {w : World} {β : Bs} {n : Nat} (hk : EKeys n [] (some 7) ⟨AV.c (AC.sl 7 0 6 6), [], some (7, Ent.mk true (splice (splice (splice (splice (splice (splice (rows 6 [AC.i 0, AC.i 0, AC.i 0, AC.u 0#64, AC.i 0]) 0 (splice (splice (splice (splice [AC.i 0, AC.i 0, AC.i 0, AC.u 0#64, AC.i 0] 0 [AC.i 1]) 1 [AC.i 2]) 2 [AC.i (-1)]) 3 [AC.u 5#64])) 5 (splice (splice (splice (splice [AC.i 0, AC.i 0, AC.i 0, AC.u 0#64, AC.i 0] 0 [AC.i 5]) 1 [AC.i 1]) 2 [AC.i (-1)]) 3 [AC.u 3#64])) 10 (splice (splice (splice (splice [AC.i 0, AC.i 0, AC.i 0, AC.u 0#64, AC.i 0] 0 [AC.i 14]) 1 [AC.i 1]) 2 [AC.i 2]) 4 [AC.i 1])) 15 (splice (splice (splice (splice [AC.i 0, AC.i 0, AC.i 0, AC.u 0#64, AC.i 0] 0 [AC.i 1]) 1 [AC.i 1]) 2 [AC.i (-1)]) 3 [AC.u 9#64])) 20 (splice (splice (splice [AC.i 0, AC.i 0, AC.i 0, AC.u 0#64, AC.i 0] 0 [AC.i 1]) 1 [AC.i 0]) 2 [AC.i 2])) 25 (splice [AC.i 0, AC.i 0, AC.i 0, AC.u 0#64, AC.i 0] 0 [AC.i 15])) 0)⟩) :
    ART Try.prog 49 (cx w β n []) Try.f49.ntmps ([Item.code (bodyOf Try.f49)]) (Kn.start [] [] 0) (REff w β ⟨AV.c (AC.sl 7 0 6 6), [], some (7, Ent.mk true (splice (splice (splice (splice (splice (splice (rows 6 [AC.i 0, AC.i 0, AC.i 0, AC.u 0#64, AC.i 0]) 0 (splice (splice (splice (splice [AC.i 0, AC.i 0, AC.i 0, AC.u 0#64, AC.i 0] 0 [AC.i 1]) 1 [AC.i 2]) 2 [AC.i (-1)]) 3 [AC.u 5#64])) 5 (splice (splice (splice (splice [AC.i 0, AC.i 0, AC.i 0, AC.u 0#64, AC.i 0] 0 [AC.i 5]) 1 [AC.i 1]) 2 [AC.i (-1)]) 3 [AC.u 3#64])) 10 (splice (splice (splice (splice [AC.i 0, AC.i 0, AC.i 0, AC.u 0#64, AC.i 0] 0 [AC.i 14]) 1 [AC.i 1]) 2 [AC.i 2]) 4 [AC.i 1])) 15 (splice (splice (splice (splice [AC.i 0, AC.i 0, AC.i 0, AC.u 0#64, AC.i 0] 0 [AC.i 1]) 1 [AC.i 1]) 2 [AC.i (-1)]) 3 [AC.u 9#64])) 20 (splice (splice (splice [AC.i 0, AC.i 0, AC.i 0, AC.u 0#64, AC.i 0] 0 [AC.i 1]) 1 [AC.i 0]) 2 [AC.i 2])) 25 (splice [AC.i 0, AC.i 0, AC.i 0, AC.u 0#64, AC.i 0] 0 [AC.i 15])) 0)⟩) :=
  run_eff [] (some 7) 2000 [] [] ([]) [] Try.func49 hk (by kernel_rfl) rfl cr_nil
theorem fBegun_w0 (c0 : CallOK Try.prog (CallRec.mk 49 [] [] (Eff.mk (AV.c (AC.sl 1 0 6 6)) [] (some (1, Ent.mk true (pcell fL) 0))))) (c1 : CallOK Try.prog (CallRec.mk 26 [AV.c (AC.sl 1 0 6 6)] [(1, Ent.mk true (pcell fL) 0)] (Eff.mk (AV.tu [AT.c (AC.sx 2 6), AT.c (AC.i 0)]) [] (some (2, Ent.mk true (pcell fF) 0))))) (c2 : CallOK Try.prog (CallRec.mk 27 [AV.c (AC.sx 2 6)] [(2, Ent.mk true (pcell fF) 0)] (Eff.mk (AV.tu [AT.c (AC.sx 9 6), AT.c (AC.i 0)]) [] (some (9, Ent.mk true (pcell fD) 0))))) :
    CallOK Try.prog ⟨25, [], [], ⟨AV.c (AC.b true), [], none⟩⟩ :=
  val_run 2000 [Eff.mk (AV.c (AC.sl 1 0 6 6)) [] (some (1, Ent.mk true (pcell fL) 0)), Eff.mk (AV.tu [AT.c (AC.sx 2 6), AT.c (AC.i 0)]) [] (some (2, Ent.mk true (pcell fF) 0)), Eff.mk (AV.tu [AT.c (AC.sx 9 6), AT.c (AC.i 0)]) [] (some (9, Ent.mk true (pcell fD) 0))] [true, true, true, true, true, true, true, true, true] ([]) [] Try.func25 rfl rfl rfl rfl (by kernel_rfl) rfl (cr_cons c0 (cr_cons c1 (cr_cons c2 cr_nil)))
theorem fsErr_w0 {L : List Ins} {c : Nat} {p : Nat} {s : ByteArray} {x : BitVec 64} {r1 : Outc} {e : Int} {f : Int} {w : World} {β : Bs} {n : Nat} (h : (e != 0 && true) = true) (c0 : CallOK Try.prog (CallRec.mk 23 [AV.c (AC.sl 0 0 p c)] [(0, Ent.mk false (pcell L) 0)] (Eff.mk (AV.tu [AT.ag [AC.i 0, AC.i 0, nilSl], AT.c (AC.i e)]) [] none))) (c1 : CallOK Try.prog (CallRec.mk 9 [AV.c (AC.sl 0 0 p c), AV.c (AC.s s), AV.c (AC.u x)] [(0, Ent.mk false (pcell L) 0)] (Eff.mk (AV.tu [AT.ag (Outc.cs r1), AT.c (AC.i f)]) [] none))) (c2 : CallOK Try.prog (CallRec.mk 25 [] [] (Eff.mk (AV.c (AC.b true)) [] none))) :
    ART Try.prog 8 (cx w β n []) Try.f8.ntmps ([Item.code (bodyOf Try.f8)]) (Kn.start [AV.c (AC.sl 0 0 p c), AV.c (AC.s s), AV.c (AC.u x)] [(0, Ent.mk false (pcell L) 0)] 1) (REff w β ⟨AV.c (AC.b true), [], none⟩) :=
  run_eff [] (none) 2000 [Eff.mk (AV.tu [AT.ag [AC.i 0, AC.i 0, nilSl], AT.c (AC.i e)]) [] none, Eff.mk (AV.tu [AT.ag (Outc.cs r1), AT.c (AC.i f)]) [] none, Eff.mk (AV.c (AC.b true)) [] none] [true, true, true] ([]) [] Try.func8 (ekeys0 rfl n) (by kernel_rfl) h (cr_cons c0 (cr_cons c1 (cr_cons c2 cr_nil)))
theorem fsNil_w0 {s : ByteArray} {x : BitVec 64} {r1 : Outc} {e : Int} {f : Int} (h : (e != 0 && true) = true) (c0 : CallOK Try.prog (CallRec.mk 23 [AV.c nilSl] [] (Eff.mk (AV.tu [AT.ag [AC.i 0, AC.i 0, nilSl], AT.c (AC.i e)]) [] none))) (c1 : CallOK Try.prog (CallRec.mk 9 [AV.c nilSl, AV.c (AC.s s), AV.c (AC.u x)] [] (Eff.mk (AV.tu [AT.ag (Outc.cs r1), AT.c (AC.i f)]) [] none))) (c2 : CallOK Try.prog (CallRec.mk 25 [] [] (Eff.mk (AV.c (AC.b true)) [] none))) :
    CallOK Try.prog ⟨8, [AV.c nilSl, AV.c (AC.s s), AV.c (AC.u x)], [], ⟨AV.c (AC.b true), [], none⟩⟩ :=
  val_run 2000 [Eff.mk (AV.tu [AT.ag [AC.i 0, AC.i 0, nilSl], AT.c (AC.i e)]) [] none, Eff.mk (AV.tu [AT.ag (Outc.cs r1), AT.c (AC.i f)]) [] none, Eff.mk (AV.c (AC.b true)) [] none] [true, true, true] ([]) [] Try.func8 rfl rfl rfl rfl (by kernel_rfl) h (cr_cons c0 (cr_cons c1 (cr_cons c2 cr_nil)))
theorem fsOkF_w0 {L : List Ins} {c : Nat} {p : Nat} {S : List St} {s : ByteArray} {x : BitVec 64} {r1 : Outc} {f : Int} {w : World} {β : Bs} {n : Nat} (h : (f != 0 && true) = true) (c0 : CallOK Try.prog (CallRec.mk 23 [AV.c (AC.sl 0 0 p c)] [(0, Ent.mk false (pcell L) 0)] (Eff.mk (AV.tu [AT.ag [AC.i 0, AC.i 0, AC.sl 3 0 p p], AT.c (AC.i 0)]) [] (some (3, Ent.mk true (scell S) 0))))) (c1 : CallOK Try.prog (CallRec.mk 9 [AV.c (AC.sl 0 0 p c), AV.c (AC.s s), AV.c (AC.u x)] [(0, Ent.mk false (pcell L) 0)] (Eff.mk (AV.tu [AT.ag (Outc.cs r1), AT.c (AC.i f)]) [] none))) (c2 : CallOK Try.prog (CallRec.mk 25 [] [] (Eff.mk (AV.c (AC.b true)) [] none))) :
    ART Try.prog 8 (cx w β n []) Try.f8.ntmps ([Item.code (bodyOf Try.f8)]) (Kn.start [AV.c (AC.sl 0 0 p c), AV.c (AC.s s), AV.c (AC.u x)] [(0, Ent.mk false (pcell L) 0)] 1) (REff w β ⟨AV.c (AC.b true), [], none⟩) :=
  run_eff [] (none) 2000 [Eff.mk (AV.tu [AT.ag [AC.i 0, AC.i 0, AC.sl 3 0 p p], AT.c (AC.i 0)]) [] (some (3, Ent.mk true (scell S) 0)), Eff.mk (AV.tu [AT.ag (Outc.cs r1), AT.c (AC.i f)]) [] none, Eff.mk (AV.c (AC.b true)) [] none] [false, true, true] ([]) [] Try.func8 (ekeys0 rfl n) (by kernel_rfl) h (cr_cons c0 (cr_cons c1 (cr_cons c2 cr_nil)))
theorem fsTrF_w0 {L : List Ins} {c : Nat} {p : Nat} {q : Nat} {S : List St} {s : ByteArray} {x : BitVec 64} {r1 : Outc} {f : Int} {tr : Int} {t1 : Int} {w : World} {β : Bs} {n : Nat} (h : (f != 0 && true) = true) (c0 : CallOK Try.prog (CallRec.mk 23 [AV.c (AC.sl 0 0 p c)] [(0, Ent.mk false (pcell L) 0)] (Eff.mk (AV.tu [AT.ag [AC.i tr, AC.i t1, AC.sx 3 q], AT.c (AC.i 0)]) [] (some (3, Ent.mk true (scell S) 31))))) (c1 : CallOK Try.prog (CallRec.mk 9 [AV.c (AC.sl 0 0 p c), AV.c (AC.s s), AV.c (AC.u x)] [(0, Ent.mk false (pcell L) 0)] (Eff.mk (AV.tu [AT.ag (Outc.cs r1), AT.c (AC.i f)]) [] none))) (c2 : CallOK Try.prog (CallRec.mk 25 [] [] (Eff.mk (AV.c (AC.b true)) [] none))) :
    ART Try.prog 8 (cx w β n []) Try.f8.ntmps ([Item.code (bodyOf Try.f8)]) (Kn.start [AV.c (AC.sl 0 0 p c), AV.c (AC.s s), AV.c (AC.u x)] [(0, Ent.mk false (pcell L) 0)] 1) (REff w β ⟨AV.c (AC.b true), [], none⟩) :=
  run_eff [] (none) 2000 [Eff.mk (AV.tu [AT.ag [AC.i tr, AC.i t1, AC.sx 3 q], AT.c (AC.i 0)]) [] (some (3, Ent.mk true (scell S) 31)), Eff.mk (AV.tu [AT.ag (Outc.cs r1), AT.c (AC.i f)]) [] none, Eff.mk (AV.c (AC.b true)) [] none] [false, true, true] ([]) [] Try.func8 (ekeys0 rfl n) (by kernel_rfl) h (cr_cons c0 (cr_cons c1 (cr_cons c2 cr_nil)))
theorem fsTr_w0 {L : List Ins} {c : Nat} {p : Nat} {q : Nat} {S : List St} {s : ByteArray} {x : BitVec 64} {r1 : Outc} {tr : Int} {t1 : Int} {w : World} {β : Bs} {n : Nat} (h : (tr != 0 && true) = true) (c0 : CallOK Try.prog (CallRec.mk 23 [AV.c (AC.sl 0 0 p c)] [(0, Ent.mk false (pcell L) 0)] (Eff.mk (AV.tu [AT.ag [AC.i tr, AC.i t1, AC.sx 3 q], AT.c (AC.i 0)]) [] (some (3, Ent.mk true (scell S) 31))))) (c1 : CallOK Try.prog (CallRec.mk 9 [AV.c (AC.sl 0 0 p c), AV.c (AC.s s), AV.c (AC.u x)] [(0, Ent.mk false (pcell L) 0)] (Eff.mk (AV.tu [AT.ag (Outc.cs r1), AT.c (AC.i 0)]) [] none))) (c2 : CallOK Try.prog (CallRec.mk 25 [] [] (Eff.mk (AV.c (AC.b true)) [] none))) :
    ART Try.prog 8 (cx w β n []) Try.f8.ntmps ([Item.code (bodyOf Try.f8)]) (Kn.start [AV.c (AC.sl 0 0 p c), AV.c (AC.s s), AV.c (AC.u x)] [(0, Ent.mk false (pcell L) 0)] 1) (REff w β ⟨AV.c (AC.b true), [], none⟩) :=
  run_eff [] (none) 2000 [Eff.mk (AV.tu [AT.ag [AC.i tr, AC.i t1, AC.sx 3 q], AT.c (AC.i 0)]) [] (some (3, Ent.mk true (scell S) 31)), Eff.mk (AV.tu [AT.ag (Outc.cs r1), AT.c (AC.i 0)]) [] none, Eff.mk (AV.c (AC.b true)) [] none] [false, false, true] ([]) [] Try.func8 (ekeys0 rfl n) (by kernel_rfl) h (cr_cons c0 (cr_cons c1 (cr_cons c2 cr_nil)))
theorem fsOk_w0 {L : List Ins} {L2 : List Ins} {L3 : List Ins} {L4 : List Ins} {c : Nat} {p : Nat} {S : List St} {S2 : List St} {S3 : List St} {s : ByteArray} {s1 : ByteArray} {x : BitVec 64} {y : BitVec 64} {t1 : Int} {n1 : Int} {w : World} {β : Bs} {n : Nat} (h : (eqCs (Outc.cs (Outc.mk 3 t1 n1 y s1)) (Outc.cs (Outc.mk 3 t1 n1 y s1)) && (eqCs (Outc.cs (Outc.mk 3 t1 n1 y s1)) (Outc.cs (Outc.mk 3 t1 n1 y s1)) && true)) = true) (c0 : CallOK Try.prog (CallRec.mk 23 [AV.c (AC.sl 0 0 p c)] [(0, Ent.mk false (pcell L) 0)] (Eff.mk (AV.tu [AT.ag [AC.i 0, AC.i 0, AC.sl 3 0 p p], AT.c (AC.i 0)]) [] (some (3, Ent.mk true (scell S) 0))))) (c1 : CallOK Try.prog (CallRec.mk 9 [AV.c (AC.sl 0 0 p c), AV.c (AC.s s), AV.c (AC.u x)] [(0, Ent.mk false (pcell L) 0)] (Eff.mk (AV.tu [AT.ag (Outc.cs (Outc.mk 3 t1 n1 y s1)), AT.c (AC.i 0)]) [] none))) (c2 : CallOK Try.prog (CallRec.mk 26 [AV.c (AC.sl 0 0 p c)] [(0, Ent.mk false (pcell L) 0)] (Eff.mk (AV.tu [AT.c (AC.sx 32 p), AT.c (AC.i 0)]) [] (some (32, Ent.mk true (pcell L2) 0))))) (c3 : CallOK Try.prog (CallRec.mk 27 [AV.c (AC.sx 32 p)] [(32, Ent.mk true (pcell L2) 0)] (Eff.mk (AV.tu [AT.c (AC.sx 39 p), AT.c (AC.i 0)]) [] (some (39, Ent.mk true (pcell L3) 0))))) (c4 : CallOK Try.prog (CallRec.mk 27 [AV.c (AC.sl 0 0 p c)] [(0, Ent.mk false (pcell L) 0)] (Eff.mk (AV.tu [AT.c (AC.sx 46 p), AT.c (AC.i 0)]) [] (some (46, Ent.mk true (pcell L4) 0))))) (c5 : CallOK Try.prog (CallRec.mk 9 [AV.c (AC.sx 32 p), AV.c (AC.s s), AV.c (AC.u x)] [(32, Ent.mk true (pcell L2) 0)] (Eff.mk (AV.tu [AT.ag (Outc.cs (Outc.mk 3 t1 n1 y s1)), AT.c (AC.i 0)]) [] none))) (c6 : CallOK Try.prog (CallRec.mk 9 [AV.c (AC.sx 39 p), AV.c (AC.s s), AV.c (AC.u x)] [(39, Ent.mk true (pcell L3) 0)] (Eff.mk (AV.tu [AT.ag (Outc.cs (Outc.mk 3 t1 n1 y s1)), AT.c (AC.i 0)]) [] none))) (c7 : CallOK Try.prog (CallRec.mk 9 [AV.c (AC.sx 46 p), AV.c (AC.s s), AV.c (AC.u x)] [(46, Ent.mk true (pcell L4) 0)] (Eff.mk (AV.tu [AT.ag (Outc.cs (Outc.mk 3 t1 n1 y s1)), AT.c (AC.i 0)]) [] none))) (c8 : CallOK Try.prog (CallRec.mk 23 [AV.c (AC.sx 32 p)] [(32, Ent.mk true (pcell L2) 0)] (Eff.mk (AV.tu [AT.ag [AC.i 0, AC.i 0, AC.sl 83 0 p p], AT.c (AC.i 0)]) [] (some (83, Ent.mk true (scell S2) 0))))) (c9 : CallOK Try.prog (CallRec.mk 23 [AV.c (AC.sx 46 p)] [(46, Ent.mk true (pcell L4) 0)] (Eff.mk (AV.tu [AT.ag [AC.i 0, AC.i 0, AC.sl 91 0 p p], AT.c (AC.i 0)]) [] (some (91, Ent.mk true (scell S3) 0))))) (c10 : CallOK Try.prog (CallRec.mk 25 [] [] (Eff.mk (AV.c (AC.b true)) [] none))) :
    ART Try.prog 8 (cx w β n []) Try.f8.ntmps ([Item.code (bodyOf Try.f8)]) (Kn.start [AV.c (AC.sl 0 0 p c), AV.c (AC.s s), AV.c (AC.u x)] [(0, Ent.mk false (pcell L) 0)] 1) (REff w β ⟨AV.c (AC.b (eqCs (Outc.cs (Outc.mk 3 t1 n1 y s1)) (Outc.cs (Outc.mk 3 t1 n1 y s1)))), [], none⟩) :=
  run_eff [] (none) 2000 [Eff.mk (AV.tu [AT.ag [AC.i 0, AC.i 0, AC.sl 3 0 p p], AT.c (AC.i 0)]) [] (some (3, Ent.mk true (scell S) 0)), Eff.mk (AV.tu [AT.ag (Outc.cs (Outc.mk 3 t1 n1 y s1)), AT.c (AC.i 0)]) [] none, Eff.mk (AV.tu [AT.c (AC.sx 32 p), AT.c (AC.i 0)]) [] (some (32, Ent.mk true (pcell L2) 0)), Eff.mk (AV.tu [AT.c (AC.sx 39 p), AT.c (AC.i 0)]) [] (some (39, Ent.mk true (pcell L3) 0)), Eff.mk (AV.tu [AT.c (AC.sx 46 p), AT.c (AC.i 0)]) [] (some (46, Ent.mk true (pcell L4) 0)), Eff.mk (AV.tu [AT.ag (Outc.cs (Outc.mk 3 t1 n1 y s1)), AT.c (AC.i 0)]) [] none, Eff.mk (AV.tu [AT.ag (Outc.cs (Outc.mk 3 t1 n1 y s1)), AT.c (AC.i 0)]) [] none, Eff.mk (AV.tu [AT.ag (Outc.cs (Outc.mk 3 t1 n1 y s1)), AT.c (AC.i 0)]) [] none, Eff.mk (AV.tu [AT.ag [AC.i 0, AC.i 0, AC.sl 83 0 p p], AT.c (AC.i 0)]) [] (some (83, Ent.mk true (scell S2) 0)), Eff.mk (AV.tu [AT.ag [AC.i 0, AC.i 0, AC.sl 91 0 p p], AT.c (AC.i 0)]) [] (some (91, Ent.mk true (scell S3) 0)), Eff.mk (AV.c (AC.b true)) [] none] [false, false, false, true, true, true, true, true, true, true, true, true, true, true, true, true] ([]) [] Try.func8 (ekeys0 rfl n) (by kernel_rfl) h (cr_cons c0 (cr_cons c1 (cr_cons c2 (cr_cons c3 (cr_cons c4 (cr_cons c5 (cr_cons c6 (cr_cons c7 (cr_cons c8 (cr_cons c9 (cr_cons c10 cr_nil)))))))))))
end Go.Proofs.Ytkigmocchaikgab

/- Parts of a body that are walked inside a fence, in a round of a range over a function too. -/
namespace Go.Proofs.Ytkigmocchaikgab
open Go.RowKit

abbrev FW (ro : Option Nat) : Fence := { Fence.wide with round := ro }
def noDefer (ops : Array Oper) : Bool := ops.toList.all fun o => match o.op with
  | .defer _ => false
  | _ => true
theorem noDefer_at {ops : Array Oper} (h : noDefer ops = true) {i : Nat} {o : Oper} (ho : ops[i]? = some o) : ∀ c, o.op ≠ .defer c := by
  intro c hc
  have hm : o ∈ ops.toList := by
    obtain ⟨hi, rfl⟩ := Array.getElem?_eq_some_iff.1 ho
    simp
  have := List.all_eq_true.1 h o hm
  rw [hc] at this
  cases this
theorem sem_fw {ro : Option Nat} {ρ : Operand → Value} {o : Oper} (h : ∀ c, o.op ≠ .defer c) : Oper.semAt ro ρ o = execOp ρ o := by
  cases ro with
  | none => rfl
  | some l => exact Oper.semAt_some l ρ o h
theorem calls_fw {ro : Option Nat} {n : Nat} {P : Program} {f : FuncId} {args : Array Value} {w : World} {R : Ending → World → Prop} (h : Calls P f args w R) : CallsIn (FW ro) n P f args w R := (callsIn_wide (n := n)).2 h
theorem upon_fw {ro : Option Nat} {n : Nat} {P : Program} {o : Oper} {a : Act} {next : Act → World → Prop} {Q : Exit → Act → World → Prop} {r : Result Next} (h : o.upon P a next Q r) : o.uponIn (FW ro) n P a next Q r := by
  unfold Oper.upon at h
  split at h
  · exact h
  · exact h
  · exact h
  · exact ⟨fun h => (by cases h), calls_fw h⟩
  · exact ⟨fun h => (by cases h), fun c cs _ => let ⟨v, w', r, s⟩ := h c cs; ⟨v, w', r, stepsIn_wide.2 s⟩⟩
  · exact h
  · exact h.elim
theorem wp_fw {ro : Option Nat} {n : Nat} {P : Program} {o : Oper} {a : Act} {w : World} {next : Act → World → Prop} {Q : Exit → Act → World → Prop} (hd : ∀ c, o.op ≠ .defer c) (h : o.wp P a w next Q) : o.wpIn (FW ro) n P a w next Q := by
  refine ⟨fun _ _ => trivial, ?_⟩
  rw [sem_fw hd]
  exact upon_fw h
theorem ops_fw {ro : Option Nat} {n : Nat} {P : Program} {ops : Array Oper} {Q : Exit → Act → World → Prop} (hd : noDefer ops = true) (hq : ¬ LetsOut Q) : ∀ (l : List Nat) (a : Act) (w : World), wpOps P ops Q l a w → wpOpsIn (FW ro) n P ops Q l a w
  | [], _, _, h => h
  | i :: l, a, w, h => by
    simp only [wpOps] at h
    simp only [wpOpsIn]
    cases ho : ops[i]? with
    | none => rw [ho] at h; exact ops_fw hd hq l a w h
    | some o =>
      rw [ho] at h
      simp only at h ⊢
      by_cases hw : Region.wanted o (yielded ops a.tmps) = true
      · rw [if_pos hw] at h ⊢
        rcases h with h | h
        · exact wp_fw (noDefer_at hd ho) (Oper.wp_mono (fun a w => ops_fw hd hq l a w) h)
        · exact (hq h.2).elim
      · rw [if_neg hw] at h ⊢
        exact ⟨fun _ _ => trivial, ops_fw hd hq l _ w h⟩
theorem any_fw {ro : Option Nat} {n : Nat} {P : Program} {md : Region.Mode} {ops : Array Oper} {Q : Exit → Act → World → Prop} (hd : noDefer ops = true) (hq : ¬ LetsOut Q) : ∀ (m : Nat) (listed : Array Bool) (a : Act) (w : World), wpAny P md ops Q m listed a w → wpAnyIn (FW ro) n P md ops Q m listed a w
  | 0, _, _, _, h => h
  | m + 1, listed, a, w, h => by
    refine ⟨h.1, fun i hi => ?_⟩
    have h := h.2 i hi
    unfold wpOp at h
    unfold wpOpIn
    cases ho : ops[i]? with
    | none => rw [ho] at h; exact any_fw hd hq m _ a w h
    | some o =>
      rw [ho] at h
      simp only at h ⊢
      by_cases hw : Region.wanted o (yielded ops a.tmps) = true
      · rw [if_pos hw] at h ⊢
        rcases h with h | h
        · exact wp_fw (noDefer_at hd ho) (Oper.wp_mono (fun a w => any_fw hd hq m _ a w) h)
        · exact (hq h.2).elim
      · rw [if_neg hw] at h ⊢
        exact ⟨fun _ _ => trivial, any_fw hd hq m _ _ w h⟩
theorem drw_anyS {P : Program} {N base : Nat} {rs : List Nat} {ops : Array Oper} {σ : Kn} {hs : List Eff} {ds : List Bool} {r : Drw} {Q : Exit → Act → World → Prop} {C : Cx} {β : Bs} {a : Act} {w : World}
    (h : drwOps P N base rs ops 0 ops.toList σ hs ds = some r) (hok : allB r.ok = true) (hcr : ∀ q, q ∈ r.cr → ObOK P q) (hB : Region.lexB .any ops = true) (hA : apartAll 0 ops.toList r.E = true) (hr : Rel C N β (fun k => k < base) σ a w)
    (hQ : ∀ β' a' w', Rel C N β' (fun k => k < base + ops.size) r.σ a' w' → Q .normal a' w') : wpAny P .any ops Q ops.size (Array.replicate ops.size false) a { w with drawn := w.drawn + 1 } := by
  obtain ⟨hlen, hspec⟩ := drwOps_spec h hok hcr
  have hsz : r.E.length = ops.size := by simpa using hlen
  let E : Nat → Kn × Eff := fun i => r.E.getD i (σ, ⟨undefV, [], none⟩)
  have hget : ∀ i o, ops[i]? = some o → r.E[i]? = some (E i) := by
    intro i o ho
    have hi : i < ops.size := by
      rcases Nat.lt_or_ge i ops.size with h3 | h3
      · exact h3
      · simp [Array.getElem?_eq_none h3] at ho
    simp only [E, List.getD_eq_getElem?_getD, List.getElem?_eq_getElem (show i < r.E.length by omega), Option.getD_some]
  have hlist : ∀ i o, ops[i]? = some o → ops.toList[i]? = some o := fun i o ho => by rw [Array.getElem?_toList]; exact ho
  have hE : ∀ i o, ops[i]? = some o → (∃ σ', (E i).1 = foot ops o σ') ∧ StEff P N ops o (E i).1 (E i).2 ∧ ∀ j cs, (E i).2.nw = some (j, cs) → j = base + i := by
    intro i o ho
    obtain ⟨o', σ', h1, h2, h3, h4⟩ := hspec i _ (hget i o ho)
    rw [hlist i o ho] at h1
    injection h1 with h1
    subst h1
    exact ⟨⟨σ', h2⟩, h3, fun j cs hn => by rw [h4 j cs hn]; omega⟩
  simp only [Region.lexB, Bool.and_eq_true] at hB
  have hr' : Rel C N β (keyIn base (Array.replicate ops.size false)) σ a { w with drawn := w.drawn + 1 } := by
    have h1 := hr.mono (S' := keyIn base (Array.replicate ops.size false)) fun k hk => Or.inl hk
    exact ⟨h1.size, h1.defers, h1.tmp, fun k e he => ⟨(h1.blk k e he).1, ⟨(h1.blk k e he).2.1.lt, (h1.blk k e he).2.1.cell, (h1.blk k e he).2.1.free, (h1.blk k e he).2.1.room⟩, (h1.blk k e he).2.2⟩, h1.inj, ⟨h1.frame.os, h1.frame.tape, h1.frame.output, h1.frame.size, h1.frame.block⟩, h1.fix⟩
  have hany := drw_any (P := P) (N := N) (base := base) (ops := ops) (E := E) (fun i o ho => (hE i o ho).1)
    (fun i j oi oj hi hj hlt => by
      have := apartAll_spec hA i j _ _ (hget i oi hi) (hget j oj hj) hlt
      simp only [Nat.zero_add] at this
      exact this)
    ops.toList 0 (Array.replicate ops.size false) σ hs ds r (by simp) (by simpa using hB.2) h
    (fun m x hx => by simp only [Nat.zero_add, E, List.getD_eq_getElem?_getD, hx, Option.getD_some]) (fun j hj => by omega) (fun j _ hj => by simp [hj])
  have hEn : ∀ i j cs, (E i).2.nw = some (j, cs) → j = base + i := by
    intro i j cs hn
    rcases Nat.lt_or_ge i ops.size with h3 | h3
    · exact (hE i ops[i] (by simp [h3])).2.2 j cs hn
    · simp only [E, List.getD_eq_getElem?_getD, List.getElem?_eq_none (show r.E.length ≤ i by omega), Option.getD_none] at hn
      cases hn
  have := AAny.sound (P := P) (Q := Q) (C := C) (fun i o ho => (hE i o ho).2.1) hEn ops.toList.length (Array.replicate ops.size false) σ β a _ (by simp) hany hr' hQ
  simpa using this

def RelAt (C : Cx) (N : Nat) (σ : Kn) (e : Exit) (a : Act) (w : World) : Prop := e = .normal ∧ ∃ β, Rel C N β (fun k => k < σ.n) σ a w
theorem relAt_lets {C : Cx} {N : Nat} {σ : Kn} : ¬ LetsOut (RelAt C N σ) := fun ⟨_, _, h, _⟩ => by cases h
theorem eRegion_fw {P : Program} {N id : Nat} {rs : List Nat} {ops : Array Oper} {dr : Bool} {σ : Kn} {hs : List Eff} {ds : List Bool} {q : Seq} (h : eRegion P N rs ops dr σ hs ds = some q) (hok : allB q.ok = true) (hcr : ∀ c, c ∈ q.cr → ObOK P c) (hd : noDefer ops = true)
    {C : Cx} {β : Bs} {a : Act} {w : World} {ro : Option Nat} {n : Nat} (hr : Rel C N β (fun k => k < σ.n) σ a w) : (Code.region id ops dr).wpIn (FW ro) n P (RelAt C N q.σ) a w := by
  unfold eRegion at h
  cases dr with
  | false =>
    simp only at h
    split at h
    · rename_i r hrr
      injection h with h; subst h
      refine wpIn_region (ops_fw hd relAt_lets _ _ _ ?_)
      have := seqOps_sound (P := P) (N := N) (base := σ.n) (rs := rs) (ops := ops) (Q := RelAt C N { r.σ with n := σ.n + ops.size }) ops.toList 0 σ hs ds r β a w (by simp) hrr hok hcr (by simpa using hr)
        (fun β' a' w' hr' => ⟨rfl, β', by simpa using hr'.setn (σ.n + ops.size)⟩)
      simpa [List.range_eq_range'] using this
    · cases h
  | true =>
    simp only at h
    split at h
    · rename_i r hrr
      cases hc : (Region.lexB .any ops && apartAll 0 ops.toList r.E && P.follows .mixedOrders) with
      | false => rw [hc] at h; cases h
      | true =>
        rw [hc] at h
        simp only [cond_true, Option.some.injEq] at h
        subst h
        simp only [Bool.and_eq_true] at hc
        exact wpIn_region_any hc.2 (any_fw hd relAt_lets _ _ _ _ (drw_anyS hrr hok hcr hc.1.1 hc.1.2 hr (fun β' a' w' hr' => ⟨rfl, β', hr'.setn _⟩)))
    · cases h
/- codes that are left by their end alone -/
def quiet : Code → Bool
  | .skip => true
  | .seq x y => quiet x && quiet y
  | .block _ c => quiet c
  | .cond _ x y => quiet x && quiet y
  | .region _ ops _ => noDefer ops
  | _ => false
structure Left (P : Program) (fn : Func) (N : Nat) (rw : List (Nat × Nat)) (C : Cx) (k : List Item) (st : List Bool) (out : Out) (e : Exit) (a : Act) (w : World) : Prop where
  e : e = .normal
  go : ∃ β σ m hs ds r, Rel C N β (fun k => k < σ.n) σ a w ∧ runT P fn N rw m k σ hs ds st = some r ∧ r.out = out ∧ allB r.ok = true ∧ ∀ c, c ∈ r.cr → ObOK P c
theorem runT_fw {P : Program} {fn : Func} {N : Nat} {rw : List (Nat × Nat)} {C : Cx} {ro : Option Nat} {n : Nat} {st : List Bool} : ∀ (c : Code) (k : List Item) (m : Nat) (σ : Kn) (hs : List Eff) (ds : List Bool) (r : Run) (β : Bs) (a : Act) (w : World), quiet c = true →
    runT P fn N rw m (.code c :: k) σ hs ds st = some r → allB r.ok = true → (∀ c, c ∈ r.cr → ObOK P c) → Rel C N β (fun k => k < σ.n) σ a w → c.wpIn (FW ro) n P (Left P fn N rw C k st r.out) a w := by
  intro c
  induction c with
  | skip =>
    intro k m σ hs ds r β a w _ h hok hcr hr
    cases m with
    | zero => cases h
    | succ m => exact wpIn_skip ⟨rfl, β, σ, m, hs, ds, r, hr, h, rfl, hok, hcr⟩
  | seq x y ihx ihy =>
    intro k m σ hs ds r β a w hq h hok hcr hr
    simp only [quiet, Bool.and_eq_true] at hq
    cases m with
    | zero => cases h
    | succ m =>
      refine wpIn_seq (wpIn_mono (ihx _ m σ hs ds r β a w hq.1 h hok hcr hr) fun e a' w' hl => ?_)
      obtain ⟨rfl, β', σ', m', hs', ds', r', hr', h', ho', hok', hcr'⟩ := hl
      show y.wpIn _ _ _ _ _ _
      rw [← ho']
      exact ihy _ m' σ' hs' ds' r' β' a' w' hq.2 h' hok' hcr' hr'
  | block id c ih =>
    intro k m σ hs ds r β a w hq h hok hcr hr
    cases m with
    | zero => cases h
    | succ m =>
      refine wpIn_block (wpIn_mono (ih _ m σ hs ds r β a w hq h hok hcr hr) fun e a' w' hl => ?_)
      obtain ⟨rfl, β', σ', m', hs', ds', r', hr', h', ho', hok', hcr'⟩ := hl
      cases m' with
      | zero => cases h'
      | succ m' => exact ⟨rfl, β', σ', m', hs', ds', r', hr', h', ho', hok', hcr'⟩
  | cond t x y ihx ihy =>
    intro k m σ hs ds r β a w hq h hok hcr hr
    simp only [quiet, Bool.and_eq_true] at hq
    cases m with
    | zero => cases h
    | succ m =>
      unfold runT at h
      simp only at h
      split at h
      · rename_i b d ds' hx
        split at h
        · rename_i q hq'
          injection h with h; subst h
          simp only [Run.and, List.cons_append, List.nil_append, allB, Bool.and_eq_true, same_iff] at hok
          have hx' : a.eval _ = .bool b := (hr.ev hx).1
          refine wpIn_cond hx' ?_
          have hc : ∀ c, c ∈ q.cr → ObOK P c := fun c hc => hcr c (by simp [Run.and, hc])
          rw [hok.1]
          cases d with
          | true => exact ihx _ m σ hs ds' q β a w hq.1 hq' hok.2 hc hr
          | false => exact ihy _ m σ hs ds' q β a w hq.2 hq' hok.2 hc hr
        · cases h
      · cases h
  | region id ops dr =>
    intro k m σ hs ds r β a w hq h hok hcr hr
    cases m with
    | zero => cases h
    | succ m =>
      unfold runT at h
      simp only at h
      split at h
      · rename_i q hq'
        split at h
        · rename_i r' hr'
          injection h with h; subst h
          simp only [Run.and, allB_append, Bool.and_eq_true] at hok
          refine wpIn_mono (eRegion_fw hq' hok.1 (fun c hc => hcr c (by simp [Run.and, hc])) hq hr) fun e a' w' hl => ?_
          obtain ⟨rfl, β', h'⟩ := hl
          exact ⟨rfl, β', q.σ, m, q.hs, q.ds, r', h', hr', rfl, hok.2, fun c hc => hcr c (by simp [Run.and, hc])⟩
        · cases h
      · cases h
  | _ => intro k m σ hs ds r β a w hq; cases hq
/- a part, from what is known ahead of it to what is known behind it -/
def PartIn (P : Program) (C : Cx) (N : Nat) (todo : List Item) (σ σ' : Kn) : Prop :=
  match todo with
  | .code c :: _ => ∀ (ro : Option Nat) (n : Nat) (β : Bs) (a : Act) (w : World), Rel C N β (fun k => k < σ.n) σ a w → c.wpIn (FW ro) n P (RelAt C N σ') a w
  | _ => False
theorem Rel.weaken {C : Cx} {N : Nat} {β : Bs} {σ σ' : Kn} {a : Act} {w : World} (hr : Rel C N β (fun k => k < σ.n) σ a w) (hle : Le σ' σ) (hlow : σ'.Low) (hF : ∀ k, C.F k → k < σ'.n) : Rel C N β (fun k => k < σ'.n) σ' a w :=
  ⟨hr.size, hr.defers, fun t v hv => ⟨(hr.tmp t v (hle.t t v hv)).1, hlow.t t v hv⟩, fun k e he => ⟨(hlow.h k e he).1, (hr.blk k e (hle.h k e he)).2.1, (hlow.h k e he).2, (hr.blk k e (hle.h k e he)).2.2.2⟩, fun k e k' e' he he' => hr.inj k e k' e' (hle.h k e he) (hle.h k' e' he'), hr.frame, fun k hk => ⟨hF k hk, (hr.fix k hk).2⟩⟩
theorem run_part {P : Program} {f : FuncId} {fn : Func} {N : Nat} {C : Cx} {todo : List Item} {σ : Kn} {ok : Bool} {cr : List Ob} (σ' : Kn) (m : Nat) (hs : List Eff) (ds st : List Bool) (rw : List (Nat × Nat)) (_hf : P.funcs[f]? = some fn)
    (h : cutOf (σ'.T.map (·.1)) (σ'.H.map (·.1)) (runT P fn N rw m todo σ hs ds st) = some ([.code .skip, .inLoop .skip], σ'.T.map (fun x => some x.2), σ'.H.map (fun x => some x.2), ok, cr)) (hok : ok = true) (hcr : ∀ c, c ∈ cr → ObOK P c) (hlow : σ'.Low) (hF : ∀ k, C.F k → k < σ'.n)
    (hq : (match todo with
      | [.code c, .inLoop _] => quiet c
      | _ => false) = true) (hst : st = [true]) : PartIn P C N todo σ σ' := by
  obtain ⟨σ1, oks, h1, ho, h2, h3⟩ := cutOf_some h
  subst hst
  split at hq
  · rename_i _ c X _
    intro ro n β a w hr
    refine wpIn_mono (runT_fw c _ m σ hs ds _ β a w hq h1 (ho.trans hok) hcr hr) fun e a' w' hl => ?_
    obtain ⟨rfl, β', σ2, m', hs', ds', r', hr', h', ho', _, _⟩ := hl
    refine ⟨rfl, β', ?_⟩
    cases m' with
    | zero => cases h'
    | succ m' =>
      unfold runT at h'
      simp only at h'
      split at h'
      · injection h' with h'
        subst h'
        injection ho' with ho'
        injection ho' with _ ho'
        subst ho'
        exact hr'.weaken ⟨map_look h2, map_look h3⟩ hlow hF
      · cases h'
  · cases hq
/- a part that more code follows -/
def HeadIn (P : Program) (C : Cx) (N : Nat) (todo : List Item) (σ σ' : Kn) : Prop :=
  match todo with
  | [.code (.seq x (.seq y z)), .inLoop _] => ∀ (ro : Option Nat) (n : Nat) (d : Code) (Q : Exit → Act → World → Prop), (∀ (β : Bs) (a : Act) (w : World), Rel C N β (fun k => k < σ'.n) σ' a w → d.wpIn (FW ro) n P Q a w) →
      ∀ (β : Bs) (a : Act) (w : World), Rel C N β (fun k => k < σ.n) σ a w → (Code.seq x (.seq y (.seq z d))).wpIn (FW ro) n P Q a w
  | _ => False
theorem run_head {P : Program} {f : FuncId} {fn : Func} {N : Nat} {C : Cx} {todo : List Item} {σ : Kn} {ok : Bool} {cr : List Ob} (σ' : Kn) (m : Nat) (hs : List Eff) (ds st : List Bool) (rw : List (Nat × Nat)) (_hf : P.funcs[f]? = some fn)
    (h : cutOf (σ'.T.map (·.1)) (σ'.H.map (·.1)) (runT P fn N rw m todo σ hs ds st) = some ([.code .skip, .inLoop .skip], σ'.T.map (fun x => some x.2), σ'.H.map (fun x => some x.2), ok, cr)) (hok : ok = true) (hcr : ∀ c, c ∈ cr → ObOK P c) (hlow : σ'.Low) (hF : ∀ k, C.F k → k < σ'.n)
    (hq : (match todo with
      | [.code (.seq x (.seq y z)), .inLoop _] => quiet x && (quiet y && quiet z)
      | _ => false) = true) (hst : st = [true]) : HeadIn P C N todo σ σ' := by
  obtain ⟨σ1, oks, h1, ho, h2, h3⟩ := cutOf_some h
  subst hst
  split at hq
  · rename_i _ x y z X _
    intro ro n d Q hd β a w hr
    simp only [Bool.and_eq_true] at hq
    cases m with
    | zero => cases h1
    | succ m =>
      refine wpIn_seq (wpIn_mono (runT_fw x _ m σ hs ds _ β a w hq.1 h1 (ho.trans hok) hcr hr) fun e a' w' hl => ?_)
      obtain ⟨rfl, β', σ2, m', hs', ds', r', hr', h', ho', hok', hcr'⟩ := hl
      cases m' with
      | zero => cases h'
      | succ m' =>
        refine wpIn_seq (wpIn_mono (runT_fw y _ m' σ2 hs' ds' r' β' a' w' hq.2.1 h' hok' hcr' hr') fun e a' w' hl => ?_)
        obtain ⟨rfl, β', σ2, m', hs', ds', r', hr', h', ho2, hok', hcr'⟩ := hl
        refine wpIn_seq (wpIn_mono (runT_fw z _ m' σ2 hs' ds' r' β' a' w' hq.2.2 h' hok' hcr' hr') fun e a' w' hl => ?_)
        obtain ⟨rfl, β', σ2, m', hs', ds', r', hr', h', ho3, _, _⟩ := hl
        refine hd β' a' w' ?_
        cases m' with
        | zero => cases h'
        | succ m' =>
          unfold runT at h'
          simp only at h'
          split at h'
          · injection h' with h'
            subst h'
            have ho4 := ho3.trans (ho2.trans ho')
            injection ho4 with ho4
            injection ho4 with _ ho4
            subst ho4
            exact hr'.weaken ⟨map_look h2, map_look h3⟩ hlow hF
          · cases h'
  · cases hq
/- the code of a range over a function: what lies ahead of it, its round -/
def headR (fn : Func) : Code :=
  match bodyOf fn with
  | .seq x (.seq y (.seq z _)) => .seq x (.seq y z)
  | c => c
def bodyR (fn : Func) : Code :=
  match bodyOf fn with
  | .seq _ (.seq _ (.seq _ (.block _ (.rangeFunc _ _ _ c)))) => c
  | c => c
end Go.Proofs.Ytkigmocchaikgab

/- Ways of bodies, written by a program (ways.py): what each asks for, and hands back. -/
namespace Go.Proofs.Ytkigmocchaikgab
open Go.RowKit

theorem rdTop_w0 {L : List Ins} {p : Nat} {C : Cx} (h : (decide ((↑p : Int) ≤ (↑p : Int)) && decide ((↑p : Int) ≤ 1099511627776) && true && true) = true) (c0 : Eff.mk (AV.c (AC.sl 4 0 (Int.toNat (↑p : Int)) (Int.toNat (↑p : Int)))) [] (some (1 + 1 + 2, Ent.mk true (rows (Int.toNat (↑p : Int)) [AC.b false, AC.b false, AC.b false, AC.b false, AC.b false, AC.b false]) 0)) = Eff.mk (AV.c (AC.sl 4 0 p p)) [] (some (4, Ent.mk true (rcell (List.replicate p no6)) 0))) (c1 : CallOK Try.prog (CallRec.mk 87 [AV.c (AC.i (↑p : Int))] [] (Eff.mk (AV.c (AC.f 121 [9])) [] (some (9, Ent.mk true [AC.i (↑p : Int)] 0))))) (lo : Kn.Low ⟨[(1, AV.c (AC.w 1)), (2, AV.c (AC.w 5)), (10, AV.c (AC.f 121 [9]))], [(0, Ent.mk true (pcell L) 5), (1, Ent.mk true [AC.sx 0 p] 0), (4, Ent.mk true (rcell (List.replicate p no6)) 0), (5, Ent.mk true [AC.sl 4 0 p p] 0), (9, Ent.mk true [AC.i (↑p : Int)] 0)], 10⟩) (hF : ∀ k, C.F k → k < 10) :
    HeadIn Try.prog C Try.f54.ntmps ([Item.code (headR Try.f54), Item.inLoop Code.skip]) (Kn.start [AV.c (AC.sx 0 p)] [(0, Ent.mk true (pcell L) 5)] 1) ⟨[(1, AV.c (AC.w 1)), (2, AV.c (AC.w 5)), (10, AV.c (AC.f 121 [9]))], [(0, Ent.mk true (pcell L) 5), (1, Ent.mk true [AC.sx 0 p] 0), (4, Ent.mk true (rcell (List.replicate p no6)) 0), (5, Ent.mk true [AC.sl 4 0 p p] 0), (9, Ent.mk true [AC.i (↑p : Int)] 0)], 10⟩ :=
  run_head ⟨[(1, AV.c (AC.w 1)), (2, AV.c (AC.w 5)), (10, AV.c (AC.f 121 [9]))], [(0, Ent.mk true (pcell L) 5), (1, Ent.mk true [AC.sx 0 p] 0), (4, Ent.mk true (rcell (List.replicate p no6)) 0), (5, Ent.mk true [AC.sl 4 0 p p] 0), (9, Ent.mk true [AC.i (↑p : Int)] 0)], 10⟩ 2000 [Eff.mk (AV.c (AC.sl 4 0 p p)) [] (some (4, Ent.mk true (rcell (List.replicate p no6)) 0)), Eff.mk (AV.c (AC.f 121 [9])) [] (some (9, Ent.mk true [AC.i (↑p : Int)] 0))] [] ([true]) [(1, 2)] Try.func54 (by kernel_rfl) h (cr_same c0 (cr_cons c1 cr_nil)) lo hF rfl rfl
theorem rdD_w0 {L : List Ins} {A : List (V6 Bool)} {p : Nat} {r : Nat} {x : Nat} {b : V6 Bool} {a1 : V6 Bool} {C : Cx} (h : (decide ((↑x : Int) < (↑p : Int)) && (Nat.ble (Int.toNat (↑x : Int) * 5 + 5) (List.length (pcell L)) && (decide ((↑x : Int) ≤ (↑p : Int)) && decide ((↑p : Int) ≤ (↑p : Int)) && decide ((↑p : Int) ≤ (↑p : Int)) && decide ((↑x : Int) < (↑p : Int)) && (decide ((↑x : Int) < (↑p : Int)) && (Nat.ble (Int.toNat (↑x : Int) * 5 + 5) (List.length (pcell L)) && (decide (Ins.op (elt L x) ≤ 10) && (decide ((↑x : Int) < (↑p : Int)) && (AC.isI (Option.getD (pcell L)[Int.toNat (↑x : Int) * 5 + 1]? (AC.b false)) && Nat.blt (Int.toNat (↑x : Int) * 5 + 1) (List.length (pcell L)) && (decide (0 ≤ Ins.d (elt L x)) && decide (Ins.d (elt L x) < 6) && (AC.isB (Option.getD (bcs b)[Int.toNat (Ins.d (elt L x)) * 1]? (AC.b false)) && Nat.blt (Int.toNat (Ins.d (elt L x)) * 1) (List.length (bcs b)) && (!V6.get b (Int.toNat (Ins.d (elt L x))) && (decide ((↑x : Int) < (↑p : Int)) && (Nat.ble (Int.toNat (↑x : Int) * 5 + 5) (List.length (pcell L)) && true && (decide ((↑x : Int) < (↑p : Int)) && (Nat.ble (Int.toNat (↑x : Int) * 5 + 5) (List.length (pcell (List.set L x onI))) && (decide ((↑x : Int) < (↑p : Int)) && (Nat.ble (0 + Int.toNat (↑x : Int) * 6 + List.length (bcs a1)) (List.length (rcell A)) && true && true))))))))))))))))) = true) (c0 : Eff.mk (AV.ag (List.take 5 (List.drop (Int.toNat (↑x : Int) * 5) (pcell L)))) [] none = Eff.mk (AV.ag (Ins.cs (elt L x))) [] none) (c1 : Eff.mk (AV.c (AC.sl 4 (0 + Int.toNat (↑x : Int) * 6) (Int.toNat ((↑p : Int)) - Int.toNat (↑x : Int)) (Int.toNat ((↑p : Int)) - Int.toNat (↑x : Int)))) [] none = Eff.mk (AV.c (AC.sl 4 (x * 6) (p - x) (p - x))) [] none) (c2 : CallOK Try.prog (CallRec.mk 88 [AV.ag (Ins.cs (elt L x)), AV.c (AC.sl 4 (x * 6) (p - x) (p - x))] [(4, Ent.mk true (rcell A) 0)] (Eff.mk (AV.ag (bcs b)) [] none))) (c3 : Eff.mk (AV.ag (List.take 5 (List.drop (Int.toNat (↑x : Int) * 5) (pcell L)))) [] none = Eff.mk (AV.ag (Ins.cs (elt L x))) [] none) (c4 : CallOK Try.prog (CallRec.mk 89 [AV.ag (Ins.cs (elt L x))] [] (Eff.mk (AV.c (AC.b (decide (Ins.op (elt L x) ≤ 10)))) [] none))) (c5 : Eff.mk (AV.c (AC.i (AC.asI (Option.getD (pcell L)[Int.toNat (↑x : Int) * 5 + 1]? (AC.b false))))) [] none = Eff.mk (AV.c (AC.i (Ins.d (elt L x)))) [] none) (c6 : Eff.mk (AV.c (AC.b (AC.asB (Option.getD (bcs b)[Int.toNat (Ins.d (elt L x)) * 1]? (AC.b false))))) [] none = Eff.mk (AV.c (AC.b (V6.get b (Int.toNat (Ins.d (elt L x)))))) [] none) (c7 : CallOK Try.prog (CallRec.mk 84 [] [] (Eff.mk (AV.ag (Ins.cs onI)) [] none))) (c8 : Eff.mk (AV.raw undef) [(0, splice (pcell L) (Int.toNat (↑x : Int) * 5) (Ins.cs onI))] none = Eff.mk (AV.raw undef) [(0, pcell (List.set L x onI))] none) (c9 : Eff.mk (AV.ag (List.take 5 (List.drop (Int.toNat (↑x : Int) * 5) (pcell (List.set L x onI))))) [] none = Eff.mk (AV.ag (Ins.cs onI)) [] none) (c10 : CallOK Try.prog (CallRec.mk 90 [AV.ag (Ins.cs onI), AV.ag (bcs b)] [] (Eff.mk (AV.ag (bcs a1)) [] none))) (c11 : Eff.mk (AV.raw undef) [(4, splice (rcell A) (0 + Int.toNat (↑x : Int) * 6) (bcs a1))] none = Eff.mk (AV.raw undef) [(4, rcell (List.set A x a1))] none) (lo : Kn.Low ⟨[(1, AV.c (AC.w 1)), (2, AV.c (AC.w 5))], [(0, Ent.mk true (pcell (List.set L x onI)) 0), (1, Ent.mk true [AC.sx 0 p] 0), (4, Ent.mk true (rcell (List.set A x a1)) 0), (5, Ent.mk true [AC.sl 4 0 p p] 0)], 10⟩) (hF : ∀ k, C.F k → k < 10) :
    PartIn Try.prog C Try.f54.ntmps ([Item.code (bodyR Try.f54), Item.inLoop Code.skip]) (Kn.mk [(1, AV.c (AC.w 1)), (2, AV.c (AC.w 5)), (3, AV.c (AC.i (↑x : Int)))] [(0, Ent.mk true (pcell L) r), (1, Ent.mk true [AC.sx 0 p] 0), (4, Ent.mk true (rcell A) 0), (5, Ent.mk true [AC.sl 4 0 p p] 0)] 10) ⟨[(1, AV.c (AC.w 1)), (2, AV.c (AC.w 5))], [(0, Ent.mk true (pcell (List.set L x onI)) 0), (1, Ent.mk true [AC.sx 0 p] 0), (4, Ent.mk true (rcell (List.set A x a1)) 0), (5, Ent.mk true [AC.sl 4 0 p p] 0)], 10⟩ :=
  run_part ⟨[(1, AV.c (AC.w 1)), (2, AV.c (AC.w 5))], [(0, Ent.mk true (pcell (List.set L x onI)) 0), (1, Ent.mk true [AC.sx 0 p] 0), (4, Ent.mk true (rcell (List.set A x a1)) 0), (5, Ent.mk true [AC.sl 4 0 p p] 0)], 10⟩ 2000 [Eff.mk (AV.ag (Ins.cs (elt L x))) [] none, Eff.mk (AV.c (AC.sl 4 (x * 6) (p - x) (p - x))) [] none, Eff.mk (AV.ag (bcs b)) [] none, Eff.mk (AV.ag (Ins.cs (elt L x))) [] none, Eff.mk (AV.c (AC.b (decide (Ins.op (elt L x) ≤ 10)))) [] none, Eff.mk (AV.c (AC.i (Ins.d (elt L x)))) [] none, Eff.mk (AV.c (AC.b (V6.get b (Int.toNat (Ins.d (elt L x)))))) [] none, Eff.mk (AV.ag (Ins.cs onI)) [] none, Eff.mk (AV.raw undef) [(0, pcell (List.set L x onI))] none, Eff.mk (AV.ag (Ins.cs onI)) [] none, Eff.mk (AV.ag (bcs a1)) [] none, Eff.mk (AV.raw undef) [(4, rcell (List.set A x a1))] none] [true, true] ([true]) [(4, 3), (4, 6), (5, 3), (5, 10), (5, 12), (6, 4), (7, 5), (7, 9)] Try.func54 (by kernel_rfl) h (cr_same c0 (cr_same c1 (cr_cons c2 (cr_same c3 (cr_cons c4 (cr_same c5 (cr_same c6 (cr_cons c7 (cr_same c8 (cr_same c9 (cr_cons c10 (cr_same c11 cr_nil)))))))))))) lo hF rfl rfl
theorem rdK_w0 {L : List Ins} {A : List (V6 Bool)} {p : Nat} {r : Nat} {x : Nat} {b : V6 Bool} {a1 : V6 Bool} {C : Cx} (h : (decide ((↑x : Int) < (↑p : Int)) && (Nat.ble (Int.toNat (↑x : Int) * 5 + 5) (List.length (pcell L)) && (decide ((↑x : Int) ≤ (↑p : Int)) && decide ((↑p : Int) ≤ (↑p : Int)) && decide ((↑p : Int) ≤ (↑p : Int)) && decide ((↑x : Int) < (↑p : Int)) && (decide ((↑x : Int) < (↑p : Int)) && (Nat.ble (Int.toNat (↑x : Int) * 5 + 5) (List.length (pcell L)) && (decide (Ins.op (elt L x) ≤ 10) && (decide ((↑x : Int) < (↑p : Int)) && (AC.isI (Option.getD (pcell L)[Int.toNat (↑x : Int) * 5 + 1]? (AC.b false)) && Nat.blt (Int.toNat (↑x : Int) * 5 + 1) (List.length (pcell L)) && (decide (0 ≤ Ins.d (elt L x)) && decide (Ins.d (elt L x) < 6) && (AC.isB (Option.getD (bcs b)[Int.toNat (Ins.d (elt L x)) * 1]? (AC.b false)) && Nat.blt (Int.toNat (Ins.d (elt L x)) * 1) (List.length (bcs b)) && (!!V6.get b (Int.toNat (Ins.d (elt L x))) && (decide ((↑x : Int) < (↑p : Int)) && (Nat.ble (Int.toNat (↑x : Int) * 5 + 5) (List.length (pcell L)) && (decide ((↑x : Int) < (↑p : Int)) && (Nat.ble (0 + Int.toNat (↑x : Int) * 6 + List.length (bcs a1)) (List.length (rcell A)) && true && true))))))))))))))) = true) (c0 : Eff.mk (AV.ag (List.take 5 (List.drop (Int.toNat (↑x : Int) * 5) (pcell L)))) [] none = Eff.mk (AV.ag (Ins.cs (elt L x))) [] none) (c1 : Eff.mk (AV.c (AC.sl 4 (0 + Int.toNat (↑x : Int) * 6) (Int.toNat ((↑p : Int)) - Int.toNat (↑x : Int)) (Int.toNat ((↑p : Int)) - Int.toNat (↑x : Int)))) [] none = Eff.mk (AV.c (AC.sl 4 (x * 6) (p - x) (p - x))) [] none) (c2 : CallOK Try.prog (CallRec.mk 88 [AV.ag (Ins.cs (elt L x)), AV.c (AC.sl 4 (x * 6) (p - x) (p - x))] [(4, Ent.mk true (rcell A) 0)] (Eff.mk (AV.ag (bcs b)) [] none))) (c3 : Eff.mk (AV.ag (List.take 5 (List.drop (Int.toNat (↑x : Int) * 5) (pcell L)))) [] none = Eff.mk (AV.ag (Ins.cs (elt L x))) [] none) (c4 : CallOK Try.prog (CallRec.mk 89 [AV.ag (Ins.cs (elt L x))] [] (Eff.mk (AV.c (AC.b (decide (Ins.op (elt L x) ≤ 10)))) [] none))) (c5 : Eff.mk (AV.c (AC.i (AC.asI (Option.getD (pcell L)[Int.toNat (↑x : Int) * 5 + 1]? (AC.b false))))) [] none = Eff.mk (AV.c (AC.i (Ins.d (elt L x)))) [] none) (c6 : Eff.mk (AV.c (AC.b (AC.asB (Option.getD (bcs b)[Int.toNat (Ins.d (elt L x)) * 1]? (AC.b false))))) [] none = Eff.mk (AV.c (AC.b (V6.get b (Int.toNat (Ins.d (elt L x)))))) [] none) (c7 : Eff.mk (AV.ag (List.take 5 (List.drop (Int.toNat (↑x : Int) * 5) (pcell L)))) [] none = Eff.mk (AV.ag (Ins.cs (elt L x))) [] none) (c8 : CallOK Try.prog (CallRec.mk 90 [AV.ag (Ins.cs (elt L x)), AV.ag (bcs b)] [] (Eff.mk (AV.ag (bcs a1)) [] none))) (c9 : Eff.mk (AV.raw undef) [(4, splice (rcell A) (0 + Int.toNat (↑x : Int) * 6) (bcs a1))] none = Eff.mk (AV.raw undef) [(4, rcell (List.set A x a1))] none) (lo : Kn.Low ⟨[(1, AV.c (AC.w 1)), (2, AV.c (AC.w 5))], [(0, Ent.mk true (pcell L) r), (1, Ent.mk true [AC.sx 0 p] 0), (4, Ent.mk true (rcell (List.set A x a1)) 0), (5, Ent.mk true [AC.sl 4 0 p p] 0)], 10⟩) (hF : ∀ k, C.F k → k < 10) :
    PartIn Try.prog C Try.f54.ntmps ([Item.code (bodyR Try.f54), Item.inLoop Code.skip]) (Kn.mk [(1, AV.c (AC.w 1)), (2, AV.c (AC.w 5)), (3, AV.c (AC.i (↑x : Int)))] [(0, Ent.mk true (pcell L) r), (1, Ent.mk true [AC.sx 0 p] 0), (4, Ent.mk true (rcell A) 0), (5, Ent.mk true [AC.sl 4 0 p p] 0)] 10) ⟨[(1, AV.c (AC.w 1)), (2, AV.c (AC.w 5))], [(0, Ent.mk true (pcell L) r), (1, Ent.mk true [AC.sx 0 p] 0), (4, Ent.mk true (rcell (List.set A x a1)) 0), (5, Ent.mk true [AC.sl 4 0 p p] 0)], 10⟩ :=
  run_part ⟨[(1, AV.c (AC.w 1)), (2, AV.c (AC.w 5))], [(0, Ent.mk true (pcell L) r), (1, Ent.mk true [AC.sx 0 p] 0), (4, Ent.mk true (rcell (List.set A x a1)) 0), (5, Ent.mk true [AC.sl 4 0 p p] 0)], 10⟩ 2000 [Eff.mk (AV.ag (Ins.cs (elt L x))) [] none, Eff.mk (AV.c (AC.sl 4 (x * 6) (p - x) (p - x))) [] none, Eff.mk (AV.ag (bcs b)) [] none, Eff.mk (AV.ag (Ins.cs (elt L x))) [] none, Eff.mk (AV.c (AC.b (decide (Ins.op (elt L x) ≤ 10)))) [] none, Eff.mk (AV.c (AC.i (Ins.d (elt L x)))) [] none, Eff.mk (AV.c (AC.b (V6.get b (Int.toNat (Ins.d (elt L x)))))) [] none, Eff.mk (AV.ag (Ins.cs (elt L x))) [] none, Eff.mk (AV.ag (bcs a1)) [] none, Eff.mk (AV.raw undef) [(4, rcell (List.set A x a1))] none] [true, false] ([true]) [(4, 3), (4, 6), (5, 3), (5, 10), (5, 12), (6, 4), (7, 5), (7, 9)] Try.func54 (by kernel_rfl) h (cr_same c0 (cr_same c1 (cr_cons c2 (cr_same c3 (cr_cons c4 (cr_same c5 (cr_same c6 (cr_same c7 (cr_cons c8 (cr_same c9 cr_nil)))))))))) lo hF rfl rfl
theorem rdN_w0 {L : List Ins} {A : List (V6 Bool)} {p : Nat} {r : Nat} {x : Nat} {b : V6 Bool} {a1 : V6 Bool} {C : Cx} (h : (decide ((↑x : Int) < (↑p : Int)) && (Nat.ble (Int.toNat (↑x : Int) * 5 + 5) (List.length (pcell L)) && (decide ((↑x : Int) ≤ (↑p : Int)) && decide ((↑p : Int) ≤ (↑p : Int)) && decide ((↑p : Int) ≤ (↑p : Int)) && decide ((↑x : Int) < (↑p : Int)) && (decide ((↑x : Int) < (↑p : Int)) && (Nat.ble (Int.toNat (↑x : Int) * 5 + 5) (List.length (pcell L)) && (!decide (Ins.op (elt L x) ≤ 10) && (decide ((↑x : Int) < (↑p : Int)) && (Nat.ble (Int.toNat (↑x : Int) * 5 + 5) (List.length (pcell L)) && (decide ((↑x : Int) < (↑p : Int)) && (Nat.ble (0 + Int.toNat (↑x : Int) * 6 + List.length (bcs a1)) (List.length (rcell A)) && true && true)))))))))) = true) (c0 : Eff.mk (AV.ag (List.take 5 (List.drop (Int.toNat (↑x : Int) * 5) (pcell L)))) [] none = Eff.mk (AV.ag (Ins.cs (elt L x))) [] none) (c1 : Eff.mk (AV.c (AC.sl 4 (0 + Int.toNat (↑x : Int) * 6) (Int.toNat ((↑p : Int)) - Int.toNat (↑x : Int)) (Int.toNat ((↑p : Int)) - Int.toNat (↑x : Int)))) [] none = Eff.mk (AV.c (AC.sl 4 (x * 6) (p - x) (p - x))) [] none) (c2 : CallOK Try.prog (CallRec.mk 88 [AV.ag (Ins.cs (elt L x)), AV.c (AC.sl 4 (x * 6) (p - x) (p - x))] [(4, Ent.mk true (rcell A) 0)] (Eff.mk (AV.ag (bcs b)) [] none))) (c3 : Eff.mk (AV.ag (List.take 5 (List.drop (Int.toNat (↑x : Int) * 5) (pcell L)))) [] none = Eff.mk (AV.ag (Ins.cs (elt L x))) [] none) (c4 : CallOK Try.prog (CallRec.mk 89 [AV.ag (Ins.cs (elt L x))] [] (Eff.mk (AV.c (AC.b (decide (Ins.op (elt L x) ≤ 10)))) [] none))) (c5 : Eff.mk (AV.ag (List.take 5 (List.drop (Int.toNat (↑x : Int) * 5) (pcell L)))) [] none = Eff.mk (AV.ag (Ins.cs (elt L x))) [] none) (c6 : CallOK Try.prog (CallRec.mk 90 [AV.ag (Ins.cs (elt L x)), AV.ag (bcs b)] [] (Eff.mk (AV.ag (bcs a1)) [] none))) (c7 : Eff.mk (AV.raw undef) [(4, splice (rcell A) (0 + Int.toNat (↑x : Int) * 6) (bcs a1))] none = Eff.mk (AV.raw undef) [(4, rcell (List.set A x a1))] none) (lo : Kn.Low ⟨[(1, AV.c (AC.w 1)), (2, AV.c (AC.w 5))], [(0, Ent.mk true (pcell L) r), (1, Ent.mk true [AC.sx 0 p] 0), (4, Ent.mk true (rcell (List.set A x a1)) 0), (5, Ent.mk true [AC.sl 4 0 p p] 0)], 10⟩) (hF : ∀ k, C.F k → k < 10) :
    PartIn Try.prog C Try.f54.ntmps ([Item.code (bodyR Try.f54), Item.inLoop Code.skip]) (Kn.mk [(1, AV.c (AC.w 1)), (2, AV.c (AC.w 5)), (3, AV.c (AC.i (↑x : Int)))] [(0, Ent.mk true (pcell L) r), (1, Ent.mk true [AC.sx 0 p] 0), (4, Ent.mk true (rcell A) 0), (5, Ent.mk true [AC.sl 4 0 p p] 0)] 10) ⟨[(1, AV.c (AC.w 1)), (2, AV.c (AC.w 5))], [(0, Ent.mk true (pcell L) r), (1, Ent.mk true [AC.sx 0 p] 0), (4, Ent.mk true (rcell (List.set A x a1)) 0), (5, Ent.mk true [AC.sl 4 0 p p] 0)], 10⟩ :=
  run_part ⟨[(1, AV.c (AC.w 1)), (2, AV.c (AC.w 5))], [(0, Ent.mk true (pcell L) r), (1, Ent.mk true [AC.sx 0 p] 0), (4, Ent.mk true (rcell (List.set A x a1)) 0), (5, Ent.mk true [AC.sl 4 0 p p] 0)], 10⟩ 2000 [Eff.mk (AV.ag (Ins.cs (elt L x))) [] none, Eff.mk (AV.c (AC.sl 4 (x * 6) (p - x) (p - x))) [] none, Eff.mk (AV.ag (bcs b)) [] none, Eff.mk (AV.ag (Ins.cs (elt L x))) [] none, Eff.mk (AV.c (AC.b (decide (Ins.op (elt L x) ≤ 10)))) [] none, Eff.mk (AV.ag (Ins.cs (elt L x))) [] none, Eff.mk (AV.ag (bcs a1)) [] none, Eff.mk (AV.raw undef) [(4, rcell (List.set A x a1))] none] [false, false] ([true]) [(4, 3), (4, 6), (5, 3), (5, 10), (5, 12), (6, 4), (7, 5), (7, 9)] Try.func54 (by kernel_rfl) h (cr_same c0 (cr_same c1 (cr_cons c2 (cr_same c3 (cr_cons c4 (cr_same c5 (cr_cons c6 (cr_same c7 cr_nil)))))))) lo hF rfl rfl
end Go.Proofs.Ytkigmocchaikgab

/- Ways of bodies, written by a program (ways.py): what each asks for, and hands back. -/
namespace Go.Proofs.Ytkigmocchaikgab
open Go.RowKit

theorem flb_w0 {i : Ins} {A : List (V6 Bool)} {o : Nat} {q : Nat} {c : Nat} {w : World} {β : Bs} {n : Nat} (h : (Ins.op i == 15 && true) = true) :
    ART Try.prog 88 (cx w β n []) Try.f88.ntmps ([Item.code (bodyOf Try.f88)]) (Kn.start [AV.ag (Ins.cs i), AV.c (AC.sl 0 o q c)] [(0, Ent.mk false (rcell A) 0)] 1) (REff w β ⟨AV.ag [AC.b false, AC.b false, AC.b false, AC.b false, AC.b false, AC.b false], [], none⟩) :=
  run_eff [] (none) 2000 [] [true] ([]) [(4, 3), (4, 5), (6, 2), (6, 6), (6, 8), (7, 2)] Try.func88 (ekeys0 rfl n) (by kernel_rfl) h cr_nil
theorem flb_w1 {i : Ins} {A : List (V6 Bool)} {o : Nat} {q : Nat} {c : Nat} {v : V6 Bool} {w : World} {β : Bs} {n : Nat} (h : (!Ins.op i == 15 && (Ins.op i == 12 && (decide (0 ≤ 1 + Ins.of i) && decide (1 + Ins.of i < (↑q : Int)) && (Nat.ble (o + Int.toNat (1 + Ins.of i) * 6 + 6) (List.length (rcell A)) && true)))) = true) (c0 : Eff.mk (AV.c (AC.i (IntKind.wrap IntKind.i64 (1 + Ins.of i)))) [] none = Eff.mk (AV.c (AC.i (1 + Ins.of i))) [] none) (c1 : Eff.mk (AV.ag (List.take 6 (List.drop (o + Int.toNat (1 + Ins.of i) * 6) (rcell A)))) [] none = Eff.mk (AV.ag (bcs v)) [] none) :
    ART Try.prog 88 (cx w β n []) Try.f88.ntmps ([Item.code (bodyOf Try.f88)]) (Kn.start [AV.ag (Ins.cs i), AV.c (AC.sl 0 o q c)] [(0, Ent.mk false (rcell A) 0)] 1) (REff w β ⟨AV.ag (bcs v), [], none⟩) :=
  run_eff [] (none) 2000 [Eff.mk (AV.c (AC.i (1 + Ins.of i))) [] none, Eff.mk (AV.ag (bcs v)) [] none] [false, true] ([]) [(4, 3), (4, 5), (6, 2), (6, 6), (6, 8), (7, 2)] Try.func88 (ekeys0 rfl n) (by kernel_rfl) h (cr_same c0 (cr_same c1 cr_nil))
theorem flb_w2 {i : Ins} {A : List (V6 Bool)} {o : Nat} {q : Nat} {c : Nat} {u : V6 Bool} {v : V6 Bool} {w : World} {β : Bs} {n : Nat} (h : (!Ins.op i == 15 && (!Ins.op i == 12 && (branchB i && (decide (1 < (↑q : Int)) && (Nat.ble (o + 6 + 6) (List.length (rcell A)) && (decide (0 ≤ 1 + Ins.of i) && decide (1 + Ins.of i < (↑q : Int)) && (Nat.ble (o + Int.toNat (1 + Ins.of i) * 6 + 6) (List.length (rcell A)) && true))))))) = true) (c0 : CallOK Try.prog (CallRec.mk 86 [AV.ag (Ins.cs i)] [] (Eff.mk (AV.c (AC.b (branchB i))) [] none))) (c1 : Eff.mk (AV.ag (List.take 6 (List.drop (o + 6) (rcell A)))) [] none = Eff.mk (AV.ag (bcs u)) [] none) (c2 : Eff.mk (AV.c (AC.i (IntKind.wrap IntKind.i64 (1 + Ins.of i)))) [] none = Eff.mk (AV.c (AC.i (1 + Ins.of i))) [] none) (c3 : Eff.mk (AV.ag (List.take 6 (List.drop (o + Int.toNat (1 + Ins.of i) * 6) (rcell A)))) [] none = Eff.mk (AV.ag (bcs v)) [] none) (c4 : CallOK Try.prog (CallRec.mk 122 [AV.ag (bcs u), AV.ag (bcs v)] [] (Eff.mk (AV.ag [AC.b (V6.x0 u || V6.x0 v), AC.b (V6.x1 u || V6.x1 v), AC.b (V6.x2 u || V6.x2 v), AC.b (V6.x3 u || V6.x3 v), AC.b (V6.x4 u || V6.x4 v), AC.b (V6.x5 u || V6.x5 v)]) [] none))) :
    ART Try.prog 88 (cx w β n []) Try.f88.ntmps ([Item.code (bodyOf Try.f88)]) (Kn.start [AV.ag (Ins.cs i), AV.c (AC.sl 0 o q c)] [(0, Ent.mk false (rcell A) 0)] 1) (REff w β ⟨AV.ag [AC.b (V6.x0 u || V6.x0 v), AC.b (V6.x1 u || V6.x1 v), AC.b (V6.x2 u || V6.x2 v), AC.b (V6.x3 u || V6.x3 v), AC.b (V6.x4 u || V6.x4 v), AC.b (V6.x5 u || V6.x5 v)], [], none⟩) :=
  run_eff [] (none) 2000 [Eff.mk (AV.c (AC.b (branchB i))) [] none, Eff.mk (AV.ag (bcs u)) [] none, Eff.mk (AV.c (AC.i (1 + Ins.of i))) [] none, Eff.mk (AV.ag (bcs v)) [] none, Eff.mk (AV.ag [AC.b (V6.x0 u || V6.x0 v), AC.b (V6.x1 u || V6.x1 v), AC.b (V6.x2 u || V6.x2 v), AC.b (V6.x3 u || V6.x3 v), AC.b (V6.x4 u || V6.x4 v), AC.b (V6.x5 u || V6.x5 v)]) [] none] [false, false, true] ([]) [(4, 3), (4, 5), (6, 2), (6, 6), (6, 8), (7, 2)] Try.func88 (ekeys0 rfl n) (by kernel_rfl) h (cr_cons c0 (cr_same c1 (cr_same c2 (cr_same c3 (cr_cons c4 cr_nil)))))
theorem flb_w3 {i : Ins} {A : List (V6 Bool)} {o : Nat} {q : Nat} {c : Nat} {u : V6 Bool} {w : World} {β : Bs} {n : Nat} (h : (!Ins.op i == 15 && (!Ins.op i == 12 && (!branchB i && (decide (1 < (↑q : Int)) && (Nat.ble (o + 6 + 6) (List.length (rcell A)) && true))))) = true) (c0 : CallOK Try.prog (CallRec.mk 86 [AV.ag (Ins.cs i)] [] (Eff.mk (AV.c (AC.b (branchB i))) [] none))) (c1 : Eff.mk (AV.ag (List.take 6 (List.drop (o + 6) (rcell A)))) [] none = Eff.mk (AV.ag (bcs u)) [] none) :
    ART Try.prog 88 (cx w β n []) Try.f88.ntmps ([Item.code (bodyOf Try.f88)]) (Kn.start [AV.ag (Ins.cs i), AV.c (AC.sl 0 o q c)] [(0, Ent.mk false (rcell A) 0)] 1) (REff w β ⟨AV.ag (bcs u), [], none⟩) :=
  run_eff [] (none) 2000 [Eff.mk (AV.c (AC.b (branchB i))) [] none, Eff.mk (AV.ag (bcs u)) [] none] [false, false, false] ([]) [(4, 3), (4, 5), (6, 2), (6, 6), (6, 8), (7, 2)] Try.func88 (ekeys0 rfl n) (by kernel_rfl) h (cr_cons c0 (cr_same c1 cr_nil))
theorem flb_all {i : Ins} {A : List (V6 Bool)} {o : Nat} {q : Nat} {c : Nat} {u : V6 Bool} {v : V6 Bool} {w : World} {β : Bs} {n : Nat} {E : Eff}
    (l0 : (Ins.op i == 15) = true → ((⟨AV.ag [AC.b false, AC.b false, AC.b false, AC.b false, AC.b false, AC.b false], [], none⟩ : Eff) = E))
    (l1 : (Ins.op i == 15) = false → (Ins.op i == 12) = true → (decide (0 ≤ 1 + Ins.of i) && decide (1 + Ins.of i < (↑q : Int))) = true ∧ (Nat.ble (o + Int.toNat (1 + Ins.of i) * 6 + 6) (List.length (rcell A))) = true ∧ (Eff.mk (AV.c (AC.i (IntKind.wrap IntKind.i64 (1 + Ins.of i)))) [] none = Eff.mk (AV.c (AC.i (1 + Ins.of i))) [] none) ∧ (Eff.mk (AV.ag (List.take 6 (List.drop (o + Int.toNat (1 + Ins.of i) * 6) (rcell A)))) [] none = Eff.mk (AV.ag (bcs v)) [] none) ∧ ((⟨AV.ag (bcs v), [], none⟩ : Eff) = E))
    (l2 : (Ins.op i == 15) = false → (Ins.op i == 12) = false → (branchB i) = true → (decide (1 < (↑q : Int))) = true ∧ (Nat.ble (o + 6 + 6) (List.length (rcell A))) = true ∧ (decide (0 ≤ 1 + Ins.of i) && decide (1 + Ins.of i < (↑q : Int))) = true ∧ (Nat.ble (o + Int.toNat (1 + Ins.of i) * 6 + 6) (List.length (rcell A))) = true ∧ (CallOK Try.prog (CallRec.mk 86 [AV.ag (Ins.cs i)] [] (Eff.mk (AV.c (AC.b (branchB i))) [] none))) ∧ (Eff.mk (AV.ag (List.take 6 (List.drop (o + 6) (rcell A)))) [] none = Eff.mk (AV.ag (bcs u)) [] none) ∧ (Eff.mk (AV.c (AC.i (IntKind.wrap IntKind.i64 (1 + Ins.of i)))) [] none = Eff.mk (AV.c (AC.i (1 + Ins.of i))) [] none) ∧ (Eff.mk (AV.ag (List.take 6 (List.drop (o + Int.toNat (1 + Ins.of i) * 6) (rcell A)))) [] none = Eff.mk (AV.ag (bcs v)) [] none) ∧ (CallOK Try.prog (CallRec.mk 122 [AV.ag (bcs u), AV.ag (bcs v)] [] (Eff.mk (AV.ag [AC.b (V6.x0 u || V6.x0 v), AC.b (V6.x1 u || V6.x1 v), AC.b (V6.x2 u || V6.x2 v), AC.b (V6.x3 u || V6.x3 v), AC.b (V6.x4 u || V6.x4 v), AC.b (V6.x5 u || V6.x5 v)]) [] none))) ∧ ((⟨AV.ag [AC.b (V6.x0 u || V6.x0 v), AC.b (V6.x1 u || V6.x1 v), AC.b (V6.x2 u || V6.x2 v), AC.b (V6.x3 u || V6.x3 v), AC.b (V6.x4 u || V6.x4 v), AC.b (V6.x5 u || V6.x5 v)], [], none⟩ : Eff) = E))
    (l3 : (Ins.op i == 15) = false → (Ins.op i == 12) = false → (branchB i) = false → (decide (1 < (↑q : Int))) = true ∧ (Nat.ble (o + 6 + 6) (List.length (rcell A))) = true ∧ (CallOK Try.prog (CallRec.mk 86 [AV.ag (Ins.cs i)] [] (Eff.mk (AV.c (AC.b (branchB i))) [] none))) ∧ (Eff.mk (AV.ag (List.take 6 (List.drop (o + 6) (rcell A)))) [] none = Eff.mk (AV.ag (bcs u)) [] none) ∧ ((⟨AV.ag (bcs u), [], none⟩ : Eff) = E)) :
    ART Try.prog 88 (cx w β n []) Try.f88.ntmps ([Item.code (bodyOf Try.f88)]) (Kn.start [AV.ag (Ins.cs i), AV.c (AC.sl 0 o q c)] [(0, Ent.mk false (rcell A) 0)] 1) (REff w β E) :=
  (tf (Ins.op i == 15)).elim (fun h0 => (match l0 h0 with | e => art_eq (flb_w0 (and_yes h0 rfl)) e)) (fun h0 => (tf (Ins.op i == 12)).elim (fun h1 => (match l1 h0 h1 with | ⟨o0, o1, c0, c1, e⟩ => art_eq (flb_w1 (and_yes (not_yes h0) (and_yes h1 (and_yes o0 (and_yes o1 rfl)))) c0 c1) e)) (fun h1 => (tf (branchB i)).elim (fun h2 => (match l2 h0 h1 h2 with | ⟨o0, o1, o2, o3, c0, c1, c2, c3, c4, e⟩ => art_eq (flb_w2 (and_yes (not_yes h0) (and_yes (not_yes h1) (and_yes h2 (and_yes o0 (and_yes o1 (and_yes o2 (and_yes o3 rfl))))))) c0 c1 c2 c3 c4) e)) (fun h2 => (match l3 h0 h1 h2 with | ⟨o0, o1, c0, c1, e⟩ => art_eq (flb_w3 (and_yes (not_yes h0) (and_yes (not_yes h1) (and_yes (not_yes h2) (and_yes o0 (and_yes o1 rfl))))) c0 c1) e))))
theorem fla_w0 {i : Ins} {b : V6 Bool} (h : (decide (Ins.op i ≤ 10) && (decide (0 ≤ Ins.d i) && decide (Ins.d i < 6) && (Nat.ble (Int.toNat (Ins.d i) * 1 + 1) (List.length (bcs b)) && true && true))) = true) (c0 : CallOK Try.prog (CallRec.mk 89 [AV.ag (Ins.cs i)] [] (Eff.mk (AV.c (AC.b (decide (Ins.op i ≤ 10)))) [] none))) (c1 : Eff.mk (AV.raw undef) [(1, splice (bcs b) (Int.toNat (Ins.d i) * 1) [AC.b false])] none = Eff.mk (AV.raw undef) [(1, (bcs (V6.set b (Int.toNat (Ins.d i)) false)))] none) (c2 : CallOK Try.prog (CallRec.mk 57 [AV.ag (Ins.cs i)] [] (Eff.mk (AV.ag (bcs (useOf i))) [] none))) (c3 : CallOK Try.prog (CallRec.mk 122 [AV.ag (bcs (useOf i)), AV.ag (bcs (V6.set b (Int.toNat (Ins.d i)) false))] [] (Eff.mk (AV.ag [AC.b (V6.x0 (useOf i) || V6.x0 (V6.set b (Int.toNat (Ins.d i)) false)), AC.b (V6.x1 (useOf i) || V6.x1 (V6.set b (Int.toNat (Ins.d i)) false)), AC.b (V6.x2 (useOf i) || V6.x2 (V6.set b (Int.toNat (Ins.d i)) false)), AC.b (V6.x3 (useOf i) || V6.x3 (V6.set b (Int.toNat (Ins.d i)) false)), AC.b (V6.x4 (useOf i) || V6.x4 (V6.set b (Int.toNat (Ins.d i)) false)), AC.b (V6.x5 (useOf i) || V6.x5 (V6.set b (Int.toNat (Ins.d i)) false))]) [] none))) :
    CallOK Try.prog ⟨90, [AV.ag (Ins.cs i), AV.ag (bcs b)], [], ⟨AV.ag [AC.b (V6.x0 (useOf i) || V6.x0 (V6.set b (Int.toNat (Ins.d i)) false)), AC.b (V6.x1 (useOf i) || V6.x1 (V6.set b (Int.toNat (Ins.d i)) false)), AC.b (V6.x2 (useOf i) || V6.x2 (V6.set b (Int.toNat (Ins.d i)) false)), AC.b (V6.x3 (useOf i) || V6.x3 (V6.set b (Int.toNat (Ins.d i)) false)), AC.b (V6.x4 (useOf i) || V6.x4 (V6.set b (Int.toNat (Ins.d i)) false)), AC.b (V6.x5 (useOf i) || V6.x5 (V6.set b (Int.toNat (Ins.d i)) false))], [], none⟩⟩ :=
  val_run 2000 [Eff.mk (AV.c (AC.b (decide (Ins.op i ≤ 10)))) [] none, Eff.mk (AV.raw undef) [(1, (bcs (V6.set b (Int.toNat (Ins.d i)) false)))] none, Eff.mk (AV.ag (bcs (useOf i))) [] none, Eff.mk (AV.ag [AC.b (V6.x0 (useOf i) || V6.x0 (V6.set b (Int.toNat (Ins.d i)) false)), AC.b (V6.x1 (useOf i) || V6.x1 (V6.set b (Int.toNat (Ins.d i)) false)), AC.b (V6.x2 (useOf i) || V6.x2 (V6.set b (Int.toNat (Ins.d i)) false)), AC.b (V6.x3 (useOf i) || V6.x3 (V6.set b (Int.toNat (Ins.d i)) false)), AC.b (V6.x4 (useOf i) || V6.x4 (V6.set b (Int.toNat (Ins.d i)) false)), AC.b (V6.x5 (useOf i) || V6.x5 (V6.set b (Int.toNat (Ins.d i)) false))]) [] none] [true] ([]) [(2, 3)] Try.func90 rfl rfl rfl rfl (by kernel_rfl) h (cr_cons c0 (cr_same c1 (cr_cons c2 (cr_cons c3 cr_nil))))
theorem fla_w1 {i : Ins} {b : V6 Bool} (h : (!decide (Ins.op i ≤ 10) && true) = true) (c0 : CallOK Try.prog (CallRec.mk 89 [AV.ag (Ins.cs i)] [] (Eff.mk (AV.c (AC.b (decide (Ins.op i ≤ 10)))) [] none))) (c1 : CallOK Try.prog (CallRec.mk 57 [AV.ag (Ins.cs i)] [] (Eff.mk (AV.ag (bcs (useOf i))) [] none))) (c2 : CallOK Try.prog (CallRec.mk 122 [AV.ag (bcs (useOf i)), AV.ag (bcs b)] [] (Eff.mk (AV.ag [AC.b (V6.x0 (useOf i) || V6.x0 b), AC.b (V6.x1 (useOf i) || V6.x1 b), AC.b (V6.x2 (useOf i) || V6.x2 b), AC.b (V6.x3 (useOf i) || V6.x3 b), AC.b (V6.x4 (useOf i) || V6.x4 b), AC.b (V6.x5 (useOf i) || V6.x5 b)]) [] none))) :
    CallOK Try.prog ⟨90, [AV.ag (Ins.cs i), AV.ag (bcs b)], [], ⟨AV.ag [AC.b (V6.x0 (useOf i) || V6.x0 b), AC.b (V6.x1 (useOf i) || V6.x1 b), AC.b (V6.x2 (useOf i) || V6.x2 b), AC.b (V6.x3 (useOf i) || V6.x3 b), AC.b (V6.x4 (useOf i) || V6.x4 b), AC.b (V6.x5 (useOf i) || V6.x5 b)], [], none⟩⟩ :=
  val_run 2000 [Eff.mk (AV.c (AC.b (decide (Ins.op i ≤ 10)))) [] none, Eff.mk (AV.ag (bcs (useOf i))) [] none, Eff.mk (AV.ag [AC.b (V6.x0 (useOf i) || V6.x0 b), AC.b (V6.x1 (useOf i) || V6.x1 b), AC.b (V6.x2 (useOf i) || V6.x2 b), AC.b (V6.x3 (useOf i) || V6.x3 b), AC.b (V6.x4 (useOf i) || V6.x4 b), AC.b (V6.x5 (useOf i) || V6.x5 b)]) [] none] [false] ([]) [(2, 3)] Try.func90 rfl rfl rfl rfl (by kernel_rfl) h (cr_cons c0 (cr_cons c1 (cr_cons c2 cr_nil)))
theorem fla_all {i : Ins} {b : V6 Bool} {V : AV}
    (l0 : (decide (Ins.op i ≤ 10)) = true → (decide (0 ≤ Ins.d i) && decide (Ins.d i < 6)) = true ∧ (Nat.ble (Int.toNat (Ins.d i) * 1 + 1) (List.length (bcs b)) && true) = true ∧ (CallOK Try.prog (CallRec.mk 89 [AV.ag (Ins.cs i)] [] (Eff.mk (AV.c (AC.b (decide (Ins.op i ≤ 10)))) [] none))) ∧ (Eff.mk (AV.raw undef) [(1, splice (bcs b) (Int.toNat (Ins.d i) * 1) [AC.b false])] none = Eff.mk (AV.raw undef) [(1, (bcs (V6.set b (Int.toNat (Ins.d i)) false)))] none) ∧ (CallOK Try.prog (CallRec.mk 57 [AV.ag (Ins.cs i)] [] (Eff.mk (AV.ag (bcs (useOf i))) [] none))) ∧ (CallOK Try.prog (CallRec.mk 122 [AV.ag (bcs (useOf i)), AV.ag (bcs (V6.set b (Int.toNat (Ins.d i)) false))] [] (Eff.mk (AV.ag [AC.b (V6.x0 (useOf i) || V6.x0 (V6.set b (Int.toNat (Ins.d i)) false)), AC.b (V6.x1 (useOf i) || V6.x1 (V6.set b (Int.toNat (Ins.d i)) false)), AC.b (V6.x2 (useOf i) || V6.x2 (V6.set b (Int.toNat (Ins.d i)) false)), AC.b (V6.x3 (useOf i) || V6.x3 (V6.set b (Int.toNat (Ins.d i)) false)), AC.b (V6.x4 (useOf i) || V6.x4 (V6.set b (Int.toNat (Ins.d i)) false)), AC.b (V6.x5 (useOf i) || V6.x5 (V6.set b (Int.toNat (Ins.d i)) false))]) [] none))) ∧ (AV.ag [AC.b (V6.x0 (useOf i) || V6.x0 (V6.set b (Int.toNat (Ins.d i)) false)), AC.b (V6.x1 (useOf i) || V6.x1 (V6.set b (Int.toNat (Ins.d i)) false)), AC.b (V6.x2 (useOf i) || V6.x2 (V6.set b (Int.toNat (Ins.d i)) false)), AC.b (V6.x3 (useOf i) || V6.x3 (V6.set b (Int.toNat (Ins.d i)) false)), AC.b (V6.x4 (useOf i) || V6.x4 (V6.set b (Int.toNat (Ins.d i)) false)), AC.b (V6.x5 (useOf i) || V6.x5 (V6.set b (Int.toNat (Ins.d i)) false))] = V))
    (l1 : (decide (Ins.op i ≤ 10)) = false → (CallOK Try.prog (CallRec.mk 89 [AV.ag (Ins.cs i)] [] (Eff.mk (AV.c (AC.b (decide (Ins.op i ≤ 10)))) [] none))) ∧ (CallOK Try.prog (CallRec.mk 57 [AV.ag (Ins.cs i)] [] (Eff.mk (AV.ag (bcs (useOf i))) [] none))) ∧ (CallOK Try.prog (CallRec.mk 122 [AV.ag (bcs (useOf i)), AV.ag (bcs b)] [] (Eff.mk (AV.ag [AC.b (V6.x0 (useOf i) || V6.x0 b), AC.b (V6.x1 (useOf i) || V6.x1 b), AC.b (V6.x2 (useOf i) || V6.x2 b), AC.b (V6.x3 (useOf i) || V6.x3 b), AC.b (V6.x4 (useOf i) || V6.x4 b), AC.b (V6.x5 (useOf i) || V6.x5 b)]) [] none))) ∧ (AV.ag [AC.b (V6.x0 (useOf i) || V6.x0 b), AC.b (V6.x1 (useOf i) || V6.x1 b), AC.b (V6.x2 (useOf i) || V6.x2 b), AC.b (V6.x3 (useOf i) || V6.x3 b), AC.b (V6.x4 (useOf i) || V6.x4 b), AC.b (V6.x5 (useOf i) || V6.x5 b)] = V)) :
    CallOK Try.prog ⟨90, [AV.ag (Ins.cs i), AV.ag (bcs b)], [], ⟨V, [], none⟩⟩ :=
  (tf (decide (Ins.op i ≤ 10))).elim (fun h0 => (match l0 h0 with | ⟨o0, o1, c0, c1, c2, c3, e⟩ => ok_eq (fla_w0 (and_yes h0 (and_yes o0 (and_yes o1 rfl))) c0 c1 c2 c3) e)) (fun h0 => (match l1 h0 with | ⟨c0, c1, c2, e⟩ => ok_eq (fla_w1 (and_yes (not_yes h0) rfl) c0 c1 c2) e))
theorem ffb_w0 {n1 : Int} {w : World} {β : Bs} {n : Nat} (hk : EKeys n [] (some 0) ⟨AV.c (AC.f 121 [0 + 0]), [], some (0, Ent.mk true [AC.i n1] 0)⟩) :
    ART Try.prog 87 (cx w β n []) Try.f87.ntmps ([Item.code (bodyOf Try.f87)]) (Kn.start [AV.c (AC.i n1)] [] 0) (REff w β ⟨AV.c (AC.f 121 [0 + 0]), [], some (0, Ent.mk true [AC.i n1] 0)⟩) :=
  run_eff [] (some 0) 2000 [] [] ([]) [] Try.func87 hk (by kernel_rfl) rfl cr_nil
theorem f1Top_w0 {L : List Ins} {S : List St} {p : Nat} {C : Cx} {R : Ending → World → Prop} (c0 : Eff.mk (AV.c (AC.i (IntKind.wrap IntKind.i64 ((↑p : Int) - 1)))) [] none = Eff.mk (AV.c (AC.i ((↑p : Int) - 1))) [] none) (lo : Kn.Low ⟨[(0, AV.c (AC.sx 0 p)), (1, AV.c (AC.sl 1 0 p p)), (7, AV.c (AC.i ((↑p : Int) - 1))), (8, AV.c (AC.i 0))], [(0, Ent.mk true (pcell L) 5), (1, Ent.mk false (scell S) 0)], 2⟩) (hF : ∀ k, C.F k → k < 2) (z : ART Try.prog 51 C Try.f51.ntmps (cutAt Try.f51 0) ⟨[(0, AV.c (AC.sx 0 p)), (1, AV.c (AC.sl 1 0 p p)), (7, AV.c (AC.i ((↑p : Int) - 1))), (8, AV.c (AC.i 0))], [(0, Ent.mk true (pcell L) 5), (1, Ent.mk false (scell S) 0)], 2⟩ R) :
    ART Try.prog 51 C Try.f51.ntmps ([Item.code (bodyOf Try.f51)]) (Kn.start [AV.c (AC.sx 0 p), AV.c (AC.sl 1 0 p p)] [(0, Ent.mk true (pcell L) 5), (1, Ent.mk false (scell S) 0)] 2) R :=
  run_cut ⟨[(0, AV.c (AC.sx 0 p)), (1, AV.c (AC.sl 1 0 p p)), (7, AV.c (AC.i ((↑p : Int) - 1))), (8, AV.c (AC.i 0))], [(0, Ent.mk true (pcell L) 5), (1, Ent.mk false (scell S) 0)], 2⟩ 2000 [Eff.mk (AV.c (AC.i ((↑p : Int) - 1))) [] none] [] ([true]) [(0, 2)] Try.func51 (by kernel_rfl) rfl (cr_same c0 cr_nil) lo hF z
theorem f1Round_w0 {L : List Ins} {S : List St} {j : Nat} {p : Nat} {r : Nat} {q : Int} {f : Ins} {C : Cx} {R : Ending → World → Prop} (h : (decide ((↑j : Int) < q) && (decide ((↑j : Int) < (↑p : Int)) && (Nat.ble (Int.toNat (↑j : Int) * 5 + 5) (List.length (pcell L)) && (decide ((↑j : Int) < (↑p : Int)) && (Nat.ble (0 + Int.toNat (↑j : Int) * 31 + 31) (List.length (scell S)) && (decide ((↑j : Int) < (↑p : Int)) && (Nat.ble (Int.toNat (↑j : Int) * 5 + List.length (Ins.cs f)) (List.length (pcell L)) && true && true))))))) = true) (c0 : Eff.mk (AV.ag (List.take 5 (List.drop (Int.toNat (↑j : Int) * 5) (pcell L)))) [] none = Eff.mk (AV.ag (Ins.cs (elt L j))) [] none) (c1 : Eff.mk (AV.ag (List.take 31 (List.drop (0 + Int.toNat (↑j : Int) * 31) (scell S)))) [] none = Eff.mk (AV.ag (St.cs (stAt S j))) [] none) (c2 : CallOK Try.prog (CallRec.mk 52 [AV.ag (Ins.cs (elt L j)), AV.ag (St.cs (stAt S j))] [] (Eff.mk (AV.ag (Ins.cs f)) [] none))) (c3 : Eff.mk (AV.raw undef) [(0, splice (pcell L) (Int.toNat (↑j : Int) * 5) (Ins.cs f))] none = Eff.mk (AV.raw undef) [(0, pcell (List.set L j f))] none) (c4 : Eff.mk (AV.c (AC.i (IntKind.wrap IntKind.i64 ((↑j : Int) + 1)))) [] none = Eff.mk (AV.c (AC.i (↑(j + 1) : Int))) [] none) (lo : Kn.Low ⟨[(0, AV.c (AC.sx 0 p)), (1, AV.c (AC.sl 1 0 p p)), (7, AV.c (AC.i q)), (8, AV.c (AC.i (↑(j + 1) : Int)))], [(0, Ent.mk true (pcell (List.set L j f)) 0), (1, Ent.mk false (scell S) 0)], 2⟩) (hF : ∀ k, C.F k → k < 2) (z : ART Try.prog 51 C Try.f51.ntmps (cutAt Try.f51 0) ⟨[(0, AV.c (AC.sx 0 p)), (1, AV.c (AC.sl 1 0 p p)), (7, AV.c (AC.i q)), (8, AV.c (AC.i (↑(j + 1) : Int)))], [(0, Ent.mk true (pcell (List.set L j f)) 0), (1, Ent.mk false (scell S) 0)], 2⟩ R) :
    ART Try.prog 51 C Try.f51.ntmps (cutAt Try.f51 0) (Kn.mk [(0, AV.c (AC.sx 0 p)), (1, AV.c (AC.sl 1 0 p p)), (7, AV.c (AC.i q)), (8, AV.c (AC.i (↑j : Int)))] [(0, Ent.mk true (pcell L) r), (1, Ent.mk false (scell S) 0)] 2) R :=
  run_cut ⟨[(0, AV.c (AC.sx 0 p)), (1, AV.c (AC.sl 1 0 p p)), (7, AV.c (AC.i q)), (8, AV.c (AC.i (↑(j + 1) : Int)))], [(0, Ent.mk true (pcell (List.set L j f)) 0), (1, Ent.mk false (scell S) 0)], 2⟩ 2000 [Eff.mk (AV.ag (Ins.cs (elt L j))) [] none, Eff.mk (AV.ag (St.cs (stAt S j))) [] none, Eff.mk (AV.ag (Ins.cs f)) [] none, Eff.mk (AV.raw undef) [(0, pcell (List.set L j f))] none, Eff.mk (AV.c (AC.i (↑(j + 1) : Int))) [] none] [true] ([true]) [(3, 5), (3, 9), (3, 12), (4, 0)] Try.func51 (by kernel_rfl) h (cr_same c0 (cr_same c1 (cr_cons c2 (cr_same c3 (cr_same c4 cr_nil))))) lo hF z
theorem f1End_w0 {L : List Ins} {S : List St} {j : Nat} {p : Nat} {r : Nat} {q : Int} {w : World} {β : Bs} {n : Nat} (h : (!decide ((↑j : Int) < q) && true) = true) (hk : EKeys n [0] (none) ⟨AV.tu [], [(0, pcell L)], none⟩) :
    ART Try.prog 51 (cx w β n [0]) Try.f51.ntmps (cutAt Try.f51 0) (Kn.mk [(0, AV.c (AC.sx 0 p)), (1, AV.c (AC.sl 1 0 p p)), (7, AV.c (AC.i q)), (8, AV.c (AC.i (↑j : Int)))] [(0, Ent.mk true (pcell L) r), (1, Ent.mk false (scell S) 0)] 2) (REff w β ⟨AV.tu [], [(0, pcell L)], none⟩) :=
  run_eff [0] (none) 2000 [] [false] ([true]) [] Try.func51 hk (by kernel_rfl) h cr_nil
theorem chFOk_w0 {L : List Ins} {L2 : List Ins} {c : Nat} {S : List St} {w : World} {β : Bs} {n : Nat} (c0 : CallOK Try.prog (CallRec.mk 23 [AV.c (AC.sl 0 0 (List.length L) c)] [(0, Ent.mk false (pcell L) 0)] (Eff.mk (AV.tu [AT.ag [AC.i 0, AC.i 0, AC.sl 4 0 (List.length L) (List.length L)], AT.c (AC.i 0)]) [] (some (4, Ent.mk true (scell S) 0))))) (c1 : CallOK Try.prog (CallRec.mk 83 [AV.c (AC.sl 0 0 (List.length L) c)] [(0, Ent.mk false (pcell L) 0)] (Eff.mk (AV.c (AC.sx 14 (List.length L))) [] (some (14, Ent.mk true (pcell L) 5))))) (c2 : CallOK Try.prog (CallRec.mk 51 [AV.c (AC.sx 14 (List.length L)), AV.c (AC.sl 4 0 (List.length L) (List.length L))] [(14, Ent.mk true (pcell L) 5), (4, Ent.mk true (scell S) 0)] (Eff.mk (AV.tu []) [(14, pcell L2)] none))) (hk : EKeys n [] (some 14) ⟨AV.tu [AT.c (AC.sx 14 (List.length L)), AT.c (AC.i 0)], [], some (14, Ent.mk true (pcell L2) 0)⟩) :
    ART Try.prog 50 (cx w β n []) Try.f50.ntmps ([Item.code (bodyOf Try.f50)]) (Kn.start [AV.c (AC.sl 0 0 (List.length L) c), AV.c (AC.f 51 [])] [(0, Ent.mk false (pcell L) 0)] 1) (REff w β ⟨AV.tu [AT.c (AC.sx 14 (List.length L)), AT.c (AC.i 0)], [], some (14, Ent.mk true (pcell L2) 0)⟩) :=
  run_eff [] (some 14) 2000 [Eff.mk (AV.tu [AT.ag [AC.i 0, AC.i 0, AC.sl 4 0 (List.length L) (List.length L)], AT.c (AC.i 0)]) [] (some (4, Ent.mk true (scell S) 0)), Eff.mk (AV.c (AC.sx 14 (List.length L))) [] (some (14, Ent.mk true (pcell L) 5)), Eff.mk (AV.tu []) [(14, pcell L2)] none] [false, true] ([]) [] Try.func50 hk (by kernel_rfl) rfl (cr_cons c0 (cr_cons c1 (cr_cons c2 cr_nil)))
theorem chDOk_w0 {L : List Ins} {L2 : List Ins} {c : Nat} {S : List St} {w : World} {β : Bs} {n : Nat} (c0 : CallOK Try.prog (CallRec.mk 23 [AV.c (AC.sl 0 0 (List.length L) c)] [(0, Ent.mk false (pcell L) 0)] (Eff.mk (AV.tu [AT.ag [AC.i 0, AC.i 0, AC.sl 4 0 (List.length L) (List.length L)], AT.c (AC.i 0)]) [] (some (4, Ent.mk true (scell S) 0))))) (c1 : CallOK Try.prog (CallRec.mk 83 [AV.c (AC.sl 0 0 (List.length L) c)] [(0, Ent.mk false (pcell L) 0)] (Eff.mk (AV.c (AC.sx 14 (List.length L))) [] (some (14, Ent.mk true (pcell L) 5))))) (c2 : CallOK Try.prog (CallRec.mk 53 [AV.c (AC.sx 14 (List.length L)), AV.c (AC.sl 4 0 (List.length L) (List.length L))] [(14, Ent.mk true (pcell L) 5), (4, Ent.mk true (scell S) 0)] (Eff.mk (AV.tu []) [(14, pcell L2)] none))) (hk : EKeys n [] (some 14) ⟨AV.tu [AT.c (AC.sx 14 (List.length L)), AT.c (AC.i 0)], [], some (14, Ent.mk true (pcell L2) 0)⟩) :
    ART Try.prog 50 (cx w β n []) Try.f50.ntmps ([Item.code (bodyOf Try.f50)]) (Kn.start [AV.c (AC.sl 0 0 (List.length L) c), AV.c (AC.f 53 [])] [(0, Ent.mk false (pcell L) 0)] 1) (REff w β ⟨AV.tu [AT.c (AC.sx 14 (List.length L)), AT.c (AC.i 0)], [], some (14, Ent.mk true (pcell L2) 0)⟩) :=
  run_eff [] (some 14) 2000 [Eff.mk (AV.tu [AT.ag [AC.i 0, AC.i 0, AC.sl 4 0 (List.length L) (List.length L)], AT.c (AC.i 0)]) [] (some (4, Ent.mk true (scell S) 0)), Eff.mk (AV.c (AC.sx 14 (List.length L))) [] (some (14, Ent.mk true (pcell L) 5)), Eff.mk (AV.tu []) [(14, pcell L2)] none] [false, true] ([]) [] Try.func50 hk (by kernel_rfl) rfl (cr_cons c0 (cr_cons c1 (cr_cons c2 cr_nil)))
end Go.Proofs.Ytkigmocchaikgab

/- Ways of bodies, written by a program (ways.py): what each asks for, and hands back. -/
namespace Go.Proofs.Ytkigmocchaikgab
open Go.RowKit

theorem fon_w0 :
    CallOK Try.prog ⟨84, [], [], ⟨AV.ag [AC.i 12, AC.i 0, AC.i 0, AC.u 0#64, AC.i 0], [], none⟩⟩ :=
  val_run 2000 [] [] ([]) [] Try.func84 rfl rfl rfl rfl (by kernel_rfl) rfl cr_nil
theorem fal_w0 {a : V4} :
    CallOK Try.prog ⟨85, [AV.ag (V4.cs a)], [], ⟨AV.c (AC.b (eqb (V4.l a) (V4.h a))), [], none⟩⟩ :=
  val_run 2000 [] [] ([]) [] Try.func85 rfl rfl rfl rfl (by kernel_rfl) rfl cr_nil
theorem fbr_w0 {i : Ins} (h : (Ins.op i == 13 && true) = true) :
    CallOK Try.prog ⟨86, [AV.ag (Ins.cs i)], [], ⟨AV.c (AC.b true), [], none⟩⟩ :=
  val_run 2000 [] [true] ([]) [] Try.func86 rfl rfl rfl rfl (by kernel_rfl) h cr_nil
theorem fbr_w1 {i : Ins} (h : (!Ins.op i == 13 && true) = true) :
    CallOK Try.prog ⟨86, [AV.ag (Ins.cs i)], [], ⟨AV.c (AC.b (Ins.op i == 14)), [], none⟩⟩ :=
  val_run 2000 [] [false] ([]) [] Try.func86 rfl rfl rfl rfl (by kernel_rfl) h cr_nil
theorem fbr_all {i : Ins} {V : AV}
    (l0 : (Ins.op i == 13) = true → (AV.c (AC.b true) = V))
    (l1 : (Ins.op i == 13) = false → (AV.c (AC.b (Ins.op i == 14)) = V)) :
    CallOK Try.prog ⟨86, [AV.ag (Ins.cs i)], [], ⟨V, [], none⟩⟩ :=
  (tf (Ins.op i == 13)).elim (fun h0 => (match l0 h0 with | e => ok_eq (fbr_w0 (and_yes h0 rfl)) e)) (fun h0 => (match l1 h0 with | e => ok_eq (fbr_w1 (and_yes (not_yes h0) rfl)) e))
theorem fse_w0 {i : Ins} :
    CallOK Try.prog ⟨89, [AV.ag (Ins.cs i)], [], ⟨AV.c (AC.b (decide (Ins.op i ≤ 10))), [], none⟩⟩ :=
  val_run 2000 [] [] ([]) [] Try.func89 rfl rfl rfl rfl (by kernel_rfl) rfl cr_nil
theorem ffd_w0 {i : Ins} {t : St} (h : (!St.live t && true) = true) (c0 : CallOK Try.prog (CallRec.mk 84 [] [] (Eff.mk (AV.ag (Ins.cs onI)) [] none))) :
    CallOK Try.prog ⟨52, [AV.ag (Ins.cs i), AV.ag (St.cs t)], [], ⟨AV.ag [AC.i 12, AC.i 0, AC.i 0, AC.u 0#64, AC.i 0], [], none⟩⟩ :=
  val_run 2000 [Eff.mk (AV.ag (Ins.cs onI)) [] none] [true] ([]) [(4, 8), (5, 7)] Try.func52 rfl rfl rfl rfl (by kernel_rfl) h (cr_cons c0 cr_nil)
theorem ffd_w1 {i : Ins} {t : St} (h : (!!St.live t && (decide (Ins.op i ≤ 9) && (decide (0 ≤ Ins.d i) && decide (Ins.d i < 6) && (Nat.ble (7 + Int.toNat (Ins.d i) * 4 + 4) (List.length (St.cs (Prod.fst (stepS i t)))) && (V4.l (V6.get (St.r (Prod.fst (stepS i t))) (Int.toNat (Ins.d i))) == V4.h (V6.get (St.r (Prod.fst (stepS i t))) (Int.toNat (Ins.d i))) && (decide (0 ≤ Ins.d i) && decide (Ins.d i < 6) && (AC.isU (Option.getD (St.cs (Prod.fst (stepS i t)))[7 + Int.toNat (Ins.d i) * 4 + 2]? (AC.b false)) && Nat.blt (7 + Int.toNat (Ins.d i) * 4 + 2) (List.length (St.cs (Prod.fst (stepS i t)))) && true))))))) = true) (c0 : CallOK Try.prog (CallRec.mk 22 [AV.ag (Ins.cs i), AV.ag (St.cs t)] [] (Eff.mk (AV.tu [AT.ag (St.cs (Prod.fst (stepS i t))), AT.ag (St.cs (Prod.fst (Prod.snd (stepS i t)))), AT.c (AC.i (Prod.snd (Prod.snd (stepS i t)))), AT.c (AC.i 0)]) [] none))) (c1 : Eff.mk (AV.ag (List.take 4 (List.drop (7 + Int.toNat (Ins.d i) * 4) (St.cs (Prod.fst (stepS i t)))))) [] none = Eff.mk (AV.ag (V4.cs (V6.get (St.r (Prod.fst (stepS i t))) (Int.toNat (Ins.d i))))) [] none) (c2 : CallOK Try.prog (CallRec.mk 85 [AV.ag (V4.cs (V6.get (St.r (Prod.fst (stepS i t))) (Int.toNat (Ins.d i))))] [] (Eff.mk (AV.c (AC.b (V4.l (V6.get (St.r (Prod.fst (stepS i t))) (Int.toNat (Ins.d i))) == V4.h (V6.get (St.r (Prod.fst (stepS i t))) (Int.toNat (Ins.d i)))))) [] none))) (c3 : Eff.mk (AV.c (AC.u (AC.asU (Option.getD (St.cs (Prod.fst (stepS i t)))[7 + Int.toNat (Ins.d i) * 4 + 2]? (AC.b false))))) [] none = Eff.mk (AV.c (AC.u (V4.l (V6.get (St.r (Prod.fst (stepS i t))) (Int.toNat (Ins.d i)))))) [] none) :
    CallOK Try.prog ⟨52, [AV.ag (Ins.cs i), AV.ag (St.cs t)], [], ⟨AV.ag [AC.i 1, AC.i (Ins.d i), AC.i (-1), AC.u (V4.l (V6.get (St.r (Prod.fst (stepS i t))) (Int.toNat (Ins.d i)))), AC.i 0], [], none⟩⟩ :=
  val_run 2000 [Eff.mk (AV.tu [AT.ag (St.cs (Prod.fst (stepS i t))), AT.ag (St.cs (Prod.fst (Prod.snd (stepS i t)))), AT.c (AC.i (Prod.snd (Prod.snd (stepS i t)))), AT.c (AC.i 0)]) [] none, Eff.mk (AV.ag (V4.cs (V6.get (St.r (Prod.fst (stepS i t))) (Int.toNat (Ins.d i))))) [] none, Eff.mk (AV.c (AC.b (V4.l (V6.get (St.r (Prod.fst (stepS i t))) (Int.toNat (Ins.d i))) == V4.h (V6.get (St.r (Prod.fst (stepS i t))) (Int.toNat (Ins.d i)))))) [] none, Eff.mk (AV.c (AC.u (V4.l (V6.get (St.r (Prod.fst (stepS i t))) (Int.toNat (Ins.d i)))))) [] none] [false, true, true] ([]) [(4, 8), (5, 7)] Try.func52 rfl rfl rfl rfl (by kernel_rfl) h (cr_cons c0 (cr_same c1 (cr_cons c2 (cr_same c3 cr_nil))))
theorem ffd_w2 {i : Ins} {t : St} (h : (!!St.live t && (decide (Ins.op i ≤ 9) && (decide (0 ≤ Ins.d i) && decide (Ins.d i < 6) && (Nat.ble (7 + Int.toNat (Ins.d i) * 4 + 4) (List.length (St.cs (Prod.fst (stepS i t)))) && (!V4.l (V6.get (St.r (Prod.fst (stepS i t))) (Int.toNat (Ins.d i))) == V4.h (V6.get (St.r (Prod.fst (stepS i t))) (Int.toNat (Ins.d i))) && (branchB i && (!St.live (Prod.fst (Prod.snd (stepS i t))) && true))))))) = true) (c0 : CallOK Try.prog (CallRec.mk 22 [AV.ag (Ins.cs i), AV.ag (St.cs t)] [] (Eff.mk (AV.tu [AT.ag (St.cs (Prod.fst (stepS i t))), AT.ag (St.cs (Prod.fst (Prod.snd (stepS i t)))), AT.c (AC.i (Prod.snd (Prod.snd (stepS i t)))), AT.c (AC.i 0)]) [] none))) (c1 : Eff.mk (AV.ag (List.take 4 (List.drop (7 + Int.toNat (Ins.d i) * 4) (St.cs (Prod.fst (stepS i t)))))) [] none = Eff.mk (AV.ag (V4.cs (V6.get (St.r (Prod.fst (stepS i t))) (Int.toNat (Ins.d i))))) [] none) (c2 : CallOK Try.prog (CallRec.mk 85 [AV.ag (V4.cs (V6.get (St.r (Prod.fst (stepS i t))) (Int.toNat (Ins.d i))))] [] (Eff.mk (AV.c (AC.b (V4.l (V6.get (St.r (Prod.fst (stepS i t))) (Int.toNat (Ins.d i))) == V4.h (V6.get (St.r (Prod.fst (stepS i t))) (Int.toNat (Ins.d i)))))) [] none))) (c3 : CallOK Try.prog (CallRec.mk 86 [AV.ag (Ins.cs i)] [] (Eff.mk (AV.c (AC.b (branchB i))) [] none))) (c4 : CallOK Try.prog (CallRec.mk 84 [] [] (Eff.mk (AV.ag (Ins.cs onI)) [] none))) :
    CallOK Try.prog ⟨52, [AV.ag (Ins.cs i), AV.ag (St.cs t)], [], ⟨AV.ag [AC.i 12, AC.i 0, AC.i 0, AC.u 0#64, AC.i 0], [], none⟩⟩ :=
  val_run 2000 [Eff.mk (AV.tu [AT.ag (St.cs (Prod.fst (stepS i t))), AT.ag (St.cs (Prod.fst (Prod.snd (stepS i t)))), AT.c (AC.i (Prod.snd (Prod.snd (stepS i t)))), AT.c (AC.i 0)]) [] none, Eff.mk (AV.ag (V4.cs (V6.get (St.r (Prod.fst (stepS i t))) (Int.toNat (Ins.d i))))) [] none, Eff.mk (AV.c (AC.b (V4.l (V6.get (St.r (Prod.fst (stepS i t))) (Int.toNat (Ins.d i))) == V4.h (V6.get (St.r (Prod.fst (stepS i t))) (Int.toNat (Ins.d i)))))) [] none, Eff.mk (AV.c (AC.b (branchB i))) [] none, Eff.mk (AV.ag (Ins.cs onI)) [] none] [false, true, false, true, true] ([]) [(4, 8), (5, 7)] Try.func52 rfl rfl rfl rfl (by kernel_rfl) h (cr_cons c0 (cr_same c1 (cr_cons c2 (cr_cons c3 (cr_cons c4 cr_nil)))))
theorem ffd_w3 {i : Ins} {t : St} (h : (!!St.live t && (decide (Ins.op i ≤ 9) && (decide (0 ≤ Ins.d i) && decide (Ins.d i < 6) && (Nat.ble (7 + Int.toNat (Ins.d i) * 4 + 4) (List.length (St.cs (Prod.fst (stepS i t)))) && (!V4.l (V6.get (St.r (Prod.fst (stepS i t))) (Int.toNat (Ins.d i))) == V4.h (V6.get (St.r (Prod.fst (stepS i t))) (Int.toNat (Ins.d i))) && (branchB i && (!!St.live (Prod.fst (Prod.snd (stepS i t))) && (branchB i && (!St.live (Prod.fst (stepS i t)) && true))))))))) = true) (c0 : CallOK Try.prog (CallRec.mk 22 [AV.ag (Ins.cs i), AV.ag (St.cs t)] [] (Eff.mk (AV.tu [AT.ag (St.cs (Prod.fst (stepS i t))), AT.ag (St.cs (Prod.fst (Prod.snd (stepS i t)))), AT.c (AC.i (Prod.snd (Prod.snd (stepS i t)))), AT.c (AC.i 0)]) [] none))) (c1 : Eff.mk (AV.ag (List.take 4 (List.drop (7 + Int.toNat (Ins.d i) * 4) (St.cs (Prod.fst (stepS i t)))))) [] none = Eff.mk (AV.ag (V4.cs (V6.get (St.r (Prod.fst (stepS i t))) (Int.toNat (Ins.d i))))) [] none) (c2 : CallOK Try.prog (CallRec.mk 85 [AV.ag (V4.cs (V6.get (St.r (Prod.fst (stepS i t))) (Int.toNat (Ins.d i))))] [] (Eff.mk (AV.c (AC.b (V4.l (V6.get (St.r (Prod.fst (stepS i t))) (Int.toNat (Ins.d i))) == V4.h (V6.get (St.r (Prod.fst (stepS i t))) (Int.toNat (Ins.d i)))))) [] none))) (c3 : CallOK Try.prog (CallRec.mk 86 [AV.ag (Ins.cs i)] [] (Eff.mk (AV.c (AC.b (branchB i))) [] none))) (c4 : CallOK Try.prog (CallRec.mk 86 [AV.ag (Ins.cs i)] [] (Eff.mk (AV.c (AC.b (branchB i))) [] none))) :
    CallOK Try.prog ⟨52, [AV.ag (Ins.cs i), AV.ag (St.cs t)], [], ⟨AV.ag [AC.i 12, AC.i 0, AC.i 0, AC.u 0#64, AC.i (Ins.of i)], [], none⟩⟩ :=
  val_run 2000 [Eff.mk (AV.tu [AT.ag (St.cs (Prod.fst (stepS i t))), AT.ag (St.cs (Prod.fst (Prod.snd (stepS i t)))), AT.c (AC.i (Prod.snd (Prod.snd (stepS i t)))), AT.c (AC.i 0)]) [] none, Eff.mk (AV.ag (V4.cs (V6.get (St.r (Prod.fst (stepS i t))) (Int.toNat (Ins.d i))))) [] none, Eff.mk (AV.c (AC.b (V4.l (V6.get (St.r (Prod.fst (stepS i t))) (Int.toNat (Ins.d i))) == V4.h (V6.get (St.r (Prod.fst (stepS i t))) (Int.toNat (Ins.d i)))))) [] none, Eff.mk (AV.c (AC.b (branchB i))) [] none, Eff.mk (AV.c (AC.b (branchB i))) [] none] [false, true, false, true, false, true, true] ([]) [(4, 8), (5, 7)] Try.func52 rfl rfl rfl rfl (by kernel_rfl) h (cr_cons c0 (cr_same c1 (cr_cons c2 (cr_cons c3 (cr_cons c4 cr_nil)))))
theorem ffd_w4 {i : Ins} {t : St} (h : (!!St.live t && (decide (Ins.op i ≤ 9) && (decide (0 ≤ Ins.d i) && decide (Ins.d i < 6) && (Nat.ble (7 + Int.toNat (Ins.d i) * 4 + 4) (List.length (St.cs (Prod.fst (stepS i t)))) && (!V4.l (V6.get (St.r (Prod.fst (stepS i t))) (Int.toNat (Ins.d i))) == V4.h (V6.get (St.r (Prod.fst (stepS i t))) (Int.toNat (Ins.d i))) && (branchB i && (!!St.live (Prod.fst (Prod.snd (stepS i t))) && (branchB i && (!!St.live (Prod.fst (stepS i t)) && true))))))))) = true) (c0 : CallOK Try.prog (CallRec.mk 22 [AV.ag (Ins.cs i), AV.ag (St.cs t)] [] (Eff.mk (AV.tu [AT.ag (St.cs (Prod.fst (stepS i t))), AT.ag (St.cs (Prod.fst (Prod.snd (stepS i t)))), AT.c (AC.i (Prod.snd (Prod.snd (stepS i t)))), AT.c (AC.i 0)]) [] none))) (c1 : Eff.mk (AV.ag (List.take 4 (List.drop (7 + Int.toNat (Ins.d i) * 4) (St.cs (Prod.fst (stepS i t)))))) [] none = Eff.mk (AV.ag (V4.cs (V6.get (St.r (Prod.fst (stepS i t))) (Int.toNat (Ins.d i))))) [] none) (c2 : CallOK Try.prog (CallRec.mk 85 [AV.ag (V4.cs (V6.get (St.r (Prod.fst (stepS i t))) (Int.toNat (Ins.d i))))] [] (Eff.mk (AV.c (AC.b (V4.l (V6.get (St.r (Prod.fst (stepS i t))) (Int.toNat (Ins.d i))) == V4.h (V6.get (St.r (Prod.fst (stepS i t))) (Int.toNat (Ins.d i)))))) [] none))) (c3 : CallOK Try.prog (CallRec.mk 86 [AV.ag (Ins.cs i)] [] (Eff.mk (AV.c (AC.b (branchB i))) [] none))) (c4 : CallOK Try.prog (CallRec.mk 86 [AV.ag (Ins.cs i)] [] (Eff.mk (AV.c (AC.b (branchB i))) [] none))) :
    CallOK Try.prog ⟨52, [AV.ag (Ins.cs i), AV.ag (St.cs t)], [], ⟨AV.ag (Ins.cs i), [], none⟩⟩ :=
  val_run 2000 [Eff.mk (AV.tu [AT.ag (St.cs (Prod.fst (stepS i t))), AT.ag (St.cs (Prod.fst (Prod.snd (stepS i t)))), AT.c (AC.i (Prod.snd (Prod.snd (stepS i t)))), AT.c (AC.i 0)]) [] none, Eff.mk (AV.ag (V4.cs (V6.get (St.r (Prod.fst (stepS i t))) (Int.toNat (Ins.d i))))) [] none, Eff.mk (AV.c (AC.b (V4.l (V6.get (St.r (Prod.fst (stepS i t))) (Int.toNat (Ins.d i))) == V4.h (V6.get (St.r (Prod.fst (stepS i t))) (Int.toNat (Ins.d i)))))) [] none, Eff.mk (AV.c (AC.b (branchB i))) [] none, Eff.mk (AV.c (AC.b (branchB i))) [] none] [false, true, false, true, false, true, false] ([]) [(4, 8), (5, 7)] Try.func52 rfl rfl rfl rfl (by kernel_rfl) h (cr_cons c0 (cr_same c1 (cr_cons c2 (cr_cons c3 (cr_cons c4 cr_nil)))))
theorem ffd_w5 {i : Ins} {t : St} (h : (!!St.live t && (decide (Ins.op i ≤ 9) && (decide (0 ≤ Ins.d i) && decide (Ins.d i < 6) && (Nat.ble (7 + Int.toNat (Ins.d i) * 4 + 4) (List.length (St.cs (Prod.fst (stepS i t)))) && (!V4.l (V6.get (St.r (Prod.fst (stepS i t))) (Int.toNat (Ins.d i))) == V4.h (V6.get (St.r (Prod.fst (stepS i t))) (Int.toNat (Ins.d i))) && (!branchB i && (!branchB i && true))))))) = true) (c0 : CallOK Try.prog (CallRec.mk 22 [AV.ag (Ins.cs i), AV.ag (St.cs t)] [] (Eff.mk (AV.tu [AT.ag (St.cs (Prod.fst (stepS i t))), AT.ag (St.cs (Prod.fst (Prod.snd (stepS i t)))), AT.c (AC.i (Prod.snd (Prod.snd (stepS i t)))), AT.c (AC.i 0)]) [] none))) (c1 : Eff.mk (AV.ag (List.take 4 (List.drop (7 + Int.toNat (Ins.d i) * 4) (St.cs (Prod.fst (stepS i t)))))) [] none = Eff.mk (AV.ag (V4.cs (V6.get (St.r (Prod.fst (stepS i t))) (Int.toNat (Ins.d i))))) [] none) (c2 : CallOK Try.prog (CallRec.mk 85 [AV.ag (V4.cs (V6.get (St.r (Prod.fst (stepS i t))) (Int.toNat (Ins.d i))))] [] (Eff.mk (AV.c (AC.b (V4.l (V6.get (St.r (Prod.fst (stepS i t))) (Int.toNat (Ins.d i))) == V4.h (V6.get (St.r (Prod.fst (stepS i t))) (Int.toNat (Ins.d i)))))) [] none))) (c3 : CallOK Try.prog (CallRec.mk 86 [AV.ag (Ins.cs i)] [] (Eff.mk (AV.c (AC.b (branchB i))) [] none))) (c4 : CallOK Try.prog (CallRec.mk 86 [AV.ag (Ins.cs i)] [] (Eff.mk (AV.c (AC.b (branchB i))) [] none))) :
    CallOK Try.prog ⟨52, [AV.ag (Ins.cs i), AV.ag (St.cs t)], [], ⟨AV.ag (Ins.cs i), [], none⟩⟩ :=
  val_run 2000 [Eff.mk (AV.tu [AT.ag (St.cs (Prod.fst (stepS i t))), AT.ag (St.cs (Prod.fst (Prod.snd (stepS i t)))), AT.c (AC.i (Prod.snd (Prod.snd (stepS i t)))), AT.c (AC.i 0)]) [] none, Eff.mk (AV.ag (V4.cs (V6.get (St.r (Prod.fst (stepS i t))) (Int.toNat (Ins.d i))))) [] none, Eff.mk (AV.c (AC.b (V4.l (V6.get (St.r (Prod.fst (stepS i t))) (Int.toNat (Ins.d i))) == V4.h (V6.get (St.r (Prod.fst (stepS i t))) (Int.toNat (Ins.d i)))))) [] none, Eff.mk (AV.c (AC.b (branchB i))) [] none, Eff.mk (AV.c (AC.b (branchB i))) [] none] [false, true, false, false, false, false, false] ([]) [(4, 8), (5, 7)] Try.func52 rfl rfl rfl rfl (by kernel_rfl) h (cr_cons c0 (cr_same c1 (cr_cons c2 (cr_cons c3 (cr_cons c4 cr_nil)))))
theorem ffd_w6 {i : Ins} {t : St} (h : (!!St.live t && (!decide (Ins.op i ≤ 9) && (branchB i && (!St.live (Prod.fst (Prod.snd (stepS i t))) && true)))) = true) (c0 : CallOK Try.prog (CallRec.mk 22 [AV.ag (Ins.cs i), AV.ag (St.cs t)] [] (Eff.mk (AV.tu [AT.ag (St.cs (Prod.fst (stepS i t))), AT.ag (St.cs (Prod.fst (Prod.snd (stepS i t)))), AT.c (AC.i (Prod.snd (Prod.snd (stepS i t)))), AT.c (AC.i 0)]) [] none))) (c1 : CallOK Try.prog (CallRec.mk 86 [AV.ag (Ins.cs i)] [] (Eff.mk (AV.c (AC.b (branchB i))) [] none))) (c2 : CallOK Try.prog (CallRec.mk 84 [] [] (Eff.mk (AV.ag (Ins.cs onI)) [] none))) :
    CallOK Try.prog ⟨52, [AV.ag (Ins.cs i), AV.ag (St.cs t)], [], ⟨AV.ag [AC.i 12, AC.i 0, AC.i 0, AC.u 0#64, AC.i 0], [], none⟩⟩ :=
  val_run 2000 [Eff.mk (AV.tu [AT.ag (St.cs (Prod.fst (stepS i t))), AT.ag (St.cs (Prod.fst (Prod.snd (stepS i t)))), AT.c (AC.i (Prod.snd (Prod.snd (stepS i t)))), AT.c (AC.i 0)]) [] none, Eff.mk (AV.c (AC.b (branchB i))) [] none, Eff.mk (AV.ag (Ins.cs onI)) [] none] [false, false, false, true, true] ([]) [(4, 8), (5, 7)] Try.func52 rfl rfl rfl rfl (by kernel_rfl) h (cr_cons c0 (cr_cons c1 (cr_cons c2 cr_nil)))
theorem ffd_w7 {i : Ins} {t : St} (h : (!!St.live t && (!decide (Ins.op i ≤ 9) && (branchB i && (!!St.live (Prod.fst (Prod.snd (stepS i t))) && (branchB i && (!St.live (Prod.fst (stepS i t)) && true)))))) = true) (c0 : CallOK Try.prog (CallRec.mk 22 [AV.ag (Ins.cs i), AV.ag (St.cs t)] [] (Eff.mk (AV.tu [AT.ag (St.cs (Prod.fst (stepS i t))), AT.ag (St.cs (Prod.fst (Prod.snd (stepS i t)))), AT.c (AC.i (Prod.snd (Prod.snd (stepS i t)))), AT.c (AC.i 0)]) [] none))) (c1 : CallOK Try.prog (CallRec.mk 86 [AV.ag (Ins.cs i)] [] (Eff.mk (AV.c (AC.b (branchB i))) [] none))) (c2 : CallOK Try.prog (CallRec.mk 86 [AV.ag (Ins.cs i)] [] (Eff.mk (AV.c (AC.b (branchB i))) [] none))) :
    CallOK Try.prog ⟨52, [AV.ag (Ins.cs i), AV.ag (St.cs t)], [], ⟨AV.ag [AC.i 12, AC.i 0, AC.i 0, AC.u 0#64, AC.i (Ins.of i)], [], none⟩⟩ :=
  val_run 2000 [Eff.mk (AV.tu [AT.ag (St.cs (Prod.fst (stepS i t))), AT.ag (St.cs (Prod.fst (Prod.snd (stepS i t)))), AT.c (AC.i (Prod.snd (Prod.snd (stepS i t)))), AT.c (AC.i 0)]) [] none, Eff.mk (AV.c (AC.b (branchB i))) [] none, Eff.mk (AV.c (AC.b (branchB i))) [] none] [false, false, false, true, false, true, true] ([]) [(4, 8), (5, 7)] Try.func52 rfl rfl rfl rfl (by kernel_rfl) h (cr_cons c0 (cr_cons c1 (cr_cons c2 cr_nil)))
theorem ffd_w8 {i : Ins} {t : St} (h : (!!St.live t && (!decide (Ins.op i ≤ 9) && (branchB i && (!!St.live (Prod.fst (Prod.snd (stepS i t))) && (branchB i && (!!St.live (Prod.fst (stepS i t)) && true)))))) = true) (c0 : CallOK Try.prog (CallRec.mk 22 [AV.ag (Ins.cs i), AV.ag (St.cs t)] [] (Eff.mk (AV.tu [AT.ag (St.cs (Prod.fst (stepS i t))), AT.ag (St.cs (Prod.fst (Prod.snd (stepS i t)))), AT.c (AC.i (Prod.snd (Prod.snd (stepS i t)))), AT.c (AC.i 0)]) [] none))) (c1 : CallOK Try.prog (CallRec.mk 86 [AV.ag (Ins.cs i)] [] (Eff.mk (AV.c (AC.b (branchB i))) [] none))) (c2 : CallOK Try.prog (CallRec.mk 86 [AV.ag (Ins.cs i)] [] (Eff.mk (AV.c (AC.b (branchB i))) [] none))) :
    CallOK Try.prog ⟨52, [AV.ag (Ins.cs i), AV.ag (St.cs t)], [], ⟨AV.ag (Ins.cs i), [], none⟩⟩ :=
  val_run 2000 [Eff.mk (AV.tu [AT.ag (St.cs (Prod.fst (stepS i t))), AT.ag (St.cs (Prod.fst (Prod.snd (stepS i t)))), AT.c (AC.i (Prod.snd (Prod.snd (stepS i t)))), AT.c (AC.i 0)]) [] none, Eff.mk (AV.c (AC.b (branchB i))) [] none, Eff.mk (AV.c (AC.b (branchB i))) [] none] [false, false, false, true, false, true, false] ([]) [(4, 8), (5, 7)] Try.func52 rfl rfl rfl rfl (by kernel_rfl) h (cr_cons c0 (cr_cons c1 (cr_cons c2 cr_nil)))
theorem ffd_w9 {i : Ins} {t : St} (h : (!!St.live t && (!decide (Ins.op i ≤ 9) && (!branchB i && (!branchB i && true)))) = true) (c0 : CallOK Try.prog (CallRec.mk 22 [AV.ag (Ins.cs i), AV.ag (St.cs t)] [] (Eff.mk (AV.tu [AT.ag (St.cs (Prod.fst (stepS i t))), AT.ag (St.cs (Prod.fst (Prod.snd (stepS i t)))), AT.c (AC.i (Prod.snd (Prod.snd (stepS i t)))), AT.c (AC.i 0)]) [] none))) (c1 : CallOK Try.prog (CallRec.mk 86 [AV.ag (Ins.cs i)] [] (Eff.mk (AV.c (AC.b (branchB i))) [] none))) (c2 : CallOK Try.prog (CallRec.mk 86 [AV.ag (Ins.cs i)] [] (Eff.mk (AV.c (AC.b (branchB i))) [] none))) :
    CallOK Try.prog ⟨52, [AV.ag (Ins.cs i), AV.ag (St.cs t)], [], ⟨AV.ag (Ins.cs i), [], none⟩⟩ :=
  val_run 2000 [Eff.mk (AV.tu [AT.ag (St.cs (Prod.fst (stepS i t))), AT.ag (St.cs (Prod.fst (Prod.snd (stepS i t)))), AT.c (AC.i (Prod.snd (Prod.snd (stepS i t)))), AT.c (AC.i 0)]) [] none, Eff.mk (AV.c (AC.b (branchB i))) [] none, Eff.mk (AV.c (AC.b (branchB i))) [] none] [false, false, false, false, false, false, false] ([]) [(4, 8), (5, 7)] Try.func52 rfl rfl rfl rfl (by kernel_rfl) h (cr_cons c0 (cr_cons c1 (cr_cons c2 cr_nil)))
theorem ffd_all {i : Ins} {t : St} {V : AV}
    (l0 : (!St.live t) = true → (CallOK Try.prog (CallRec.mk 84 [] [] (Eff.mk (AV.ag (Ins.cs onI)) [] none))) ∧ (AV.ag [AC.i 12, AC.i 0, AC.i 0, AC.u 0#64, AC.i 0] = V))
    (l1 : (!St.live t) = false → (decide (Ins.op i ≤ 9)) = true → (V4.l (V6.get (St.r (Prod.fst (stepS i t))) (Int.toNat (Ins.d i))) == V4.h (V6.get (St.r (Prod.fst (stepS i t))) (Int.toNat (Ins.d i)))) = true → (decide (0 ≤ Ins.d i) && decide (Ins.d i < 6)) = true ∧ (Nat.ble (7 + Int.toNat (Ins.d i) * 4 + 4) (List.length (St.cs (Prod.fst (stepS i t))))) = true ∧ (decide (0 ≤ Ins.d i) && decide (Ins.d i < 6)) = true ∧ (AC.isU (Option.getD (St.cs (Prod.fst (stepS i t)))[7 + Int.toNat (Ins.d i) * 4 + 2]? (AC.b false)) && Nat.blt (7 + Int.toNat (Ins.d i) * 4 + 2) (List.length (St.cs (Prod.fst (stepS i t))))) = true ∧ (CallOK Try.prog (CallRec.mk 22 [AV.ag (Ins.cs i), AV.ag (St.cs t)] [] (Eff.mk (AV.tu [AT.ag (St.cs (Prod.fst (stepS i t))), AT.ag (St.cs (Prod.fst (Prod.snd (stepS i t)))), AT.c (AC.i (Prod.snd (Prod.snd (stepS i t)))), AT.c (AC.i 0)]) [] none))) ∧ (Eff.mk (AV.ag (List.take 4 (List.drop (7 + Int.toNat (Ins.d i) * 4) (St.cs (Prod.fst (stepS i t)))))) [] none = Eff.mk (AV.ag (V4.cs (V6.get (St.r (Prod.fst (stepS i t))) (Int.toNat (Ins.d i))))) [] none) ∧ (CallOK Try.prog (CallRec.mk 85 [AV.ag (V4.cs (V6.get (St.r (Prod.fst (stepS i t))) (Int.toNat (Ins.d i))))] [] (Eff.mk (AV.c (AC.b (V4.l (V6.get (St.r (Prod.fst (stepS i t))) (Int.toNat (Ins.d i))) == V4.h (V6.get (St.r (Prod.fst (stepS i t))) (Int.toNat (Ins.d i)))))) [] none))) ∧ (Eff.mk (AV.c (AC.u (AC.asU (Option.getD (St.cs (Prod.fst (stepS i t)))[7 + Int.toNat (Ins.d i) * 4 + 2]? (AC.b false))))) [] none = Eff.mk (AV.c (AC.u (V4.l (V6.get (St.r (Prod.fst (stepS i t))) (Int.toNat (Ins.d i)))))) [] none) ∧ (AV.ag [AC.i 1, AC.i (Ins.d i), AC.i (-1), AC.u (V4.l (V6.get (St.r (Prod.fst (stepS i t))) (Int.toNat (Ins.d i)))), AC.i 0] = V))
    (l2 : (!St.live t) = false → (decide (Ins.op i ≤ 9)) = true → (V4.l (V6.get (St.r (Prod.fst (stepS i t))) (Int.toNat (Ins.d i))) == V4.h (V6.get (St.r (Prod.fst (stepS i t))) (Int.toNat (Ins.d i)))) = false → (branchB i) = true → (!St.live (Prod.fst (Prod.snd (stepS i t)))) = true → (decide (0 ≤ Ins.d i) && decide (Ins.d i < 6)) = true ∧ (Nat.ble (7 + Int.toNat (Ins.d i) * 4 + 4) (List.length (St.cs (Prod.fst (stepS i t))))) = true ∧ (CallOK Try.prog (CallRec.mk 22 [AV.ag (Ins.cs i), AV.ag (St.cs t)] [] (Eff.mk (AV.tu [AT.ag (St.cs (Prod.fst (stepS i t))), AT.ag (St.cs (Prod.fst (Prod.snd (stepS i t)))), AT.c (AC.i (Prod.snd (Prod.snd (stepS i t)))), AT.c (AC.i 0)]) [] none))) ∧ (Eff.mk (AV.ag (List.take 4 (List.drop (7 + Int.toNat (Ins.d i) * 4) (St.cs (Prod.fst (stepS i t)))))) [] none = Eff.mk (AV.ag (V4.cs (V6.get (St.r (Prod.fst (stepS i t))) (Int.toNat (Ins.d i))))) [] none) ∧ (CallOK Try.prog (CallRec.mk 85 [AV.ag (V4.cs (V6.get (St.r (Prod.fst (stepS i t))) (Int.toNat (Ins.d i))))] [] (Eff.mk (AV.c (AC.b (V4.l (V6.get (St.r (Prod.fst (stepS i t))) (Int.toNat (Ins.d i))) == V4.h (V6.get (St.r (Prod.fst (stepS i t))) (Int.toNat (Ins.d i)))))) [] none))) ∧ (CallOK Try.prog (CallRec.mk 86 [AV.ag (Ins.cs i)] [] (Eff.mk (AV.c (AC.b (branchB i))) [] none))) ∧ (CallOK Try.prog (CallRec.mk 84 [] [] (Eff.mk (AV.ag (Ins.cs onI)) [] none))) ∧ (AV.ag [AC.i 12, AC.i 0, AC.i 0, AC.u 0#64, AC.i 0] = V))
    (l3 : (!St.live t) = false → (decide (Ins.op i ≤ 9)) = true → (V4.l (V6.get (St.r (Prod.fst (stepS i t))) (Int.toNat (Ins.d i))) == V4.h (V6.get (St.r (Prod.fst (stepS i t))) (Int.toNat (Ins.d i)))) = false → (branchB i) = true → (!St.live (Prod.fst (Prod.snd (stepS i t)))) = false → (!St.live (Prod.fst (stepS i t))) = true → (decide (0 ≤ Ins.d i) && decide (Ins.d i < 6)) = true ∧ (Nat.ble (7 + Int.toNat (Ins.d i) * 4 + 4) (List.length (St.cs (Prod.fst (stepS i t))))) = true ∧ (CallOK Try.prog (CallRec.mk 22 [AV.ag (Ins.cs i), AV.ag (St.cs t)] [] (Eff.mk (AV.tu [AT.ag (St.cs (Prod.fst (stepS i t))), AT.ag (St.cs (Prod.fst (Prod.snd (stepS i t)))), AT.c (AC.i (Prod.snd (Prod.snd (stepS i t)))), AT.c (AC.i 0)]) [] none))) ∧ (Eff.mk (AV.ag (List.take 4 (List.drop (7 + Int.toNat (Ins.d i) * 4) (St.cs (Prod.fst (stepS i t)))))) [] none = Eff.mk (AV.ag (V4.cs (V6.get (St.r (Prod.fst (stepS i t))) (Int.toNat (Ins.d i))))) [] none) ∧ (CallOK Try.prog (CallRec.mk 85 [AV.ag (V4.cs (V6.get (St.r (Prod.fst (stepS i t))) (Int.toNat (Ins.d i))))] [] (Eff.mk (AV.c (AC.b (V4.l (V6.get (St.r (Prod.fst (stepS i t))) (Int.toNat (Ins.d i))) == V4.h (V6.get (St.r (Prod.fst (stepS i t))) (Int.toNat (Ins.d i)))))) [] none))) ∧ (CallOK Try.prog (CallRec.mk 86 [AV.ag (Ins.cs i)] [] (Eff.mk (AV.c (AC.b (branchB i))) [] none))) ∧ (CallOK Try.prog (CallRec.mk 86 [AV.ag (Ins.cs i)] [] (Eff.mk (AV.c (AC.b (branchB i))) [] none))) ∧ (AV.ag [AC.i 12, AC.i 0, AC.i 0, AC.u 0#64, AC.i (Ins.of i)] = V))
    (l4 : (!St.live t) = false → (decide (Ins.op i ≤ 9)) = true → (V4.l (V6.get (St.r (Prod.fst (stepS i t))) (Int.toNat (Ins.d i))) == V4.h (V6.get (St.r (Prod.fst (stepS i t))) (Int.toNat (Ins.d i)))) = false → (branchB i) = true → (!St.live (Prod.fst (Prod.snd (stepS i t)))) = false → (!St.live (Prod.fst (stepS i t))) = false → (decide (0 ≤ Ins.d i) && decide (Ins.d i < 6)) = true ∧ (Nat.ble (7 + Int.toNat (Ins.d i) * 4 + 4) (List.length (St.cs (Prod.fst (stepS i t))))) = true ∧ (CallOK Try.prog (CallRec.mk 22 [AV.ag (Ins.cs i), AV.ag (St.cs t)] [] (Eff.mk (AV.tu [AT.ag (St.cs (Prod.fst (stepS i t))), AT.ag (St.cs (Prod.fst (Prod.snd (stepS i t)))), AT.c (AC.i (Prod.snd (Prod.snd (stepS i t)))), AT.c (AC.i 0)]) [] none))) ∧ (Eff.mk (AV.ag (List.take 4 (List.drop (7 + Int.toNat (Ins.d i) * 4) (St.cs (Prod.fst (stepS i t)))))) [] none = Eff.mk (AV.ag (V4.cs (V6.get (St.r (Prod.fst (stepS i t))) (Int.toNat (Ins.d i))))) [] none) ∧ (CallOK Try.prog (CallRec.mk 85 [AV.ag (V4.cs (V6.get (St.r (Prod.fst (stepS i t))) (Int.toNat (Ins.d i))))] [] (Eff.mk (AV.c (AC.b (V4.l (V6.get (St.r (Prod.fst (stepS i t))) (Int.toNat (Ins.d i))) == V4.h (V6.get (St.r (Prod.fst (stepS i t))) (Int.toNat (Ins.d i)))))) [] none))) ∧ (CallOK Try.prog (CallRec.mk 86 [AV.ag (Ins.cs i)] [] (Eff.mk (AV.c (AC.b (branchB i))) [] none))) ∧ (CallOK Try.prog (CallRec.mk 86 [AV.ag (Ins.cs i)] [] (Eff.mk (AV.c (AC.b (branchB i))) [] none))) ∧ (AV.ag (Ins.cs i) = V))
    (l5 : (!St.live t) = false → (decide (Ins.op i ≤ 9)) = true → (V4.l (V6.get (St.r (Prod.fst (stepS i t))) (Int.toNat (Ins.d i))) == V4.h (V6.get (St.r (Prod.fst (stepS i t))) (Int.toNat (Ins.d i)))) = false → (branchB i) = false → (decide (0 ≤ Ins.d i) && decide (Ins.d i < 6)) = true ∧ (Nat.ble (7 + Int.toNat (Ins.d i) * 4 + 4) (List.length (St.cs (Prod.fst (stepS i t))))) = true ∧ (CallOK Try.prog (CallRec.mk 22 [AV.ag (Ins.cs i), AV.ag (St.cs t)] [] (Eff.mk (AV.tu [AT.ag (St.cs (Prod.fst (stepS i t))), AT.ag (St.cs (Prod.fst (Prod.snd (stepS i t)))), AT.c (AC.i (Prod.snd (Prod.snd (stepS i t)))), AT.c (AC.i 0)]) [] none))) ∧ (Eff.mk (AV.ag (List.take 4 (List.drop (7 + Int.toNat (Ins.d i) * 4) (St.cs (Prod.fst (stepS i t)))))) [] none = Eff.mk (AV.ag (V4.cs (V6.get (St.r (Prod.fst (stepS i t))) (Int.toNat (Ins.d i))))) [] none) ∧ (CallOK Try.prog (CallRec.mk 85 [AV.ag (V4.cs (V6.get (St.r (Prod.fst (stepS i t))) (Int.toNat (Ins.d i))))] [] (Eff.mk (AV.c (AC.b (V4.l (V6.get (St.r (Prod.fst (stepS i t))) (Int.toNat (Ins.d i))) == V4.h (V6.get (St.r (Prod.fst (stepS i t))) (Int.toNat (Ins.d i)))))) [] none))) ∧ (CallOK Try.prog (CallRec.mk 86 [AV.ag (Ins.cs i)] [] (Eff.mk (AV.c (AC.b (branchB i))) [] none))) ∧ (CallOK Try.prog (CallRec.mk 86 [AV.ag (Ins.cs i)] [] (Eff.mk (AV.c (AC.b (branchB i))) [] none))) ∧ (AV.ag (Ins.cs i) = V))
    (l6 : (!St.live t) = false → (decide (Ins.op i ≤ 9)) = false → (branchB i) = true → (!St.live (Prod.fst (Prod.snd (stepS i t)))) = true → (CallOK Try.prog (CallRec.mk 22 [AV.ag (Ins.cs i), AV.ag (St.cs t)] [] (Eff.mk (AV.tu [AT.ag (St.cs (Prod.fst (stepS i t))), AT.ag (St.cs (Prod.fst (Prod.snd (stepS i t)))), AT.c (AC.i (Prod.snd (Prod.snd (stepS i t)))), AT.c (AC.i 0)]) [] none))) ∧ (CallOK Try.prog (CallRec.mk 86 [AV.ag (Ins.cs i)] [] (Eff.mk (AV.c (AC.b (branchB i))) [] none))) ∧ (CallOK Try.prog (CallRec.mk 84 [] [] (Eff.mk (AV.ag (Ins.cs onI)) [] none))) ∧ (AV.ag [AC.i 12, AC.i 0, AC.i 0, AC.u 0#64, AC.i 0] = V))
    (l7 : (!St.live t) = false → (decide (Ins.op i ≤ 9)) = false → (branchB i) = true → (!St.live (Prod.fst (Prod.snd (stepS i t)))) = false → (!St.live (Prod.fst (stepS i t))) = true → (CallOK Try.prog (CallRec.mk 22 [AV.ag (Ins.cs i), AV.ag (St.cs t)] [] (Eff.mk (AV.tu [AT.ag (St.cs (Prod.fst (stepS i t))), AT.ag (St.cs (Prod.fst (Prod.snd (stepS i t)))), AT.c (AC.i (Prod.snd (Prod.snd (stepS i t)))), AT.c (AC.i 0)]) [] none))) ∧ (CallOK Try.prog (CallRec.mk 86 [AV.ag (Ins.cs i)] [] (Eff.mk (AV.c (AC.b (branchB i))) [] none))) ∧ (CallOK Try.prog (CallRec.mk 86 [AV.ag (Ins.cs i)] [] (Eff.mk (AV.c (AC.b (branchB i))) [] none))) ∧ (AV.ag [AC.i 12, AC.i 0, AC.i 0, AC.u 0#64, AC.i (Ins.of i)] = V))
    (l8 : (!St.live t) = false → (decide (Ins.op i ≤ 9)) = false → (branchB i) = true → (!St.live (Prod.fst (Prod.snd (stepS i t)))) = false → (!St.live (Prod.fst (stepS i t))) = false → (CallOK Try.prog (CallRec.mk 22 [AV.ag (Ins.cs i), AV.ag (St.cs t)] [] (Eff.mk (AV.tu [AT.ag (St.cs (Prod.fst (stepS i t))), AT.ag (St.cs (Prod.fst (Prod.snd (stepS i t)))), AT.c (AC.i (Prod.snd (Prod.snd (stepS i t)))), AT.c (AC.i 0)]) [] none))) ∧ (CallOK Try.prog (CallRec.mk 86 [AV.ag (Ins.cs i)] [] (Eff.mk (AV.c (AC.b (branchB i))) [] none))) ∧ (CallOK Try.prog (CallRec.mk 86 [AV.ag (Ins.cs i)] [] (Eff.mk (AV.c (AC.b (branchB i))) [] none))) ∧ (AV.ag (Ins.cs i) = V))
    (l9 : (!St.live t) = false → (decide (Ins.op i ≤ 9)) = false → (branchB i) = false → (CallOK Try.prog (CallRec.mk 22 [AV.ag (Ins.cs i), AV.ag (St.cs t)] [] (Eff.mk (AV.tu [AT.ag (St.cs (Prod.fst (stepS i t))), AT.ag (St.cs (Prod.fst (Prod.snd (stepS i t)))), AT.c (AC.i (Prod.snd (Prod.snd (stepS i t)))), AT.c (AC.i 0)]) [] none))) ∧ (CallOK Try.prog (CallRec.mk 86 [AV.ag (Ins.cs i)] [] (Eff.mk (AV.c (AC.b (branchB i))) [] none))) ∧ (CallOK Try.prog (CallRec.mk 86 [AV.ag (Ins.cs i)] [] (Eff.mk (AV.c (AC.b (branchB i))) [] none))) ∧ (AV.ag (Ins.cs i) = V)) :
    CallOK Try.prog ⟨52, [AV.ag (Ins.cs i), AV.ag (St.cs t)], [], ⟨V, [], none⟩⟩ :=
  (tf (!St.live t)).elim (fun h0 => (match l0 h0 with | ⟨c0, e⟩ => ok_eq (ffd_w0 (and_yes h0 rfl) c0) e)) (fun h0 => (tf (decide (Ins.op i ≤ 9))).elim (fun h1 => (tf (V4.l (V6.get (St.r (Prod.fst (stepS i t))) (Int.toNat (Ins.d i))) == V4.h (V6.get (St.r (Prod.fst (stepS i t))) (Int.toNat (Ins.d i))))).elim (fun h2 => (match l1 h0 h1 h2 with | ⟨o0, o1, o2, o3, c0, c1, c2, c3, e⟩ => ok_eq (ffd_w1 (and_yes (not_yes h0) (and_yes h1 (and_yes o0 (and_yes o1 (and_yes h2 (and_yes o2 (and_yes o3 rfl))))))) c0 c1 c2 c3) e)) (fun h2 => (tf (branchB i)).elim (fun h3 => (tf (!St.live (Prod.fst (Prod.snd (stepS i t))))).elim (fun h4 => (match l2 h0 h1 h2 h3 h4 with | ⟨o0, o1, c0, c1, c2, c3, c4, e⟩ => ok_eq (ffd_w2 (and_yes (not_yes h0) (and_yes h1 (and_yes o0 (and_yes o1 (and_yes (not_yes h2) (and_yes h3 (and_yes h4 rfl))))))) c0 c1 c2 c3 c4) e)) (fun h4 => (tf (!St.live (Prod.fst (stepS i t)))).elim (fun h5 => (match l3 h0 h1 h2 h3 h4 h5 with | ⟨o0, o1, c0, c1, c2, c3, c4, e⟩ => ok_eq (ffd_w3 (and_yes (not_yes h0) (and_yes h1 (and_yes o0 (and_yes o1 (and_yes (not_yes h2) (and_yes h3 (and_yes (not_yes h4) (and_yes h3 (and_yes h5 rfl))))))))) c0 c1 c2 c3 c4) e)) (fun h5 => (match l4 h0 h1 h2 h3 h4 h5 with | ⟨o0, o1, c0, c1, c2, c3, c4, e⟩ => ok_eq (ffd_w4 (and_yes (not_yes h0) (and_yes h1 (and_yes o0 (and_yes o1 (and_yes (not_yes h2) (and_yes h3 (and_yes (not_yes h4) (and_yes h3 (and_yes (not_yes h5) rfl))))))))) c0 c1 c2 c3 c4) e)))) (fun h3 => (match l5 h0 h1 h2 h3 with | ⟨o0, o1, c0, c1, c2, c3, c4, e⟩ => ok_eq (ffd_w5 (and_yes (not_yes h0) (and_yes h1 (and_yes o0 (and_yes o1 (and_yes (not_yes h2) (and_yes (not_yes h3) (and_yes (not_yes h3) rfl))))))) c0 c1 c2 c3 c4) e)))) (fun h1 => (tf (branchB i)).elim (fun h2 => (tf (!St.live (Prod.fst (Prod.snd (stepS i t))))).elim (fun h3 => (match l6 h0 h1 h2 h3 with | ⟨c0, c1, c2, e⟩ => ok_eq (ffd_w6 (and_yes (not_yes h0) (and_yes (not_yes h1) (and_yes h2 (and_yes h3 rfl)))) c0 c1 c2) e)) (fun h3 => (tf (!St.live (Prod.fst (stepS i t)))).elim (fun h4 => (match l7 h0 h1 h2 h3 h4 with | ⟨c0, c1, c2, e⟩ => ok_eq (ffd_w7 (and_yes (not_yes h0) (and_yes (not_yes h1) (and_yes h2 (and_yes (not_yes h3) (and_yes h2 (and_yes h4 rfl)))))) c0 c1 c2) e)) (fun h4 => (match l8 h0 h1 h2 h3 h4 with | ⟨c0, c1, c2, e⟩ => ok_eq (ffd_w8 (and_yes (not_yes h0) (and_yes (not_yes h1) (and_yes h2 (and_yes (not_yes h3) (and_yes h2 (and_yes (not_yes h4) rfl)))))) c0 c1 c2) e)))) (fun h2 => (match l9 h0 h1 h2 with | ⟨c0, c1, c2, e⟩ => ok_eq (ffd_w9 (and_yes (not_yes h0) (and_yes (not_yes h1) (and_yes (not_yes h2) (and_yes (not_yes h2) rfl)))) c0 c1 c2) e))))
theorem feTop_w0 {a : V6 Bool} {b : V6 Bool} {C : Cx} {R : Ending → World → Prop} (lo : Kn.Low ⟨[(2, AV.c (AC.w 0)), (3, AV.c (AC.w 1)), (4, AV.c (AC.w 2)), (6, AV.c (AC.i 0))], [(0, Ent.mk true (bcs a) 0), (1, Ent.mk true (bcs b) 0), (2, Ent.mk true [AC.b false, AC.b false, AC.b false, AC.b false, AC.b false, AC.b false] 0)], 3⟩) (hF : ∀ k, C.F k → k < 3) (z : ART Try.prog 122 C Try.f122.ntmps (cutAt Try.f122 0) ⟨[(2, AV.c (AC.w 0)), (3, AV.c (AC.w 1)), (4, AV.c (AC.w 2)), (6, AV.c (AC.i 0))], [(0, Ent.mk true (bcs a) 0), (1, Ent.mk true (bcs b) 0), (2, Ent.mk true [AC.b false, AC.b false, AC.b false, AC.b false, AC.b false, AC.b false] 0)], 3⟩ R) :
    ART Try.prog 122 C Try.f122.ntmps ([Item.code (bodyOf Try.f122)]) (Kn.start [AV.ag (bcs a), AV.ag (bcs b)] [] 0) R :=
  run_cut ⟨[(2, AV.c (AC.w 0)), (3, AV.c (AC.w 1)), (4, AV.c (AC.w 2)), (6, AV.c (AC.i 0))], [(0, Ent.mk true (bcs a) 0), (1, Ent.mk true (bcs b) 0), (2, Ent.mk true [AC.b false, AC.b false, AC.b false, AC.b false, AC.b false, AC.b false] 0)], 3⟩ 2000 [] [] ([true]) [] Try.func122 (by kernel_rfl) rfl cr_nil lo hF z
theorem feR1_w0 {a : V6 Bool} {b : V6 Bool} {j : Int} {C : Cx} {R : Ending → World → Prop} (h : (decide (j < 6) && (decide (0 ≤ j) && decide (j < 6) && (AC.isB (Option.getD (bcs a)[Int.toNat j * 1]? (AC.b false)) && Nat.blt (Int.toNat j * 1) (List.length (bcs a)) && (V6.get a (Int.toNat j) && (decide (0 ≤ j) && decide (j < 6) && (Nat.ble (Int.toNat j * 1 + 1) (List.length (bcs a)) && true && true)))))) = true) (c0 : Eff.mk (AV.c (AC.b (AC.asB (Option.getD (bcs a)[Int.toNat j * 1]? (AC.b false))))) [] none = Eff.mk (AV.c (AC.b (V6.get a (Int.toNat j)))) [] none) (c1 : Eff.mk (AV.raw undef) [(0, splice (bcs a) (Int.toNat j * 1) [AC.b true])] none = Eff.mk (AV.raw undef) [(0, (bcs (V6.set a (Int.toNat j) true)))] none) (lo : Kn.Low ⟨[(2, AV.c (AC.w 0)), (3, AV.c (AC.w 1)), (4, AV.c (AC.w 2)), (6, AV.c (AC.i (IntKind.wrap IntKind.i64 (j + 1))))], [(0, Ent.mk true (bcs (V6.set a (Int.toNat j) true)) 0), (1, Ent.mk true (bcs b) 0), (2, Ent.mk true [AC.b false, AC.b false, AC.b false, AC.b false, AC.b false, AC.b false] 0)], 3⟩) (hF : ∀ k, C.F k → k < 3) (z : ART Try.prog 122 C Try.f122.ntmps (cutAt Try.f122 0) ⟨[(2, AV.c (AC.w 0)), (3, AV.c (AC.w 1)), (4, AV.c (AC.w 2)), (6, AV.c (AC.i (IntKind.wrap IntKind.i64 (j + 1))))], [(0, Ent.mk true (bcs (V6.set a (Int.toNat j) true)) 0), (1, Ent.mk true (bcs b) 0), (2, Ent.mk true [AC.b false, AC.b false, AC.b false, AC.b false, AC.b false, AC.b false] 0)], 3⟩ R) :
    ART Try.prog 122 C Try.f122.ntmps (cutAt Try.f122 0) (Kn.mk [(2, AV.c (AC.w 0)), (3, AV.c (AC.w 1)), (4, AV.c (AC.w 2)), (6, AV.c (AC.i j))] [(0, Ent.mk true (bcs a) 0), (1, Ent.mk true (bcs b) 0), (2, Ent.mk true (bcs no6) 0)] 3) R :=
  run_cut ⟨[(2, AV.c (AC.w 0)), (3, AV.c (AC.w 1)), (4, AV.c (AC.w 2)), (6, AV.c (AC.i (IntKind.wrap IntKind.i64 (j + 1))))], [(0, Ent.mk true (bcs (V6.set a (Int.toNat j) true)) 0), (1, Ent.mk true (bcs b) 0), (2, Ent.mk true [AC.b false, AC.b false, AC.b false, AC.b false, AC.b false, AC.b false] 0)], 3⟩ 2000 [Eff.mk (AV.c (AC.b (V6.get a (Int.toNat j)))) [] none, Eff.mk (AV.raw undef) [(0, (bcs (V6.set a (Int.toNat j) true)))] none] [true, true] ([true]) [(4, 3), (4, 7), (4, 10)] Try.func122 (by kernel_rfl) h (cr_same c0 (cr_same c1 cr_nil)) lo hF z
theorem feR0_w0 {a : V6 Bool} {b : V6 Bool} {j : Int} {C : Cx} {R : Ending → World → Prop} (h : (decide (j < 6) && (decide (0 ≤ j) && decide (j < 6) && (AC.isB (Option.getD (bcs a)[Int.toNat j * 1]? (AC.b false)) && Nat.blt (Int.toNat j * 1) (List.length (bcs a)) && (!V6.get a (Int.toNat j) && (decide (0 ≤ j) && decide (j < 6) && (AC.isB (Option.getD (bcs b)[Int.toNat j * 1]? (AC.b false)) && Nat.blt (Int.toNat j * 1) (List.length (bcs b)) && (decide (0 ≤ j) && decide (j < 6) && (Nat.ble (Int.toNat j * 1 + List.length [AC.b (V6.get b (Int.toNat j))]) (List.length (bcs a)) && true && true)))))))) = true) (c0 : Eff.mk (AV.c (AC.b (AC.asB (Option.getD (bcs a)[Int.toNat j * 1]? (AC.b false))))) [] none = Eff.mk (AV.c (AC.b (V6.get a (Int.toNat j)))) [] none) (c1 : Eff.mk (AV.c (AC.b (AC.asB (Option.getD (bcs b)[Int.toNat j * 1]? (AC.b false))))) [] none = Eff.mk (AV.c (AC.b (V6.get b (Int.toNat j)))) [] none) (c2 : Eff.mk (AV.raw undef) [(0, splice (bcs a) (Int.toNat j * 1) [AC.b (V6.get b (Int.toNat j))])] none = Eff.mk (AV.raw undef) [(0, (bcs (V6.set a (Int.toNat j) (V6.get b (Int.toNat j)))))] none) (lo : Kn.Low ⟨[(2, AV.c (AC.w 0)), (3, AV.c (AC.w 1)), (4, AV.c (AC.w 2)), (6, AV.c (AC.i (IntKind.wrap IntKind.i64 (j + 1))))], [(0, Ent.mk true (bcs (V6.set a (Int.toNat j) (V6.get b (Int.toNat j)))) 0), (1, Ent.mk true (bcs b) 0), (2, Ent.mk true [AC.b false, AC.b false, AC.b false, AC.b false, AC.b false, AC.b false] 0)], 3⟩) (hF : ∀ k, C.F k → k < 3) (z : ART Try.prog 122 C Try.f122.ntmps (cutAt Try.f122 0) ⟨[(2, AV.c (AC.w 0)), (3, AV.c (AC.w 1)), (4, AV.c (AC.w 2)), (6, AV.c (AC.i (IntKind.wrap IntKind.i64 (j + 1))))], [(0, Ent.mk true (bcs (V6.set a (Int.toNat j) (V6.get b (Int.toNat j)))) 0), (1, Ent.mk true (bcs b) 0), (2, Ent.mk true [AC.b false, AC.b false, AC.b false, AC.b false, AC.b false, AC.b false] 0)], 3⟩ R) :
    ART Try.prog 122 C Try.f122.ntmps (cutAt Try.f122 0) (Kn.mk [(2, AV.c (AC.w 0)), (3, AV.c (AC.w 1)), (4, AV.c (AC.w 2)), (6, AV.c (AC.i j))] [(0, Ent.mk true (bcs a) 0), (1, Ent.mk true (bcs b) 0), (2, Ent.mk true (bcs no6) 0)] 3) R :=
  run_cut ⟨[(2, AV.c (AC.w 0)), (3, AV.c (AC.w 1)), (4, AV.c (AC.w 2)), (6, AV.c (AC.i (IntKind.wrap IntKind.i64 (j + 1))))], [(0, Ent.mk true (bcs (V6.set a (Int.toNat j) (V6.get b (Int.toNat j)))) 0), (1, Ent.mk true (bcs b) 0), (2, Ent.mk true [AC.b false, AC.b false, AC.b false, AC.b false, AC.b false, AC.b false] 0)], 3⟩ 2000 [Eff.mk (AV.c (AC.b (V6.get a (Int.toNat j)))) [] none, Eff.mk (AV.c (AC.b (V6.get b (Int.toNat j)))) [] none, Eff.mk (AV.raw undef) [(0, (bcs (V6.set a (Int.toNat j) (V6.get b (Int.toNat j)))))] none] [true, false] ([true]) [(4, 3), (4, 7), (4, 10)] Try.func122 (by kernel_rfl) h (cr_same c0 (cr_same c1 (cr_same c2 cr_nil))) lo hF z
theorem feEnd_w0 {a : V6 Bool} {b : V6 Bool} {w : World} {β : Bs} {n : Nat} :
    ART Try.prog 122 (cx w β n []) Try.f122.ntmps (cutAt Try.f122 0) (Kn.mk [(2, AV.c (AC.w 0)), (3, AV.c (AC.w 1)), (4, AV.c (AC.w 2)), (6, AV.c (AC.i 6))] [(0, Ent.mk true (bcs a) 0), (1, Ent.mk true (bcs b) 0), (2, Ent.mk true (bcs no6) 0)] 3) (REff w β ⟨AV.ag (bcs a), [], none⟩) :=
  run_eff [] (none) 2000 [] [false] ([true]) [] Try.func122 (ekeys0 rfl n) (by kernel_rfl) rfl cr_nil
end Go.Proofs.Ytkigmocchaikgab

/- Ways of bodies, written by a program (ways.py): what each asks for, and hands back. -/
namespace Go.Proofs.Ytkigmocchaikgab
open Go.RowKit

theorem addS_w0 {S : List St} {q : Nat} {c : Nat} {k : Int} {t : St} {j1 : St} {e : Int} {w : World} {β : Bs} {n : Nat} (h : (St.live t && (decide (0 ≤ k) && decide (k < (↑q : Int)) && (Nat.ble (0 + Int.toNat k * 31 + 31) (List.length (scell S)) && (decide (0 ≤ k) && decide (k < (↑q : Int)) && (Nat.ble (0 + Int.toNat k * 31 + List.length (St.cs j1)) (List.length (scell S)) && true && true))))) = true) (c0 : Eff.mk (AV.ag (List.take 31 (List.drop (0 + Int.toNat k * 31) (scell S)))) [] none = Eff.mk (AV.ag (St.cs (stAt S (Int.toNat k)))) [] none) (c1 : CallOK Try.prog (CallRec.mk 13 [AV.ag (St.cs (stAt S (Int.toNat k))), AV.ag (St.cs t)] [] (Eff.mk (AV.tu [AT.ag (St.cs j1), AT.c (AC.i e)]) [] none))) (c2 : Eff.mk (AV.raw undef) [(0, splice (scell S) (0 + Int.toNat k * 31) (St.cs j1))] none = Eff.mk (AV.raw undef) [(0, scell (List.set S (Int.toNat k) j1))] none) (hk : EKeys n [0] (none) ⟨AV.tu [], [(0, scell (List.set S (Int.toNat k) j1))], none⟩) :
    ART Try.prog 48 (cx w β n [0]) Try.f48.ntmps ([Item.code (bodyOf Try.f48)]) (Kn.start [AV.c (AC.sl 0 0 q c), AV.c (AC.i k), AV.ag (St.cs t)] [(0, Ent.mk true (scell S) 0)] 1) (REff w β ⟨AV.tu [], [(0, scell (List.set S (Int.toNat k) j1))], none⟩) :=
  run_eff [0] (none) 2000 [Eff.mk (AV.ag (St.cs (stAt S (Int.toNat k)))) [] none, Eff.mk (AV.tu [AT.ag (St.cs j1), AT.c (AC.i e)]) [] none, Eff.mk (AV.raw undef) [(0, scell (List.set S (Int.toNat k) j1))] none] [true] ([]) [(2, 5), (2, 12)] Try.func48 hk (by kernel_rfl) h (cr_same c0 (cr_cons c1 (cr_same c2 cr_nil)))
theorem addS_w1 {S : List St} {q : Nat} {c : Nat} {k : Int} {t : St} {w : World} {β : Bs} {n : Nat} (h : (!St.live t && true) = true) (hk : EKeys n [0] (none) ⟨AV.tu [], [(0, scell S)], none⟩) :
    ART Try.prog 48 (cx w β n [0]) Try.f48.ntmps ([Item.code (bodyOf Try.f48)]) (Kn.start [AV.c (AC.sl 0 0 q c), AV.c (AC.i k), AV.ag (St.cs t)] [(0, Ent.mk true (scell S) 0)] 1) (REff w β ⟨AV.tu [], [(0, scell S)], none⟩) :=
  run_eff [0] (none) 2000 [] [false] ([]) [(2, 5), (2, 12)] Try.func48 hk (by kernel_rfl) h cr_nil
theorem addS_all {S : List St} {q : Nat} {c : Nat} {k : Int} {t : St} {j1 : St} {e : Int} {w : World} {β : Bs} {n : Nat} {E : Eff}
    (l0 : (St.live t) = true → (decide (0 ≤ k) && decide (k < (↑q : Int))) = true ∧ (Nat.ble (0 + Int.toNat k * 31 + 31) (List.length (scell S))) = true ∧ (decide (0 ≤ k) && decide (k < (↑q : Int))) = true ∧ (Nat.ble (0 + Int.toNat k * 31 + List.length (St.cs j1)) (List.length (scell S)) && true) = true ∧ (Eff.mk (AV.ag (List.take 31 (List.drop (0 + Int.toNat k * 31) (scell S)))) [] none = Eff.mk (AV.ag (St.cs (stAt S (Int.toNat k)))) [] none) ∧ (CallOK Try.prog (CallRec.mk 13 [AV.ag (St.cs (stAt S (Int.toNat k))), AV.ag (St.cs t)] [] (Eff.mk (AV.tu [AT.ag (St.cs j1), AT.c (AC.i e)]) [] none))) ∧ (Eff.mk (AV.raw undef) [(0, splice (scell S) (0 + Int.toNat k * 31) (St.cs j1))] none = Eff.mk (AV.raw undef) [(0, scell (List.set S (Int.toNat k) j1))] none) ∧ EKeys n [0] (none) ⟨AV.tu [], [(0, scell (List.set S (Int.toNat k) j1))], none⟩ ∧ ((⟨AV.tu [], [(0, scell (List.set S (Int.toNat k) j1))], none⟩ : Eff) = E))
    (l1 : (St.live t) = false → EKeys n [0] (none) ⟨AV.tu [], [(0, scell S)], none⟩ ∧ ((⟨AV.tu [], [(0, scell S)], none⟩ : Eff) = E)) :
    ART Try.prog 48 (cx w β n [0]) Try.f48.ntmps ([Item.code (bodyOf Try.f48)]) (Kn.start [AV.c (AC.sl 0 0 q c), AV.c (AC.i k), AV.ag (St.cs t)] [(0, Ent.mk true (scell S) 0)] 1) (REff w β E) :=
  (tf (St.live t)).elim (fun h0 => (match l0 h0 with | ⟨o0, o1, o2, o3, c0, c1, c2, hk, e⟩ => art_eq (addS_w0 (and_yes h0 (and_yes o0 (and_yes o1 (and_yes o2 (and_yes o3 rfl))))) c0 c1 c2 hk) e)) (fun h0 => (match l1 h0 with | ⟨hk, e⟩ => art_eq (addS_w1 (and_yes (not_yes h0) rfl) hk) e))
theorem vTop_w0 {L : List Ins} {c : Nat} {e : Int} {w : World} {β : Bs} {n : Nat} (h : (e != 0 && true) = true) (c0 : CallOK Try.prog (CallRec.mk 28 [AV.c (AC.sl 0 0 (List.length L) c)] [(0, Ent.mk false (pcell L) 0)] (Eff.mk (AV.c (AC.i e)) [] none))) :
    ART Try.prog 23 (cx w β n []) Try.f23.ntmps ([Item.code (bodyOf Try.f23)]) (Kn.start [AV.c (AC.sl 0 0 (List.length L) c)] [(0, Ent.mk false (pcell L) 0)] 1) (REff w β ⟨AV.tu [AT.ag [AC.i 0, AC.i 0, nilSl], AT.c (AC.i e)], [], none⟩) :=
  run_eff [] (none) 2000 [Eff.mk (AV.c (AC.i e)) [] none] [true] ([true]) [(4, 2), (5, 3)] Try.func23 (ekeys0 rfl n) (by kernel_rfl) h (cr_cons c0 cr_nil)
theorem vTop_w1 {L : List Ins} {c : Nat} {b : St} {e : Int} {C : Cx} {R : Ending → World → Prop} (h : (!e != 0 && (decide ((↑(List.length L) : Int) ≤ (↑(List.length L) : Int)) && decide ((↑(List.length L) : Int) ≤ 1099511627776) && true && (decide (0 < (↑(List.length L) : Int)) && (Nat.ble (0 + List.length (St.cs b)) (List.length (scell (List.replicate (List.length L) St.z))) && true && true)))) = true) (c0 : CallOK Try.prog (CallRec.mk 28 [AV.c (AC.sl 0 0 (List.length L) c)] [(0, Ent.mk false (pcell L) 0)] (Eff.mk (AV.c (AC.i e)) [] none))) (c1 : Eff.mk (AV.c (AC.sl 10 0 (Int.toNat (↑(List.length L) : Int)) (Int.toNat (↑(List.length L) : Int)))) [] (some (1 + 2 + 3 + 2 + 2, Ent.mk true (rows (Int.toNat (↑(List.length L) : Int)) (St.cs St.z)) 0)) = Eff.mk (AV.c (AC.sl 10 0 (List.length L) (List.length L))) [] (some (10, Ent.mk true (scell (List.replicate (List.length L) St.z)) 0))) (c2 : CallOK Try.prog (CallRec.mk 18 [] [] (Eff.mk (AV.ag (St.cs b)) [] none))) (c3 : Eff.mk (AV.raw undef) [(10, splice (scell (List.replicate (List.length L) St.z)) 0 (St.cs b))] none = Eff.mk (AV.raw undef) [(10, scell (List.set (List.replicate (List.length L) St.z) 0 b))] none) (lo : Kn.Low ⟨[(2, AV.c (AC.w 1)), (5, AV.c (AC.sl 10 0 (List.length L) (List.length L))), (24, AV.c (AC.sl 0 0 (List.length L) c)), (25, AV.c (AC.i (↑(List.length L) : Int))), (26, AV.c (AC.i 0))], [(0, Ent.mk false (pcell L) 0), (1, Ent.mk true [AC.i 0, AC.i 0, nilSl] 0), (10, Ent.mk true (scell (List.set (List.replicate (List.length L) St.z) 0 b)) 0)], 11⟩) (hF : ∀ k, C.F k → k < 11) (z : ART Try.prog 23 C Try.f23.ntmps (cutAt Try.f23 0) ⟨[(2, AV.c (AC.w 1)), (5, AV.c (AC.sl 10 0 (List.length L) (List.length L))), (24, AV.c (AC.sl 0 0 (List.length L) c)), (25, AV.c (AC.i (↑(List.length L) : Int))), (26, AV.c (AC.i 0))], [(0, Ent.mk false (pcell L) 0), (1, Ent.mk true [AC.i 0, AC.i 0, nilSl] 0), (10, Ent.mk true (scell (List.set (List.replicate (List.length L) St.z) 0 b)) 0)], 11⟩ R) :
    ART Try.prog 23 C Try.f23.ntmps ([Item.code (bodyOf Try.f23)]) (Kn.start [AV.c (AC.sl 0 0 (List.length L) c)] [(0, Ent.mk false (pcell L) 0)] 1) R :=
  run_cut ⟨[(2, AV.c (AC.w 1)), (5, AV.c (AC.sl 10 0 (List.length L) (List.length L))), (24, AV.c (AC.sl 0 0 (List.length L) c)), (25, AV.c (AC.i (↑(List.length L) : Int))), (26, AV.c (AC.i 0))], [(0, Ent.mk false (pcell L) 0), (1, Ent.mk true [AC.i 0, AC.i 0, nilSl] 0), (10, Ent.mk true (scell (List.set (List.replicate (List.length L) St.z) 0 b)) 0)], 11⟩ 2000 [Eff.mk (AV.c (AC.i e)) [] none, Eff.mk (AV.c (AC.sl 10 0 (List.length L) (List.length L))) [] (some (10, Ent.mk true (scell (List.replicate (List.length L) St.z)) 0)), Eff.mk (AV.ag (St.cs b)) [] none, Eff.mk (AV.raw undef) [(10, scell (List.set (List.replicate (List.length L) St.z) 0 b))] none] [false] ([true]) [(4, 2), (5, 3)] Try.func23 (by kernel_rfl) h (cr_cons c0 (cr_same c1 (cr_cons c2 (cr_same c3 cr_nil)))) lo hF z
theorem vNil_w0 {e : Int} (h : (e != 0 && true) = true) (c0 : CallOK Try.prog (CallRec.mk 28 [AV.c nilSl] [] (Eff.mk (AV.c (AC.i e)) [] none))) :
    CallOK Try.prog ⟨23, [AV.c nilSl], [], ⟨AV.tu [AT.ag [AC.i 0, AC.i 0, nilSl], AT.c (AC.i e)], [], none⟩⟩ :=
  val_run 2000 [Eff.mk (AV.c (AC.i e)) [] none] [true] ([true]) [] Try.func23 rfl rfl rfl rfl (by kernel_rfl) h (cr_cons c0 cr_nil)
theorem vTrap_w0 {L : List Ins} {c : Nat} {j : Nat} {S : List St} {a : St} {b : St} {tr : Int} {g : Int} {w : World} {β : Bs} {n : Nat} (h : (decide ((↑j : Int) < (↑(List.length L) : Int)) && (decide ((↑j : Int) < (↑(List.length L) : Int)) && (Nat.ble (0 + Int.toNat (↑j : Int) * 5 + 5) (List.length (pcell L)) && (decide ((↑j : Int) < (↑(List.length L) : Int)) && (Nat.ble (0 + Int.toNat (↑j : Int) * 31 + 31) (List.length (scell S)) && (tr != 0 && (decide ((↑(j + 1) : Int) ≤ (↑(List.length L) : Int)) && decide ((↑(List.length L) : Int) ≤ (↑(List.length L) : Int)) && true))))))) = true) (c0 : Eff.mk (AV.ag (List.take 5 (List.drop (0 + Int.toNat (↑j : Int) * 5) (pcell L)))) [] none = Eff.mk (AV.ag (Ins.cs (elt L j))) [] none) (c1 : Eff.mk (AV.ag (List.take 31 (List.drop (0 + Int.toNat (↑j : Int) * 31) (scell S)))) [] none = Eff.mk (AV.ag (St.cs (stAt S j))) [] none) (c2 : CallOK Try.prog (CallRec.mk 22 [AV.ag (Ins.cs (elt L j)), AV.ag (St.cs (stAt S j))] [] (Eff.mk (AV.tu [AT.ag (St.cs a), AT.ag (St.cs b), AT.c (AC.i tr), AT.c (AC.i g)]) [] none))) (c3 : Eff.mk (AV.c (AC.i (IntKind.wrap IntKind.i64 ((↑j : Int) + 1)))) [] none = Eff.mk (AV.c (AC.i (↑(j + 1) : Int))) [] none) (c4 : Eff.mk (AV.c (AC.sl 10 0 (Int.toNat ((↑(j + 1) : Int))) (Int.toNat ((↑(List.length L) : Int))))) [] none = Eff.mk (AV.c (AC.sl 10 0 (j + 1) (List.length L))) [] none) (c5 : CallOK Try.prog (CallRec.mk 47 [AV.c (AC.sl 10 0 (j + 1) (List.length L))] [(10, Ent.mk true (scell S) 0)] (Eff.mk (AV.c (AC.sx 43 (j + 1))) [] (some (43, Ent.mk true (scell (List.take (j + 1) S)) 31))))) (hk : EKeys n [] (some 43) ⟨AV.tu [AT.ag [AC.i tr, AC.i (↑j : Int), AC.sx 43 (j + 1)], AT.c (AC.i 0)], [], some (43, Ent.mk true (scell (List.take (j + 1) S)) 31)⟩) :
    ART Try.prog 23 (cx w β n []) Try.f23.ntmps (cutAt Try.f23 0) (Kn.mk [(2, AV.c (AC.w 1)), (5, AV.c (AC.sl 10 0 (List.length L) (List.length L))), (24, AV.c (AC.sl 0 0 (List.length L) c)), (25, AV.c (AC.i (↑(List.length L) : Int))), (26, AV.c (AC.i (↑j : Int)))] [(0, Ent.mk false (pcell L) 0), (1, Ent.mk true [AC.i 0, AC.i 0, nilSl] 0), (10, Ent.mk true (scell S) 0)] 11) (REff w β ⟨AV.tu [AT.ag [AC.i tr, AC.i (↑j : Int), AC.sx 43 (j + 1)], AT.c (AC.i 0)], [], some (43, Ent.mk true (scell (List.take (j + 1) S)) 31)⟩) :=
  run_eff [] (some 43) 2000 [Eff.mk (AV.ag (Ins.cs (elt L j))) [] none, Eff.mk (AV.ag (St.cs (stAt S j))) [] none, Eff.mk (AV.tu [AT.ag (St.cs a), AT.ag (St.cs b), AT.c (AC.i tr), AT.c (AC.i g)]) [] none, Eff.mk (AV.c (AC.i (↑(j + 1) : Int))) [] none, Eff.mk (AV.c (AC.sl 10 0 (j + 1) (List.length L))) [] none, Eff.mk (AV.c (AC.sx 43 (j + 1))) [] (some (43, Ent.mk true (scell (List.take (j + 1) S)) 31))] [true, true] ([true]) [(8, 2), (9, 4), (11, 4), (11, 5)] Try.func23 hk (by kernel_rfl) h (cr_same c0 (cr_same c1 (cr_cons c2 (cr_same c3 (cr_same c4 (cr_cons c5 cr_nil))))))
theorem vRound_w0 {L : List Ins} {c : Nat} {j : Nat} {S : List St} {S1 : List St} {S2 : List St} {a : St} {b : St} {tr : Int} {g : Int} {C : Cx} {R : Ending → World → Prop} (h : (decide ((↑j : Int) < (↑(List.length L) : Int)) && (decide ((↑j : Int) < (↑(List.length L) : Int)) && (Nat.ble (0 + Int.toNat (↑j : Int) * 5 + 5) (List.length (pcell L)) && (decide ((↑j : Int) < (↑(List.length L) : Int)) && (Nat.ble (0 + Int.toNat (↑j : Int) * 31 + 31) (List.length (scell S)) && (!tr != 0 && true)))))) = true) (c0 : Eff.mk (AV.ag (List.take 5 (List.drop (0 + Int.toNat (↑j : Int) * 5) (pcell L)))) [] none = Eff.mk (AV.ag (Ins.cs (elt L j))) [] none) (c1 : Eff.mk (AV.ag (List.take 31 (List.drop (0 + Int.toNat (↑j : Int) * 31) (scell S)))) [] none = Eff.mk (AV.ag (St.cs (stAt S j))) [] none) (c2 : CallOK Try.prog (CallRec.mk 22 [AV.ag (Ins.cs (elt L j)), AV.ag (St.cs (stAt S j))] [] (Eff.mk (AV.tu [AT.ag (St.cs a), AT.ag (St.cs b), AT.c (AC.i tr), AT.c (AC.i g)]) [] none))) (c3 : Eff.mk (AV.c (AC.i (IntKind.wrap IntKind.i64 ((↑j : Int) + 1)))) [] none = Eff.mk (AV.c (AC.i (↑(j + 1) : Int))) [] none) (c4 : CallOK Try.prog (CallRec.mk 48 [AV.c (AC.sl 10 0 (List.length L) (List.length L)), AV.c (AC.i (↑(j + 1) : Int)), AV.ag (St.cs a)] [(10, Ent.mk true (scell S) 0)] (Eff.mk (AV.tu []) [(10, scell S1)] none))) (c5 : Eff.mk (AV.c (AC.i (IntKind.wrap IntKind.i64 ((↑j : Int) + 1)))) [] none = Eff.mk (AV.c (AC.i (↑(j + 1) : Int))) [] none) (c6 : Eff.mk (AV.c (AC.i (IntKind.wrap IntKind.i64 ((↑(j + 1) : Int) + Ins.of (elt L j))))) [] none = Eff.mk (AV.c (AC.i ((↑(j + 1) : Int) + Ins.of (elt L j)))) [] none) (c7 : CallOK Try.prog (CallRec.mk 48 [AV.c (AC.sl 10 0 (List.length L) (List.length L)), AV.c (AC.i ((↑(j + 1) : Int) + Ins.of (elt L j))), AV.ag (St.cs b)] [(10, Ent.mk true (scell S1) 0)] (Eff.mk (AV.tu []) [(10, scell S2)] none))) (c8 : Eff.mk (AV.c (AC.i (IntKind.wrap IntKind.i64 ((↑j : Int) + 1)))) [] none = Eff.mk (AV.c (AC.i (↑(j + 1) : Int))) [] none) (lo : Kn.Low ⟨[(2, AV.c (AC.w 1)), (5, AV.c (AC.sl 10 0 (List.length L) (List.length L))), (24, AV.c (AC.sl 0 0 (List.length L) c)), (25, AV.c (AC.i (↑(List.length L) : Int))), (26, AV.c (AC.i (↑(j + 1) : Int)))], [(0, Ent.mk false (pcell L) 0), (1, Ent.mk true [AC.i 0, AC.i 0, nilSl] 0), (10, Ent.mk true (scell S2) 0)], 11⟩) (hF : ∀ k, C.F k → k < 11) (z : ART Try.prog 23 C Try.f23.ntmps (cutAt Try.f23 0) ⟨[(2, AV.c (AC.w 1)), (5, AV.c (AC.sl 10 0 (List.length L) (List.length L))), (24, AV.c (AC.sl 0 0 (List.length L) c)), (25, AV.c (AC.i (↑(List.length L) : Int))), (26, AV.c (AC.i (↑(j + 1) : Int)))], [(0, Ent.mk false (pcell L) 0), (1, Ent.mk true [AC.i 0, AC.i 0, nilSl] 0), (10, Ent.mk true (scell S2) 0)], 11⟩ R) :
    ART Try.prog 23 C Try.f23.ntmps (cutAt Try.f23 0) (Kn.mk [(2, AV.c (AC.w 1)), (5, AV.c (AC.sl 10 0 (List.length L) (List.length L))), (24, AV.c (AC.sl 0 0 (List.length L) c)), (25, AV.c (AC.i (↑(List.length L) : Int))), (26, AV.c (AC.i (↑j : Int)))] [(0, Ent.mk false (pcell L) 0), (1, Ent.mk true [AC.i 0, AC.i 0, nilSl] 0), (10, Ent.mk true (scell S) 0)] 11) R :=
  run_cut ⟨[(2, AV.c (AC.w 1)), (5, AV.c (AC.sl 10 0 (List.length L) (List.length L))), (24, AV.c (AC.sl 0 0 (List.length L) c)), (25, AV.c (AC.i (↑(List.length L) : Int))), (26, AV.c (AC.i (↑(j + 1) : Int)))], [(0, Ent.mk false (pcell L) 0), (1, Ent.mk true [AC.i 0, AC.i 0, nilSl] 0), (10, Ent.mk true (scell S2) 0)], 11⟩ 2000 [Eff.mk (AV.ag (Ins.cs (elt L j))) [] none, Eff.mk (AV.ag (St.cs (stAt S j))) [] none, Eff.mk (AV.tu [AT.ag (St.cs a), AT.ag (St.cs b), AT.c (AC.i tr), AT.c (AC.i g)]) [] none, Eff.mk (AV.c (AC.i (↑(j + 1) : Int))) [] none, Eff.mk (AV.tu []) [(10, scell S1)] none, Eff.mk (AV.c (AC.i (↑(j + 1) : Int))) [] none, Eff.mk (AV.c (AC.i ((↑(j + 1) : Int) + Ins.of (elt L j)))) [] none, Eff.mk (AV.tu []) [(10, scell S2)] none, Eff.mk (AV.c (AC.i (↑(j + 1) : Int))) [] none] [true, false] ([true]) [(8, 2), (9, 4), (12, 2), (13, 2), (13, 5), (14, 0)] Try.func23 (by kernel_rfl) h (cr_same c0 (cr_same c1 (cr_cons c2 (cr_same c3 (cr_cons c4 (cr_same c5 (cr_same c6 (cr_cons c7 (cr_same c8 cr_nil))))))))) lo hF z
theorem vEnd_w0 {L : List Ins} {c : Nat} {j : Nat} {S : List St} {w : World} {β : Bs} {n : Nat} (h : (!decide ((↑j : Int) < (↑(List.length L) : Int)) && true) = true) (hk : EKeys n [] (some 10) ⟨AV.tu [AT.ag [AC.i 0, AC.i 0, AC.sl 10 0 (List.length L) (List.length L)], AT.c (AC.i 0)], [], some (10, Ent.mk true (scell S) 0)⟩) :
    ART Try.prog 23 (cx w β n []) Try.f23.ntmps (cutAt Try.f23 0) (Kn.mk [(2, AV.c (AC.w 1)), (5, AV.c (AC.sl 10 0 (List.length L) (List.length L))), (24, AV.c (AC.sl 0 0 (List.length L) c)), (25, AV.c (AC.i (↑(List.length L) : Int))), (26, AV.c (AC.i (↑j : Int)))] [(0, Ent.mk false (pcell L) 0), (1, Ent.mk true [AC.i 0, AC.i 0, nilSl] 0), (10, Ent.mk true (scell S) 0)] 11) (REff w β ⟨AV.tu [AT.ag [AC.i 0, AC.i 0, AC.sl 10 0 (List.length L) (List.length L)], AT.c (AC.i 0)], [], some (10, Ent.mk true (scell S) 0)⟩) :=
  run_eff [] (some 10) 2000 [] [false] ([true]) [] Try.func23 hk (by kernel_rfl) h cr_nil
end Go.Proofs.Ytkigmocchaikgab
