/- Boxes: blocks of the call's own, each with the values that it holds; they stay as they are while others work. -/
import Derived.Test.YtglollajdjgciaaW1
namespace Go.Proofs.Ytglollajdjgciaa
open Go.RowKit

def BoxAt (w : World) (b : Nat) (vs : List Value) : Prop :=
  (∀ i v, vs[i]? = some v → w.cell? ⟨b, i, none⟩ = some v) ∧ (∀ i v, vs[i]? = some v → w.frozen? ⟨b, i, none⟩ = false) ∧ b < w.heap.size

def Boxes (w : World) : List (Nat × List Value) → Prop
  | [] => True
  | p :: L => BoxAt w p.1 p.2 ∧ (∀ q, q ∈ L → q.1 < p.1) ∧ Boxes w L

theorem BoxAt.keep {w w' : World} {b : Nat} {vs : List Value} (h : BoxAt w b vs) (hb : Below w.heap.size w w') : BoxAt w' b vs :=
  ⟨fun i v e => (hb.cell (p := ⟨b, i, none⟩) h.2.2).trans (h.1 i v e), fun i v e => (hb.frozen (p := ⟨b, i, none⟩) h.2.2).trans (h.2.1 i v e), Nat.lt_of_lt_of_le h.2.2 hb.size⟩
theorem Boxes.keep {w w' : World} : ∀ {L : List (Nat × List Value)}, Boxes w L → Below w.heap.size w w' → Boxes w' L
  | [], _, _ => trivial
  | _ :: _, h, hb => ⟨h.1.keep hb, h.2.1, Boxes.keep h.2.2 hb⟩
theorem Boxes.nil (w : World) : Boxes w [] := trivial
theorem Boxes.lt {w : World} : ∀ {L : List (Nat × List Value)}, Boxes w L → ∀ q, q ∈ L → q.1 < w.heap.size
  | [], _, _, hq => absurd hq (by simp)
  | p :: L, h, q, hq => by
    rcases List.mem_cons.1 hq with e | e
    · rw [e]; exact h.1.2.2
    · exact Boxes.lt h.2.2 q e
theorem Boxes.add {w : World} {L : List (Nat × List Value)} (h : Boxes w L) (cs : List Value) (t : TypeId) : Boxes (w.alloc (.cells cs.toArray t)) ((w.heap.size, cs) :: L) := by
  refine ⟨⟨fun i v e => ?_, fun i v e => ?_, by simp⟩, fun q hq => h.lt q hq, h.keep ((Below.refl _ _).alloc (Nat.le_refl _) _)⟩
  · rw [World.cell?_alloc_new]; simpa using e
  · rw [World.frozen?_alloc_new]
theorem Boxes.add2 {w : World} {L : List (Nat × List Value)} (h : Boxes w L) (x y : Value) (t : TypeId) : Boxes (w.alloc (.cells #[x, y] t)) ((w.heap.size, [x, y]) :: L) := h.add [x, y] t
theorem Boxes.add4 {w : World} {L : List (Nat × List Value)} (h : Boxes w L) (x y z u : Value) (t : TypeId) : Boxes (w.alloc (.cells #[x, y, z, u] t)) ((w.heap.size, [x, y, z, u]) :: L) := h.add [x, y, z, u] t
theorem Boxes.drew {w : World} {L : List (Nat × List Value)} (h : Boxes w L) (n : Nat) : Boxes (w.drewN n) L := h.keep (below_drewN (Below.refl _ _) n)

/- a box is written anew, as a whole -/
theorem BoxAt.other {w : World} {b b' i : Nat} {v : Value} {vs : List Value} (h : BoxAt w b vs) (hne : b ≠ b') : BoxAt (w.setCell ⟨b', i, none⟩ v) b vs := by
  refine ⟨fun j u e => ?_, fun j u e => ?_, by simpa using h.2.2⟩
  · rw [World.cell?_setCell_other _ _ _ _ (by intro h; injection h with h1; exact hne h1.symm)]; exact h.1 j u e
  · rw [World.frozen?_setCell]; exact h.2.1 j u e
theorem Boxes.other {w : World} {b' i : Nat} {v : Value} : ∀ {L : List (Nat × List Value)}, Boxes w L → (∀ q, q ∈ L → q.1 ≠ b') → Boxes (w.setCell ⟨b', i, none⟩ v) L
  | [], _, _ => trivial
  | p :: _, h, hn => ⟨h.1.other (hn p (by simp)), h.2.1, Boxes.other h.2.2 fun q hq => hn q (by simp [hq])⟩
theorem BoxAt.setOne {w : World} {b i : Nat} {v u : Value} {vs : List Value} (h : BoxAt w b vs) (hi : vs[i]? = some u) : BoxAt (w.setCell ⟨b, i, none⟩ v) b (vs.set i v) := by
  have hlt : i < vs.length := by
    rcases Nat.lt_or_ge i vs.length with h1 | h1
    · exact h1
    · rw [List.getElem?_eq_none h1] at hi; cases hi
  refine ⟨fun j y e => ?_, fun j y e => ?_, by simpa using h.2.2⟩
  · by_cases hj : i = j
    · subst hj
      rw [List.getElem?_set_self hlt] at e
      rw [World.cell?_setCell_same _ _ _ (h.1 i u hi)]; exact e
    · rw [List.getElem?_set_ne hj] at e
      rw [World.cell?_setCell_other _ _ _ _ (by intro h; injection h with _ h2; exact hj h2)]; exact h.1 j y e
  · rw [World.frozen?_setCell]
    by_cases hj : i = j
    · subst hj; exact h.2.1 i u hi
    · rw [List.getElem?_set_ne hj] at e; exact h.2.1 j y e
theorem Boxes.setOne {w : World} {b i : Nat} {v u : Value} {vs : List Value} : ∀ {L : List (Nat × List Value)} (k : Nat), Boxes w L → L[k]? = some (b, vs) → vs[i]? = some u → Boxes (w.setCell ⟨b, i, none⟩ v) (L.set k (b, vs.set i v))
  | [], _, _, e, _ => by simp at e
  | p :: L, 0, h, e, hi => by
    simp only [List.getElem?_cons_zero, Option.some.injEq] at e
    subst e
    exact ⟨h.1.setOne hi, h.2.1, h.2.2.other fun q hq => Nat.ne_of_lt (h.2.1 q hq)⟩
  | p :: L, k + 1, h, e, hi => by
    simp only [List.getElem?_cons_succ] at e
    have hm : (b, vs) ∈ L := List.mem_of_getElem? e
    refine ⟨h.1.other (Nat.ne_of_gt (h.2.1 _ hm)), fun q hq => ?_, Boxes.setOne k h.2.2 e hi⟩
    rcases List.mem_or_eq_of_mem_set hq with h1 | h1
    · exact h.2.1 q h1
    · rw [h1]; have := h.2.1 (b, vs) hm; exact this
theorem Boxes.set2 {w : World} {b : Nat} {x y u0 u1 : Value} {L : List (Nat × List Value)} (k : Nat) (h : Boxes w L) (e : L[k]? = some (b, [u0, u1])) :
    Boxes ((w.setCell ⟨b, 0, none⟩ x).setCell ⟨b, 1, none⟩ y) (L.set k (b, [x, y])) := by
  have h1 := Boxes.setOne (i := 0) (v := x) k h e rfl
  have e1 : (L.set k (b, [u0, u1].set 0 x))[k]? = some (b, [x, u1]) := by
    have : k < L.length := by
      rcases Nat.lt_or_ge k L.length with h2 | h2
      · exact h2
      · rw [List.getElem?_eq_none h2] at e; cases e
    rw [List.getElem?_set_self this]; rfl
  have h2 := Boxes.setOne (i := 1) (v := y) k h1 e1 rfl
  rw [List.set_set] at h2
  exact h2
theorem Boxes.set4 {w : World} {b : Nat} {x y z t u0 u1 u2 u3 : Value} {L : List (Nat × List Value)} (k : Nat) (h : Boxes w L) (e : L[k]? = some (b, [u0, u1, u2, u3])) :
    Boxes ((((w.setCell ⟨b, 0, none⟩ x).setCell ⟨b, 1, none⟩ y).setCell ⟨b, 2, none⟩ z).setCell ⟨b, 3, none⟩ t) (L.set k (b, [x, y, z, t])) := by
  have hk : k < L.length := by
    rcases Nat.lt_or_ge k L.length with h2 | h2
    · exact h2
    · rw [List.getElem?_eq_none h2] at e; cases e
  have h1 := Boxes.setOne (i := 0) (v := x) k h e rfl
  have h2 := Boxes.setOne (i := 1) (v := y) (vs := [x, u1, u2, u3]) k h1 (by rw [List.getElem?_set_self hk]; rfl) rfl
  rw [List.set_set] at h2
  have h3 := Boxes.setOne (i := 2) (v := z) (vs := [x, y, u2, u3]) k h2 (by rw [List.getElem?_set_self hk]; rfl) rfl
  rw [List.set_set] at h3
  have h4 := Boxes.setOne (i := 3) (v := t) (vs := [x, y, z, u3]) k h3 (by rw [List.getElem?_set_self hk]; rfl) rfl
  rw [List.set_set] at h4
  exact h4

/- what the walk wants of a box -/
theorem BoxAt.one {w : World} {b : Nat} {x : Value} (h : BoxAt w b [x]) : w.cell? ⟨b, 0, none⟩ = some x ∧ w.frozen? ⟨b, 0, none⟩ = false ∧ b < w.heap.size :=
  ⟨h.1 0 x rfl, h.2.1 0 x rfl, h.2.2⟩
theorem BoxAt.two {w : World} {b : Nat} {x y : Value} (h : BoxAt w b [x, y]) : w.cell? ⟨b, 0, none⟩ = some x ∧ w.cell? ⟨b, 1, none⟩ = some y ∧ w.frozen? ⟨b, 0, none⟩ = false ∧ w.frozen? ⟨b, 1, none⟩ = false ∧ b < w.heap.size :=
  ⟨h.1 0 x rfl, h.1 1 y rfl, h.2.1 0 x rfl, h.2.1 1 y rfl, h.2.2⟩
theorem BoxAt.four {w : World} {b : Nat} {x y z t : Value} (h : BoxAt w b [x, y, z, t]) : w.cell? ⟨b, 0, none⟩ = some x ∧ w.cell? ⟨b, 1, none⟩ = some y ∧ w.cell? ⟨b, 2, none⟩ = some z ∧ w.cell? ⟨b, 3, none⟩ = some t
    ∧ w.frozen? ⟨b, 0, none⟩ = false ∧ w.frozen? ⟨b, 1, none⟩ = false ∧ w.frozen? ⟨b, 2, none⟩ = false ∧ w.frozen? ⟨b, 3, none⟩ = false ∧ b < w.heap.size :=
  ⟨h.1 0 x rfl, h.1 1 y rfl, h.1 2 z rfl, h.1 3 t rfl, h.2.1 0 x rfl, h.2.1 1 y rfl, h.2.1 2 z rfl, h.2.1 3 t rfl, h.2.2⟩
theorem Boxes.head {w : World} {p : Nat × List Value} {L : List (Nat × List Value)} (h : Boxes w (p :: L)) : BoxAt w p.1 p.2 := h.1
theorem Boxes.tail {w : World} {p : Nat × List Value} {L : List (Nat × List Value)} (h : Boxes w (p :: L)) : Boxes w L := h.2.2

/- the call's own boxes, and that nothing older has turned -/
structure Kp (w0 w : World) (L : List (Nat × List Value)) : Prop where
  bel : Below w0.heap.size w0 w
  box : Boxes w L
  lo : ∀ p, p ∈ L → w0.heap.size ≤ p.1
theorem Kp.start (w : World) : Kp w w [] := ⟨Below.refl _ _, trivial, by simp⟩
theorem Kp.keep {w0 w w' : World} {L : List (Nat × List Value)} (h : Kp w0 w L) (hb : Below w.heap.size w w') : Kp w0 w' L := ⟨h.bel.trans (hb.mono h.bel.size), h.box.keep hb, h.lo⟩
theorem Kp.drew {w0 w : World} {L : List (Nat × List Value)} (h : Kp w0 w L) (n : Nat) : Kp w0 (w.drewN n) L := h.keep (below_drewN (Below.refl _ _) n)
theorem Kp.add2 {w0 w : World} {L : List (Nat × List Value)} (h : Kp w0 w L) (x y : Value) (t : TypeId) : Kp w0 (w.alloc (.cells #[x, y] t)) ((w.heap.size, [x, y]) :: L) :=
  ⟨h.bel.alloc h.bel.size _, h.box.add2 x y t, fun p hp => by
    rcases List.mem_cons.1 hp with e | e
    · rw [e]; exact h.bel.size
    · exact h.lo p e⟩
theorem Kp.add1 {w0 w : World} {L : List (Nat × List Value)} (h : Kp w0 w L) (x : Value) (t : TypeId) : Kp w0 (w.alloc (.cells #[x] t)) ((w.heap.size, [x]) :: L) :=
  ⟨h.bel.alloc h.bel.size _, h.box.add [x] t, fun p hp => by
    rcases List.mem_cons.1 hp with e | e
    · rw [e]; exact h.bel.size
    · exact h.lo p e⟩
theorem Kp.add4 {w0 w : World} {L : List (Nat × List Value)} (h : Kp w0 w L) (x y z u : Value) (t : TypeId) : Kp w0 (w.alloc (.cells #[x, y, z, u] t)) ((w.heap.size, [x, y, z, u]) :: L) :=
  ⟨h.bel.alloc h.bel.size _, h.box.add4 x y z u t, fun p hp => by
    rcases List.mem_cons.1 hp with e | e
    · rw [e]; exact h.bel.size
    · exact h.lo p e⟩
/- a block that is not kept in mind -/
theorem Kp.skip {w0 w : World} {L : List (Nat × List Value)} (h : Kp w0 w L) (o : Obj) : Kp w0 (w.alloc o) L := h.keep ((Below.refl _ _).alloc (Nat.le_refl _) _)
theorem Kp.set2 {w0 w : World} {b : Nat} {x y u0 u1 : Value} {L : List (Nat × List Value)} (k : Nat) (h : Kp w0 w L) (e : L[k]? = some (b, [u0, u1])) :
    Kp w0 ((w.setCell ⟨b, 0, none⟩ x).setCell ⟨b, 1, none⟩ y) (L.set k (b, [x, y])) := by
  have hlo : w0.heap.size ≤ b := h.lo _ (List.mem_of_getElem? e)
  refine ⟨(h.bel.setCell hlo x).setCell hlo y, h.box.set2 k e, fun p hp => ?_⟩
  rcases List.mem_or_eq_of_mem_set hp with h1 | h1
  · exact h.lo p h1
  · rw [h1]; exact hlo
theorem Kp.set4 {w0 w : World} {b : Nat} {x y z t u0 u1 u2 u3 : Value} {L : List (Nat × List Value)} (k : Nat) (h : Kp w0 w L) (e : L[k]? = some (b, [u0, u1, u2, u3])) :
    Kp w0 ((((w.setCell ⟨b, 0, none⟩ x).setCell ⟨b, 1, none⟩ y).setCell ⟨b, 2, none⟩ z).setCell ⟨b, 3, none⟩ t) (L.set k (b, [x, y, z, t])) := by
  have hlo : w0.heap.size ≤ b := h.lo _ (List.mem_of_getElem? e)
  refine ⟨(((h.bel.setCell hlo x).setCell hlo y).setCell hlo z).setCell hlo t, h.box.set4 k e, fun p hp => ?_⟩
  rcases List.mem_or_eq_of_mem_set hp with h1 | h1
  · exact h.lo p h1
  · rw [h1]; exact hlo

end Go.Proofs.Ytglollajdjgciaa
