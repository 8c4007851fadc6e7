/- What an argument of type Val is. -/
import Derived.Test.YtglollajdjgciaaLift
namespace Go.Proofs.Ytglollajdjgciaa
open Go.ChangeShapes Go.WideShapes Go.ChangeAt Go.RowKit Go.Joins

theorem Try.cellsVal : Try.prog.cellsOf 49 = 4 := by kernel_rfl
theorem Try.cellsU : Try.prog.cellsOf 22 = 1 := by kernel_rfl
set_option maxRecDepth 100000 in
theorem arg_val {H : Type} {enc : TypeId × Value → H} {W : World} {base b0 : Nat} {spare : Nat → Bool} {held : Bool} {v : Value} {d : DataW H} {p : List MemPlace}
    (hv : Value.okWide Try.prog W .any b0 49 v) (h : DataW.Trod enc Try.prog W base spare held 49 v d p) : ∃ x y l g, v = Vl x y l g := by
  obtain ⟨cs, rfl, hsz⟩ := okWide_struct Try.underlying49 hv
  obtain ⟨c0, c1, c2, c3, rfl⟩ := array4 (hsz.trans Try.cellsVal)
  obtain ⟨fuel, hf⟩ := h
  obtain ⟨y0, y1, y2, n, hx, _, h0, h1, h2⟩ := Go.Deep.trod_struct3 Try.underlying49 hf
  simp only [Try.cellsBits, Try.cellsU, Value.cells] at h0 h1 h2
  simp at h0 h1 h2
  obtain ⟨z0, z1, k, hz, _, g0, g1⟩ := trod_struct2 Try.underlying24 h0
  simp only [Try.cellsU] at g0 g1
  simp at g0 g1
  obtain ⟨a, e0, _, wa⟩ := DataW.trod_int Try.underlying22 g0
  obtain ⟨b, e1, _, wb⟩ := DataW.trod_int Try.underlying22 g1
  obtain ⟨c, e2, _, wc⟩ := DataW.trod_int Try.underlying22 h1
  obtain ⟨g, e3, _, wg⟩ := DataW.trod_int Try.underlying22 h2
  simp at e0 e1 e2 e3
  subst e0 e1 e2 e3
  obtain ⟨x, rfl⟩ := u64_of_wf wa
  obtain ⟨y, rfl⟩ := u64_of_wf wb
  obtain ⟨l, rfl⟩ := u64_of_wf wc
  obtain ⟨g, rfl⟩ := u64_of_wf wg
  exact ⟨x, y, l, g, rfl⟩

end Go.Proofs.Ytglollajdjgciaa
