import Derived.Test.YtkigmocchaikgabGreatGz3
import Derived.Test.YtkigmocchaikgabGreatGz4
/- What an argument of type State is, and of type Instr. -/
namespace Go.Proofs.YtkigmocchaikgabGreat
open Go.ChangeShapes Go.WideShapes Go.ChangeAt Go.RowKit Go.Joins

theorem st_of {l : List AC} (h : typed [.bool, .bool, .bool, .bool, .bool, .bool, .bool, .int .u64, .int .u64, .int .u64, .int .u64, .int .u64, .int .u64, .int .u64, .int .u64, .int .u64, .int .u64, .int .u64, .int .u64, .int .u64, .int .u64, .int .u64, .int .u64, .int .u64, .int .u64, .int .u64, .int .u64, .int .u64, .int .u64, .int .u64, .int .u64] l = true) : ∃ t : St, l = t.cs := by
  obtain ⟨c0, q0, rfl, h0, g0⟩ := typed_cons h
  obtain ⟨c1, q1, rfl, h1, g1⟩ := typed_cons g0
  obtain ⟨c2, q2, rfl, h2, g2⟩ := typed_cons g1
  obtain ⟨c3, q3, rfl, h3, g3⟩ := typed_cons g2
  obtain ⟨c4, q4, rfl, h4, g4⟩ := typed_cons g3
  obtain ⟨c5, q5, rfl, h5, g5⟩ := typed_cons g4
  obtain ⟨c6, q6, rfl, h6, g6⟩ := typed_cons g5
  obtain ⟨c7, q7, rfl, h7, g7⟩ := typed_cons g6
  obtain ⟨c8, q8, rfl, h8, g8⟩ := typed_cons g7
  obtain ⟨c9, q9, rfl, h9, g9⟩ := typed_cons g8
  obtain ⟨c10, q10, rfl, h10, g10⟩ := typed_cons g9
  obtain ⟨c11, q11, rfl, h11, g11⟩ := typed_cons g10
  obtain ⟨c12, q12, rfl, h12, g12⟩ := typed_cons g11
  obtain ⟨c13, q13, rfl, h13, g13⟩ := typed_cons g12
  obtain ⟨c14, q14, rfl, h14, g14⟩ := typed_cons g13
  obtain ⟨c15, q15, rfl, h15, g15⟩ := typed_cons g14
  obtain ⟨c16, q16, rfl, h16, g16⟩ := typed_cons g15
  obtain ⟨c17, q17, rfl, h17, g17⟩ := typed_cons g16
  obtain ⟨c18, q18, rfl, h18, g18⟩ := typed_cons g17
  obtain ⟨c19, q19, rfl, h19, g19⟩ := typed_cons g18
  obtain ⟨c20, q20, rfl, h20, g20⟩ := typed_cons g19
  obtain ⟨c21, q21, rfl, h21, g21⟩ := typed_cons g20
  obtain ⟨c22, q22, rfl, h22, g22⟩ := typed_cons g21
  obtain ⟨c23, q23, rfl, h23, g23⟩ := typed_cons g22
  obtain ⟨c24, q24, rfl, h24, g24⟩ := typed_cons g23
  obtain ⟨c25, q25, rfl, h25, g25⟩ := typed_cons g24
  obtain ⟨c26, q26, rfl, h26, g26⟩ := typed_cons g25
  obtain ⟨c27, q27, rfl, h27, g27⟩ := typed_cons g26
  obtain ⟨c28, q28, rfl, h28, g28⟩ := typed_cons g27
  obtain ⟨c29, q29, rfl, h29, g29⟩ := typed_cons g28
  obtain ⟨c30, q30, rfl, h30, g30⟩ := typed_cons g29
  obtain rfl := typed_nil g30
  obtain ⟨x0, rfl⟩ := isB_of h0
  obtain ⟨x1, rfl⟩ := isB_of h1
  obtain ⟨x2, rfl⟩ := isB_of h2
  obtain ⟨x3, rfl⟩ := isB_of h3
  obtain ⟨x4, rfl⟩ := isB_of h4
  obtain ⟨x5, rfl⟩ := isB_of h5
  obtain ⟨x6, rfl⟩ := isB_of h6
  obtain ⟨x7, rfl⟩ := isU_of h7
  obtain ⟨x8, rfl⟩ := isU_of h8
  obtain ⟨x9, rfl⟩ := isU_of h9
  obtain ⟨x10, rfl⟩ := isU_of h10
  obtain ⟨x11, rfl⟩ := isU_of h11
  obtain ⟨x12, rfl⟩ := isU_of h12
  obtain ⟨x13, rfl⟩ := isU_of h13
  obtain ⟨x14, rfl⟩ := isU_of h14
  obtain ⟨x15, rfl⟩ := isU_of h15
  obtain ⟨x16, rfl⟩ := isU_of h16
  obtain ⟨x17, rfl⟩ := isU_of h17
  obtain ⟨x18, rfl⟩ := isU_of h18
  obtain ⟨x19, rfl⟩ := isU_of h19
  obtain ⟨x20, rfl⟩ := isU_of h20
  obtain ⟨x21, rfl⟩ := isU_of h21
  obtain ⟨x22, rfl⟩ := isU_of h22
  obtain ⟨x23, rfl⟩ := isU_of h23
  obtain ⟨x24, rfl⟩ := isU_of h24
  obtain ⟨x25, rfl⟩ := isU_of h25
  obtain ⟨x26, rfl⟩ := isU_of h26
  obtain ⟨x27, rfl⟩ := isU_of h27
  obtain ⟨x28, rfl⟩ := isU_of h28
  obtain ⟨x29, rfl⟩ := isU_of h29
  obtain ⟨x30, rfl⟩ := isU_of h30
  exact ⟨⟨x0, ⟨x1, x2, x3, x4, x5, x6⟩, ⟨⟨x7, x8, x9, x10⟩, ⟨x11, x12, x13, x14⟩, ⟨x15, x16, x17, x18⟩, ⟨x19, x20, x21, x22⟩, ⟨x23, x24, x25, x26⟩, ⟨x27, x28, x29, x30⟩⟩⟩, rfl⟩
theorem Tryz.leafsSt : leafs Tryz.prog 8 32 = some [.bool, .bool, .bool, .bool, .bool, .bool, .bool, .int .u64, .int .u64, .int .u64, .int .u64, .int .u64, .int .u64, .int .u64, .int .u64, .int .u64, .int .u64, .int .u64, .int .u64, .int .u64, .int .u64, .int .u64, .int .u64, .int .u64, .int .u64, .int .u64, .int .u64, .int .u64, .int .u64, .int .u64, .int .u64] := by kernel_rfl
theorem Tryz.cellsSt : Tryz.prog.cellsOf 32 = 31 := by kernel_rfl
section
variable {H : Type} {enc : TypeId × Value → H} {W : World} {b0 : Nat} {spare : Nat → Bool} {held : Bool} {v : Value} {d : DataW H} {p : List MemPlace}
set_option maxRecDepth 100000 in
theorem arg_st (hv : Value.okWide Tryz.prog W .any b0 32 v) (h : DataW.Trod enc Tryz.prog W 0 spare held 32 v d p) : ∃ t : St, ∀ β, v = (AV.ag t.cs).g β := by
  obtain ⟨cs, rfl, hsz⟩ := okWide_struct Tryz.underlying32 hv
  obtain ⟨fuel, hf⟩ := h
  obtain ⟨l, h1, _, h3⟩ := trod_leaf 8 _ _ Tryz.leafsSt Tryz.cellsSt.symm _ ⟨fuel, _, hf⟩
  obtain ⟨t, rfl⟩ := st_of h1
  refine ⟨t, fun β => ?_⟩
  have := h3 β
  show Value.agg cs = Value.agg (t.cs.map (AC.g β)).toArray
  rw [← this]
  simp [Value.cells]
set_option maxRecDepth 100000 in
theorem arg_ins (hv : Value.okWide Tryz.prog W .any b0 24 v) (h : DataW.Trod enc Tryz.prog W 0 spare held 24 v d p) : ∃ i : Ins, ∀ β, v = (AV.ag i.cs).g β := by
  obtain ⟨cs, rfl, hsz⟩ := okWide_struct Tryz.underlying24 hv
  obtain ⟨fuel, hf⟩ := h
  obtain ⟨l, h1, _, h3⟩ := trod_leaf 8 _ _ Tryz.leafsIns Tryz.cellsIns.symm _ ⟨fuel, _, hf⟩
  obtain ⟨i, rfl⟩ := ins_of h1
  refine ⟨i, fun β => ?_⟩
  have := h3 β
  show Value.agg cs = Value.agg (i.cs.map (AC.g β)).toArray
  rw [← this]
  simp [Value.cells]
end
end Go.Proofs.YtkigmocchaikgabGreat
