import Derived.Test.YtkigmocchaikgabFl3
import Derived.Test.YtkigmocchaikgabFl4
import Derived.Test.YtkigmocchaikgabFl2
import Derived.Test.YtkigmocchaikgabProg
import Derived.Test.YtkigmocchaikgabFl6
import Derived.Test.YtkigmocchaikgabFl7
/- What an argument of type State is, and of type Instr. -/
namespace Go.Proofs.Ytkigmocchaikgab
open Go.ChangeShapes Go.WideShapes Go.ChangeAt Go.RowKit Go.Joins

theorem st_of {l : List AC} (h : typed [.bool, .bool, .bool, .bool, .bool, .bool, .bool, .int .u64, .int .u64, .int .u64, .int .u64, .int .u64, .int .u64, .int .u64, .int .u64, .int .u64, .int .u64, .int .u64, .int .u64, .int .u64, .int .u64, .int .u64, .int .u64, .int .u64, .int .u64, .int .u64, .int .u64, .int .u64, .int .u64, .int .u64, .int .u64] l = true) : ∃ t : St, l = t.cs := by
  obtain ⟨c0, q0, rfl, h0, g0⟩ := typed_cons h
  obtain ⟨c1, q1, rfl, h1, g1⟩ := typed_cons g0
  obtain ⟨c2, q2, rfl, h2, g2⟩ := typed_cons g1
  obtain ⟨c3, q3, rfl, h3, g3⟩ := typed_cons g2
  obtain ⟨c4, q4, rfl, h4, g4⟩ := typed_cons g3
  obtain ⟨c5, q5, rfl, h5, g5⟩ := typed_cons g4
  obtain ⟨c6, q6, rfl, h6, g6⟩ := typed_cons g5
  obtain ⟨c7, q7, rfl, h7, g7⟩ := typed_cons g6
  obtain ⟨c8, q8, rfl, h8, g8⟩ := typed_cons g7
  obtain ⟨c9, q9, rfl, h9, g9⟩ := typed_cons g8
  obtain ⟨c10, q10, rfl, h10, g10⟩ := typed_cons g9
  obtain ⟨c11, q11, rfl, h11, g11⟩ := typed_cons g10
  obtain ⟨c12, q12, rfl, h12, g12⟩ := typed_cons g11
  obtain ⟨c13, q13, rfl, h13, g13⟩ := typed_cons g12
  obtain ⟨c14, q14, rfl, h14, g14⟩ := typed_cons g13
  obtain ⟨c15, q15, rfl, h15, g15⟩ := typed_cons g14
  obtain ⟨c16, q16, rfl, h16, g16⟩ := typed_cons g15
  obtain ⟨c17, q17, rfl, h17, g17⟩ := typed_cons g16
  obtain ⟨c18, q18, rfl, h18, g18⟩ := typed_cons g17
  obtain ⟨c19, q19, rfl, h19, g19⟩ := typed_cons g18
  obtain ⟨c20, q20, rfl, h20, g20⟩ := typed_cons g19
  obtain ⟨c21, q21, rfl, h21, g21⟩ := typed_cons g20
  obtain ⟨c22, q22, rfl, h22, g22⟩ := typed_cons g21
  obtain ⟨c23, q23, rfl, h23, g23⟩ := typed_cons g22
  obtain ⟨c24, q24, rfl, h24, g24⟩ := typed_cons g23
  obtain ⟨c25, q25, rfl, h25, g25⟩ := typed_cons g24
  obtain ⟨c26, q26, rfl, h26, g26⟩ := typed_cons g25
  obtain ⟨c27, q27, rfl, h27, g27⟩ := typed_cons g26
  obtain ⟨c28, q28, rfl, h28, g28⟩ := typed_cons g27
  obtain ⟨c29, q29, rfl, h29, g29⟩ := typed_cons g28
  obtain ⟨c30, q30, rfl, h30, g30⟩ := typed_cons g29
  obtain rfl := typed_nil g30
  obtain ⟨x0, rfl⟩ := isB_of h0
  obtain ⟨x1, rfl⟩ := isB_of h1
  obtain ⟨x2, rfl⟩ := isB_of h2
  obtain ⟨x3, rfl⟩ := isB_of h3
  obtain ⟨x4, rfl⟩ := isB_of h4
  obtain ⟨x5, rfl⟩ := isB_of h5
  obtain ⟨x6, rfl⟩ := isB_of h6
  obtain ⟨x7, rfl⟩ := isU_of h7
  obtain ⟨x8, rfl⟩ := isU_of h8
  obtain ⟨x9, rfl⟩ := isU_of h9
  obtain ⟨x10, rfl⟩ := isU_of h10
  obtain ⟨x11, rfl⟩ := isU_of h11
  obtain ⟨x12, rfl⟩ := isU_of h12
  obtain ⟨x13, rfl⟩ := isU_of h13
  obtain ⟨x14, rfl⟩ := isU_of h14
  obtain ⟨x15, rfl⟩ := isU_of h15
  obtain ⟨x16, rfl⟩ := isU_of h16
  obtain ⟨x17, rfl⟩ := isU_of h17
  obtain ⟨x18, rfl⟩ := isU_of h18
  obtain ⟨x19, rfl⟩ := isU_of h19
  obtain ⟨x20, rfl⟩ := isU_of h20
  obtain ⟨x21, rfl⟩ := isU_of h21
  obtain ⟨x22, rfl⟩ := isU_of h22
  obtain ⟨x23, rfl⟩ := isU_of h23
  obtain ⟨x24, rfl⟩ := isU_of h24
  obtain ⟨x25, rfl⟩ := isU_of h25
  obtain ⟨x26, rfl⟩ := isU_of h26
  obtain ⟨x27, rfl⟩ := isU_of h27
  obtain ⟨x28, rfl⟩ := isU_of h28
  obtain ⟨x29, rfl⟩ := isU_of h29
  obtain ⟨x30, rfl⟩ := isU_of h30
  exact ⟨⟨x0, ⟨x1, x2, x3, x4, x5, x6⟩, ⟨⟨x7, x8, x9, x10⟩, ⟨x11, x12, x13, x14⟩, ⟨x15, x16, x17, x18⟩, ⟨x19, x20, x21, x22⟩, ⟨x23, x24, x25, x26⟩, ⟨x27, x28, x29, x30⟩⟩⟩, rfl⟩
theorem Try.leafsSt : leafs Try.prog 8 44 = some [.bool, .bool, .bool, .bool, .bool, .bool, .bool, .int .u64, .int .u64, .int .u64, .int .u64, .int .u64, .int .u64, .int .u64, .int .u64, .int .u64, .int .u64, .int .u64, .int .u64, .int .u64, .int .u64, .int .u64, .int .u64, .int .u64, .int .u64, .int .u64, .int .u64, .int .u64, .int .u64, .int .u64, .int .u64] := by kernel_rfl
theorem Try.cellsSt : Try.prog.cellsOf 44 = 31 := by kernel_rfl
section
variable {H : Type} {enc : TypeId × Value → H} {W : World} {b0 : Nat} {spare : Nat → Bool} {held : Bool} {v : Value} {d : DataW H} {p : List MemPlace}
set_option maxRecDepth 100000 in
theorem arg_st (hv : Value.okWide Try.prog W .any b0 44 v) (h : DataW.Trod enc Try.prog W 0 spare held 44 v d p) : ∃ t : St, ∀ β, v = (AV.ag t.cs).g β := by
  obtain ⟨cs, rfl, hsz⟩ := okWide_struct Try.underlying44 hv
  obtain ⟨fuel, hf⟩ := h
  obtain ⟨l, h1, _, h3⟩ := trod_leaf 8 _ _ Try.leafsSt Try.cellsSt.symm _ ⟨fuel, _, hf⟩
  obtain ⟨t, rfl⟩ := st_of h1
  refine ⟨t, fun β => ?_⟩
  have := h3 β
  show Value.agg cs = Value.agg (t.cs.map (AC.g β)).toArray
  rw [← this]
  simp [Value.cells]
end
end Go.Proofs.Ytkigmocchaikgab

/- Ways of bodies, written by a program (ways.py): what each asks for, and hands back. -/
namespace Go.Proofs.Ytkigmocchaikgab
open Go.RowKit

theorem flowBegun_w0 {s : St} {a : St} {b : St} {c : St} {d : St} {e : St} {f : St} {j : St} (h : (St.live a && (eqb (V4.l (V6.x1 (St.r a))) 64#64 && (St.live b && (eqb (V4.h (V6.x1 (St.r b))) 63#64 && (eqCs (St.cs j) (St.cs s) && true))))) = true) (c0 : CallOK Try.prog (CallRec.mk 18 [] [] (Eff.mk (AV.ag (St.cs s)) [] none))) (c1 : CallOK Try.prog (CallRec.mk 30 [] [] (Eff.mk (AV.c (AC.sl 4 0 6 6)) [] (some (4, Ent.mk true (pcell gL) 0))))) (c2 : CallOK Try.prog (CallRec.mk 22 [AV.ag [AC.i 14, AC.i 1, AC.i (-1), AC.u 64#64, AC.i 1], AV.ag (St.cs s)] [] (Eff.mk (AV.tu [AT.ag (St.cs a), AT.ag (St.cs b), AT.c (AC.i 0), AT.c (AC.i 0)]) [] none))) (c3 : CallOK Try.prog (CallRec.mk 30 [] [] (Eff.mk (AV.c (AC.sl 20 0 6 6)) [] (some (20, Ent.mk true (pcell gL) 0))))) (c4 : CallOK Try.prog (CallRec.mk 22 [AV.ag [AC.i 10, AC.i 0, AC.i 1, AC.u 1#64, AC.i 0], AV.ag (St.cs s)] [] (Eff.mk (AV.tu [AT.ag (St.cs c), AT.ag (St.cs d), AT.c (AC.i 2), AT.c (AC.i 0)]) [] none))) (c5 : CallOK Try.prog (CallRec.mk 30 [] [] (Eff.mk (AV.c (AC.sl 36 0 6 6)) [] (some (36, Ent.mk true (pcell gL) 0))))) (c6 : CallOK Try.prog (CallRec.mk 22 [AV.ag [AC.i 2, AC.i 0, AC.i (-1), AC.u 1#64, AC.i 0], AV.ag (St.cs s)] [] (Eff.mk (AV.tu [AT.ag (St.cs e), AT.ag (St.cs f), AT.c (AC.i 1), AT.c (AC.i 0)]) [] none))) (c7 : CallOK Try.prog (CallRec.mk 13 [AV.ag (St.cs a), AV.ag (St.cs b)] [] (Eff.mk (AV.tu [AT.ag (St.cs j), AT.c (AC.i 0)]) [] none))) (c8 : CallOK Try.prog (CallRec.mk 17 [AV.ag (St.cs s)] [] (Eff.mk (AV.c (AC.i 0)) [] none))) :
    CallOK Try.prog ⟨16, [], [], ⟨AV.c (AC.b true), [], none⟩⟩ :=
  val_run 2000 [Eff.mk (AV.ag (St.cs s)) [] none, Eff.mk (AV.c (AC.sl 4 0 6 6)) [] (some (4, Ent.mk true (pcell gL) 0)), Eff.mk (AV.tu [AT.ag (St.cs a), AT.ag (St.cs b), AT.c (AC.i 0), AT.c (AC.i 0)]) [] none, Eff.mk (AV.c (AC.sl 20 0 6 6)) [] (some (20, Ent.mk true (pcell gL) 0)), Eff.mk (AV.tu [AT.ag (St.cs c), AT.ag (St.cs d), AT.c (AC.i 2), AT.c (AC.i 0)]) [] none, Eff.mk (AV.c (AC.sl 36 0 6 6)) [] (some (36, Ent.mk true (pcell gL) 0)), Eff.mk (AV.tu [AT.ag (St.cs e), AT.ag (St.cs f), AT.c (AC.i 1), AT.c (AC.i 0)]) [] none, Eff.mk (AV.tu [AT.ag (St.cs j), AT.c (AC.i 0)]) [] none, Eff.mk (AV.c (AC.i 0)) [] none] [true, true, true, true, true, true, true, true, true, true, true, true] ([]) [] Try.func16 rfl rfl rfl rfl (by kernel_rfl) h (cr_cons c0 (cr_cons c1 (cr_cons c2 (cr_cons c3 (cr_cons c4 (cr_cons c5 (cr_cons c6 (cr_cons c7 (cr_cons c8 cr_nil)))))))))
end Go.Proofs.Ytkigmocchaikgab

/- The contract of flowBegun. -/
namespace Go.Proofs.Ytkigmocchaikgab
open Go.RowKit

theorem flowBegun_ok : Ok 16 [] (.c (.b true)) := by
  have s1 := fstep_ok ⟨14, 1, -1, 64#64, 1⟩ beginS
  have s2 := fstep_ok ⟨10, 0, 1, 1#64, 0⟩ beginS
  have s3 := fstep_ok ⟨2, 0, -1, 1#64, 0⟩ beginS
  have j1 := fjoin_ok (stepA ⟨14, 1, -1, 64#64, 1⟩ beginS).1 (stepA ⟨14, 1, -1, 64#64, 1⟩ beginS).2.1
  have k1 := fcheck_ok beginS
  rw [show (stepA ⟨14, 1, -1, 64#64, 1⟩ beginS).2.2 = 0 by kernel_rfl, show stepE ⟨14, 1, -1, 64#64, 1⟩ beginS = 0 by kernel_rfl] at s1
  rw [show (stepA ⟨10, 0, 1, 1#64, 0⟩ beginS).2.2 = 2 by kernel_rfl, show stepE ⟨10, 0, 1, 1#64, 0⟩ beginS = 0 by kernel_rfl] at s2
  rw [show (stepA ⟨2, 0, -1, 1#64, 0⟩ beginS).2.2 = 1 by kernel_rfl, show stepE ⟨2, 0, -1, 1#64, 0⟩ beginS = 0 by kernel_rfl] at s3
  rw [show joinE (stepA ⟨14, 1, -1, 64#64, 1⟩ beginS).1 (stepA ⟨14, 1, -1, 64#64, 1⟩ beginS).2.1 = 0 by kernel_rfl] at j1
  rw [show er beginS.ok = 0 by kernel_rfl] at k1
  exact flowBegun_w0 (by kernel_rfl) fbegin_ok (guarded_ok 4) s1 (guarded_ok 20) s2 (guarded_ok 36) s3 j1 k1
end Go.Proofs.Ytkigmocchaikgab
