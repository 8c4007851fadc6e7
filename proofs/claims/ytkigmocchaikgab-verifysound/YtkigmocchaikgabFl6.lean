import Derived.Test.YtkigmocchaikgabFl2
import Derived.Test.YtkigmocchaikgabProg
import Derived.Test.YtkigmocchaikgabFl5
import Derived.Test.YtkigmocchaikgabFl3
import Derived.Test.YtkigmocchaikgabFl4
/- Ways of bodies, written by a program (ways.py): what each asks for, and hands back. -/
namespace Go.Proofs.Ytkigmocchaikgab
open Go.RowKit

theorem isReg_w0 {d : Int} (h : (decide (0 ≤ d) && true) = true) :
    CallOK Try.prog ⟨91, [AV.c (AC.i d)], [], ⟨AV.c (AC.b (decide (d < 6))), [], none⟩⟩ :=
  val_run 2000 [] [true] [] [] Try.func91 rfl rfl rfl rfl (by kernel_rfl) h cr_nil
theorem isReg_w1 {d : Int} (h : (!decide (0 ≤ d) && true) = true) :
    CallOK Try.prog ⟨91, [AV.c (AC.i d)], [], ⟨AV.c (AC.b false), [], none⟩⟩ :=
  val_run 2000 [] [false] [] [] Try.func91 rfl rfl rfl rfl (by kernel_rfl) h cr_nil
theorem isReg_all {d : Int} {V : AV}
    (l0 : (decide (0 ≤ d)) = true → (AV.c (AC.b (decide (d < 6))) = V))
    (l1 : (decide (0 ≤ d)) = false → (AV.c (AC.b false) = V)) :
    CallOK Try.prog ⟨91, [AV.c (AC.i d)], [], ⟨V, [], none⟩⟩ :=
  (tf (decide (0 ≤ d))).elim (fun h0 => (match l0 h0 with | e => ok_eq (isReg_w0 (and_yes h0 rfl)) e)) (fun h0 => (match l1 h0 with | e => ok_eq (isReg_w1 (and_yes (not_yes h0) rfl)) e))
theorem isSource_w0 {d : Int} (h : (d == -1 && true) = true) :
    CallOK Try.prog ⟨94, [AV.c (AC.i d)], [], ⟨AV.c (AC.b true), [], none⟩⟩ :=
  val_run 2000 [] [true] [] [] Try.func94 rfl rfl rfl rfl (by kernel_rfl) h cr_nil
theorem isSource_w1 {d : Int} (h : (!d == -1 && true) = true) (c0 : CallOK Try.prog (CallRec.mk 91 [AV.c (AC.i d)] [] (Eff.mk (AV.c (AC.b (regB d))) [] none))) :
    CallOK Try.prog ⟨94, [AV.c (AC.i d)], [], ⟨AV.c (AC.b (regB d)), [], none⟩⟩ :=
  val_run 2000 [Eff.mk (AV.c (AC.b (regB d))) [] none] [false] [] [] Try.func94 rfl rfl rfl rfl (by kernel_rfl) h (cr_cons c0 cr_nil)
theorem isSource_all {d : Int} {V : AV}
    (l0 : (d == -1) = true → (AV.c (AC.b true) = V))
    (l1 : (d == -1) = false → (CallOK Try.prog (CallRec.mk 91 [AV.c (AC.i d)] [] (Eff.mk (AV.c (AC.b (regB d))) [] none))) ∧ (AV.c (AC.b (regB d)) = V)) :
    CallOK Try.prog ⟨94, [AV.c (AC.i d)], [], ⟨V, [], none⟩⟩ :=
  (tf (d == -1)).elim (fun h0 => (match l0 h0 with | e => ok_eq (isSource_w0 (and_yes h0 rfl)) e)) (fun h0 => (match l1 h0 with | ⟨c0, e⟩ => ok_eq (isSource_w1 (and_yes (not_yes h0) rfl) c0) e))
theorem isSize_w0 {d : BitVec 64} (h : (eqb d 1#64 && true) = true) :
    CallOK Try.prog ⟨92, [AV.c (AC.u d)], [], ⟨AV.c (AC.b true), [], none⟩⟩ :=
  val_run 2000 [] [true, true, true] [] [] Try.func92 rfl rfl rfl rfl (by kernel_rfl) h cr_nil
theorem isSize_w1 {d : BitVec 64} (h : (!eqb d 1#64 && (eqb d 2#64 && true)) = true) :
    CallOK Try.prog ⟨92, [AV.c (AC.u d)], [], ⟨AV.c (AC.b true), [], none⟩⟩ :=
  val_run 2000 [] [false, true, true] [] [] Try.func92 rfl rfl rfl rfl (by kernel_rfl) h cr_nil
theorem isSize_w2 {d : BitVec 64} (h : (!eqb d 1#64 && (!eqb d 2#64 && (eqb d 4#64 && true))) = true) :
    CallOK Try.prog ⟨92, [AV.c (AC.u d)], [], ⟨AV.c (AC.b true), [], none⟩⟩ :=
  val_run 2000 [] [false, false, true] [] [] Try.func92 rfl rfl rfl rfl (by kernel_rfl) h cr_nil
theorem isSize_w3 {d : BitVec 64} (h : (!eqb d 1#64 && (!eqb d 2#64 && (!eqb d 4#64 && true))) = true) :
    CallOK Try.prog ⟨92, [AV.c (AC.u d)], [], ⟨AV.c (AC.b (eqb d 8#64)), [], none⟩⟩ :=
  val_run 2000 [] [false, false, false] [] [] Try.func92 rfl rfl rfl rfl (by kernel_rfl) h cr_nil
theorem isSize_all {d : BitVec 64} {V : AV}
    (l0 : (eqb d 1#64) = true → (AV.c (AC.b true) = V))
    (l1 : (eqb d 1#64) = false → (eqb d 2#64) = true → (AV.c (AC.b true) = V))
    (l2 : (eqb d 1#64) = false → (eqb d 2#64) = false → (eqb d 4#64) = true → (AV.c (AC.b true) = V))
    (l3 : (eqb d 1#64) = false → (eqb d 2#64) = false → (eqb d 4#64) = false → (AV.c (AC.b (eqb d 8#64)) = V)) :
    CallOK Try.prog ⟨92, [AV.c (AC.u d)], [], ⟨V, [], none⟩⟩ :=
  (tf (eqb d 1#64)).elim (fun h0 => (match l0 h0 with | e => ok_eq (isSize_w0 (and_yes h0 rfl)) e)) (fun h0 => (tf (eqb d 2#64)).elim (fun h1 => (match l1 h0 h1 with | e => ok_eq (isSize_w1 (and_yes (not_yes h0) (and_yes h1 rfl))) e)) (fun h1 => (tf (eqb d 4#64)).elim (fun h2 => (match l2 h0 h1 h2 with | e => ok_eq (isSize_w2 (and_yes (not_yes h0) (and_yes (not_yes h1) (and_yes h2 rfl)))) e)) (fun h2 => (match l3 h0 h1 h2 with | e => ok_eq (isSize_w3 (and_yes (not_yes h0) (and_yes (not_yes h1) (and_yes (not_yes h2) rfl)))) e))))
theorem goesOn_w0 {d : Int} {n : Int} (h : (decide (0 ≤ d) && true) = true) :
    CallOK Try.prog ⟨93, [AV.c (AC.i d), AV.c (AC.i n)], [], ⟨AV.c (AC.b (decide (d < n))), [], none⟩⟩ :=
  val_run 2000 [] [true] [] [] Try.func93 rfl rfl rfl rfl (by kernel_rfl) h cr_nil
theorem goesOn_w1 {d : Int} {n : Int} (h : (!decide (0 ≤ d) && true) = true) :
    CallOK Try.prog ⟨93, [AV.c (AC.i d), AV.c (AC.i n)], [], ⟨AV.c (AC.b false), [], none⟩⟩ :=
  val_run 2000 [] [false] [] [] Try.func93 rfl rfl rfl rfl (by kernel_rfl) h cr_nil
theorem goesOn_all {d : Int} {n : Int} {V : AV}
    (l0 : (decide (0 ≤ d)) = true → (AV.c (AC.b (decide (d < n))) = V))
    (l1 : (decide (0 ≤ d)) = false → (AV.c (AC.b false) = V)) :
    CallOK Try.prog ⟨93, [AV.c (AC.i d), AV.c (AC.i n)], [], ⟨V, [], none⟩⟩ :=
  (tf (decide (0 ≤ d))).elim (fun h0 => (match l0 h0 with | e => ok_eq (goesOn_w0 (and_yes h0 rfl)) e)) (fun h0 => (match l1 h0 with | e => ok_eq (goesOn_w1 (and_yes (not_yes h0) rfl)) e))
theorem inBounds_w0 {i : Ins} {n : Int} (h : (Ins.op i == 10 && (Ins.op i == 10 && (regB (Ins.d i) && (regB (Ins.s i) && (sizeB (Ins.im i) && (decide (-64 ≤ Ins.of i) && true)))))) = true) (c0 : CallOK Try.prog (CallRec.mk 91 [AV.c (AC.i (Ins.d i))] [] (Eff.mk (AV.c (AC.b (regB (Ins.d i)))) [] none))) (c1 : CallOK Try.prog (CallRec.mk 91 [AV.c (AC.i (Ins.s i))] [] (Eff.mk (AV.c (AC.b (regB (Ins.s i)))) [] none))) (c2 : CallOK Try.prog (CallRec.mk 92 [AV.c (AC.u (Ins.im i))] [] (Eff.mk (AV.c (AC.b (sizeB (Ins.im i)))) [] none))) :
    CallOK Try.prog ⟨55, [AV.ag (Ins.cs i), AV.c (AC.i n)], [], ⟨AV.c (AC.b (decide (Ins.of i ≤ 64))), [], none⟩⟩ :=
  val_run 2000 [Eff.mk (AV.c (AC.b (regB (Ins.d i)))) [] none, Eff.mk (AV.c (AC.b (regB (Ins.s i)))) [] none, Eff.mk (AV.c (AC.b (sizeB (Ins.im i)))) [] none] [true, true, true, true, true, true] [] [] Try.func55 rfl rfl rfl rfl (by kernel_rfl) h (cr_cons c0 (cr_cons c1 (cr_cons c2 cr_nil)))
theorem inBounds_w1 {i : Ins} {n : Int} (h : (Ins.op i == 10 && (Ins.op i == 10 && (regB (Ins.d i) && (regB (Ins.s i) && (sizeB (Ins.im i) && (!decide (-64 ≤ Ins.of i) && true)))))) = true) (c0 : CallOK Try.prog (CallRec.mk 91 [AV.c (AC.i (Ins.d i))] [] (Eff.mk (AV.c (AC.b (regB (Ins.d i)))) [] none))) (c1 : CallOK Try.prog (CallRec.mk 91 [AV.c (AC.i (Ins.s i))] [] (Eff.mk (AV.c (AC.b (regB (Ins.s i)))) [] none))) (c2 : CallOK Try.prog (CallRec.mk 92 [AV.c (AC.u (Ins.im i))] [] (Eff.mk (AV.c (AC.b (sizeB (Ins.im i)))) [] none))) :
    CallOK Try.prog ⟨55, [AV.ag (Ins.cs i), AV.c (AC.i n)], [], ⟨AV.c (AC.b false), [], none⟩⟩ :=
  val_run 2000 [Eff.mk (AV.c (AC.b (regB (Ins.d i)))) [] none, Eff.mk (AV.c (AC.b (regB (Ins.s i)))) [] none, Eff.mk (AV.c (AC.b (sizeB (Ins.im i)))) [] none] [true, true, true, true, true, false] [] [] Try.func55 rfl rfl rfl rfl (by kernel_rfl) h (cr_cons c0 (cr_cons c1 (cr_cons c2 cr_nil)))
theorem inBounds_w2 {i : Ins} {n : Int} (h : (Ins.op i == 10 && (Ins.op i == 10 && (regB (Ins.d i) && (regB (Ins.s i) && (!sizeB (Ins.im i) && true))))) = true) (c0 : CallOK Try.prog (CallRec.mk 91 [AV.c (AC.i (Ins.d i))] [] (Eff.mk (AV.c (AC.b (regB (Ins.d i)))) [] none))) (c1 : CallOK Try.prog (CallRec.mk 91 [AV.c (AC.i (Ins.s i))] [] (Eff.mk (AV.c (AC.b (regB (Ins.s i)))) [] none))) (c2 : CallOK Try.prog (CallRec.mk 92 [AV.c (AC.u (Ins.im i))] [] (Eff.mk (AV.c (AC.b (sizeB (Ins.im i)))) [] none))) :
    CallOK Try.prog ⟨55, [AV.ag (Ins.cs i), AV.c (AC.i n)], [], ⟨AV.c (AC.b false), [], none⟩⟩ :=
  val_run 2000 [Eff.mk (AV.c (AC.b (regB (Ins.d i)))) [] none, Eff.mk (AV.c (AC.b (regB (Ins.s i)))) [] none, Eff.mk (AV.c (AC.b (sizeB (Ins.im i)))) [] none] [true, true, true, true, false, false] [] [] Try.func55 rfl rfl rfl rfl (by kernel_rfl) h (cr_cons c0 (cr_cons c1 (cr_cons c2 cr_nil)))
theorem inBounds_w3 {i : Ins} {n : Int} (h : (Ins.op i == 10 && (Ins.op i == 10 && (regB (Ins.d i) && (!regB (Ins.s i) && true)))) = true) (c0 : CallOK Try.prog (CallRec.mk 91 [AV.c (AC.i (Ins.d i))] [] (Eff.mk (AV.c (AC.b (regB (Ins.d i)))) [] none))) (c1 : CallOK Try.prog (CallRec.mk 91 [AV.c (AC.i (Ins.s i))] [] (Eff.mk (AV.c (AC.b (regB (Ins.s i)))) [] none))) :
    CallOK Try.prog ⟨55, [AV.ag (Ins.cs i), AV.c (AC.i n)], [], ⟨AV.c (AC.b false), [], none⟩⟩ :=
  val_run 2000 [Eff.mk (AV.c (AC.b (regB (Ins.d i)))) [] none, Eff.mk (AV.c (AC.b (regB (Ins.s i)))) [] none] [true, true, true, false, false, false] [] [] Try.func55 rfl rfl rfl rfl (by kernel_rfl) h (cr_cons c0 (cr_cons c1 cr_nil))
theorem inBounds_w4 {i : Ins} {n : Int} (h : (Ins.op i == 10 && (Ins.op i == 10 && (!regB (Ins.d i) && true))) = true) (c0 : CallOK Try.prog (CallRec.mk 91 [AV.c (AC.i (Ins.d i))] [] (Eff.mk (AV.c (AC.b (regB (Ins.d i)))) [] none))) :
    CallOK Try.prog ⟨55, [AV.ag (Ins.cs i), AV.c (AC.i n)], [], ⟨AV.c (AC.b false), [], none⟩⟩ :=
  val_run 2000 [Eff.mk (AV.c (AC.b (regB (Ins.d i)))) [] none] [true, true, false, false, false, false] [] [] Try.func55 rfl rfl rfl rfl (by kernel_rfl) h (cr_cons c0 cr_nil)
theorem inBounds_w5 {i : Ins} {n : Int} (h : (!Ins.op i == 10 && (Ins.op i == 11 && (regB (Ins.d i) && (regB (Ins.s i) && (sizeB (Ins.im i) && (decide (-64 ≤ Ins.of i) && true)))))) = true) (c0 : CallOK Try.prog (CallRec.mk 91 [AV.c (AC.i (Ins.d i))] [] (Eff.mk (AV.c (AC.b (regB (Ins.d i)))) [] none))) (c1 : CallOK Try.prog (CallRec.mk 91 [AV.c (AC.i (Ins.s i))] [] (Eff.mk (AV.c (AC.b (regB (Ins.s i)))) [] none))) (c2 : CallOK Try.prog (CallRec.mk 92 [AV.c (AC.u (Ins.im i))] [] (Eff.mk (AV.c (AC.b (sizeB (Ins.im i)))) [] none))) :
    CallOK Try.prog ⟨55, [AV.ag (Ins.cs i), AV.c (AC.i n)], [], ⟨AV.c (AC.b (decide (Ins.of i ≤ 64))), [], none⟩⟩ :=
  val_run 2000 [Eff.mk (AV.c (AC.b (regB (Ins.d i)))) [] none, Eff.mk (AV.c (AC.b (regB (Ins.s i)))) [] none, Eff.mk (AV.c (AC.b (sizeB (Ins.im i)))) [] none] [false, true, true, true, true, true] [] [] Try.func55 rfl rfl rfl rfl (by kernel_rfl) h (cr_cons c0 (cr_cons c1 (cr_cons c2 cr_nil)))
theorem inBounds_w6 {i : Ins} {n : Int} (h : (!Ins.op i == 10 && (Ins.op i == 11 && (regB (Ins.d i) && (regB (Ins.s i) && (sizeB (Ins.im i) && (!decide (-64 ≤ Ins.of i) && true)))))) = true) (c0 : CallOK Try.prog (CallRec.mk 91 [AV.c (AC.i (Ins.d i))] [] (Eff.mk (AV.c (AC.b (regB (Ins.d i)))) [] none))) (c1 : CallOK Try.prog (CallRec.mk 91 [AV.c (AC.i (Ins.s i))] [] (Eff.mk (AV.c (AC.b (regB (Ins.s i)))) [] none))) (c2 : CallOK Try.prog (CallRec.mk 92 [AV.c (AC.u (Ins.im i))] [] (Eff.mk (AV.c (AC.b (sizeB (Ins.im i)))) [] none))) :
    CallOK Try.prog ⟨55, [AV.ag (Ins.cs i), AV.c (AC.i n)], [], ⟨AV.c (AC.b false), [], none⟩⟩ :=
  val_run 2000 [Eff.mk (AV.c (AC.b (regB (Ins.d i)))) [] none, Eff.mk (AV.c (AC.b (regB (Ins.s i)))) [] none, Eff.mk (AV.c (AC.b (sizeB (Ins.im i)))) [] none] [false, true, true, true, true, false] [] [] Try.func55 rfl rfl rfl rfl (by kernel_rfl) h (cr_cons c0 (cr_cons c1 (cr_cons c2 cr_nil)))
theorem inBounds_w7 {i : Ins} {n : Int} (h : (!Ins.op i == 10 && (Ins.op i == 11 && (regB (Ins.d i) && (regB (Ins.s i) && (!sizeB (Ins.im i) && true))))) = true) (c0 : CallOK Try.prog (CallRec.mk 91 [AV.c (AC.i (Ins.d i))] [] (Eff.mk (AV.c (AC.b (regB (Ins.d i)))) [] none))) (c1 : CallOK Try.prog (CallRec.mk 91 [AV.c (AC.i (Ins.s i))] [] (Eff.mk (AV.c (AC.b (regB (Ins.s i)))) [] none))) (c2 : CallOK Try.prog (CallRec.mk 92 [AV.c (AC.u (Ins.im i))] [] (Eff.mk (AV.c (AC.b (sizeB (Ins.im i)))) [] none))) :
    CallOK Try.prog ⟨55, [AV.ag (Ins.cs i), AV.c (AC.i n)], [], ⟨AV.c (AC.b false), [], none⟩⟩ :=
  val_run 2000 [Eff.mk (AV.c (AC.b (regB (Ins.d i)))) [] none, Eff.mk (AV.c (AC.b (regB (Ins.s i)))) [] none, Eff.mk (AV.c (AC.b (sizeB (Ins.im i)))) [] none] [false, true, true, true, false, false] [] [] Try.func55 rfl rfl rfl rfl (by kernel_rfl) h (cr_cons c0 (cr_cons c1 (cr_cons c2 cr_nil)))
theorem inBounds_w8 {i : Ins} {n : Int} (h : (!Ins.op i == 10 && (Ins.op i == 11 && (regB (Ins.d i) && (!regB (Ins.s i) && true)))) = true) (c0 : CallOK Try.prog (CallRec.mk 91 [AV.c (AC.i (Ins.d i))] [] (Eff.mk (AV.c (AC.b (regB (Ins.d i)))) [] none))) (c1 : CallOK Try.prog (CallRec.mk 91 [AV.c (AC.i (Ins.s i))] [] (Eff.mk (AV.c (AC.b (regB (Ins.s i)))) [] none))) :
    CallOK Try.prog ⟨55, [AV.ag (Ins.cs i), AV.c (AC.i n)], [], ⟨AV.c (AC.b false), [], none⟩⟩ :=
  val_run 2000 [Eff.mk (AV.c (AC.b (regB (Ins.d i)))) [] none, Eff.mk (AV.c (AC.b (regB (Ins.s i)))) [] none] [false, true, true, false, false, false] [] [] Try.func55 rfl rfl rfl rfl (by kernel_rfl) h (cr_cons c0 (cr_cons c1 cr_nil))
theorem inBounds_w9 {i : Ins} {n : Int} (h : (!Ins.op i == 10 && (Ins.op i == 11 && (!regB (Ins.d i) && true))) = true) (c0 : CallOK Try.prog (CallRec.mk 91 [AV.c (AC.i (Ins.d i))] [] (Eff.mk (AV.c (AC.b (regB (Ins.d i)))) [] none))) :
    CallOK Try.prog ⟨55, [AV.ag (Ins.cs i), AV.c (AC.i n)], [], ⟨AV.c (AC.b false), [], none⟩⟩ :=
  val_run 2000 [Eff.mk (AV.c (AC.b (regB (Ins.d i)))) [] none] [false, true, false, false, false, false] [] [] Try.func55 rfl rfl rfl rfl (by kernel_rfl) h (cr_cons c0 cr_nil)
theorem inBounds_w10 {i : Ins} {n : Int} (h : (!Ins.op i == 10 && (!Ins.op i == 11 && (Ins.op i == 12 && true))) = true) (c0 : CallOK Try.prog (CallRec.mk 93 [AV.c (AC.i (Ins.of i)), AV.c (AC.i n)] [] (Eff.mk (AV.c (AC.b (goesB (Ins.of i) n))) [] none))) :
    CallOK Try.prog ⟨55, [AV.ag (Ins.cs i), AV.c (AC.i n)], [], ⟨AV.c (AC.b (goesB (Ins.of i) n)), [], none⟩⟩ :=
  val_run 2000 [Eff.mk (AV.c (AC.b (goesB (Ins.of i) n))) [] none] [false, false, true] [] [] Try.func55 rfl rfl rfl rfl (by kernel_rfl) h (cr_cons c0 cr_nil)
theorem inBounds_w11 {i : Ins} {n : Int} (h : (!Ins.op i == 10 && (!Ins.op i == 11 && (!Ins.op i == 12 && (Ins.op i == 13 && (Ins.op i == 13 && (regB (Ins.d i) && (srcB (Ins.s i) && true))))))) = true) (c0 : CallOK Try.prog (CallRec.mk 91 [AV.c (AC.i (Ins.d i))] [] (Eff.mk (AV.c (AC.b (regB (Ins.d i)))) [] none))) (c1 : CallOK Try.prog (CallRec.mk 94 [AV.c (AC.i (Ins.s i))] [] (Eff.mk (AV.c (AC.b (srcB (Ins.s i)))) [] none))) (c2 : CallOK Try.prog (CallRec.mk 93 [AV.c (AC.i (Ins.of i)), AV.c (AC.i n)] [] (Eff.mk (AV.c (AC.b (goesB (Ins.of i) n))) [] none))) :
    CallOK Try.prog ⟨55, [AV.ag (Ins.cs i), AV.c (AC.i n)], [], ⟨AV.c (AC.b (goesB (Ins.of i) n)), [], none⟩⟩ :=
  val_run 2000 [Eff.mk (AV.c (AC.b (regB (Ins.d i)))) [] none, Eff.mk (AV.c (AC.b (srcB (Ins.s i)))) [] none, Eff.mk (AV.c (AC.b (goesB (Ins.of i) n))) [] none] [false, false, false, true, true, true, true] [] [] Try.func55 rfl rfl rfl rfl (by kernel_rfl) h (cr_cons c0 (cr_cons c1 (cr_cons c2 cr_nil)))
theorem inBounds_w12 {i : Ins} {n : Int} (h : (!Ins.op i == 10 && (!Ins.op i == 11 && (!Ins.op i == 12 && (Ins.op i == 13 && (Ins.op i == 13 && (regB (Ins.d i) && (!srcB (Ins.s i) && true))))))) = true) (c0 : CallOK Try.prog (CallRec.mk 91 [AV.c (AC.i (Ins.d i))] [] (Eff.mk (AV.c (AC.b (regB (Ins.d i)))) [] none))) (c1 : CallOK Try.prog (CallRec.mk 94 [AV.c (AC.i (Ins.s i))] [] (Eff.mk (AV.c (AC.b (srcB (Ins.s i)))) [] none))) :
    CallOK Try.prog ⟨55, [AV.ag (Ins.cs i), AV.c (AC.i n)], [], ⟨AV.c (AC.b false), [], none⟩⟩ :=
  val_run 2000 [Eff.mk (AV.c (AC.b (regB (Ins.d i)))) [] none, Eff.mk (AV.c (AC.b (srcB (Ins.s i)))) [] none] [false, false, false, true, true, true, false] [] [] Try.func55 rfl rfl rfl rfl (by kernel_rfl) h (cr_cons c0 (cr_cons c1 cr_nil))
theorem inBounds_w13 {i : Ins} {n : Int} (h : (!Ins.op i == 10 && (!Ins.op i == 11 && (!Ins.op i == 12 && (Ins.op i == 13 && (Ins.op i == 13 && (!regB (Ins.d i) && true)))))) = true) (c0 : CallOK Try.prog (CallRec.mk 91 [AV.c (AC.i (Ins.d i))] [] (Eff.mk (AV.c (AC.b (regB (Ins.d i)))) [] none))) :
    CallOK Try.prog ⟨55, [AV.ag (Ins.cs i), AV.c (AC.i n)], [], ⟨AV.c (AC.b false), [], none⟩⟩ :=
  val_run 2000 [Eff.mk (AV.c (AC.b (regB (Ins.d i)))) [] none] [false, false, false, true, true, false, false] [] [] Try.func55 rfl rfl rfl rfl (by kernel_rfl) h (cr_cons c0 cr_nil)
theorem inBounds_w14 {i : Ins} {n : Int} (h : (!Ins.op i == 10 && (!Ins.op i == 11 && (!Ins.op i == 12 && (!Ins.op i == 13 && (Ins.op i == 14 && (regB (Ins.d i) && (srcB (Ins.s i) && true))))))) = true) (c0 : CallOK Try.prog (CallRec.mk 91 [AV.c (AC.i (Ins.d i))] [] (Eff.mk (AV.c (AC.b (regB (Ins.d i)))) [] none))) (c1 : CallOK Try.prog (CallRec.mk 94 [AV.c (AC.i (Ins.s i))] [] (Eff.mk (AV.c (AC.b (srcB (Ins.s i)))) [] none))) (c2 : CallOK Try.prog (CallRec.mk 93 [AV.c (AC.i (Ins.of i)), AV.c (AC.i n)] [] (Eff.mk (AV.c (AC.b (goesB (Ins.of i) n))) [] none))) :
    CallOK Try.prog ⟨55, [AV.ag (Ins.cs i), AV.c (AC.i n)], [], ⟨AV.c (AC.b (goesB (Ins.of i) n)), [], none⟩⟩ :=
  val_run 2000 [Eff.mk (AV.c (AC.b (regB (Ins.d i)))) [] none, Eff.mk (AV.c (AC.b (srcB (Ins.s i)))) [] none, Eff.mk (AV.c (AC.b (goesB (Ins.of i) n))) [] none] [false, false, false, false, true, true, true] [] [] Try.func55 rfl rfl rfl rfl (by kernel_rfl) h (cr_cons c0 (cr_cons c1 (cr_cons c2 cr_nil)))
theorem inBounds_w15 {i : Ins} {n : Int} (h : (!Ins.op i == 10 && (!Ins.op i == 11 && (!Ins.op i == 12 && (!Ins.op i == 13 && (Ins.op i == 14 && (regB (Ins.d i) && (!srcB (Ins.s i) && true))))))) = true) (c0 : CallOK Try.prog (CallRec.mk 91 [AV.c (AC.i (Ins.d i))] [] (Eff.mk (AV.c (AC.b (regB (Ins.d i)))) [] none))) (c1 : CallOK Try.prog (CallRec.mk 94 [AV.c (AC.i (Ins.s i))] [] (Eff.mk (AV.c (AC.b (srcB (Ins.s i)))) [] none))) :
    CallOK Try.prog ⟨55, [AV.ag (Ins.cs i), AV.c (AC.i n)], [], ⟨AV.c (AC.b false), [], none⟩⟩ :=
  val_run 2000 [Eff.mk (AV.c (AC.b (regB (Ins.d i)))) [] none, Eff.mk (AV.c (AC.b (srcB (Ins.s i)))) [] none] [false, false, false, false, true, true, false] [] [] Try.func55 rfl rfl rfl rfl (by kernel_rfl) h (cr_cons c0 (cr_cons c1 cr_nil))
theorem inBounds_w16 {i : Ins} {n : Int} (h : (!Ins.op i == 10 && (!Ins.op i == 11 && (!Ins.op i == 12 && (!Ins.op i == 13 && (Ins.op i == 14 && (!regB (Ins.d i) && true)))))) = true) (c0 : CallOK Try.prog (CallRec.mk 91 [AV.c (AC.i (Ins.d i))] [] (Eff.mk (AV.c (AC.b (regB (Ins.d i)))) [] none))) :
    CallOK Try.prog ⟨55, [AV.ag (Ins.cs i), AV.c (AC.i n)], [], ⟨AV.c (AC.b false), [], none⟩⟩ :=
  val_run 2000 [Eff.mk (AV.c (AC.b (regB (Ins.d i)))) [] none] [false, false, false, false, true, false, false] [] [] Try.func55 rfl rfl rfl rfl (by kernel_rfl) h (cr_cons c0 cr_nil)
theorem inBounds_w17 {i : Ins} {n : Int} (h : (!Ins.op i == 10 && (!Ins.op i == 11 && (!Ins.op i == 12 && (!Ins.op i == 13 && (!Ins.op i == 14 && (Ins.op i == 15 && true)))))) = true) :
    CallOK Try.prog ⟨55, [AV.ag (Ins.cs i), AV.c (AC.i n)], [], ⟨AV.c (AC.b true), [], none⟩⟩ :=
  val_run 2000 [] [false, false, false, false, false, true] [] [] Try.func55 rfl rfl rfl rfl (by kernel_rfl) h cr_nil
theorem inBounds_w18 {i : Ins} {n : Int} (h : (!Ins.op i == 10 && (!Ins.op i == 11 && (!Ins.op i == 12 && (!Ins.op i == 13 && (!Ins.op i == 14 && (!Ins.op i == 15 && (regB (Ins.d i) && true))))))) = true) (c0 : CallOK Try.prog (CallRec.mk 91 [AV.c (AC.i (Ins.d i))] [] (Eff.mk (AV.c (AC.b (regB (Ins.d i)))) [] none))) (c1 : CallOK Try.prog (CallRec.mk 94 [AV.c (AC.i (Ins.s i))] [] (Eff.mk (AV.c (AC.b (srcB (Ins.s i)))) [] none))) :
    CallOK Try.prog ⟨55, [AV.ag (Ins.cs i), AV.c (AC.i n)], [], ⟨AV.c (AC.b (srcB (Ins.s i))), [], none⟩⟩ :=
  val_run 2000 [Eff.mk (AV.c (AC.b (regB (Ins.d i)))) [] none, Eff.mk (AV.c (AC.b (srcB (Ins.s i)))) [] none] [false, false, false, false, false, false, true] [] [] Try.func55 rfl rfl rfl rfl (by kernel_rfl) h (cr_cons c0 (cr_cons c1 cr_nil))
theorem inBounds_w19 {i : Ins} {n : Int} (h : (!Ins.op i == 10 && (!Ins.op i == 11 && (!Ins.op i == 12 && (!Ins.op i == 13 && (!Ins.op i == 14 && (!Ins.op i == 15 && (!regB (Ins.d i) && true))))))) = true) (c0 : CallOK Try.prog (CallRec.mk 91 [AV.c (AC.i (Ins.d i))] [] (Eff.mk (AV.c (AC.b (regB (Ins.d i)))) [] none))) :
    CallOK Try.prog ⟨55, [AV.ag (Ins.cs i), AV.c (AC.i n)], [], ⟨AV.c (AC.b false), [], none⟩⟩ :=
  val_run 2000 [Eff.mk (AV.c (AC.b (regB (Ins.d i)))) [] none] [false, false, false, false, false, false, false] [] [] Try.func55 rfl rfl rfl rfl (by kernel_rfl) h (cr_cons c0 cr_nil)
theorem inBounds_all {i : Ins} {n : Int} {V : AV}
    (l0 : (Ins.op i == 10) = true → (regB (Ins.d i)) = true → (regB (Ins.s i)) = true → (sizeB (Ins.im i)) = true → (decide (-64 ≤ Ins.of i)) = true → (CallOK Try.prog (CallRec.mk 91 [AV.c (AC.i (Ins.d i))] [] (Eff.mk (AV.c (AC.b (regB (Ins.d i)))) [] none))) ∧ (CallOK Try.prog (CallRec.mk 91 [AV.c (AC.i (Ins.s i))] [] (Eff.mk (AV.c (AC.b (regB (Ins.s i)))) [] none))) ∧ (CallOK Try.prog (CallRec.mk 92 [AV.c (AC.u (Ins.im i))] [] (Eff.mk (AV.c (AC.b (sizeB (Ins.im i)))) [] none))) ∧ (AV.c (AC.b (decide (Ins.of i ≤ 64))) = V))
    (l1 : (Ins.op i == 10) = true → (regB (Ins.d i)) = true → (regB (Ins.s i)) = true → (sizeB (Ins.im i)) = true → (decide (-64 ≤ Ins.of i)) = false → (CallOK Try.prog (CallRec.mk 91 [AV.c (AC.i (Ins.d i))] [] (Eff.mk (AV.c (AC.b (regB (Ins.d i)))) [] none))) ∧ (CallOK Try.prog (CallRec.mk 91 [AV.c (AC.i (Ins.s i))] [] (Eff.mk (AV.c (AC.b (regB (Ins.s i)))) [] none))) ∧ (CallOK Try.prog (CallRec.mk 92 [AV.c (AC.u (Ins.im i))] [] (Eff.mk (AV.c (AC.b (sizeB (Ins.im i)))) [] none))) ∧ (AV.c (AC.b false) = V))
    (l2 : (Ins.op i == 10) = true → (regB (Ins.d i)) = true → (regB (Ins.s i)) = true → (sizeB (Ins.im i)) = false → (CallOK Try.prog (CallRec.mk 91 [AV.c (AC.i (Ins.d i))] [] (Eff.mk (AV.c (AC.b (regB (Ins.d i)))) [] none))) ∧ (CallOK Try.prog (CallRec.mk 91 [AV.c (AC.i (Ins.s i))] [] (Eff.mk (AV.c (AC.b (regB (Ins.s i)))) [] none))) ∧ (CallOK Try.prog (CallRec.mk 92 [AV.c (AC.u (Ins.im i))] [] (Eff.mk (AV.c (AC.b (sizeB (Ins.im i)))) [] none))) ∧ (AV.c (AC.b false) = V))
    (l3 : (Ins.op i == 10) = true → (regB (Ins.d i)) = true → (regB (Ins.s i)) = false → (CallOK Try.prog (CallRec.mk 91 [AV.c (AC.i (Ins.d i))] [] (Eff.mk (AV.c (AC.b (regB (Ins.d i)))) [] none))) ∧ (CallOK Try.prog (CallRec.mk 91 [AV.c (AC.i (Ins.s i))] [] (Eff.mk (AV.c (AC.b (regB (Ins.s i)))) [] none))) ∧ (AV.c (AC.b false) = V))
    (l4 : (Ins.op i == 10) = true → (regB (Ins.d i)) = false → (CallOK Try.prog (CallRec.mk 91 [AV.c (AC.i (Ins.d i))] [] (Eff.mk (AV.c (AC.b (regB (Ins.d i)))) [] none))) ∧ (AV.c (AC.b false) = V))
    (l5 : (Ins.op i == 10) = false → (Ins.op i == 11) = true → (regB (Ins.d i)) = true → (regB (Ins.s i)) = true → (sizeB (Ins.im i)) = true → (decide (-64 ≤ Ins.of i)) = true → (CallOK Try.prog (CallRec.mk 91 [AV.c (AC.i (Ins.d i))] [] (Eff.mk (AV.c (AC.b (regB (Ins.d i)))) [] none))) ∧ (CallOK Try.prog (CallRec.mk 91 [AV.c (AC.i (Ins.s i))] [] (Eff.mk (AV.c (AC.b (regB (Ins.s i)))) [] none))) ∧ (CallOK Try.prog (CallRec.mk 92 [AV.c (AC.u (Ins.im i))] [] (Eff.mk (AV.c (AC.b (sizeB (Ins.im i)))) [] none))) ∧ (AV.c (AC.b (decide (Ins.of i ≤ 64))) = V))
    (l6 : (Ins.op i == 10) = false → (Ins.op i == 11) = true → (regB (Ins.d i)) = true → (regB (Ins.s i)) = true → (sizeB (Ins.im i)) = true → (decide (-64 ≤ Ins.of i)) = false → (CallOK Try.prog (CallRec.mk 91 [AV.c (AC.i (Ins.d i))] [] (Eff.mk (AV.c (AC.b (regB (Ins.d i)))) [] none))) ∧ (CallOK Try.prog (CallRec.mk 91 [AV.c (AC.i (Ins.s i))] [] (Eff.mk (AV.c (AC.b (regB (Ins.s i)))) [] none))) ∧ (CallOK Try.prog (CallRec.mk 92 [AV.c (AC.u (Ins.im i))] [] (Eff.mk (AV.c (AC.b (sizeB (Ins.im i)))) [] none))) ∧ (AV.c (AC.b false) = V))
    (l7 : (Ins.op i == 10) = false → (Ins.op i == 11) = true → (regB (Ins.d i)) = true → (regB (Ins.s i)) = true → (sizeB (Ins.im i)) = false → (CallOK Try.prog (CallRec.mk 91 [AV.c (AC.i (Ins.d i))] [] (Eff.mk (AV.c (AC.b (regB (Ins.d i)))) [] none))) ∧ (CallOK Try.prog (CallRec.mk 91 [AV.c (AC.i (Ins.s i))] [] (Eff.mk (AV.c (AC.b (regB (Ins.s i)))) [] none))) ∧ (CallOK Try.prog (CallRec.mk 92 [AV.c (AC.u (Ins.im i))] [] (Eff.mk (AV.c (AC.b (sizeB (Ins.im i)))) [] none))) ∧ (AV.c (AC.b false) = V))
    (l8 : (Ins.op i == 10) = false → (Ins.op i == 11) = true → (regB (Ins.d i)) = true → (regB (Ins.s i)) = false → (CallOK Try.prog (CallRec.mk 91 [AV.c (AC.i (Ins.d i))] [] (Eff.mk (AV.c (AC.b (regB (Ins.d i)))) [] none))) ∧ (CallOK Try.prog (CallRec.mk 91 [AV.c (AC.i (Ins.s i))] [] (Eff.mk (AV.c (AC.b (regB (Ins.s i)))) [] none))) ∧ (AV.c (AC.b false) = V))
    (l9 : (Ins.op i == 10) = false → (Ins.op i == 11) = true → (regB (Ins.d i)) = false → (CallOK Try.prog (CallRec.mk 91 [AV.c (AC.i (Ins.d i))] [] (Eff.mk (AV.c (AC.b (regB (Ins.d i)))) [] none))) ∧ (AV.c (AC.b false) = V))
    (l10 : (Ins.op i == 10) = false → (Ins.op i == 11) = false → (Ins.op i == 12) = true → (CallOK Try.prog (CallRec.mk 93 [AV.c (AC.i (Ins.of i)), AV.c (AC.i n)] [] (Eff.mk (AV.c (AC.b (goesB (Ins.of i) n))) [] none))) ∧ (AV.c (AC.b (goesB (Ins.of i) n)) = V))
    (l11 : (Ins.op i == 10) = false → (Ins.op i == 11) = false → (Ins.op i == 12) = false → (Ins.op i == 13) = true → (regB (Ins.d i)) = true → (srcB (Ins.s i)) = true → (CallOK Try.prog (CallRec.mk 91 [AV.c (AC.i (Ins.d i))] [] (Eff.mk (AV.c (AC.b (regB (Ins.d i)))) [] none))) ∧ (CallOK Try.prog (CallRec.mk 94 [AV.c (AC.i (Ins.s i))] [] (Eff.mk (AV.c (AC.b (srcB (Ins.s i)))) [] none))) ∧ (CallOK Try.prog (CallRec.mk 93 [AV.c (AC.i (Ins.of i)), AV.c (AC.i n)] [] (Eff.mk (AV.c (AC.b (goesB (Ins.of i) n))) [] none))) ∧ (AV.c (AC.b (goesB (Ins.of i) n)) = V))
    (l12 : (Ins.op i == 10) = false → (Ins.op i == 11) = false → (Ins.op i == 12) = false → (Ins.op i == 13) = true → (regB (Ins.d i)) = true → (srcB (Ins.s i)) = false → (CallOK Try.prog (CallRec.mk 91 [AV.c (AC.i (Ins.d i))] [] (Eff.mk (AV.c (AC.b (regB (Ins.d i)))) [] none))) ∧ (CallOK Try.prog (CallRec.mk 94 [AV.c (AC.i (Ins.s i))] [] (Eff.mk (AV.c (AC.b (srcB (Ins.s i)))) [] none))) ∧ (AV.c (AC.b false) = V))
    (l13 : (Ins.op i == 10) = false → (Ins.op i == 11) = false → (Ins.op i == 12) = false → (Ins.op i == 13) = true → (regB (Ins.d i)) = false → (CallOK Try.prog (CallRec.mk 91 [AV.c (AC.i (Ins.d i))] [] (Eff.mk (AV.c (AC.b (regB (Ins.d i)))) [] none))) ∧ (AV.c (AC.b false) = V))
    (l14 : (Ins.op i == 10) = false → (Ins.op i == 11) = false → (Ins.op i == 12) = false → (Ins.op i == 13) = false → (Ins.op i == 14) = true → (regB (Ins.d i)) = true → (srcB (Ins.s i)) = true → (CallOK Try.prog (CallRec.mk 91 [AV.c (AC.i (Ins.d i))] [] (Eff.mk (AV.c (AC.b (regB (Ins.d i)))) [] none))) ∧ (CallOK Try.prog (CallRec.mk 94 [AV.c (AC.i (Ins.s i))] [] (Eff.mk (AV.c (AC.b (srcB (Ins.s i)))) [] none))) ∧ (CallOK Try.prog (CallRec.mk 93 [AV.c (AC.i (Ins.of i)), AV.c (AC.i n)] [] (Eff.mk (AV.c (AC.b (goesB (Ins.of i) n))) [] none))) ∧ (AV.c (AC.b (goesB (Ins.of i) n)) = V))
    (l15 : (Ins.op i == 10) = false → (Ins.op i == 11) = false → (Ins.op i == 12) = false → (Ins.op i == 13) = false → (Ins.op i == 14) = true → (regB (Ins.d i)) = true → (srcB (Ins.s i)) = false → (CallOK Try.prog (CallRec.mk 91 [AV.c (AC.i (Ins.d i))] [] (Eff.mk (AV.c (AC.b (regB (Ins.d i)))) [] none))) ∧ (CallOK Try.prog (CallRec.mk 94 [AV.c (AC.i (Ins.s i))] [] (Eff.mk (AV.c (AC.b (srcB (Ins.s i)))) [] none))) ∧ (AV.c (AC.b false) = V))
    (l16 : (Ins.op i == 10) = false → (Ins.op i == 11) = false → (Ins.op i == 12) = false → (Ins.op i == 13) = false → (Ins.op i == 14) = true → (regB (Ins.d i)) = false → (CallOK Try.prog (CallRec.mk 91 [AV.c (AC.i (Ins.d i))] [] (Eff.mk (AV.c (AC.b (regB (Ins.d i)))) [] none))) ∧ (AV.c (AC.b false) = V))
    (l17 : (Ins.op i == 10) = false → (Ins.op i == 11) = false → (Ins.op i == 12) = false → (Ins.op i == 13) = false → (Ins.op i == 14) = false → (Ins.op i == 15) = true → (AV.c (AC.b true) = V))
    (l18 : (Ins.op i == 10) = false → (Ins.op i == 11) = false → (Ins.op i == 12) = false → (Ins.op i == 13) = false → (Ins.op i == 14) = false → (Ins.op i == 15) = false → (regB (Ins.d i)) = true → (CallOK Try.prog (CallRec.mk 91 [AV.c (AC.i (Ins.d i))] [] (Eff.mk (AV.c (AC.b (regB (Ins.d i)))) [] none))) ∧ (CallOK Try.prog (CallRec.mk 94 [AV.c (AC.i (Ins.s i))] [] (Eff.mk (AV.c (AC.b (srcB (Ins.s i)))) [] none))) ∧ (AV.c (AC.b (srcB (Ins.s i))) = V))
    (l19 : (Ins.op i == 10) = false → (Ins.op i == 11) = false → (Ins.op i == 12) = false → (Ins.op i == 13) = false → (Ins.op i == 14) = false → (Ins.op i == 15) = false → (regB (Ins.d i)) = false → (CallOK Try.prog (CallRec.mk 91 [AV.c (AC.i (Ins.d i))] [] (Eff.mk (AV.c (AC.b (regB (Ins.d i)))) [] none))) ∧ (AV.c (AC.b false) = V)) :
    CallOK Try.prog ⟨55, [AV.ag (Ins.cs i), AV.c (AC.i n)], [], ⟨V, [], none⟩⟩ :=
  (tf (Ins.op i == 10)).elim (fun h0 => (tf (regB (Ins.d i))).elim (fun h1 => (tf (regB (Ins.s i))).elim (fun h2 => (tf (sizeB (Ins.im i))).elim (fun h3 => (tf (decide (-64 ≤ Ins.of i))).elim (fun h4 => (match l0 h0 h1 h2 h3 h4 with | ⟨c0, c1, c2, e⟩ => ok_eq (inBounds_w0 (and_yes h0 (and_yes h0 (and_yes h1 (and_yes h2 (and_yes h3 (and_yes h4 rfl)))))) c0 c1 c2) e)) (fun h4 => (match l1 h0 h1 h2 h3 h4 with | ⟨c0, c1, c2, e⟩ => ok_eq (inBounds_w1 (and_yes h0 (and_yes h0 (and_yes h1 (and_yes h2 (and_yes h3 (and_yes (not_yes h4) rfl)))))) c0 c1 c2) e))) (fun h3 => (match l2 h0 h1 h2 h3 with | ⟨c0, c1, c2, e⟩ => ok_eq (inBounds_w2 (and_yes h0 (and_yes h0 (and_yes h1 (and_yes h2 (and_yes (not_yes h3) rfl))))) c0 c1 c2) e))) (fun h2 => (match l3 h0 h1 h2 with | ⟨c0, c1, e⟩ => ok_eq (inBounds_w3 (and_yes h0 (and_yes h0 (and_yes h1 (and_yes (not_yes h2) rfl)))) c0 c1) e))) (fun h1 => (match l4 h0 h1 with | ⟨c0, e⟩ => ok_eq (inBounds_w4 (and_yes h0 (and_yes h0 (and_yes (not_yes h1) rfl))) c0) e))) (fun h0 => (tf (Ins.op i == 11)).elim (fun h1 => (tf (regB (Ins.d i))).elim (fun h2 => (tf (regB (Ins.s i))).elim (fun h3 => (tf (sizeB (Ins.im i))).elim (fun h4 => (tf (decide (-64 ≤ Ins.of i))).elim (fun h5 => (match l5 h0 h1 h2 h3 h4 h5 with | ⟨c0, c1, c2, e⟩ => ok_eq (inBounds_w5 (and_yes (not_yes h0) (and_yes h1 (and_yes h2 (and_yes h3 (and_yes h4 (and_yes h5 rfl)))))) c0 c1 c2) e)) (fun h5 => (match l6 h0 h1 h2 h3 h4 h5 with | ⟨c0, c1, c2, e⟩ => ok_eq (inBounds_w6 (and_yes (not_yes h0) (and_yes h1 (and_yes h2 (and_yes h3 (and_yes h4 (and_yes (not_yes h5) rfl)))))) c0 c1 c2) e))) (fun h4 => (match l7 h0 h1 h2 h3 h4 with | ⟨c0, c1, c2, e⟩ => ok_eq (inBounds_w7 (and_yes (not_yes h0) (and_yes h1 (and_yes h2 (and_yes h3 (and_yes (not_yes h4) rfl))))) c0 c1 c2) e))) (fun h3 => (match l8 h0 h1 h2 h3 with | ⟨c0, c1, e⟩ => ok_eq (inBounds_w8 (and_yes (not_yes h0) (and_yes h1 (and_yes h2 (and_yes (not_yes h3) rfl)))) c0 c1) e))) (fun h2 => (match l9 h0 h1 h2 with | ⟨c0, e⟩ => ok_eq (inBounds_w9 (and_yes (not_yes h0) (and_yes h1 (and_yes (not_yes h2) rfl))) c0) e))) (fun h1 => (tf (Ins.op i == 12)).elim (fun h2 => (match l10 h0 h1 h2 with | ⟨c0, e⟩ => ok_eq (inBounds_w10 (and_yes (not_yes h0) (and_yes (not_yes h1) (and_yes h2 rfl))) c0) e)) (fun h2 => (tf (Ins.op i == 13)).elim (fun h3 => (tf (regB (Ins.d i))).elim (fun h4 => (tf (srcB (Ins.s i))).elim (fun h5 => (match l11 h0 h1 h2 h3 h4 h5 with | ⟨c0, c1, c2, e⟩ => ok_eq (inBounds_w11 (and_yes (not_yes h0) (and_yes (not_yes h1) (and_yes (not_yes h2) (and_yes h3 (and_yes h3 (and_yes h4 (and_yes h5 rfl))))))) c0 c1 c2) e)) (fun h5 => (match l12 h0 h1 h2 h3 h4 h5 with | ⟨c0, c1, e⟩ => ok_eq (inBounds_w12 (and_yes (not_yes h0) (and_yes (not_yes h1) (and_yes (not_yes h2) (and_yes h3 (and_yes h3 (and_yes h4 (and_yes (not_yes h5) rfl))))))) c0 c1) e))) (fun h4 => (match l13 h0 h1 h2 h3 h4 with | ⟨c0, e⟩ => ok_eq (inBounds_w13 (and_yes (not_yes h0) (and_yes (not_yes h1) (and_yes (not_yes h2) (and_yes h3 (and_yes h3 (and_yes (not_yes h4) rfl)))))) c0) e))) (fun h3 => (tf (Ins.op i == 14)).elim (fun h4 => (tf (regB (Ins.d i))).elim (fun h5 => (tf (srcB (Ins.s i))).elim (fun h6 => (match l14 h0 h1 h2 h3 h4 h5 h6 with | ⟨c0, c1, c2, e⟩ => ok_eq (inBounds_w14 (and_yes (not_yes h0) (and_yes (not_yes h1) (and_yes (not_yes h2) (and_yes (not_yes h3) (and_yes h4 (and_yes h5 (and_yes h6 rfl))))))) c0 c1 c2) e)) (fun h6 => (match l15 h0 h1 h2 h3 h4 h5 h6 with | ⟨c0, c1, e⟩ => ok_eq (inBounds_w15 (and_yes (not_yes h0) (and_yes (not_yes h1) (and_yes (not_yes h2) (and_yes (not_yes h3) (and_yes h4 (and_yes h5 (and_yes (not_yes h6) rfl))))))) c0 c1) e))) (fun h5 => (match l16 h0 h1 h2 h3 h4 h5 with | ⟨c0, e⟩ => ok_eq (inBounds_w16 (and_yes (not_yes h0) (and_yes (not_yes h1) (and_yes (not_yes h2) (and_yes (not_yes h3) (and_yes h4 (and_yes (not_yes h5) rfl)))))) c0) e))) (fun h4 => (tf (Ins.op i == 15)).elim (fun h5 => (match l17 h0 h1 h2 h3 h4 h5 with | e => ok_eq (inBounds_w17 (and_yes (not_yes h0) (and_yes (not_yes h1) (and_yes (not_yes h2) (and_yes (not_yes h3) (and_yes (not_yes h4) (and_yes h5 rfl))))))) e)) (fun h5 => (tf (regB (Ins.d i))).elim (fun h6 => (match l18 h0 h1 h2 h3 h4 h5 h6 with | ⟨c0, c1, e⟩ => ok_eq (inBounds_w18 (and_yes (not_yes h0) (and_yes (not_yes h1) (and_yes (not_yes h2) (and_yes (not_yes h3) (and_yes (not_yes h4) (and_yes (not_yes h5) (and_yes h6 rfl))))))) c0 c1) e)) (fun h6 => (match l19 h0 h1 h2 h3 h4 h5 h6 with | ⟨c0, e⟩ => ok_eq (inBounds_w19 (and_yes (not_yes h0) (and_yes (not_yes h1) (and_yes (not_yes h2) (and_yes (not_yes h3) (and_yes (not_yes h4) (and_yes (not_yes h5) (and_yes (not_yes h6) rfl))))))) c0) e))))))))
theorem bare_w0 {i : Ins} (h : (Ins.op i == 10 && (Ins.op i == 10 && true)) = true) :
    CallOK Try.prog ⟨56, [AV.ag (Ins.cs i)], [], ⟨AV.c (AC.b true), [], none⟩⟩ :=
  val_run 2000 [] [true, true] [] [] Try.func56 rfl rfl rfl rfl (by kernel_rfl) h cr_nil
theorem bare_w1 {i : Ins} (h : (!Ins.op i == 10 && (Ins.op i == 11 && true)) = true) :
    CallOK Try.prog ⟨56, [AV.ag (Ins.cs i)], [], ⟨AV.c (AC.b true), [], none⟩⟩ :=
  val_run 2000 [] [false, true] [] [] Try.func56 rfl rfl rfl rfl (by kernel_rfl) h cr_nil
theorem bare_w2 {i : Ins} (h : (!Ins.op i == 10 && (!Ins.op i == 11 && (Ins.op i == 12 && true))) = true) :
    CallOK Try.prog ⟨56, [AV.ag (Ins.cs i)], [], ⟨AV.c (AC.b (eqCs (Ins.cs i) (splice (splice [AC.i 0, AC.i 0, AC.i 0, AC.u 0#64, AC.i 0] 0 [AC.i 12]) 4 [AC.i (Ins.of i)]))), [], none⟩⟩ :=
  val_run 2000 [] [false, false, true] [] [] Try.func56 rfl rfl rfl rfl (by kernel_rfl) h cr_nil
theorem bare_w3 {i : Ins} (h : (!Ins.op i == 10 && (!Ins.op i == 11 && (!Ins.op i == 12 && (Ins.op i == 13 && (Ins.op i == 13 && (Ins.s i == -1 && true)))))) = true) :
    CallOK Try.prog ⟨56, [AV.ag (Ins.cs i)], [], ⟨AV.c (AC.b true), [], none⟩⟩ :=
  val_run 2000 [] [false, false, false, true, true, true] [] [] Try.func56 rfl rfl rfl rfl (by kernel_rfl) h cr_nil
theorem bare_w4 {i : Ins} (h : (!Ins.op i == 10 && (!Ins.op i == 11 && (!Ins.op i == 12 && (Ins.op i == 13 && (Ins.op i == 13 && (!Ins.s i == -1 && true)))))) = true) :
    CallOK Try.prog ⟨56, [AV.ag (Ins.cs i)], [], ⟨AV.c (AC.b (eqb (Ins.im i) 0#64)), [], none⟩⟩ :=
  val_run 2000 [] [false, false, false, true, true, false] [] [] Try.func56 rfl rfl rfl rfl (by kernel_rfl) h cr_nil
theorem bare_w5 {i : Ins} (h : (!Ins.op i == 10 && (!Ins.op i == 11 && (!Ins.op i == 12 && (!Ins.op i == 13 && (Ins.op i == 14 && (Ins.s i == -1 && true)))))) = true) :
    CallOK Try.prog ⟨56, [AV.ag (Ins.cs i)], [], ⟨AV.c (AC.b true), [], none⟩⟩ :=
  val_run 2000 [] [false, false, false, false, true, true] [] [] Try.func56 rfl rfl rfl rfl (by kernel_rfl) h cr_nil
theorem bare_w6 {i : Ins} (h : (!Ins.op i == 10 && (!Ins.op i == 11 && (!Ins.op i == 12 && (!Ins.op i == 13 && (Ins.op i == 14 && (!Ins.s i == -1 && true)))))) = true) :
    CallOK Try.prog ⟨56, [AV.ag (Ins.cs i)], [], ⟨AV.c (AC.b (eqb (Ins.im i) 0#64)), [], none⟩⟩ :=
  val_run 2000 [] [false, false, false, false, true, false] [] [] Try.func56 rfl rfl rfl rfl (by kernel_rfl) h cr_nil
theorem bare_w7 {i : Ins} (h : (!Ins.op i == 10 && (!Ins.op i == 11 && (!Ins.op i == 12 && (!Ins.op i == 13 && (!Ins.op i == 14 && (Ins.op i == 15 && true)))))) = true) :
    CallOK Try.prog ⟨56, [AV.ag (Ins.cs i)], [], ⟨AV.c (AC.b (eqCs (Ins.cs i) (splice [AC.i 0, AC.i 0, AC.i 0, AC.u 0#64, AC.i 0] 0 [AC.i 15]))), [], none⟩⟩ :=
  val_run 2000 [] [false, false, false, false, false, true] [] [] Try.func56 rfl rfl rfl rfl (by kernel_rfl) h cr_nil
theorem bare_w8 {i : Ins} (h : (!Ins.op i == 10 && (!Ins.op i == 11 && (!Ins.op i == 12 && (!Ins.op i == 13 && (!Ins.op i == 14 && (!Ins.op i == 15 && (Ins.of i == 0 && (Ins.s i == -1 && true)))))))) = true) :
    CallOK Try.prog ⟨56, [AV.ag (Ins.cs i)], [], ⟨AV.c (AC.b true), [], none⟩⟩ :=
  val_run 2000 [] [false, false, false, false, false, false, true, true] [] [] Try.func56 rfl rfl rfl rfl (by kernel_rfl) h cr_nil
theorem bare_w9 {i : Ins} (h : (!Ins.op i == 10 && (!Ins.op i == 11 && (!Ins.op i == 12 && (!Ins.op i == 13 && (!Ins.op i == 14 && (!Ins.op i == 15 && (Ins.of i == 0 && (!Ins.s i == -1 && true)))))))) = true) :
    CallOK Try.prog ⟨56, [AV.ag (Ins.cs i)], [], ⟨AV.c (AC.b (eqb (Ins.im i) 0#64)), [], none⟩⟩ :=
  val_run 2000 [] [false, false, false, false, false, false, true, false] [] [] Try.func56 rfl rfl rfl rfl (by kernel_rfl) h cr_nil
theorem bare_w10 {i : Ins} (h : (!Ins.op i == 10 && (!Ins.op i == 11 && (!Ins.op i == 12 && (!Ins.op i == 13 && (!Ins.op i == 14 && (!Ins.op i == 15 && (!Ins.of i == 0 && true))))))) = true) :
    CallOK Try.prog ⟨56, [AV.ag (Ins.cs i)], [], ⟨AV.c (AC.b false), [], none⟩⟩ :=
  val_run 2000 [] [false, false, false, false, false, false, false] [] [] Try.func56 rfl rfl rfl rfl (by kernel_rfl) h cr_nil
theorem bare_all {i : Ins} {V : AV}
    (l0 : (Ins.op i == 10) = true → (AV.c (AC.b true) = V))
    (l1 : (Ins.op i == 10) = false → (Ins.op i == 11) = true → (AV.c (AC.b true) = V))
    (l2 : (Ins.op i == 10) = false → (Ins.op i == 11) = false → (Ins.op i == 12) = true → (AV.c (AC.b (eqCs (Ins.cs i) (splice (splice [AC.i 0, AC.i 0, AC.i 0, AC.u 0#64, AC.i 0] 0 [AC.i 12]) 4 [AC.i (Ins.of i)]))) = V))
    (l3 : (Ins.op i == 10) = false → (Ins.op i == 11) = false → (Ins.op i == 12) = false → (Ins.op i == 13) = true → (Ins.s i == -1) = true → (AV.c (AC.b true) = V))
    (l4 : (Ins.op i == 10) = false → (Ins.op i == 11) = false → (Ins.op i == 12) = false → (Ins.op i == 13) = true → (Ins.s i == -1) = false → (AV.c (AC.b (eqb (Ins.im i) 0#64)) = V))
    (l5 : (Ins.op i == 10) = false → (Ins.op i == 11) = false → (Ins.op i == 12) = false → (Ins.op i == 13) = false → (Ins.op i == 14) = true → (Ins.s i == -1) = true → (AV.c (AC.b true) = V))
    (l6 : (Ins.op i == 10) = false → (Ins.op i == 11) = false → (Ins.op i == 12) = false → (Ins.op i == 13) = false → (Ins.op i == 14) = true → (Ins.s i == -1) = false → (AV.c (AC.b (eqb (Ins.im i) 0#64)) = V))
    (l7 : (Ins.op i == 10) = false → (Ins.op i == 11) = false → (Ins.op i == 12) = false → (Ins.op i == 13) = false → (Ins.op i == 14) = false → (Ins.op i == 15) = true → (AV.c (AC.b (eqCs (Ins.cs i) (splice [AC.i 0, AC.i 0, AC.i 0, AC.u 0#64, AC.i 0] 0 [AC.i 15]))) = V))
    (l8 : (Ins.op i == 10) = false → (Ins.op i == 11) = false → (Ins.op i == 12) = false → (Ins.op i == 13) = false → (Ins.op i == 14) = false → (Ins.op i == 15) = false → (Ins.of i == 0) = true → (Ins.s i == -1) = true → (AV.c (AC.b true) = V))
    (l9 : (Ins.op i == 10) = false → (Ins.op i == 11) = false → (Ins.op i == 12) = false → (Ins.op i == 13) = false → (Ins.op i == 14) = false → (Ins.op i == 15) = false → (Ins.of i == 0) = true → (Ins.s i == -1) = false → (AV.c (AC.b (eqb (Ins.im i) 0#64)) = V))
    (l10 : (Ins.op i == 10) = false → (Ins.op i == 11) = false → (Ins.op i == 12) = false → (Ins.op i == 13) = false → (Ins.op i == 14) = false → (Ins.op i == 15) = false → (Ins.of i == 0) = false → (AV.c (AC.b false) = V)) :
    CallOK Try.prog ⟨56, [AV.ag (Ins.cs i)], [], ⟨V, [], none⟩⟩ :=
  (tf (Ins.op i == 10)).elim (fun h0 => (match l0 h0 with | e => ok_eq (bare_w0 (and_yes h0 (and_yes h0 rfl))) e)) (fun h0 => (tf (Ins.op i == 11)).elim (fun h1 => (match l1 h0 h1 with | e => ok_eq (bare_w1 (and_yes (not_yes h0) (and_yes h1 rfl))) e)) (fun h1 => (tf (Ins.op i == 12)).elim (fun h2 => (match l2 h0 h1 h2 with | e => ok_eq (bare_w2 (and_yes (not_yes h0) (and_yes (not_yes h1) (and_yes h2 rfl)))) e)) (fun h2 => (tf (Ins.op i == 13)).elim (fun h3 => (tf (Ins.s i == -1)).elim (fun h4 => (match l3 h0 h1 h2 h3 h4 with | e => ok_eq (bare_w3 (and_yes (not_yes h0) (and_yes (not_yes h1) (and_yes (not_yes h2) (and_yes h3 (and_yes h3 (and_yes h4 rfl))))))) e)) (fun h4 => (match l4 h0 h1 h2 h3 h4 with | e => ok_eq (bare_w4 (and_yes (not_yes h0) (and_yes (not_yes h1) (and_yes (not_yes h2) (and_yes h3 (and_yes h3 (and_yes (not_yes h4) rfl))))))) e))) (fun h3 => (tf (Ins.op i == 14)).elim (fun h4 => (tf (Ins.s i == -1)).elim (fun h5 => (match l5 h0 h1 h2 h3 h4 h5 with | e => ok_eq (bare_w5 (and_yes (not_yes h0) (and_yes (not_yes h1) (and_yes (not_yes h2) (and_yes (not_yes h3) (and_yes h4 (and_yes h5 rfl))))))) e)) (fun h5 => (match l6 h0 h1 h2 h3 h4 h5 with | e => ok_eq (bare_w6 (and_yes (not_yes h0) (and_yes (not_yes h1) (and_yes (not_yes h2) (and_yes (not_yes h3) (and_yes h4 (and_yes (not_yes h5) rfl))))))) e))) (fun h4 => (tf (Ins.op i == 15)).elim (fun h5 => (match l7 h0 h1 h2 h3 h4 h5 with | e => ok_eq (bare_w7 (and_yes (not_yes h0) (and_yes (not_yes h1) (and_yes (not_yes h2) (and_yes (not_yes h3) (and_yes (not_yes h4) (and_yes h5 rfl))))))) e)) (fun h5 => (tf (Ins.of i == 0)).elim (fun h6 => (tf (Ins.s i == -1)).elim (fun h7 => (match l8 h0 h1 h2 h3 h4 h5 h6 h7 with | e => ok_eq (bare_w8 (and_yes (not_yes h0) (and_yes (not_yes h1) (and_yes (not_yes h2) (and_yes (not_yes h3) (and_yes (not_yes h4) (and_yes (not_yes h5) (and_yes h6 (and_yes h7 rfl))))))))) e)) (fun h7 => (match l9 h0 h1 h2 h3 h4 h5 h6 h7 with | e => ok_eq (bare_w9 (and_yes (not_yes h0) (and_yes (not_yes h1) (and_yes (not_yes h2) (and_yes (not_yes h3) (and_yes (not_yes h4) (and_yes (not_yes h5) (and_yes h6 (and_yes (not_yes h7) rfl))))))))) e))) (fun h6 => (match l10 h0 h1 h2 h3 h4 h5 h6 with | e => ok_eq (bare_w10 (and_yes (not_yes h0) (and_yes (not_yes h1) (and_yes (not_yes h2) (and_yes (not_yes h3) (and_yes (not_yes h4) (and_yes (not_yes h5) (and_yes (not_yes h6) rfl)))))))) e))))))))
end Go.Proofs.Ytkigmocchaikgab

/- The contracts of code's small functions. -/
namespace Go.Proofs.Ytkigmocchaikgab
open Go.RowKit

theorem isReg_ok (d : Int) : Ok 91 [.c (.i d)] (.c (.b (regB d))) := by
  refine isReg_all ?_ ?_ <;> (intro h; rw [regB, h]; rfl)
theorem isSource_ok (d : Int) : Ok 94 [.c (.i d)] (.c (.b (srcB d))) := by
  refine isSource_all ?_ ?_
  · intro h; simp_all [srcB]
  · intro h; refine ⟨isReg_ok _, ?_⟩; simp_all [srcB]
theorem isSize_ok (d : BitVec 64) : Ok 92 [.c (.u d)] (.c (.b (sizeB d))) := by
  refine isSize_all ?_ ?_ ?_ ?_ <;> (intros; simp_all [sizeB])
theorem goesOn_ok (d n : Int) : Ok 93 [.c (.i d), .c (.i n)] (.c (.b (goesB d n))) := by
  refine goesOn_all ?_ ?_ <;> (intro h; rw [goesB, h]; rfl)
theorem inBounds_ok (i : Ins) (n : Int) : Ok 55 [.ag i.cs, .c (.i n)] (.c (.b (inB i n))) := by
  apply inBounds_all
  all_goals intros
  all_goals repeat' apply And.intro
  all_goals first
    | exact isReg_ok _
    | exact isSource_ok _
    | exact isSize_ok _
    | exact goesOn_ok _ _
    | (simp_all [inB]; try omega)
theorem bare_ok (i : Ins) : Ok 56 [.ag i.cs] (.c (.b (bareB i))) := by
  apply bare_all
  all_goals intros
  all_goals (simp_all [bareB, eqCs, eqC, splice, Ins.cs, Bool.and_assoc]; try rfl)
end Go.Proofs.Ytkigmocchaikgab

/- The contracts of run's small functions and of use.Of. -/
namespace Go.Proofs.Ytkigmocchaikgab
open Go.RowKit

theorem wrapN {n : Int} (h0 : -1099511627776 ≤ n) (h1 : n ≤ 1099511627776) : IntKind.i64.wrap n = n := by
  rw [IntKind.wrap_i64]; omega
theorem ended_ok (m : Mach) (e : Int) : Ok 58 [.ag m.cs, .c (.i e)] (.ag (m.fine e).cs) := ended_w0
theorem onward_ok {m : Mach} {o : Int} (h : 0 ≤ m.t ∧ m.t ≤ 64) (ho : 0 ≤ o ∧ o ≤ 64) : Ok 60 [.ag m.cs, .c (.i o)] (.ag (m.on o).cs) := by
  have e : IntKind.wrap IntKind.i64 (m.t + IntKind.wrap IntKind.i64 (1 + o)) = m.t + 1 + o := by
    rw [wrapN (n := 1 + o) (by omega) (by omega), wrapN (by omega) (by omega)]; omega
  have := onward_w0 (m := m) (o := o)
  rw [e] at this
  exact this
theorem mach_set_r {m : Mach} {r : Int} (x : BitVec 64) (h : regB r = true) : m.cs.set (1 + r.toNat * 1) (.u x) = (Mach.mk m.t (m.r.set r.toNat x) m.s m.mem m.fin).cs :=
  reg_elim (P := fun r => m.cs.set (1 + r.toNat * 1) (.u x) = (Mach.mk m.t (m.r.set r.toNat x) m.s m.mem m.fin).cs) h rfl rfl rfl rfl rfl rfl
theorem mach_set_s {m : Mach} {r : Int} (h : regB r = true) : m.cs.set (7 + r.toNat * 1) (.b true) = (Mach.mk m.t m.r (m.s.set r.toNat true) m.mem m.fin).cs :=
  reg_elim (P := fun r => m.cs.set (7 + r.toNat * 1) (.b true) = (Mach.mk m.t m.r (m.s.set r.toNat true) m.mem m.fin).cs) h rfl rfl rfl rfl rfl rfl
theorem mach_get_r {m : Mach} {r : Int} (h : regB r = true) : m.cs[1 + r.toNat * 1]? = some (.u (m.r.get r.toNat)) :=
  reg_elim (P := fun r => m.cs[1 + r.toNat * 1]? = some (.u (m.r.get r.toNat))) h rfl rfl rfl rfl rfl rfl
theorem mach_get_s {m : Mach} {r : Int} (h : regB r = true) : m.cs[7 + r.toNat * 1]? = some (.b (m.s.get r.toNat)) :=
  reg_elim (P := fun r => m.cs[7 + r.toNat * 1]? = some (.b (m.s.get r.toNat))) h rfl rfl rfl rfl rfl rfl
theorem bcs_set {v : V6 Bool} {r : Int} (h : regB r = true) : (bcs v).set (r.toNat * 1) (.b true) = bcs (v.set r.toNat true) :=
  reg_elim (P := fun r => (bcs v).set (r.toNat * 1) (.b true) = bcs (v.set r.toNat true)) h rfl rfl rfl rfl rfl rfl
theorem mach_len (m : Mach) : m.cs.length = 15 := rfl
theorem bcs_len (v : V6 Bool) : (bcs v).length = 6 := rfl
theorem with_ok {m : Mach} {r : Int} (x : BitVec 64) (h : regB r = true) : Ok 32 [.ag m.cs, .c (.i r), .c (.u x)] (.ag (m.wth r.toNat x).cs) := by
  have h1 := regB_iff.1 h
  have h2 := reg_nat h
  refine with_w0 ?_ ?_ ?_
  · simp [h1.1, h1.2, mach_len]; omega
  · rw [mach_set_r x h]
  · rw [mach_set_s h]; rfl
theorem use_of_ok {i : Ins} (h : i.op = 12 ∨ i.op = 15 ∨ (regB i.d = true ∧ srcB i.s = true)) : Ok 57 [.ag i.cs] (.ag (bcs (useOf i))) := by
  unfold useOf
  by_cases c1 : i.op = 12
  · rw [if_pos c1]; exact useOf12_w0 (by simp [c1])
  by_cases c2 : i.op = 15
  · rw [if_neg c1, if_pos c2]; exact useOf15_w0 (by simp [c2])
  obtain ⟨hd, hs⟩ := (h.resolve_left c1).resolve_left c2
  have d1 := regB_iff.1 hd
  have d2 := reg_nat hd
  rw [if_neg c1, if_neg c2]
  rcases srcB_iff.1 hs with e | hs
  · rw [if_pos e]
    by_cases c3 : i.op = 1
    · rw [if_pos (Or.inl c3)]; exact useOfM_w1 (by simp [c3, e])
    by_cases c4 : i.op = 10
    · rw [if_pos (Or.inr c4)]; exact useOfL_w1 (by simp [c4, e])
    rw [if_neg (by omega)]
    refine useOfD_w1 ?_ ?_
    · simp [c1, c2, c3, c4, d1.1, d1.2, e]; omega
    · rw [bcs_set hd]
  · have s1 := regB_iff.1 hs
    have s2 := reg_nat hs
    have e : ¬ i.s = -1 := by omega
    rw [if_neg e]
    by_cases c3 : i.op = 1
    · rw [if_pos (Or.inl c3)]
      refine useOfM_w0 ?_ ?_
      · simp [c3, e, s1.1, s1.2]; omega
      · rw [bcs_set hs]
    by_cases c4 : i.op = 10
    · rw [if_pos (Or.inr c4)]
      refine useOfL_w0 ?_ ?_
      · simp [c4, e, s1.1, s1.2]; omega
      · rw [bcs_set hs]
    rw [if_neg (by omega)]
    refine useOfD_w0 ?_ ?_ ?_
    · simp [c1, c2, c3, c4, d1.1, d1.2, e, s1.1, s1.2, bcs_len]; omega
    · rw [bcs_set hd]
    · rw [bcs_set hs]
theorem source_ok {i : Ins} {m : Mach} (h : srcB i.s = true) : Ok 62 [.ag i.cs, .ag m.cs] (.c (.u (srcN i m))) := by
  unfold srcN
  rcases srcB_iff.1 h with e | hs
  · rw [if_pos e]; exact source_w0 (by simp [e])
  · have s1 := regB_iff.1 hs
    have s2 := reg_nat hs
    rw [if_neg (by omega)]
    refine source_w1 ?_ ?_
    · rw [mach_get_r hs]
      simp [s1.1, s1.2, mach_len, AC.isU]; omega
    · rw [mach_get_r hs]; rfl
theorem runTwo_ok (op : Int) (x y : BitVec 64) (h : 1 ≤ op ∧ op ≤ 9) : Ok 63 [.c (.i op), .c (.u x), .c (.u y)] (.c (.u (numN op x y))) := by
  have hc : op = 1 ∨ op = 2 ∨ op = 3 ∨ op = 4 ∨ op = 5 ∨ op = 6 ∨ op = 7 ∨ op = 8 ∨ op = 9 := by omega
  have h6 := six_nv y
  have h7 := six_lt y
  have h8 : decide (nv (band y 63#64) ≤ 64) = true := by rw [h6]; simp; omega
  rcases hc with rfl | rfl | rfl | rfl | rfl | rfl | rfl | rfl | rfl
  · exact two_w8 rfl
  · exact two_w0 rfl
  · exact two_w1 rfl
  · exact two_w2 rfl
  · exact two_w3 rfl
  · exact two_w4 rfl
  · exact two_w5 rfl
  · exact two_w6 (by simp [h8])
  · exact two_w7 (by simp [h8])
theorem loadLoop {t : ByteArray} {w : World} {β : Bs} (ht : t.size ≤ 8) : ∀ k j : Nat, j + k = t.size →
    ART Try.prog 95 (cx w β 0 []) Try.f95.ntmps (cutAt Try.f95 0) ⟨[(0, .c (.s t)), (3, .c (.u (loadL (memL t 0 j)))), (6, .c (.i t.size)), (7, .c (.i j))], [], 0⟩ (REff w β ⟨.c (.u (loadL (memL t 0 t.size))), [], none⟩)
  | 0, j, h => by
    have : j = t.size := by omega
    subst this
    exact loadL_w1 (by simp)
  | k + 1, j, h => by
    have h1 : ((j : Int) < (t.size : Int)) := by omega
    have e8 : IntKind.wrap IntKind.i64 (8 * (j : Int)) = 8 * j := wrapN (by omega) (by omega)
    have e1 : IntKind.wrap IntKind.i64 ((j : Int) + 1) = ((j + 1 : Nat) : Int) := by rw [wrapN (by omega) (by omega)]; omega
    refine loadL_w0 (by simp [h1, e8]; omega) (fun k h => h) ?_
    have := loadLoop (w := w) (β := β) ht k (j + 1) (by omega)
    rw [memL_succ, loadL_snoc, memL_length] at this
    rw [e1, e8, show (8 * (j : Int)).toNat = 8 * j by omega]
    simpa using this
theorem load_ok {t : ByteArray} (ht : t.size ≤ 8) : Ok 95 [.c (.s t)] (.c (.u (loadL (memL t 0 t.size)))) :=
  val_of Try.func95 rfl rfl rfl rfl fun w β => load_w0 (fun _ h => h) (loadLoop ht t.size 0 (by omega))
theorem store_ok {x : BitVec 64} {n : BitVec 64} (h : sizeB n = true) : Ok 96 [.c (.u x), .c (.u n)] (.c (.s (strOf (storeL x n.toNat)))) := by
  refine size_elim (P := fun n => Ok 96 [.c (.u x), .c (.u n)] (.c (.s (strOf (storeL x n.toNat))))) h ?_ ?_ ?_ ?_
  · exact store1_w0
  · exact store2_w0
  · exact store4_w0
  · exact store8_w0
end Go.Proofs.Ytkigmocchaikgab

/- The contracts of run.branch, run.reach and run.do. -/
namespace Go.Proofs.Ytkigmocchaikgab
open Go.RowKit

theorem branch_ok {i : Ins} {m : Mach} {jp : Bool} (h : 0 ≤ m.t ∧ m.t ≤ 64) (ho : 0 ≤ i.of ∧ i.of ≤ 64) : Ok 61 [.ag i.cs, .ag m.cs, .c (.b jp)] (.ag (m.on (if jp then i.of else 0)).cs) := by
  cases jp with
  | true => exact branch_w0 rfl (onward_ok h ho)
  | false => exact branch_w1 rfl (onward_ok h ⟨by decide, by decide⟩)
theorem nv_toNat (x : BitVec 64) : (nv x).toNat = x.toNat := by unfold nv; omega
theorem nv_badd {x y : BitVec 64} (h : x.toNat + y.toNat ≤ 64) : nv (badd x y) = ((x.toNat + y.toNat : Nat) : Int) := by
  unfold nv badd
  rw [BitVec.toNat_add]
  omega
theorem byteAt_extract {s : ByteArray} {a b j : Nat} (hb : b ≤ s.size) (h : a + j < b) : byteAt (s.extract a b) j = byteAt s (a + j) := by
  unfold byteAt
  rw [ByteArray.data_extract]
  have : (s.data.extract a b).getD j 0 = s.data.getD (a + j) 0 := by
    have h1 : j < (s.data.extract a b).size := by
      rw [Array.size_extract]
      have : s.size = s.data.size := rfl
      omega
    have h2 : a + j < s.data.size := by
      have : s.size = s.data.size := rfl
      omega
    simp only [Array.getD_eq_getD_getElem?, Array.getElem?_eq_getElem h1, Array.getElem?_eq_getElem h2, Array.getElem_extract]
  rw [this]
theorem memL_extract {s : ByteArray} {a n : Nat} (h : a + n ≤ s.size) : memL (s.extract a (a + n)) 0 (s.extract a (a + n)).size = memL s a n := by
  have e : (s.extract a (a + n)).size = n := by rw [ByteArray.size_extract]; omega
  rw [e]
  unfold memL
  apply List.map_congr_left
  intro j hj
  rw [List.mem_range] at hj
  rw [Nat.zero_add, byteAt_extract h (by omega)]
theorem reach_ok {i : Ins} {m : Mach} {n : Int} (hi : Right i n) (ho : i.op = 10 ∨ i.op = 11) (hm : m.mem.size = 64) (ht : 0 ≤ m.t ∧ m.t ≤ 64) : Ok 59 [.ag i.cs, .ag m.cs] (.ag (reachM i m).cs) := by
  obtain ⟨hd, hs, hz, ho1, ho2⟩ := fits_reach hi ho
  have s1 := regB_iff.1 hs
  have s2 := reg_nat hs
  have d1 := regB_iff.1 hd
  have d2 := reg_nat hd
  have hlen := mach_len m
  unfold reachM
  cases hf : farB i m with
  | true =>
    rw [if_pos rfl]
    obtain ⟨op, d, s, im, of⟩ := i
    simp only at *
    rcases ho with rfl | rfl
    · refine reachL_w0 ?_ ?_ rfl rfl (ended_ok m 2)
      · rw [mach_get_r hs]; simp [s1.1, s1.2, hlen, AC.isU, hf]; omega
      · rw [mach_get_r hs]; rfl
    · refine reachS_w0 ?_ ?_ rfl rfl (ended_ok m 2)
      · rw [mach_get_r hd]; simp [d1.1, d1.2, hlen, AC.isU, hf]; omega
      · rw [mach_get_r hd]; rfl
  | false =>
    rw [if_neg (by decide)]
    have hfar := far_no hz hf
    have en := nv_badd hfar
    have e1 := nv_toNat (fromN i m)
    have e2 : nv (fromN i m) = ((fromN i m).toNat : Int) := rfl
    have him : i.im.toNat ≤ 8 := size_elim (P := fun x => x.toNat ≤ 8) hz (by decide) (by decide) (by decide) (by decide)
    obtain ⟨op, d, s, im, of⟩ := i
    simp only at *
    rcases ho with rfl | rfl
    · rw [if_pos rfl]
      refine reachL_w1 ?_ ?_ rfl rfl ?_ ?_ (load_ok ?_) (with_ok _ hd) (onward_ok (m := m.wth d.toNat _) ht ⟨by decide, by decide⟩)
      · rw [mach_get_r hs]; simp [s1.1, s1.2, hlen, AC.isU, hf, en, e2]; omega
      · rw [mach_get_r hs]; rfl
      · rw [e1, en]; rfl
      · rw [memL_extract (by omega)]
      · rw [ByteArray.size_extract]; omega
    · rw [if_neg (by decide)]
      have z1 : (m.mem.extract 0 (fromN (Ins.mk 11 d s im of) m).toNat).size ≤ 64 := by rw [ByteArray.size_extract]; omega
      have z2 : (strOf (storeL (m.r.get s.toNat) im.toNat)).size ≤ 8 := by rw [strOf_size, storeL_length]; exact him
      have z3 : (m.mem.extract ((fromN (Ins.mk 11 d s im of) m).toNat + im.toNat) m.mem.size).size ≤ 64 := by rw [ByteArray.size_extract]; omega
      refine reachS_w1 ?_ ?_ rfl rfl ?_ ?_ (store_ok hz) ?_ rfl (onward_ok (m := ⟨m.t, m.r, m.s, putMem m.mem (fromN (Ins.mk 11 d s im of) m).toNat im.toNat (m.r.get s.toNat), m.fin⟩) ht ⟨by decide, by decide⟩)
      · rw [mach_get_r hd, mach_get_r hs, en, ByteArray.size_append]
        simp only [Bool.and_eq_true, decide_eq_true_eq, AC.isU, Option.getD_some, hlen, Nat.blt_eq, hf, Bool.not_false, Bool.true_and, Bool.and_true, e2, hm]
        simp only [hm] at z3
        omega
      · rw [mach_get_r hd]; rfl
      · rw [e1]
      · rw [mach_get_r hs]; rfl
      · rw [en]; rfl

theorem bcs_get {v : V6 Bool} {r : Int} (h : regB r = true) : (bcs v)[r.toNat * 1]? = some (.b (v.get r.toNat)) :=
  reg_elim (P := fun r => (bcs v)[r.toNat * 1]? = some (.b (v.get r.toNat))) h rfl rfl rfl rfl rfl rfl
abbrev doKn (i : Ins) (m : Mach) (u : V6 Bool) (j : Int) : Kn := ⟨[(2, .c (.w 0)), (3, .c (.w 1)), (4, .c (.w 2)), (8, .ag (bcs u)), (9, .c (.i j))], [(0, ⟨true, i.cs, 0⟩), (1, ⟨true, m.cs, 0⟩), (2, ⟨true, Mach.z.cs, 0⟩)], 3⟩
theorem doLoop {i : Ins} {m : Mach} {u : V6 Bool} {w : World} {β : Bs} {E : Eff} : ∀ n, n ≤ 6 → (anyFrom (fun j => u.get j && !m.s.get j) n = true → ⟨.ag (m.fine 1).cs, [], none⟩ = E) →
    (anyFrom (fun j => u.get j && !m.s.get j) n = false → ART Try.prog 29 (cx w β 0 []) Try.f29.ntmps (cutAt Try.f29 0) (doKn i m u 6) (REff w β E)) →
    ART Try.prog 29 (cx w β 0 []) Try.f29.ntmps (cutAt Try.f29 0) (doKn i m u (6 - n : Nat)) (REff w β E)
  | 0, _, _, hz => hz rfl
  | n + 1, hn, hy, hz => by
    have hj : regB ((6 - (n + 1) : Nat) : Int) = true := by rw [regB_iff]; omega
    have ej : ((6 - (n + 1) : Nat) : Int).toNat = 5 - n := by omega
    have e1 : IntKind.wrap IntKind.i64 (((6 - (n + 1) : Nat) : Int) + 1) = ((6 - n : Nat) : Int) := by rw [wrapN (by omega) (by omega)]; omega
    have h1 := regB_iff.1 hj
    have o0 : decide (((6 - (n + 1) : Nat) : Int) < 6) = true := decide_eq_true h1.2
    have o2 : (decide (0 ≤ ((6 - (n + 1) : Nat) : Int)) && decide (((6 - (n + 1) : Nat) : Int) < 6)) = true := hj
    have o1 : (AC.isB (Option.getD (bcs u)[((6 - (n + 1) : Nat) : Int).toNat * 1]? (AC.b false)) && Nat.blt (((6 - (n + 1) : Nat) : Int).toNat * 1) (bcs u).length && (decide (0 ≤ ((6 - (n + 1) : Nat) : Int)) && decide (((6 - (n + 1) : Nat) : Int) < 6))) = true := by
      rw [bcs_get hj, o2, bcs_len]; simp [AC.isB]; omega
    have o3 : (AC.isB (Option.getD m.cs[7 + ((6 - (n + 1) : Nat) : Int).toNat * 1]? (AC.b false)) && Nat.blt (7 + ((6 - (n + 1) : Nat) : Int).toNat * 1) m.cs.length) = true := by
      rw [mach_get_s hj, mach_len]; simp [AC.isB]; omega
    have c0 : Eff.mk (AV.c (AC.b (AC.asB (Option.getD (bcs u)[((6 - (n + 1) : Nat) : Int).toNat * 1]? (AC.b false))))) [] none = Eff.mk (AV.c (AC.b (u.get ((6 - (n + 1) : Nat) : Int).toNat))) [] none := by rw [bcs_get hj]; rfl
    have c1 : Eff.mk (AV.c (AC.b (AC.asB (Option.getD m.cs[7 + ((6 - (n + 1) : Nat) : Int).toNat * 1]? (AC.b false))))) [] none = Eff.mk (AV.c (AC.b (m.s.get ((6 - (n + 1) : Nat) : Int).toNat))) [] none := by rw [mach_get_s hj]; rfl
    have next : (u.get (5 - n) && !m.s.get (5 - n)) = false → ART Try.prog 29 (cx w β 0 []) Try.f29.ntmps (cutAt Try.f29 0) (doKn i m u (IntKind.wrap IntKind.i64 (((6 - (n + 1) : Nat) : Int) + 1))) (REff w β E) := by
      intro hb
      rw [e1]
      refine doLoop n (by omega) (fun h => hy ?_) (fun h => hz ?_)
      · rw [anyFrom, hb, h]; rfl
      · rw [anyFrom, hb, h]; rfl
    refine doRound_all (by omega) (fun a b => ?_) (fun a b => ?_) (fun a => ?_)
    · refine ⟨o0, o1, o2, o3, c0, c1, ended_ok m 1, hy ?_⟩
      rw [ej] at a b
      rw [anyFrom, a, b]; rfl
    · refine ⟨o0, o1, o2, o3, c0, c1, low_of rfl, next ?_⟩
      rw [ej] at a b
      rw [a, b]; rfl
    · refine ⟨o0, o1, c0, low_of rfl, next ?_⟩
      rw [ej] at a
      rw [a]; rfl
theorem do_ok {i : Ins} {m : Mach} {n : Int} (hi : Right i n) (hn : n ≤ 64) (hm : m.mem.size = 64) (ht : 0 ≤ m.t ∧ m.t ≤ 64) : Ok 29 [.ag i.cs, .ag m.cs] (.ag (stepM i m).cs) := by
  have hk := kind_iff.1 hi.kind
  have hr := right_regs hi
  refine val_of Try.func29 rfl rfl rfl rfl fun w β => doTop_w0 (use_of_ok (Or.inr (Or.inr hr))) (low_of rfl) (fun _ h => absurd h (by simp [cx])) ?_
  refine doLoop 6 (Nat.le_refl 6) (fun h => ?_) (fun h => ?_)
  · rw [← lacks_from] at h
    unfold stepM
    rw [if_pos h]
  · rw [← lacks_from] at h
    unfold stepM
    rw [if_neg (by rw [h]; decide)]
    have d1 := regB_iff.1 hr.1
    have d2 := reg_nat hr.1
    have hlen := mach_len m
    have hg := mach_get_r (m := m) hr.1
    by_cases c1 : i.op = 10 ∨ i.op = 11
    · rw [if_pos c1]
      have hreach := reach_ok hi c1 hm ht
      obtain ⟨op, d, s, im, of⟩ := i
      simp only at c1
      rcases c1 with rfl | rfl
      · exact doL_w0 hreach
      · exact doS_w0 hreach
    rw [if_neg c1]
    by_cases c2 : i.op = 12
    · rw [if_pos c2]
      have hj := fits_jump hi c2
      obtain ⟨op, d, s, im, of⟩ := i
      simp only at *
      subst c2
      exact doJ_w0 (onward_ok ht (by omega))
    rw [if_neg c2]
    have hsrc := source_ok (m := m) hr.2
    by_cases c3 : i.op = 13
    · rw [if_pos c3]
      have hj := fits_branch hi (Or.inl c3)
      have hb := branch_ok (i := i) (m := m) (jp := eqb (m.r.get i.d.toNat) (srcN i m)) ht (by omega)
      obtain ⟨op, d, s, im, of⟩ := i
      simp only at *
      subst c3
      refine doEq_w0 ?_ ?_ hsrc hb
      · rw [hg]; simp [d1.1, d1.2, hlen, AC.isU]; omega
      · rw [hg]; rfl
    rw [if_neg c3]
    by_cases c4 : i.op = 14
    · rw [if_pos c4]
      have hj := fits_branch hi (Or.inr c4)
      have hb := branch_ok (i := i) (m := m) (jp := decide (nv (m.r.get i.d.toNat) < nv (srcN i m))) ht (by omega)
      have e : (if nv (m.r.get i.d.toNat) < nv (srcN i m) then i.of else 0) = (if decide (nv (m.r.get i.d.toNat) < nv (srcN i m)) = true then i.of else 0) := by simp
      rw [e]
      obtain ⟨op, d, s, im, of⟩ := i
      simp only at *
      subst c4
      refine doLt_w0 ?_ ?_ hsrc hb
      · rw [hg]; simp [d1.1, d1.2, hlen, AC.isU]; omega
      · rw [hg]; rfl
    rw [if_neg c4]
    by_cases c5 : i.op = 15
    · rw [if_pos c5]
      obtain ⟨op, d, s, im, of⟩ := i
      simp only at *
      subst c5
      exact doX_w0 (ended_ok m 3)
    rw [if_neg c5]
    have h2 := runTwo_ok i.op (m.r.get i.d.toNat) (srcN i m) (by omega)
    obtain ⟨op, d, s, im, of⟩ := i
    simp only at *
    refine doTwo_w0 ?_ ?_ hsrc h2 (with_ok _ hr.1) (onward_ok (m := m.wth d.toNat _) ht ⟨by decide, by decide⟩)
    · rw [hg]; simp [d1.1, d1.2, hlen, AC.isU, c2, c3, c4, c5]; omega
    · rw [hg]; rfl
end Go.Proofs.Ytkigmocchaikgab

/- Ways of bodies, written by a program (ways.py): what each asks for, and hands back. -/
namespace Go.Proofs.Ytkigmocchaikgab
open Go.RowKit

theorem ckTop_w0 {L : List Ins} {c : Nat} {w : World} {β : Bs} {n : Nat} (h : ((↑(List.length L) : Int) == 0 && true) = true) :
    ART Try.prog 28 (cx w β n []) Try.f28.ntmps ([Item.code (bodyOf Try.f28)]) (Kn.start [AV.c (AC.sl 0 0 (List.length L) c)] [(0, Ent.mk false (pcell L) 0)] 1) (REff w β ⟨AV.c (AC.i 2), [], none⟩) :=
  run_eff [] (none) 2000 [] [true, true] [true] [] Try.func28 (ekeys0 rfl n) (by kernel_rfl) h cr_nil
theorem ckTop_w1 {L : List Ins} {c : Nat} {w : World} {β : Bs} {n : Nat} (h : (!(↑(List.length L) : Int) == 0 && (decide (64 < (↑(List.length L) : Int)) && true)) = true) :
    ART Try.prog 28 (cx w β n []) Try.f28.ntmps ([Item.code (bodyOf Try.f28)]) (Kn.start [AV.c (AC.sl 0 0 (List.length L) c)] [(0, Ent.mk false (pcell L) 0)] 1) (REff w β ⟨AV.c (AC.i 2), [], none⟩) :=
  run_eff [] (none) 2000 [] [false, true] [true] [] Try.func28 (ekeys0 rfl n) (by kernel_rfl) h cr_nil
theorem ckTop_w2 {L : List Ins} {c : Nat} {C : Cx} {R : Ending → World → Prop} (h : (!(↑(List.length L) : Int) == 0 && (!decide (64 < (↑(List.length L) : Int)) && true)) = true) (lo : Kn.Low ⟨[(0, AV.c (AC.sl 0 0 (List.length L) c)), (17, AV.c (AC.sl 0 0 (List.length L) c)), (18, AV.c (AC.i (↑(List.length L) : Int))), (19, AV.c (AC.i 0))], [(0, Ent.mk false (pcell L) 0)], 1⟩) (hF : ∀ k, C.F k → k < 1) (z : ART Try.prog 28 C Try.f28.ntmps (cutAt Try.f28 0) ⟨[(0, AV.c (AC.sl 0 0 (List.length L) c)), (17, AV.c (AC.sl 0 0 (List.length L) c)), (18, AV.c (AC.i (↑(List.length L) : Int))), (19, AV.c (AC.i 0))], [(0, Ent.mk false (pcell L) 0)], 1⟩ R) :
    ART Try.prog 28 C Try.f28.ntmps ([Item.code (bodyOf Try.f28)]) (Kn.start [AV.c (AC.sl 0 0 (List.length L) c)] [(0, Ent.mk false (pcell L) 0)] 1) R :=
  run_cut ⟨[(0, AV.c (AC.sl 0 0 (List.length L) c)), (17, AV.c (AC.sl 0 0 (List.length L) c)), (18, AV.c (AC.i (↑(List.length L) : Int))), (19, AV.c (AC.i 0))], [(0, Ent.mk false (pcell L) 0)], 1⟩ 2000 [] [false, false] [true] [] Try.func28 (by kernel_rfl) h cr_nil lo hF z
theorem ckTop_all {L : List Ins} {c : Nat} {w : World} {β : Bs} {n : Nat} {E : Eff} (hn : n ≤ 1)
    (l0 : ((↑(List.length L) : Int) == 0) = true → ((⟨AV.c (AC.i 2), [], none⟩ : Eff) = E))
    (l1 : ((↑(List.length L) : Int) == 0) = false → (decide (64 < (↑(List.length L) : Int))) = true → ((⟨AV.c (AC.i 2), [], none⟩ : Eff) = E))
    (l2 : ((↑(List.length L) : Int) == 0) = false → (decide (64 < (↑(List.length L) : Int))) = false → Kn.Low ⟨[(0, AV.c (AC.sl 0 0 (List.length L) c)), (17, AV.c (AC.sl 0 0 (List.length L) c)), (18, AV.c (AC.i (↑(List.length L) : Int))), (19, AV.c (AC.i 0))], [(0, Ent.mk false (pcell L) 0)], 1⟩ ∧ ART Try.prog 28 (cx w β n []) Try.f28.ntmps (cutAt Try.f28 0) ⟨[(0, AV.c (AC.sl 0 0 (List.length L) c)), (17, AV.c (AC.sl 0 0 (List.length L) c)), (18, AV.c (AC.i (↑(List.length L) : Int))), (19, AV.c (AC.i 0))], [(0, Ent.mk false (pcell L) 0)], 1⟩ (REff w β E)) :
    ART Try.prog 28 (cx w β n []) Try.f28.ntmps ([Item.code (bodyOf Try.f28)]) (Kn.start [AV.c (AC.sl 0 0 (List.length L) c)] [(0, Ent.mk false (pcell L) 0)] 1) (REff w β E) :=
  (tf ((↑(List.length L) : Int) == 0)).elim (fun h0 => (match l0 h0 with | e => art_eq (ckTop_w0 (and_yes h0 rfl)) e)) (fun h0 => (tf (decide (64 < (↑(List.length L) : Int)))).elim (fun h1 => (match l1 h0 h1 with | e => art_eq (ckTop_w1 (and_yes (not_yes h0) (and_yes h1 rfl))) e)) (fun h1 => (match l2 h0 h1 with | ⟨lo, z⟩ => ckTop_w2 (and_yes (not_yes h0) (and_yes (not_yes h1) rfl)) lo (fun _ hk => Nat.lt_of_lt_of_le hk hn) z)))
theorem ckA_w0 {L : List Ins} {c : Nat} {j : Nat} {w : World} {β : Bs} {n : Nat} (h : (decide ((↑j : Int) < (↑(List.length L) : Int)) && (decide ((↑j : Int) < (↑(List.length L) : Int)) && (Nat.ble (0 + Int.toNat (↑j : Int) * 5 + 5) (List.length (pcell L)) && (decide (Ins.op (elt L j) < 1) && true)))) = true) (c0 : Eff.mk (AV.ag (List.take 5 (List.drop (0 + Int.toNat (↑j : Int) * 5) (pcell L)))) [] none = Eff.mk (AV.ag (Ins.cs (elt L j))) [] none) :
    ART Try.prog 28 (cx w β n []) Try.f28.ntmps (cutAt Try.f28 0) (Kn.mk [(0, AV.c (AC.sl 0 0 (List.length L) c)), (17, AV.c (AC.sl 0 0 (List.length L) c)), (18, AV.c (AC.i (↑(List.length L) : Int))), (19, AV.c (AC.i (↑j : Int)))] [(0, Ent.mk false (pcell L) 0)] 1) (REff w β ⟨AV.c (AC.i 4), [], none⟩) :=
  run_eff [] (none) 2000 [Eff.mk (AV.ag (Ins.cs (elt L j))) [] none] [true, true, true] [true] [(5, 1)] Try.func28 (ekeys0 rfl n) (by kernel_rfl) h (cr_same c0 cr_nil)
theorem ckA_w1 {L : List Ins} {c : Nat} {j : Nat} {w : World} {β : Bs} {n : Nat} (h : (decide ((↑j : Int) < (↑(List.length L) : Int)) && (decide ((↑j : Int) < (↑(List.length L) : Int)) && (Nat.ble (0 + Int.toNat (↑j : Int) * 5 + 5) (List.length (pcell L)) && (!decide (Ins.op (elt L j) < 1) && (decide (15 < Ins.op (elt L j)) && true))))) = true) (c0 : Eff.mk (AV.ag (List.take 5 (List.drop (0 + Int.toNat (↑j : Int) * 5) (pcell L)))) [] none = Eff.mk (AV.ag (Ins.cs (elt L j))) [] none) :
    ART Try.prog 28 (cx w β n []) Try.f28.ntmps (cutAt Try.f28 0) (Kn.mk [(0, AV.c (AC.sl 0 0 (List.length L) c)), (17, AV.c (AC.sl 0 0 (List.length L) c)), (18, AV.c (AC.i (↑(List.length L) : Int))), (19, AV.c (AC.i (↑j : Int)))] [(0, Ent.mk false (pcell L) 0)] 1) (REff w β ⟨AV.c (AC.i 4), [], none⟩) :=
  run_eff [] (none) 2000 [Eff.mk (AV.ag (Ins.cs (elt L j))) [] none] [true, false, true] [true] [(5, 1)] Try.func28 (ekeys0 rfl n) (by kernel_rfl) h (cr_same c0 cr_nil)
theorem ckA_w2 {L : List Ins} {c : Nat} {j : Nat} {C : Cx} {R : Ending → World → Prop} (h : (decide ((↑j : Int) < (↑(List.length L) : Int)) && (decide ((↑j : Int) < (↑(List.length L) : Int)) && (Nat.ble (0 + Int.toNat (↑j : Int) * 5 + 5) (List.length (pcell L)) && (!decide (Ins.op (elt L j) < 1) && (!decide (15 < Ins.op (elt L j)) && true))))) = true) (c0 : Eff.mk (AV.ag (List.take 5 (List.drop (0 + Int.toNat (↑j : Int) * 5) (pcell L)))) [] none = Eff.mk (AV.ag (Ins.cs (elt L j))) [] none) (lo : Kn.Low ⟨[(0, AV.c (AC.sl 0 0 (List.length L) c)), (17, AV.c (AC.sl 0 0 (List.length L) c)), (18, AV.c (AC.i (↑(List.length L) : Int))), (19, AV.c (AC.i (IntKind.wrap IntKind.i64 ((↑j : Int) + 1))))], [(0, Ent.mk false (pcell L) 0)], 1⟩) (hF : ∀ k, C.F k → k < 1) (z : ART Try.prog 28 C Try.f28.ntmps (cutAt Try.f28 0) ⟨[(0, AV.c (AC.sl 0 0 (List.length L) c)), (17, AV.c (AC.sl 0 0 (List.length L) c)), (18, AV.c (AC.i (↑(List.length L) : Int))), (19, AV.c (AC.i (IntKind.wrap IntKind.i64 ((↑j : Int) + 1))))], [(0, Ent.mk false (pcell L) 0)], 1⟩ R) :
    ART Try.prog 28 C Try.f28.ntmps (cutAt Try.f28 0) (Kn.mk [(0, AV.c (AC.sl 0 0 (List.length L) c)), (17, AV.c (AC.sl 0 0 (List.length L) c)), (18, AV.c (AC.i (↑(List.length L) : Int))), (19, AV.c (AC.i (↑j : Int)))] [(0, Ent.mk false (pcell L) 0)] 1) R :=
  run_cut ⟨[(0, AV.c (AC.sl 0 0 (List.length L) c)), (17, AV.c (AC.sl 0 0 (List.length L) c)), (18, AV.c (AC.i (↑(List.length L) : Int))), (19, AV.c (AC.i (IntKind.wrap IntKind.i64 ((↑j : Int) + 1))))], [(0, Ent.mk false (pcell L) 0)], 1⟩ 2000 [Eff.mk (AV.ag (Ins.cs (elt L j))) [] none] [true, false, false] [true] [(5, 1)] Try.func28 (by kernel_rfl) h (cr_same c0 cr_nil) lo hF z
theorem ckA_all {L : List Ins} {c : Nat} {j : Nat} {w : World} {β : Bs} {n : Nat} {E : Eff} (hn : n ≤ 1)
    (l0 : (decide (Ins.op (elt L j) < 1)) = true → (decide ((↑j : Int) < (↑(List.length L) : Int))) = true ∧ (decide ((↑j : Int) < (↑(List.length L) : Int))) = true ∧ (Nat.ble (0 + Int.toNat (↑j : Int) * 5 + 5) (List.length (pcell L))) = true ∧ (Eff.mk (AV.ag (List.take 5 (List.drop (0 + Int.toNat (↑j : Int) * 5) (pcell L)))) [] none = Eff.mk (AV.ag (Ins.cs (elt L j))) [] none) ∧ ((⟨AV.c (AC.i 4), [], none⟩ : Eff) = E))
    (l1 : (decide (Ins.op (elt L j) < 1)) = false → (decide (15 < Ins.op (elt L j))) = true → (decide ((↑j : Int) < (↑(List.length L) : Int))) = true ∧ (decide ((↑j : Int) < (↑(List.length L) : Int))) = true ∧ (Nat.ble (0 + Int.toNat (↑j : Int) * 5 + 5) (List.length (pcell L))) = true ∧ (Eff.mk (AV.ag (List.take 5 (List.drop (0 + Int.toNat (↑j : Int) * 5) (pcell L)))) [] none = Eff.mk (AV.ag (Ins.cs (elt L j))) [] none) ∧ ((⟨AV.c (AC.i 4), [], none⟩ : Eff) = E))
    (l2 : (decide (Ins.op (elt L j) < 1)) = false → (decide (15 < Ins.op (elt L j))) = false → (decide ((↑j : Int) < (↑(List.length L) : Int))) = true ∧ (decide ((↑j : Int) < (↑(List.length L) : Int))) = true ∧ (Nat.ble (0 + Int.toNat (↑j : Int) * 5 + 5) (List.length (pcell L))) = true ∧ (Eff.mk (AV.ag (List.take 5 (List.drop (0 + Int.toNat (↑j : Int) * 5) (pcell L)))) [] none = Eff.mk (AV.ag (Ins.cs (elt L j))) [] none) ∧ Kn.Low ⟨[(0, AV.c (AC.sl 0 0 (List.length L) c)), (17, AV.c (AC.sl 0 0 (List.length L) c)), (18, AV.c (AC.i (↑(List.length L) : Int))), (19, AV.c (AC.i (IntKind.wrap IntKind.i64 ((↑j : Int) + 1))))], [(0, Ent.mk false (pcell L) 0)], 1⟩ ∧ ART Try.prog 28 (cx w β n []) Try.f28.ntmps (cutAt Try.f28 0) ⟨[(0, AV.c (AC.sl 0 0 (List.length L) c)), (17, AV.c (AC.sl 0 0 (List.length L) c)), (18, AV.c (AC.i (↑(List.length L) : Int))), (19, AV.c (AC.i (IntKind.wrap IntKind.i64 ((↑j : Int) + 1))))], [(0, Ent.mk false (pcell L) 0)], 1⟩ (REff w β E)) :
    ART Try.prog 28 (cx w β n []) Try.f28.ntmps (cutAt Try.f28 0) (Kn.mk [(0, AV.c (AC.sl 0 0 (List.length L) c)), (17, AV.c (AC.sl 0 0 (List.length L) c)), (18, AV.c (AC.i (↑(List.length L) : Int))), (19, AV.c (AC.i (↑j : Int)))] [(0, Ent.mk false (pcell L) 0)] 1) (REff w β E) :=
  (tf (decide (Ins.op (elt L j) < 1))).elim (fun h0 => (match l0 h0 with | ⟨o0, o1, o2, c0, e⟩ => art_eq (ckA_w0 (and_yes o0 (and_yes o1 (and_yes o2 (and_yes h0 rfl)))) c0) e)) (fun h0 => (tf (decide (15 < Ins.op (elt L j)))).elim (fun h1 => (match l1 h0 h1 with | ⟨o0, o1, o2, c0, e⟩ => art_eq (ckA_w1 (and_yes o0 (and_yes o1 (and_yes o2 (and_yes (not_yes h0) (and_yes h1 rfl))))) c0) e)) (fun h1 => (match l2 h0 h1 with | ⟨o0, o1, o2, c0, lo, z⟩ => ckA_w2 (and_yes o0 (and_yes o1 (and_yes o2 (and_yes (not_yes h0) (and_yes (not_yes h1) rfl))))) c0 lo (fun _ hk => Nat.lt_of_lt_of_le hk hn) z)))
theorem ckAx_w0 {L : List Ins} {c : Nat} {j : Nat} {C : Cx} {R : Ending → World → Prop} (h : (!decide ((↑j : Int) < (↑(List.length L) : Int)) && true) = true) (lo : Kn.Low ⟨[(0, AV.c (AC.sl 0 0 (List.length L) c)), (32, AV.c (AC.sl 0 0 (List.length L) c)), (33, AV.c (AC.i (↑(List.length L) : Int))), (34, AV.c (AC.i 0))], [(0, Ent.mk false (pcell L) 0)], 1⟩) (hF : ∀ k, C.F k → k < 1) (z : ART Try.prog 28 C Try.f28.ntmps (cutAt Try.f28 1) ⟨[(0, AV.c (AC.sl 0 0 (List.length L) c)), (32, AV.c (AC.sl 0 0 (List.length L) c)), (33, AV.c (AC.i (↑(List.length L) : Int))), (34, AV.c (AC.i 0))], [(0, Ent.mk false (pcell L) 0)], 1⟩ R) :
    ART Try.prog 28 C Try.f28.ntmps (cutAt Try.f28 0) (Kn.mk [(0, AV.c (AC.sl 0 0 (List.length L) c)), (17, AV.c (AC.sl 0 0 (List.length L) c)), (18, AV.c (AC.i (↑(List.length L) : Int))), (19, AV.c (AC.i (↑j : Int)))] [(0, Ent.mk false (pcell L) 0)] 1) R :=
  run_cut ⟨[(0, AV.c (AC.sl 0 0 (List.length L) c)), (32, AV.c (AC.sl 0 0 (List.length L) c)), (33, AV.c (AC.i (↑(List.length L) : Int))), (34, AV.c (AC.i 0))], [(0, Ent.mk false (pcell L) 0)], 1⟩ 2000 [] [false] [true] [] Try.func28 (by kernel_rfl) h cr_nil lo hF z
theorem ckB_w0 {L : List Ins} {c : Nat} {j : Nat} {w : World} {β : Bs} {n : Nat} (h : (decide ((↑j : Int) < (↑(List.length L) : Int)) && (decide ((↑j : Int) < (↑(List.length L) : Int)) && (Nat.ble (0 + Int.toNat (↑j : Int) * 5 + 5) (List.length (pcell L)) && (!inB (elt L j) (↑(List.length L - 1 - j) : Int) && true)))) = true) (c0 : Eff.mk (AV.ag (List.take 5 (List.drop (0 + Int.toNat (↑j : Int) * 5) (pcell L)))) [] none = Eff.mk (AV.ag (Ins.cs (elt L j))) [] none) (c1 : Eff.mk (AV.c (AC.i (IntKind.wrap IntKind.i64 (IntKind.wrap IntKind.i64 ((↑(List.length L) : Int) - 1) - (↑j : Int))))) [] none = Eff.mk (AV.c (AC.i (↑(List.length L - 1 - j) : Int))) [] none) (c2 : CallOK Try.prog (CallRec.mk 55 [AV.ag (Ins.cs (elt L j)), AV.c (AC.i (↑(List.length L - 1 - j) : Int))] [] (Eff.mk (AV.c (AC.b (inB (elt L j) (↑(List.length L - 1 - j) : Int)))) [] none))) :
    ART Try.prog 28 (cx w β n []) Try.f28.ntmps (cutAt Try.f28 1) (Kn.mk [(0, AV.c (AC.sl 0 0 (List.length L) c)), (32, AV.c (AC.sl 0 0 (List.length L) c)), (33, AV.c (AC.i (↑(List.length L) : Int))), (34, AV.c (AC.i (↑j : Int)))] [(0, Ent.mk false (pcell L) 0)] 1) (REff w β ⟨AV.c (AC.i 3), [], none⟩) :=
  run_eff [] (none) 2000 [Eff.mk (AV.ag (Ins.cs (elt L j))) [] none, Eff.mk (AV.c (AC.i (↑(List.length L - 1 - j) : Int))) [] none, Eff.mk (AV.c (AC.b (inB (elt L j) (↑(List.length L - 1 - j) : Int)))) [] none] [true, true] [true] [(11, 2), (12, 5)] Try.func28 (ekeys0 rfl n) (by kernel_rfl) h (cr_same c0 (cr_same c1 (cr_cons c2 cr_nil)))
theorem ckB_w1 {L : List Ins} {c : Nat} {j : Nat} {C : Cx} {R : Ending → World → Prop} (h : (decide ((↑j : Int) < (↑(List.length L) : Int)) && (decide ((↑j : Int) < (↑(List.length L) : Int)) && (Nat.ble (0 + Int.toNat (↑j : Int) * 5 + 5) (List.length (pcell L)) && (!!inB (elt L j) (↑(List.length L - 1 - j) : Int) && true)))) = true) (c0 : Eff.mk (AV.ag (List.take 5 (List.drop (0 + Int.toNat (↑j : Int) * 5) (pcell L)))) [] none = Eff.mk (AV.ag (Ins.cs (elt L j))) [] none) (c1 : Eff.mk (AV.c (AC.i (IntKind.wrap IntKind.i64 (IntKind.wrap IntKind.i64 ((↑(List.length L) : Int) - 1) - (↑j : Int))))) [] none = Eff.mk (AV.c (AC.i (↑(List.length L - 1 - j) : Int))) [] none) (c2 : CallOK Try.prog (CallRec.mk 55 [AV.ag (Ins.cs (elt L j)), AV.c (AC.i (↑(List.length L - 1 - j) : Int))] [] (Eff.mk (AV.c (AC.b (inB (elt L j) (↑(List.length L - 1 - j) : Int)))) [] none))) (lo : Kn.Low ⟨[(0, AV.c (AC.sl 0 0 (List.length L) c)), (32, AV.c (AC.sl 0 0 (List.length L) c)), (33, AV.c (AC.i (↑(List.length L) : Int))), (34, AV.c (AC.i (IntKind.wrap IntKind.i64 ((↑j : Int) + 1))))], [(0, Ent.mk false (pcell L) 0)], 1⟩) (hF : ∀ k, C.F k → k < 1) (z : ART Try.prog 28 C Try.f28.ntmps (cutAt Try.f28 1) ⟨[(0, AV.c (AC.sl 0 0 (List.length L) c)), (32, AV.c (AC.sl 0 0 (List.length L) c)), (33, AV.c (AC.i (↑(List.length L) : Int))), (34, AV.c (AC.i (IntKind.wrap IntKind.i64 ((↑j : Int) + 1))))], [(0, Ent.mk false (pcell L) 0)], 1⟩ R) :
    ART Try.prog 28 C Try.f28.ntmps (cutAt Try.f28 1) (Kn.mk [(0, AV.c (AC.sl 0 0 (List.length L) c)), (32, AV.c (AC.sl 0 0 (List.length L) c)), (33, AV.c (AC.i (↑(List.length L) : Int))), (34, AV.c (AC.i (↑j : Int)))] [(0, Ent.mk false (pcell L) 0)] 1) R :=
  run_cut ⟨[(0, AV.c (AC.sl 0 0 (List.length L) c)), (32, AV.c (AC.sl 0 0 (List.length L) c)), (33, AV.c (AC.i (↑(List.length L) : Int))), (34, AV.c (AC.i (IntKind.wrap IntKind.i64 ((↑j : Int) + 1))))], [(0, Ent.mk false (pcell L) 0)], 1⟩ 2000 [Eff.mk (AV.ag (Ins.cs (elt L j))) [] none, Eff.mk (AV.c (AC.i (↑(List.length L - 1 - j) : Int))) [] none, Eff.mk (AV.c (AC.b (inB (elt L j) (↑(List.length L - 1 - j) : Int)))) [] none] [true, false] [true] [(11, 2), (12, 5)] Try.func28 (by kernel_rfl) h (cr_same c0 (cr_same c1 (cr_cons c2 cr_nil))) lo hF z
theorem ckB_all {L : List Ins} {c : Nat} {j : Nat} {w : World} {β : Bs} {n : Nat} {E : Eff} (hn : n ≤ 1)
    (l0 : (!inB (elt L j) (↑(List.length L - 1 - j) : Int)) = true → (decide ((↑j : Int) < (↑(List.length L) : Int))) = true ∧ (decide ((↑j : Int) < (↑(List.length L) : Int))) = true ∧ (Nat.ble (0 + Int.toNat (↑j : Int) * 5 + 5) (List.length (pcell L))) = true ∧ (Eff.mk (AV.ag (List.take 5 (List.drop (0 + Int.toNat (↑j : Int) * 5) (pcell L)))) [] none = Eff.mk (AV.ag (Ins.cs (elt L j))) [] none) ∧ (Eff.mk (AV.c (AC.i (IntKind.wrap IntKind.i64 (IntKind.wrap IntKind.i64 ((↑(List.length L) : Int) - 1) - (↑j : Int))))) [] none = Eff.mk (AV.c (AC.i (↑(List.length L - 1 - j) : Int))) [] none) ∧ (CallOK Try.prog (CallRec.mk 55 [AV.ag (Ins.cs (elt L j)), AV.c (AC.i (↑(List.length L - 1 - j) : Int))] [] (Eff.mk (AV.c (AC.b (inB (elt L j) (↑(List.length L - 1 - j) : Int)))) [] none))) ∧ ((⟨AV.c (AC.i 3), [], none⟩ : Eff) = E))
    (l1 : (!inB (elt L j) (↑(List.length L - 1 - j) : Int)) = false → (decide ((↑j : Int) < (↑(List.length L) : Int))) = true ∧ (decide ((↑j : Int) < (↑(List.length L) : Int))) = true ∧ (Nat.ble (0 + Int.toNat (↑j : Int) * 5 + 5) (List.length (pcell L))) = true ∧ (Eff.mk (AV.ag (List.take 5 (List.drop (0 + Int.toNat (↑j : Int) * 5) (pcell L)))) [] none = Eff.mk (AV.ag (Ins.cs (elt L j))) [] none) ∧ (Eff.mk (AV.c (AC.i (IntKind.wrap IntKind.i64 (IntKind.wrap IntKind.i64 ((↑(List.length L) : Int) - 1) - (↑j : Int))))) [] none = Eff.mk (AV.c (AC.i (↑(List.length L - 1 - j) : Int))) [] none) ∧ (CallOK Try.prog (CallRec.mk 55 [AV.ag (Ins.cs (elt L j)), AV.c (AC.i (↑(List.length L - 1 - j) : Int))] [] (Eff.mk (AV.c (AC.b (inB (elt L j) (↑(List.length L - 1 - j) : Int)))) [] none))) ∧ Kn.Low ⟨[(0, AV.c (AC.sl 0 0 (List.length L) c)), (32, AV.c (AC.sl 0 0 (List.length L) c)), (33, AV.c (AC.i (↑(List.length L) : Int))), (34, AV.c (AC.i (IntKind.wrap IntKind.i64 ((↑j : Int) + 1))))], [(0, Ent.mk false (pcell L) 0)], 1⟩ ∧ ART Try.prog 28 (cx w β n []) Try.f28.ntmps (cutAt Try.f28 1) ⟨[(0, AV.c (AC.sl 0 0 (List.length L) c)), (32, AV.c (AC.sl 0 0 (List.length L) c)), (33, AV.c (AC.i (↑(List.length L) : Int))), (34, AV.c (AC.i (IntKind.wrap IntKind.i64 ((↑j : Int) + 1))))], [(0, Ent.mk false (pcell L) 0)], 1⟩ (REff w β E)) :
    ART Try.prog 28 (cx w β n []) Try.f28.ntmps (cutAt Try.f28 1) (Kn.mk [(0, AV.c (AC.sl 0 0 (List.length L) c)), (32, AV.c (AC.sl 0 0 (List.length L) c)), (33, AV.c (AC.i (↑(List.length L) : Int))), (34, AV.c (AC.i (↑j : Int)))] [(0, Ent.mk false (pcell L) 0)] 1) (REff w β E) :=
  (tf (!inB (elt L j) (↑(List.length L - 1 - j) : Int))).elim (fun h0 => (match l0 h0 with | ⟨o0, o1, o2, c0, c1, c2, e⟩ => art_eq (ckB_w0 (and_yes o0 (and_yes o1 (and_yes o2 (and_yes h0 rfl)))) c0 c1 c2) e)) (fun h0 => (match l1 h0 with | ⟨o0, o1, o2, c0, c1, c2, lo, z⟩ => ckB_w1 (and_yes o0 (and_yes o1 (and_yes o2 (and_yes (not_yes h0) rfl)))) c0 c1 c2 lo (fun _ hk => Nat.lt_of_lt_of_le hk hn) z))
theorem ckBx_w0 {L : List Ins} {c : Nat} {j : Nat} {C : Cx} {R : Ending → World → Prop} (h : (!decide ((↑j : Int) < (↑(List.length L) : Int)) && true) = true) (lo : Kn.Low ⟨[(0, AV.c (AC.sl 0 0 (List.length L) c)), (48, AV.c (AC.sl 0 0 (List.length L) c)), (49, AV.c (AC.i (↑(List.length L) : Int))), (50, AV.c (AC.i 0))], [(0, Ent.mk false (pcell L) 0)], 1⟩) (hF : ∀ k, C.F k → k < 1) (z : ART Try.prog 28 C Try.f28.ntmps (cutAt Try.f28 2) ⟨[(0, AV.c (AC.sl 0 0 (List.length L) c)), (48, AV.c (AC.sl 0 0 (List.length L) c)), (49, AV.c (AC.i (↑(List.length L) : Int))), (50, AV.c (AC.i 0))], [(0, Ent.mk false (pcell L) 0)], 1⟩ R) :
    ART Try.prog 28 C Try.f28.ntmps (cutAt Try.f28 1) (Kn.mk [(0, AV.c (AC.sl 0 0 (List.length L) c)), (32, AV.c (AC.sl 0 0 (List.length L) c)), (33, AV.c (AC.i (↑(List.length L) : Int))), (34, AV.c (AC.i (↑j : Int)))] [(0, Ent.mk false (pcell L) 0)] 1) R :=
  run_cut ⟨[(0, AV.c (AC.sl 0 0 (List.length L) c)), (48, AV.c (AC.sl 0 0 (List.length L) c)), (49, AV.c (AC.i (↑(List.length L) : Int))), (50, AV.c (AC.i 0))], [(0, Ent.mk false (pcell L) 0)], 1⟩ 2000 [] [false] [true] [] Try.func28 (by kernel_rfl) h cr_nil lo hF z
theorem ckC_w0 {L : List Ins} {c : Nat} {j : Nat} {w : World} {β : Bs} {n : Nat} (h : (decide ((↑j : Int) < (↑(List.length L) : Int)) && (decide ((↑j : Int) < (↑(List.length L) : Int)) && (Nat.ble (0 + Int.toNat (↑j : Int) * 5 + 5) (List.length (pcell L)) && (!bareB (elt L j) && true)))) = true) (c0 : Eff.mk (AV.ag (List.take 5 (List.drop (0 + Int.toNat (↑j : Int) * 5) (pcell L)))) [] none = Eff.mk (AV.ag (Ins.cs (elt L j))) [] none) (c1 : CallOK Try.prog (CallRec.mk 56 [AV.ag (Ins.cs (elt L j))] [] (Eff.mk (AV.c (AC.b (bareB (elt L j)))) [] none))) :
    ART Try.prog 28 (cx w β n []) Try.f28.ntmps (cutAt Try.f28 2) (Kn.mk [(0, AV.c (AC.sl 0 0 (List.length L) c)), (48, AV.c (AC.sl 0 0 (List.length L) c)), (49, AV.c (AC.i (↑(List.length L) : Int))), (50, AV.c (AC.i (↑j : Int)))] [(0, Ent.mk false (pcell L) 0)] 1) (REff w β ⟨AV.c (AC.i 1), [], none⟩) :=
  run_eff [] (none) 2000 [Eff.mk (AV.ag (Ins.cs (elt L j))) [] none, Eff.mk (AV.c (AC.b (bareB (elt L j)))) [] none] [true, true] [true] [(17, 1)] Try.func28 (ekeys0 rfl n) (by kernel_rfl) h (cr_same c0 (cr_cons c1 cr_nil))
theorem ckC_w1 {L : List Ins} {c : Nat} {j : Nat} {C : Cx} {R : Ending → World → Prop} (h : (decide ((↑j : Int) < (↑(List.length L) : Int)) && (decide ((↑j : Int) < (↑(List.length L) : Int)) && (Nat.ble (0 + Int.toNat (↑j : Int) * 5 + 5) (List.length (pcell L)) && (!!bareB (elt L j) && true)))) = true) (c0 : Eff.mk (AV.ag (List.take 5 (List.drop (0 + Int.toNat (↑j : Int) * 5) (pcell L)))) [] none = Eff.mk (AV.ag (Ins.cs (elt L j))) [] none) (c1 : CallOK Try.prog (CallRec.mk 56 [AV.ag (Ins.cs (elt L j))] [] (Eff.mk (AV.c (AC.b (bareB (elt L j)))) [] none))) (lo : Kn.Low ⟨[(0, AV.c (AC.sl 0 0 (List.length L) c)), (48, AV.c (AC.sl 0 0 (List.length L) c)), (49, AV.c (AC.i (↑(List.length L) : Int))), (50, AV.c (AC.i (IntKind.wrap IntKind.i64 ((↑j : Int) + 1))))], [(0, Ent.mk false (pcell L) 0)], 1⟩) (hF : ∀ k, C.F k → k < 1) (z : ART Try.prog 28 C Try.f28.ntmps (cutAt Try.f28 2) ⟨[(0, AV.c (AC.sl 0 0 (List.length L) c)), (48, AV.c (AC.sl 0 0 (List.length L) c)), (49, AV.c (AC.i (↑(List.length L) : Int))), (50, AV.c (AC.i (IntKind.wrap IntKind.i64 ((↑j : Int) + 1))))], [(0, Ent.mk false (pcell L) 0)], 1⟩ R) :
    ART Try.prog 28 C Try.f28.ntmps (cutAt Try.f28 2) (Kn.mk [(0, AV.c (AC.sl 0 0 (List.length L) c)), (48, AV.c (AC.sl 0 0 (List.length L) c)), (49, AV.c (AC.i (↑(List.length L) : Int))), (50, AV.c (AC.i (↑j : Int)))] [(0, Ent.mk false (pcell L) 0)] 1) R :=
  run_cut ⟨[(0, AV.c (AC.sl 0 0 (List.length L) c)), (48, AV.c (AC.sl 0 0 (List.length L) c)), (49, AV.c (AC.i (↑(List.length L) : Int))), (50, AV.c (AC.i (IntKind.wrap IntKind.i64 ((↑j : Int) + 1))))], [(0, Ent.mk false (pcell L) 0)], 1⟩ 2000 [Eff.mk (AV.ag (Ins.cs (elt L j))) [] none, Eff.mk (AV.c (AC.b (bareB (elt L j)))) [] none] [true, false] [true] [(17, 1)] Try.func28 (by kernel_rfl) h (cr_same c0 (cr_cons c1 cr_nil)) lo hF z
theorem ckC_all {L : List Ins} {c : Nat} {j : Nat} {w : World} {β : Bs} {n : Nat} {E : Eff} (hn : n ≤ 1)
    (l0 : (!bareB (elt L j)) = true → (decide ((↑j : Int) < (↑(List.length L) : Int))) = true ∧ (decide ((↑j : Int) < (↑(List.length L) : Int))) = true ∧ (Nat.ble (0 + Int.toNat (↑j : Int) * 5 + 5) (List.length (pcell L))) = true ∧ (Eff.mk (AV.ag (List.take 5 (List.drop (0 + Int.toNat (↑j : Int) * 5) (pcell L)))) [] none = Eff.mk (AV.ag (Ins.cs (elt L j))) [] none) ∧ (CallOK Try.prog (CallRec.mk 56 [AV.ag (Ins.cs (elt L j))] [] (Eff.mk (AV.c (AC.b (bareB (elt L j)))) [] none))) ∧ ((⟨AV.c (AC.i 1), [], none⟩ : Eff) = E))
    (l1 : (!bareB (elt L j)) = false → (decide ((↑j : Int) < (↑(List.length L) : Int))) = true ∧ (decide ((↑j : Int) < (↑(List.length L) : Int))) = true ∧ (Nat.ble (0 + Int.toNat (↑j : Int) * 5 + 5) (List.length (pcell L))) = true ∧ (Eff.mk (AV.ag (List.take 5 (List.drop (0 + Int.toNat (↑j : Int) * 5) (pcell L)))) [] none = Eff.mk (AV.ag (Ins.cs (elt L j))) [] none) ∧ (CallOK Try.prog (CallRec.mk 56 [AV.ag (Ins.cs (elt L j))] [] (Eff.mk (AV.c (AC.b (bareB (elt L j)))) [] none))) ∧ Kn.Low ⟨[(0, AV.c (AC.sl 0 0 (List.length L) c)), (48, AV.c (AC.sl 0 0 (List.length L) c)), (49, AV.c (AC.i (↑(List.length L) : Int))), (50, AV.c (AC.i (IntKind.wrap IntKind.i64 ((↑j : Int) + 1))))], [(0, Ent.mk false (pcell L) 0)], 1⟩ ∧ ART Try.prog 28 (cx w β n []) Try.f28.ntmps (cutAt Try.f28 2) ⟨[(0, AV.c (AC.sl 0 0 (List.length L) c)), (48, AV.c (AC.sl 0 0 (List.length L) c)), (49, AV.c (AC.i (↑(List.length L) : Int))), (50, AV.c (AC.i (IntKind.wrap IntKind.i64 ((↑j : Int) + 1))))], [(0, Ent.mk false (pcell L) 0)], 1⟩ (REff w β E)) :
    ART Try.prog 28 (cx w β n []) Try.f28.ntmps (cutAt Try.f28 2) (Kn.mk [(0, AV.c (AC.sl 0 0 (List.length L) c)), (48, AV.c (AC.sl 0 0 (List.length L) c)), (49, AV.c (AC.i (↑(List.length L) : Int))), (50, AV.c (AC.i (↑j : Int)))] [(0, Ent.mk false (pcell L) 0)] 1) (REff w β E) :=
  (tf (!bareB (elt L j))).elim (fun h0 => (match l0 h0 with | ⟨o0, o1, o2, c0, c1, e⟩ => art_eq (ckC_w0 (and_yes o0 (and_yes o1 (and_yes o2 (and_yes h0 rfl)))) c0 c1) e)) (fun h0 => (match l1 h0 with | ⟨o0, o1, o2, c0, c1, lo, z⟩ => ckC_w1 (and_yes o0 (and_yes o1 (and_yes o2 (and_yes (not_yes h0) rfl)))) c0 c1 lo (fun _ hk => Nat.lt_of_lt_of_le hk hn) z))
theorem ckCx_w0 {L : List Ins} {c : Nat} {j : Nat} {w : World} {β : Bs} {n : Nat} (h : (!decide ((↑j : Int) < (↑(List.length L) : Int)) && (decide (0 ≤ IntKind.wrap IntKind.i64 ((↑(List.length L) : Int) - 1)) && decide (IntKind.wrap IntKind.i64 ((↑(List.length L) : Int) - 1) < (↑(List.length L) : Int)) && (AC.isI (Option.getD (pcell L)[0 + Int.toNat (IntKind.wrap IntKind.i64 ((↑(List.length L) : Int) - 1)) * 5 + 0]? (AC.b false)) && Nat.blt (0 + Int.toNat (IntKind.wrap IntKind.i64 ((↑(List.length L) : Int) - 1)) * 5 + 0) (List.length (pcell L)) && (lastOp L != 15 && true)))) = true) (c0 : Eff.mk (AV.c (AC.i (AC.asI (Option.getD (pcell L)[0 + Int.toNat (IntKind.wrap IntKind.i64 ((↑(List.length L) : Int) - 1)) * 5 + 0]? (AC.b false))))) [] none = Eff.mk (AV.c (AC.i (lastOp L))) [] none) :
    ART Try.prog 28 (cx w β n []) Try.f28.ntmps (cutAt Try.f28 2) (Kn.mk [(0, AV.c (AC.sl 0 0 (List.length L) c)), (48, AV.c (AC.sl 0 0 (List.length L) c)), (49, AV.c (AC.i (↑(List.length L) : Int))), (50, AV.c (AC.i (↑j : Int)))] [(0, Ent.mk false (pcell L) 0)] 1) (REff w β ⟨AV.c (AC.i 1), [], none⟩) :=
  run_eff [] (none) 2000 [Eff.mk (AV.c (AC.i (lastOp L))) [] none] [false, true] [true] [(21, 6)] Try.func28 (ekeys0 rfl n) (by kernel_rfl) h (cr_same c0 cr_nil)
theorem ckCx_w1 {L : List Ins} {c : Nat} {j : Nat} {w : World} {β : Bs} {n : Nat} (h : (!decide ((↑j : Int) < (↑(List.length L) : Int)) && (decide (0 ≤ IntKind.wrap IntKind.i64 ((↑(List.length L) : Int) - 1)) && decide (IntKind.wrap IntKind.i64 ((↑(List.length L) : Int) - 1) < (↑(List.length L) : Int)) && (AC.isI (Option.getD (pcell L)[0 + Int.toNat (IntKind.wrap IntKind.i64 ((↑(List.length L) : Int) - 1)) * 5 + 0]? (AC.b false)) && Nat.blt (0 + Int.toNat (IntKind.wrap IntKind.i64 ((↑(List.length L) : Int) - 1)) * 5 + 0) (List.length (pcell L)) && (!lastOp L != 15 && true)))) = true) (c0 : Eff.mk (AV.c (AC.i (AC.asI (Option.getD (pcell L)[0 + Int.toNat (IntKind.wrap IntKind.i64 ((↑(List.length L) : Int) - 1)) * 5 + 0]? (AC.b false))))) [] none = Eff.mk (AV.c (AC.i (lastOp L))) [] none) :
    ART Try.prog 28 (cx w β n []) Try.f28.ntmps (cutAt Try.f28 2) (Kn.mk [(0, AV.c (AC.sl 0 0 (List.length L) c)), (48, AV.c (AC.sl 0 0 (List.length L) c)), (49, AV.c (AC.i (↑(List.length L) : Int))), (50, AV.c (AC.i (↑j : Int)))] [(0, Ent.mk false (pcell L) 0)] 1) (REff w β ⟨AV.c (AC.i 0), [], none⟩) :=
  run_eff [] (none) 2000 [Eff.mk (AV.c (AC.i (lastOp L))) [] none] [false, false] [true] [(21, 6)] Try.func28 (ekeys0 rfl n) (by kernel_rfl) h (cr_same c0 cr_nil)
theorem ckCx_all {L : List Ins} {c : Nat} {j : Nat} {w : World} {β : Bs} {n : Nat} {E : Eff}
    (l0 : (lastOp L != 15) = true → (!decide ((↑j : Int) < (↑(List.length L) : Int))) = true ∧ (decide (0 ≤ IntKind.wrap IntKind.i64 ((↑(List.length L) : Int) - 1)) && decide (IntKind.wrap IntKind.i64 ((↑(List.length L) : Int) - 1) < (↑(List.length L) : Int))) = true ∧ (AC.isI (Option.getD (pcell L)[0 + Int.toNat (IntKind.wrap IntKind.i64 ((↑(List.length L) : Int) - 1)) * 5 + 0]? (AC.b false)) && Nat.blt (0 + Int.toNat (IntKind.wrap IntKind.i64 ((↑(List.length L) : Int) - 1)) * 5 + 0) (List.length (pcell L))) = true ∧ (Eff.mk (AV.c (AC.i (AC.asI (Option.getD (pcell L)[0 + Int.toNat (IntKind.wrap IntKind.i64 ((↑(List.length L) : Int) - 1)) * 5 + 0]? (AC.b false))))) [] none = Eff.mk (AV.c (AC.i (lastOp L))) [] none) ∧ ((⟨AV.c (AC.i 1), [], none⟩ : Eff) = E))
    (l1 : (lastOp L != 15) = false → (!decide ((↑j : Int) < (↑(List.length L) : Int))) = true ∧ (decide (0 ≤ IntKind.wrap IntKind.i64 ((↑(List.length L) : Int) - 1)) && decide (IntKind.wrap IntKind.i64 ((↑(List.length L) : Int) - 1) < (↑(List.length L) : Int))) = true ∧ (AC.isI (Option.getD (pcell L)[0 + Int.toNat (IntKind.wrap IntKind.i64 ((↑(List.length L) : Int) - 1)) * 5 + 0]? (AC.b false)) && Nat.blt (0 + Int.toNat (IntKind.wrap IntKind.i64 ((↑(List.length L) : Int) - 1)) * 5 + 0) (List.length (pcell L))) = true ∧ (Eff.mk (AV.c (AC.i (AC.asI (Option.getD (pcell L)[0 + Int.toNat (IntKind.wrap IntKind.i64 ((↑(List.length L) : Int) - 1)) * 5 + 0]? (AC.b false))))) [] none = Eff.mk (AV.c (AC.i (lastOp L))) [] none) ∧ ((⟨AV.c (AC.i 0), [], none⟩ : Eff) = E)) :
    ART Try.prog 28 (cx w β n []) Try.f28.ntmps (cutAt Try.f28 2) (Kn.mk [(0, AV.c (AC.sl 0 0 (List.length L) c)), (48, AV.c (AC.sl 0 0 (List.length L) c)), (49, AV.c (AC.i (↑(List.length L) : Int))), (50, AV.c (AC.i (↑j : Int)))] [(0, Ent.mk false (pcell L) 0)] 1) (REff w β E) :=
  (tf (lastOp L != 15)).elim (fun h0 => (match l0 h0 with | ⟨o0, o1, o2, c0, e⟩ => art_eq (ckCx_w0 (and_yes o0 (and_yes o1 (and_yes o2 (and_yes h0 rfl)))) c0) e)) (fun h0 => (match l1 h0 with | ⟨o0, o1, o2, c0, e⟩ => art_eq (ckCx_w1 (and_yes o0 (and_yes o1 (and_yes o2 (and_yes (not_yes h0) rfl)))) c0) e))
theorem ckNil_w0 :
    CallOK Try.prog ⟨28, [AV.c nilSl], [], ⟨AV.c (AC.i 2), [], none⟩⟩ :=
  val_run 2000 [] [true, true] [] [] Try.func28 rfl rfl rfl rfl (by kernel_rfl) rfl cr_nil
end Go.Proofs.Ytkigmocchaikgab

/- The contract of code.Check. -/
namespace Go.Proofs.Ytkigmocchaikgab
open Go.RowKit

section
variable {L : List Ins} {c : Nat} {w : World} {β : Bs} {E : Eff}
abbrev ckKn (L : List Ins) (c a b d : Nat) (j : Int) : Kn := ⟨[(0, .c (.sl 0 0 L.length c)), (a, .c (.sl 0 0 L.length c)), (b, .c (.i L.length)), (d, .c (.i j))], pH L, 1⟩
theorem ckA_loop (hL : L.length ≤ 64) : ∀ n j : Nat, j + n = L.length → ((L.drop j).all kindB = false → ⟨.c (.i 4), [], none⟩ = E) →
    ((L.drop j).all kindB = true → ART Try.prog 28 (cx w β 1 []) Try.f28.ntmps (cutAt Try.f28 1) (ckKn L c 32 33 34 0) (REff w β E)) →
    ART Try.prog 28 (cx w β 1 []) Try.f28.ntmps (cutAt Try.f28 0) (ckKn L c 17 18 19 j) (REff w β E)
  | 0, j, h, hy, hz => by
    refine ckAx_w0 (by rw [jn (by omega)]; rfl) (low_p rfl) (fun _ h => h) (hz ?_)
    rw [List.drop_eq_nil_of_le (by omega)]; rfl
  | n + 1, j, h, hy, hz => by
    have hj : j < L.length := by omega
    rw [drop_elt hj, List.all_cons] at hy hz
    refine ckA_all (by omega) (fun a => ⟨jl hj, jl hj, pble hj, elt_eff hj, hy ?_⟩) (fun a b => ⟨jl hj, jl hj, pble hj, elt_eff hj, hy ?_⟩) (fun a b => ⟨jl hj, jl hj, pble hj, elt_eff hj, low_p rfl, ?_⟩)
    · have : kindB (elt L j) = false := by simp at a; simp [kindB]; omega
      rw [this]; rfl
    · have : kindB (elt L j) = false := by simp at b; simp [kindB]; omega
      rw [this]; rfl
    · have : kindB (elt L j) = true := by simp at a b; simp [kindB]; omega
      rw [this] at hy hz
      rw [wrapS (by omega)]
      exact ckA_loop hL n (j + 1) (by omega) (fun h => hy h) (fun h => hz h)
theorem ckB_loop (hL : L.length ≤ 64) : ∀ n j : Nat, j + n = L.length → (inAll (L.drop j) = false → ⟨.c (.i 3), [], none⟩ = E) →
    (inAll (L.drop j) = true → ART Try.prog 28 (cx w β 1 []) Try.f28.ntmps (cutAt Try.f28 2) (ckKn L c 48 49 50 0) (REff w β E)) →
    ART Try.prog 28 (cx w β 1 []) Try.f28.ntmps (cutAt Try.f28 1) (ckKn L c 32 33 34 j) (REff w β E)
  | 0, j, h, hy, hz => by
    refine ckBx_w0 (by rw [jn (by omega)]; rfl) (low_p rfl) (fun _ h => h) (hz ?_)
    rw [List.drop_eq_nil_of_le (by omega)]; rfl
  | n + 1, j, h, hy, hz => by
    have hj : j < L.length := by omega
    have el : ((L.drop (j + 1)).length : Int) = ((L.length - 1 - j : Nat) : Int) := by rw [List.length_drop]; omega
    rw [drop_elt hj, inAll, el] at hy hz
    have ew : IntKind.wrap IntKind.i64 (IntKind.wrap IntKind.i64 ((L.length : Int) - 1) - (j : Int)) = ((L.length - 1 - j : Nat) : Int) := by
      rw [wrapN (n := (L.length : Int) - 1) (by omega) (by omega), wrapN (by omega) (by omega)]; omega
    have c1 : Eff.mk (AV.c (AC.i (IntKind.wrap IntKind.i64 (IntKind.wrap IntKind.i64 ((L.length : Int) - 1) - (j : Int))))) [] none = Eff.mk (AV.c (AC.i ((L.length - 1 - j : Nat) : Int))) [] none := by rw [ew]
    refine ckB_all (by omega) (fun a => ⟨jl hj, jl hj, pble hj, elt_eff hj, c1, inBounds_ok _ _, hy ?_⟩) (fun a => ⟨jl hj, jl hj, pble hj, elt_eff hj, c1, inBounds_ok _ _, low_p rfl, ?_⟩)
    · have : inB (elt L j) ((L.length - 1 - j : Nat) : Int) = false := by simpa using a
      rw [this]; rfl
    · have : inB (elt L j) ((L.length - 1 - j : Nat) : Int) = true := by simpa using a
      rw [this] at hy hz
      rw [wrapS (by omega)]
      exact ckB_loop hL n (j + 1) (by omega) (fun h => hy h) (fun h => hz h)
theorem lastOp_eff (h0 : 0 < L.length) (hL : L.length ≤ 64) : (pcell L)[0 + Int.toNat (IntKind.wrap IntKind.i64 ((L.length : Int) - 1)) * 5 + 0]? = some (.i (lastOp L)) := by
  rw [wrapN (by omega) (by omega), show (0 + ((L.length : Int) - 1).toNat * 5 + 0) = (L.length - 1) * 5 by omega]
  have h1 := pcell_op (L := L) (k := L.length - 1) (by omega) (.b false)
  have h2 : (L.length - 1) * 5 < (pcell L).length := by rw [pcell_length]; omega
  rw [List.getD_eq_getElem?_getD, List.getElem?_eq_getElem h2] at h1
  rw [List.getElem?_eq_getElem h2]
  refine congrArg some (h1.trans ?_)
  unfold lastOp elt
  rw [List.getLast?_eq_getElem?, List.getD_eq_getElem?_getD, List.getElem?_eq_getElem (by omega)]
  rfl
theorem ckC_loop (h0 : 0 < L.length) (hL : L.length ≤ 64) : ∀ n j : Nat, j + n = L.length → ((L.drop j).all bareB = false → ⟨.c (.i 1), [], none⟩ = E) →
    ((L.drop j).all bareB = true → ⟨.c (.i (if lastOp L ≠ 15 then 1 else 0)), [], none⟩ = E) →
    ART Try.prog 28 (cx w β 1 []) Try.f28.ntmps (cutAt Try.f28 2) (ckKn L c 48 49 50 j) (REff w β E)
  | 0, j, h, hy, hz => by
    have hz := hz (by rw [List.drop_eq_nil_of_le (by omega)]; rfl)
    have o0 : (!decide ((j : Int) < (L.length : Int))) = true := by rw [jn (by omega)]; rfl
    have o1 : (decide (0 ≤ IntKind.wrap IntKind.i64 ((L.length : Int) - 1)) && decide (IntKind.wrap IntKind.i64 ((L.length : Int) - 1) < (L.length : Int))) = true := by
      rw [wrapN (by omega) (by omega)]; simp; omega
    have o2 : (AC.isI (Option.getD (pcell L)[0 + Int.toNat (IntKind.wrap IntKind.i64 ((L.length : Int) - 1)) * 5 + 0]? (AC.b false)) && Nat.blt (0 + Int.toNat (IntKind.wrap IntKind.i64 ((L.length : Int) - 1)) * 5 + 0) (pcell L).length) = true := by
      rw [lastOp_eff h0 hL, wrapN (by omega) (by omega), pcell_length]; simp [AC.isI]; omega
    have c0 : Eff.mk (AV.c (AC.i (AC.asI (Option.getD (pcell L)[0 + Int.toNat (IntKind.wrap IntKind.i64 ((L.length : Int) - 1)) * 5 + 0]? (AC.b false))))) [] none = Eff.mk (AV.c (AC.i (lastOp L))) [] none := by rw [lastOp_eff h0 hL]; rfl
    refine ckCx_all (fun a => ⟨o0, o1, o2, c0, ?_⟩) (fun a => ⟨o0, o1, o2, c0, ?_⟩)
    · rw [← hz, if_pos (by simpa using a)]
    · rw [← hz, if_neg (by simpa using a)]
  | n + 1, j, h, hy, hz => by
    have hj : j < L.length := by omega
    rw [drop_elt hj, List.all_cons] at hy hz
    refine ckC_all (by omega) (fun a => ⟨jl hj, jl hj, pble hj, elt_eff hj, bare_ok _, hy ?_⟩) (fun a => ⟨jl hj, jl hj, pble hj, elt_eff hj, bare_ok _, low_p rfl, ?_⟩)
    · have : bareB (elt L j) = false := by simpa using a
      rw [this]; rfl
    · have : bareB (elt L j) = true := by simpa using a
      rw [this] at hy hz
      rw [wrapS (by omega)]
      exact ckC_loop h0 hL n (j + 1) (by omega) (fun h => hy h) (fun h => hz h)
end
theorem check_ok (L : List Ins) (c : Nat) : CallOK Try.prog ⟨28, [.c (.sl 0 0 L.length c)], pH L, ⟨.c (.i (codeErr L)), [], none⟩⟩ := by
  refine read_of Try.func28 rfl rfl (begin_p rfl) rfl ro_p fun w β => ?_
  refine ckTop_all (Nat.le_refl 1) (fun a => ?_) (fun a b => ?_) (fun a b => ⟨low_p rfl, ?_⟩)
  · unfold codeErr
    rw [if_pos (Or.inl (by simpa using a))]
  · unfold codeErr
    rw [if_pos (Or.inr (by simp at b; omega))]
  · have h0 : 0 < L.length := by
      have : ¬ ((L.length : Int) = 0) := by simpa using a
      omega
    have h1 : L.length ≤ 64 := by simp at b; omega
    unfold codeErr
    rw [if_neg (by omega)]
    refine ckA_loop h1 L.length 0 (by omega) (fun h => ?_) (fun h => ?_)
    · rw [if_pos (by simpa using h)]
    · rw [if_neg (by simpa using h)]
      refine ckB_loop h1 L.length 0 (by omega) (fun h => ?_) (fun h => ?_)
      · rw [if_pos (by simpa using h)]
      · rw [if_neg (by simpa using h)]
        refine ckC_loop h0 h1 L.length 0 (by omega) (fun h => ?_) (fun h => ?_)
        · rw [if_pos (by simpa using h)]
        · have e : ¬ (L.all bareB = false) := by simpa using h
          rw [if_neg e]
theorem check_nil : Ok 28 [.c nilSl] (.c (.i (codeErr []))) := ckNil_w0
end Go.Proofs.Ytkigmocchaikgab

/- The contracts of run.Check, run.Start, run.Step and run.Run. -/
namespace Go.Proofs.Ytkigmocchaikgab
open Go.RowKit

abbrev mcKn (m : Mach) (u : V6 Bool) (j : Int) : Kn := ⟨[(1, .c (.w 0)), (30, .ag (bcs u)), (31, .c (.i j))], [(0, ⟨true, m.cs, 0⟩)], 1⟩
theorem mcLoop {m : Mach} {u : V6 Bool} {w : World} {β : Bs} {E : Eff} : ∀ n, n ≤ 6 → (anyFrom (fun j => !u.get j && !eqb (m.r.get j) 0#64) n = true → ⟨.c (.i 1), [], none⟩ = E) →
    (anyFrom (fun j => !u.get j && !eqb (m.r.get j) 0#64) n = false → ⟨.c (.i 0), [], none⟩ = E) →
    ART Try.prog 33 (cx w β 0 []) Try.f33.ntmps (cutAt Try.f33 0) (mcKn m u (6 - n : Nat)) (REff w β E)
  | 0, _, _, hz => art_eq mcEnd_w0 (hz rfl)
  | n + 1, hn, hy, hz => by
    have hj : regB ((6 - (n + 1) : Nat) : Int) = true := by rw [regB_iff]; omega
    have ej : ((6 - (n + 1) : Nat) : Int).toNat = 5 - n := by omega
    have e1 : IntKind.wrap IntKind.i64 (((6 - (n + 1) : Nat) : Int) + 1) = ((6 - n : Nat) : Int) := by rw [wrapN (by omega) (by omega)]; omega
    have h1 := regB_iff.1 hj
    have o0 : decide (((6 - (n + 1) : Nat) : Int) < 6) = true := decide_eq_true h1.2
    have o2 : (decide (0 ≤ ((6 - (n + 1) : Nat) : Int)) && decide (((6 - (n + 1) : Nat) : Int) < 6)) = true := hj
    have o1 : (AC.isB (Option.getD (bcs u)[((6 - (n + 1) : Nat) : Int).toNat * 1]? (AC.b false)) && Nat.blt (((6 - (n + 1) : Nat) : Int).toNat * 1) (bcs u).length && (decide (0 ≤ ((6 - (n + 1) : Nat) : Int)) && decide (((6 - (n + 1) : Nat) : Int) < 6))) = true := by
      rw [bcs_get hj, o2, bcs_len]; simp [AC.isB]; omega
    have o3 : (AC.isU (Option.getD m.cs[1 + ((6 - (n + 1) : Nat) : Int).toNat * 1]? (AC.b false)) && Nat.blt (1 + ((6 - (n + 1) : Nat) : Int).toNat * 1) m.cs.length) = true := by
      rw [mach_get_r hj, mach_len]; simp [AC.isU]; omega
    have c0 : Eff.mk (AV.c (AC.b (AC.asB (Option.getD (bcs u)[((6 - (n + 1) : Nat) : Int).toNat * 1]? (AC.b false))))) [] none = Eff.mk (AV.c (AC.b (u.get ((6 - (n + 1) : Nat) : Int).toNat))) [] none := by rw [bcs_get hj]; rfl
    have c1 : Eff.mk (AV.c (AC.u (AC.asU (Option.getD m.cs[1 + ((6 - (n + 1) : Nat) : Int).toNat * 1]? (AC.b false))))) [] none = Eff.mk (AV.c (AC.u (m.r.get ((6 - (n + 1) : Nat) : Int).toNat))) [] none := by rw [mach_get_r hj]; rfl
    have next : (!u.get (5 - n) && !eqb (m.r.get (5 - n)) 0#64) = false → ART Try.prog 33 (cx w β 0 []) Try.f33.ntmps (cutAt Try.f33 0) (mcKn m u (IntKind.wrap IntKind.i64 (((6 - (n + 1) : Nat) : Int) + 1))) (REff w β E) := by
      intro hb
      rw [e1]
      refine mcLoop n (by omega) (fun h => hy ?_) (fun h => hz ?_)
      · rw [anyFrom, hb, h]; rfl
      · rw [anyFrom, hb, h]; rfl
    refine mcRound_all (by omega) (fun a b => ?_) (fun a b => ?_) (fun a => ?_)
    · refine ⟨o0, o1, o2, o3, c0, c1, hy ?_⟩
      rw [ej] at a b
      rw [anyFrom, a, b]; rfl
    · refine ⟨o0, o1, o2, o3, c0, c1, low_of rfl, next ?_⟩
      rw [ej] at a b
      rw [a, b]; rfl
    · refine ⟨o0, o1, c0, low_of rfl, next ?_⟩
      rw [ej] at a
      rw [a]; rfl
theorem machCheck_ok (m : Mach) : Ok 33 [.ag m.cs] (.c (.i (machErr m))) := by
  refine val_of Try.func33 rfl rfl rfl rfl fun w β => ?_
  have bad : headB m = false → Eff.mk (AV.c (AC.i 1)) [] none = Eff.mk (AV.c (AC.i (machErr m))) [] none := fun h => by unfold machErr; rw [h]; rfl
  refine mcTop_all (Nat.zero_le 1) (fun a => bad ?_) (fun a b => bad ?_) (fun a b c => bad ?_) (fun a b c d => bad ?_) (fun a b c d e => bad ?_) (fun a b c d e => ⟨low_of rfl, ?_⟩)
  · simp at a; simp [headB]; omega
  · simp at b; simp [headB]; omega
  · simp at c; simp [headB]; omega
  · simp at d; simp [headB]; omega
  · simp at e; simp [headB]; omega
  · have hh : headB m = true := by simp at a b c d e; simp [headB]; omega
    refine mcLoop 6 (Nat.le_refl 6) (fun h => ?_) (fun h => ?_)
    · unfold machErr; rw [hh, zero_from, h]; rfl
    · unfold machErr; rw [hh, zero_from, h]; rfl
def startErr (mem : ByteArray) : Int := if mem.size ≠ 64 then 1 else 0
def startRes (mem : ByteArray) (x : BitVec 64) : Mach := if mem.size ≠ 64 then Mach.z else startM mem x
theorem start_ok (mem : ByteArray) (x : BitVec 64) : Ok 11 [.c (.s mem), .c (.u x)] (.tu [.ag (startRes mem x).cs, .c (.i (startErr mem))]) := by
  unfold startErr startRes
  refine start_all (fun a => ?_) (fun a => ⟨with_ok (m := ⟨0, V6.rep 0#64, no6, mem, 0⟩) (r := 1) x rfl, ?_⟩)
  · have h : mem.size ≠ 64 := by simp at a; omega
    rw [if_pos h, if_pos h]; rfl
  · have h : ¬ mem.size ≠ 64 := by simp at a; omega
    rw [if_neg h, if_neg h]; rfl
theorem right_at {L : List Ins} {t : Int} (h : RightP L) (h0 : 0 ≤ t) (h1 : t < L.length) : Right (insAt L t) ((L.length - 1 - t.toNat : Nat) : Int) := h.step t.toNat (by omega)
theorem insAt_eff {L : List Ins} {t : Int} (h0 : 0 ≤ t) (h1 : t < L.length) : Eff.mk (AV.ag (List.take 5 (List.drop (0 + Int.toNat t * 5) (pcell L)))) [] none = Eff.mk (AV.ag (insAt L t).cs) [] none := by
  rw [Nat.zero_add, pcell_elt (by omega)]; rfl
theorem pble_at {L : List Ins} {t : Int} (h0 : 0 ≤ t) (h1 : t < L.length) : Nat.ble (0 + Int.toNat t * 5 + 5) (pcell L).length = true := by
  rw [pcell_length, Nat.ble_eq]; omega
theorem machErr_zero {m : Mach} (h : machErr m = 0) : m.mem.size = 64 ∧ (0 ≤ m.fin ∧ m.fin ≤ 3) ∧ (0 ≤ m.t ∧ m.t < 64) := by
  unfold machErr at h
  have : headB m = true := by
    cases hh : headB m with
    | true => rfl
    | false => rw [hh] at h; simp at h
  simpa [headB, and_assoc] using this
theorem step_ok (L : List Ins) (c : Nat) (m : Mach) : CallOK Try.prog ⟨12, [.c (.sl 0 0 L.length c), .ag m.cs], pH L, ⟨.tu [.ag (stepRes L m).cs, .c (.i (stepErr L m))], [], none⟩⟩ := by
  refine read_of Try.func12 rfl rfl (begin_p rfl) rfl ro_p fun w β => ?_
  have bad : ∀ e, stepErr L m = e → e ≠ 0 → Eff.mk (AV.tu [.ag Mach.z.cs, .c (.i e)]) [] none = Eff.mk (AV.tu [.ag (stepRes L m).cs, .c (.i (stepErr L m))]) [] none := fun e h1 h2 => by
    unfold stepRes; rw [h1, if_pos h2]
  refine step_all (fun a => ⟨check_ok L c, bad _ ?_ ?_⟩) (fun a b => ⟨check_ok L c, machCheck_ok m, bad _ ?_ ?_⟩) (fun a b d => ⟨check_ok L c, machCheck_ok m, bad _ ?_ (by decide)⟩) (fun a b d e => ⟨check_ok L c, machCheck_ok m, ?_⟩) (fun a b d e => ?_)
  · have a : codeErr L ≠ 0 := by simpa using a
    unfold stepErr; rw [if_pos a]
  · simpa using a
  · have a : ¬ codeErr L ≠ 0 := by simpa using a
    have b : machErr m ≠ 0 := by simpa using b
    unfold stepErr; rw [if_neg a, if_pos b]
  · simpa using b
  · have a : ¬ codeErr L ≠ 0 := by simpa using a
    have b : ¬ machErr m ≠ 0 := by simpa using b
    have d : (L.length : Int) ≤ m.t := by simpa using d
    unfold stepErr; rw [if_neg a, if_neg b, if_pos d]
  all_goals
    have a : ¬ codeErr L ≠ 0 := by simpa using a
    have b : ¬ machErr m ≠ 0 := by simpa using b
    have d : ¬ (L.length : Int) ≤ m.t := by simpa using d
    have hs : stepErr L m = 0 := by unfold stepErr; rw [if_neg a, if_neg b, if_neg d]
    unfold stepRes
    rw [hs]
  · have e : m.fin ≠ 0 := by simpa using e
    rw [if_neg (by decide), if_pos e]
  · have e : ¬ m.fin ≠ 0 := by simpa using e
    have hm := machErr_zero (Decidable.not_not.1 b)
    have hP := codeErr_zero (Decidable.not_not.1 a)
    have hr := right_at hP hm.2.2.1 (by omega)
    refine ⟨?_, pble_at hm.2.2.1 (by omega), check_ok L c, machCheck_ok m, insAt_eff hm.2.2.1 (by omega), do_ok hr (by have := hP.le; omega) hm.1 (by omega), ?_⟩
    · simp; omega
    · rw [if_neg (by decide), if_neg e]
theorem step_nil (m : Mach) : Ok 12 [.c nilSl, .ag m.cs] (.tu [.ag (stepRes [] m).cs, .c (.i (stepErr [] m))]) := stepNil_w0 check_nil
abbrev runKn (L : List Ins) (c : Nat) (m : Mach) (q : Int) : Kn := ⟨[(0, .c (.sl 0 0 L.length c)), (6, .c (.w 1)), (9, .c (.w 14)), (11, .c (.i q))], [(0, ⟨false, pcell L, 0⟩), (1, ⟨true, Outc.z.cs, 0⟩), (14, ⟨true, m.cs, 0⟩)], 15⟩
theorem run_low (L : List Ins) (c : Nat) (m : Mach) (q : Int) : Kn.Low (runKn L c m q) := low_n rfl rfl ⟨pcell_ks L, rfl, rfl, trivial⟩
/- where a run is -/
structure Goes (L : List Ins) (k : Nat) (m : Mach) : Prop where
  mem : m.mem.size = 64
  pos : 0 ≤ m.t
  lt : m.t < L.length
  left : L.length ≤ m.t + k
theorem goes_step {L : List Ins} {k : Nat} {m : Mach} (hP : RightP L) (h : Goes L (k + 1) m) (hf : m.fin = 0) : (stepM (insAt L m.t) m).fin = 0 → Goes L k (stepM (insAt L m.t) m) := by
  intro h0
  have hr := right_at hP h.pos h.lt
  have hp := hP.pos
  have h1 := h.pos
  have h2 := h.lt
  have h3 := h.left
  have hl : (insAt L m.t).op = 15 ∨ (0 : Int) < ((L.length - 1 - m.t.toNat : Nat) : Int) := by
    by_cases c : m.t.toNat = L.length - 1
    · left
      have := hP.last
      unfold insAt
      rw [c]; exact this
    · right; omega
  rcases stepM_at hr hl hf with h4 | ⟨_, h5, h6⟩
  · exact absurd h0 h4
  · exact ⟨stepM_mem hr h.mem, by omega, by omega, by omega⟩
theorem out3 {m : Mach} {q : Nat} (h : m.fin = 3) : outOf (m, q) = ⟨m.fin, m.t, q, m.r.x0, m.mem⟩ := by unfold outOf; rw [if_pos h]
theorem out_n {m : Mach} {q : Nat} (h : ¬ m.fin = 3) : outOf (m, q) = ⟨m.fin, m.t, q, 0#64, m.mem⟩ := by unfold outOf; rw [if_neg h]
theorem runM_end {L : List Ins} {m : Mach} (h : ¬ m.fin = 0) : ∀ (k q : Nat), runM L k m q = (m, q)
  | 0, _ => rfl
  | k + 1, q => by rw [runM, if_neg h]
theorem runM_go {L : List Ins} {m : Mach} (h : m.fin = 0) (k q : Nat) : runM L (k + 1) m q = runM L k (stepM (insAt L m.t) m) (q + 1) := by rw [runM, if_pos h]
theorem runLoop {L : List Ins} {c : Nat} (hP : RightP L) {w : World} {β : Bs} : ∀ (k : Nat) (m : Mach) (q : Nat), (m.fin = 0 → Goes L k m) → q + k ≤ 64 →
    ART Try.prog 9 (cx w β 1 []) Try.f9.ntmps (cutAt Try.f9 0) (runKn L c m q) (REff w β ⟨.tu [.ag (outOf (runM L k m q)).cs, .c (.i 0)], [], none⟩) := by
  intro k
  induction k with
  | zero =>
    intro m q hg _
    have hf : ¬ m.fin = 0 := fun h => by have := hg h; have h1 := this.lt; have h2 := this.left; omega
    refine runEnd_all (fun a => ⟨by simpa using hf, ?_⟩) (fun a => ⟨by simpa using hf, ?_⟩)
    · have a : m.fin = 3 := by simpa using a
      rw [runM_end hf, out3 a]; rfl
    · have a : ¬ m.fin = 3 := by simpa using a
      rw [runM_end hf, out_n a]; rfl
  | succ k ih =>
    intro m q hg hq
    by_cases hf : m.fin = 0
    · have g := hg hf
      have h1 := g.pos
      have h2 := g.lt
      have hr := right_at hP g.pos g.lt
      have hle := hP.le
      refine runRound_w0 ?_ (insAt_eff g.pos g.lt) (do_ok hr (by omega) g.mem (by omega)) (run_low _ _ _ _) (fun _ h => Nat.lt_of_lt_of_le h (by decide)) ?_
      · rw [pble_at g.pos g.lt]; simp [hf]; omega
      · have e : IntKind.wrap IntKind.i64 ((q : Int) + 1) = ((q + 1 : Nat) : Int) := by rw [wrapN (by omega) (by omega)]; omega
        have := ih (stepM (insAt L m.t) m) (q + 1) (goes_step hP g hf) (by omega)
        rw [e, runM_go hf]
        exact this
    · refine runEnd_all (fun a => ⟨by simpa using hf, ?_⟩) (fun a => ⟨by simpa using hf, ?_⟩)
      · have a : m.fin = 3 := by simpa using a
        rw [runM_end hf, out3 a]; rfl
      · have a : ¬ m.fin = 3 := by simpa using a
        rw [runM_end hf, out_n a]; rfl
theorem goes_start {L : List Ins} {mem : ByteArray} {x : BitVec 64} (hP : RightP L) (hm : mem.size = 64) : Goes L L.length (startM mem x) := ⟨hm, by show (0 : Int) ≤ 0; decide, by have := hP.pos; show (0 : Int) < _; omega, by show _ ≤ (0 : Int) + _; omega⟩
theorem run_ok (L : List Ins) (c : Nat) (mem : ByteArray) (x : BitVec 64) : CallOK Try.prog ⟨9, [.c (.sl 0 0 L.length c), .c (.s mem), .c (.u x)], pH L, ⟨.tu [.ag (runRes L mem x).cs, .c (.i (runErr L mem))], [], none⟩⟩ := by
  refine read_of Try.func9 rfl rfl (begin_p rfl) rfl ro_p fun w β => ?_
  have hst := start_ok mem x
  refine runTop_all (m := startRes mem x) (e := startErr mem) (by decide) (fun a => ⟨check_ok L c, ?_⟩) (fun a b => ⟨check_ok L c, hst, ?_⟩) (fun a b => ⟨check_ok L c, hst, run_low _ _ _ _, ?_⟩)
  · have a : codeErr L ≠ 0 := by simpa using a
    unfold runRes runErr
    rw [if_pos a, if_pos a]; rfl
  · have a : ¬ codeErr L ≠ 0 := by simpa using a
    have b : mem.size ≠ 64 := by
      intro h
      unfold startErr at b
      rw [if_neg (by simpa using h)] at b
      exact absurd b (by decide)
    unfold runRes runErr startErr
    rw [if_neg a, if_pos b, if_pos (by decide)]; rfl
  · have a : ¬ codeErr L ≠ 0 := by simpa using a
    have b : ¬ mem.size ≠ 64 := by
      intro h
      unfold startErr at b
      rw [if_pos h] at b
      exact absurd b (by decide)
    have hP := codeErr_zero (Decidable.not_not.1 a)
    have hE : runErr L mem = 0 := by unfold runErr; rw [if_neg a, if_neg b]
    unfold runRes startRes
    rw [hE, if_neg b, if_neg (by decide)]
    exact runLoop hP L.length _ 0 (fun _ => goes_start hP (Decidable.not_not.1 b)) (by have := hP.le; omega)
theorem run_nil (mem : ByteArray) (x : BitVec 64) : Ok 9 [.c nilSl, .c (.s mem), .c (.u x)] (.tu [.ag (runRes [] mem x).cs, .c (.i (runErr [] mem))]) := runNil_w0 check_nil
end Go.Proofs.Ytkigmocchaikgab

/- What a value has, and what is left of two: plain facts. -/
namespace Go.Proofs.Ytkigmocchaikgab

theorem V4.ok_rt {a : V4} (h : a.ok = true) : RtB a.v a.m := (val_facts h).1
theorem V4.has_ok {a : V4} {x : BitVec 64} (h : a.has x = true) : a.ok = true := (has_facts h).1
theorem V4.nrm_ok {a : V4} (hr : RtB a.v a.m) (h : a.nok = true) : a.nrm.ok = true := norm_right hr h
theorem V4.nrm_has {a : V4} {x : BitVec 64} (hr : RtB a.v a.m) (hx : rawV a.v a.m a.l a.h x = true) : a.nok = true ∧ a.nrm.has x = true := raw_norm hr hx
theorem V4.has_iff {a : V4} {x : BitVec 64} : a.has x = true ↔ a.ok = true ∧ hasB a.v a.m x = true ∧ nv a.l ≤ nv x ∧ nv x ≤ nv a.h := by
  simp only [V4.has, hasV, V4.ok, Bool.and_eq_true, decide_eq_true_eq]
theorem V4.low_has {a : V4} (h : a.ok = true) : a.has a.l = true := by
  obtain ⟨_, h2, _, h4, _⟩ := val_facts h
  exact V4.has_iff.2 ⟨h, h2, Int.le_refl _, h4⟩
theorem V4.le {a : V4} (h : a.ok = true) : nv a.l ≤ nv a.h := (val_facts h).2.2.2.1
theorem V4.stays {a : V4} (h : a.ok = true) : a.nok = true ∧ a.nrm = a := by
  obtain ⟨h1, h2, h3, h4, h5⟩ := norm_stays h
  refine ⟨h1, ?_⟩
  cases a; simp only [V4.nrm] at *; rw [h2, h3, h4, h5]
theorem V4.two_has {op : Int} {a b : V4} {x y : BitVec 64} (hop : 2 ≤ op ∧ op ≤ 9) (hx : a.has x = true) (hy : b.has y = true) : (V4.two op a b).has (numN op x y) = true := by
  obtain ⟨h1, h2⟩ := rk_sound hop hx hy
  obtain ⟨h3, h4⟩ := V4.nrm_has (a := V4.raw2 op a b) h1 h2
  unfold V4.two V4.norm
  rw [if_pos h3]
  exact h4
theorem V4.two_ok {op : Int} {a b : V4} (hop : 2 ≤ op ∧ op ≤ 9) (ha : a.ok = true) (hb : b.ok = true) : (V4.two op a b).ok = true := V4.has_ok (V4.two_has hop (V4.low_has ha) (V4.low_has hb))
theorem V4.join_has {a b : V4} {x : BitVec 64} (ha : a.ok = true) (hb : b.ok = true) (h : a.has x = true ∨ b.has x = true) : (a.join b).has x = true := by
  obtain ⟨_, h2, h3⟩ := join_facts ha hb
  rcases h with h | h
  · exact insV_has h2 h
  · exact insV_has h3 h
theorem V4.join_ok {a b : V4} (ha : a.ok = true) (hb : b.ok = true) : (a.join b).ok = true := V4.has_ok (V4.join_has ha hb (Or.inl (V4.low_has ha)))
theorem insB_refl {v m : BitVec 64} (h : RtB v m) : insB v m v m = true := ins_of_all h h fun _ hx => hx
theorem hasB_of (x : BitVec 64) : hasB x zero x = true := by
  have hr : RtB x zero := fun j => by rw [bit_zero]; cases bit x j <;> rfl
  refine (hasB_iff _ _ _).2 ⟨hr, fun j hj => ?_⟩
  rw [bit_zero]; cases bit x j <;> rfl
theorem sM_self (x : BitVec 64) : sM x x = zero := by
  apply bext
  intro j hj
  rw [bit_zero]
  exact (sM_bit x x j hj).2 fun _ _ => rfl
theorem V4.of_ok (x : BitVec 64) : (V4.of x).ok = true := by
  have h := hasB_of x
  have hs : spV x x = x := by
    unfold spV
    rw [sM_self]
    apply bext
    intro j hj
    rw [bit_andn _ _ _ hj, bit_zero]; cases bit x j <;> rfl
  show valB x zero x x = true
  unfold valB
  rw [h, sM_self, hs, insB_refl ((hasB_iff _ _ _).1 h).1]
  simp
theorem V4.of_has {x y : BitVec 64} : (V4.of x).has y = true ↔ y = x := by
  constructor
  · intro h
    obtain ⟨_, _, h1, h2⟩ := V4.has_iff.1 h
    have h1 : nv x ≤ nv y := h1
    have h2 : nv y ≤ nv x := h2
    exact nv_inj _ _ (by omega)
  · rintro rfl
    exact V4.low_has (V4.of_ok y)
theorem sM_ends {l h : BitVec 64} {n : Nat} (hn : n < 64) (hl : l = zero) (hb : bit h n = true) : ∀ j, j ≤ n → bit (sM l h) j = true := by
  intro j hj
  cases hc : bit (sM l h) j with
  | true => rfl
  | false =>
    have := (sM_bit l h j (by omega)).1 hc n hj
    rw [hl, bit_zero, hb] at this
    cases this
theorem V4.low_ok {h : BitVec 64} (n : Nat) (hn : n ≤ 64) (hb : ∀ j, j < 64 → bit h j = decide (j < n)) (h0 : 0 < n) : V4.ok ⟨zero, h, zero, h⟩ = true ∧ ∀ x, nv x ≤ nv h → V4.has ⟨zero, h, zero, h⟩ x = true := by
  have hr : RtB zero h := zero_rt h
  have g0 : hasB zero h zero = true := (hasB_iff _ _ _).2 ⟨hr, fun j hj => by rw [bit_zero]; rfl⟩
  have g1 : hasB zero h h = true := (hasB_iff _ _ _).2 ⟨hr, fun j hj => by rw [bit_zero]; cases bit h j <;> rfl⟩
  have hle : nv zero ≤ nv h := (ends h).1
  have sm : sM zero h = h := by
    apply bext
    intro j hj
    rw [hb j hj]
    by_cases c : j < n
    · rw [sM_ends (n := n - 1) (by omega) rfl (by rw [hb _ (by omega)]; simp; omega) j (by omega)]; simp [c]
    · have : bit (sM zero h) j = false := (sM_bit _ _ _ hj).2 fun i hi => by
        by_cases c' : i < 64
        · rw [bit_zero, hb i c']; simp; omega
        · rw [bit_big _ _ (by omega), bit_big _ _ (by omega)]
      rw [this]; simp [c]
  have sp : spV zero h = zero := by
    unfold spV
    apply bext
    intro j hj
    rw [bit_andn _ _ _ hj, bit_zero]; rfl
  have ho : V4.ok ⟨zero, h, zero, h⟩ = true := by
    show valB zero h zero h = true
    unfold valB
    rw [g0, g1, sm, sp, insB_refl hr]
    simp [hle]
  refine ⟨ho, fun x hx => V4.has_iff.2 ⟨ho, (hasB_iff _ _ _).2 ⟨hr, fun j hj => ?_⟩, (ends x).1, hx⟩⟩
  -- a bit that h lacks, x lacks
  rw [bit_zero]
  have := span_has (l := zero) (h := h) (x := x) (ends x).1 hx
  rw [sm, sp] at this
  have h2 := ((hasB_iff _ _ _).1 this).2 j hj
  rw [bit_zero] at h2
  exact h2
theorem V4.any_has (x : BitVec 64) : V4.any.has x = true := (V4.low_ok (h := top) 64 (Nat.le_refl _) (fun j hj => by rw [bit_top _ hj]; simp [hj]) (by decide)).2 x (ends x).2
theorem V4.any_ok : V4.any.ok = true := V4.has_ok (V4.any_has zero)
theorem byteTop_bits (n : Int) : ∃ k, 0 < k ∧ k ≤ 64 ∧ ∀ j, j < 64 → bit (byteTop n) j = decide (j < k) := by
  have key : ∀ (k : Nat) (x : BitVec 64), (∀ j : Fin 64, x.getLsbD j.1 = decide (j.1 < k)) → ∀ j, j < 64 → bit x j = decide (j < k) := fun k x h j hj => h ⟨j, hj⟩
  unfold byteTop
  split
  · exact ⟨64, by decide, by decide, fun j hj => by rw [bit_top _ hj]; simp [hj]⟩
  · split
    · exact ⟨32, by decide, by decide, key 32 _ (by decide)⟩
    · split
      · exact ⟨16, by decide, by decide, key 16 _ (by decide)⟩
      · exact ⟨8, by decide, by decide, key 8 _ (by decide)⟩
theorem V4.bytes_has (n : Int) (x : BitVec 64) (hx : nv x ≤ nv (byteTop n)) : (V4.bytes n).has x = true := by
  obtain ⟨k, h1, h2, h3⟩ := byteTop_bits n
  exact (V4.low_ok k h2 h3 h1).2 x hx
theorem V4.bytes_ok (n : Int) : (V4.bytes n).ok = true := V4.has_ok (V4.bytes_has n zero (ends _).1)

/- what is left of two -/
theorem left2_ok {may : Bool} {x y : V4} (hx : RtB x.v x.m) (hy : RtB y.v y.m) (h : (left2 may x y).2.2 = true) : (left2 may x y).1.ok = true ∧ (left2 may x y).2.1.ok = true := by
  have h' : (may && (x.nok && y.nok)) = true := h
  simp only [left2, lvV, h', if_true]
  simp only [Bool.and_eq_true] at h'
  exact ⟨V4.nrm_ok hx h'.2.1, V4.nrm_ok hy h'.2.2⟩
theorem left2_has {x y : V4} {p q : BitVec 64} (hx : RtB x.v x.m) (hy : RtB y.v y.m) (h1 : rawV x.v x.m x.l x.h p = true) (h2 : rawV y.v y.m y.l y.h q = true) :
    (left2 true x y).2.2 = true ∧ (left2 true x y).1.has p = true ∧ (left2 true x y).2.1.has q = true := by
  obtain ⟨a1, a2⟩ := V4.nrm_has hx h1
  obtain ⟨b1, b2⟩ := V4.nrm_has hy h2
  simp only [left2, lvV, a1, b1, Bool.and_self, if_true]
  exact ⟨trivial, a2, b2⟩
theorem meet_rt {a b : V4} (ha : a.ok = true) (hb : b.ok = true) : RtB (bor a.v b.v) (band a.m b.m) := by
  have r1 := V4.ok_rt ha
  have r2 := V4.ok_rt hb
  intro j
  have h3 := r1 j; have h4 := r2 j
  rw [bit_or, bit_and']
  revert h3 h4
  cases bit a.v j <;> cases bit a.m j <;> cases bit b.v j <;> cases bit b.m j <;> simp
theorem V4.equal_ok {a b : V4} (ha : a.ok = true) (hb : b.ok = true) (h : (a.equal b).2.2 = true) : (a.equal b).1.ok = true ∧ (a.equal b).2.1.ok = true := by
  unfold V4.equal at h ⊢
  split at h
  · rename_i hm
    rw [if_pos hm]
    exact left2_ok (meet_rt ha hb) (meet_rt ha hb) h
  · cases h
theorem V4.equal_has {a b : V4} {x : BitVec 64} (hx : a.has x = true) (hy : b.has x = true) : (a.equal b).2.2 = true ∧ (a.equal b).1.has x = true ∧ (a.equal b).2.1.has x = true := by
  obtain ⟨h1, h2, h3⟩ := left_equal hx hy
  unfold V4.equal
  rw [if_pos (show a.meets b = true from h1)]
  exact left2_has (x := a.rawEqual b) (y := a.rawEqual b) h2 h2 h3 h3
theorem V4.other_ok {a b : V4} (ha : a.ok = true) (hb : b.ok = true) (h : (a.other b).2.2 = true) : (a.other b).1.ok = true ∧ (a.other b).2.1.ok = true :=
  left2_ok (show RtB a.v a.m from V4.ok_rt ha) (show RtB b.v b.m from V4.ok_rt hb) h
theorem V4.other_has {a b : V4} {x y : BitVec 64} (hx : a.has x = true) (hy : b.has y = true) (hne : x ≠ y) : (a.other b).2.2 = true ∧ (a.other b).1.has x = true ∧ (a.other b).2.1.has y = true := by
  have h1 := left_other hx hy hne
  have h2 := left_other hy hx (Ne.symm hne)
  have h3 := may_other hx hy hne
  unfold V4.other
  have e : (!(a.alone && (b.alone && eqb a.l b.l))) = true := by
    show (!(eqb a.l a.h && (eqb b.l b.h && eqb a.l b.l))) = true
    rw [h3]; rfl
  rw [e]
  exact left2_has (x := a.without b) (y := b.without a) (show RtB a.v a.m from V4.ok_rt (V4.has_ok hx)) (show RtB b.v b.m from V4.ok_rt (V4.has_ok hy)) h1 h2
theorem V4.less_ok {a b : V4} (ha : a.ok = true) (hb : b.ok = true) (h : (a.less b).2.2 = true) : (a.less b).1.ok = true ∧ (a.less b).2.1.ok = true := by
  unfold V4.less at h ⊢
  split at h
  · cases h
  · rename_i hm
    rw [if_neg hm]
    exact left2_ok (show RtB a.v a.m from V4.ok_rt ha) (show RtB b.v b.m from V4.ok_rt hb) h
theorem V4.less_has {a b : V4} {x y : BitVec 64} (hx : a.has x = true) (hy : b.has y = true) (hlt : nv x < nv y) : (a.less b).2.2 = true ∧ (a.less b).1.has x = true ∧ (a.less b).2.1.has y = true := by
  obtain ⟨h1, h2, h3, h4⟩ := left_less hx hy hlt
  rw [bmax_self] at h3
  rw [bmin_self] at h4
  unfold V4.less
  rw [h1, h2, if_neg (by decide)]
  exact left2_has (x := ⟨a.v, a.m, a.l, bmin a.h (bsub b.h one)⟩) (y := ⟨b.v, b.m, bmax b.l (badd a.l one), b.h⟩) (show RtB a.v a.m from V4.ok_rt (V4.has_ok hx)) (show RtB b.v b.m from V4.ok_rt (V4.has_ok hy)) h3 h4
theorem V4.notLess_ok {a b : V4} (ha : a.ok = true) (hb : b.ok = true) (h : (a.notLess b).2.2 = true) : (a.notLess b).1.ok = true ∧ (a.notLess b).2.1.ok = true :=
  left2_ok (show RtB a.v a.m from V4.ok_rt ha) (show RtB b.v b.m from V4.ok_rt hb) h
theorem V4.notLess_has {a b : V4} {x y : BitVec 64} (hx : a.has x = true) (hy : b.has y = true) (hle : nv y ≤ nv x) : (a.notLess b).2.2 = true ∧ (a.notLess b).1.has x = true ∧ (a.notLess b).2.1.has y = true := by
  obtain ⟨h3, h4⟩ := left_notLess hx hy hle
  rw [bmin_self] at h3
  rw [bmax_self] at h4
  exact left2_has (x := ⟨a.v, a.m, bmax a.l b.l, a.h⟩) (y := ⟨b.v, b.m, b.l, bmin b.h a.h⟩) (show RtB a.v a.m from V4.ok_rt (V4.has_ok hx)) (show RtB b.v b.m from V4.ok_rt (V4.has_ok hy)) h3 h4

/- cells that are the same -/
theorem V4.eq_iff {a b : V4} : eqCs a.cs b.cs = true ↔ a = b := by
  cases a; cases b
  simp [V4.cs, eqCs, eqC, eqb]
end Go.Proofs.Ytkigmocchaikgab

/- States: which machines they have; joins: plain facts. -/
namespace Go.Proofs.Ytkigmocchaikgab

theorem anyFrom_no {p : Nat → Bool} : anyFrom p 6 = false ↔ ∀ j, j < 6 → p j = false := by
  simp only [anyFrom, Bool.or_eq_false_iff]
  constructor
  · rintro ⟨h0, h1, h2, h3, h4, h5, _⟩
    exact lt6 h0 h1 h2 h3 h4 h5
  · intro h
    exact ⟨h 0 (by decide), h 1 (by decide), h 2 (by decide), h 3 (by decide), h 4 (by decide), h 5 (by decide), trivial⟩
theorem St.z_iff {t : St} : eqCs t.cs St.z.cs = true ↔ t = St.z := by
  obtain ⟨l, ⟨s0, s1, s2, s3, s4, s5⟩, ⟨⟨a0, a1, a2, a3⟩, ⟨b0, b1, b2, b3⟩, ⟨c0, c1, c2, c3⟩, ⟨d0, d1, d2, d3⟩, ⟨e0, e1, e2, e3⟩, ⟨f0, f1, f2, f3⟩⟩⟩ := t
  simp [St.cs, St.z, no6, V6.rep, V4.z, eqCs, eqC, eqb, and_assoc]
theorem V4.z_iff {a : V4} : eqCs a.cs V4.z.cs = true ↔ a = V4.z := V4.eq_iff
structure St.Ok (t : St) : Prop where
  dead : t.live = false → t = St.z
  set : ∀ j, j < 6 → t.s.get j = true → (t.r.get j).ok = true
  unset : ∀ j, j < 6 → t.s.get j = false → t.r.get j = V4.z
theorem badR_no {t : St} {j : Nat} : badR t j = false ↔ ((t.s.get j = true → (t.r.get j).ok = true) ∧ (t.s.get j = false → t.r.get j = V4.z)) := by
  unfold badR
  cases h : t.s.get j with
  | true => simp
  | false =>
    rw [← V4.z_iff]
    simp
theorem St.ok_iff {t : St} : t.ok = true ↔ t.Ok := by
  unfold St.ok
  rw [Bool.and_eq_true, Bool.or_eq_true, St.z_iff, Bool.not_eq_true', anyFrom_no]
  constructor
  · rintro ⟨h1, h2⟩
    exact ⟨fun h => h1.resolve_left (by rw [h]; decide), fun j hj => (badR_no.1 (h2 j hj)).1, fun j hj => (badR_no.1 (h2 j hj)).2⟩
  · intro h
    refine ⟨?_, fun j hj => badR_no.2 ⟨h.set j hj, h.unset j hj⟩⟩
    cases hl : t.live with
    | true => exact Or.inl rfl
    | false => exact Or.inr (h.dead hl)
theorem rep_get {α : Type} (a : α) : ∀ j, j < 6 → (V6.rep a).get j = a := lt6 rfl rfl rfl rfl rfl rfl
theorem no6_get : ∀ j, j < 6 → no6.get j = false := lt6 rfl rfl rfl rfl rfl rfl
theorem St.z_Ok : St.z.Ok := ⟨fun _ => rfl, fun j hj h => (by rw [show St.z.s = no6 from rfl, no6_get j hj] at h; cases h), fun j hj _ => rep_get _ j hj⟩
theorem St.e_Ok : St.e.Ok := ⟨fun h => (by cases h), fun j hj h => (by rw [show St.e.s = no6 from rfl, no6_get j hj] at h; cases h), fun j hj _ => rep_get _ j hj⟩
theorem St.wth_s {t : St} {d j : Nat} {a : V4} (hd : d < 6) (hj : j < 6) : (t.wth d a).s.get j = if d = j then true else t.s.get j := V6.get_set _ _ _ _ hd hj
theorem St.wth_r {t : St} {d j : Nat} {a : V4} (hd : d < 6) (hj : j < 6) : (t.wth d a).r.get j = if d = j then a else t.r.get j := V6.get_set _ _ _ _ hd hj
theorem St.wth_Ok {t : St} {d : Nat} {a : V4} (hd : d < 6) (hl : t.live = true) (ha : a.ok = true) (h : t.Ok) : (t.wth d a).Ok := by
  refine ⟨fun hn => ?_, fun j hj hs => ?_, fun j hj hs => ?_⟩
  · have : t.live = false := hn
    rw [hl] at this; cases this
  · rw [St.wth_s hd hj] at hs
    rw [St.wth_r hd hj]
    split
    · exact ha
    · rename_i hne; rw [if_neg hne] at hs; exact h.set j hj hs
  · rw [St.wth_s hd hj] at hs
    rw [St.wth_r hd hj]
    split
    · rename_i hne; rw [if_pos hne] at hs; cases hs
    · rename_i hne; rw [if_neg hne] at hs; exact h.unset j hj hs
theorem beginS_Ok : beginS.Ok := St.wth_Ok (by decide) rfl V4.any_ok St.e_Ok

/- a machine that the state has -/
structure St.Has (t : St) (m : Mach) : Prop where
  ok : t.Ok
  live : t.live = true
  mach : machErr m = 0
  fin : m.fin = 0
  reg : ∀ j, j < 6 → t.s.get j = true → m.s.get j = true ∧ (t.r.get j).has (m.r.get j) = true
theorem lackR_no {t : St} {m : Mach} {j : Nat} : lackR t m j = false ↔ (t.s.get j = true → m.s.get j = true ∧ (t.r.get j).has (m.r.get j) = true) := by
  unfold lackR
  cases t.s.get j <;> cases m.s.get j <;> cases (t.r.get j).has (m.r.get j) <;> simp
theorem St.has_iff {t : St} {m : Mach} : t.has m = true ↔ t.Has m := by
  unfold St.has
  rw [Bool.and_eq_true, Bool.and_eq_true, Bool.and_eq_true, Bool.and_eq_true, St.ok_iff, decide_eq_true_eq, decide_eq_true_eq, Bool.not_eq_true', anyFrom_no]
  constructor
  · rintro ⟨h1, h2, h3, h4, h5⟩
    exact ⟨h1, h2, h3, h4, fun j hj => lackR_no.1 (h5 j hj)⟩
  · intro h
    exact ⟨h.ok, h.live, h.mach, h.fin, fun j hj => lackR_no.2 (h.reg j hj)⟩

/- joins -/
theorem joinFrom_facts (t u : St) : ∀ n, n ≤ 6 → ∀ b : St, (joinFrom t u n b).live = b.live ∧ ∀ j, j < 6 →
    (joinFrom t u n b).s.get j = (if 6 - n ≤ j then ((t.s.get j && u.s.get j) || b.s.get j) else b.s.get j) ∧
    (joinFrom t u n b).r.get j = (if 6 - n ≤ j ∧ (t.s.get j && u.s.get j) = true then (t.r.get j).join (u.r.get j) else b.r.get j)
  | 0, _, b => ⟨rfl, fun j hj => ⟨by rw [if_neg (by omega)]; rfl, by rw [if_neg (by omega)]; rfl⟩⟩
  | n + 1, hn, b => by
    obtain ⟨h1, h2⟩ := joinFrom_facts t u n (by omega) (joinR t u (5 - n) b)
    have hk : 5 - n < 6 := by omega
    have hb : (joinR t u (5 - n) b).live = b.live ∧ ∀ j, j < 6 → (joinR t u (5 - n) b).s.get j = (if 5 - n = j then ((t.s.get j && u.s.get j) || b.s.get j) else b.s.get j) ∧
        (joinR t u (5 - n) b).r.get j = (if 5 - n = j ∧ (t.s.get j && u.s.get j) = true then (t.r.get j).join (u.r.get j) else b.r.get j) := by
      unfold joinR
      cases hc : (t.s.get (5 - n) && u.s.get (5 - n)) with
      | true =>
        rw [if_pos rfl]
        refine ⟨rfl, fun j hj => ?_⟩
        rw [St.wth_s hk hj, St.wth_r hk hj]
        by_cases hjj : 5 - n = j
        · subst hjj; simp [hc]
        · simp [hjj]
      | false =>
        rw [if_neg (by decide)]
        refine ⟨rfl, fun j hj => ?_⟩
        by_cases hjj : 5 - n = j
        · subst hjj; simp [hc]
        · simp [hjj]
    refine ⟨h1.trans hb.1, fun j hj => ?_⟩
    obtain ⟨h3, h4⟩ := h2 j hj
    obtain ⟨h5, h6⟩ := hb.2 j hj
    show (joinFrom t u n (joinR t u (5 - n) b)).s.get j = _ ∧ (joinFrom t u n (joinR t u (5 - n) b)).r.get j = _
    rw [h3, h4, h5, h6]
    have pick : ∀ {p q r : Prop} [Decidable p] [Decidable q] [Decidable r] (x y : Bool) (v w : V4), (r ↔ (p ∨ q)) → ¬ (p ∧ q) → ((if p then (x || (if q then (x || y) else y)) else (if q then (x || y) else y)) = (if r then (x || y) else y)) ∧
        ((if p ∧ x = true then v else (if q ∧ x = true then v else w)) = (if r ∧ x = true then v else w)) := by
      intro p q r _ _ _ x y v w h1 h2
      by_cases hp : p
      · have hq : ¬ q := fun hq => h2 ⟨hp, hq⟩
        have hr : r := h1.2 (Or.inl hp)
        simp [hp, hq, hr]
      · by_cases hq : q
        · have hr : r := h1.2 (Or.inr hq)
          simp [hp, hq, hr]
        · have hr : ¬ r := fun hr => (h1.1 hr).elim hp hq
          simp [hp, hq, hr]
    exact pick _ _ _ _ (by omega) (by omega)
theorem St.join_live {t u : St} (ht : t.live = true) (hu : u.live = true) : (t.join u).live = true ∧ ∀ j, j < 6 →
    (t.join u).s.get j = (t.s.get j && u.s.get j) ∧ (t.join u).r.get j = (if (t.s.get j && u.s.get j) = true then (t.r.get j).join (u.r.get j) else V4.z) := by
  unfold St.join
  rw [if_pos ht, if_pos hu]
  obtain ⟨h1, h2⟩ := joinFrom_facts t u 6 (Nat.le_refl 6) St.e
  refine ⟨h1, fun j hj => ?_⟩
  obtain ⟨h3, h4⟩ := h2 j hj
  rw [h3, h4, if_pos (by omega), show St.e.s = no6 from rfl, show St.e.r = V6.rep V4.z from rfl, no6_get j hj, rep_get _ j hj, Bool.or_false]
  exact ⟨rfl, by simp⟩
theorem St.join_Ok {t u : St} (ht : t.Ok) (hu : u.Ok) : (t.join u).Ok := by
  by_cases h1 : t.live = true
  · by_cases h2 : u.live = true
    · obtain ⟨h3, h4⟩ := St.join_live h1 h2
      refine ⟨fun h => (by rw [h3] at h; cases h), fun j hj hs => ?_, fun j hj hs => ?_⟩
      · obtain ⟨h5, h6⟩ := h4 j hj
        rw [h5] at hs
        rw [h6, if_pos hs]
        rw [Bool.and_eq_true] at hs
        exact V4.join_ok (ht.set j hj hs.1) (hu.set j hj hs.2)
      · obtain ⟨h5, h6⟩ := h4 j hj
        rw [h5] at hs
        rw [h6, if_neg (by rw [hs]; decide)]
    · unfold St.join; rw [if_pos h1, if_neg h2]; exact ht
  · unfold St.join; rw [if_neg h1]; exact hu
theorem St.join_Has {t u : St} {m : Mach} (ht : t.Ok) (hu : u.Ok) (h : t.Has m ∨ u.Has m) : (t.join u).Has m := by
  by_cases h1 : t.live = true
  · by_cases h2 : u.live = true
    · obtain ⟨h3, h4⟩ := St.join_live h1 h2
      have key : ∀ j, j < 6 → (t.join u).s.get j = true → m.s.get j = true ∧ ((t.join u).r.get j).has (m.r.get j) = true := by
        intro j hj hs
        obtain ⟨h5, h6⟩ := h4 j hj
        rw [h5] at hs
        rw [h6, if_pos hs]
        rw [Bool.and_eq_true] at hs
        rcases h with h | h
        · exact ⟨(h.reg j hj hs.1).1, V4.join_has (ht.set j hj hs.1) (hu.set j hj hs.2) (Or.inl (h.reg j hj hs.1).2)⟩
        · exact ⟨(h.reg j hj hs.2).1, V4.join_has (ht.set j hj hs.1) (hu.set j hj hs.2) (Or.inr (h.reg j hj hs.2).2)⟩
      rcases h with h | h
      · exact ⟨St.join_Ok ht hu, h3, h.mach, h.fin, key⟩
      · exact ⟨St.join_Ok ht hu, h3, h.mach, h.fin, key⟩
    · have e : t.join u = t := by unfold St.join; rw [if_pos h1, if_neg h2]
      rw [e]
      exact h.resolve_right fun h => h2 h.live
  · have e : t.join u = u := by unfold St.join; rw [if_neg h1]
    rw [e]
    exact h.resolve_left fun h => h1 h.live
end Go.Proofs.Ytkigmocchaikgab

/- The contracts of flow's Check, Begin, Has and Join. -/
namespace Go.Proofs.Ytkigmocchaikgab
open Go.RowKit

/- registers, looked up -/
section
variable {j : Int}
theorem lt_six (h : regB j = true) : decide (j < 6) = true := decide_eq_true (regB_iff.1 h).2
theorem b_ok (u : V6 Bool) (h : regB j = true) : (AC.isB (Option.getD (bcs u)[Int.toNat j * 1]? (AC.b false)) && Nat.blt (Int.toNat j * 1) (List.length (bcs u)) && (decide (0 ≤ j) && decide (j < 6))) = true :=
  reg_elim (P := fun j => (AC.isB (Option.getD (bcs u)[Int.toNat j * 1]? (AC.b false)) && Nat.blt (Int.toNat j * 1) (List.length (bcs u)) && (decide (0 ≤ j) && decide (j < 6))) = true) h rfl rfl rfl rfl rfl rfl
theorem b_eff (u : V6 Bool) (h : regB j = true) : Eff.mk (AV.c (AC.b (AC.asB (Option.getD (bcs u)[Int.toNat j * 1]? (AC.b false))))) [] none = Eff.mk (AV.c (AC.b (V6.get u (Int.toNat j)))) [] none :=
  reg_elim (P := fun j => Eff.mk (AV.c (AC.b (AC.asB (Option.getD (bcs u)[Int.toNat j * 1]? (AC.b false))))) [] none = Eff.mk (AV.c (AC.b (V6.get u (Int.toNat j)))) [] none) h rfl rfl rfl rfl rfl rfl
theorem ss_ok (t : St) (h : regB j = true) : (AC.isB (Option.getD (St.cs t)[1 + Int.toNat j * 1]? (AC.b false)) && Nat.blt (1 + Int.toNat j * 1) (List.length (St.cs t))) = true :=
  reg_elim (P := fun j => (AC.isB (Option.getD (St.cs t)[1 + Int.toNat j * 1]? (AC.b false)) && Nat.blt (1 + Int.toNat j * 1) (List.length (St.cs t))) = true) h rfl rfl rfl rfl rfl rfl
theorem ss_eff (t : St) (h : regB j = true) : Eff.mk (AV.c (AC.b (AC.asB (Option.getD (St.cs t)[1 + Int.toNat j * 1]? (AC.b false))))) [] none = Eff.mk (AV.c (AC.b (V6.get (St.s t) (Int.toNat j)))) [] none :=
  reg_elim (P := fun j => Eff.mk (AV.c (AC.b (AC.asB (Option.getD (St.cs t)[1 + Int.toNat j * 1]? (AC.b false))))) [] none = Eff.mk (AV.c (AC.b (V6.get (St.s t) (Int.toNat j)))) [] none) h rfl rfl rfl rfl rfl rfl
theorem sr_ok (t : St) (h : regB j = true) : Nat.ble (7 + Int.toNat j * 4 + 4) (List.length (St.cs t)) = true :=
  reg_elim (P := fun j => Nat.ble (7 + Int.toNat j * 4 + 4) (List.length (St.cs t)) = true) h rfl rfl rfl rfl rfl rfl
theorem sr_eff (t : St) (h : regB j = true) : Eff.mk (AV.ag (List.take 4 (List.drop (7 + Int.toNat j * 4) (St.cs t)))) [] none = Eff.mk (AV.ag (V4.cs (V6.get (St.r t) (Int.toNat j)))) [] none := by rw [st_get_r h]
theorem ms_ok (m : Mach) (h : regB j = true) : (AC.isB (Option.getD (Mach.cs m)[7 + Int.toNat j * 1]? (AC.b false)) && Nat.blt (7 + Int.toNat j * 1) (List.length (Mach.cs m))) = true :=
  reg_elim (P := fun j => (AC.isB (Option.getD (Mach.cs m)[7 + Int.toNat j * 1]? (AC.b false)) && Nat.blt (7 + Int.toNat j * 1) (List.length (Mach.cs m))) = true) h rfl rfl rfl rfl rfl rfl
theorem ms_eff (m : Mach) (h : regB j = true) : Eff.mk (AV.c (AC.b (AC.asB (Option.getD (Mach.cs m)[7 + Int.toNat j * 1]? (AC.b false))))) [] none = Eff.mk (AV.c (AC.b (V6.get (Mach.s m) (Int.toNat j)))) [] none :=
  reg_elim (P := fun j => Eff.mk (AV.c (AC.b (AC.asB (Option.getD (Mach.cs m)[7 + Int.toNat j * 1]? (AC.b false))))) [] none = Eff.mk (AV.c (AC.b (V6.get (Mach.s m) (Int.toNat j)))) [] none) h rfl rfl rfl rfl rfl rfl
theorem mr_ok (m : Mach) (h : regB j = true) : (AC.isU (Option.getD (Mach.cs m)[1 + Int.toNat j * 1]? (AC.b false)) && Nat.blt (1 + Int.toNat j * 1) (List.length (Mach.cs m))) = true :=
  reg_elim (P := fun j => (AC.isU (Option.getD (Mach.cs m)[1 + Int.toNat j * 1]? (AC.b false)) && Nat.blt (1 + Int.toNat j * 1) (List.length (Mach.cs m))) = true) h rfl rfl rfl rfl rfl rfl
theorem mr_eff (m : Mach) (h : regB j = true) : Eff.mk (AV.c (AC.u (AC.asU (Option.getD (Mach.cs m)[1 + Int.toNat j * 1]? (AC.b false))))) [] none = Eff.mk (AV.c (AC.u (V6.get (Mach.r m) (Int.toNat j)))) [] none :=
  reg_elim (P := fun j => Eff.mk (AV.c (AC.u (AC.asU (Option.getD (Mach.cs m)[1 + Int.toNat j * 1]? (AC.b false))))) [] none = Eff.mk (AV.c (AC.u (V6.get (Mach.r m) (Int.toNat j)))) [] none) h rfl rfl rfl rfl rfl rfl
end
/- the round that has n behind it -/
theorem rnd_reg {n : Nat} (hn : n + 1 ≤ 6) : regB ((6 - (n + 1) : Nat) : Int) = true := by rw [regB_iff]; omega
theorem rnd_nat {n : Nat} (hn : n + 1 ≤ 6) : ((6 - (n + 1) : Nat) : Int).toNat = 5 - n := by omega
theorem rnd_next {n : Nat} (hn : n + 1 ≤ 6) : IntKind.wrap IntKind.i64 (((6 - (n + 1) : Nat) : Int) + 1) = ((6 - n : Nat) : Int) := by rw [wrapN (by omega) (by omega)]; omega
theorem er_ne (b : Bool) : (er b != 0) = !b := by cases b <;> rfl
theorem fwith_ok {t : St} {d : Int} (a : V4) (h : regB d = true) : Ok 35 [.ag t.cs, .c (.i d), .ag a.cs] (.ag (t.wth d.toNat a).cs) := by
  have h1 := regB_iff.1 h
  have h2 := reg_nat h
  refine fwith_w0 ?_ ?_ ?_
  · simp [h1.1, h1.2, st_len, V4.cs]; omega
  · rw [st_set_s h]
  · rw [st_set_r a h]; rfl
theorem fbegin_ok : Ok 18 [] (.ag beginS.cs) := fbegin_w0 (a := V4.any) (t := beginS) valAny_ok (fwith_ok (t := St.e) (d := 1) V4.any rfl)

abbrev fcKn (t : St) (j : Int) : Kn := ⟨[(1, .c (.w 0)), (14, .ag (bcs t.s)), (15, .c (.i j))], [(0, ⟨true, t.cs, 0⟩)], 1⟩
theorem fcLoop {t : St} {w : World} {β : Bs} {E : Eff} : ∀ n, n ≤ 6 → (anyFrom (badR t) n = true → ⟨.c (.i 1), [], none⟩ = E) → (anyFrom (badR t) n = false → ⟨.c (.i 0), [], none⟩ = E) →
    ART Try.prog 17 (cx w β 0 []) Try.f17.ntmps (cutAt Try.f17 0) (fcKn t (6 - n : Nat)) (REff w β E)
  | 0, _, _, hz => art_eq fcEnd_w0 (hz rfl)
  | n + 1, hn, hy, hz => by
    have hj := rnd_reg hn
    have ej := rnd_nat hn
    have f0 := lt_six hj
    have f1 := b_ok t.s hj
    have f2 : (decide (0 ≤ ((6 - (n + 1) : Nat) : Int)) && decide (((6 - (n + 1) : Nat) : Int) < 6)) = true := hj
    have f3 := sr_ok t hj
    have f4 := b_eff t.s hj
    have f5 := sr_eff t hj
    have yes : badR t (5 - n) = true → (⟨.c (.i 1), [], none⟩ : Eff) = E := fun h => hy (by rw [anyFrom, h]; rfl)
    have next : badR t (5 - n) = false → ART Try.prog 17 (cx w β 0 []) Try.f17.ntmps (cutAt Try.f17 0) (fcKn t (IntKind.wrap IntKind.i64 (((6 - (n + 1) : Nat) : Int) + 1))) (REff w β E) := by
      intro hb
      rw [rnd_next hn]
      refine fcLoop n (by omega) (fun h => hy ?_) (fun h => hz ?_)
      · rw [anyFrom, hb, h]; rfl
      · rw [anyFrom, hb, h]; rfl
    refine fcRound_all (by omega) (fun a b => ⟨f0, f1, f2, f3, f4, f5, valCheck_ok _, yes ?_⟩) (fun a b => ⟨f0, f1, f2, f3, ?_, f4, f5, valCheck_ok _, low_of rfl, next ?_⟩) (fun a b => ⟨f0, f1, f2, f3, f4, f5, yes ?_⟩) (fun a b => ⟨f0, f1, f2, f3, f4, f5, low_of rfl, next ?_⟩)
    · rw [ej] at a b
      rw [er_ne] at b
      unfold badR; rw [a, b]; rfl
    · rw [a]; rfl
    · rw [ej] at a b
      rw [er_ne] at b
      unfold badR; rw [a, b]; rfl
    · rw [ej] at a b
      unfold badR; rw [a]; exact b
    · rw [ej] at a b
      unfold badR; rw [a]; exact b
theorem fcheck_ok (t : St) : Ok 17 [.ag t.cs] (.c (.i (er t.ok))) := by
  refine val_of Try.func17 rfl rfl rfl rfl fun w β => ?_
  have main : (t.live || eqCs t.cs St.z.cs) = true → ART Try.prog 17 (cx w β 0 []) Try.f17.ntmps (cutAt Try.f17 0) (fcKn t 0) (REff w β ⟨.c (.i (er t.ok)), [], none⟩) := by
    intro h
    refine fcLoop 6 (Nat.le_refl 6) (fun k => ?_) (fun k => ?_)
    · unfold St.ok; rw [h, k]; rfl
    · unfold St.ok; rw [h, k]; rfl
  refine fcTop_all (Nat.zero_le 1) (fun a b => ?_) (fun a b => ⟨low_of rfl, main ?_⟩) (fun a => ⟨low_of rfl, main ?_⟩)
  · have b : (!eqCs t.cs St.z.cs) = true := b
    have h : (t.live || eqCs t.cs St.z.cs) = false := by
      revert a b
      cases t.live <;> cases eqCs t.cs St.z.cs <;> decide
    unfold St.ok; rw [h]; rfl
  · have b : (!eqCs t.cs St.z.cs) = false := b
    rw [yes_not b]; cases t.live <;> rfl
  · rw [yes_not a]; rfl

abbrev fhKn (t : St) (m : Mach) (j : Int) : Kn := ⟨[(2, .c (.w 0)), (3, .c (.w 1)), (26, .ag (bcs t.s)), (27, .c (.i j))], [(0, ⟨true, t.cs, 0⟩), (1, ⟨true, m.cs, 0⟩)], 2⟩
theorem fhLoop {t : St} {m : Mach} {w : World} {β : Bs} {E : Eff} : ∀ n, n ≤ 6 → (anyFrom (lackR t m) n = true → ⟨.c (.b false), [], none⟩ = E) → (anyFrom (lackR t m) n = false → ⟨.c (.b true), [], none⟩ = E) →
    ART Try.prog 20 (cx w β 0 []) Try.f20.ntmps (cutAt Try.f20 0) (fhKn t m (6 - n : Nat)) (REff w β E)
  | 0, _, _, hz => art_eq fhEnd_w0 (hz rfl)
  | n + 1, hn, hy, hz => by
    have hj := rnd_reg hn
    have ej := rnd_nat hn
    have f0 := lt_six hj
    have f1 := b_ok t.s hj
    have f2 : (decide (0 ≤ ((6 - (n + 1) : Nat) : Int)) && decide (((6 - (n + 1) : Nat) : Int) < 6)) = true := hj
    have f3 := sr_ok t hj
    have f4 := b_eff t.s hj
    have f5 := sr_eff t hj
    have f6 := ms_ok m hj
    have f7 := ms_eff m hj
    have f8 := mr_ok m hj
    have f9 := mr_eff m hj
    have yes : lackR t m (5 - n) = true → (⟨.c (.b false), [], none⟩ : Eff) = E := fun h => hy (by rw [anyFrom, h]; rfl)
    have next : lackR t m (5 - n) = false → ART Try.prog 20 (cx w β 0 []) Try.f20.ntmps (cutAt Try.f20 0) (fhKn t m (IntKind.wrap IntKind.i64 (((6 - (n + 1) : Nat) : Int) + 1))) (REff w β E) := by
      intro hb
      rw [rnd_next hn]
      refine fhLoop n (by omega) (fun h => hy ?_) (fun h => hz ?_)
      · rw [anyFrom, hb, h]; rfl
      · rw [anyFrom, hb, h]; rfl
    refine fhRound_all (by omega) (fun a b d => ⟨f0, f1, f2, f6, f2, f3, f2, f8, f4, f7, f5, f9, valHas_ok _ _, yes ?_⟩) (fun a b d => ⟨f0, f1, f2, f6, f2, f3, f2, f8, f4, f7, f5, f9, valHas_ok _ _, low_of rfl, next ?_⟩) (fun a b => ⟨f0, f1, f2, f6, f4, f7, yes ?_⟩) (fun a => ⟨f0, f1, f4, low_of rfl, next ?_⟩)
    · rw [ej] at a b d
      unfold lackR; rw [a, b, Bool.true_and, Bool.true_and]; exact d
    · rw [ej] at a b d
      unfold lackR; rw [a, b, Bool.true_and, Bool.true_and]; exact d
    · rw [ej] at a b
      unfold lackR; rw [a, b]; rfl
    · rw [ej] at a
      unfold lackR; rw [a]; rfl
theorem fhas_ok (t : St) (m : Mach) : Ok 20 [.ag t.cs, .ag m.cs] (.c (.b (t.has m))) := by
  refine val_of Try.func20 rfl rfl rfl rfl fun w β => ?_
  refine fhTop_all (Nat.zero_le 2) (fun a => ⟨fcheck_ok t, ?_⟩) (fun a b => ⟨fcheck_ok t, ?_⟩) (fun a b d => ⟨fcheck_ok t, machCheck_ok m, ?_⟩) (fun a b d e => ⟨fcheck_ok t, machCheck_ok m, ?_⟩) (fun a b d e => ⟨fcheck_ok t, machCheck_ok m, low_of rfl, ?_⟩)
  · rw [er_ne] at a
    have a : t.ok = false := by simpa using a
    unfold St.has; rw [a]; rfl
  · have b : t.live = false := by simpa using b
    unfold St.has; rw [b]; cases t.ok <;> rfl
  · have d : ¬ machErr m = 0 := by simpa using d
    unfold St.has; rw [decide_eq_false d]; cases t.ok <;> cases t.live <;> rfl
  · have e : ¬ m.fin = 0 := by simpa using e
    unfold St.has; rw [decide_eq_false e]; cases t.ok <;> cases t.live <;> cases decide (machErr m = 0) <;> rfl
  · rw [er_ne] at a
    have a : t.ok = true := by simpa using a
    have b : t.live = true := by simpa using b
    have d : machErr m = 0 := by simpa using d
    have e : m.fin = 0 := by simpa using e
    refine fhLoop 6 (Nat.le_refl 6) (fun k => ?_) (fun k => ?_)
    · unfold St.has; rw [a, b, decide_eq_true d, decide_eq_true e, k]; rfl
    · unfold St.has; rw [a, b, decide_eq_true d, decide_eq_true e, k]; rfl

abbrev fjKn (t u b : St) (j : Int) : Kn := ⟨[(2, .c (.w 0)), (3, .c (.w 1)), (4, .c (.w 2)), (6, .c (.w 19)), (28, .c (.i j))], [(0, ⟨true, t.cs, 0⟩), (1, ⟨true, u.cs, 0⟩), (2, ⟨true, St.z.cs, 0⟩), (19, ⟨true, b.cs, 0⟩)], 20⟩
theorem fjLoop {t u : St} (ht : t.Ok) (hu : u.Ok) {w : World} {β : Bs} : ∀ n, n ≤ 6 → ∀ b : St,
    ART Try.prog 13 (cx w β 0 []) Try.f13.ntmps (cutAt Try.f13 0) (fjKn t u b (6 - n : Nat)) (REff w β ⟨.tu [.ag (joinFrom t u n b).cs, .c (.i 0)], [], none⟩)
  | 0, _, b => fjEnd_w0
  | n + 1, hn, b => by
    have hj := rnd_reg hn
    have ej := rnd_nat hn
    have hlt : 5 - n < 6 := by omega
    have f0 := lt_six hj
    have f1 := ss_ok t hj
    have f2 : (decide (0 ≤ ((6 - (n + 1) : Nat) : Int)) && decide (((6 - (n + 1) : Nat) : Int) < 6)) = true := hj
    have f3 := ss_ok u hj
    have f4 := sr_ok t hj
    have f5 := sr_ok u hj
    have f6 := ss_eff t hj
    have f7 := ss_eff u hj
    have f8 := sr_eff t hj
    have f9 := sr_eff u hj
    have next : ∀ b' : St, joinR t u (5 - n) b = b' → ART Try.prog 13 (cx w β 0 []) Try.f13.ntmps (cutAt Try.f13 0) (fjKn t u b' (IntKind.wrap IntKind.i64 (((6 - (n + 1) : Nat) : Int) + 1))) (REff w β ⟨.tu [.ag (joinFrom t u (n + 1) b).cs, .c (.i 0)], [], none⟩) := by
      intro b' hb
      rw [rnd_next hn, joinFrom, hb]
      exact fjLoop ht hu n (by omega) b'
    have hJ : t.s.get ((6 - (n + 1) : Nat) : Int).toNat = true → u.s.get ((6 - (n + 1) : Nat) : Int).toNat = true → Ok 34 [.ag (t.r.get ((6 - (n + 1) : Nat) : Int).toNat).cs, .ag (u.r.get ((6 - (n + 1) : Nat) : Int).toNat).cs] (.tu [.ag ((t.r.get ((6 - (n + 1) : Nat) : Int).toNat).join (u.r.get ((6 - (n + 1) : Nat) : Int).toNat)).cs, .c (.i 0)]) := fun a d => by
      rw [ej] at a d ⊢
      exact valJoin_ok (ht.set _ hlt a) (hu.set _ hlt d)
    refine fjRound_all (a := (t.r.get ((6 - (n + 1) : Nat) : Int).toNat).join (u.r.get ((6 - (n + 1) : Nat) : Int).toNat)) (b2 := b.wth ((6 - (n + 1) : Nat) : Int).toNat ((t.r.get ((6 - (n + 1) : Nat) : Int).toNat).join (u.r.get ((6 - (n + 1) : Nat) : Int).toNat))) (by omega)
      (fun a d => ⟨f0, f2, f1, f2, f3, f2, f4, f2, f5, f6, f7, f8, f9, hJ a d, fwith_ok _ hj, low_of rfl, next _ ?_⟩) (fun a d => ⟨f0, f2, f1, f2, f3, f6, f7, low_of rfl, next _ ?_⟩) (fun a => ⟨f0, f2, f1, f6, low_of rfl, next _ ?_⟩)
    · rw [ej] at a d ⊢
      unfold joinR; rw [a, d]; rfl
    · rw [ej] at a d
      unfold joinR; rw [a, d]; rfl
    · rw [ej] at a
      unfold joinR; rw [a]; rfl
def joinE (t u : St) : Int := if t.ok && u.ok then 0 else 1
def joinA (t u : St) : St := if t.ok && u.ok then t.join u else St.z
theorem fjoin_ok (t u : St) : Ok 13 [.ag t.cs, .ag u.cs] (.tu [.ag (joinA t u).cs, .c (.i (joinE t u))]) := by
  refine val_of Try.func13 rfl rfl rfl rfl fun w β => ?_
  have bad : (t.ok && u.ok) = false → (⟨.tu [.ag St.z.cs, .c (.i 1)], [], none⟩ : Eff) = ⟨.tu [.ag (joinA t u).cs, .c (.i (joinE t u))], [], none⟩ := fun h => by unfold joinA joinE; rw [h]; rfl
  refine fjTop_all (e := er t.ok) (f := er u.ok) (Nat.zero_le 20) (fun a => ⟨fcheck_ok t, bad ?_⟩) (fun a b => ⟨fcheck_ok t, fcheck_ok u, bad ?_⟩) (fun a b d => ⟨fcheck_ok t, fcheck_ok u, ?_⟩) (fun a b d e => ⟨fcheck_ok t, fcheck_ok u, ?_⟩) (fun a b d e => ⟨fcheck_ok t, fcheck_ok u, low_of rfl, ?_⟩)
  · rw [er_ne] at a
    rw [show t.ok = false by simpa using a]; rfl
  · rw [er_ne] at b
    rw [show u.ok = false by simpa using b]; cases t.ok <;> rfl
  all_goals
    rw [er_ne] at a b
    have a : t.ok = true := by simpa using a
    have b : u.ok = true := by simpa using b
    have hA : joinA t u = t.join u := by unfold joinA; rw [a, b]; rfl
    have hE : joinE t u = 0 := by unfold joinE; rw [a, b]; rfl
    rw [hA, hE]
    unfold St.join
  · rw [if_neg (by simpa using d)]
  · rw [if_pos (by simpa using d), if_neg (by simpa using e)]
  · rw [if_pos (by simpa using d), if_pos (by simpa using e)]
    exact fjLoop (St.ok_iff.1 a) (St.ok_iff.1 b) 6 (Nat.le_refl 6) St.e
end Go.Proofs.Ytkigmocchaikgab

/- The laws' own programs and memory. -/
namespace Go.Proofs.Ytkigmocchaikgab
def gL : List Ins := [⟨1, 0, -1, 0#64, 0⟩, ⟨14, 1, -1, 64#64, 1⟩, ⟨15, 0, 0, 0#64, 0⟩, ⟨10, 0, 1, 1#64, 0⟩, ⟨2, 0, -1, 1#64, 0⟩, ⟨15, 0, 0, 0#64, 0⟩]
def g2 : List Ins := [⟨10, 0, 1, 8#64, 0⟩, ⟨15, 0, 0, 0#64, 0⟩]
def memB : ByteArray := strOf ((List.range 64).map fun j => AC.y (BitVec.ofNat 8 (j + 1)))
def m1 : Mach := ⟨1, ⟨0#64, 9#64, 0#64, 0#64, 0#64, 0#64⟩, ⟨true, true, false, false, false, false⟩, memB, 0⟩
end Go.Proofs.Ytkigmocchaikgab
