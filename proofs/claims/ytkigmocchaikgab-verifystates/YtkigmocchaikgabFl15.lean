import Derived.Test.YtkigmocchaikgabFl2
import Derived.Test.YtkigmocchaikgabProg
import Derived.Test.YtkigmocchaikgabFl8
import Derived.Test.YtkigmocchaikgabFl3
import Derived.Test.YtkigmocchaikgabFl11
import Derived.Test.YtkigmocchaikgabFl10
/- Ways of bodies, written by a program (ways.py): what each asks for, and hands back. -/
namespace Go.Proofs.Ytkigmocchaikgab
open Go.RowKit

theorem vtErr_w0 {L : List Ins} {c : Nat} {s : ByteArray} {x : BitVec 64} {m : Mach} {e : Int} {f : Int} {w : World} {β : Bs} {n : Nat} (h : (e != 0 && true) = true) (c0 : CallOK Try.prog (CallRec.mk 23 [AV.c (AC.sl 0 0 (List.length L) c)] [(0, Ent.mk false (pcell L) 0)] (Eff.mk (AV.tu [AT.ag [AC.i 0, AC.i 0, nilSl], AT.c (AC.i e)]) [] none))) (c1 : CallOK Try.prog (CallRec.mk 11 [AV.c (AC.s s), AV.c (AC.u x)] [] (Eff.mk (AV.tu [AT.ag (Mach.cs m), AT.c (AC.i f)]) [] none))) (c2 : CallOK Try.prog (CallRec.mk 24 [] [] (Eff.mk (AV.c (AC.b true)) [] none))) :
    ART Try.prog 7 (cx w β n []) Try.f7.ntmps ([Item.code (bodyOf Try.f7)]) (Kn.start [AV.c (AC.sl 0 0 (List.length L) c), AV.c (AC.s s), AV.c (AC.u x)] [(0, Ent.mk false (pcell L) 0)] 1) (REff w β ⟨AV.c (AC.b true), [], none⟩) :=
  run_eff [] (none) 2000 [Eff.mk (AV.tu [AT.ag [AC.i 0, AC.i 0, nilSl], AT.c (AC.i e)]) [] none, Eff.mk (AV.tu [AT.ag (Mach.cs m), AT.c (AC.i f)]) [] none, Eff.mk (AV.c (AC.b true)) [] none] [true, true] ([true]) [] Try.func7 (ekeys0 rfl n) (by kernel_rfl) h (cr_cons c0 (cr_cons c1 (cr_cons c2 cr_nil)))
theorem vtNil_w0 {s : ByteArray} {x : BitVec 64} {m : Mach} {e : Int} {f : Int} (h : (e != 0 && true) = true) (c0 : CallOK Try.prog (CallRec.mk 23 [AV.c nilSl] [] (Eff.mk (AV.tu [AT.ag [AC.i 0, AC.i 0, nilSl], AT.c (AC.i e)]) [] none))) (c1 : CallOK Try.prog (CallRec.mk 11 [AV.c (AC.s s), AV.c (AC.u x)] [] (Eff.mk (AV.tu [AT.ag (Mach.cs m), AT.c (AC.i f)]) [] none))) (c2 : CallOK Try.prog (CallRec.mk 24 [] [] (Eff.mk (AV.c (AC.b true)) [] none))) :
    CallOK Try.prog ⟨7, [AV.c nilSl, AV.c (AC.s s), AV.c (AC.u x)], [], ⟨AV.c (AC.b true), [], none⟩⟩ :=
  val_run 2000 [Eff.mk (AV.tu [AT.ag [AC.i 0, AC.i 0, nilSl], AT.c (AC.i e)]) [] none, Eff.mk (AV.tu [AT.ag (Mach.cs m), AT.c (AC.i f)]) [] none, Eff.mk (AV.c (AC.b true)) [] none] [true, true] ([true]) [] Try.func7 rfl rfl rfl rfl (by kernel_rfl) h (cr_cons c0 (cr_cons c1 (cr_cons c2 cr_nil)))
theorem vtOS_w0 {L : List Ins} {c : Nat} {S : List St} {s : ByteArray} {x : BitVec 64} {m : Mach} {f : Int} {w : World} {β : Bs} {n : Nat} (h : (f != 0 && true) = true) (c0 : CallOK Try.prog (CallRec.mk 23 [AV.c (AC.sl 0 0 (List.length L) c)] [(0, Ent.mk false (pcell L) 0)] (Eff.mk (AV.tu [AT.ag [AC.i 0, AC.i 0, AC.sl 3 0 (List.length L) (List.length L)], AT.c (AC.i 0)]) [] (some (3, Ent.mk true (scell S) 0))))) (c1 : CallOK Try.prog (CallRec.mk 11 [AV.c (AC.s s), AV.c (AC.u x)] [] (Eff.mk (AV.tu [AT.ag (Mach.cs m), AT.c (AC.i f)]) [] none))) (c2 : CallOK Try.prog (CallRec.mk 24 [] [] (Eff.mk (AV.c (AC.b true)) [] none))) :
    ART Try.prog 7 (cx w β n []) Try.f7.ntmps ([Item.code (bodyOf Try.f7)]) (Kn.start [AV.c (AC.sl 0 0 (List.length L) c), AV.c (AC.s s), AV.c (AC.u x)] [(0, Ent.mk false (pcell L) 0)] 1) (REff w β ⟨AV.c (AC.b true), [], none⟩) :=
  run_eff [] (none) 2000 [Eff.mk (AV.tu [AT.ag [AC.i 0, AC.i 0, AC.sl 3 0 (List.length L) (List.length L)], AT.c (AC.i 0)]) [] (some (3, Ent.mk true (scell S) 0)), Eff.mk (AV.tu [AT.ag (Mach.cs m), AT.c (AC.i f)]) [] none, Eff.mk (AV.c (AC.b true)) [] none] [false, true] ([true]) [] Try.func7 (ekeys0 rfl n) (by kernel_rfl) h (cr_cons c0 (cr_cons c1 (cr_cons c2 cr_nil)))
theorem vtOTop_w0 {L : List Ins} {c : Nat} {S : List St} {s : ByteArray} {x : BitVec 64} {m : Mach} {f : Int} {C : Cx} {R : Ending → World → Prop} (h : (!f != 0 && true) = true) (c0 : CallOK Try.prog (CallRec.mk 23 [AV.c (AC.sl 0 0 (List.length L) c)] [(0, Ent.mk false (pcell L) 0)] (Eff.mk (AV.tu [AT.ag [AC.i 0, AC.i 0, AC.sl 3 0 (List.length L) (List.length L)], AT.c (AC.i 0)]) [] (some (3, Ent.mk true (scell S) 0))))) (c1 : CallOK Try.prog (CallRec.mk 11 [AV.c (AC.s s), AV.c (AC.u x)] [] (Eff.mk (AV.tu [AT.ag (Mach.cs m), AT.c (AC.i f)]) [] none))) (lo : Kn.Low ⟨[(0, AV.c (AC.sl 0 0 (List.length L) c)), (7, AV.c (AC.w 7)), (9, AV.c (AC.w 16)), (11, AV.c (AC.i 0))], [(0, Ent.mk false (pcell L) 0), (3, Ent.mk true (scell S) 0), (7, Ent.mk true [AC.i 0, AC.i 0, AC.sl 3 0 (List.length L) (List.length L)] 0), (16, Ent.mk true (Mach.cs m) 0)], 17⟩) (hF : ∀ k, C.F k → k < 17) (z : ART Try.prog 7 C Try.f7.ntmps (cutAt Try.f7 0) ⟨[(0, AV.c (AC.sl 0 0 (List.length L) c)), (7, AV.c (AC.w 7)), (9, AV.c (AC.w 16)), (11, AV.c (AC.i 0))], [(0, Ent.mk false (pcell L) 0), (3, Ent.mk true (scell S) 0), (7, Ent.mk true [AC.i 0, AC.i 0, AC.sl 3 0 (List.length L) (List.length L)] 0), (16, Ent.mk true (Mach.cs m) 0)], 17⟩ R) :
    ART Try.prog 7 C Try.f7.ntmps ([Item.code (bodyOf Try.f7)]) (Kn.start [AV.c (AC.sl 0 0 (List.length L) c), AV.c (AC.s s), AV.c (AC.u x)] [(0, Ent.mk false (pcell L) 0)] 1) R :=
  run_cut ⟨[(0, AV.c (AC.sl 0 0 (List.length L) c)), (7, AV.c (AC.w 7)), (9, AV.c (AC.w 16)), (11, AV.c (AC.i 0))], [(0, Ent.mk false (pcell L) 0), (3, Ent.mk true (scell S) 0), (7, Ent.mk true [AC.i 0, AC.i 0, AC.sl 3 0 (List.length L) (List.length L)] 0), (16, Ent.mk true (Mach.cs m) 0)], 17⟩ 2000 [Eff.mk (AV.tu [AT.ag [AC.i 0, AC.i 0, AC.sl 3 0 (List.length L) (List.length L)], AT.c (AC.i 0)]) [] (some (3, Ent.mk true (scell S) 0)), Eff.mk (AV.tu [AT.ag (Mach.cs m), AT.c (AC.i f)]) [] none] [false, false] ([true]) [] Try.func7 (by kernel_rfl) h (cr_cons c0 (cr_cons c1 cr_nil)) lo hF z
theorem vtOA_w0 {L : List Ins} {c : Nat} {j : Nat} {S : List St} {m : Mach} {C : Cx} {R : Ending → World → Prop} (h : (decide ((↑j : Int) < (↑(List.length L) : Int)) && (decide ((↑j : Int) < (↑(List.length L) : Int)) && (Nat.ble (0 + Int.toNat (↑j : Int) * 31 + 31) (List.length (scell S)) && true))) = true) (c0 : Eff.mk (AV.ag (List.take 31 (List.drop (0 + Int.toNat (↑j : Int) * 31) (scell S)))) [] none = Eff.mk (AV.ag (St.cs (stAt S j))) [] none) (c1 : CallOK Try.prog (CallRec.mk 17 [AV.ag (St.cs (stAt S j))] [] (Eff.mk (AV.c (AC.i 0)) [] none))) (c2 : Eff.mk (AV.c (AC.i (IntKind.wrap IntKind.i64 ((↑j : Int) + 1)))) [] none = Eff.mk (AV.c (AC.i (↑(j + 1) : Int))) [] none) (lo : Kn.Low ⟨[(0, AV.c (AC.sl 0 0 (List.length L) c)), (7, AV.c (AC.w 7)), (9, AV.c (AC.w 16)), (11, AV.c (AC.i (↑(j + 1) : Int)))], [(0, Ent.mk false (pcell L) 0), (3, Ent.mk true (scell S) 0), (7, Ent.mk true [AC.i 0, AC.i 0, AC.sl 3 0 (List.length L) (List.length L)] 0), (16, Ent.mk true (Mach.cs m) 0)], 17⟩) (hF : ∀ k, C.F k → k < 17) (z : ART Try.prog 7 C Try.f7.ntmps (cutAt Try.f7 0) ⟨[(0, AV.c (AC.sl 0 0 (List.length L) c)), (7, AV.c (AC.w 7)), (9, AV.c (AC.w 16)), (11, AV.c (AC.i (↑(j + 1) : Int)))], [(0, Ent.mk false (pcell L) 0), (3, Ent.mk true (scell S) 0), (7, Ent.mk true [AC.i 0, AC.i 0, AC.sl 3 0 (List.length L) (List.length L)] 0), (16, Ent.mk true (Mach.cs m) 0)], 17⟩ R) :
    ART Try.prog 7 C Try.f7.ntmps (cutAt Try.f7 0) (Kn.mk [(0, AV.c (AC.sl 0 0 (List.length L) c)), (7, AV.c (AC.w 7)), (9, AV.c (AC.w 16)), (11, AV.c (AC.i (↑j : Int)))] [(0, Ent.mk false (pcell L) 0), (3, Ent.mk true (scell S) 0), (7, Ent.mk true [AC.i 0, AC.i 0, AC.sl 3 0 (List.length L) (List.length L)] 0), (16, Ent.mk true (Mach.cs m) 0)] 17) R :=
  run_cut ⟨[(0, AV.c (AC.sl 0 0 (List.length L) c)), (7, AV.c (AC.w 7)), (9, AV.c (AC.w 16)), (11, AV.c (AC.i (↑(j + 1) : Int)))], [(0, Ent.mk false (pcell L) 0), (3, Ent.mk true (scell S) 0), (7, Ent.mk true [AC.i 0, AC.i 0, AC.sl 3 0 (List.length L) (List.length L)] 0), (16, Ent.mk true (Mach.cs m) 0)], 17⟩ 2000 [Eff.mk (AV.ag (St.cs (stAt S j))) [] none, Eff.mk (AV.c (AC.i 0)) [] none, Eff.mk (AV.c (AC.i (↑(j + 1) : Int))) [] none] [true, false] ([true]) [(8, 4), (7, 1)] Try.func7 (by kernel_rfl) h (cr_same c0 (cr_cons c1 (cr_same c2 cr_nil))) lo hF z
theorem vtOAx_w0 {L : List Ins} {c : Nat} {j : Nat} {S : List St} {m : Mach} {C : Cx} {R : Ending → World → Prop} (h : (!decide ((↑j : Int) < (↑(List.length L) : Int)) && true) = true) (lo : Kn.Low ⟨[(0, AV.c (AC.sl 0 0 (List.length L) c)), (7, AV.c (AC.w 7)), (9, AV.c (AC.w 16)), (12, AV.c (AC.i 0))], [(0, Ent.mk false (pcell L) 0), (3, Ent.mk true (scell S) 0), (7, Ent.mk true [AC.i 0, AC.i 0, AC.sl 3 0 (List.length L) (List.length L)] 0), (16, Ent.mk true (Mach.cs m) 0)], 17⟩) (hF : ∀ k, C.F k → k < 17) (z : ART Try.prog 7 C Try.f7.ntmps (cutAt Try.f7 1) ⟨[(0, AV.c (AC.sl 0 0 (List.length L) c)), (7, AV.c (AC.w 7)), (9, AV.c (AC.w 16)), (12, AV.c (AC.i 0))], [(0, Ent.mk false (pcell L) 0), (3, Ent.mk true (scell S) 0), (7, Ent.mk true [AC.i 0, AC.i 0, AC.sl 3 0 (List.length L) (List.length L)] 0), (16, Ent.mk true (Mach.cs m) 0)], 17⟩ R) :
    ART Try.prog 7 C Try.f7.ntmps (cutAt Try.f7 0) (Kn.mk [(0, AV.c (AC.sl 0 0 (List.length L) c)), (7, AV.c (AC.w 7)), (9, AV.c (AC.w 16)), (11, AV.c (AC.i (↑j : Int)))] [(0, Ent.mk false (pcell L) 0), (3, Ent.mk true (scell S) 0), (7, Ent.mk true [AC.i 0, AC.i 0, AC.sl 3 0 (List.length L) (List.length L)] 0), (16, Ent.mk true (Mach.cs m) 0)] 17) R :=
  run_cut ⟨[(0, AV.c (AC.sl 0 0 (List.length L) c)), (7, AV.c (AC.w 7)), (9, AV.c (AC.w 16)), (12, AV.c (AC.i 0))], [(0, Ent.mk false (pcell L) 0), (3, Ent.mk true (scell S) 0), (7, Ent.mk true [AC.i 0, AC.i 0, AC.sl 3 0 (List.length L) (List.length L)] 0), (16, Ent.mk true (Mach.cs m) 0)], 17⟩ 2000 [] [false] ([true]) [] Try.func7 (by kernel_rfl) h cr_nil lo hF z
theorem vtOX1_w0 {L : List Ins} {c : Nat} {j : Nat} {S : List St} {m : Mach} {w : World} {β : Bs} {n : Nat} (h : (!decide ((↑j : Int) < (↑(List.length L) : Int)) && true) = true) (c0 : CallOK Try.prog (CallRec.mk 24 [] [] (Eff.mk (AV.c (AC.b true)) [] none))) :
    ART Try.prog 7 (cx w β n []) Try.f7.ntmps (cutAt Try.f7 1) (Kn.mk [(0, AV.c (AC.sl 0 0 (List.length L) c)), (7, AV.c (AC.w 7)), (9, AV.c (AC.w 16)), (12, AV.c (AC.i (↑j : Int)))] [(0, Ent.mk false (pcell L) 0), (3, Ent.mk true (scell S) 0), (7, Ent.mk true [AC.i 0, AC.i 0, AC.sl 3 0 (List.length L) (List.length L)] 0), (16, Ent.mk true (Mach.cs m) 0)] 17) (REff w β ⟨AV.c (AC.b true), [], none⟩) :=
  run_eff [] (none) 2000 [Eff.mk (AV.c (AC.b true)) [] none] [false, false] ([true]) [] Try.func7 (ekeys0 rfl n) (by kernel_rfl) h (cr_cons c0 cr_nil)
theorem vtOX2_w0 {L : List Ins} {c : Nat} {j : Nat} {S : List St} {m : Mach} {w : World} {β : Bs} {n : Nat} (h : (decide ((↑j : Int) < (↑(List.length L) : Int)) && (!Mach.fin m == 0 && true)) = true) (c0 : CallOK Try.prog (CallRec.mk 24 [] [] (Eff.mk (AV.c (AC.b true)) [] none))) :
    ART Try.prog 7 (cx w β n []) Try.f7.ntmps (cutAt Try.f7 1) (Kn.mk [(0, AV.c (AC.sl 0 0 (List.length L) c)), (7, AV.c (AC.w 7)), (9, AV.c (AC.w 16)), (12, AV.c (AC.i (↑j : Int)))] [(0, Ent.mk false (pcell L) 0), (3, Ent.mk true (scell S) 0), (7, Ent.mk true [AC.i 0, AC.i 0, AC.sl 3 0 (List.length L) (List.length L)] 0), (16, Ent.mk true (Mach.cs m) 0)] 17) (REff w β ⟨AV.c (AC.b true), [], none⟩) :=
  run_eff [] (none) 2000 [Eff.mk (AV.c (AC.b true)) [] none] [true, false] ([true]) [] Try.func7 (ekeys0 rfl n) (by kernel_rfl) h (cr_cons c0 cr_nil)
theorem vtOB_w0 {L : List Ins} {c : Nat} {j : Nat} {S : List St} {m : Mach} {n1 : Mach} {C : Cx} {R : Ending → World → Prop} (h : (decide ((↑j : Int) < (↑(List.length L) : Int)) && (Mach.fin m == 0 && (!decide ((↑(List.length L) : Int) ≤ Mach.t m) && (decide (0 ≤ Mach.t m) && decide (Mach.t m < (↑(List.length L) : Int)) && (Nat.ble (0 + Int.toNat (Mach.t m) * 31 + 31) (List.length (scell S)) && true))))) = true) (c0 : Eff.mk (AV.ag (List.take 31 (List.drop (0 + Int.toNat (Mach.t m) * 31) (scell S)))) [] none = Eff.mk (AV.ag (St.cs (stAt S (Int.toNat (Mach.t m))))) [] none) (c1 : CallOK Try.prog (CallRec.mk 20 [AV.ag (St.cs (stAt S (Int.toNat (Mach.t m)))), AV.ag (Mach.cs m)] [] (Eff.mk (AV.c (AC.b true)) [] none))) (c2 : CallOK Try.prog (CallRec.mk 12 [AV.c (AC.sl 0 0 (List.length L) c), AV.ag (Mach.cs m)] [(0, Ent.mk false (pcell L) 0)] (Eff.mk (AV.tu [AT.ag (Mach.cs n1), AT.c (AC.i 0)]) [] none))) (c3 : Eff.mk (AV.c (AC.i (IntKind.wrap IntKind.i64 ((↑j : Int) + 1)))) [] none = Eff.mk (AV.c (AC.i (↑(j + 1) : Int))) [] none) (lo : Kn.Low ⟨[(0, AV.c (AC.sl 0 0 (List.length L) c)), (7, AV.c (AC.w 7)), (9, AV.c (AC.w 16)), (12, AV.c (AC.i (↑(j + 1) : Int)))], [(0, Ent.mk false (pcell L) 0), (3, Ent.mk true (scell S) 0), (7, Ent.mk true [AC.i 0, AC.i 0, AC.sl 3 0 (List.length L) (List.length L)] 0), (16, Ent.mk true (Mach.cs n1) 0)], 17⟩) (hF : ∀ k, C.F k → k < 17) (z : ART Try.prog 7 C Try.f7.ntmps (cutAt Try.f7 1) ⟨[(0, AV.c (AC.sl 0 0 (List.length L) c)), (7, AV.c (AC.w 7)), (9, AV.c (AC.w 16)), (12, AV.c (AC.i (↑(j + 1) : Int)))], [(0, Ent.mk false (pcell L) 0), (3, Ent.mk true (scell S) 0), (7, Ent.mk true [AC.i 0, AC.i 0, AC.sl 3 0 (List.length L) (List.length L)] 0), (16, Ent.mk true (Mach.cs n1) 0)], 17⟩ R) :
    ART Try.prog 7 C Try.f7.ntmps (cutAt Try.f7 1) (Kn.mk [(0, AV.c (AC.sl 0 0 (List.length L) c)), (7, AV.c (AC.w 7)), (9, AV.c (AC.w 16)), (12, AV.c (AC.i (↑j : Int)))] [(0, Ent.mk false (pcell L) 0), (3, Ent.mk true (scell S) 0), (7, Ent.mk true [AC.i 0, AC.i 0, AC.sl 3 0 (List.length L) (List.length L)] 0), (16, Ent.mk true (Mach.cs m) 0)] 17) R :=
  run_cut ⟨[(0, AV.c (AC.sl 0 0 (List.length L) c)), (7, AV.c (AC.w 7)), (9, AV.c (AC.w 16)), (12, AV.c (AC.i (↑(j + 1) : Int)))], [(0, Ent.mk false (pcell L) 0), (3, Ent.mk true (scell S) 0), (7, Ent.mk true [AC.i 0, AC.i 0, AC.sl 3 0 (List.length L) (List.length L)] 0), (16, Ent.mk true (Mach.cs n1) 0)], 17⟩ 2000 [Eff.mk (AV.ag (St.cs (stAt S (Int.toNat (Mach.t m))))) [] none, Eff.mk (AV.c (AC.b true)) [] none, Eff.mk (AV.tu [AT.ag (Mach.cs n1), AT.c (AC.i 0)]) [] none, Eff.mk (AV.c (AC.i (↑(j + 1) : Int))) [] none] [true, true, false, false, false, false, false] ([true]) [(17, 12), (12, 1)] Try.func7 (by kernel_rfl) h (cr_same c0 (cr_cons c1 (cr_cons c2 (cr_same c3 cr_nil)))) lo hF z
theorem vtTS_w0 {L : List Ins} {c : Nat} {q : Nat} {S : List St} {s : ByteArray} {x : BitVec 64} {m : Mach} {f : Int} {tr : Int} {p : Int} {w : World} {β : Bs} {n : Nat} (h : (f != 0 && true) = true) (c0 : CallOK Try.prog (CallRec.mk 23 [AV.c (AC.sl 0 0 (List.length L) c)] [(0, Ent.mk false (pcell L) 0)] (Eff.mk (AV.tu [AT.ag [AC.i tr, AC.i p, AC.sx 3 q], AT.c (AC.i 0)]) [] (some (3, Ent.mk true (scell S) 31))))) (c1 : CallOK Try.prog (CallRec.mk 11 [AV.c (AC.s s), AV.c (AC.u x)] [] (Eff.mk (AV.tu [AT.ag (Mach.cs m), AT.c (AC.i f)]) [] none))) (c2 : CallOK Try.prog (CallRec.mk 24 [] [] (Eff.mk (AV.c (AC.b true)) [] none))) :
    ART Try.prog 7 (cx w β n []) Try.f7.ntmps ([Item.code (bodyOf Try.f7)]) (Kn.start [AV.c (AC.sl 0 0 (List.length L) c), AV.c (AC.s s), AV.c (AC.u x)] [(0, Ent.mk false (pcell L) 0)] 1) (REff w β ⟨AV.c (AC.b true), [], none⟩) :=
  run_eff [] (none) 2000 [Eff.mk (AV.tu [AT.ag [AC.i tr, AC.i p, AC.sx 3 q], AT.c (AC.i 0)]) [] (some (3, Ent.mk true (scell S) 31)), Eff.mk (AV.tu [AT.ag (Mach.cs m), AT.c (AC.i f)]) [] none, Eff.mk (AV.c (AC.b true)) [] none] [false, true] ([true]) [] Try.func7 (ekeys0 rfl n) (by kernel_rfl) h (cr_cons c0 (cr_cons c1 (cr_cons c2 cr_nil)))
theorem vtTTop_w0 {L : List Ins} {c : Nat} {q : Nat} {S : List St} {s : ByteArray} {x : BitVec 64} {m : Mach} {f : Int} {tr : Int} {p : Int} {C : Cx} {R : Ending → World → Prop} (h : (!f != 0 && true) = true) (c0 : CallOK Try.prog (CallRec.mk 23 [AV.c (AC.sl 0 0 (List.length L) c)] [(0, Ent.mk false (pcell L) 0)] (Eff.mk (AV.tu [AT.ag [AC.i tr, AC.i p, AC.sx 3 q], AT.c (AC.i 0)]) [] (some (3, Ent.mk true (scell S) 31))))) (c1 : CallOK Try.prog (CallRec.mk 11 [AV.c (AC.s s), AV.c (AC.u x)] [] (Eff.mk (AV.tu [AT.ag (Mach.cs m), AT.c (AC.i f)]) [] none))) (lo : Kn.Low ⟨[(0, AV.c (AC.sl 0 0 (List.length L) c)), (7, AV.c (AC.w 7)), (9, AV.c (AC.w 16)), (11, AV.c (AC.i 0))], [(0, Ent.mk false (pcell L) 0), (3, Ent.mk true (scell S) 31), (7, Ent.mk true [AC.i tr, AC.i p, AC.sx 3 q] 0), (16, Ent.mk true (Mach.cs m) 0)], 17⟩) (hF : ∀ k, C.F k → k < 17) (z : ART Try.prog 7 C Try.f7.ntmps (cutAt Try.f7 0) ⟨[(0, AV.c (AC.sl 0 0 (List.length L) c)), (7, AV.c (AC.w 7)), (9, AV.c (AC.w 16)), (11, AV.c (AC.i 0))], [(0, Ent.mk false (pcell L) 0), (3, Ent.mk true (scell S) 31), (7, Ent.mk true [AC.i tr, AC.i p, AC.sx 3 q] 0), (16, Ent.mk true (Mach.cs m) 0)], 17⟩ R) :
    ART Try.prog 7 C Try.f7.ntmps ([Item.code (bodyOf Try.f7)]) (Kn.start [AV.c (AC.sl 0 0 (List.length L) c), AV.c (AC.s s), AV.c (AC.u x)] [(0, Ent.mk false (pcell L) 0)] 1) R :=
  run_cut ⟨[(0, AV.c (AC.sl 0 0 (List.length L) c)), (7, AV.c (AC.w 7)), (9, AV.c (AC.w 16)), (11, AV.c (AC.i 0))], [(0, Ent.mk false (pcell L) 0), (3, Ent.mk true (scell S) 31), (7, Ent.mk true [AC.i tr, AC.i p, AC.sx 3 q] 0), (16, Ent.mk true (Mach.cs m) 0)], 17⟩ 2000 [Eff.mk (AV.tu [AT.ag [AC.i tr, AC.i p, AC.sx 3 q], AT.c (AC.i 0)]) [] (some (3, Ent.mk true (scell S) 31)), Eff.mk (AV.tu [AT.ag (Mach.cs m), AT.c (AC.i f)]) [] none] [false, false] ([true]) [] Try.func7 (by kernel_rfl) h (cr_cons c0 (cr_cons c1 cr_nil)) lo hF z
theorem vtTA_w0 {L : List Ins} {c : Nat} {q : Nat} {j : Nat} {S : List St} {m : Mach} {tr : Int} {p : Int} {C : Cx} {R : Ending → World → Prop} (h : (decide ((↑j : Int) < (↑q : Int)) && (decide ((↑j : Int) < (↑q : Int)) && (Nat.ble (Int.toNat (↑j : Int) * 31 + 31) (List.length (scell S)) && true))) = true) (c0 : Eff.mk (AV.ag (List.take 31 (List.drop (Int.toNat (↑j : Int) * 31) (scell S)))) [] none = Eff.mk (AV.ag (St.cs (stAt S j))) [] none) (c1 : CallOK Try.prog (CallRec.mk 17 [AV.ag (St.cs (stAt S j))] [] (Eff.mk (AV.c (AC.i 0)) [] none))) (c2 : Eff.mk (AV.c (AC.i (IntKind.wrap IntKind.i64 ((↑j : Int) + 1)))) [] none = Eff.mk (AV.c (AC.i (↑(j + 1) : Int))) [] none) (lo : Kn.Low ⟨[(0, AV.c (AC.sl 0 0 (List.length L) c)), (7, AV.c (AC.w 7)), (9, AV.c (AC.w 16)), (11, AV.c (AC.i (↑(j + 1) : Int)))], [(0, Ent.mk false (pcell L) 0), (3, Ent.mk true (scell S) 31), (7, Ent.mk true [AC.i tr, AC.i p, AC.sx 3 q] 0), (16, Ent.mk true (Mach.cs m) 0)], 17⟩) (hF : ∀ k, C.F k → k < 17) (z : ART Try.prog 7 C Try.f7.ntmps (cutAt Try.f7 0) ⟨[(0, AV.c (AC.sl 0 0 (List.length L) c)), (7, AV.c (AC.w 7)), (9, AV.c (AC.w 16)), (11, AV.c (AC.i (↑(j + 1) : Int)))], [(0, Ent.mk false (pcell L) 0), (3, Ent.mk true (scell S) 31), (7, Ent.mk true [AC.i tr, AC.i p, AC.sx 3 q] 0), (16, Ent.mk true (Mach.cs m) 0)], 17⟩ R) :
    ART Try.prog 7 C Try.f7.ntmps (cutAt Try.f7 0) (Kn.mk [(0, AV.c (AC.sl 0 0 (List.length L) c)), (7, AV.c (AC.w 7)), (9, AV.c (AC.w 16)), (11, AV.c (AC.i (↑j : Int)))] [(0, Ent.mk false (pcell L) 0), (3, Ent.mk true (scell S) 31), (7, Ent.mk true [AC.i tr, AC.i p, AC.sx 3 q] 0), (16, Ent.mk true (Mach.cs m) 0)] 17) R :=
  run_cut ⟨[(0, AV.c (AC.sl 0 0 (List.length L) c)), (7, AV.c (AC.w 7)), (9, AV.c (AC.w 16)), (11, AV.c (AC.i (↑(j + 1) : Int)))], [(0, Ent.mk false (pcell L) 0), (3, Ent.mk true (scell S) 31), (7, Ent.mk true [AC.i tr, AC.i p, AC.sx 3 q] 0), (16, Ent.mk true (Mach.cs m) 0)], 17⟩ 2000 [Eff.mk (AV.ag (St.cs (stAt S j))) [] none, Eff.mk (AV.c (AC.i 0)) [] none, Eff.mk (AV.c (AC.i (↑(j + 1) : Int))) [] none] [true, false] ([true]) [(8, 4), (7, 1)] Try.func7 (by kernel_rfl) h (cr_same c0 (cr_cons c1 (cr_same c2 cr_nil))) lo hF z
theorem vtTAx_w0 {L : List Ins} {c : Nat} {q : Nat} {j : Nat} {S : List St} {m : Mach} {tr : Int} {p : Int} {C : Cx} {R : Ending → World → Prop} (h : (!decide ((↑j : Int) < (↑q : Int)) && true) = true) (lo : Kn.Low ⟨[(0, AV.c (AC.sl 0 0 (List.length L) c)), (7, AV.c (AC.w 7)), (9, AV.c (AC.w 16)), (12, AV.c (AC.i 0))], [(0, Ent.mk false (pcell L) 0), (3, Ent.mk true (scell S) 31), (7, Ent.mk true [AC.i tr, AC.i p, AC.sx 3 q] 0), (16, Ent.mk true (Mach.cs m) 0)], 17⟩) (hF : ∀ k, C.F k → k < 17) (z : ART Try.prog 7 C Try.f7.ntmps (cutAt Try.f7 1) ⟨[(0, AV.c (AC.sl 0 0 (List.length L) c)), (7, AV.c (AC.w 7)), (9, AV.c (AC.w 16)), (12, AV.c (AC.i 0))], [(0, Ent.mk false (pcell L) 0), (3, Ent.mk true (scell S) 31), (7, Ent.mk true [AC.i tr, AC.i p, AC.sx 3 q] 0), (16, Ent.mk true (Mach.cs m) 0)], 17⟩ R) :
    ART Try.prog 7 C Try.f7.ntmps (cutAt Try.f7 0) (Kn.mk [(0, AV.c (AC.sl 0 0 (List.length L) c)), (7, AV.c (AC.w 7)), (9, AV.c (AC.w 16)), (11, AV.c (AC.i (↑j : Int)))] [(0, Ent.mk false (pcell L) 0), (3, Ent.mk true (scell S) 31), (7, Ent.mk true [AC.i tr, AC.i p, AC.sx 3 q] 0), (16, Ent.mk true (Mach.cs m) 0)] 17) R :=
  run_cut ⟨[(0, AV.c (AC.sl 0 0 (List.length L) c)), (7, AV.c (AC.w 7)), (9, AV.c (AC.w 16)), (12, AV.c (AC.i 0))], [(0, Ent.mk false (pcell L) 0), (3, Ent.mk true (scell S) 31), (7, Ent.mk true [AC.i tr, AC.i p, AC.sx 3 q] 0), (16, Ent.mk true (Mach.cs m) 0)], 17⟩ 2000 [] [false] ([true]) [] Try.func7 (by kernel_rfl) h cr_nil lo hF z
theorem vtTX1_w0 {L : List Ins} {c : Nat} {q : Nat} {j : Nat} {S : List St} {m : Mach} {tr : Int} {p : Int} {w : World} {β : Bs} {n : Nat} (h : (!decide ((↑j : Int) < (↑(List.length L) : Int)) && true) = true) (c0 : CallOK Try.prog (CallRec.mk 24 [] [] (Eff.mk (AV.c (AC.b true)) [] none))) :
    ART Try.prog 7 (cx w β n []) Try.f7.ntmps (cutAt Try.f7 1) (Kn.mk [(0, AV.c (AC.sl 0 0 (List.length L) c)), (7, AV.c (AC.w 7)), (9, AV.c (AC.w 16)), (12, AV.c (AC.i (↑j : Int)))] [(0, Ent.mk false (pcell L) 0), (3, Ent.mk true (scell S) 31), (7, Ent.mk true [AC.i tr, AC.i p, AC.sx 3 q] 0), (16, Ent.mk true (Mach.cs m) 0)] 17) (REff w β ⟨AV.c (AC.b true), [], none⟩) :=
  run_eff [] (none) 2000 [Eff.mk (AV.c (AC.b true)) [] none] [false, false] ([true]) [] Try.func7 (ekeys0 rfl n) (by kernel_rfl) h (cr_cons c0 cr_nil)
theorem vtTX2_w0 {L : List Ins} {c : Nat} {q : Nat} {j : Nat} {S : List St} {m : Mach} {tr : Int} {p : Int} {w : World} {β : Bs} {n : Nat} (h : (decide ((↑j : Int) < (↑(List.length L) : Int)) && (!Mach.fin m == 0 && true)) = true) (c0 : CallOK Try.prog (CallRec.mk 24 [] [] (Eff.mk (AV.c (AC.b true)) [] none))) :
    ART Try.prog 7 (cx w β n []) Try.f7.ntmps (cutAt Try.f7 1) (Kn.mk [(0, AV.c (AC.sl 0 0 (List.length L) c)), (7, AV.c (AC.w 7)), (9, AV.c (AC.w 16)), (12, AV.c (AC.i (↑j : Int)))] [(0, Ent.mk false (pcell L) 0), (3, Ent.mk true (scell S) 31), (7, Ent.mk true [AC.i tr, AC.i p, AC.sx 3 q] 0), (16, Ent.mk true (Mach.cs m) 0)] 17) (REff w β ⟨AV.c (AC.b true), [], none⟩) :=
  run_eff [] (none) 2000 [Eff.mk (AV.c (AC.b true)) [] none] [true, false] ([true]) [] Try.func7 (ekeys0 rfl n) (by kernel_rfl) h (cr_cons c0 cr_nil)
theorem vtTB_w0 {L : List Ins} {c : Nat} {q : Nat} {j : Nat} {S : List St} {m : Mach} {n1 : Mach} {tr : Int} {p : Int} {C : Cx} {R : Ending → World → Prop} (h : (decide ((↑j : Int) < (↑(List.length L) : Int)) && (Mach.fin m == 0 && (tr != 0 && (!decide (p ≤ Mach.t m) && (!decide ((↑q : Int) ≤ Mach.t m) && (decide (0 ≤ Mach.t m) && decide (Mach.t m < (↑q : Int)) && (Nat.ble (Int.toNat (Mach.t m) * 31 + 31) (List.length (scell S)) && true))))))) = true) (c0 : Eff.mk (AV.ag (List.take 31 (List.drop (Int.toNat (Mach.t m) * 31) (scell S)))) [] none = Eff.mk (AV.ag (St.cs (stAt S (Int.toNat (Mach.t m))))) [] none) (c1 : CallOK Try.prog (CallRec.mk 20 [AV.ag (St.cs (stAt S (Int.toNat (Mach.t m)))), AV.ag (Mach.cs m)] [] (Eff.mk (AV.c (AC.b true)) [] none))) (c2 : CallOK Try.prog (CallRec.mk 12 [AV.c (AC.sl 0 0 (List.length L) c), AV.ag (Mach.cs m)] [(0, Ent.mk false (pcell L) 0)] (Eff.mk (AV.tu [AT.ag (Mach.cs n1), AT.c (AC.i 0)]) [] none))) (c3 : Eff.mk (AV.c (AC.i (IntKind.wrap IntKind.i64 ((↑j : Int) + 1)))) [] none = Eff.mk (AV.c (AC.i (↑(j + 1) : Int))) [] none) (lo : Kn.Low ⟨[(0, AV.c (AC.sl 0 0 (List.length L) c)), (7, AV.c (AC.w 7)), (9, AV.c (AC.w 16)), (12, AV.c (AC.i (↑(j + 1) : Int)))], [(0, Ent.mk false (pcell L) 0), (3, Ent.mk true (scell S) 31), (7, Ent.mk true [AC.i tr, AC.i p, AC.sx 3 q] 0), (16, Ent.mk true (Mach.cs n1) 0)], 17⟩) (hF : ∀ k, C.F k → k < 17) (z : ART Try.prog 7 C Try.f7.ntmps (cutAt Try.f7 1) ⟨[(0, AV.c (AC.sl 0 0 (List.length L) c)), (7, AV.c (AC.w 7)), (9, AV.c (AC.w 16)), (12, AV.c (AC.i (↑(j + 1) : Int)))], [(0, Ent.mk false (pcell L) 0), (3, Ent.mk true (scell S) 31), (7, Ent.mk true [AC.i tr, AC.i p, AC.sx 3 q] 0), (16, Ent.mk true (Mach.cs n1) 0)], 17⟩ R) :
    ART Try.prog 7 C Try.f7.ntmps (cutAt Try.f7 1) (Kn.mk [(0, AV.c (AC.sl 0 0 (List.length L) c)), (7, AV.c (AC.w 7)), (9, AV.c (AC.w 16)), (12, AV.c (AC.i (↑j : Int)))] [(0, Ent.mk false (pcell L) 0), (3, Ent.mk true (scell S) 31), (7, Ent.mk true [AC.i tr, AC.i p, AC.sx 3 q] 0), (16, Ent.mk true (Mach.cs m) 0)] 17) R :=
  run_cut ⟨[(0, AV.c (AC.sl 0 0 (List.length L) c)), (7, AV.c (AC.w 7)), (9, AV.c (AC.w 16)), (12, AV.c (AC.i (↑(j + 1) : Int)))], [(0, Ent.mk false (pcell L) 0), (3, Ent.mk true (scell S) 31), (7, Ent.mk true [AC.i tr, AC.i p, AC.sx 3 q] 0), (16, Ent.mk true (Mach.cs n1) 0)], 17⟩ 2000 [Eff.mk (AV.ag (St.cs (stAt S (Int.toNat (Mach.t m))))) [] none, Eff.mk (AV.c (AC.b true)) [] none, Eff.mk (AV.tu [AT.ag (Mach.cs n1), AT.c (AC.i 0)]) [] none, Eff.mk (AV.c (AC.i (↑(j + 1) : Int))) [] none] [true, true, true, false, false, false, false] ([true]) [(17, 12), (12, 1)] Try.func7 (by kernel_rfl) h (cr_same c0 (cr_cons c1 (cr_cons c2 (cr_same c3 cr_nil)))) lo hF z
theorem vtTE_w0 {L : List Ins} {c : Nat} {q : Nat} {j : Nat} {S : List St} {m : Mach} {tr : Int} {p : Int} {w : World} {β : Bs} {n : Nat} (h : (decide ((↑j : Int) < (↑(List.length L) : Int)) && (Mach.fin m == 0 && (tr != 0 && (decide (p ≤ Mach.t m) && (Mach.t m == p && (decide (0 ≤ Mach.t m) && decide (Mach.t m < (↑q : Int)) && (Nat.ble (Int.toNat (Mach.t m) * 31 + 31) (List.length (scell S)) && true))))))) = true) (c0 : Eff.mk (AV.ag (List.take 31 (List.drop (Int.toNat (Mach.t m) * 31) (scell S)))) [] none = Eff.mk (AV.ag (St.cs (stAt S (Int.toNat (Mach.t m))))) [] none) (c1 : CallOK Try.prog (CallRec.mk 20 [AV.ag (St.cs (stAt S (Int.toNat (Mach.t m)))), AV.ag (Mach.cs m)] [] (Eff.mk (AV.c (AC.b true)) [] none))) (c2 : CallOK Try.prog (CallRec.mk 24 [] [] (Eff.mk (AV.c (AC.b true)) [] none))) :
    ART Try.prog 7 (cx w β n []) Try.f7.ntmps (cutAt Try.f7 1) (Kn.mk [(0, AV.c (AC.sl 0 0 (List.length L) c)), (7, AV.c (AC.w 7)), (9, AV.c (AC.w 16)), (12, AV.c (AC.i (↑j : Int)))] [(0, Ent.mk false (pcell L) 0), (3, Ent.mk true (scell S) 31), (7, Ent.mk true [AC.i tr, AC.i p, AC.sx 3 q] 0), (16, Ent.mk true (Mach.cs m) 0)] 17) (REff w β ⟨AV.c (AC.b true), [], none⟩) :=
  run_eff [] (none) 2000 [Eff.mk (AV.ag (St.cs (stAt S (Int.toNat (Mach.t m))))) [] none, Eff.mk (AV.c (AC.b true)) [] none, Eff.mk (AV.c (AC.b true)) [] none] [true, true, true, true, true, false] ([true]) [(14, 11)] Try.func7 (ekeys0 rfl n) (by kernel_rfl) h (cr_same c0 (cr_cons c1 (cr_cons c2 cr_nil)))
theorem vtTP_w0 {L : List Ins} {c : Nat} {q : Nat} {j : Nat} {S : List St} {m : Mach} {tr : Int} {p : Int} {w : World} {β : Bs} {n : Nat} (h : (decide ((↑j : Int) < (↑(List.length L) : Int)) && (Mach.fin m == 0 && (tr != 0 && (decide (p ≤ Mach.t m) && (!Mach.t m == p && true))))) = true) (c0 : CallOK Try.prog (CallRec.mk 24 [] [] (Eff.mk (AV.c (AC.b true)) [] none))) :
    ART Try.prog 7 (cx w β n []) Try.f7.ntmps (cutAt Try.f7 1) (Kn.mk [(0, AV.c (AC.sl 0 0 (List.length L) c)), (7, AV.c (AC.w 7)), (9, AV.c (AC.w 16)), (12, AV.c (AC.i (↑j : Int)))] [(0, Ent.mk false (pcell L) 0), (3, Ent.mk true (scell S) 31), (7, Ent.mk true [AC.i tr, AC.i p, AC.sx 3 q] 0), (16, Ent.mk true (Mach.cs m) 0)] 17) (REff w β ⟨AV.c (AC.b true), [], none⟩) :=
  run_eff [] (none) 2000 [Eff.mk (AV.c (AC.b true)) [] none] [true, true, true, true, false, false] ([true]) [] Try.func7 (ekeys0 rfl n) (by kernel_rfl) h (cr_cons c0 cr_nil)
end Go.Proofs.Ytkigmocchaikgab

/- The law VerifyStates, as a contract. -/
namespace Go.Proofs.Ytkigmocchaikgab
open Go.RowKit

def ksH (n : Nat) : List (Nat × Ent) → Prop
  | [] => True
  | x :: l => (∀ k, k ∈ x.2.cells.flatMap AC.ks → k < n) ∧ ksH n l
theorem ksH_look {n : Nat} : ∀ {H : List (Nat × Ent)} {k : Nat} {e : Ent}, ksH n H → look H k = some e → ∀ j, j ∈ e.cells.flatMap AC.ks → j < n
  | [], _, _, _, h => by cases h
  | (j, x) :: l, k, e, hn, h => by
    rw [look_cons] at h
    split at h
    · injection h with h; subst h; exact hn.1
    · exact ksH_look hn.2 h
theorem low_k {T : List (Nat × AV)} {H : List (Nat × Ent)} {n : Nat} (h : (T.flatMap fun x => x.2.ks).all (fun k => Nat.blt k n) = true) (hk : (H.map (·.1)).all (fun k => Nat.blt k n) = true) (hH : ksH n H) : Kn.Low ⟨T, H, n⟩ := by
  refine ⟨fun t v hv k hk => ?_, fun k e he => ⟨?_, fun c hc j hj => ksH_look hH he j (List.mem_flatMap.2 ⟨c, hc, hj⟩)⟩⟩
  · have h1 : k ∈ T.flatMap fun x => x.2.ks := List.mem_flatMap.2 ⟨(t, v), look_mem hv, hk⟩
    have h2 := List.all_eq_true.1 h k h1
    simpa using h2
  · have h2 := List.all_eq_true.1 hk k (List.mem_map.2 ⟨(k, e), look_mem he, rfl⟩)
    simpa using h2
theorem nok {l : List AC} {n : Nat} (h : l.flatMap AC.ks = []) : ∀ k, k ∈ l.flatMap AC.ks → k < n := fun k hk => by rw [h] at hk; cases hk
abbrev vt1 (L : List Ins) (c : Nat) (S : List St) (r : Nat) (rep : List AC) (m : Mach) (j : Nat) : Kn := ⟨[(0, .c (.sl 0 0 L.length c)), (7, .c (.w 7)), (9, .c (.w 16)), (11, .c (.i (j : Int)))], [(0, ⟨false, pcell L, 0⟩), (3, ⟨true, scell S, r⟩), (7, ⟨true, rep, 0⟩), (16, ⟨true, m.cs, 0⟩)], 17⟩
abbrev vt2 (L : List Ins) (c : Nat) (S : List St) (r : Nat) (rep : List AC) (m : Mach) (j : Nat) : Kn := ⟨[(0, .c (.sl 0 0 L.length c)), (7, .c (.w 7)), (9, .c (.w 16)), (12, .c (.i (j : Int)))], [(0, ⟨false, pcell L, 0⟩), (3, ⟨true, scell S, r⟩), (7, ⟨true, rep, 0⟩), (16, ⟨true, m.cs, 0⟩)], 17⟩
theorem vt1_low {L : List Ins} {c : Nat} {S : List St} {r : Nat} {rep : List AC} {m : Mach} {j : Nat} (h : ∀ k, k ∈ rep.flatMap AC.ks → k < 17) : Kn.Low (vt1 L c S r rep m j) := low_k rfl rfl ⟨nok (pcell_ks L), nok (scell_ks S), h, nok rfl, trivial⟩
theorem vt2_low {L : List Ins} {c : Nat} {S : List St} {r : Nat} {rep : List AC} {m : Mach} {j : Nat} (h : ∀ k, k ∈ rep.flatMap AC.ks → k < 17) : Kn.Low (vt2 L c S r rep m j) := low_k rfl rfl ⟨nok (pcell_ks L), nok (scell_ks S), h, nok rfl, trivial⟩
abbrev repO (n : Nat) : List AC := [AC.i 0, AC.i 0, AC.sl 3 0 n n]
abbrev repT (tr p : Int) (q : Nat) : List AC := [AC.i tr, AC.i p, AC.sx 3 q]
theorem repO_k (n : Nat) : ∀ k, k ∈ (repO n).flatMap AC.ks → k < 17 := fun k hk => by have : k ∈ [3] := hk; rw [List.mem_singleton.1 this]; decide
theorem repT_k (tr p : Int) (q : Nat) : ∀ k, k ∈ (repT tr p q).flatMap AC.ks → k < 17 := fun k hk => by have : k ∈ [3] := hk; rw [List.mem_singleton.1 this]; decide
theorem f17 (w : World) (β : Bs) : ∀ k, (cx w β 1 []).F k → k < 17 := fun _ h => Nat.lt_of_lt_of_le h (by decide)
theorem vtOA {L : List Ins} {c : Nat} {S : List St} {m : Mach} {w : World} {β : Bs} {R : Ending → World → Prop} (hle : L.length ≤ 64) (hS : S.length = L.length) (hok : ∀ j, (stAt S j).Ok)
    (z : ART Try.prog 7 (cx w β 1 []) Try.f7.ntmps (cutAt Try.f7 1) (vt2 L c S 0 (repO L.length) m 0) R) : ∀ n j, j + n = L.length →
    ART Try.prog 7 (cx w β 1 []) Try.f7.ntmps (cutAt Try.f7 0) (vt1 L c S 0 (repO L.length) m j) R
  | 0, j, hj => vtOAx_w0 (by rw [decide_eq_false (by omega : ¬ (j : Int) < (L.length : Int))]; rfl) (vt2_low (repO_k _)) (f17 w β) z
  | n + 1, j, hj => by
    have hlt : j < L.length := by omega
    refine vtOA_w0 (and_yes (jl hlt) (and_yes (jl hlt) (and_yes (sble (by omega)) rfl))) (sat_eff (by omega)) (check_Ok (hok j)) (by rw [wrapS (by omega)]) (vt1_low (repO_k _)) (f17 w β) (vtOA hle hS hok z n (j + 1) (by omega))
theorem vtTA {L : List Ins} {c q : Nat} {S : List St} {m : Mach} {tr p : Int} {w : World} {β : Bs} {R : Ending → World → Prop} (hle : q ≤ 64) (hS : S.length = q) (hok : ∀ j, (stAt S j).Ok)
    (z : ART Try.prog 7 (cx w β 1 []) Try.f7.ntmps (cutAt Try.f7 1) (vt2 L c S 31 (repT tr p q) m 0) R) : ∀ n j, j + n = q →
    ART Try.prog 7 (cx w β 1 []) Try.f7.ntmps (cutAt Try.f7 0) (vt1 L c S 31 (repT tr p q) m j) R
  | 0, j, hj => vtTAx_w0 (by rw [decide_eq_false (by omega : ¬ (j : Int) < (q : Int))]; rfl) (vt2_low (repT_k _ _ _)) (f17 w β) z
  | n + 1, j, hj => by
    have hlt : decide ((j : Int) < (q : Int)) = true := decide_eq_true (by omega)
    have hs : Nat.ble (Int.toNat (j : Int) * 31 + 31) (scell S).length = true := by
      have := sble (S := S) (k := j) (by omega)
      rwa [Nat.zero_add] at this
    have he : Eff.mk (AV.ag (List.take 31 (List.drop (Int.toNat (j : Int) * 31) (scell S)))) [] none = Eff.mk (AV.ag (St.cs (stAt S j))) [] none := by
      have := sat_eff (S := S) (k := j) (by omega)
      rwa [Nat.zero_add] at this
    refine vtTA_w0 (and_yes hlt (and_yes hlt (and_yes hs rfl))) he (check_Ok (hok j)) (by rw [wrapS (by omega)]) (vt1_low (repT_k _ _ _)) (f17 w β) (vtTA hle hS hok z n (j + 1) (by omega))
theorem step_runs {L : List Ins} {c : Nat} {m : Mach} (hL : codeErr L = 0) (h : Runs L m) : CallOK Try.prog ⟨12, [.c (.sl 0 0 L.length c), .ag m.cs], pH L, ⟨.tu [.ag (stepM (insAt L m.t) m).cs, .c (.i 0)], [], none⟩⟩ := by
  have hs := step_ok L c m
  have hlt := h.lt
  have he : stepErr L m = 0 := by unfold stepErr; rw [if_neg (by simpa using hL), if_neg (by simpa using h.mach), if_neg (by omega)]
  unfold stepRes at hs
  rwa [he, if_neg (by decide), if_neg (by simpa using h.fin)] at hs
theorem vtOB {L : List Ins} {c : Nat} {w : World} {β : Bs} (hL : codeErr L = 0) (h0 : (verifyS L).trap = 0) : ∀ (n j : Nat) (m : Mach), j + n = L.length → Had L m →
    ART Try.prog 7 (cx w β 1 []) Try.f7.ntmps (cutAt Try.f7 1) (vt2 L c (verifyS L).sts 0 (repO L.length) m j) (REff w β ⟨.c (.b true), [], none⟩)
  | 0, j, m, hj, _ => vtOX1_w0 (by rw [decide_eq_false (by omega : ¬ (j : Int) < (L.length : Int))]; rfl) verifyBegun_ok
  | n + 1, j, m, hj, hh => by
    have hP := codeErr_zero hL
    have hle := hP.le
    have hlt : j < L.length := by omega
    have hS := ((verify_out hP).none h0).2
    by_cases hf : m.fin = 0
    · obtain ⟨hr, hs⟩ := hh hf
      have p0 := hr.pos
      have p1 := hr.lt
      have d1 : (!decide ((L.length : Int) ≤ m.t)) = true := by rw [decide_eq_false (by omega)]; rfl
      have d2 : (decide (0 ≤ m.t) && decide (m.t < (L.length : Int))) = true := and_yes (decide_eq_true p0) (decide_eq_true p1)
      refine vtOB_w0 (and_yes (jl hlt) (and_yes (fin_is hf) (and_yes d1 (and_yes d2 (and_yes (sble (by omega)) rfl))))) (sat_eff (by omega)) (has_eq (St.has_iff.2 hs)) (step_runs hL hr) (by rw [wrapS (by omega)]) (vt2_low (repO_k _)) (f17 w β) (vtOB hL h0 n (j + 1) _ (by omega) (had_next hP h0 hf hh).2)
    · exact vtOX2_w0 (and_yes (jl hlt) (and_yes (fin_ne hf) rfl)) verifyBegun_ok
/- ahead of the first trap -/
def HadT (L : List Ins) (m : Mach) : Prop := m.fin = 0 → Runs L m ∧ (m.t ≤ (verifyS L).pos → (stAt (verifyS L).sts m.t.toNat).Has m)
theorem vtTB {L : List Ins} {c : Nat} {w : World} {β : Bs} (hL : codeErr L = 0) (h0 : (verifyS L).trap ≠ 0) : ∀ (n j : Nat) (m : Mach), j + n = L.length → HadT L m →
    ART Try.prog 7 (cx w β 1 []) Try.f7.ntmps (cutAt Try.f7 1) (vt2 L c (verifyS L).sts 31 (repT (verifyS L).trap (verifyS L).pos (verifyS L).sts.length) m j) (REff w β ⟨.c (.b true), [], none⟩)
  | 0, j, m, hj, _ => vtTX1_w0 (by rw [decide_eq_false (by omega : ¬ (j : Int) < (L.length : Int))]; rfl) verifyBegun_ok
  | n + 1, j, m, hj, hh => by
    have hP := codeErr_zero hL
    have hle := hP.le
    have hlt : j < L.length := by omega
    obtain ⟨p, hp, _, hpl, hS, _⟩ := (verify_out hP).some h0
    by_cases hf : m.fin = 0
    · obtain ⟨hr, hs⟩ := hh hf
      have p0 := hr.pos
      have p1 := hr.lt
      have t0 : ((verifyS L).trap != 0) = true := by simpa using h0
      have at_ : m.t ≤ (verifyS L).pos → (decide (0 ≤ m.t) && decide (m.t < ((verifyS L).sts.length : Int))) = true ∧ Nat.ble (Int.toNat m.t * 31 + 31) (scell (verifyS L).sts).length = true ∧ Eff.mk (AV.ag (List.take 31 (List.drop (Int.toNat m.t * 31) (scell (verifyS L).sts)))) [] none = Eff.mk (AV.ag (St.cs (stAt (verifyS L).sts (Int.toNat m.t)))) [] none := fun hm => by
        refine ⟨and_yes (decide_eq_true p0) (decide_eq_true (by omega)), ?_, ?_⟩
        · have := sble (S := (verifyS L).sts) (k := m.t.toNat) (by omega)
          rwa [Nat.zero_add] at this
        · have := sat_eff (S := (verifyS L).sts) (k := m.t.toNat) (by omega)
          rwa [Nat.zero_add] at this
      by_cases hm : (verifyS L).pos ≤ m.t
      · by_cases he : m.t = (verifyS L).pos
        · obtain ⟨a1, a2, a3⟩ := at_ (by omega)
          exact vtTE_w0 (and_yes (jl hlt) (and_yes (fin_is hf) (and_yes t0 (and_yes (decide_eq_true hm) (and_yes (fin_is he) (and_yes a1 (and_yes a2 rfl))))))) a3 (has_eq (St.has_iff.2 (hs (by omega)))) verifyBegun_ok
        · exact vtTP_w0 (and_yes (jl hlt) (and_yes (fin_is hf) (and_yes t0 (and_yes (decide_eq_true hm) (and_yes (fin_ne he) rfl))))) verifyBegun_ok
      · obtain ⟨a1, a2, a3⟩ := at_ (by omega)
        have d1 : (!decide ((verifyS L).pos ≤ m.t)) = true := by rw [decide_eq_false hm]; rfl
        have d2 : (!decide (((verifyS L).sts.length : Int) ≤ m.t)) = true := by rw [decide_eq_false (by omega)]; rfl
        refine vtTB_w0 (and_yes (jl hlt) (and_yes (fin_is hf) (and_yes t0 (and_yes d1 (and_yes d2 (and_yes a1 (and_yes a2 rfl))))))) a3 (has_eq (St.has_iff.2 (hs (by omega)))) (step_runs hL hr) (by rw [wrapS (by omega)]) (vt2_low (repT_k _ _ _)) (f17 w β) (vtTB hL h0 n (j + 1) _ (by omega) fun hf' => ?_)
        obtain ⟨h3, _⟩ := runs_next hP hr hf'
        refine ⟨h3, fun hle' => ?_⟩
        rcases verify_step hP hr.pos hr.lt (Or.inr (by omega)) (hs (by omega)) with h4 | ⟨_, h5⟩
        · rw [h4] at hf'; exact absurd hf' (by decide)
        · exact h5 h3.mach (Or.inr hle')
    · exact vtTX2_w0 (and_yes (jl hlt) (and_yes (fin_ne hf) rfl)) verifyBegun_ok
theorem verifyStates_ok (L : List Ins) (c : Nat) (s : ByteArray) (x : BitVec 64) : CallOK Try.prog ⟨7, [.c (.sl 0 0 L.length c), .c (.s s), .c (.u x)], pH L, ⟨.c (.b true), [], none⟩⟩ := by
  refine read_of Try.func7 rfl rfl (begin_p rfl) rfl ro_p fun w β => ?_
  have hb := verifyBegun_ok
  have hst := start_ok s x
  unfold startRes startErr at hst
  by_cases hL : codeErr L = 0
  · have hP := codeErr_zero hL
    have hle := hP.le
    have hout := verify_out hP
    by_cases hs : s.size = 64
    · rw [if_neg (by simpa using hs), if_neg (by simpa using hs)] at hst
      by_cases h0 : (verifyS L).trap = 0
      · have hv := verify_okK (c := c) hL h0 (K := 3) (by decide)
        exact vtOTop_w0 rfl hv hst (vt1_low (repO_k _)) (f17 w β) (vtOA hle ((hout.none h0).2) hout.ok (vtOB hL h0 L.length 0 _ (by omega) (had_start hP hs)) L.length 0 (by omega))
      · have hv := verify_trK (c := c) hL h0 (K := 3) (by decide)
        obtain ⟨p, hp, _, hpl, hS, _⟩ := hout.some h0
        refine vtTTop_w0 rfl hv hst (vt1_low (repT_k _ _ _)) (f17 w β) (vtTA (q := (verifyS L).sts.length) (by omega) rfl hout.ok (vtTB hL h0 L.length 0 _ (by omega) fun _ => ⟨runs_start hP hs, fun _ => ?_⟩) (verifyS L).sts.length 0 (by omega))
        show (stAt (verifyS L).sts 0).Has _
        rw [verify_first hP]
        exact begin_Has hs
    · rw [if_pos hs, if_pos hs] at hst
      by_cases h0 : (verifyS L).trap = 0
      · exact vtOS_w0 rfl (verify_okK (c := c) hL h0 (K := 3) (by decide)) hst hb
      · exact vtTS_w0 rfl (verify_trK (c := c) hL h0 (K := 3) (by decide)) hst hb
  · exact vtErr_w0 (and_yes (by simpa using hL) rfl) (verify_err hL) hst hb
theorem verifyStates_nil (s : ByteArray) (x : BitVec 64) : Ok 7 [.c nilSl, .c (.s s), .c (.u x)] (.c (.b true)) :=
  vtNil_w0 rfl verify_nil (start_ok s x) verifyBegun_ok
end Go.Proofs.Ytkigmocchaikgab
