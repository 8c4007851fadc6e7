import Derived.Test.YtkigmocchaikgabGreatGz2
import Derived.Test.YtkigmocchaikgabGreatProg
import Derived.Test.YtkigmocchaikgabGreatGz4
import Derived.Test.YtkigmocchaikgabGreatGz7
import Derived.Test.YtkigmocchaikgabGreatGz8
import Derived.Test.YtkigmocchaikgabGreatGz9
import Derived.Test.YtkigmocchaikgabGreatGz6
/- Ways of bodies, written by a program (ways.py): what each asks for, and hands back. -/
namespace Go.Proofs.YtkigmocchaikgabGreat
open Go.RowKit

theorem vyErr_w0 {L : List Ins} {c : Nat} {e : Int} {w : World} {β : Bs} {n : Nat} (h : (!e == 0 && (e == e && true)) = true) (c0 : CallOK Tryz.prog (CallRec.mk 12 [AV.c (AC.sl 0 0 (List.length L) c)] [(0, Ent.mk false (pcell L) 0)] (Eff.mk (AV.tu [AT.ag [AC.i 0, AC.i 0, nilSl], AT.c (AC.i e)]) [] none))) (c1 : CallOK Tryz.prog (CallRec.mk 13 [AV.c (AC.sl 0 0 (List.length L) c)] [(0, Ent.mk false (pcell L) 0)] (Eff.mk (AV.c (AC.i e)) [] none))) (c2 : CallOK Tryz.prog (CallRec.mk 15 [] [] (Eff.mk (AV.c (AC.b true)) [] none))) (c3 : CallOK Tryz.prog (CallRec.mk 16 [AV.ag [AC.i 0, AC.i 0, nilSl], AV.ag [AC.i 0, AC.i 0, nilSl]] [] (Eff.mk (AV.c (AC.b true)) [] none))) :
    ART Tryz.prog 4 (cx w β n []) Tryz.f4.ntmps ([Item.code (bodyOf Tryz.f4)]) (Kn.start [AV.c (AC.sl 0 0 (List.length L) c)] [(0, Ent.mk false (pcell L) 0)] 1) (REff w β ⟨AV.c (AC.b true), [], none⟩) :=
  run_eff [] (none) 2000 [Eff.mk (AV.tu [AT.ag [AC.i 0, AC.i 0, nilSl], AT.c (AC.i e)]) [] none, Eff.mk (AV.c (AC.i e)) [] none, Eff.mk (AV.c (AC.b true)) [] none, Eff.mk (AV.c (AC.b true)) [] none] [false, true, true] ([]) [] Tryz.func4 (ekeys0 rfl n) (by kernel_rfl) h (cr_cons c0 (cr_cons c1 (cr_cons c2 (cr_cons c3 cr_nil))))
theorem vyNil_w0 {e : Int} (h : (!e == 0 && (e == e && true)) = true) (c0 : CallOK Tryz.prog (CallRec.mk 12 [AV.c nilSl] [] (Eff.mk (AV.tu [AT.ag [AC.i 0, AC.i 0, nilSl], AT.c (AC.i e)]) [] none))) (c1 : CallOK Tryz.prog (CallRec.mk 13 [AV.c nilSl] [] (Eff.mk (AV.c (AC.i e)) [] none))) (c2 : CallOK Tryz.prog (CallRec.mk 15 [] [] (Eff.mk (AV.c (AC.b true)) [] none))) (c3 : CallOK Tryz.prog (CallRec.mk 16 [AV.ag [AC.i 0, AC.i 0, nilSl], AV.ag [AC.i 0, AC.i 0, nilSl]] [] (Eff.mk (AV.c (AC.b true)) [] none))) :
    CallOK Tryz.prog ⟨4, [AV.c nilSl], [], ⟨AV.c (AC.b true), [], none⟩⟩ :=
  val_run 2000 [Eff.mk (AV.tu [AT.ag [AC.i 0, AC.i 0, nilSl], AT.c (AC.i e)]) [] none, Eff.mk (AV.c (AC.i e)) [] none, Eff.mk (AV.c (AC.b true)) [] none, Eff.mk (AV.c (AC.b true)) [] none] [false, true, true] ([]) [] Tryz.func4 rfl rfl rfl rfl (by kernel_rfl) h (cr_cons c0 (cr_cons c1 (cr_cons c2 (cr_cons c3 cr_nil))))
theorem vyOk_w0 {L : List Ins} {c : Nat} {S : List St} {S2 : List St} {w : World} {β : Bs} {n : Nat} (c0 : CallOK Tryz.prog (CallRec.mk 12 [AV.c (AC.sl 0 0 (List.length L) c)] [(0, Ent.mk false (pcell L) 0)] (Eff.mk (AV.tu [AT.ag [AC.i 0, AC.i 0, AC.sl 3 0 (List.length L) (List.length L)], AT.c (AC.i 0)]) [] (some (3, Ent.mk true (scell S) 0))))) (c1 : CallOK Tryz.prog (CallRec.mk 13 [AV.c (AC.sl 0 0 (List.length L) c)] [(0, Ent.mk false (pcell L) 0)] (Eff.mk (AV.c (AC.i 0)) [] none))) (c2 : CallOK Tryz.prog (CallRec.mk 14 [AV.c (AC.sl 0 0 (List.length L) c)] [(0, Ent.mk false (pcell L) 0)] (Eff.mk (AV.ag [AC.i 0, AC.i 0, AC.sl 17 0 (List.length L) (List.length L)]) [] (some (17, Ent.mk true (scell S2) 0))))) (c3 : CallOK Tryz.prog (CallRec.mk 15 [] [] (Eff.mk (AV.c (AC.b true)) [] none))) (c4 : CallOK Tryz.prog (CallRec.mk 16 [AV.ag [AC.i 0, AC.i 0, AC.sl 3 0 (List.length L) (List.length L)], AV.ag [AC.i 0, AC.i 0, AC.sl 17 0 (List.length L) (List.length L)]] [(3, Ent.mk true (scell S) 0), (17, Ent.mk true (scell S2) 0)] (Eff.mk (AV.c (AC.b true)) [] none))) :
    ART Tryz.prog 4 (cx w β n []) Tryz.f4.ntmps ([Item.code (bodyOf Tryz.f4)]) (Kn.start [AV.c (AC.sl 0 0 (List.length L) c)] [(0, Ent.mk false (pcell L) 0)] 1) (REff w β ⟨AV.c (AC.b true), [], none⟩) :=
  run_eff [] (none) 2000 [Eff.mk (AV.tu [AT.ag [AC.i 0, AC.i 0, AC.sl 3 0 (List.length L) (List.length L)], AT.c (AC.i 0)]) [] (some (3, Ent.mk true (scell S) 0)), Eff.mk (AV.c (AC.i 0)) [] none, Eff.mk (AV.ag [AC.i 0, AC.i 0, AC.sl 17 0 (List.length L) (List.length L)]) [] (some (17, Ent.mk true (scell S2) 0)), Eff.mk (AV.c (AC.b true)) [] none, Eff.mk (AV.c (AC.b true)) [] none] [true, true, true] ([]) [] Tryz.func4 (ekeys0 rfl n) (by kernel_rfl) rfl (cr_cons c0 (cr_cons c1 (cr_cons c2 (cr_cons c3 (cr_cons c4 cr_nil)))))
theorem vyTr_w0 {L : List Ins} {c : Nat} {q : Nat} {S : List St} {S2 : List St} {tr : Int} {p : Int} {w : World} {β : Bs} {n : Nat} (c0 : CallOK Tryz.prog (CallRec.mk 12 [AV.c (AC.sl 0 0 (List.length L) c)] [(0, Ent.mk false (pcell L) 0)] (Eff.mk (AV.tu [AT.ag [AC.i tr, AC.i p, AC.sx 3 q], AT.c (AC.i 0)]) [] (some (3, Ent.mk true (scell S) 31))))) (c1 : CallOK Tryz.prog (CallRec.mk 13 [AV.c (AC.sl 0 0 (List.length L) c)] [(0, Ent.mk false (pcell L) 0)] (Eff.mk (AV.c (AC.i 0)) [] none))) (c2 : CallOK Tryz.prog (CallRec.mk 14 [AV.c (AC.sl 0 0 (List.length L) c)] [(0, Ent.mk false (pcell L) 0)] (Eff.mk (AV.ag [AC.i tr, AC.i p, AC.sl 17 0 q (List.length L)]) [] (some (17, Ent.mk true (scell S2) 0))))) (c3 : CallOK Tryz.prog (CallRec.mk 15 [] [] (Eff.mk (AV.c (AC.b true)) [] none))) (c4 : CallOK Tryz.prog (CallRec.mk 16 [AV.ag [AC.i tr, AC.i p, AC.sx 3 q], AV.ag [AC.i tr, AC.i p, AC.sl 17 0 q (List.length L)]] [(3, Ent.mk true (scell S) 31), (17, Ent.mk true (scell S2) 0)] (Eff.mk (AV.c (AC.b true)) [] none))) :
    ART Tryz.prog 4 (cx w β n []) Tryz.f4.ntmps ([Item.code (bodyOf Tryz.f4)]) (Kn.start [AV.c (AC.sl 0 0 (List.length L) c)] [(0, Ent.mk false (pcell L) 0)] 1) (REff w β ⟨AV.c (AC.b true), [], none⟩) :=
  run_eff [] (none) 2000 [Eff.mk (AV.tu [AT.ag [AC.i tr, AC.i p, AC.sx 3 q], AT.c (AC.i 0)]) [] (some (3, Ent.mk true (scell S) 31)), Eff.mk (AV.c (AC.i 0)) [] none, Eff.mk (AV.ag [AC.i tr, AC.i p, AC.sl 17 0 q (List.length L)]) [] (some (17, Ent.mk true (scell S2) 0)), Eff.mk (AV.c (AC.b true)) [] none, Eff.mk (AV.c (AC.b true)) [] none] [true, true, true] ([]) [] Tryz.func4 (ekeys0 rfl n) (by kernel_rfl) rfl (cr_cons c0 (cr_cons c1 (cr_cons c2 (cr_cons c3 (cr_cons c4 cr_nil)))))
end Go.Proofs.YtkigmocchaikgabGreat

/- Ways of bodies, written by a program (ways.py): what each asks for, and hands back. -/
namespace Go.Proofs.YtkigmocchaikgabGreat
open Go.RowKit

theorem roV_w0 {L : List Ins} {c : Nat} {b : St} {C : Cx} {R : Ending → World → Prop} (h : (decide ((↑(List.length L) : Int) ≤ (↑(List.length L) : Int)) && decide ((↑(List.length L) : Int) ≤ 1099511627776) && true && (decide (0 < (↑(List.length L) : Int)) && (Nat.ble (0 + List.length (St.cs b)) (List.length (scell (List.replicate (List.length L) St.z))) && true && true))) = true) (c0 : Eff.mk (AV.c (AC.sl 4 0 (Int.toNat (↑(List.length L) : Int)) (Int.toNat (↑(List.length L) : Int)))) [] (some (1 + 1 + 2, Ent.mk true (rows (Int.toNat (↑(List.length L) : Int)) (St.cs St.z)) 0)) = Eff.mk (AV.c (AC.sl 4 0 (List.length L) (List.length L))) [] (some (4, Ent.mk true (scell (List.replicate (List.length L) St.z)) 0))) (c1 : CallOK Tryz.prog (CallRec.mk 50 [] [] (Eff.mk (AV.ag (St.cs b)) [] none))) (c2 : Eff.mk (AV.raw undef) [(4, splice (scell (List.replicate (List.length L) St.z)) 0 (St.cs b))] none = Eff.mk (AV.raw undef) [(4, scell (List.set (List.replicate (List.length L) St.z) 0 b))] none) (lo : Kn.Low ⟨[(0, AV.c (AC.sl 0 0 (List.length L) c)), (2, AV.c (AC.w 1)), (3, AV.c (AC.sl 4 0 (List.length L) (List.length L))), (4, AV.c (AC.i 0))], [(0, Ent.mk false (pcell L) 0), (1, Ent.mk true [AC.i 0, AC.i 0, nilSl] 0), (4, Ent.mk true (scell (List.set (List.replicate (List.length L) St.z) 0 b)) 0)], 6⟩) (hF : ∀ k, C.F k → k < 6) (z : ART Tryz.prog 14 C Tryz.f14.ntmps (cutAt Tryz.f14 0) ⟨[(0, AV.c (AC.sl 0 0 (List.length L) c)), (2, AV.c (AC.w 1)), (3, AV.c (AC.sl 4 0 (List.length L) (List.length L))), (4, AV.c (AC.i 0))], [(0, Ent.mk false (pcell L) 0), (1, Ent.mk true [AC.i 0, AC.i 0, nilSl] 0), (4, Ent.mk true (scell (List.set (List.replicate (List.length L) St.z) 0 b)) 0)], 6⟩ R) :
    ART Tryz.prog 14 C Tryz.f14.ntmps ([Item.code (bodyOf Tryz.f14)]) (Kn.start [AV.c (AC.sl 0 0 (List.length L) c)] [(0, Ent.mk false (pcell L) 0)] 1) R :=
  run_cut ⟨[(0, AV.c (AC.sl 0 0 (List.length L) c)), (2, AV.c (AC.w 1)), (3, AV.c (AC.sl 4 0 (List.length L) (List.length L))), (4, AV.c (AC.i 0))], [(0, Ent.mk false (pcell L) 0), (1, Ent.mk true [AC.i 0, AC.i 0, nilSl] 0), (4, Ent.mk true (scell (List.set (List.replicate (List.length L) St.z) 0 b)) 0)], 6⟩ 2000 [Eff.mk (AV.c (AC.sl 4 0 (List.length L) (List.length L))) [] (some (4, Ent.mk true (scell (List.replicate (List.length L) St.z)) 0)), Eff.mk (AV.ag (St.cs b)) [] none, Eff.mk (AV.raw undef) [(4, scell (List.set (List.replicate (List.length L) St.z) 0 b))] none] [] ([true]) [(1, 2), (2, 3)] Tryz.func14 (by kernel_rfl) h (cr_same c0 (cr_cons c1 (cr_same c2 cr_nil))) lo hF z
theorem roVTrap_w0 {L : List Ins} {c : Nat} {j : Nat} {S : List St} {a : St} {b : St} {tr : Int} {w : World} {β : Bs} {n : Nat} (h : (decide ((↑j : Int) < (↑(List.length L) : Int)) && (decide ((↑j : Int) < (↑(List.length L) : Int)) && (Nat.ble (0 + Int.toNat (↑j : Int) * 5 + 5) (List.length (pcell L)) && (decide ((↑j : Int) < (↑(List.length L) : Int)) && (Nat.ble (0 + Int.toNat (↑j : Int) * 31 + 31) (List.length (scell S)) && (tr != 0 && (decide ((↑(j + 1) : Int) ≤ (↑(List.length L) : Int)) && decide ((↑(List.length L) : Int) ≤ (↑(List.length L) : Int)) && true))))))) = true) (c0 : Eff.mk (AV.ag (List.take 5 (List.drop (0 + Int.toNat (↑j : Int) * 5) (pcell L)))) [] none = Eff.mk (AV.ag (Ins.cs (elt L j))) [] none) (c1 : Eff.mk (AV.ag (List.take 31 (List.drop (0 + Int.toNat (↑j : Int) * 31) (scell S)))) [] none = Eff.mk (AV.ag (St.cs (stAt S j))) [] none) (c2 : CallOK Tryz.prog (CallRec.mk 11 [AV.ag (Ins.cs (elt L j)), AV.ag (St.cs (stAt S j))] [] (Eff.mk (AV.tu [AT.ag (St.cs a), AT.ag (St.cs b), AT.c (AC.i tr)]) [] none))) (c3 : Eff.mk (AV.c (AC.i (IntKind.wrap IntKind.i64 ((↑j : Int) + 1)))) [] none = Eff.mk (AV.c (AC.i (↑(j + 1) : Int))) [] none) (c4 : Eff.mk (AV.c (AC.sl 4 0 (Int.toNat ((↑(j + 1) : Int))) (Int.toNat ((↑(List.length L) : Int))))) [] none = Eff.mk (AV.c (AC.sl 4 0 (j + 1) (List.length L))) [] none) (hk : EKeys n [] (some 4) ⟨AV.ag [AC.i tr, AC.i (↑j : Int), AC.sl 4 0 (j + 1) (List.length L)], [], some (4, Ent.mk true (scell S) 0)⟩) :
    ART Tryz.prog 14 (cx w β n []) Tryz.f14.ntmps (cutAt Tryz.f14 0) (Kn.mk [(0, AV.c (AC.sl 0 0 (List.length L) c)), (2, AV.c (AC.w 1)), (3, AV.c (AC.sl 4 0 (List.length L) (List.length L))), (4, AV.c (AC.i (↑j : Int)))] [(0, Ent.mk false (pcell L) 0), (1, Ent.mk true [AC.i 0, AC.i 0, nilSl] 0), (4, Ent.mk true (scell S) 0)] 6) (REff w β ⟨AV.ag [AC.i tr, AC.i (↑j : Int), AC.sl 4 0 (j + 1) (List.length L)], [], some (4, Ent.mk true (scell S) 0)⟩) :=
  run_eff [] (some 4) 2000 [Eff.mk (AV.ag (Ins.cs (elt L j))) [] none, Eff.mk (AV.ag (St.cs (stAt S j))) [] none, Eff.mk (AV.tu [AT.ag (St.cs a), AT.ag (St.cs b), AT.c (AC.i tr)]) [] none, Eff.mk (AV.c (AC.i (↑(j + 1) : Int))) [] none, Eff.mk (AV.c (AC.sl 4 0 (j + 1) (List.length L))) [] none] [true, true] ([true]) [(6, 3), (6, 7), (8, 4), (8, 5)] Tryz.func14 hk (by kernel_rfl) h (cr_same c0 (cr_same c1 (cr_cons c2 (cr_same c3 (cr_same c4 cr_nil)))))
theorem roVEnd_w0 {L : List Ins} {c : Nat} {j : Nat} {S : List St} {w : World} {β : Bs} {n : Nat} (h : (!decide ((↑j : Int) < (↑(List.length L) : Int)) && true) = true) (hk : EKeys n [] (some 4) ⟨AV.ag [AC.i 0, AC.i 0, AC.sl 4 0 (List.length L) (List.length L)], [], some (4, Ent.mk true (scell S) 0)⟩) :
    ART Tryz.prog 14 (cx w β n []) Tryz.f14.ntmps (cutAt Tryz.f14 0) (Kn.mk [(0, AV.c (AC.sl 0 0 (List.length L) c)), (2, AV.c (AC.w 1)), (3, AV.c (AC.sl 4 0 (List.length L) (List.length L))), (4, AV.c (AC.i (↑j : Int)))] [(0, Ent.mk false (pcell L) 0), (1, Ent.mk true [AC.i 0, AC.i 0, nilSl] 0), (4, Ent.mk true (scell S) 0)] 6) (REff w β ⟨AV.ag [AC.i 0, AC.i 0, AC.sl 4 0 (List.length L) (List.length L)], [], some (4, Ent.mk true (scell S) 0)⟩) :=
  run_eff [] (some 4) 2000 [] [false] ([true]) [] Tryz.func14 hk (by kernel_rfl) h cr_nil
theorem roV00_w0 {L : List Ins} {c : Nat} {j : Nat} {S : List St} {S1 : List St} {a : St} {b : St} {u1 : St} {g1 : St} {C : Cx} {R : Ending → World → Prop} (h : (decide ((↑j : Int) < (↑(List.length L) : Int)) && (decide ((↑j : Int) < (↑(List.length L) : Int)) && (Nat.ble (0 + Int.toNat (↑j : Int) * 5 + 5) (List.length (pcell L)) && (decide ((↑j : Int) < (↑(List.length L) : Int)) && (Nat.ble (0 + Int.toNat (↑j : Int) * 31 + 31) (List.length (scell S)) && (decide ((↑(j + 1) : Int) < (↑(List.length L) : Int)) && (decide ((↑(j + 1) : Int) < (↑(List.length L) : Int)) && (Nat.ble (0 + Int.toNat (↑(j + 1) : Int) * 31 + 31) (List.length (scell S)) && (decide ((↑(j + 1) : Int) < (↑(List.length L) : Int)) && (Nat.ble (0 + Int.toNat (↑(j + 1) : Int) * 31 + List.length (St.cs u1)) (List.length (scell S)) && true && (decide ((↑j : Int) < (↑(List.length L) : Int)) && (AC.isI (Option.getD (pcell L)[0 + Int.toNat (↑j : Int) * 5 + 4]? (AC.b false)) && Nat.blt (0 + Int.toNat (↑j : Int) * 5 + 4) (List.length (pcell L)) && (!St.live b && true))))))))))))) = true) (c0 : Eff.mk (AV.ag (List.take 5 (List.drop (0 + Int.toNat (↑j : Int) * 5) (pcell L)))) [] none = Eff.mk (AV.ag (Ins.cs (elt L j))) [] none) (c1 : Eff.mk (AV.ag (List.take 31 (List.drop (0 + Int.toNat (↑j : Int) * 31) (scell S)))) [] none = Eff.mk (AV.ag (St.cs (stAt S j))) [] none) (c2 : CallOK Tryz.prog (CallRec.mk 11 [AV.ag (Ins.cs (elt L j)), AV.ag (St.cs (stAt S j))] [] (Eff.mk (AV.tu [AT.ag (St.cs a), AT.ag (St.cs b), AT.c (AC.i 0)]) [] none))) (c3 : Eff.mk (AV.c (AC.i (IntKind.wrap IntKind.i64 ((↑j : Int) + 1)))) [] none = Eff.mk (AV.c (AC.i (↑(j + 1) : Int))) [] none) (c4 : Eff.mk (AV.c (AC.i (IntKind.wrap IntKind.i64 ((↑j : Int) + 1)))) [] none = Eff.mk (AV.c (AC.i (↑(j + 1) : Int))) [] none) (c5 : Eff.mk (AV.c (AC.i (IntKind.wrap IntKind.i64 ((↑j : Int) + 1)))) [] none = Eff.mk (AV.c (AC.i (↑(j + 1) : Int))) [] none) (c6 : Eff.mk (AV.ag (List.take 31 (List.drop (0 + Int.toNat (↑(j + 1) : Int) * 31) (scell S)))) [] none = Eff.mk (AV.ag (St.cs g1)) [] none) (c7 : CallOK Tryz.prog (CallRec.mk 51 [AV.ag (St.cs g1), AV.ag (St.cs a)] [] (Eff.mk (AV.ag (St.cs u1)) [] none))) (c8 : Eff.mk (AV.raw undef) [(4, splice (scell S) (0 + Int.toNat (↑(j + 1) : Int) * 31) (St.cs u1))] none = Eff.mk (AV.raw undef) [(4, scell S1)] none) (c9 : Eff.mk (AV.c (AC.i (IntKind.wrap IntKind.i64 ((↑j : Int) + 1)))) [] none = Eff.mk (AV.c (AC.i (↑(j + 1) : Int))) [] none) (c10 : Eff.mk (AV.c (AC.i (AC.asI (Option.getD (pcell L)[0 + Int.toNat (↑j : Int) * 5 + 4]? (AC.b false))))) [] none = Eff.mk (AV.c (AC.i (Ins.of (elt L j)))) [] none) (c11 : Eff.mk (AV.c (AC.i (IntKind.wrap IntKind.i64 ((↑(j + 1) : Int) + Ins.of (elt L j))))) [] none = Eff.mk (AV.c (AC.i ((↑(j + 1) : Int) + Ins.of (elt L j)))) [] none) (c12 : Eff.mk (AV.c (AC.i (IntKind.wrap IntKind.i64 ((↑j : Int) + 1)))) [] none = Eff.mk (AV.c (AC.i (↑(j + 1) : Int))) [] none) (lo : Kn.Low ⟨[(0, AV.c (AC.sl 0 0 (List.length L) c)), (2, AV.c (AC.w 1)), (3, AV.c (AC.sl 4 0 (List.length L) (List.length L))), (4, AV.c (AC.i (↑(j + 1) : Int)))], [(0, Ent.mk false (pcell L) 0), (1, Ent.mk true [AC.i 0, AC.i 0, nilSl] 0), (4, Ent.mk true (scell S1) 0)], 6⟩) (hF : ∀ k, C.F k → k < 6) (z : ART Tryz.prog 14 C Tryz.f14.ntmps (cutAt Tryz.f14 0) ⟨[(0, AV.c (AC.sl 0 0 (List.length L) c)), (2, AV.c (AC.w 1)), (3, AV.c (AC.sl 4 0 (List.length L) (List.length L))), (4, AV.c (AC.i (↑(j + 1) : Int)))], [(0, Ent.mk false (pcell L) 0), (1, Ent.mk true [AC.i 0, AC.i 0, nilSl] 0), (4, Ent.mk true (scell S1) 0)], 6⟩ R) :
    ART Tryz.prog 14 C Tryz.f14.ntmps (cutAt Tryz.f14 0) (Kn.mk [(0, AV.c (AC.sl 0 0 (List.length L) c)), (2, AV.c (AC.w 1)), (3, AV.c (AC.sl 4 0 (List.length L) (List.length L))), (4, AV.c (AC.i (↑j : Int)))] [(0, Ent.mk false (pcell L) 0), (1, Ent.mk true [AC.i 0, AC.i 0, nilSl] 0), (4, Ent.mk true (scell S) 0)] 6) R :=
  run_cut ⟨[(0, AV.c (AC.sl 0 0 (List.length L) c)), (2, AV.c (AC.w 1)), (3, AV.c (AC.sl 4 0 (List.length L) (List.length L))), (4, AV.c (AC.i (↑(j + 1) : Int)))], [(0, Ent.mk false (pcell L) 0), (1, Ent.mk true [AC.i 0, AC.i 0, nilSl] 0), (4, Ent.mk true (scell S1) 0)], 6⟩ 2000 [Eff.mk (AV.ag (Ins.cs (elt L j))) [] none, Eff.mk (AV.ag (St.cs (stAt S j))) [] none, Eff.mk (AV.tu [AT.ag (St.cs a), AT.ag (St.cs b), AT.c (AC.i 0)]) [] none, Eff.mk (AV.c (AC.i (↑(j + 1) : Int))) [] none, Eff.mk (AV.c (AC.i (↑(j + 1) : Int))) [] none, Eff.mk (AV.c (AC.i (↑(j + 1) : Int))) [] none, Eff.mk (AV.ag (St.cs g1)) [] none, Eff.mk (AV.ag (St.cs u1)) [] none, Eff.mk (AV.raw undef) [(4, scell S1)] none, Eff.mk (AV.c (AC.i (↑(j + 1) : Int))) [] none, Eff.mk (AV.c (AC.i (Ins.of (elt L j)))) [] none, Eff.mk (AV.c (AC.i ((↑(j + 1) : Int) + Ins.of (elt L j)))) [] none, Eff.mk (AV.c (AC.i (↑(j + 1) : Int))) [] none] [true, false, true, false] ([true]) [(6, 3), (6, 7), (9, 1), (10, 2), (10, 5), (10, 7), (10, 11), (11, 1), (11, 6), (11, 7), (13, 5), (13, 9), (5, 1)] Tryz.func14 (by kernel_rfl) h (cr_same c0 (cr_same c1 (cr_cons c2 (cr_same c3 (cr_same c4 (cr_same c5 (cr_same c6 (cr_cons c7 (cr_same c8 (cr_same c9 (cr_same c10 (cr_same c11 (cr_same c12 cr_nil))))))))))))) lo hF z
theorem roV01_w0 {L : List Ins} {c : Nat} {j : Nat} {S : List St} {S1 : List St} {S2 : List St} {a : St} {b : St} {u1 : St} {u2 : St} {g1 : St} {g2 : St} {C : Cx} {R : Ending → World → Prop} (h : (decide ((↑j : Int) < (↑(List.length L) : Int)) && (decide ((↑j : Int) < (↑(List.length L) : Int)) && (Nat.ble (0 + Int.toNat (↑j : Int) * 5 + 5) (List.length (pcell L)) && (decide ((↑j : Int) < (↑(List.length L) : Int)) && (Nat.ble (0 + Int.toNat (↑j : Int) * 31 + 31) (List.length (scell S)) && (decide ((↑(j + 1) : Int) < (↑(List.length L) : Int)) && (decide ((↑(j + 1) : Int) < (↑(List.length L) : Int)) && (Nat.ble (0 + Int.toNat (↑(j + 1) : Int) * 31 + 31) (List.length (scell S)) && (decide ((↑(j + 1) : Int) < (↑(List.length L) : Int)) && (Nat.ble (0 + Int.toNat (↑(j + 1) : Int) * 31 + List.length (St.cs u1)) (List.length (scell S)) && true && (decide ((↑j : Int) < (↑(List.length L) : Int)) && (AC.isI (Option.getD (pcell L)[0 + Int.toNat (↑j : Int) * 5 + 4]? (AC.b false)) && Nat.blt (0 + Int.toNat (↑j : Int) * 5 + 4) (List.length (pcell L)) && (St.live b && (decide (0 ≤ (↑(j + 1) : Int) + Ins.of (elt L j)) && decide ((↑(j + 1) : Int) + Ins.of (elt L j) < (↑(List.length L) : Int)) && (Nat.ble (0 + Int.toNat ((↑(j + 1) : Int) + Ins.of (elt L j)) * 31 + 31) (List.length (scell S1)) && (decide (0 ≤ (↑(j + 1) : Int) + Ins.of (elt L j)) && decide ((↑(j + 1) : Int) + Ins.of (elt L j) < (↑(List.length L) : Int)) && (Nat.ble (0 + Int.toNat ((↑(j + 1) : Int) + Ins.of (elt L j)) * 31 + List.length (St.cs u2)) (List.length (scell S1)) && true && true))))))))))))))))) = true) (c0 : Eff.mk (AV.ag (List.take 5 (List.drop (0 + Int.toNat (↑j : Int) * 5) (pcell L)))) [] none = Eff.mk (AV.ag (Ins.cs (elt L j))) [] none) (c1 : Eff.mk (AV.ag (List.take 31 (List.drop (0 + Int.toNat (↑j : Int) * 31) (scell S)))) [] none = Eff.mk (AV.ag (St.cs (stAt S j))) [] none) (c2 : CallOK Tryz.prog (CallRec.mk 11 [AV.ag (Ins.cs (elt L j)), AV.ag (St.cs (stAt S j))] [] (Eff.mk (AV.tu [AT.ag (St.cs a), AT.ag (St.cs b), AT.c (AC.i 0)]) [] none))) (c3 : Eff.mk (AV.c (AC.i (IntKind.wrap IntKind.i64 ((↑j : Int) + 1)))) [] none = Eff.mk (AV.c (AC.i (↑(j + 1) : Int))) [] none) (c4 : Eff.mk (AV.c (AC.i (IntKind.wrap IntKind.i64 ((↑j : Int) + 1)))) [] none = Eff.mk (AV.c (AC.i (↑(j + 1) : Int))) [] none) (c5 : Eff.mk (AV.c (AC.i (IntKind.wrap IntKind.i64 ((↑j : Int) + 1)))) [] none = Eff.mk (AV.c (AC.i (↑(j + 1) : Int))) [] none) (c6 : Eff.mk (AV.ag (List.take 31 (List.drop (0 + Int.toNat (↑(j + 1) : Int) * 31) (scell S)))) [] none = Eff.mk (AV.ag (St.cs g1)) [] none) (c7 : CallOK Tryz.prog (CallRec.mk 51 [AV.ag (St.cs g1), AV.ag (St.cs a)] [] (Eff.mk (AV.ag (St.cs u1)) [] none))) (c8 : Eff.mk (AV.raw undef) [(4, splice (scell S) (0 + Int.toNat (↑(j + 1) : Int) * 31) (St.cs u1))] none = Eff.mk (AV.raw undef) [(4, scell S1)] none) (c9 : Eff.mk (AV.c (AC.i (IntKind.wrap IntKind.i64 ((↑j : Int) + 1)))) [] none = Eff.mk (AV.c (AC.i (↑(j + 1) : Int))) [] none) (c10 : Eff.mk (AV.c (AC.i (AC.asI (Option.getD (pcell L)[0 + Int.toNat (↑j : Int) * 5 + 4]? (AC.b false))))) [] none = Eff.mk (AV.c (AC.i (Ins.of (elt L j)))) [] none) (c11 : Eff.mk (AV.c (AC.i (IntKind.wrap IntKind.i64 ((↑(j + 1) : Int) + Ins.of (elt L j))))) [] none = Eff.mk (AV.c (AC.i ((↑(j + 1) : Int) + Ins.of (elt L j)))) [] none) (c12 : Eff.mk (AV.ag (List.take 31 (List.drop (0 + Int.toNat ((↑(j + 1) : Int) + Ins.of (elt L j)) * 31) (scell S1)))) [] none = Eff.mk (AV.ag (St.cs g2)) [] none) (c13 : CallOK Tryz.prog (CallRec.mk 51 [AV.ag (St.cs g2), AV.ag (St.cs b)] [] (Eff.mk (AV.ag (St.cs u2)) [] none))) (c14 : Eff.mk (AV.raw undef) [(4, splice (scell S1) (0 + Int.toNat ((↑(j + 1) : Int) + Ins.of (elt L j)) * 31) (St.cs u2))] none = Eff.mk (AV.raw undef) [(4, scell S2)] none) (c15 : Eff.mk (AV.c (AC.i (IntKind.wrap IntKind.i64 ((↑j : Int) + 1)))) [] none = Eff.mk (AV.c (AC.i (↑(j + 1) : Int))) [] none) (lo : Kn.Low ⟨[(0, AV.c (AC.sl 0 0 (List.length L) c)), (2, AV.c (AC.w 1)), (3, AV.c (AC.sl 4 0 (List.length L) (List.length L))), (4, AV.c (AC.i (↑(j + 1) : Int)))], [(0, Ent.mk false (pcell L) 0), (1, Ent.mk true [AC.i 0, AC.i 0, nilSl] 0), (4, Ent.mk true (scell S2) 0)], 6⟩) (hF : ∀ k, C.F k → k < 6) (z : ART Tryz.prog 14 C Tryz.f14.ntmps (cutAt Tryz.f14 0) ⟨[(0, AV.c (AC.sl 0 0 (List.length L) c)), (2, AV.c (AC.w 1)), (3, AV.c (AC.sl 4 0 (List.length L) (List.length L))), (4, AV.c (AC.i (↑(j + 1) : Int)))], [(0, Ent.mk false (pcell L) 0), (1, Ent.mk true [AC.i 0, AC.i 0, nilSl] 0), (4, Ent.mk true (scell S2) 0)], 6⟩ R) :
    ART Tryz.prog 14 C Tryz.f14.ntmps (cutAt Tryz.f14 0) (Kn.mk [(0, AV.c (AC.sl 0 0 (List.length L) c)), (2, AV.c (AC.w 1)), (3, AV.c (AC.sl 4 0 (List.length L) (List.length L))), (4, AV.c (AC.i (↑j : Int)))] [(0, Ent.mk false (pcell L) 0), (1, Ent.mk true [AC.i 0, AC.i 0, nilSl] 0), (4, Ent.mk true (scell S) 0)] 6) R :=
  run_cut ⟨[(0, AV.c (AC.sl 0 0 (List.length L) c)), (2, AV.c (AC.w 1)), (3, AV.c (AC.sl 4 0 (List.length L) (List.length L))), (4, AV.c (AC.i (↑(j + 1) : Int)))], [(0, Ent.mk false (pcell L) 0), (1, Ent.mk true [AC.i 0, AC.i 0, nilSl] 0), (4, Ent.mk true (scell S2) 0)], 6⟩ 2000 [Eff.mk (AV.ag (Ins.cs (elt L j))) [] none, Eff.mk (AV.ag (St.cs (stAt S j))) [] none, Eff.mk (AV.tu [AT.ag (St.cs a), AT.ag (St.cs b), AT.c (AC.i 0)]) [] none, Eff.mk (AV.c (AC.i (↑(j + 1) : Int))) [] none, Eff.mk (AV.c (AC.i (↑(j + 1) : Int))) [] none, Eff.mk (AV.c (AC.i (↑(j + 1) : Int))) [] none, Eff.mk (AV.ag (St.cs g1)) [] none, Eff.mk (AV.ag (St.cs u1)) [] none, Eff.mk (AV.raw undef) [(4, scell S1)] none, Eff.mk (AV.c (AC.i (↑(j + 1) : Int))) [] none, Eff.mk (AV.c (AC.i (Ins.of (elt L j)))) [] none, Eff.mk (AV.c (AC.i ((↑(j + 1) : Int) + Ins.of (elt L j)))) [] none, Eff.mk (AV.ag (St.cs g2)) [] none, Eff.mk (AV.ag (St.cs u2)) [] none, Eff.mk (AV.raw undef) [(4, scell S2)] none, Eff.mk (AV.c (AC.i (↑(j + 1) : Int))) [] none] [true, false, true, true] ([true]) [(6, 3), (6, 7), (9, 1), (10, 2), (10, 5), (10, 7), (10, 11), (11, 1), (11, 6), (11, 7), (13, 5), (13, 9), (5, 1)] Tryz.func14 (by kernel_rfl) h (cr_same c0 (cr_same c1 (cr_cons c2 (cr_same c3 (cr_same c4 (cr_same c5 (cr_same c6 (cr_cons c7 (cr_same c8 (cr_same c9 (cr_same c10 (cr_same c11 (cr_same c12 (cr_cons c13 (cr_same c14 (cr_same c15 cr_nil)))))))))))))))) lo hF z
theorem roV10_w0 {L : List Ins} {c : Nat} {j : Nat} {S : List St} {a : St} {b : St} {C : Cx} {R : Ending → World → Prop} (h : (decide ((↑j : Int) < (↑(List.length L) : Int)) && (decide ((↑j : Int) < (↑(List.length L) : Int)) && (Nat.ble (0 + Int.toNat (↑j : Int) * 5 + 5) (List.length (pcell L)) && (decide ((↑j : Int) < (↑(List.length L) : Int)) && (Nat.ble (0 + Int.toNat (↑j : Int) * 31 + 31) (List.length (scell S)) && (!decide ((↑(j + 1) : Int) < (↑(List.length L) : Int)) && (decide ((↑j : Int) < (↑(List.length L) : Int)) && (AC.isI (Option.getD (pcell L)[0 + Int.toNat (↑j : Int) * 5 + 4]? (AC.b false)) && Nat.blt (0 + Int.toNat (↑j : Int) * 5 + 4) (List.length (pcell L)) && (!St.live b && true))))))))) = true) (c0 : Eff.mk (AV.ag (List.take 5 (List.drop (0 + Int.toNat (↑j : Int) * 5) (pcell L)))) [] none = Eff.mk (AV.ag (Ins.cs (elt L j))) [] none) (c1 : Eff.mk (AV.ag (List.take 31 (List.drop (0 + Int.toNat (↑j : Int) * 31) (scell S)))) [] none = Eff.mk (AV.ag (St.cs (stAt S j))) [] none) (c2 : CallOK Tryz.prog (CallRec.mk 11 [AV.ag (Ins.cs (elt L j)), AV.ag (St.cs (stAt S j))] [] (Eff.mk (AV.tu [AT.ag (St.cs a), AT.ag (St.cs b), AT.c (AC.i 0)]) [] none))) (c3 : Eff.mk (AV.c (AC.i (IntKind.wrap IntKind.i64 ((↑j : Int) + 1)))) [] none = Eff.mk (AV.c (AC.i (↑(j + 1) : Int))) [] none) (c4 : Eff.mk (AV.c (AC.i (IntKind.wrap IntKind.i64 ((↑j : Int) + 1)))) [] none = Eff.mk (AV.c (AC.i (↑(j + 1) : Int))) [] none) (c5 : Eff.mk (AV.c (AC.i (AC.asI (Option.getD (pcell L)[0 + Int.toNat (↑j : Int) * 5 + 4]? (AC.b false))))) [] none = Eff.mk (AV.c (AC.i (Ins.of (elt L j)))) [] none) (c6 : Eff.mk (AV.c (AC.i (IntKind.wrap IntKind.i64 ((↑(j + 1) : Int) + Ins.of (elt L j))))) [] none = Eff.mk (AV.c (AC.i ((↑(j + 1) : Int) + Ins.of (elt L j)))) [] none) (c7 : Eff.mk (AV.c (AC.i (IntKind.wrap IntKind.i64 ((↑j : Int) + 1)))) [] none = Eff.mk (AV.c (AC.i (↑(j + 1) : Int))) [] none) (lo : Kn.Low ⟨[(0, AV.c (AC.sl 0 0 (List.length L) c)), (2, AV.c (AC.w 1)), (3, AV.c (AC.sl 4 0 (List.length L) (List.length L))), (4, AV.c (AC.i (↑(j + 1) : Int)))], [(0, Ent.mk false (pcell L) 0), (1, Ent.mk true [AC.i 0, AC.i 0, nilSl] 0), (4, Ent.mk true (scell S) 0)], 6⟩) (hF : ∀ k, C.F k → k < 6) (z : ART Tryz.prog 14 C Tryz.f14.ntmps (cutAt Tryz.f14 0) ⟨[(0, AV.c (AC.sl 0 0 (List.length L) c)), (2, AV.c (AC.w 1)), (3, AV.c (AC.sl 4 0 (List.length L) (List.length L))), (4, AV.c (AC.i (↑(j + 1) : Int)))], [(0, Ent.mk false (pcell L) 0), (1, Ent.mk true [AC.i 0, AC.i 0, nilSl] 0), (4, Ent.mk true (scell S) 0)], 6⟩ R) :
    ART Tryz.prog 14 C Tryz.f14.ntmps (cutAt Tryz.f14 0) (Kn.mk [(0, AV.c (AC.sl 0 0 (List.length L) c)), (2, AV.c (AC.w 1)), (3, AV.c (AC.sl 4 0 (List.length L) (List.length L))), (4, AV.c (AC.i (↑j : Int)))] [(0, Ent.mk false (pcell L) 0), (1, Ent.mk true [AC.i 0, AC.i 0, nilSl] 0), (4, Ent.mk true (scell S) 0)] 6) R :=
  run_cut ⟨[(0, AV.c (AC.sl 0 0 (List.length L) c)), (2, AV.c (AC.w 1)), (3, AV.c (AC.sl 4 0 (List.length L) (List.length L))), (4, AV.c (AC.i (↑(j + 1) : Int)))], [(0, Ent.mk false (pcell L) 0), (1, Ent.mk true [AC.i 0, AC.i 0, nilSl] 0), (4, Ent.mk true (scell S) 0)], 6⟩ 2000 [Eff.mk (AV.ag (Ins.cs (elt L j))) [] none, Eff.mk (AV.ag (St.cs (stAt S j))) [] none, Eff.mk (AV.tu [AT.ag (St.cs a), AT.ag (St.cs b), AT.c (AC.i 0)]) [] none, Eff.mk (AV.c (AC.i (↑(j + 1) : Int))) [] none, Eff.mk (AV.c (AC.i (↑(j + 1) : Int))) [] none, Eff.mk (AV.c (AC.i (Ins.of (elt L j)))) [] none, Eff.mk (AV.c (AC.i ((↑(j + 1) : Int) + Ins.of (elt L j)))) [] none, Eff.mk (AV.c (AC.i (↑(j + 1) : Int))) [] none] [true, false, false, false] ([true]) [(6, 3), (6, 7), (9, 1), (10, 2), (10, 5), (10, 7), (10, 11), (11, 1), (11, 6), (11, 7), (13, 5), (13, 9), (5, 1)] Tryz.func14 (by kernel_rfl) h (cr_same c0 (cr_same c1 (cr_cons c2 (cr_same c3 (cr_same c4 (cr_same c5 (cr_same c6 (cr_same c7 cr_nil)))))))) lo hF z
theorem srOTop_w0 {S : List St} {S2 : List St} {q : Nat} {d : Nat} {tr : Int} {p : Int} {C : Cx} {R : Ending → World → Prop} (h : (!tr != tr && (!p != p && (!(↑q : Int) != (↑q : Int) && true))) = true) (lo : Kn.Low ⟨[(2, AV.c (AC.w 2)), (3, AV.c (AC.w 3)), (5, AV.c (AC.i 0))], [(0, Ent.mk false (scell S) 0), (1, Ent.mk false (scell S2) 0), (2, Ent.mk true [AC.i tr, AC.i p, AC.sl 0 0 q q] 0), (3, Ent.mk true [AC.i tr, AC.i p, AC.sl 1 0 q d] 0)], 4⟩) (hF : ∀ k, C.F k → k < 4) (z : ART Tryz.prog 16 C Tryz.f16.ntmps (cutAt Tryz.f16 0) ⟨[(2, AV.c (AC.w 2)), (3, AV.c (AC.w 3)), (5, AV.c (AC.i 0))], [(0, Ent.mk false (scell S) 0), (1, Ent.mk false (scell S2) 0), (2, Ent.mk true [AC.i tr, AC.i p, AC.sl 0 0 q q] 0), (3, Ent.mk true [AC.i tr, AC.i p, AC.sl 1 0 q d] 0)], 4⟩ R) :
    ART Tryz.prog 16 C Tryz.f16.ntmps ([Item.code (bodyOf Tryz.f16)]) (Kn.start [AV.ag [AC.i tr, AC.i p, AC.sl 0 0 q q], AV.ag [AC.i tr, AC.i p, AC.sl 1 0 q d]] [(0, Ent.mk false (scell S) 0), (1, Ent.mk false (scell S2) 0)] 2) R :=
  run_cut ⟨[(2, AV.c (AC.w 2)), (3, AV.c (AC.w 3)), (5, AV.c (AC.i 0))], [(0, Ent.mk false (scell S) 0), (1, Ent.mk false (scell S2) 0), (2, Ent.mk true [AC.i tr, AC.i p, AC.sl 0 0 q q] 0), (3, Ent.mk true [AC.i tr, AC.i p, AC.sl 1 0 q d] 0)], 4⟩ 2000 [] [false, false, false] ([true]) [] Tryz.func16 (by kernel_rfl) h cr_nil lo hF z
theorem srOR_w0 {S : List St} {S2 : List St} {q : Nat} {d : Nat} {j : Nat} {tr : Int} {p : Int} {u : St} {C : Cx} {R : Ending → World → Prop} (h : (decide ((↑j : Int) < (↑q : Int)) && (decide ((↑j : Int) < (↑q : Int)) && (Nat.ble (0 + Int.toNat (↑j : Int) * 31 + 31) (List.length (scell S)) && (decide ((↑j : Int) < (↑q : Int)) && (Nat.ble (0 + Int.toNat (↑j : Int) * 31 + 31) (List.length (scell S2)) && (!!eqCs (St.cs u) (St.cs u) && true)))))) = true) (c0 : Eff.mk (AV.ag (List.take 31 (List.drop (0 + Int.toNat (↑j : Int) * 31) (scell S)))) [] none = Eff.mk (AV.ag (St.cs u)) [] none) (c1 : Eff.mk (AV.ag (List.take 31 (List.drop (0 + Int.toNat (↑j : Int) * 31) (scell S2)))) [] none = Eff.mk (AV.ag (St.cs u)) [] none) (c2 : Eff.mk (AV.c (AC.i (IntKind.wrap IntKind.i64 ((↑j : Int) + 1)))) [] none = Eff.mk (AV.c (AC.i (↑(j + 1) : Int))) [] none) (lo : Kn.Low ⟨[(2, AV.c (AC.w 2)), (3, AV.c (AC.w 3)), (5, AV.c (AC.i (↑(j + 1) : Int)))], [(0, Ent.mk false (scell S) 0), (1, Ent.mk false (scell S2) 0), (2, Ent.mk true [AC.i tr, AC.i p, AC.sl 0 0 q q] 0), (3, Ent.mk true [AC.i tr, AC.i p, AC.sl 1 0 q d] 0)], 4⟩) (hF : ∀ k, C.F k → k < 4) (z : ART Tryz.prog 16 C Tryz.f16.ntmps (cutAt Tryz.f16 0) ⟨[(2, AV.c (AC.w 2)), (3, AV.c (AC.w 3)), (5, AV.c (AC.i (↑(j + 1) : Int)))], [(0, Ent.mk false (scell S) 0), (1, Ent.mk false (scell S2) 0), (2, Ent.mk true [AC.i tr, AC.i p, AC.sl 0 0 q q] 0), (3, Ent.mk true [AC.i tr, AC.i p, AC.sl 1 0 q d] 0)], 4⟩ R) :
    ART Tryz.prog 16 C Tryz.f16.ntmps (cutAt Tryz.f16 0) (Kn.mk [(2, AV.c (AC.w 2)), (3, AV.c (AC.w 3)), (5, AV.c (AC.i (↑j : Int)))] [(0, Ent.mk false (scell S) 0), (1, Ent.mk false (scell S2) 0), (2, Ent.mk true [AC.i tr, AC.i p, AC.sl 0 0 q q] 0), (3, Ent.mk true [AC.i tr, AC.i p, AC.sl 1 0 q d] 0)] 4) R :=
  run_cut ⟨[(2, AV.c (AC.w 2)), (3, AV.c (AC.w 3)), (5, AV.c (AC.i (↑(j + 1) : Int)))], [(0, Ent.mk false (scell S) 0), (1, Ent.mk false (scell S2) 0), (2, Ent.mk true [AC.i tr, AC.i p, AC.sl 0 0 q q] 0), (3, Ent.mk true [AC.i tr, AC.i p, AC.sl 1 0 q d] 0)], 4⟩ 2000 [Eff.mk (AV.ag (St.cs u)) [] none, Eff.mk (AV.ag (St.cs u)) [] none, Eff.mk (AV.c (AC.i (↑(j + 1) : Int))) [] none] [true, false] ([true]) [(6, 4), (6, 9), (5, 1)] Tryz.func16 (by kernel_rfl) h (cr_same c0 (cr_same c1 (cr_same c2 cr_nil))) lo hF z
theorem srOE_w0 {S : List St} {S2 : List St} {q : Nat} {d : Nat} {j : Nat} {tr : Int} {p : Int} {w : World} {β : Bs} {n : Nat} (h : (!decide ((↑j : Int) < (↑q : Int)) && true) = true) :
    ART Tryz.prog 16 (cx w β n []) Tryz.f16.ntmps (cutAt Tryz.f16 0) (Kn.mk [(2, AV.c (AC.w 2)), (3, AV.c (AC.w 3)), (5, AV.c (AC.i (↑j : Int)))] [(0, Ent.mk false (scell S) 0), (1, Ent.mk false (scell S2) 0), (2, Ent.mk true [AC.i tr, AC.i p, AC.sl 0 0 q q] 0), (3, Ent.mk true [AC.i tr, AC.i p, AC.sl 1 0 q d] 0)] 4) (REff w β ⟨AV.c (AC.b true), [], none⟩) :=
  run_eff [] (none) 2000 [] [false] ([true]) [] Tryz.func16 (ekeys0 rfl n) (by kernel_rfl) h cr_nil
theorem srTTop_w0 {S : List St} {S2 : List St} {q : Nat} {d : Nat} {tr : Int} {p : Int} {C : Cx} {R : Ending → World → Prop} (h : (!tr != tr && (!p != p && (!(↑q : Int) != (↑q : Int) && true))) = true) (lo : Kn.Low ⟨[(2, AV.c (AC.w 2)), (3, AV.c (AC.w 3)), (5, AV.c (AC.i 0))], [(0, Ent.mk false (scell S) 0), (1, Ent.mk false (scell S2) 0), (2, Ent.mk true [AC.i tr, AC.i p, AC.sx 0 q] 0), (3, Ent.mk true [AC.i tr, AC.i p, AC.sl 1 0 q d] 0)], 4⟩) (hF : ∀ k, C.F k → k < 4) (z : ART Tryz.prog 16 C Tryz.f16.ntmps (cutAt Tryz.f16 0) ⟨[(2, AV.c (AC.w 2)), (3, AV.c (AC.w 3)), (5, AV.c (AC.i 0))], [(0, Ent.mk false (scell S) 0), (1, Ent.mk false (scell S2) 0), (2, Ent.mk true [AC.i tr, AC.i p, AC.sx 0 q] 0), (3, Ent.mk true [AC.i tr, AC.i p, AC.sl 1 0 q d] 0)], 4⟩ R) :
    ART Tryz.prog 16 C Tryz.f16.ntmps ([Item.code (bodyOf Tryz.f16)]) (Kn.start [AV.ag [AC.i tr, AC.i p, AC.sx 0 q], AV.ag [AC.i tr, AC.i p, AC.sl 1 0 q d]] [(0, Ent.mk false (scell S) 0), (1, Ent.mk false (scell S2) 0)] 2) R :=
  run_cut ⟨[(2, AV.c (AC.w 2)), (3, AV.c (AC.w 3)), (5, AV.c (AC.i 0))], [(0, Ent.mk false (scell S) 0), (1, Ent.mk false (scell S2) 0), (2, Ent.mk true [AC.i tr, AC.i p, AC.sx 0 q] 0), (3, Ent.mk true [AC.i tr, AC.i p, AC.sl 1 0 q d] 0)], 4⟩ 2000 [] [false, false, false] ([true]) [] Tryz.func16 (by kernel_rfl) h cr_nil lo hF z
theorem srTR_w0 {S : List St} {S2 : List St} {q : Nat} {d : Nat} {j : Nat} {tr : Int} {p : Int} {u : St} {C : Cx} {R : Ending → World → Prop} (h : (decide ((↑j : Int) < (↑q : Int)) && (decide ((↑j : Int) < (↑q : Int)) && (Nat.ble (Int.toNat (↑j : Int) * 31 + 31) (List.length (scell S)) && (decide ((↑j : Int) < (↑q : Int)) && (Nat.ble (0 + Int.toNat (↑j : Int) * 31 + 31) (List.length (scell S2)) && (!!eqCs (St.cs u) (St.cs u) && true)))))) = true) (c0 : Eff.mk (AV.ag (List.take 31 (List.drop (Int.toNat (↑j : Int) * 31) (scell S)))) [] none = Eff.mk (AV.ag (St.cs u)) [] none) (c1 : Eff.mk (AV.ag (List.take 31 (List.drop (0 + Int.toNat (↑j : Int) * 31) (scell S2)))) [] none = Eff.mk (AV.ag (St.cs u)) [] none) (c2 : Eff.mk (AV.c (AC.i (IntKind.wrap IntKind.i64 ((↑j : Int) + 1)))) [] none = Eff.mk (AV.c (AC.i (↑(j + 1) : Int))) [] none) (lo : Kn.Low ⟨[(2, AV.c (AC.w 2)), (3, AV.c (AC.w 3)), (5, AV.c (AC.i (↑(j + 1) : Int)))], [(0, Ent.mk false (scell S) 0), (1, Ent.mk false (scell S2) 0), (2, Ent.mk true [AC.i tr, AC.i p, AC.sx 0 q] 0), (3, Ent.mk true [AC.i tr, AC.i p, AC.sl 1 0 q d] 0)], 4⟩) (hF : ∀ k, C.F k → k < 4) (z : ART Tryz.prog 16 C Tryz.f16.ntmps (cutAt Tryz.f16 0) ⟨[(2, AV.c (AC.w 2)), (3, AV.c (AC.w 3)), (5, AV.c (AC.i (↑(j + 1) : Int)))], [(0, Ent.mk false (scell S) 0), (1, Ent.mk false (scell S2) 0), (2, Ent.mk true [AC.i tr, AC.i p, AC.sx 0 q] 0), (3, Ent.mk true [AC.i tr, AC.i p, AC.sl 1 0 q d] 0)], 4⟩ R) :
    ART Tryz.prog 16 C Tryz.f16.ntmps (cutAt Tryz.f16 0) (Kn.mk [(2, AV.c (AC.w 2)), (3, AV.c (AC.w 3)), (5, AV.c (AC.i (↑j : Int)))] [(0, Ent.mk false (scell S) 0), (1, Ent.mk false (scell S2) 0), (2, Ent.mk true [AC.i tr, AC.i p, AC.sx 0 q] 0), (3, Ent.mk true [AC.i tr, AC.i p, AC.sl 1 0 q d] 0)] 4) R :=
  run_cut ⟨[(2, AV.c (AC.w 2)), (3, AV.c (AC.w 3)), (5, AV.c (AC.i (↑(j + 1) : Int)))], [(0, Ent.mk false (scell S) 0), (1, Ent.mk false (scell S2) 0), (2, Ent.mk true [AC.i tr, AC.i p, AC.sx 0 q] 0), (3, Ent.mk true [AC.i tr, AC.i p, AC.sl 1 0 q d] 0)], 4⟩ 2000 [Eff.mk (AV.ag (St.cs u)) [] none, Eff.mk (AV.ag (St.cs u)) [] none, Eff.mk (AV.c (AC.i (↑(j + 1) : Int))) [] none] [true, false] ([true]) [(6, 4), (6, 9), (5, 1)] Tryz.func16 (by kernel_rfl) h (cr_same c0 (cr_same c1 (cr_same c2 cr_nil))) lo hF z
theorem srTE_w0 {S : List St} {S2 : List St} {q : Nat} {d : Nat} {j : Nat} {tr : Int} {p : Int} {w : World} {β : Bs} {n : Nat} (h : (!decide ((↑j : Int) < (↑q : Int)) && true) = true) :
    ART Tryz.prog 16 (cx w β n []) Tryz.f16.ntmps (cutAt Tryz.f16 0) (Kn.mk [(2, AV.c (AC.w 2)), (3, AV.c (AC.w 3)), (5, AV.c (AC.i (↑j : Int)))] [(0, Ent.mk false (scell S) 0), (1, Ent.mk false (scell S2) 0), (2, Ent.mk true [AC.i tr, AC.i p, AC.sx 0 q] 0), (3, Ent.mk true [AC.i tr, AC.i p, AC.sl 1 0 q d] 0)] 4) (REff w β ⟨AV.c (AC.b true), [], none⟩) :=
  run_eff [] (none) 2000 [] [false] ([true]) [] Tryz.func16 (ekeys0 rfl n) (by kernel_rfl) h cr_nil
theorem srNil_w0 :
    CallOK Tryz.prog ⟨16, [AV.ag [AC.i 0, AC.i 0, nilSl], AV.ag [AC.i 0, AC.i 0, nilSl]], [], ⟨AV.c (AC.b true), [], none⟩⟩ :=
  val_run 2000 [] [false, false, false, false] ([false]) [] Tryz.func16 rfl rfl rfl rfl (by kernel_rfl) rfl cr_nil
end Go.Proofs.YtkigmocchaikgabGreat

/- Ways of bodies, written by a program (ways.py): what each asks for, and hands back. -/
namespace Go.Proofs.YtkigmocchaikgabGreat
open Go.RowKit

theorem addS_w0 {S : List St} {q : Nat} {c : Nat} {k : Int} {t : St} {j1 : St} {e : Int} {w : World} {β : Bs} {n : Nat} (h : (St.live t && (decide (0 ≤ k) && decide (k < (↑q : Int)) && (Nat.ble (0 + Int.toNat k * 31 + 31) (List.length (scell S)) && (decide (0 ≤ k) && decide (k < (↑q : Int)) && (Nat.ble (0 + Int.toNat k * 31 + List.length (St.cs j1)) (List.length (scell S)) && true && true))))) = true) (c0 : Eff.mk (AV.ag (List.take 31 (List.drop (0 + Int.toNat k * 31) (scell S)))) [] none = Eff.mk (AV.ag (St.cs (stAt S (Int.toNat k)))) [] none) (c1 : CallOK Tryz.prog (CallRec.mk 35 [AV.ag (St.cs (stAt S (Int.toNat k))), AV.ag (St.cs t)] [] (Eff.mk (AV.tu [AT.ag (St.cs j1), AT.c (AC.i e)]) [] none))) (c2 : Eff.mk (AV.raw undef) [(0, splice (scell S) (0 + Int.toNat k * 31) (St.cs j1))] none = Eff.mk (AV.raw undef) [(0, scell (List.set S (Int.toNat k) j1))] none) (hk : EKeys n [0] (none) ⟨AV.tu [], [(0, scell (List.set S (Int.toNat k) j1))], none⟩) :
    ART Tryz.prog 49 (cx w β n [0]) Tryz.f49.ntmps ([Item.code (bodyOf Tryz.f49)]) (Kn.start [AV.c (AC.sl 0 0 q c), AV.c (AC.i k), AV.ag (St.cs t)] [(0, Ent.mk true (scell S) 0)] 1) (REff w β ⟨AV.tu [], [(0, scell (List.set S (Int.toNat k) j1))], none⟩) :=
  run_eff [0] (none) 2000 [Eff.mk (AV.ag (St.cs (stAt S (Int.toNat k)))) [] none, Eff.mk (AV.tu [AT.ag (St.cs j1), AT.c (AC.i e)]) [] none, Eff.mk (AV.raw undef) [(0, scell (List.set S (Int.toNat k) j1))] none] [true] ([]) [(2, 5), (2, 12)] Tryz.func49 hk (by kernel_rfl) h (cr_same c0 (cr_cons c1 (cr_same c2 cr_nil)))
theorem addS_w1 {S : List St} {q : Nat} {c : Nat} {k : Int} {t : St} {w : World} {β : Bs} {n : Nat} (h : (!St.live t && true) = true) (hk : EKeys n [0] (none) ⟨AV.tu [], [(0, scell S)], none⟩) :
    ART Tryz.prog 49 (cx w β n [0]) Tryz.f49.ntmps ([Item.code (bodyOf Tryz.f49)]) (Kn.start [AV.c (AC.sl 0 0 q c), AV.c (AC.i k), AV.ag (St.cs t)] [(0, Ent.mk true (scell S) 0)] 1) (REff w β ⟨AV.tu [], [(0, scell S)], none⟩) :=
  run_eff [0] (none) 2000 [] [false] ([]) [(2, 5), (2, 12)] Tryz.func49 hk (by kernel_rfl) h cr_nil
theorem addS_all {S : List St} {q : Nat} {c : Nat} {k : Int} {t : St} {j1 : St} {e : Int} {w : World} {β : Bs} {n : Nat} {E : Eff}
    (l0 : (St.live t) = true → (decide (0 ≤ k) && decide (k < (↑q : Int))) = true ∧ (Nat.ble (0 + Int.toNat k * 31 + 31) (List.length (scell S))) = true ∧ (decide (0 ≤ k) && decide (k < (↑q : Int))) = true ∧ (Nat.ble (0 + Int.toNat k * 31 + List.length (St.cs j1)) (List.length (scell S)) && true) = true ∧ (Eff.mk (AV.ag (List.take 31 (List.drop (0 + Int.toNat k * 31) (scell S)))) [] none = Eff.mk (AV.ag (St.cs (stAt S (Int.toNat k)))) [] none) ∧ (CallOK Tryz.prog (CallRec.mk 35 [AV.ag (St.cs (stAt S (Int.toNat k))), AV.ag (St.cs t)] [] (Eff.mk (AV.tu [AT.ag (St.cs j1), AT.c (AC.i e)]) [] none))) ∧ (Eff.mk (AV.raw undef) [(0, splice (scell S) (0 + Int.toNat k * 31) (St.cs j1))] none = Eff.mk (AV.raw undef) [(0, scell (List.set S (Int.toNat k) j1))] none) ∧ EKeys n [0] (none) ⟨AV.tu [], [(0, scell (List.set S (Int.toNat k) j1))], none⟩ ∧ ((⟨AV.tu [], [(0, scell (List.set S (Int.toNat k) j1))], none⟩ : Eff) = E))
    (l1 : (St.live t) = false → EKeys n [0] (none) ⟨AV.tu [], [(0, scell S)], none⟩ ∧ ((⟨AV.tu [], [(0, scell S)], none⟩ : Eff) = E)) :
    ART Tryz.prog 49 (cx w β n [0]) Tryz.f49.ntmps ([Item.code (bodyOf Tryz.f49)]) (Kn.start [AV.c (AC.sl 0 0 q c), AV.c (AC.i k), AV.ag (St.cs t)] [(0, Ent.mk true (scell S) 0)] 1) (REff w β E) :=
  (tf (St.live t)).elim (fun h0 => (match l0 h0 with | ⟨o0, o1, o2, o3, c0, c1, c2, hk, e⟩ => art_eq (addS_w0 (and_yes h0 (and_yes o0 (and_yes o1 (and_yes o2 (and_yes o3 rfl))))) c0 c1 c2 hk) e)) (fun h0 => (match l1 h0 with | ⟨hk, e⟩ => art_eq (addS_w1 (and_yes (not_yes h0) rfl) hk) e))
theorem vTop_w0 {L : List Ins} {c : Nat} {e : Int} {w : World} {β : Bs} {n : Nat} (h : (e != 0 && true) = true) (c0 : CallOK Tryz.prog (CallRec.mk 47 [AV.c (AC.sl 0 0 (List.length L) c)] [(0, Ent.mk false (pcell L) 0)] (Eff.mk (AV.c (AC.i e)) [] none))) :
    ART Tryz.prog 12 (cx w β n []) Tryz.f12.ntmps ([Item.code (bodyOf Tryz.f12)]) (Kn.start [AV.c (AC.sl 0 0 (List.length L) c)] [(0, Ent.mk false (pcell L) 0)] 1) (REff w β ⟨AV.tu [AT.ag [AC.i 0, AC.i 0, nilSl], AT.c (AC.i e)], [], none⟩) :=
  run_eff [] (none) 2000 [Eff.mk (AV.c (AC.i e)) [] none] [true] ([true]) [(4, 2), (5, 3)] Tryz.func12 (ekeys0 rfl n) (by kernel_rfl) h (cr_cons c0 cr_nil)
theorem vTop_w1 {L : List Ins} {c : Nat} {b : St} {e : Int} {C : Cx} {R : Ending → World → Prop} (h : (!e != 0 && (decide ((↑(List.length L) : Int) ≤ (↑(List.length L) : Int)) && decide ((↑(List.length L) : Int) ≤ 1099511627776) && true && (decide (0 < (↑(List.length L) : Int)) && (Nat.ble (0 + List.length (St.cs b)) (List.length (scell (List.replicate (List.length L) St.z))) && true && true)))) = true) (c0 : CallOK Tryz.prog (CallRec.mk 47 [AV.c (AC.sl 0 0 (List.length L) c)] [(0, Ent.mk false (pcell L) 0)] (Eff.mk (AV.c (AC.i e)) [] none))) (c1 : Eff.mk (AV.c (AC.sl 10 0 (Int.toNat (↑(List.length L) : Int)) (Int.toNat (↑(List.length L) : Int)))) [] (some (1 + 2 + 3 + 2 + 2, Ent.mk true (rows (Int.toNat (↑(List.length L) : Int)) (St.cs St.z)) 0)) = Eff.mk (AV.c (AC.sl 10 0 (List.length L) (List.length L))) [] (some (10, Ent.mk true (scell (List.replicate (List.length L) St.z)) 0))) (c2 : CallOK Tryz.prog (CallRec.mk 33 [] [] (Eff.mk (AV.ag (St.cs b)) [] none))) (c3 : Eff.mk (AV.raw undef) [(10, splice (scell (List.replicate (List.length L) St.z)) 0 (St.cs b))] none = Eff.mk (AV.raw undef) [(10, scell (List.set (List.replicate (List.length L) St.z) 0 b))] none) (lo : Kn.Low ⟨[(2, AV.c (AC.w 1)), (5, AV.c (AC.sl 10 0 (List.length L) (List.length L))), (24, AV.c (AC.sl 0 0 (List.length L) c)), (25, AV.c (AC.i (↑(List.length L) : Int))), (26, AV.c (AC.i 0))], [(0, Ent.mk false (pcell L) 0), (1, Ent.mk true [AC.i 0, AC.i 0, nilSl] 0), (10, Ent.mk true (scell (List.set (List.replicate (List.length L) St.z) 0 b)) 0)], 11⟩) (hF : ∀ k, C.F k → k < 11) (z : ART Tryz.prog 12 C Tryz.f12.ntmps (cutAt Tryz.f12 0) ⟨[(2, AV.c (AC.w 1)), (5, AV.c (AC.sl 10 0 (List.length L) (List.length L))), (24, AV.c (AC.sl 0 0 (List.length L) c)), (25, AV.c (AC.i (↑(List.length L) : Int))), (26, AV.c (AC.i 0))], [(0, Ent.mk false (pcell L) 0), (1, Ent.mk true [AC.i 0, AC.i 0, nilSl] 0), (10, Ent.mk true (scell (List.set (List.replicate (List.length L) St.z) 0 b)) 0)], 11⟩ R) :
    ART Tryz.prog 12 C Tryz.f12.ntmps ([Item.code (bodyOf Tryz.f12)]) (Kn.start [AV.c (AC.sl 0 0 (List.length L) c)] [(0, Ent.mk false (pcell L) 0)] 1) R :=
  run_cut ⟨[(2, AV.c (AC.w 1)), (5, AV.c (AC.sl 10 0 (List.length L) (List.length L))), (24, AV.c (AC.sl 0 0 (List.length L) c)), (25, AV.c (AC.i (↑(List.length L) : Int))), (26, AV.c (AC.i 0))], [(0, Ent.mk false (pcell L) 0), (1, Ent.mk true [AC.i 0, AC.i 0, nilSl] 0), (10, Ent.mk true (scell (List.set (List.replicate (List.length L) St.z) 0 b)) 0)], 11⟩ 2000 [Eff.mk (AV.c (AC.i e)) [] none, Eff.mk (AV.c (AC.sl 10 0 (List.length L) (List.length L))) [] (some (10, Ent.mk true (scell (List.replicate (List.length L) St.z)) 0)), Eff.mk (AV.ag (St.cs b)) [] none, Eff.mk (AV.raw undef) [(10, scell (List.set (List.replicate (List.length L) St.z) 0 b))] none] [false] ([true]) [(4, 2), (5, 3)] Tryz.func12 (by kernel_rfl) h (cr_cons c0 (cr_same c1 (cr_cons c2 (cr_same c3 cr_nil)))) lo hF z
theorem vNil_w0 {e : Int} (h : (e != 0 && true) = true) (c0 : CallOK Tryz.prog (CallRec.mk 47 [AV.c nilSl] [] (Eff.mk (AV.c (AC.i e)) [] none))) :
    CallOK Tryz.prog ⟨12, [AV.c nilSl], [], ⟨AV.tu [AT.ag [AC.i 0, AC.i 0, nilSl], AT.c (AC.i e)], [], none⟩⟩ :=
  val_run 2000 [Eff.mk (AV.c (AC.i e)) [] none] [true] ([true]) [] Tryz.func12 rfl rfl rfl rfl (by kernel_rfl) h (cr_cons c0 cr_nil)
theorem vTrap_w0 {L : List Ins} {c : Nat} {j : Nat} {S : List St} {a : St} {b : St} {tr : Int} {g : Int} {w : World} {β : Bs} {n : Nat} (h : (decide ((↑j : Int) < (↑(List.length L) : Int)) && (decide ((↑j : Int) < (↑(List.length L) : Int)) && (Nat.ble (0 + Int.toNat (↑j : Int) * 5 + 5) (List.length (pcell L)) && (decide ((↑j : Int) < (↑(List.length L) : Int)) && (Nat.ble (0 + Int.toNat (↑j : Int) * 31 + 31) (List.length (scell S)) && (tr != 0 && (decide ((↑(j + 1) : Int) ≤ (↑(List.length L) : Int)) && decide ((↑(List.length L) : Int) ≤ (↑(List.length L) : Int)) && true))))))) = true) (c0 : Eff.mk (AV.ag (List.take 5 (List.drop (0 + Int.toNat (↑j : Int) * 5) (pcell L)))) [] none = Eff.mk (AV.ag (Ins.cs (elt L j))) [] none) (c1 : Eff.mk (AV.ag (List.take 31 (List.drop (0 + Int.toNat (↑j : Int) * 31) (scell S)))) [] none = Eff.mk (AV.ag (St.cs (stAt S j))) [] none) (c2 : CallOK Tryz.prog (CallRec.mk 7 [AV.ag (Ins.cs (elt L j)), AV.ag (St.cs (stAt S j))] [] (Eff.mk (AV.tu [AT.ag (St.cs a), AT.ag (St.cs b), AT.c (AC.i tr), AT.c (AC.i g)]) [] none))) (c3 : Eff.mk (AV.c (AC.i (IntKind.wrap IntKind.i64 ((↑j : Int) + 1)))) [] none = Eff.mk (AV.c (AC.i (↑(j + 1) : Int))) [] none) (c4 : Eff.mk (AV.c (AC.sl 10 0 (Int.toNat ((↑(j + 1) : Int))) (Int.toNat ((↑(List.length L) : Int))))) [] none = Eff.mk (AV.c (AC.sl 10 0 (j + 1) (List.length L))) [] none) (c5 : CallOK Tryz.prog (CallRec.mk 48 [AV.c (AC.sl 10 0 (j + 1) (List.length L))] [(10, Ent.mk true (scell S) 0)] (Eff.mk (AV.c (AC.sx 43 (j + 1))) [] (some (43, Ent.mk true (scell (List.take (j + 1) S)) 31))))) (hk : EKeys n [] (some 43) ⟨AV.tu [AT.ag [AC.i tr, AC.i (↑j : Int), AC.sx 43 (j + 1)], AT.c (AC.i 0)], [], some (43, Ent.mk true (scell (List.take (j + 1) S)) 31)⟩) :
    ART Tryz.prog 12 (cx w β n []) Tryz.f12.ntmps (cutAt Tryz.f12 0) (Kn.mk [(2, AV.c (AC.w 1)), (5, AV.c (AC.sl 10 0 (List.length L) (List.length L))), (24, AV.c (AC.sl 0 0 (List.length L) c)), (25, AV.c (AC.i (↑(List.length L) : Int))), (26, AV.c (AC.i (↑j : Int)))] [(0, Ent.mk false (pcell L) 0), (1, Ent.mk true [AC.i 0, AC.i 0, nilSl] 0), (10, Ent.mk true (scell S) 0)] 11) (REff w β ⟨AV.tu [AT.ag [AC.i tr, AC.i (↑j : Int), AC.sx 43 (j + 1)], AT.c (AC.i 0)], [], some (43, Ent.mk true (scell (List.take (j + 1) S)) 31)⟩) :=
  run_eff [] (some 43) 2000 [Eff.mk (AV.ag (Ins.cs (elt L j))) [] none, Eff.mk (AV.ag (St.cs (stAt S j))) [] none, Eff.mk (AV.tu [AT.ag (St.cs a), AT.ag (St.cs b), AT.c (AC.i tr), AT.c (AC.i g)]) [] none, Eff.mk (AV.c (AC.i (↑(j + 1) : Int))) [] none, Eff.mk (AV.c (AC.sl 10 0 (j + 1) (List.length L))) [] none, Eff.mk (AV.c (AC.sx 43 (j + 1))) [] (some (43, Ent.mk true (scell (List.take (j + 1) S)) 31))] [true, true] ([true]) [(8, 2), (9, 4), (11, 4), (11, 5)] Tryz.func12 hk (by kernel_rfl) h (cr_same c0 (cr_same c1 (cr_cons c2 (cr_same c3 (cr_same c4 (cr_cons c5 cr_nil))))))
theorem vRound_w0 {L : List Ins} {c : Nat} {j : Nat} {S : List St} {S1 : List St} {S2 : List St} {a : St} {b : St} {tr : Int} {g : Int} {C : Cx} {R : Ending → World → Prop} (h : (decide ((↑j : Int) < (↑(List.length L) : Int)) && (decide ((↑j : Int) < (↑(List.length L) : Int)) && (Nat.ble (0 + Int.toNat (↑j : Int) * 5 + 5) (List.length (pcell L)) && (decide ((↑j : Int) < (↑(List.length L) : Int)) && (Nat.ble (0 + Int.toNat (↑j : Int) * 31 + 31) (List.length (scell S)) && (!tr != 0 && true)))))) = true) (c0 : Eff.mk (AV.ag (List.take 5 (List.drop (0 + Int.toNat (↑j : Int) * 5) (pcell L)))) [] none = Eff.mk (AV.ag (Ins.cs (elt L j))) [] none) (c1 : Eff.mk (AV.ag (List.take 31 (List.drop (0 + Int.toNat (↑j : Int) * 31) (scell S)))) [] none = Eff.mk (AV.ag (St.cs (stAt S j))) [] none) (c2 : CallOK Tryz.prog (CallRec.mk 7 [AV.ag (Ins.cs (elt L j)), AV.ag (St.cs (stAt S j))] [] (Eff.mk (AV.tu [AT.ag (St.cs a), AT.ag (St.cs b), AT.c (AC.i tr), AT.c (AC.i g)]) [] none))) (c3 : Eff.mk (AV.c (AC.i (IntKind.wrap IntKind.i64 ((↑j : Int) + 1)))) [] none = Eff.mk (AV.c (AC.i (↑(j + 1) : Int))) [] none) (c4 : CallOK Tryz.prog (CallRec.mk 49 [AV.c (AC.sl 10 0 (List.length L) (List.length L)), AV.c (AC.i (↑(j + 1) : Int)), AV.ag (St.cs a)] [(10, Ent.mk true (scell S) 0)] (Eff.mk (AV.tu []) [(10, scell S1)] none))) (c5 : Eff.mk (AV.c (AC.i (IntKind.wrap IntKind.i64 ((↑j : Int) + 1)))) [] none = Eff.mk (AV.c (AC.i (↑(j + 1) : Int))) [] none) (c6 : Eff.mk (AV.c (AC.i (IntKind.wrap IntKind.i64 ((↑(j + 1) : Int) + Ins.of (elt L j))))) [] none = Eff.mk (AV.c (AC.i ((↑(j + 1) : Int) + Ins.of (elt L j)))) [] none) (c7 : CallOK Tryz.prog (CallRec.mk 49 [AV.c (AC.sl 10 0 (List.length L) (List.length L)), AV.c (AC.i ((↑(j + 1) : Int) + Ins.of (elt L j))), AV.ag (St.cs b)] [(10, Ent.mk true (scell S1) 0)] (Eff.mk (AV.tu []) [(10, scell S2)] none))) (c8 : Eff.mk (AV.c (AC.i (IntKind.wrap IntKind.i64 ((↑j : Int) + 1)))) [] none = Eff.mk (AV.c (AC.i (↑(j + 1) : Int))) [] none) (lo : Kn.Low ⟨[(2, AV.c (AC.w 1)), (5, AV.c (AC.sl 10 0 (List.length L) (List.length L))), (24, AV.c (AC.sl 0 0 (List.length L) c)), (25, AV.c (AC.i (↑(List.length L) : Int))), (26, AV.c (AC.i (↑(j + 1) : Int)))], [(0, Ent.mk false (pcell L) 0), (1, Ent.mk true [AC.i 0, AC.i 0, nilSl] 0), (10, Ent.mk true (scell S2) 0)], 11⟩) (hF : ∀ k, C.F k → k < 11) (z : ART Tryz.prog 12 C Tryz.f12.ntmps (cutAt Tryz.f12 0) ⟨[(2, AV.c (AC.w 1)), (5, AV.c (AC.sl 10 0 (List.length L) (List.length L))), (24, AV.c (AC.sl 0 0 (List.length L) c)), (25, AV.c (AC.i (↑(List.length L) : Int))), (26, AV.c (AC.i (↑(j + 1) : Int)))], [(0, Ent.mk false (pcell L) 0), (1, Ent.mk true [AC.i 0, AC.i 0, nilSl] 0), (10, Ent.mk true (scell S2) 0)], 11⟩ R) :
    ART Tryz.prog 12 C Tryz.f12.ntmps (cutAt Tryz.f12 0) (Kn.mk [(2, AV.c (AC.w 1)), (5, AV.c (AC.sl 10 0 (List.length L) (List.length L))), (24, AV.c (AC.sl 0 0 (List.length L) c)), (25, AV.c (AC.i (↑(List.length L) : Int))), (26, AV.c (AC.i (↑j : Int)))] [(0, Ent.mk false (pcell L) 0), (1, Ent.mk true [AC.i 0, AC.i 0, nilSl] 0), (10, Ent.mk true (scell S) 0)] 11) R :=
  run_cut ⟨[(2, AV.c (AC.w 1)), (5, AV.c (AC.sl 10 0 (List.length L) (List.length L))), (24, AV.c (AC.sl 0 0 (List.length L) c)), (25, AV.c (AC.i (↑(List.length L) : Int))), (26, AV.c (AC.i (↑(j + 1) : Int)))], [(0, Ent.mk false (pcell L) 0), (1, Ent.mk true [AC.i 0, AC.i 0, nilSl] 0), (10, Ent.mk true (scell S2) 0)], 11⟩ 2000 [Eff.mk (AV.ag (Ins.cs (elt L j))) [] none, Eff.mk (AV.ag (St.cs (stAt S j))) [] none, Eff.mk (AV.tu [AT.ag (St.cs a), AT.ag (St.cs b), AT.c (AC.i tr), AT.c (AC.i g)]) [] none, Eff.mk (AV.c (AC.i (↑(j + 1) : Int))) [] none, Eff.mk (AV.tu []) [(10, scell S1)] none, Eff.mk (AV.c (AC.i (↑(j + 1) : Int))) [] none, Eff.mk (AV.c (AC.i ((↑(j + 1) : Int) + Ins.of (elt L j)))) [] none, Eff.mk (AV.tu []) [(10, scell S2)] none, Eff.mk (AV.c (AC.i (↑(j + 1) : Int))) [] none] [true, false] ([true]) [(8, 2), (9, 4), (12, 2), (13, 2), (13, 5), (14, 0)] Tryz.func12 (by kernel_rfl) h (cr_same c0 (cr_same c1 (cr_cons c2 (cr_same c3 (cr_cons c4 (cr_same c5 (cr_same c6 (cr_cons c7 (cr_same c8 cr_nil))))))))) lo hF z
theorem vEnd_w0 {L : List Ins} {c : Nat} {j : Nat} {S : List St} {w : World} {β : Bs} {n : Nat} (h : (!decide ((↑j : Int) < (↑(List.length L) : Int)) && true) = true) (hk : EKeys n [] (some 10) ⟨AV.tu [AT.ag [AC.i 0, AC.i 0, AC.sl 10 0 (List.length L) (List.length L)], AT.c (AC.i 0)], [], some (10, Ent.mk true (scell S) 0)⟩) :
    ART Tryz.prog 12 (cx w β n []) Tryz.f12.ntmps (cutAt Tryz.f12 0) (Kn.mk [(2, AV.c (AC.w 1)), (5, AV.c (AC.sl 10 0 (List.length L) (List.length L))), (24, AV.c (AC.sl 0 0 (List.length L) c)), (25, AV.c (AC.i (↑(List.length L) : Int))), (26, AV.c (AC.i (↑j : Int)))] [(0, Ent.mk false (pcell L) 0), (1, Ent.mk true [AC.i 0, AC.i 0, nilSl] 0), (10, Ent.mk true (scell S) 0)] 11) (REff w β ⟨AV.tu [AT.ag [AC.i 0, AC.i 0, AC.sl 10 0 (List.length L) (List.length L)], AT.c (AC.i 0)], [], some (10, Ent.mk true (scell S) 0)⟩) :=
  run_eff [] (some 10) 2000 [] [false] ([true]) [] Tryz.func12 hk (by kernel_rfl) h cr_nil
end Go.Proofs.YtkigmocchaikgabGreat

/- Ways of bodies, written by a program (ways.py): what each asks for, and hands back. -/
namespace Go.Proofs.YtkigmocchaikgabGreat
open Go.RowKit

theorem cloneS_w0 {S : List St} {q : Nat} {c : Nat} {w : World} {β : Bs} {n : Nat} (h : (Nat.ble (0 + q * 31) (List.length (scell S)) && (decide (0 + q ≤ 137438953472) && decide (0 < 0 + q)) && true) = true) (c0 : Eff.mk (AV.c (AC.sx 6 (0 + q))) [] (some (1 + 1 + 2 + 2, Ent.mk true (List.take 0 (List.drop 0 (rows 0 (St.cs St.z))) ++ List.take (q * 31) (List.drop 0 (scell S))) 31)) = Eff.mk (AV.c (AC.sx 6 q)) [] (some (6, Ent.mk true (scell (List.take q S)) 31))) (hk : EKeys n [] (some 6) ⟨AV.c (AC.sx 6 q), [], some (6, Ent.mk true (scell (List.take q S)) 31)⟩) :
    ART Tryz.prog 48 (cx w β n []) Tryz.f48.ntmps ([Item.code (bodyOf Tryz.f48)]) (Kn.start [AV.c (AC.sl 0 0 q c)] [(0, Ent.mk false (scell S) 0)] 1) (REff w β ⟨AV.c (AC.sx 6 q), [], some (6, Ent.mk true (scell (List.take q S)) 31)⟩) :=
  run_eff [] (some 6) 2000 [Eff.mk (AV.c (AC.sx 6 q)) [] (some (6, Ent.mk true (scell (List.take q S)) 31))] [false] ([]) [(3, 2)] Tryz.func48 hk (by kernel_rfl) h (cr_same c0 cr_nil)
end Go.Proofs.YtkigmocchaikgabGreat

/- Verifying: each step's state has whatever machine comes to it: plain facts. -/
namespace Go.Proofs.YtkigmocchaikgabGreat

theorem stAt_lt {S : List St} {k : Nat} (h : S.length ≤ k) : stAt S k = St.z := by
  unfold stAt
  rw [List.getD_eq_getElem?_getD, List.getElem?_eq_none h]; rfl
theorem stAt_set {S : List St} {k j : Nat} {t : St} : stAt (S.set k t) j = if k = j ∧ k < S.length then t else stAt S j := by
  unfold stAt
  rw [List.getD_eq_getElem?_getD, List.getD_eq_getElem?_getD, List.getElem?_set]
  by_cases c : k = j
  · subst c
    by_cases c2 : k < S.length
    · simp [c2]
    · simp [c2]
  · simp [c]
theorem stAt_take {S : List St} {n j : Nat} (h : j < n) : stAt (S.take n) j = stAt S j := by
  unfold stAt
  rw [List.getD_eq_getElem?_getD, List.getD_eq_getElem?_getD, List.getElem?_take, if_pos h]
theorem addS_len (S : List St) (k : Nat) (t : St) : (addS S k t).length = S.length := by
  unfold addS; split
  · exact List.length_set
  · rfl
theorem stAt_addS {S : List St} {k j : Nat} {t : St} : stAt (addS S k t) j = if t.live = true ∧ k = j ∧ k < S.length then (stAt S j).join t else stAt S j := by
  unfold addS
  by_cases h : t.live = true
  · rw [if_pos h, stAt_set]
    by_cases c : k = j
    · subst c; simp [h]
    · simp [c]
  · rw [if_neg h, if_neg (by simp [h])]
theorem addS_ne {S : List St} {k j : Nat} {t : St} (h : k ≠ j) : stAt (addS S k t) j = stAt S j := by rw [stAt_addS, if_neg (by simp [h])]
theorem addS_Ok {S : List St} {k : Nat} {t : St} (h : ∀ j, (stAt S j).Ok) (ht : t.Ok) : ∀ j, (stAt (addS S k t) j).Ok := by
  intro j
  rw [stAt_addS]
  split
  · exact St.join_Ok (h j) ht
  · exact h j
theorem addS_keep {S : List St} {k j : Nat} {t : St} {m : Mach} (h : ∀ j, (stAt S j).Ok) (ht : t.Ok) (hm : (stAt S j).Has m) : (stAt (addS S k t) j).Has m := by
  rw [stAt_addS]
  split
  · exact St.join_Has (h j) ht (Or.inl hm)
  · exact hm
theorem addS_new {S : List St} {k : Nat} {t : St} {m : Mach} (h : ∀ j, (stAt S j).Ok) (ht : t.Ok) (hk : k < S.length) (hm : t.Has m) : (stAt (addS S k t) k).Has m := by
  rw [stAt_addS, if_pos ⟨hm.live, rfl, hk⟩]
  exact St.join_Has (h k) ht (Or.inr hm)
theorem firstS_len (n : Nat) : (firstS n).length = n := by simp [firstS]
theorem firstS_at {n j : Nat} (hn : 0 < n) : stAt (firstS n) j = if j = 0 then beginS else St.z := by
  unfold firstS
  rw [stAt_set]
  by_cases c : j = 0
  · subst c; simp [hn]
  · rw [if_neg (by omega), if_neg c]
    unfold stAt
    rw [List.getD_eq_getElem?_getD, List.getElem?_replicate]
    split <;> rfl
theorem firstS_Ok {n : Nat} (hn : 0 < n) : ∀ j, (stAt (firstS n) j).Ok := by
  intro j
  rw [firstS_at hn]
  split
  · exact beginS_Ok
  · exact St.z_Ok
/- where a step's states go to -/
theorem right_lt {L : List Ins} {k : Nat} (hP : RightP L) (hk : k < L.length) : Right (elt L k) ((L.length - 1 - k : Nat) : Int) := hP.step k hk
theorem last_op {L : List Ins} (hP : RightP L) : (elt L (L.length - 1)).op = 15 := hP.last
theorem go1_lt {L : List Ins} {k : Nat} {t : St} (hP : RightP L) (hk : k < L.length) (h : (stepS (elt L k) t).1.live = true) : k + 1 < L.length := by
  rcases Nat.lt_or_ge (k + 1) L.length with h1 | h1
  · exact h1
  · have e : k = L.length - 1 := by omega
    have ho := last_op hP
    rw [← e] at ho
    unfold stepS goS at h
    rw [ho] at h
    split at h
    · split at h
      · cases h
      · cases h
    · cases h
theorem go2_lt {L : List Ins} {k : Nat} {t : St} (hP : RightP L) (hk : k < L.length) (h : (stepS (elt L k) t).2.1.live = true) : 0 ≤ (elt L k).of ∧ k + 1 + (elt L k).of.toNat < L.length ∧ ((elt L k).op = 12 ∨ (elt L k).op = 13 ∨ (elt L k).op = 14) := by
  have hr := right_lt hP hk
  unfold stepS at h
  split at h
  · split at h
    · unfold goS at h
      by_cases c1 : (elt L k).op = 10
      · rw [if_pos c1] at h; cases h
      rw [if_neg c1] at h
      by_cases c2 : (elt L k).op = 11
      · rw [if_pos c2] at h; cases h
      rw [if_neg c2] at h
      by_cases c3 : (elt L k).op = 12
      · have := fits_jump hr c3
        exact ⟨this.1, by omega, Or.inl c3⟩
      rw [if_neg c3] at h
      by_cases c4 : (elt L k).op = 13
      · have := fits_branch hr (Or.inl c4)
        exact ⟨this.2.2.1, by omega, Or.inr (Or.inl c4)⟩
      rw [if_neg c4] at h
      by_cases c5 : (elt L k).op = 14
      · have := fits_branch hr (Or.inr c5)
        exact ⟨this.2.2.1, by omega, Or.inr (Or.inr c5)⟩
      rw [if_neg c5] at h
      by_cases c6 : (elt L k).op = 15
      · rw [if_pos c6] at h; cases h
      rw [if_neg c6] at h
      by_cases c7 : (elt L k).op = 1
      · rw [if_pos c7] at h; cases h
      rw [if_neg c7] at h; cases h
    · cases h
  · cases h
/- what comes of verifying from the step k on -/
structure VOut (L : List Ins) (k : Nat) (S : List St) (R : Rep) : Prop where
  ok : ∀ j, (stAt R.sts j).Ok
  same : ∀ j, j ≤ k → k < L.length → stAt R.sts j = stAt S j
  keep : ∀ j m, (stAt S j).Has m → (R.trap = 0 ∨ (j : Int) ≤ R.pos) → (stAt R.sts j).Has m
  step : ∀ j, k ≤ j → j < L.length → (R.trap = 0 ∨ (j : Int) < R.pos) → (stepS (elt L j) (stAt R.sts j)).2.2 = 0 ∧
    (∀ m, (stepS (elt L j) (stAt R.sts j)).1.Has m → (R.trap = 0 ∨ ((j + 1 : Nat) : Int) ≤ R.pos) → (stAt R.sts (j + 1)).Has m) ∧
    (∀ m, (stepS (elt L j) (stAt R.sts j)).2.1.Has m → (R.trap = 0 ∨ ((j + 1 + (elt L j).of.toNat : Nat) : Int) ≤ R.pos) → (stAt R.sts (j + 1 + (elt L j).of.toNat)).Has m)
  none : R.trap = 0 → R.pos = 0 ∧ R.sts.length = L.length
  some : R.trap ≠ 0 → ∃ p : Nat, R.pos = p ∧ k ≤ p ∧ p < L.length ∧ R.sts.length = p + 1 ∧ (stepS (elt L p) (stAt R.sts p)).2.2 = R.trap
theorem verL_out {L : List Ins} (hP : RightP L) : ∀ (n k : Nat) (S : List St), k + n = L.length → S.length = L.length → (∀ j, (stAt S j).Ok) → VOut L k S (verL L n k S)
  | 0, k, S, hk, hS, hok => ⟨hok, fun _ _ _ => rfl, fun _ _ h _ => h, fun j h1 h2 => by omega, fun _ => ⟨rfl, hS⟩, fun h => absurd rfl h⟩
  | n + 1, k, S, hk, hS, hok => by
    have hlt : k < L.length := by omega
    have hr := right_lt hP hlt
    obtain ⟨q1, q2⟩ := stepS_Ok hr (hok k)
    unfold verL
    by_cases h0 : (stepS (elt L k) (stAt S k)).2.2 = 0
    · rw [if_pos h0]
      have hok1 := addS_Ok (k := k + 1) hok q1
      have hok2 := addS_Ok (k := k + 1 + (elt L k).of.toNat) hok1 q2
      have ih := verL_out hP n (k + 1) (addS (addS S (k + 1) (stepS (elt L k) (stAt S k)).1) (k + 1 + (elt L k).of.toNat) (stepS (elt L k) (stAt S k)).2.1) (by omega) (by rw [addS_len, addS_len]; exact hS) hok2
      have hsame : ∀ j, j ≤ k → stAt (addS (addS S (k + 1) (stepS (elt L k) (stAt S k)).1) (k + 1 + (elt L k).of.toNat) (stepS (elt L k) (stAt S k)).2.1) j = stAt S j := by
        intro j hj
        rw [addS_ne (by omega), addS_ne (by omega)]
      have hsk : ∀ j, j ≤ k → stAt (verL L n (k + 1) (addS (addS S (k + 1) (stepS (elt L k) (stAt S k)).1) (k + 1 + (elt L k).of.toNat) (stepS (elt L k) (stAt S k)).2.1)).sts j = stAt S j := by
        intro j hj
        by_cases c : k + 1 < L.length
        · rw [ih.same j (by omega) c, hsame j hj]
        · have : n = 0 := by omega
          subst this
          exact hsame j hj
      refine ⟨ih.ok, fun j hj _ => hsk j hj, fun j m hm hb => ih.keep j m (addS_keep hok1 q2 (addS_keep hok q1 hm)) hb, fun j h1 h2 hb => ?_, ih.none, fun h => ?_⟩
      · by_cases c : j = k
        · subst c
          rw [hsk j (Nat.le_refl _)]
          refine ⟨h0, fun m hm hb => ?_, fun m hm hb => ?_⟩
          · have h3 := go1_lt hP h2 hm.live
            exact ih.keep _ m (addS_keep hok1 q2 (addS_new hok q1 (by omega) hm)) hb
          · have h3 := go2_lt hP h2 hm.live
            exact ih.keep _ m (addS_new hok1 q2 (by rw [addS_len]; omega) hm) hb
        · exact ih.step j (by omega) h2 hb
      · obtain ⟨p, h1, h2, h3⟩ := ih.some h
        exact ⟨p, h1, by omega, h3⟩
    · rw [if_neg h0]
      refine ⟨fun j => ?_, fun j hj _ => stAt_take (by omega), fun j m hm hb => ?_, fun j h1 _ hb => ?_, fun h => absurd h h0, fun _ => ⟨k, rfl, Nat.le_refl _, hlt, ?_, ?_⟩⟩
      · by_cases c : j < k + 1
        · show (stAt (S.take (k + 1)) j).Ok
          rw [stAt_take c]; exact hok j
        · show (stAt (S.take (k + 1)) j).Ok
          rw [stAt_lt (by rw [List.length_take]; omega)]; exact St.z_Ok
      · have : (j : Int) ≤ (k : Int) := hb.resolve_left h0
        show (stAt (S.take (k + 1)) j).Has m
        rw [stAt_take (by omega)]; exact hm
      · have : (j : Int) < (k : Int) := hb.resolve_left h0
        omega
      · show (S.take (k + 1)).length = k + 1
        rw [List.length_take]; omega
      · show (stepS (elt L k) (stAt (S.take (k + 1)) k)).2.2 = _
        rw [stAt_take (by omega)]
theorem verify_out {L : List Ins} (hP : RightP L) : VOut L 0 (firstS L.length) (verifyS L) :=
  verL_out hP L.length 0 _ (by omega) (firstS_len _) (firstS_Ok hP.pos)
/- machines that come to a step -/
/- a machine that is had where it is, ahead of the first trap, goes on so -/
end Go.Proofs.YtkigmocchaikgabGreat

/- Rows of things that have as many cells each. -/
namespace Go.Proofs.YtkigmocchaikgabGreat
open Go.RowKit

section
variable {α : Type} {f : α → List AC} {m : Nat}
theorem flat_len (hf : ∀ x, (f x).length = m) : ∀ l : List α, (l.flatMap f).length = l.length * m
  | [] => by simp
  | x :: l => by rw [List.flatMap_cons, List.length_append, hf, flat_len hf l, List.length_cons, Nat.add_mul, Nat.one_mul, Nat.add_comm]
theorem flat_drop (hf : ∀ x, (f x).length = m) : ∀ (l : List α) (k : Nat), (l.flatMap f).drop (k * m) = (l.drop k).flatMap f
  | l, 0 => by simp
  | [], k + 1 => by simp
  | x :: l, k + 1 => by
    rw [List.flatMap_cons, show (k + 1) * m = (f x).length + k * m by rw [hf, Nat.add_mul, Nat.one_mul, Nat.add_comm], ← List.drop_drop, List.drop_left, flat_drop hf l k]
    rfl
theorem flat_take (hf : ∀ x, (f x).length = m) : ∀ (l : List α) (k : Nat), (l.flatMap f).take (k * m) = (l.take k).flatMap f
  | l, 0 => by simp
  | [], k + 1 => by simp
  | x :: l, k + 1 => by
    rw [List.flatMap_cons, show (k + 1) * m = (f x).length + k * m by rw [hf, Nat.add_mul, Nat.one_mul, Nat.add_comm], List.take_append, Nat.add_sub_cancel_left, flat_take hf l k, List.take_of_length_le (by omega)]
    rfl
theorem flat_at (hf : ∀ x, (f x).length = m) {l : List α} {k : Nat} (d : α) (h : k < l.length) : ((l.flatMap f).drop (k * m)).take m = f (l.getD k d) := by
  rw [flat_drop hf, List.drop_eq_getElem_cons h, List.flatMap_cons, List.getD_eq_getElem?_getD, List.getElem?_eq_getElem h]
  rw [List.take_append_of_le_length (by rw [hf]; exact Nat.le_refl _)]
  exact List.take_of_length_le (by rw [hf]; exact Nat.le_refl _)
theorem flat_set (hf : ∀ x, (f x).length = m) {l : List α} {k : Nat} (x : α) (h : k < l.length) : (l.flatMap f).take (k * m) ++ (f x ++ (l.flatMap f).drop (k * m + (f x).length)) = (l.set k x).flatMap f := by
  rw [hf, show k * m + m = (k + 1) * m by rw [Nat.add_mul, Nat.one_mul], flat_take hf, flat_drop hf, List.set_eq_take_append_cons_drop, if_pos h, List.flatMap_append, List.flatMap_cons]
theorem flat_ks (hf : ∀ x, (f x).flatMap AC.ks = []) : ∀ l : List α, (l.flatMap f).flatMap AC.ks = []
  | [] => rfl
  | x :: l => by rw [List.flatMap_cons, List.flatMap_append, hf, flat_ks hf l]; rfl
theorem flat_rows (x : α) : ∀ n : Nat, rows n (f x) = (List.replicate n x).flatMap f
  | 0 => rfl
  | n + 1 => by
    have := flat_rows x n
    unfold rows at this ⊢
    rw [List.replicate_succ, List.flatten_cons, this, List.replicate_succ, List.flatMap_cons]
end
theorem scell_len (S : List St) : (scell S).length = S.length * 31 := flat_len (f := St.cs) (fun _ => rfl) S
theorem scell_ks (S : List St) : (scell S).flatMap AC.ks = [] := flat_ks (f := St.cs) (fun _ => rfl) S
theorem scell_at {S : List St} {k : Nat} (h : k < S.length) : List.take 31 (List.drop (k * 31) (scell S)) = (stAt S k).cs := flat_at (f := St.cs) (fun _ => rfl) St.z h
theorem scell_set {S : List St} {k : Nat} (t : St) (h : k < S.length) : splice (scell S) (k * 31) t.cs = scell (S.set k t) := flat_set (f := St.cs) (fun _ => rfl) t h
theorem scell_take (S : List St) (q : Nat) : List.take (q * 31) (scell S) = scell (S.take q) := flat_take (f := St.cs) (fun _ => rfl) S q
theorem scell_rows (n : Nat) : rows n St.z.cs = scell (List.replicate n St.z) := flat_rows (f := St.cs) St.z n
theorem sble {S : List St} {k : Nat} (h : k < S.length) : Nat.ble (0 + k * 31 + 31) (scell S).length = true := by
  rw [scell_len, Nat.ble_eq]; omega
theorem sat_eff {S : List St} {k : Nat} (h : k < S.length) : Eff.mk (AV.ag (List.take 31 (List.drop (0 + k * 31) (scell S)))) [] none = Eff.mk (AV.ag (St.cs (stAt S k))) [] none := by
  rw [Nat.zero_add, scell_at h]
end Go.Proofs.YtkigmocchaikgabGreat

/- The contracts of slices.Clone, verify.add and verify.Verify. -/
namespace Go.Proofs.YtkigmocchaikgabGreat
open Go.RowKit

/- a call that reads a program and hands back a new block -/
theorem one_look {K : Nat} {en e : Ent} {k : Nat} (h : look [(K, en)] k = some e) : k = K ∧ e = en := by
  rw [look_cons] at h
  split at h
  · rename_i hk; injection h with h; exact ⟨hk, h.symm⟩
  · cases h
theorem rnew_of {P : Program} {f : FuncId} {fn : Func} {args : List AV} {cs : List AC} {K : Nat} {en : Ent} {v : AV} (hf : P.funcs[f]? = some fn) (hb : fn.body.isSome = true) (hN : Nat.ble args.length fn.ntmps = true) (ha : (keysOf args).all (fun k => Nat.blt k 1) = true) (hcs : cs.flatMap AC.ks = []) (hK : 1 ≤ K) (hv : v.ks = [K]) (hc : en.cells.flatMap AC.ks = [])
    (h : ∀ w β, EKeys 1 [] (some K) ⟨v, [], some (K, en)⟩ → ART P f (cx w β 1 []) fn.ntmps [.code (bodyOf fn)] (Kn.start args [(0, ⟨false, cs, 0⟩)] 1) (REff w β ⟨v, [], some (K, en)⟩)) : CallOK P ⟨f, args, [(0, ⟨false, cs, 0⟩)], ⟨v, [], some (K, en)⟩⟩ := by
  have e : EKeys 1 [] (some K) ⟨v, [], some (K, en)⟩ := by
    refine ⟨fun k hk => Or.inr ?_, fun _ _ hm => (nomatch hm), fun k en' h' => ?_, fun _ h => (nomatch h), fun k h => ⟨?_, rfl⟩⟩
    · simp only at hk; rw [hv] at hk; rw [List.mem_singleton.1 hk]
    · injection h' with h'; injection h' with _ h'; subst h'; exact hc
    · injection h with h; subst h; exact hK
  have hB : Begin args [(0, ⟨false, cs, 0⟩)] 1 := by
    refine ⟨fun v hv k hk => ?_, fun k e he => ?_⟩
    · have h2 := List.all_eq_true.1 ha k (List.mem_flatMap.2 ⟨v, hv, hk⟩)
      simpa using h2
    · obtain ⟨rfl, rfl⟩ := one_look he
      exact ⟨by decide, fun c hc j hj => (nk_of hcs hc hj).elim⟩
  refine eff_of [] (some K) hf hb hN hB (fun k hk => Or.inr ?_) (fun k en' h' => ?_) (fun k h => ⟨en, ?_⟩) e (fun _ _ hm => (nomatch hm)) (fun k en h1 h2 => ?_) fun w β _ => h w β e
  · simp only at hk; rw [hv] at hk; rw [List.mem_singleton.1 hk]
  · injection h' with h'; injection h' with h' _; rw [h']
  · injection h with h; subst h; rfl
  · obtain ⟨_, rfl⟩ := one_look h1; cases h2
theorem cloneS_ok {S : List St} {q c : Nat} (h0 : 0 < q) (h1 : q ≤ S.length) (h2 : q ≤ 64) : CallOK Tryz.prog ⟨48, [.c (.sl 0 0 q c)], [(0, ⟨false, scell S, 0⟩)], ⟨.c (.sx 6 q), [], some (6, ⟨true, scell (S.take q), 31⟩)⟩⟩ := by
  refine rnew_of Tryz.func48 rfl rfl rfl (scell_ks S) (by decide) rfl (scell_ks _) fun w β hk => cloneS_w0 ?_ ?_ hk
  · have e : Nat.ble (0 + q * 31) (scell S).length = true := by rw [scell_len, Nat.ble_eq]; omega
    rw [e, decide_eq_true (by omega : 0 + q ≤ 137438953472), decide_eq_true (by omega : 0 < 0 + q)]; rfl
  · rw [Nat.zero_add, List.drop_zero, List.drop_zero, scell_take]; rfl
/- a call that writes the one block that it is handed -/
theorem wr_of {P : Program} {f : FuncId} {fn : Func} {args : List AV} {cs cs' : List AC} {v : AV} (hf : P.funcs[f]? = some fn) (hb : fn.body.isSome = true) (hN : Nat.ble args.length fn.ntmps = true) (ha : (keysOf args).all (fun k => Nat.blt k 1) = true) (hcs : cs.flatMap AC.ks = []) (hne : cs ≠ []) (hv : v.ks = []) (hc : cs'.flatMap AC.ks = [])
    (h : ∀ w β, EKeys 1 [0] none ⟨v, [(0, cs')], none⟩ → ART P f (cx w β 1 [0]) fn.ntmps [.code (bodyOf fn)] (Kn.start args [(0, ⟨true, cs, 0⟩)] 1) (REff w β ⟨v, [(0, cs')], none⟩)) : CallOK P ⟨f, args, [(0, ⟨true, cs, 0⟩)], ⟨v, [(0, cs')], none⟩⟩ := by
  have e : EKeys 1 [0] none ⟨v, [(0, cs')], none⟩ := by
    refine ⟨fun k hk => ?_, fun k cs hm => ?_, fun _ _ h' => (nomatch h'), fun k h => ?_, fun _ h => (nomatch h)⟩
    · simp only at hk; rw [hv] at hk; cases hk
    · have := List.mem_singleton.1 hm; injection this with _ h2; subst h2; exact hc
    · rw [List.mem_singleton.1 h]; decide
  have hB : Begin args [(0, ⟨true, cs, 0⟩)] 1 := by
    refine ⟨fun v hv k hk => ?_, fun k e he => ?_⟩
    · have h2 := List.all_eq_true.1 ha k (List.mem_flatMap.2 ⟨v, hv, hk⟩)
      simpa using h2
    · obtain ⟨rfl, rfl⟩ := one_look he
      exact ⟨by decide, fun c hc j hj => (nk_of hcs hc hj).elim⟩
  refine eff_of [0] none hf hb hN hB (fun k hk => ?_) (fun _ _ h' => (nomatch h')) (fun _ h => (nomatch h)) e (fun k cs' hm => ?_) (fun k en h1 h2 => ?_) fun w β _ => h w β e
  · simp only at hk; rw [hv] at hk; cases hk
  · have := List.mem_singleton.1 hm; injection this with h1 h2; subst h1
    exact ⟨⟨true, cs, 0⟩, rfl, rfl, hne⟩
  · obtain ⟨rfl, _⟩ := one_look h1; exact List.mem_singleton.2 rfl
theorem scell_ne {S : List St} (h : 0 < S.length) : scell S ≠ [] := fun e => by
  have := scell_len S
  rw [e] at this
  simp at this
  omega
theorem add_ok {S : List St} {c : Nat} {k : Int} {t : St} (h0 : 0 < S.length) (hk : t.live = true → 0 ≤ k ∧ k < S.length) (ht : t.Ok) (hS : ∀ j, (stAt S j).Ok) : CallOK Tryz.prog ⟨49, [.c (.sl 0 0 S.length c), .c (.i k), .ag t.cs], [(0, ⟨true, scell S, 0⟩)], ⟨.tu [], [(0, scell (addS S k.toNat t))], none⟩⟩ := by
  refine wr_of Tryz.func49 rfl rfl rfl (scell_ks S) (scell_ne h0) rfl (scell_ks _) fun w β hkk => ?_
  refine addS_all (j1 := (stAt S k.toNat).join t) (e := 0) (fun hl => ?_) (fun hl => ?_)
  · obtain ⟨k0, k1⟩ := hk hl
    have hlt : k.toNat < S.length := by omega
    have e1 : (decide (0 ≤ k) && decide (k < (↑S.length : Int))) = true := and_yes (decide_eq_true k0) (decide_eq_true k1)
    have ea : addS S k.toNat t = S.set k.toNat ((stAt S k.toNat).join t) := by unfold addS; rw [if_pos hl]
    rw [ea] at hkk
    have hj := fjoin_ok (stAt S k.toNat) t
    have ab : ((stAt S k.toNat).ok && t.ok) = true := and_yes (St.ok_iff.2 (hS _)) (St.ok_iff.2 ht)
    unfold joinA joinE at hj
    rw [if_pos ab, if_pos ab] at hj
    refine ⟨e1, sble hlt, e1, ?_, sat_eff hlt, hj, ?_, hkk, ?_⟩
    · rw [show (St.cs ((stAt S k.toNat).join t)).length = 31 from rfl, sble hlt]; rfl
    · rw [Nat.zero_add, scell_set _ hlt]
    · rw [ea]
  · have ea : addS S k.toNat t = S := by unfold addS; rw [if_neg (by rw [hl]; decide)]
    rw [ea] at hkk ⊢
    exact ⟨hkk, rfl⟩
abbrev vKn (L : List Ins) (c : Nat) (S : List St) (j : Nat) : Kn := ⟨[(2, .c (.w 1)), (5, .c (.sl 10 0 L.length L.length)), (24, .c (.sl 0 0 L.length c)), (25, .c (.i (L.length : Int))), (26, .c (.i (j : Int)))], [(0, ⟨false, pcell L, 0⟩), (1, ⟨true, [AC.i 0, AC.i 0, nilSl], 0⟩), (10, ⟨true, scell S, 0⟩)], 11⟩
theorem v_low (L : List Ins) (c : Nat) (S : List St) (j : Nat) : Kn.Low (vKn L c S j) := low_n rfl rfl ⟨pcell_ks L, rfl, scell_ks S, trivial⟩
/- what Verify hands back -/
def okE (K : Nat) (n : Nat) (S : List St) : Eff := ⟨.tu [.ag [.i 0, .i 0, .sl K 0 n n], .c (.i 0)], [], some (K, ⟨true, scell S, 0⟩)⟩
def trapE (K : Nat) (R : Rep) : Eff := ⟨.tu [.ag [.i R.trap, .i R.pos, .sx K R.sts.length], .c (.i 0)], [], some (K, ⟨true, scell R.sts, 31⟩)⟩
def verE (n : Nat) (R : Rep) : Eff := if R.trap = 0 then okE 10 n R.sts else trapE 43 R
theorem ekeys_ok (K n : Nat) (S : List St) (hK : 1 ≤ K) : EKeys 1 [] (some K) (okE K n S) := by
  refine ⟨fun k hk => Or.inr ?_, fun _ _ hm => (nomatch hm), fun k en' h' => ?_, fun _ h => (nomatch h), fun k h => ⟨?_, rfl⟩⟩
  · have : k ∈ [K] := hk
    rw [List.mem_singleton.1 this]
  · injection h' with h'; injection h' with _ h'; subst h'; exact scell_ks S
  · injection h with h; subst h; exact hK
theorem ekeys_trap (K : Nat) (R : Rep) (hK : 1 ≤ K) : EKeys 1 [] (some K) (trapE K R) := by
  refine ⟨fun k hk => Or.inr ?_, fun _ _ hm => (nomatch hm), fun k en' h' => ?_, fun _ h => (nomatch h), fun k h => ⟨?_, rfl⟩⟩
  · have : k ∈ [K] := hk
    rw [List.mem_singleton.1 this]
  · injection h' with h'; injection h' with _ h'; subst h'; exact scell_ks R.sts
  · injection h with h; subst h; exact hK
theorem step_in {L : List Ins} {k : Nat} {t : St} (hP : RightP L) (hk : k < L.length) (ht : t.Ok) : Ok 7 [.ag (elt L k).cs, .ag t.cs] (.tu [.ag (stepS (elt L k) t).1.cs, .ag (stepS (elt L k) t).2.1.cs, .c (.i (stepS (elt L k) t).2.2), .c (.i 0)]) := by
  have h := fstep_ok (elt L k) t
  have hle := hP.le
  have hb : (fineI (elt L k) && t.ok) = true := and_yes (fine_right.2 ((right_lt hP hk).mono (by omega))) (St.ok_iff.2 ht)
  unfold stepA stepE at h
  rwa [if_pos hb, if_pos hb] at h
theorem offB {i : Ins} {n : Int} (hr : Right i n) (hn : n ≤ 64) : -64 ≤ i.of ∧ i.of ≤ 64 := by
  rcases ops_of hr with c | c | c | c | c | c | c | c
  · have := fits_reach hr (Or.inl c); omega
  · have := fits_reach hr (Or.inr c); omega
  · have := fits_jump hr c; omega
  · have := fits_branch hr (Or.inl c); omega
  · have := fits_branch hr (Or.inr c); omega
  · have := fits_exit hr c; omega
  · have := fits_two hr (by omega); omega
  · have := fits_two hr (by omega); omega
theorem verLoop {L : List Ins} {c : Nat} (hP : RightP L) {w : World} {β : Bs} : ∀ (n k : Nat) (S : List St), k + n = L.length → S.length = L.length → (∀ j, (stAt S j).Ok) →
    ART Tryz.prog 12 (cx w β 1 []) Tryz.f12.ntmps (cutAt Tryz.f12 0) (vKn L c S k) (REff w β (verE L.length (verL L n k S)))
  | 0, k, S, hk, hS, hok => by
    have e : verE L.length (verL L 0 k S) = okE 10 L.length S := by unfold verL verE; rw [if_pos rfl]
    rw [e]
    refine vEnd_w0 ?_ (ekeys_ok 10 L.length S (by decide))
    rw [decide_eq_false (by omega : ¬ (k : Int) < (L.length : Int))]; rfl
  | n + 1, k, S, hk, hS, hok => by
    have hlt : k < L.length := by omega
    have hltS : k < S.length := by omega
    have hle := hP.le
    have hr := right_lt hP hlt
    have hst := step_in hP hlt (hok k)
    have d0 : decide ((k : Int) < (L.length : Int)) = true := jl hlt
    have f1 : Nat.ble (0 + Int.toNat (k : Int) * 5 + 5) (pcell L).length = true := pble hlt
    have f2 : Nat.ble (0 + Int.toNat (k : Int) * 31 + 31) (scell S).length = true := sble hltS
    have f3 := elt_eff hlt
    have f4 : Eff.mk (AV.ag (List.take 31 (List.drop (0 + Int.toNat (k : Int) * 31) (scell S)))) [] none = Eff.mk (AV.ag (St.cs (stAt S k))) [] none := sat_eff hltS
    have f5 : Eff.mk (AV.c (AC.i (IntKind.wrap IntKind.i64 ((k : Int) + 1)))) [] none = Eff.mk (AV.c (AC.i ((k + 1 : Nat) : Int))) [] none := by rw [wrapS (by omega)]
    obtain ⟨q1, q2⟩ := stepS_Ok hr (hok k)
    unfold verL
    by_cases h0 : (stepS (elt L k) (stAt S k)).2.2 = 0
    · rw [if_pos h0]
      have e1 : (!(stepS (elt L k) (stAt S k)).2.2 != 0) = true := by rw [h0]; rfl
      have hok1 := addS_Ok (k := k + 1) hok q1
      have hok2 := addS_Ok (k := k + 1 + (elt L k).of.toNat) hok1 q2
      have a1 := add_ok (S := S) (c := L.length) (k := ((k + 1 : Nat) : Int)) (by omega) (fun hl => by have := go1_lt hP hlt hl; omega) q1 hok
      have len1 : (addS S (k + 1) (stepS (elt L k) (stAt S k)).1).length = L.length := by rw [addS_len]; exact hS
      have a2 := add_ok (S := addS S (k + 1) (stepS (elt L k) (stAt S k)).1) (c := L.length) (k := ((k + 1 : Nat) : Int) + (elt L k).of) (by omega) (fun hl => by have := go2_lt hP hlt hl; omega) q2 hok1
      rw [hS] at a1
      rw [len1] at a2
      have hS2 : addS (addS S (k + 1) (stepS (elt L k) (stAt S k)).1) (((k + 1 : Nat) : Int) + (elt L k).of).toNat (stepS (elt L k) (stAt S k)).2.1 = addS (addS S (k + 1) (stepS (elt L k) (stAt S k)).1) (k + 1 + (elt L k).of.toNat) (stepS (elt L k) (stAt S k)).2.1 := by
        by_cases hl : (stepS (elt L k) (stAt S k)).2.1.live = true
        · have := go2_lt hP hlt hl
          rw [show (((k + 1 : Nat) : Int) + (elt L k).of).toNat = k + 1 + (elt L k).of.toNat by omega]
        · unfold addS; rw [if_neg hl, if_neg hl]
      rw [hS2] at a2
      rw [show ((k + 1 : Nat) : Int).toNat = k + 1 from rfl] at a1
      have b1 := a1.ren (swp 0 10) (swp_inj 0 10)
      have b2 := a2.ren (swp 0 10) (swp_inj 0 10)
      unfold CallRec.ren Eff.ren renH at b1 b2
      simp only [List.map_cons, List.map_nil, Option.map_none] at b1 b2
      have hR := offB hr (by omega)
      refine vRound_w0 (S1 := addS S (k + 1) (stepS (elt L k) (stAt S k)).1) (S2 := addS (addS S (k + 1) (stepS (elt L k) (stAt S k)).1) (k + 1 + (elt L k).of.toNat) (stepS (elt L k) (stAt S k)).2.1)
        (and_yes d0 (and_yes d0 (and_yes f1 (and_yes d0 (and_yes f2 (and_yes e1 rfl)))))) f3 f4 hst f5 (b1.congr ?_) f5 ?_ (b2.congr ?_) f5 (v_low _ _ _ _) (fun _ h => Nat.lt_of_lt_of_le h (by decide)) (verLoop hP n (k + 1) _ (by omega) (by rw [addS_len, addS_len]; exact hS) hok2)
      · simp only [Ent.ren, ren_nk _ (scell_ks _)]
        rfl
      · rw [wrapN (by omega) (by omega)]
      · simp only [Ent.ren, ren_nk _ (scell_ks _)]
        rfl
    · rw [if_neg h0]
      have e1 : ((stepS (elt L k) (stAt S k)).2.2 != 0) = true := by simpa using h0
      have eE : verE L.length ⟨(stepS (elt L k) (stAt S k)).2.2, k, S.take (k + 1)⟩ = trapE 43 ⟨(stepS (elt L k) (stAt S k)).2.2, k, S.take (k + 1)⟩ := by unfold verE; rw [if_neg h0]
      have hlen : (S.take (k + 1)).length = k + 1 := by rw [List.length_take]; omega
      have hk := ekeys_trap 43 ⟨(stepS (elt L k) (stAt S k)).2.2, k, S.take (k + 1)⟩ (by decide)
      have cl := ((cloneS_ok (S := S) (q := k + 1) (c := L.length) (by omega) (by omega) (by omega)).ren (swp 6 43) (swp_inj 6 43)).ren (swp 0 10) (swp_inj 0 10)
      rw [eE]
      unfold trapE at hk ⊢
      simp only [hlen] at hk ⊢
      refine vTrap_w0 (and_yes d0 (and_yes d0 (and_yes f1 (and_yes d0 (and_yes f2 (and_yes e1 (and_yes (and_yes (decide_eq_true (by omega)) (decide_eq_true (by omega))) rfl))))))) f3 f4 hst f5 rfl ?_ hk
      refine CallOK.more (H := [(10, ⟨false, scell S, 0⟩)]) ?_ ⟨fun j en hj => ?_⟩
      · refine cl.congr ?_
        unfold CallRec.ren Eff.ren renH
        simp only [List.map_cons, List.map_nil, Option.map_some, Ent.ren, ren_nk _ (scell_ks _)]
        rfl
      · obtain ⟨rfl, rfl⟩ := one_look hj
        exact ⟨⟨true, scell S, 0⟩, rfl, rfl, fun h => (by cases h), Or.inl rfl⟩
theorem verify_err {L : List Ins} {c : Nat} (h : codeErr L ≠ 0) : CallOK Tryz.prog ⟨12, [.c (.sl 0 0 L.length c)], pH L, ⟨.tu [.ag [.i 0, .i 0, nilSl], .c (.i (codeErr L))], [], none⟩⟩ := by
  refine read_of Tryz.func12 rfl rfl (begin_p rfl) rfl ro_p fun w β => ?_
  exact vTop_w0 (and_yes (by simpa using h) rfl) (check_ok L c)
theorem verify_nil : Ok 12 [.c nilSl] (.tu [.ag [.i 0, .i 0, nilSl], .c (.i 2)]) := vNil_w0 rfl check_nil
theorem verify_ret {L : List Ins} {c : Nat} (h : codeErr L = 0) : CallOK Tryz.prog ⟨12, [.c (.sl 0 0 L.length c)], pH L, verE L.length (verifyS L)⟩ := by
  have hP := codeErr_zero h
  have hp := hP.pos
  have hle := hP.le
  have main : ∀ w β, ART Tryz.prog 12 (cx w β 1 []) Tryz.f12.ntmps [.code (bodyOf Tryz.f12)] (Kn.start [.c (.sl 0 0 L.length c)] (pH L) 1) (REff w β (verE L.length (verifyS L))) := by
    intro w β
    have hb : (scell (List.replicate L.length St.z)).length = L.length * 31 := by rw [scell_len, List.length_replicate]
    refine vTop_w1 (b := beginS) (e := codeErr L) ?_ (check_ok L c) ?_ fbegin_ok ?_ (v_low L c (firstS L.length) 0) (fun _ h => Nat.lt_of_lt_of_le h (by decide)) (verLoop hP L.length 0 (firstS L.length) (by omega) (firstS_len _) (firstS_Ok hp))
    · have e1 : (!codeErr L != 0) = true := by rw [h]; rfl
      have e2 : Nat.ble (0 + (St.cs beginS).length) (scell (List.replicate L.length St.z)).length = true := by rw [hb, st_len, Nat.ble_eq]; omega
      rw [e1, e2, decide_eq_true (by omega : (L.length : Int) ≤ (L.length : Int)), decide_eq_true (by omega : (L.length : Int) ≤ 1099511627776), decide_eq_true (by omega : (0 : Int) < (L.length : Int))]; rfl
    · rw [Int.toNat_natCast, scell_rows]
    · have := scell_set (S := List.replicate L.length St.z) (k := 0) beginS (by rw [List.length_replicate]; exact hp)
      rw [Nat.zero_mul] at this
      rw [this]
  by_cases h0 : (verifyS L).trap = 0
  · have e : verE L.length (verifyS L) = okE 10 L.length (verifyS L).sts := by unfold verE; rw [if_pos h0]
    rw [e] at main ⊢
    exact rnew_of Tryz.func12 rfl rfl rfl (pcell_ks L) (by decide) rfl (scell_ks _) fun w β _ => main w β
  · have e : verE L.length (verifyS L) = trapE 43 (verifyS L) := by unfold verE; rw [if_neg h0]
    rw [e] at main ⊢
    exact rnew_of Tryz.func12 rfl rfl rfl (pcell_ks L) (by decide) rfl (scell_ks _) fun w β _ => main w β
end Go.Proofs.YtkigmocchaikgabGreat

/- The reference's VerifyOf. -/
namespace Go.Proofs.YtkigmocchaikgabGreat
open Go.RowKit

/- the states, those behind a trap too -/
def verF (L : List Ins) : Nat → Nat → List St → List St
  | 0, _, S => S
  | n + 1, k, S => if (stepS (elt L k) (stAt S k)).2.2 = 0 then verF L n (k + 1) (addS (addS S (k + 1) (stepS (elt L k) (stAt S k)).1) (k + 1 + (elt L k).of.toNat) (stepS (elt L k) (stAt S k)).2.1) else S
def voE (K : Nat) (L : List Ins) (R : Rep) (F : List St) : Eff := ⟨.ag [.i R.trap, .i R.pos, .sl K 0 R.sts.length L.length], [], some (K, ⟨true, scell F, 0⟩)⟩
theorem vo_keys (K : Nat) (L : List Ins) (R : Rep) (F : List St) (hK : 1 ≤ K) : EKeys 1 [] (some K) (voE K L R F) := by
  refine ⟨fun k hk => Or.inr ?_, fun _ _ hm => (nomatch hm), fun k en' h' => ?_, fun _ h => (nomatch h), fun k h => ⟨?_, rfl⟩⟩
  · have : k ∈ [K] := hk
    rw [List.mem_singleton.1 this]
  · injection h' with h'; injection h' with _ h'; subst h'; exact scell_ks F
  · injection h with h; subst h; exact hK
theorem add_out {S : List St} {k : Nat} {t : St} (h : S.length ≤ k) : addS S k t = S := by
  unfold addS
  split
  · exact List.set_eq_of_length_le h
  · rfl
theorem set_stAt {S : List St} {k : Nat} (h : k < S.length) : S.set k (stAt S k) = S := by
  unfold stAt
  rw [List.getD_eq_getElem?_getD, List.getElem?_eq_getElem h]
  exact List.set_getElem_self h
theorem add_ref {S : List St} {k : Nat} {t : St} (hS : (stAt S k).Ok) (ht : t.Ok) (h : k < S.length) : S.set k ((stAt S k).join t) = addS S k t := by
  unfold addS
  by_cases hl : t.live = true
  · rw [if_pos hl]
  · rw [if_neg hl]
    have hd : t = St.z := ht.dead (by simpa using hl)
    unfold St.join
    by_cases h1 : (stAt S k).live = true
    · rw [if_pos h1, if_neg hl]; exact set_stAt h
    · rw [if_neg h1, hd, ← hS.dead (by simpa using h1)]; exact set_stAt h
abbrev voKn (L : List Ins) (c : Nat) (S : List St) (j : Nat) : Kn := ⟨[(0, .c (.sl 0 0 L.length c)), (2, .c (.w 1)), (3, .c (.sl 4 0 L.length L.length)), (4, .c (.i (j : Int)))], [(0, ⟨false, pcell L, 0⟩), (1, ⟨true, [.i 0, .i 0, nilSl], 0⟩), (4, ⟨true, scell S, 0⟩)], 6⟩
theorem vo_low (L : List Ins) (c : Nat) (S : List St) (j : Nat) : Kn.Low (voKn L c S j) := low_n rfl rfl ⟨pcell_ks L, rfl, scell_ks S, trivial⟩
theorem voLoop {L : List Ins} {c : Nat} (hP : RightP L) {w : World} {β : Bs} : ∀ (n k : Nat) (S : List St), k + n = L.length → S.length = L.length → (∀ j, (stAt S j).Ok) →
    ART Tryz.prog 14 (cx w β 1 []) Tryz.f14.ntmps (cutAt Tryz.f14 0) (voKn L c S k) (REff w β (voE 4 L (verL L n k S) (verF L n k S)))
  | 0, k, S, hk, hS, _ => by
    have hkk := vo_keys 4 L ⟨0, 0, S⟩ S (by decide)
    unfold verL verF
    unfold voE at hkk ⊢
    simp only [hS] at hkk ⊢
    exact roVEnd_w0 (and_yes (by rw [decide_eq_false (by omega)]; rfl) rfl) hkk
  | n + 1, k, S, hk, hS, hok => by
    have hlt : k < L.length := by omega
    have hltS : k < S.length := by omega
    have hle := hP.le
    have hr := right_lt hP hlt
    have hst := stepState_ok (i := elt L k) (t := stAt S k) (hr.mono (by omega)) (hok k)
    unfold stE at hst
    have d0 : decide ((k : Int) < (L.length : Int)) = true := jl hlt
    have f1 : Nat.ble (0 + Int.toNat (k : Int) * 5 + 5) (pcell L).length = true := pble hlt
    have f2 : Nat.ble (0 + Int.toNat (k : Int) * 31 + 31) (scell S).length = true := sble hltS
    have f3 := elt_eff hlt
    have f4 : Eff.mk (AV.ag (List.take 31 (List.drop (0 + Int.toNat (k : Int) * 31) (scell S)))) [] none = Eff.mk (AV.ag (St.cs (stAt S k))) [] none := sat_eff hltS
    have f5 : Eff.mk (AV.c (AC.i (IntKind.wrap IntKind.i64 ((k : Int) + 1)))) [] none = Eff.mk (AV.c (AC.i ((k + 1 : Nat) : Int))) [] none := by rw [wrapS (by omega)]
    obtain ⟨q1, q2⟩ := stepS_Ok hr (hok k)
    have hR := offB hr (by omega)
    unfold verL verF
    by_cases h0 : (stepS (elt L k) (stAt S k)).2.2 = 0
    · rw [if_pos h0, if_pos h0]
      rw [h0] at hst
      have hok1 := addS_Ok (k := k + 1) hok q1
      have hok2 := addS_Ok (k := k + 1 + (elt L k).of.toNat) hok1 q2
      have len1 : (addS S (k + 1) (stepS (elt L k) (stAt S k)).1).length = L.length := by rw [addS_len]; exact hS
      have next := voLoop (c := c) hP (w := w) (β := β) n (k + 1) (addS (addS S (k + 1) (stepS (elt L k) (stAt S k)).1) (k + 1 + (elt L k).of.toNat) (stepS (elt L k) (stAt S k)).2.1) (by omega) (by rw [addS_len, addS_len]; exact hS) hok2
      have g0 : (pcell L)[0 + Int.toNat (k : Int) * 5 + 4]? = some (AC.i (elt L k).of) := by
        have h3 := congrArg (fun l => l[4]?) (pcell_elt (L := L) (k := k) hlt)
        simp only [List.getElem?_take, List.getElem?_drop] at h3
        rw [if_pos (by decide)] at h3
        rw [Int.toNat_natCast, Nat.zero_add]
        exact h3
      have g1 : (AC.isI (Option.getD (pcell L)[0 + Int.toNat (k : Int) * 5 + 4]? (AC.b false)) && Nat.blt (0 + Int.toNat (k : Int) * 5 + 4) (pcell L).length) = true := by
        rw [g0, Bool.and_eq_true]
        exact ⟨rfl, by rw [pcell_length, Nat.blt_eq]; omega⟩
      have g2 : Eff.mk (AV.c (AC.i (AC.asI (Option.getD (pcell L)[0 + Int.toNat (k : Int) * 5 + 4]? (AC.b false))))) [] none = Eff.mk (AV.c (AC.i (elt L k).of)) [] none := by rw [g0]; rfl
      have g3 : Eff.mk (AV.c (AC.i (IntKind.wrap IntKind.i64 (((k + 1 : Nat) : Int) + (elt L k).of)))) [] none = Eff.mk (AV.c (AC.i (((k + 1 : Nat) : Int) + (elt L k).of))) [] none := by rw [wrapN (by omega) (by omega)]
      have hF : ∀ j, (cx w β 1 []).F j → j < 6 := fun _ h => Nat.lt_of_lt_of_le h (by decide)
      have sb : ∀ (T : List St) (x : Nat) (u : St), T.length = L.length → x < L.length → (Nat.ble (0 + x * 31 + List.length (St.cs u)) (scell T).length && true) = true := fun T x u hT hx => by
        rw [show List.length (St.cs u) = 31 from rfl, sble (by omega)]; rfl
      by_cases hla : k + 1 < L.length
      · have d1 : decide (((k + 1 : Nat) : Int) < (L.length : Int)) = true := decide_eq_true (by omega)
        have j1 := refJoinS_ok (hok (k + 1)) q1
        have s1 : Eff.mk (AV.raw undef) [(4, splice (scell S) (0 + Int.toNat ((k + 1 : Nat) : Int) * 31) (St.cs ((stAt S (k + 1)).join (stepS (elt L k) (stAt S k)).1)))] none = Eff.mk (AV.raw undef) [(4, scell (addS S (k + 1) (stepS (elt L k) (stAt S k)).1))] none := by
          rw [Int.toNat_natCast, Nat.zero_add, scell_set _ (by omega), add_ref (hok _) q1 (by omega)]
        by_cases hl : (stepS (elt L k) (stAt S k)).2.1.live = true
        · have hx := go2_lt hP hlt hl
          have ex : (((k + 1 : Nat) : Int) + (elt L k).of).toNat = k + 1 + (elt L k).of.toNat := by omega
          have j2 := refJoinS_ok (hok1 (k + 1 + (elt L k).of.toNat)) q2
          have d2 : (decide (0 ≤ ((k + 1 : Nat) : Int) + (elt L k).of) && decide (((k + 1 : Nat) : Int) + (elt L k).of < (L.length : Int))) = true := and_yes (decide_eq_true (by omega)) (decide_eq_true (by omega))
          refine roV01_w0 (and_yes d0 (and_yes d0 (and_yes f1 (and_yes d0 (and_yes f2 (and_yes d1 (and_yes d1 (and_yes (sble (by omega)) (and_yes d1 (and_yes (sb S (k + 1) _ hS hla) (and_yes d0 (and_yes g1 (and_yes hl (and_yes d2 (and_yes (by rw [ex]; exact sble (by omega)) (and_yes d2 (by rw [ex, sb _ _ _ len1 (by omega)]; rfl))))))))))))))))) f3 f4 hst f5 f5 f5 (sat_eff (by omega)) j1 s1 f5 g2 g3 (by rw [ex]; exact sat_eff (by omega)) j2 ?_ f5 (vo_low _ _ _ _) hF next
          rw [ex, Nat.zero_add, scell_set _ (by omega), add_ref (hok1 _) q2 (by omega)]
        · have e2 : ∀ x, addS (addS S (k + 1) (stepS (elt L k) (stAt S k)).1) x (stepS (elt L k) (stAt S k)).2.1 = addS S (k + 1) (stepS (elt L k) (stAt S k)).1 := fun x => by rw [addS, if_neg hl]
          rw [e2] at next ⊢
          exact roV00_w0 (and_yes d0 (and_yes d0 (and_yes f1 (and_yes d0 (and_yes f2 (and_yes d1 (and_yes d1 (and_yes (sble (by omega)) (and_yes d1 (and_yes (sb S (k + 1) _ hS hla) (and_yes d0 (and_yes g1 (and_yes (by rw [Bool.not_eq_true] at hl; rw [hl]; rfl) rfl))))))))))))) f3 f4 hst f5 f5 f5 (sat_eff (by omega)) j1 s1 f5 g2 g3 f5 (vo_low _ _ _ _) hF next
      · have d1 : (!decide (((k + 1 : Nat) : Int) < (L.length : Int))) = true := by rw [decide_eq_false (by omega)]; rfl
        have e1 : addS S (k + 1) (stepS (elt L k) (stAt S k)).1 = S := add_out (by omega)
        have hl : ¬ (stepS (elt L k) (stAt S k)).2.1.live = true := fun hl => by have := go2_lt hP hlt hl; omega
        have e2 : ∀ x, addS S x (stepS (elt L k) (stAt S k)).2.1 = S := fun x => by rw [addS, if_neg hl]
        rw [e1, e2] at next ⊢
        exact roV10_w0 (and_yes d0 (and_yes d0 (and_yes f1 (and_yes d0 (and_yes f2 (and_yes d1 (and_yes d0 (and_yes g1 (and_yes (by rw [Bool.not_eq_true] at hl; rw [hl]; rfl) rfl))))))))) f3 f4 hst f5 f5 g2 g3 f5 (vo_low _ _ _ _) hF next
    · rw [if_neg h0, if_neg h0]
      have hlen : (S.take (k + 1)).length = k + 1 := by rw [List.length_take]; omega
      have hkk := vo_keys 4 L ⟨(stepS (elt L k) (stAt S k)).2.2, k, S.take (k + 1)⟩ S (by decide)
      unfold voE at hkk ⊢
      simp only [hlen] at hkk ⊢
      exact roVTrap_w0 (and_yes d0 (and_yes d0 (and_yes f1 (and_yes d0 (and_yes f2 (and_yes (by simpa using h0) (and_yes (and_yes (decide_eq_true (by omega)) (decide_eq_true (by omega))) rfl))))))) f3 f4 hst f5 rfl hkk
theorem verifyOf_ok {L : List Ins} {c : Nat} (hP : RightP L) : CallOK Tryz.prog ⟨14, [.c (.sl 0 0 L.length c)], pH L, voE 4 L (verifyS L) (verF L L.length 0 (firstS L.length))⟩ := by
  have hpos := hP.pos
  have hle := hP.le
  refine rnew_of Tryz.func14 rfl rfl rfl (pcell_ks L) (by decide) rfl (scell_ks _) fun w β _ => ?_
  refine roV_w0 (b := beginS) ?_ ?_ rbegin_ok ?_ (vo_low _ _ _ 0) (fun _ h => Nat.lt_of_lt_of_le h (by decide)) (voLoop hP L.length 0 (firstS L.length) (by omega) (firstS_len _) (firstS_Ok hpos))
  · have : Nat.ble (0 + List.length (St.cs beginS)) (scell (List.replicate L.length St.z)).length = true := by rw [scell_len, List.length_replicate, Nat.ble_eq]; show 0 + 31 ≤ _; omega
    rw [this]
    simp; omega
  · rw [Int.toNat_natCast, scell_rows]
  · have := scell_set (S := List.replicate L.length St.z) (k := 0) beginS (by rw [List.length_replicate]; exact hpos)
    rw [Nat.zero_mul] at this
    rw [this]
end Go.Proofs.YtkigmocchaikgabGreat

/- Ways of bodies, written by a program (ways.py): what each asks for, and hands back. -/
namespace Go.Proofs.YtkigmocchaikgabGreat
open Go.RowKit

theorem vBegun_w0 {S : List St} {S2 : List St} (h : (AC.isU (Option.getD (scell S)[107]? (AC.b false)) && Nat.blt 107 (List.length (scell S)) && (eqb (V4.h (V6.x1 (St.r (stAt S 3)))) 63#64 && true)) = true) (c0 : CallOK Tryz.prog (CallRec.mk 34 [] [] (Eff.mk (AV.c (AC.sl 1 0 6 6)) [] (some (1, Ent.mk true (pcell gL) 0))))) (c1 : CallOK Tryz.prog (CallRec.mk 12 [AV.c (AC.sl 1 0 6 6)] [(1, Ent.mk true (pcell gL) 0)] (Eff.mk (AV.tu [AT.ag [AC.i 0, AC.i 0, AC.sl 2 0 6 6], AT.c (AC.i 0)]) [] (some (2, Ent.mk true (scell S) 0))))) (c2 : CallOK Tryz.prog (CallRec.mk 34 [] [] (Eff.mk (AV.c (AC.sl 9 0 6 6)) [] (some (9, Ent.mk true (pcell gL) 0))))) (c3 : CallOK Tryz.prog (CallRec.mk 12 [AV.c (AC.sl 9 15 3 3)] [(9, Ent.mk true (pcell gL) 0)] (Eff.mk (AV.tu [AT.ag [AC.i 2, AC.i 0, AC.sx 11 1], AT.c (AC.i 0)]) [] (some (11, Ent.mk true (scell S2) 31))))) (c4 : Eff.mk (AV.c (AC.u (AC.asU (Option.getD (scell S)[107]? (AC.b false))))) [] none = Eff.mk (AV.c (AC.u (V4.h (V6.x1 (St.r (stAt S 3)))))) [] none) :
    CallOK Tryz.prog ⟨15, [], [], ⟨AV.c (AC.b true), [], none⟩⟩ :=
  val_run 2000 [Eff.mk (AV.c (AC.sl 1 0 6 6)) [] (some (1, Ent.mk true (pcell gL) 0)), Eff.mk (AV.tu [AT.ag [AC.i 0, AC.i 0, AC.sl 2 0 6 6], AT.c (AC.i 0)]) [] (some (2, Ent.mk true (scell S) 0)), Eff.mk (AV.c (AC.sl 9 0 6 6)) [] (some (9, Ent.mk true (pcell gL) 0)), Eff.mk (AV.tu [AT.ag [AC.i 2, AC.i 0, AC.sx 11 1], AT.c (AC.i 0)]) [] (some (11, Ent.mk true (scell S2) 31)), Eff.mk (AV.c (AC.u (V4.h (V6.x1 (St.r (stAt S 3)))))) [] none] [true, true, true, true, true, true, true] ([]) [(3, 24)] Tryz.func15 rfl rfl rfl rfl (by kernel_rfl) h (cr_cons c0 (cr_cons c1 (cr_cons c2 (cr_cons c3 (cr_same c4 cr_nil)))))
end Go.Proofs.YtkigmocchaikgabGreat

/- Contracts of verify.Verify under other keys, of a part of a row; verifyBegun. -/
namespace Go.Proofs.YtkigmocchaikgabGreat
open Go.RowKit

theorem CallOK.off {P : Program} {f n c o r : Nat} {b : Bool} {cs cells : List AC} {e : Eff} (h : CallOK P ⟨f, [.c (.sl 0 0 n c)], [(0, ⟨false, cs, 0⟩)], e⟩) (hwr : e.wr = []) (hv : ∀ k, k ∈ e.v.ks → k ≠ 0) (hn0 : ∀ k en, e.nw = some (k, en) → k ≠ 0) (hnk : ∀ k en, e.nw = some (k, en) → en.cells.flatMap AC.ks = [])
    (hcs : ∀ j x, cs[j]? = some x → cells[o + j]? = some x) (hks : cs.flatMap AC.ks = []) : CallOK P ⟨f, [.c (.sl 0 o n c)], [(0, ⟨b, cells, r⟩)], e⟩ := by
  have look0 : ∀ k, (∃ en, look [(0, (⟨false, cs, 0⟩ : Ent))] k = some en) → ∃ en, look [(0, (⟨b, cells, r⟩ : Ent))] k = some en := fun k ⟨en, hk⟩ => by
    obtain ⟨rfl, _⟩ := one_look hk
    exact ⟨_, rfl⟩
  refine ⟨⟨fun k hk => ext_mono look0 _ k (h.keys.v k hk), fun k x hm => (by rw [hwr] at hm; cases hm), fun k en hm x hx j hj => (nk_of (hnk k en hm) hx hj).elim⟩, fun k x hm => (by rw [hwr] at hm; cases hm), fun β w hB hI => ?_⟩
  have hb0 := hB 0 ⟨b, cells, r⟩ rfl
  have h1 := h.call (bset β 0 ((β 0).1, (β 0).2.1 + o, (β 0).2.2)) w (fun k en hk => ?_) (fun k en k' en' hk hk' hne => ?_)
  · have ha : ([AV.c (AC.sl 0 0 n c)].map (AV.g (bset β 0 ((β 0).1, (β 0).2.1 + o, (β 0).2.2)))).toArray = ([AV.c (AC.sl 0 o n c)].map (AV.g β)).toArray := by
      simp [AV.g, AC.g, ptr, bset]
    simp only at h1
    rw [ha] at h1
    refine h1.mono fun en w' ⟨β', he, hu⟩ => ?_
    have hnw := hu.nw
    have hfr : Fr (fun B => ∃ k x, (k, x) ∈ e.wr ∧ B = (β k).1) w w' := hu.frame.mono fun B ⟨k, x, hm, _⟩ => (by rw [hwr] at hm; cases hm)
    cases hn : e.nw with
    | none =>
      rw [hn] at hnw
      have hβ : β' = bset β 0 ((β 0).1, (β 0).2.1 + o, (β 0).2.2) := hnw
      refine ⟨β, ?_, ⟨hfr, fun k x hm => (by rw [hwr] at hm; cases hm), by rw [hn]; rfl⟩⟩
      rw [he, hβ, AV.g_congr e.v fun k hk => ?_]
      unfold bset
      rw [if_neg (hv k hk)]
    | some x =>
      obtain ⟨k, en'⟩ := x
      rw [hn] at hnw
      obtain ⟨b1, o1, c1, h2, h3, h4, h5⟩ := hnw
      have hk0 := hn0 k en' hn
      have hβ : ∀ j, j ≠ 0 → β' j = bset β k (b1, o1, c1) j := fun j hj => by
        rw [h4]
        unfold bset
        by_cases c : j = k
        · rw [if_pos c, if_pos c]
        · rw [if_neg c, if_neg c, if_neg hj]
      refine ⟨bset β k (b1, o1, c1), ?_, ⟨hfr, fun k x hm => (by rw [hwr] at hm; cases hm), ?_⟩⟩
      · rw [he]
        rw [AV.g_congr e.v fun j hj => hβ j (hv j hj)]
      · rw [hn]
        refine ⟨b1, o1, c1, Or.inl (h2.resolve_right fun ⟨k0, hk, _⟩ => (by rw [hwr] at hk; cases hk)), h3, rfl, ?_⟩
        exact h5.congr (hβ k hk0).symm (Nat.le_refl _) rfl fun x hx j hj => (nk_of (hnk k en' hn) hx hj).elim
  · obtain ⟨rfl, rfl⟩ := one_look hk
    refine ⟨hb0.lt, fun j x hj => ?_, (fun h => by cases h), fun h => absurd rfl h⟩
    have := hb0.cell (o + j) x (hcs j x hj)
    have e1 : ptr (bset β 0 ((β 0).1, (β 0).2.1 + o, (β 0).2.2)) 0 j = ptr β 0 (o + j) := by simp [ptr, bset, Nat.add_assoc]
    rw [e1, this, AC.g_congr x fun k hk => (nk_of hks (List.mem_of_getElem? hj) hk).elim]
  · obtain ⟨rfl, _⟩ := one_look hk
    obtain ⟨rfl, _⟩ := one_look hk'
    exact absurd rfl hne
theorem okE_ren (ρ : Nat → Nat) (K n : Nat) (S : List St) : (okE K n S).ren ρ = okE (ρ K) n S := by
  unfold okE Eff.ren
  simp only [Option.map_some, Ent.ren, ren_nk ρ (scell_ks S)]
  rfl
theorem trapE_ren (ρ : Nat → Nat) (K : Nat) (R : Rep) : (trapE K R).ren ρ = trapE (ρ K) R := by
  unfold trapE Eff.ren
  simp only [Option.map_some, Ent.ren, ren_nk ρ (scell_ks R.sts)]
  rfl
theorem p_to {P : Program} {f : Nat} {args args' : List AV} {L : List Ins} {e e' : Eff} (h : CallOK P ⟨f, args, pH L, e⟩) (K : Nat) (b : Bool) (ha : args.map (AV.ren (swp 0 K)) = args') (he : e.ren (swp 0 K) = e') : CallOK P ⟨f, args', [(K, ⟨b, pcell L, 0⟩)], e'⟩ := by
  have h1 := h.ren (swp 0 K) (swp_inj 0 K)
  unfold CallRec.ren at h1
  simp only [ha, he] at h1
  refine h1.more ⟨fun k en hk => ?_⟩
  have e1 : renH (swp 0 K) (pH L) = [(K, ⟨false, pcell L, 0⟩)] := by
    show [(swp 0 K 0, Ent.mk false ((pcell L).map (AC.ren (swp 0 K))) 0)] = _
    rw [ren_nk _ (pcell_ks L)]
    rfl
  rw [e1] at hk
  obtain ⟨rfl, rfl⟩ := one_look hk
  exact ⟨⟨b, pcell L, 0⟩, by rw [look_cons, if_pos rfl], rfl, fun h => (by cases h), Or.inl rfl⟩
theorem swp_fst (a b : Nat) : swp a b a = b := by unfold swp; rw [if_pos rfl]
theorem swp_other {a b j : Nat} (h1 : j ≠ a) (h2 : j ≠ b) : swp a b j = j := by unfold swp; rw [if_neg h1, if_neg h2]
theorem pH_ren {ρ : Nat → Nat} {L : List Ins} (h : ρ 0 = 0) : renH ρ (pH L) = pH L := by
  show [(ρ 0, Ent.mk false ((pcell L).map (AC.ren ρ)) 0)] = _
  rw [ren_nk _ (pcell_ks L), h]
theorem verify_okK {L : List Ins} {c : Nat} (h : codeErr L = 0) (h0 : (verifyS L).trap = 0) {K : Nat} (hK : K ≠ 0) : CallOK Tryz.prog ⟨12, [.c (.sl 0 0 L.length c)], pH L, okE K L.length (verifyS L).sts⟩ := by
  have h1 := verify_ret (c := c) h
  unfold verE at h1
  rw [if_pos h0] at h1
  have h2 := h1.ren (swp 10 K) (swp_inj 10 K)
  have e0 : swp 10 K 0 = 0 := swp_other (by decide) (Ne.symm hK)
  unfold CallRec.ren at h2
  simp only [okE_ren, swp_fst, pH_ren e0] at h2
  refine h2.congr ?_
  show CallRec.mk _ [AV.c (AC.sl 0 0 L.length c)] _ _ = CallRec.mk _ [AV.c (AC.sl (swp 10 K 0) 0 L.length c)] _ _
  rw [e0]
theorem verify_trK {L : List Ins} {c : Nat} (h : codeErr L = 0) (h0 : (verifyS L).trap ≠ 0) {K : Nat} (hK : K ≠ 0) : CallOK Tryz.prog ⟨12, [.c (.sl 0 0 L.length c)], pH L, trapE K (verifyS L)⟩ := by
  have h1 := verify_ret (c := c) h
  unfold verE at h1
  rw [if_neg h0] at h1
  have h2 := h1.ren (swp 43 K) (swp_inj 43 K)
  have e0 : swp 43 K 0 = 0 := swp_other (by decide) (Ne.symm hK)
  unfold CallRec.ren at h2
  simp only [trapE_ren, swp_fst, pH_ren e0] at h2
  refine h2.congr ?_
  show CallRec.mk _ [AV.c (AC.sl 0 0 L.length c)] _ _ = CallRec.mk _ [AV.c (AC.sl (swp 43 K 0) 0 L.length c)] _ _
  rw [e0]
def gL3 : List Ins := [⟨10, 0, 1, 1#64, 0⟩, ⟨2, 0, -1, 1#64, 0⟩, ⟨15, 0, 0, 0#64, 0⟩]
theorem verifyBegun_ok : Ok 15 [] (.c (.b true)) := by
  have r1 : CallOK Tryz.prog ⟨12, [.c (.sl 1 0 6 6)], [(1, ⟨true, pcell gL, 0⟩)], okE 2 6 (verifyS gL).sts⟩ :=
    p_to (verify_okK (L := gL) (c := 6) (by kernel_rfl) (by kernel_rfl) (K := 2) (by decide)) 1 true rfl (by rw [okE_ren]; rfl)
  have r2 : CallOK Tryz.prog ⟨12, [.c (.sl 9 15 3 3)], [(9, ⟨true, pcell gL, 0⟩)], ⟨.tu [.ag [.i 2, .i 0, .sx 11 1], .c (.i 0)], [], some (11, ⟨true, scell (verifyS gL3).sts, 31⟩)⟩⟩ := by
    have h1 := verify_trK (L := gL3) (c := 3) (by kernel_rfl) (by rw [show (verifyS gL3).trap = 2 by kernel_rfl]; decide) (K := 11) (by decide)
    have e1 : trapE 11 (verifyS gL3) = ⟨.tu [.ag [.i 2, .i 0, .sx 11 1], .c (.i 0)], [], some (11, ⟨true, scell (verifyS gL3).sts, 31⟩)⟩ := by
      unfold trapE
      rw [show (verifyS gL3).trap = 2 by kernel_rfl, show (verifyS gL3).pos = 0 by kernel_rfl, show (verifyS gL3).sts.length = 1 by kernel_rfl]
    rw [e1] at h1
    have h2 := h1.off (o := 15) (b := true) (r := 0) (cells := pcell gL) rfl (fun k hk => by have : k ∈ [11] := hk; rw [List.mem_singleton.1 this]; decide) (fun k en hk => by injection hk with hk; injection hk with hk _; subst hk; decide)
      (fun k en hk => by injection hk with hk; injection hk with _ hk; subst hk; exact scell_ks _) (fun j x hj => by
        have : (pcell gL)[15 + j]? = (pcell gL3)[j]? := by rw [← List.getElem?_drop]; rfl
        rw [this]; exact hj) (pcell_ks _)
    have h3 := h2.ren (swp 0 9) (swp_inj 0 9)
    refine h3.congr ?_
    unfold CallRec.ren Eff.ren renH
    simp only [List.map_cons, List.map_nil, Option.map_some, Ent.ren, ren_nk _ (scell_ks _), ren_nk _ (pcell_ks _)]
    rfl
  exact vBegun_w0 (by kernel_rfl) (guarded_ok 1) r1 (guarded_ok 9) r2 (by kernel_rfl)
end Go.Proofs.YtkigmocchaikgabGreat

/- The reference's SameReports; the law VerifyTells, as a contract. -/
namespace Go.Proofs.YtkigmocchaikgabGreat
open Go.RowKit

theorem ver_full {L : List Ins} : ∀ (n k : Nat) (S : List St), k + n = L.length → S.length = L.length → (verF L n k S).length = L.length ∧ (verL L n k S).sts.length ≤ L.length ∧ ∀ j, j < (verL L n k S).sts.length → stAt (verL L n k S).sts j = stAt (verF L n k S) j
  | 0, k, S, _, hS => ⟨hS, Nat.le_of_eq hS, fun _ _ => rfl⟩
  | n + 1, k, S, hk, hS => by
    unfold verL verF
    by_cases h0 : (stepS (elt L k) (stAt S k)).2.2 = 0
    · rw [if_pos h0, if_pos h0]
      exact ver_full n (k + 1) _ (by omega) (by rw [addS_len, addS_len]; exact hS)
    · rw [if_neg h0, if_neg h0]
      refine ⟨hS, ?_, fun j hj => ?_⟩
      · show (S.take (k + 1)).length ≤ _
        rw [List.length_take]; omega
      · have hj : j < (S.take (k + 1)).length := hj
        rw [List.length_take] at hj
        exact stAt_take (by omega)
theorem two_look {K K' : Nat} {en en' e : Ent} {k : Nat} (h : look [(K, en), (K', en')] k = some e) : (k = K ∧ e = en) ∨ (k = K' ∧ e = en') := by
  rw [look_cons] at h
  split at h
  · rename_i hk; injection h with h; exact Or.inl ⟨hk, h.symm⟩
  · exact Or.inr (one_look h)
theorem begin_two {S S2 : List St} {args : List AV} (ha : (keysOf args).all (fun k => Nat.blt k 2) = true) : Begin args [(0, ⟨false, scell S, 0⟩), (1, ⟨false, scell S2, 0⟩)] 2 := by
  refine ⟨fun v hv k hk => ?_, fun k e he => ?_⟩
  · have h2 := List.all_eq_true.1 ha k (List.mem_flatMap.2 ⟨v, hv, hk⟩)
    simpa using h2
  · rcases two_look he with ⟨rfl, rfl⟩ | ⟨rfl, rfl⟩
    · exact ⟨by decide, fun c hc j hj => (nk_of (scell_ks S) hc hj).elim⟩
    · exact ⟨by decide, fun c hc j hj => (nk_of (scell_ks S2) hc hj).elim⟩
theorem low_th {T : List (Nat × AV)} {n : Nat} (h : (T.flatMap fun x => x.2.ks).all (fun k => Nat.blt k n) = true) (t : Nat) (v : AV) (hv : look T t = some v) (k : Nat) (hk : k ∈ v.ks) : k < n := by
  have h1 : k ∈ T.flatMap fun x => x.2.ks := List.mem_flatMap.2 ⟨(t, v), look_mem hv, hk⟩
  have h2 := List.all_eq_true.1 h k h1
  simpa using h2
abbrev srOKn (S S2 : List St) (q d j : Nat) (tr p : Int) : Kn := ⟨[(2, .c (.w 2)), (3, .c (.w 3)), (5, .c (.i (j : Int)))], [(0, ⟨false, scell S, 0⟩), (1, ⟨false, scell S2, 0⟩), (2, ⟨true, [.i tr, .i p, .sl 0 0 q q], 0⟩), (3, ⟨true, [.i tr, .i p, .sl 1 0 q d], 0⟩)], 4⟩
theorem srO_low (S S2 : List St) (q d j : Nat) (tr p : Int) : Kn.Low (srOKn S S2 q d j tr p) := by
  refine ⟨low_th rfl, fun k e h => ?_⟩
  change look [(0, (⟨false, scell S, 0⟩ : Ent)), (1, ⟨false, scell S2, 0⟩), (2, ⟨true, [.i tr, .i p, .sl 0 0 q q], 0⟩), (3, ⟨true, [.i tr, .i p, .sl 1 0 q d], 0⟩)] k = some e at h
  show k < 4 ∧ ∀ c, c ∈ e.cells → ∀ j, j ∈ c.ks → j < 4
  rw [look_cons] at h
  split at h
  · rename_i hk; injection h with h; subst h hk; exact ⟨by decide, fun c hc j hj => (nk_of (scell_ks S) hc hj).elim⟩
  · rw [look_cons] at h
    split at h
    · rename_i hk; injection h with h; subst h hk; exact ⟨by decide, fun c hc j hj => (nk_of (scell_ks S2) hc hj).elim⟩
    · rcases two_look h with ⟨rfl, rfl⟩ | ⟨rfl, rfl⟩
      · refine ⟨by decide, fun c hc j hj => ?_⟩
        have : j ∈ ([.i tr, .i p, .sl 0 0 q q] : List AC).flatMap AC.ks := List.mem_flatMap.2 ⟨c, hc, hj⟩
        have : j ∈ [0] := this
        rw [List.mem_singleton.1 this]; decide
      · refine ⟨by decide, fun c hc j hj => ?_⟩
        have : j ∈ ([.i tr, .i p, .sl 1 0 q d] : List AC).flatMap AC.ks := List.mem_flatMap.2 ⟨c, hc, hj⟩
        have : j ∈ [1] := this
        rw [List.mem_singleton.1 this]; decide
theorem srOLoop {S S2 : List St} {q d : Nat} {tr p : Int} (h1 : q ≤ S.length) (h2 : q ≤ S2.length) (hq : q ≤ 64) (he : ∀ j, j < q → stAt S j = stAt S2 j) {w : World} {β : Bs} : ∀ n j, j + n = q →
    ART Tryz.prog 16 (cx w β 2 []) Tryz.f16.ntmps (cutAt Tryz.f16 0) (srOKn S S2 q d j tr p) (REff w β ⟨.c (.b true), [], none⟩)
  | 0, j, hj => srOE_w0 (and_yes (by rw [decide_eq_false (by omega)]; rfl) rfl)
  | n + 1, j, hj => by
    have d0 : decide ((j : Int) < (q : Int)) = true := decide_eq_true (by omega)
    refine srOR_w0 (u := stAt S j) (and_yes d0 (and_yes d0 (and_yes ?_ (and_yes d0 (and_yes (sble (by omega)) (and_yes (by rw [peq_st]; rfl) rfl)))))) ?_ (by rw [he j (by omega)]; exact sat_eff (by omega)) (by rw [wrapS (by omega)]) (srO_low _ _ _ _ _ _ _) (fun _ h => Nat.lt_of_lt_of_le h (by decide)) (srOLoop h1 h2 hq he n (j + 1) (by omega))
    · have := sble (S := S) (k := j) (by omega)
      first
        | exact this
        | (rw [Nat.zero_add] at this; exact this)
    · have := sat_eff (S := S) (k := j) (by omega)
      first
        | exact this
        | (rw [Nat.zero_add] at this; exact this)
theorem srO_ok {S S2 : List St} {q d : Nat} {tr p : Int} (h1 : q ≤ S.length) (h2 : q ≤ S2.length) (hq : q ≤ 64) (he : ∀ j, j < q → stAt S j = stAt S2 j) (r : Nat) :
    CallOK Tryz.prog ⟨16, [.ag [.i tr, .i p, .sl 3 0 q q], .ag [.i tr, .i p, .sl 17 0 q d]], [(3, ⟨true, scell S, r⟩), (17, ⟨true, scell S2, 0⟩)], ⟨.c (.b true), [], none⟩⟩ := by
  have key : CallOK Tryz.prog ⟨16, [.ag [.i tr, .i p, .sl 0 0 q q], .ag [.i tr, .i p, .sl 1 0 q d]], [(0, ⟨false, scell S, 0⟩), (1, ⟨false, scell S2, 0⟩)], ⟨.c (.b true), [], none⟩⟩ :=
    read_of Tryz.func16 rfl rfl (begin_two rfl) rfl (fun k en h => by rcases two_look h with ⟨_, rfl⟩ | ⟨_, rfl⟩ <;> rfl) fun w β => srOTop_w0 (by simp) (srO_low _ _ _ _ 0 _ _) (fun _ h => Nat.lt_of_lt_of_le h (by decide)) (srOLoop h1 h2 hq he q 0 (by omega))
  refine CallOK.more (H := [(3, ⟨false, scell S, 0⟩), (17, ⟨false, scell S2, 0⟩)]) ?_ ⟨fun j en hj => ?_⟩
  · refine ((key.ren (swp 1 17) (swp_inj 1 17)).ren (swp 0 3) (swp_inj 0 3)).congr ?_
    unfold CallRec.ren Eff.ren renH
    simp only [List.map_cons, List.map_nil, Option.map_none, Ent.ren, ren_nk _ (scell_ks _)]
    rfl
  · rcases two_look hj with ⟨rfl, rfl⟩ | ⟨rfl, rfl⟩
    · exact ⟨⟨true, scell S, r⟩, rfl, rfl, fun h => (by cases h), Or.inl rfl⟩
    · exact ⟨⟨true, scell S2, 0⟩, rfl, rfl, fun h => (by cases h), Or.inl rfl⟩
abbrev srTKn (S S2 : List St) (q d j : Nat) (tr p : Int) : Kn := ⟨[(2, .c (.w 2)), (3, .c (.w 3)), (5, .c (.i (j : Int)))], [(0, ⟨false, scell S, 0⟩), (1, ⟨false, scell S2, 0⟩), (2, ⟨true, [.i tr, .i p, .sx 0 q], 0⟩), (3, ⟨true, [.i tr, .i p, .sl 1 0 q d], 0⟩)], 4⟩
theorem srT_low (S S2 : List St) (q d j : Nat) (tr p : Int) : Kn.Low (srTKn S S2 q d j tr p) := by
  refine ⟨low_th rfl, fun k e h => ?_⟩
  change look [(0, (⟨false, scell S, 0⟩ : Ent)), (1, ⟨false, scell S2, 0⟩), (2, ⟨true, [.i tr, .i p, .sx 0 q], 0⟩), (3, ⟨true, [.i tr, .i p, .sl 1 0 q d], 0⟩)] k = some e at h
  show k < 4 ∧ ∀ c, c ∈ e.cells → ∀ j, j ∈ c.ks → j < 4
  rw [look_cons] at h
  split at h
  · rename_i hk; injection h with h; subst h hk; exact ⟨by decide, fun c hc j hj => (nk_of (scell_ks S) hc hj).elim⟩
  · rw [look_cons] at h
    split at h
    · rename_i hk; injection h with h; subst h hk; exact ⟨by decide, fun c hc j hj => (nk_of (scell_ks S2) hc hj).elim⟩
    · rcases two_look h with ⟨rfl, rfl⟩ | ⟨rfl, rfl⟩
      · refine ⟨by decide, fun c hc j hj => ?_⟩
        have : j ∈ ([.i tr, .i p, .sx 0 q] : List AC).flatMap AC.ks := List.mem_flatMap.2 ⟨c, hc, hj⟩
        have : j ∈ [0] := this
        rw [List.mem_singleton.1 this]; decide
      · refine ⟨by decide, fun c hc j hj => ?_⟩
        have : j ∈ ([.i tr, .i p, .sl 1 0 q d] : List AC).flatMap AC.ks := List.mem_flatMap.2 ⟨c, hc, hj⟩
        have : j ∈ [1] := this
        rw [List.mem_singleton.1 this]; decide
theorem srTLoop {S S2 : List St} {q d : Nat} {tr p : Int} (h1 : q ≤ S.length) (h2 : q ≤ S2.length) (hq : q ≤ 64) (he : ∀ j, j < q → stAt S j = stAt S2 j) {w : World} {β : Bs} : ∀ n j, j + n = q →
    ART Tryz.prog 16 (cx w β 2 []) Tryz.f16.ntmps (cutAt Tryz.f16 0) (srTKn S S2 q d j tr p) (REff w β ⟨.c (.b true), [], none⟩)
  | 0, j, hj => srTE_w0 (and_yes (by rw [decide_eq_false (by omega)]; rfl) rfl)
  | n + 1, j, hj => by
    have d0 : decide ((j : Int) < (q : Int)) = true := decide_eq_true (by omega)
    refine srTR_w0 (u := stAt S j) (and_yes d0 (and_yes d0 (and_yes ?_ (and_yes d0 (and_yes (sble (by omega)) (and_yes (by rw [peq_st]; rfl) rfl)))))) ?_ (by rw [he j (by omega)]; exact sat_eff (by omega)) (by rw [wrapS (by omega)]) (srT_low _ _ _ _ _ _ _) (fun _ h => Nat.lt_of_lt_of_le h (by decide)) (srTLoop h1 h2 hq he n (j + 1) (by omega))
    · have := sble (S := S) (k := j) (by omega)
      first
        | exact this
        | (rw [Nat.zero_add] at this; exact this)
    · have := sat_eff (S := S) (k := j) (by omega)
      first
        | exact this
        | (rw [Nat.zero_add] at this; exact this)
theorem srT_ok {S S2 : List St} {q d : Nat} {tr p : Int} (h1 : q ≤ S.length) (h2 : q ≤ S2.length) (hq : q ≤ 64) (he : ∀ j, j < q → stAt S j = stAt S2 j) (r : Nat) :
    CallOK Tryz.prog ⟨16, [.ag [.i tr, .i p, .sx 3 q], .ag [.i tr, .i p, .sl 17 0 q d]], [(3, ⟨true, scell S, r⟩), (17, ⟨true, scell S2, 0⟩)], ⟨.c (.b true), [], none⟩⟩ := by
  have key : CallOK Tryz.prog ⟨16, [.ag [.i tr, .i p, .sx 0 q], .ag [.i tr, .i p, .sl 1 0 q d]], [(0, ⟨false, scell S, 0⟩), (1, ⟨false, scell S2, 0⟩)], ⟨.c (.b true), [], none⟩⟩ :=
    read_of Tryz.func16 rfl rfl (begin_two rfl) rfl (fun k en h => by rcases two_look h with ⟨_, rfl⟩ | ⟨_, rfl⟩ <;> rfl) fun w β => srTTop_w0 (by simp) (srT_low _ _ _ _ 0 _ _) (fun _ h => Nat.lt_of_lt_of_le h (by decide)) (srTLoop h1 h2 hq he q 0 (by omega))
  refine CallOK.more (H := [(3, ⟨false, scell S, 0⟩), (17, ⟨false, scell S2, 0⟩)]) ?_ ⟨fun j en hj => ?_⟩
  · refine ((key.ren (swp 1 17) (swp_inj 1 17)).ren (swp 0 3) (swp_inj 0 3)).congr ?_
    unfold CallRec.ren Eff.ren renH
    simp only [List.map_cons, List.map_nil, Option.map_none, Ent.ren, ren_nk _ (scell_ks _)]
    rfl
  · rcases two_look hj with ⟨rfl, rfl⟩ | ⟨rfl, rfl⟩
    · exact ⟨⟨true, scell S, r⟩, rfl, rfl, fun h => (by cases h), Or.inl rfl⟩
    · exact ⟨⟨true, scell S2, 0⟩, rfl, rfl, fun h => (by cases h), Or.inl rfl⟩
theorem voE_ren (ρ : Nat → Nat) (K : Nat) (L : List Ins) (R : Rep) (F : List St) : (voE K L R F).ren ρ = voE (ρ K) L R F := by
  unfold voE Eff.ren
  simp only [Option.map_some, Ent.ren, ren_nk ρ (scell_ks F)]
  rfl
theorem verifyOf_17 {L : List Ins} {c : Nat} (hP : RightP L) : CallOK Tryz.prog ⟨14, [.c (.sl 0 0 L.length c)], pH L, voE 17 L (verifyS L) (verF L L.length 0 (firstS L.length))⟩ := by
  have h2 := (verifyOf_ok (c := c) hP).ren (swp 4 17) (swp_inj 4 17)
  have e0 : swp 4 17 0 = 0 := rfl
  unfold CallRec.ren at h2
  simp only [voE_ren, swp_fst, pH_ren e0] at h2
  exact h2.congr rfl
theorem verifyTells_ok (L : List Ins) (c : Nat) : CallOK Tryz.prog ⟨4, [.c (.sl 0 0 L.length c)], pH L, ⟨.c (.b true), [], none⟩⟩ := by
  refine read_of Tryz.func4 rfl rfl (begin_p rfl) rfl ro_p fun w β => ?_
  have hb := verifyBegun_ok
  have hc := checkCode_ok L c
  by_cases hL : codeErr L = 0
  · have hP := codeErr_zero hL
    have hle := hP.le
    have hout := verify_out hP
    obtain ⟨l1, l2, l3⟩ := ver_full (L := L) L.length 0 (firstS L.length) (by omega) (firstS_len _)
    change (verifyS L).sts.length ≤ _ at l2
    change ∀ j, j < (verifyS L).sts.length → stAt (verifyS L).sts j = _ at l3
    have ho := verifyOf_17 (c := c) hP
    rw [hL] at hc
    by_cases h0 : (verifyS L).trap = 0
    · have hl := (hout.none h0).2
      have hp := (hout.none h0).1
      unfold voE at ho
      rw [h0, hp, hl] at ho
      exact vyOk_w0 (verify_okK hL h0 (by decide)) hc ho hb (srO_ok (by omega) (by omega) hle (fun j hj => l3 j (by omega)) 0)
    · exact vyTr_w0 (verify_trK hL h0 (by decide)) hc ho hb (srT_ok (S := (verifyS L).sts) (q := (verifyS L).sts.length) (Nat.le_refl _) (by omega) (by omega) (fun j hj => l3 j hj) 31)
  · exact vyErr_w0 (and_yes (by simpa using hL) (and_yes (by simp) rfl)) (verify_err hL) hc hb srNil_w0
theorem verifyTells_nil : Ok 4 [.c nilSl] (.c (.b true)) := vyNil_w0 rfl verify_nil checkCode_nil verifyBegun_ok srNil_w0
end Go.Proofs.YtkigmocchaikgabGreat
