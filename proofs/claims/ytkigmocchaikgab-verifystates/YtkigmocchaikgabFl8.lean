import Derived.Test.YtkigmocchaikgabFl4
import Derived.Test.YtkigmocchaikgabFl2
import Derived.Test.YtkigmocchaikgabProg
import Derived.Test.YtkigmocchaikgabFl3
import Derived.Test.YtkigmocchaikgabFl7
/- Verifying, folding and ridding, as plain functions. -/
namespace Go.Proofs.Ytkigmocchaikgab

structure Rep where
  trap : Int
  pos : Int
  sts : List St
def scell (l : List St) : List AC := l.flatMap St.cs
def stAt (S : List St) (k : Nat) : St := S.getD k St.z
def addS (S : List St) (k : Nat) (t : St) : List St := if t.live then S.set k ((stAt S k).join t) else S
def verL (L : List Ins) : Nat → Nat → List St → Rep
  | 0, _, S => ⟨0, 0, S⟩
  | n + 1, k, S => if (stepS (elt L k) (stAt S k)).2.2 = 0 then verL L n (k + 1) (addS (addS S (k + 1) (stepS (elt L k) (stAt S k)).1) (k + 1 + (elt L k).of.toNat) (stepS (elt L k) (stAt S k)).2.1)
    else ⟨(stepS (elt L k) (stAt S k)).2.2, k, S.take (k + 1)⟩
def firstS (n : Nat) : List St := (List.replicate n St.z).set 0 beginS
def verifyS (L : List Ins) : Rep := verL L L.length 0 (firstS L.length)
/- folding -/
/- ridding, from behind -/
def orS (a b : V6 Bool) : V6 Bool := ⟨a.x0 || b.x0, a.x1 || b.x1, a.x2 || b.x2, a.x3 || b.x3, a.x4 || b.x4, a.x5 || b.x5⟩
def lvAt (A : List (V6 Bool)) (k : Nat) : V6 Bool := A.getD k no6
/- what is live behind i, if A is what is live ahead of those behind it -/
def liveA (i : Ins) (b : V6 Bool) : V6 Bool := orS (useOf i) (if i.op ≤ 10 then b.set i.d.toNat false else b)
end Go.Proofs.Ytkigmocchaikgab

/- Ways of bodies, written by a program (ways.py): what each asks for, and hands back. -/
namespace Go.Proofs.Ytkigmocchaikgab
open Go.RowKit

theorem addS_w0 {S : List St} {q : Nat} {c : Nat} {k : Int} {t : St} {j1 : St} {e : Int} {w : World} {β : Bs} {n : Nat} (h : (St.live t && (decide (0 ≤ k) && decide (k < (↑q : Int)) && (Nat.ble (0 + Int.toNat k * 31 + 31) (List.length (scell S)) && (decide (0 ≤ k) && decide (k < (↑q : Int)) && (Nat.ble (0 + Int.toNat k * 31 + List.length (St.cs j1)) (List.length (scell S)) && true && true))))) = true) (c0 : Eff.mk (AV.ag (List.take 31 (List.drop (0 + Int.toNat k * 31) (scell S)))) [] none = Eff.mk (AV.ag (St.cs (stAt S (Int.toNat k)))) [] none) (c1 : CallOK Try.prog (CallRec.mk 13 [AV.ag (St.cs (stAt S (Int.toNat k))), AV.ag (St.cs t)] [] (Eff.mk (AV.tu [AT.ag (St.cs j1), AT.c (AC.i e)]) [] none))) (c2 : Eff.mk (AV.raw undef) [(0, splice (scell S) (0 + Int.toNat k * 31) (St.cs j1))] none = Eff.mk (AV.raw undef) [(0, scell (List.set S (Int.toNat k) j1))] none) (hk : EKeys n [0] (none) ⟨AV.tu [], [(0, scell (List.set S (Int.toNat k) j1))], none⟩) :
    ART Try.prog 48 (cx w β n [0]) Try.f48.ntmps ([Item.code (bodyOf Try.f48)]) (Kn.start [AV.c (AC.sl 0 0 q c), AV.c (AC.i k), AV.ag (St.cs t)] [(0, Ent.mk true (scell S) 0)] 1) (REff w β ⟨AV.tu [], [(0, scell (List.set S (Int.toNat k) j1))], none⟩) :=
  run_eff [0] (none) 2000 [Eff.mk (AV.ag (St.cs (stAt S (Int.toNat k)))) [] none, Eff.mk (AV.tu [AT.ag (St.cs j1), AT.c (AC.i e)]) [] none, Eff.mk (AV.raw undef) [(0, scell (List.set S (Int.toNat k) j1))] none] [true] ([]) [(2, 5), (2, 12)] Try.func48 hk (by kernel_rfl) h (cr_same c0 (cr_cons c1 (cr_same c2 cr_nil)))
theorem addS_w1 {S : List St} {q : Nat} {c : Nat} {k : Int} {t : St} {w : World} {β : Bs} {n : Nat} (h : (!St.live t && true) = true) (hk : EKeys n [0] (none) ⟨AV.tu [], [(0, scell S)], none⟩) :
    ART Try.prog 48 (cx w β n [0]) Try.f48.ntmps ([Item.code (bodyOf Try.f48)]) (Kn.start [AV.c (AC.sl 0 0 q c), AV.c (AC.i k), AV.ag (St.cs t)] [(0, Ent.mk true (scell S) 0)] 1) (REff w β ⟨AV.tu [], [(0, scell S)], none⟩) :=
  run_eff [0] (none) 2000 [] [false] ([]) [(2, 5), (2, 12)] Try.func48 hk (by kernel_rfl) h cr_nil
theorem addS_all {S : List St} {q : Nat} {c : Nat} {k : Int} {t : St} {j1 : St} {e : Int} {w : World} {β : Bs} {n : Nat} {E : Eff}
    (l0 : (St.live t) = true → (decide (0 ≤ k) && decide (k < (↑q : Int))) = true ∧ (Nat.ble (0 + Int.toNat k * 31 + 31) (List.length (scell S))) = true ∧ (decide (0 ≤ k) && decide (k < (↑q : Int))) = true ∧ (Nat.ble (0 + Int.toNat k * 31 + List.length (St.cs j1)) (List.length (scell S)) && true) = true ∧ (Eff.mk (AV.ag (List.take 31 (List.drop (0 + Int.toNat k * 31) (scell S)))) [] none = Eff.mk (AV.ag (St.cs (stAt S (Int.toNat k)))) [] none) ∧ (CallOK Try.prog (CallRec.mk 13 [AV.ag (St.cs (stAt S (Int.toNat k))), AV.ag (St.cs t)] [] (Eff.mk (AV.tu [AT.ag (St.cs j1), AT.c (AC.i e)]) [] none))) ∧ (Eff.mk (AV.raw undef) [(0, splice (scell S) (0 + Int.toNat k * 31) (St.cs j1))] none = Eff.mk (AV.raw undef) [(0, scell (List.set S (Int.toNat k) j1))] none) ∧ EKeys n [0] (none) ⟨AV.tu [], [(0, scell (List.set S (Int.toNat k) j1))], none⟩ ∧ ((⟨AV.tu [], [(0, scell (List.set S (Int.toNat k) j1))], none⟩ : Eff) = E))
    (l1 : (St.live t) = false → EKeys n [0] (none) ⟨AV.tu [], [(0, scell S)], none⟩ ∧ ((⟨AV.tu [], [(0, scell S)], none⟩ : Eff) = E)) :
    ART Try.prog 48 (cx w β n [0]) Try.f48.ntmps ([Item.code (bodyOf Try.f48)]) (Kn.start [AV.c (AC.sl 0 0 q c), AV.c (AC.i k), AV.ag (St.cs t)] [(0, Ent.mk true (scell S) 0)] 1) (REff w β E) :=
  (tf (St.live t)).elim (fun h0 => (match l0 h0 with | ⟨o0, o1, o2, o3, c0, c1, c2, hk, e⟩ => art_eq (addS_w0 (and_yes h0 (and_yes o0 (and_yes o1 (and_yes o2 (and_yes o3 rfl))))) c0 c1 c2 hk) e)) (fun h0 => (match l1 h0 with | ⟨hk, e⟩ => art_eq (addS_w1 (and_yes (not_yes h0) rfl) hk) e))
theorem vTop_w0 {L : List Ins} {c : Nat} {e : Int} {w : World} {β : Bs} {n : Nat} (h : (e != 0 && true) = true) (c0 : CallOK Try.prog (CallRec.mk 28 [AV.c (AC.sl 0 0 (List.length L) c)] [(0, Ent.mk false (pcell L) 0)] (Eff.mk (AV.c (AC.i e)) [] none))) :
    ART Try.prog 23 (cx w β n []) Try.f23.ntmps ([Item.code (bodyOf Try.f23)]) (Kn.start [AV.c (AC.sl 0 0 (List.length L) c)] [(0, Ent.mk false (pcell L) 0)] 1) (REff w β ⟨AV.tu [AT.ag [AC.i 0, AC.i 0, nilSl], AT.c (AC.i e)], [], none⟩) :=
  run_eff [] (none) 2000 [Eff.mk (AV.c (AC.i e)) [] none] [true] ([true]) [(4, 2), (5, 3)] Try.func23 (ekeys0 rfl n) (by kernel_rfl) h (cr_cons c0 cr_nil)
theorem vTop_w1 {L : List Ins} {c : Nat} {b : St} {e : Int} {C : Cx} {R : Ending → World → Prop} (h : (!e != 0 && (decide ((↑(List.length L) : Int) ≤ (↑(List.length L) : Int)) && decide ((↑(List.length L) : Int) ≤ 1099511627776) && true && (decide (0 < (↑(List.length L) : Int)) && (Nat.ble (0 + List.length (St.cs b)) (List.length (scell (List.replicate (List.length L) St.z))) && true && true)))) = true) (c0 : CallOK Try.prog (CallRec.mk 28 [AV.c (AC.sl 0 0 (List.length L) c)] [(0, Ent.mk false (pcell L) 0)] (Eff.mk (AV.c (AC.i e)) [] none))) (c1 : Eff.mk (AV.c (AC.sl 10 0 (Int.toNat (↑(List.length L) : Int)) (Int.toNat (↑(List.length L) : Int)))) [] (some (1 + 2 + 3 + 2 + 2, Ent.mk true (rows (Int.toNat (↑(List.length L) : Int)) (St.cs St.z)) 0)) = Eff.mk (AV.c (AC.sl 10 0 (List.length L) (List.length L))) [] (some (10, Ent.mk true (scell (List.replicate (List.length L) St.z)) 0))) (c2 : CallOK Try.prog (CallRec.mk 18 [] [] (Eff.mk (AV.ag (St.cs b)) [] none))) (c3 : Eff.mk (AV.raw undef) [(10, splice (scell (List.replicate (List.length L) St.z)) 0 (St.cs b))] none = Eff.mk (AV.raw undef) [(10, scell (List.set (List.replicate (List.length L) St.z) 0 b))] none) (lo : Kn.Low ⟨[(2, AV.c (AC.w 1)), (5, AV.c (AC.sl 10 0 (List.length L) (List.length L))), (24, AV.c (AC.sl 0 0 (List.length L) c)), (25, AV.c (AC.i (↑(List.length L) : Int))), (26, AV.c (AC.i 0))], [(0, Ent.mk false (pcell L) 0), (1, Ent.mk true [AC.i 0, AC.i 0, nilSl] 0), (10, Ent.mk true (scell (List.set (List.replicate (List.length L) St.z) 0 b)) 0)], 11⟩) (hF : ∀ k, C.F k → k < 11) (z : ART Try.prog 23 C Try.f23.ntmps (cutAt Try.f23 0) ⟨[(2, AV.c (AC.w 1)), (5, AV.c (AC.sl 10 0 (List.length L) (List.length L))), (24, AV.c (AC.sl 0 0 (List.length L) c)), (25, AV.c (AC.i (↑(List.length L) : Int))), (26, AV.c (AC.i 0))], [(0, Ent.mk false (pcell L) 0), (1, Ent.mk true [AC.i 0, AC.i 0, nilSl] 0), (10, Ent.mk true (scell (List.set (List.replicate (List.length L) St.z) 0 b)) 0)], 11⟩ R) :
    ART Try.prog 23 C Try.f23.ntmps ([Item.code (bodyOf Try.f23)]) (Kn.start [AV.c (AC.sl 0 0 (List.length L) c)] [(0, Ent.mk false (pcell L) 0)] 1) R :=
  run_cut ⟨[(2, AV.c (AC.w 1)), (5, AV.c (AC.sl 10 0 (List.length L) (List.length L))), (24, AV.c (AC.sl 0 0 (List.length L) c)), (25, AV.c (AC.i (↑(List.length L) : Int))), (26, AV.c (AC.i 0))], [(0, Ent.mk false (pcell L) 0), (1, Ent.mk true [AC.i 0, AC.i 0, nilSl] 0), (10, Ent.mk true (scell (List.set (List.replicate (List.length L) St.z) 0 b)) 0)], 11⟩ 2000 [Eff.mk (AV.c (AC.i e)) [] none, Eff.mk (AV.c (AC.sl 10 0 (List.length L) (List.length L))) [] (some (10, Ent.mk true (scell (List.replicate (List.length L) St.z)) 0)), Eff.mk (AV.ag (St.cs b)) [] none, Eff.mk (AV.raw undef) [(10, scell (List.set (List.replicate (List.length L) St.z) 0 b))] none] [false] ([true]) [(4, 2), (5, 3)] Try.func23 (by kernel_rfl) h (cr_cons c0 (cr_same c1 (cr_cons c2 (cr_same c3 cr_nil)))) lo hF z
theorem vNil_w0 {e : Int} (h : (e != 0 && true) = true) (c0 : CallOK Try.prog (CallRec.mk 28 [AV.c nilSl] [] (Eff.mk (AV.c (AC.i e)) [] none))) :
    CallOK Try.prog ⟨23, [AV.c nilSl], [], ⟨AV.tu [AT.ag [AC.i 0, AC.i 0, nilSl], AT.c (AC.i e)], [], none⟩⟩ :=
  val_run 2000 [Eff.mk (AV.c (AC.i e)) [] none] [true] ([true]) [] Try.func23 rfl rfl rfl rfl (by kernel_rfl) h (cr_cons c0 cr_nil)
theorem vTrap_w0 {L : List Ins} {c : Nat} {j : Nat} {S : List St} {a : St} {b : St} {tr : Int} {g : Int} {w : World} {β : Bs} {n : Nat} (h : (decide ((↑j : Int) < (↑(List.length L) : Int)) && (decide ((↑j : Int) < (↑(List.length L) : Int)) && (Nat.ble (0 + Int.toNat (↑j : Int) * 5 + 5) (List.length (pcell L)) && (decide ((↑j : Int) < (↑(List.length L) : Int)) && (Nat.ble (0 + Int.toNat (↑j : Int) * 31 + 31) (List.length (scell S)) && (tr != 0 && (decide ((↑(j + 1) : Int) ≤ (↑(List.length L) : Int)) && decide ((↑(List.length L) : Int) ≤ (↑(List.length L) : Int)) && true))))))) = true) (c0 : Eff.mk (AV.ag (List.take 5 (List.drop (0 + Int.toNat (↑j : Int) * 5) (pcell L)))) [] none = Eff.mk (AV.ag (Ins.cs (elt L j))) [] none) (c1 : Eff.mk (AV.ag (List.take 31 (List.drop (0 + Int.toNat (↑j : Int) * 31) (scell S)))) [] none = Eff.mk (AV.ag (St.cs (stAt S j))) [] none) (c2 : CallOK Try.prog (CallRec.mk 22 [AV.ag (Ins.cs (elt L j)), AV.ag (St.cs (stAt S j))] [] (Eff.mk (AV.tu [AT.ag (St.cs a), AT.ag (St.cs b), AT.c (AC.i tr), AT.c (AC.i g)]) [] none))) (c3 : Eff.mk (AV.c (AC.i (IntKind.wrap IntKind.i64 ((↑j : Int) + 1)))) [] none = Eff.mk (AV.c (AC.i (↑(j + 1) : Int))) [] none) (c4 : Eff.mk (AV.c (AC.sl 10 0 (Int.toNat ((↑(j + 1) : Int))) (Int.toNat ((↑(List.length L) : Int))))) [] none = Eff.mk (AV.c (AC.sl 10 0 (j + 1) (List.length L))) [] none) (c5 : CallOK Try.prog (CallRec.mk 47 [AV.c (AC.sl 10 0 (j + 1) (List.length L))] [(10, Ent.mk true (scell S) 0)] (Eff.mk (AV.c (AC.sx 43 (j + 1))) [] (some (43, Ent.mk true (scell (List.take (j + 1) S)) 31))))) (hk : EKeys n [] (some 43) ⟨AV.tu [AT.ag [AC.i tr, AC.i (↑j : Int), AC.sx 43 (j + 1)], AT.c (AC.i 0)], [], some (43, Ent.mk true (scell (List.take (j + 1) S)) 31)⟩) :
    ART Try.prog 23 (cx w β n []) Try.f23.ntmps (cutAt Try.f23 0) (Kn.mk [(2, AV.c (AC.w 1)), (5, AV.c (AC.sl 10 0 (List.length L) (List.length L))), (24, AV.c (AC.sl 0 0 (List.length L) c)), (25, AV.c (AC.i (↑(List.length L) : Int))), (26, AV.c (AC.i (↑j : Int)))] [(0, Ent.mk false (pcell L) 0), (1, Ent.mk true [AC.i 0, AC.i 0, nilSl] 0), (10, Ent.mk true (scell S) 0)] 11) (REff w β ⟨AV.tu [AT.ag [AC.i tr, AC.i (↑j : Int), AC.sx 43 (j + 1)], AT.c (AC.i 0)], [], some (43, Ent.mk true (scell (List.take (j + 1) S)) 31)⟩) :=
  run_eff [] (some 43) 2000 [Eff.mk (AV.ag (Ins.cs (elt L j))) [] none, Eff.mk (AV.ag (St.cs (stAt S j))) [] none, Eff.mk (AV.tu [AT.ag (St.cs a), AT.ag (St.cs b), AT.c (AC.i tr), AT.c (AC.i g)]) [] none, Eff.mk (AV.c (AC.i (↑(j + 1) : Int))) [] none, Eff.mk (AV.c (AC.sl 10 0 (j + 1) (List.length L))) [] none, Eff.mk (AV.c (AC.sx 43 (j + 1))) [] (some (43, Ent.mk true (scell (List.take (j + 1) S)) 31))] [true, true] ([true]) [(8, 2), (9, 4), (11, 4), (11, 5)] Try.func23 hk (by kernel_rfl) h (cr_same c0 (cr_same c1 (cr_cons c2 (cr_same c3 (cr_same c4 (cr_cons c5 cr_nil))))))
theorem vRound_w0 {L : List Ins} {c : Nat} {j : Nat} {S : List St} {S1 : List St} {S2 : List St} {a : St} {b : St} {tr : Int} {g : Int} {C : Cx} {R : Ending → World → Prop} (h : (decide ((↑j : Int) < (↑(List.length L) : Int)) && (decide ((↑j : Int) < (↑(List.length L) : Int)) && (Nat.ble (0 + Int.toNat (↑j : Int) * 5 + 5) (List.length (pcell L)) && (decide ((↑j : Int) < (↑(List.length L) : Int)) && (Nat.ble (0 + Int.toNat (↑j : Int) * 31 + 31) (List.length (scell S)) && (!tr != 0 && true)))))) = true) (c0 : Eff.mk (AV.ag (List.take 5 (List.drop (0 + Int.toNat (↑j : Int) * 5) (pcell L)))) [] none = Eff.mk (AV.ag (Ins.cs (elt L j))) [] none) (c1 : Eff.mk (AV.ag (List.take 31 (List.drop (0 + Int.toNat (↑j : Int) * 31) (scell S)))) [] none = Eff.mk (AV.ag (St.cs (stAt S j))) [] none) (c2 : CallOK Try.prog (CallRec.mk 22 [AV.ag (Ins.cs (elt L j)), AV.ag (St.cs (stAt S j))] [] (Eff.mk (AV.tu [AT.ag (St.cs a), AT.ag (St.cs b), AT.c (AC.i tr), AT.c (AC.i g)]) [] none))) (c3 : Eff.mk (AV.c (AC.i (IntKind.wrap IntKind.i64 ((↑j : Int) + 1)))) [] none = Eff.mk (AV.c (AC.i (↑(j + 1) : Int))) [] none) (c4 : CallOK Try.prog (CallRec.mk 48 [AV.c (AC.sl 10 0 (List.length L) (List.length L)), AV.c (AC.i (↑(j + 1) : Int)), AV.ag (St.cs a)] [(10, Ent.mk true (scell S) 0)] (Eff.mk (AV.tu []) [(10, scell S1)] none))) (c5 : Eff.mk (AV.c (AC.i (IntKind.wrap IntKind.i64 ((↑j : Int) + 1)))) [] none = Eff.mk (AV.c (AC.i (↑(j + 1) : Int))) [] none) (c6 : Eff.mk (AV.c (AC.i (IntKind.wrap IntKind.i64 ((↑(j + 1) : Int) + Ins.of (elt L j))))) [] none = Eff.mk (AV.c (AC.i ((↑(j + 1) : Int) + Ins.of (elt L j)))) [] none) (c7 : CallOK Try.prog (CallRec.mk 48 [AV.c (AC.sl 10 0 (List.length L) (List.length L)), AV.c (AC.i ((↑(j + 1) : Int) + Ins.of (elt L j))), AV.ag (St.cs b)] [(10, Ent.mk true (scell S1) 0)] (Eff.mk (AV.tu []) [(10, scell S2)] none))) (c8 : Eff.mk (AV.c (AC.i (IntKind.wrap IntKind.i64 ((↑j : Int) + 1)))) [] none = Eff.mk (AV.c (AC.i (↑(j + 1) : Int))) [] none) (lo : Kn.Low ⟨[(2, AV.c (AC.w 1)), (5, AV.c (AC.sl 10 0 (List.length L) (List.length L))), (24, AV.c (AC.sl 0 0 (List.length L) c)), (25, AV.c (AC.i (↑(List.length L) : Int))), (26, AV.c (AC.i (↑(j + 1) : Int)))], [(0, Ent.mk false (pcell L) 0), (1, Ent.mk true [AC.i 0, AC.i 0, nilSl] 0), (10, Ent.mk true (scell S2) 0)], 11⟩) (hF : ∀ k, C.F k → k < 11) (z : ART Try.prog 23 C Try.f23.ntmps (cutAt Try.f23 0) ⟨[(2, AV.c (AC.w 1)), (5, AV.c (AC.sl 10 0 (List.length L) (List.length L))), (24, AV.c (AC.sl 0 0 (List.length L) c)), (25, AV.c (AC.i (↑(List.length L) : Int))), (26, AV.c (AC.i (↑(j + 1) : Int)))], [(0, Ent.mk false (pcell L) 0), (1, Ent.mk true [AC.i 0, AC.i 0, nilSl] 0), (10, Ent.mk true (scell S2) 0)], 11⟩ R) :
    ART Try.prog 23 C Try.f23.ntmps (cutAt Try.f23 0) (Kn.mk [(2, AV.c (AC.w 1)), (5, AV.c (AC.sl 10 0 (List.length L) (List.length L))), (24, AV.c (AC.sl 0 0 (List.length L) c)), (25, AV.c (AC.i (↑(List.length L) : Int))), (26, AV.c (AC.i (↑j : Int)))] [(0, Ent.mk false (pcell L) 0), (1, Ent.mk true [AC.i 0, AC.i 0, nilSl] 0), (10, Ent.mk true (scell S) 0)] 11) R :=
  run_cut ⟨[(2, AV.c (AC.w 1)), (5, AV.c (AC.sl 10 0 (List.length L) (List.length L))), (24, AV.c (AC.sl 0 0 (List.length L) c)), (25, AV.c (AC.i (↑(List.length L) : Int))), (26, AV.c (AC.i (↑(j + 1) : Int)))], [(0, Ent.mk false (pcell L) 0), (1, Ent.mk true [AC.i 0, AC.i 0, nilSl] 0), (10, Ent.mk true (scell S2) 0)], 11⟩ 2000 [Eff.mk (AV.ag (Ins.cs (elt L j))) [] none, Eff.mk (AV.ag (St.cs (stAt S j))) [] none, Eff.mk (AV.tu [AT.ag (St.cs a), AT.ag (St.cs b), AT.c (AC.i tr), AT.c (AC.i g)]) [] none, Eff.mk (AV.c (AC.i (↑(j + 1) : Int))) [] none, Eff.mk (AV.tu []) [(10, scell S1)] none, Eff.mk (AV.c (AC.i (↑(j + 1) : Int))) [] none, Eff.mk (AV.c (AC.i ((↑(j + 1) : Int) + Ins.of (elt L j)))) [] none, Eff.mk (AV.tu []) [(10, scell S2)] none, Eff.mk (AV.c (AC.i (↑(j + 1) : Int))) [] none] [true, false] ([true]) [(8, 2), (9, 4), (12, 2), (13, 2), (13, 5), (14, 0)] Try.func23 (by kernel_rfl) h (cr_same c0 (cr_same c1 (cr_cons c2 (cr_same c3 (cr_cons c4 (cr_same c5 (cr_same c6 (cr_cons c7 (cr_same c8 cr_nil))))))))) lo hF z
theorem vEnd_w0 {L : List Ins} {c : Nat} {j : Nat} {S : List St} {w : World} {β : Bs} {n : Nat} (h : (!decide ((↑j : Int) < (↑(List.length L) : Int)) && true) = true) (hk : EKeys n [] (some 10) ⟨AV.tu [AT.ag [AC.i 0, AC.i 0, AC.sl 10 0 (List.length L) (List.length L)], AT.c (AC.i 0)], [], some (10, Ent.mk true (scell S) 0)⟩) :
    ART Try.prog 23 (cx w β n []) Try.f23.ntmps (cutAt Try.f23 0) (Kn.mk [(2, AV.c (AC.w 1)), (5, AV.c (AC.sl 10 0 (List.length L) (List.length L))), (24, AV.c (AC.sl 0 0 (List.length L) c)), (25, AV.c (AC.i (↑(List.length L) : Int))), (26, AV.c (AC.i (↑j : Int)))] [(0, Ent.mk false (pcell L) 0), (1, Ent.mk true [AC.i 0, AC.i 0, nilSl] 0), (10, Ent.mk true (scell S) 0)] 11) (REff w β ⟨AV.tu [AT.ag [AC.i 0, AC.i 0, AC.sl 10 0 (List.length L) (List.length L)], AT.c (AC.i 0)], [], some (10, Ent.mk true (scell S) 0)⟩) :=
  run_eff [] (some 10) 2000 [] [false] ([true]) [] Try.func23 hk (by kernel_rfl) h cr_nil
end Go.Proofs.Ytkigmocchaikgab

/- Ways of bodies, written by a program (ways.py): what each asks for, and hands back. -/
namespace Go.Proofs.Ytkigmocchaikgab
open Go.RowKit

theorem cloneS_w0 {S : List St} {q : Nat} {c : Nat} {w : World} {β : Bs} {n : Nat} (h : (Nat.ble (0 + q * 31) (List.length (scell S)) && (decide (0 + q ≤ 137438953472) && decide (0 < 0 + q)) && true) = true) (c0 : Eff.mk (AV.c (AC.sx 6 (0 + q))) [] (some (1 + 1 + 2 + 2, Ent.mk true (List.take 0 (List.drop 0 (rows 0 (St.cs St.z))) ++ List.take (q * 31) (List.drop 0 (scell S))) 31)) = Eff.mk (AV.c (AC.sx 6 q)) [] (some (6, Ent.mk true (scell (List.take q S)) 31))) (hk : EKeys n [] (some 6) ⟨AV.c (AC.sx 6 q), [], some (6, Ent.mk true (scell (List.take q S)) 31)⟩) :
    ART Try.prog 47 (cx w β n []) Try.f47.ntmps ([Item.code (bodyOf Try.f47)]) (Kn.start [AV.c (AC.sl 0 0 q c)] [(0, Ent.mk false (scell S) 0)] 1) (REff w β ⟨AV.c (AC.sx 6 q), [], some (6, Ent.mk true (scell (List.take q S)) 31)⟩) :=
  run_eff [] (some 6) 2000 [Eff.mk (AV.c (AC.sx 6 q)) [] (some (6, Ent.mk true (scell (List.take q S)) 31))] [false] ([]) [(3, 2)] Try.func47 hk (by kernel_rfl) h (cr_same c0 cr_nil)
end Go.Proofs.Ytkigmocchaikgab

/- Verifying: each step's state has whatever machine comes to it: plain facts. -/
namespace Go.Proofs.Ytkigmocchaikgab

theorem stAt_lt {S : List St} {k : Nat} (h : S.length ≤ k) : stAt S k = St.z := by
  unfold stAt
  rw [List.getD_eq_getElem?_getD, List.getElem?_eq_none h]; rfl
theorem stAt_set {S : List St} {k j : Nat} {t : St} : stAt (S.set k t) j = if k = j ∧ k < S.length then t else stAt S j := by
  unfold stAt
  rw [List.getD_eq_getElem?_getD, List.getD_eq_getElem?_getD, List.getElem?_set]
  by_cases c : k = j
  · subst c
    by_cases c2 : k < S.length
    · simp [c2]
    · simp [c2]
  · simp [c]
theorem stAt_take {S : List St} {n j : Nat} (h : j < n) : stAt (S.take n) j = stAt S j := by
  unfold stAt
  rw [List.getD_eq_getElem?_getD, List.getD_eq_getElem?_getD, List.getElem?_take, if_pos h]
theorem addS_len (S : List St) (k : Nat) (t : St) : (addS S k t).length = S.length := by
  unfold addS; split
  · exact List.length_set
  · rfl
theorem stAt_addS {S : List St} {k j : Nat} {t : St} : stAt (addS S k t) j = if t.live = true ∧ k = j ∧ k < S.length then (stAt S j).join t else stAt S j := by
  unfold addS
  by_cases h : t.live = true
  · rw [if_pos h, stAt_set]
    by_cases c : k = j
    · subst c; simp [h]
    · simp [c]
  · rw [if_neg h, if_neg (by simp [h])]
theorem addS_ne {S : List St} {k j : Nat} {t : St} (h : k ≠ j) : stAt (addS S k t) j = stAt S j := by rw [stAt_addS, if_neg (by simp [h])]
theorem addS_Ok {S : List St} {k : Nat} {t : St} (h : ∀ j, (stAt S j).Ok) (ht : t.Ok) : ∀ j, (stAt (addS S k t) j).Ok := by
  intro j
  rw [stAt_addS]
  split
  · exact St.join_Ok (h j) ht
  · exact h j
theorem addS_keep {S : List St} {k j : Nat} {t : St} {m : Mach} (h : ∀ j, (stAt S j).Ok) (ht : t.Ok) (hm : (stAt S j).Has m) : (stAt (addS S k t) j).Has m := by
  rw [stAt_addS]
  split
  · exact St.join_Has (h j) ht (Or.inl hm)
  · exact hm
theorem addS_new {S : List St} {k : Nat} {t : St} {m : Mach} (h : ∀ j, (stAt S j).Ok) (ht : t.Ok) (hk : k < S.length) (hm : t.Has m) : (stAt (addS S k t) k).Has m := by
  rw [stAt_addS, if_pos ⟨hm.live, rfl, hk⟩]
  exact St.join_Has (h k) ht (Or.inr hm)
theorem firstS_len (n : Nat) : (firstS n).length = n := by simp [firstS]
theorem firstS_at {n j : Nat} (hn : 0 < n) : stAt (firstS n) j = if j = 0 then beginS else St.z := by
  unfold firstS
  rw [stAt_set]
  by_cases c : j = 0
  · subst c; simp [hn]
  · rw [if_neg (by omega), if_neg c]
    unfold stAt
    rw [List.getD_eq_getElem?_getD, List.getElem?_replicate]
    split <;> rfl
theorem firstS_Ok {n : Nat} (hn : 0 < n) : ∀ j, (stAt (firstS n) j).Ok := by
  intro j
  rw [firstS_at hn]
  split
  · exact beginS_Ok
  · exact St.z_Ok
/- where a step's states go to -/
theorem right_lt {L : List Ins} {k : Nat} (hP : RightP L) (hk : k < L.length) : Right (elt L k) ((L.length - 1 - k : Nat) : Int) := hP.step k hk
theorem last_op {L : List Ins} (hP : RightP L) : (elt L (L.length - 1)).op = 15 := hP.last
theorem go1_lt {L : List Ins} {k : Nat} {t : St} (hP : RightP L) (hk : k < L.length) (h : (stepS (elt L k) t).1.live = true) : k + 1 < L.length := by
  rcases Nat.lt_or_ge (k + 1) L.length with h1 | h1
  · exact h1
  · have e : k = L.length - 1 := by omega
    have ho := last_op hP
    rw [← e] at ho
    unfold stepS goS at h
    rw [ho] at h
    split at h
    · split at h
      · cases h
      · cases h
    · cases h
theorem go2_lt {L : List Ins} {k : Nat} {t : St} (hP : RightP L) (hk : k < L.length) (h : (stepS (elt L k) t).2.1.live = true) : 0 ≤ (elt L k).of ∧ k + 1 + (elt L k).of.toNat < L.length ∧ ((elt L k).op = 12 ∨ (elt L k).op = 13 ∨ (elt L k).op = 14) := by
  have hr := right_lt hP hk
  unfold stepS at h
  split at h
  · split at h
    · unfold goS at h
      by_cases c1 : (elt L k).op = 10
      · rw [if_pos c1] at h; cases h
      rw [if_neg c1] at h
      by_cases c2 : (elt L k).op = 11
      · rw [if_pos c2] at h; cases h
      rw [if_neg c2] at h
      by_cases c3 : (elt L k).op = 12
      · have := fits_jump hr c3
        exact ⟨this.1, by omega, Or.inl c3⟩
      rw [if_neg c3] at h
      by_cases c4 : (elt L k).op = 13
      · have := fits_branch hr (Or.inl c4)
        exact ⟨this.2.2.1, by omega, Or.inr (Or.inl c4)⟩
      rw [if_neg c4] at h
      by_cases c5 : (elt L k).op = 14
      · have := fits_branch hr (Or.inr c5)
        exact ⟨this.2.2.1, by omega, Or.inr (Or.inr c5)⟩
      rw [if_neg c5] at h
      by_cases c6 : (elt L k).op = 15
      · rw [if_pos c6] at h; cases h
      rw [if_neg c6] at h
      by_cases c7 : (elt L k).op = 1
      · rw [if_pos c7] at h; cases h
      rw [if_neg c7] at h; cases h
    · cases h
  · cases h
/- what comes of verifying from the step k on -/
structure VOut (L : List Ins) (k : Nat) (S : List St) (R : Rep) : Prop where
  ok : ∀ j, (stAt R.sts j).Ok
  same : ∀ j, j ≤ k → k < L.length → stAt R.sts j = stAt S j
  keep : ∀ j m, (stAt S j).Has m → (R.trap = 0 ∨ (j : Int) ≤ R.pos) → (stAt R.sts j).Has m
  step : ∀ j, k ≤ j → j < L.length → (R.trap = 0 ∨ (j : Int) < R.pos) → (stepS (elt L j) (stAt R.sts j)).2.2 = 0 ∧
    (∀ m, (stepS (elt L j) (stAt R.sts j)).1.Has m → (R.trap = 0 ∨ ((j + 1 : Nat) : Int) ≤ R.pos) → (stAt R.sts (j + 1)).Has m) ∧
    (∀ m, (stepS (elt L j) (stAt R.sts j)).2.1.Has m → (R.trap = 0 ∨ ((j + 1 + (elt L j).of.toNat : Nat) : Int) ≤ R.pos) → (stAt R.sts (j + 1 + (elt L j).of.toNat)).Has m)
  none : R.trap = 0 → R.pos = 0 ∧ R.sts.length = L.length
  some : R.trap ≠ 0 → ∃ p : Nat, R.pos = p ∧ k ≤ p ∧ p < L.length ∧ R.sts.length = p + 1 ∧ (stepS (elt L p) (stAt R.sts p)).2.2 = R.trap
theorem verL_out {L : List Ins} (hP : RightP L) : ∀ (n k : Nat) (S : List St), k + n = L.length → S.length = L.length → (∀ j, (stAt S j).Ok) → VOut L k S (verL L n k S)
  | 0, k, S, hk, hS, hok => ⟨hok, fun _ _ _ => rfl, fun _ _ h _ => h, fun j h1 h2 => by omega, fun _ => ⟨rfl, hS⟩, fun h => absurd rfl h⟩
  | n + 1, k, S, hk, hS, hok => by
    have hlt : k < L.length := by omega
    have hr := right_lt hP hlt
    obtain ⟨q1, q2⟩ := stepS_Ok hr (hok k)
    unfold verL
    by_cases h0 : (stepS (elt L k) (stAt S k)).2.2 = 0
    · rw [if_pos h0]
      have hok1 := addS_Ok (k := k + 1) hok q1
      have hok2 := addS_Ok (k := k + 1 + (elt L k).of.toNat) hok1 q2
      have ih := verL_out hP n (k + 1) (addS (addS S (k + 1) (stepS (elt L k) (stAt S k)).1) (k + 1 + (elt L k).of.toNat) (stepS (elt L k) (stAt S k)).2.1) (by omega) (by rw [addS_len, addS_len]; exact hS) hok2
      have hsame : ∀ j, j ≤ k → stAt (addS (addS S (k + 1) (stepS (elt L k) (stAt S k)).1) (k + 1 + (elt L k).of.toNat) (stepS (elt L k) (stAt S k)).2.1) j = stAt S j := by
        intro j hj
        rw [addS_ne (by omega), addS_ne (by omega)]
      have hsk : ∀ j, j ≤ k → stAt (verL L n (k + 1) (addS (addS S (k + 1) (stepS (elt L k) (stAt S k)).1) (k + 1 + (elt L k).of.toNat) (stepS (elt L k) (stAt S k)).2.1)).sts j = stAt S j := by
        intro j hj
        by_cases c : k + 1 < L.length
        · rw [ih.same j (by omega) c, hsame j hj]
        · have : n = 0 := by omega
          subst this
          exact hsame j hj
      refine ⟨ih.ok, fun j hj _ => hsk j hj, fun j m hm hb => ih.keep j m (addS_keep hok1 q2 (addS_keep hok q1 hm)) hb, fun j h1 h2 hb => ?_, ih.none, fun h => ?_⟩
      · by_cases c : j = k
        · subst c
          rw [hsk j (Nat.le_refl _)]
          refine ⟨h0, fun m hm hb => ?_, fun m hm hb => ?_⟩
          · have h3 := go1_lt hP h2 hm.live
            exact ih.keep _ m (addS_keep hok1 q2 (addS_new hok q1 (by omega) hm)) hb
          · have h3 := go2_lt hP h2 hm.live
            exact ih.keep _ m (addS_new hok1 q2 (by rw [addS_len]; omega) hm) hb
        · exact ih.step j (by omega) h2 hb
      · obtain ⟨p, h1, h2, h3⟩ := ih.some h
        exact ⟨p, h1, by omega, h3⟩
    · rw [if_neg h0]
      refine ⟨fun j => ?_, fun j hj _ => stAt_take (by omega), fun j m hm hb => ?_, fun j h1 _ hb => ?_, fun h => absurd h h0, fun _ => ⟨k, rfl, Nat.le_refl _, hlt, ?_, ?_⟩⟩
      · by_cases c : j < k + 1
        · show (stAt (S.take (k + 1)) j).Ok
          rw [stAt_take c]; exact hok j
        · show (stAt (S.take (k + 1)) j).Ok
          rw [stAt_lt (by rw [List.length_take]; omega)]; exact St.z_Ok
      · have : (j : Int) ≤ (k : Int) := hb.resolve_left h0
        show (stAt (S.take (k + 1)) j).Has m
        rw [stAt_take (by omega)]; exact hm
      · have : (j : Int) < (k : Int) := hb.resolve_left h0
        omega
      · show (S.take (k + 1)).length = k + 1
        rw [List.length_take]; omega
      · show (stepS (elt L k) (stAt (S.take (k + 1)) k)).2.2 = _
        rw [stAt_take (by omega)]
theorem verify_out {L : List Ins} (hP : RightP L) : VOut L 0 (firstS L.length) (verifyS L) :=
  verL_out hP L.length 0 _ (by omega) (firstS_len _) (firstS_Ok hP.pos)
theorem verify_first {L : List Ins} (hP : RightP L) : stAt (verifyS L).sts 0 = beginS := by
  rw [(verify_out hP).same 0 (Nat.le_refl _) hP.pos, firstS_at hP.pos, if_pos rfl]

/- machines that come to a step -/
theorem begin_Has {s : ByteArray} {x : BitVec 64} (hs : s.size = 64) : beginS.Has (startM s x) := by
  have hm : machErr (startM s x) = 0 := by
    unfold machErr
    have : headB (startM s x) = true := by simp [headB, startM, Mach.wth, hs]
    rw [this]
    rfl
  refine ⟨beginS_Ok, rfl, hm, rfl, fun j hj h => ?_⟩
  unfold beginS at h ⊢
  rw [St.wth_s (by decide) hj] at h
  rw [St.wth_r (by decide) hj]
  by_cases c : 1 = j
  · subst c
    rw [if_pos rfl]; exact ⟨rfl, V4.any_has _⟩
  · rw [if_neg c, show St.e.s = no6 from rfl, no6_get j hj] at h; cases h
theorem stepS_live {i : Ins} {t : St} (hl : t.live = true) (h : (stepS i t).2.2 = 0) : trapS i t = 0 ∧ (stepS i t).1 = (goS i t).1 ∧ (stepS i t).2.1 = (goS i t).2 := by
  unfold stepS at h ⊢
  rw [if_pos hl] at h ⊢
  by_cases c : trapS i t = 0
  · rw [if_pos c]; exact ⟨c, rfl, rfl⟩
  · rw [if_neg c] at h; exact absurd h c
/- a machine that is had where it is, ahead of the first trap, goes on so -/
theorem verify_step {L : List Ins} (hP : RightP L) {m : Mach} (h0 : 0 ≤ m.t) (h1 : m.t < L.length) (hb : (verifyS L).trap = 0 ∨ m.t < (verifyS L).pos) (hm : (stAt (verifyS L).sts m.t.toNat).Has m) :
    (stepM (insAt L m.t) m).fin = 3 ∨ ((stepM (insAt L m.t) m).fin = 0 ∧ (machErr (stepM (insAt L m.t) m) = 0 → ((verifyS L).trap = 0 ∨ (stepM (insAt L m.t) m).t ≤ (verifyS L).pos) → (stAt (verifyS L).sts (stepM (insAt L m.t) m).t.toNat).Has (stepM (insAt L m.t) m))) := by
  have hlt : m.t.toNat < L.length := by omega
  obtain ⟨g0, g1, g2⟩ := (verify_out hP).step m.t.toNat (Nat.zero_le _) hlt (by omega)
  have e : insAt L m.t = elt L m.t.toNat := rfl
  have hr := right_lt hP hlt
  rw [← e] at g0 g1 g2 hr
  obtain ⟨t0, e1, e2⟩ := stepS_live hm.live g0
  rw [e1] at g1
  rw [e2] at g2
  rcases stepS_sound hr hm t0 with ⟨h3, _⟩ | ⟨h3, h4⟩
  · exact Or.inl h3
  · refine Or.inr ⟨h3, fun hme hb' => ?_⟩
    rcases h4 hme with ⟨h5, h6⟩ | ⟨h5, h6, h7⟩
    · have := g1 _ h6 (by omega)
      rwa [show m.t.toNat + 1 = (stepM (insAt L m.t) m).t.toNat by omega] at this
    · have h8 := go2_lt hP hlt (t := stAt (verifyS L).sts m.t.toNat) (by rw [← e, e2]; exact h7.live)
      rw [← e] at h8
      have := g2 _ h7 (by omega)
      rwa [show m.t.toNat + 1 + (insAt L m.t).of.toNat = (stepM (insAt L m.t) m).t.toNat by omega] at this
end Go.Proofs.Ytkigmocchaikgab

/- Rows of things that have as many cells each. -/
namespace Go.Proofs.Ytkigmocchaikgab
open Go.RowKit

section
variable {α : Type} {f : α → List AC} {m : Nat}
theorem flat_len (hf : ∀ x, (f x).length = m) : ∀ l : List α, (l.flatMap f).length = l.length * m
  | [] => by simp
  | x :: l => by rw [List.flatMap_cons, List.length_append, hf, flat_len hf l, List.length_cons, Nat.add_mul, Nat.one_mul, Nat.add_comm]
theorem flat_drop (hf : ∀ x, (f x).length = m) : ∀ (l : List α) (k : Nat), (l.flatMap f).drop (k * m) = (l.drop k).flatMap f
  | l, 0 => by simp
  | [], k + 1 => by simp
  | x :: l, k + 1 => by
    rw [List.flatMap_cons, show (k + 1) * m = (f x).length + k * m by rw [hf, Nat.add_mul, Nat.one_mul, Nat.add_comm], ← List.drop_drop, List.drop_left, flat_drop hf l k]
    rfl
theorem flat_take (hf : ∀ x, (f x).length = m) : ∀ (l : List α) (k : Nat), (l.flatMap f).take (k * m) = (l.take k).flatMap f
  | l, 0 => by simp
  | [], k + 1 => by simp
  | x :: l, k + 1 => by
    rw [List.flatMap_cons, show (k + 1) * m = (f x).length + k * m by rw [hf, Nat.add_mul, Nat.one_mul, Nat.add_comm], List.take_append, Nat.add_sub_cancel_left, flat_take hf l k, List.take_of_length_le (by omega)]
    rfl
theorem flat_at (hf : ∀ x, (f x).length = m) {l : List α} {k : Nat} (d : α) (h : k < l.length) : ((l.flatMap f).drop (k * m)).take m = f (l.getD k d) := by
  rw [flat_drop hf, List.drop_eq_getElem_cons h, List.flatMap_cons, List.getD_eq_getElem?_getD, List.getElem?_eq_getElem h]
  rw [List.take_append_of_le_length (by rw [hf]; exact Nat.le_refl _)]
  exact List.take_of_length_le (by rw [hf]; exact Nat.le_refl _)
theorem flat_set (hf : ∀ x, (f x).length = m) {l : List α} {k : Nat} (x : α) (h : k < l.length) : (l.flatMap f).take (k * m) ++ (f x ++ (l.flatMap f).drop (k * m + (f x).length)) = (l.set k x).flatMap f := by
  rw [hf, show k * m + m = (k + 1) * m by rw [Nat.add_mul, Nat.one_mul], flat_take hf, flat_drop hf, List.set_eq_take_append_cons_drop, if_pos h, List.flatMap_append, List.flatMap_cons]
theorem flat_ks (hf : ∀ x, (f x).flatMap AC.ks = []) : ∀ l : List α, (l.flatMap f).flatMap AC.ks = []
  | [] => rfl
  | x :: l => by rw [List.flatMap_cons, List.flatMap_append, hf, flat_ks hf l]; rfl
theorem flat_rows (x : α) : ∀ n : Nat, rows n (f x) = (List.replicate n x).flatMap f
  | 0 => rfl
  | n + 1 => by
    have := flat_rows x n
    unfold rows at this ⊢
    rw [List.replicate_succ, List.flatten_cons, this, List.replicate_succ, List.flatMap_cons]
end
theorem scell_len (S : List St) : (scell S).length = S.length * 31 := flat_len (f := St.cs) (fun _ => rfl) S
theorem scell_ks (S : List St) : (scell S).flatMap AC.ks = [] := flat_ks (f := St.cs) (fun _ => rfl) S
theorem scell_at {S : List St} {k : Nat} (h : k < S.length) : List.take 31 (List.drop (k * 31) (scell S)) = (stAt S k).cs := flat_at (f := St.cs) (fun _ => rfl) St.z h
theorem scell_set {S : List St} {k : Nat} (t : St) (h : k < S.length) : splice (scell S) (k * 31) t.cs = scell (S.set k t) := flat_set (f := St.cs) (fun _ => rfl) t h
theorem scell_take (S : List St) (q : Nat) : List.take (q * 31) (scell S) = scell (S.take q) := flat_take (f := St.cs) (fun _ => rfl) S q
theorem scell_rows (n : Nat) : rows n St.z.cs = scell (List.replicate n St.z) := flat_rows (f := St.cs) St.z n
theorem sble {S : List St} {k : Nat} (h : k < S.length) : Nat.ble (0 + k * 31 + 31) (scell S).length = true := by
  rw [scell_len, Nat.ble_eq]; omega
theorem sat_eff {S : List St} {k : Nat} (h : k < S.length) : Eff.mk (AV.ag (List.take 31 (List.drop (0 + k * 31) (scell S)))) [] none = Eff.mk (AV.ag (St.cs (stAt S k))) [] none := by
  rw [Nat.zero_add, scell_at h]
end Go.Proofs.Ytkigmocchaikgab

/- The contracts of slices.Clone, verify.add and verify.Verify. -/
namespace Go.Proofs.Ytkigmocchaikgab
open Go.RowKit

/- a call that reads a program and hands back a new block -/
theorem one_look {K : Nat} {en e : Ent} {k : Nat} (h : look [(K, en)] k = some e) : k = K ∧ e = en := by
  rw [look_cons] at h
  split at h
  · rename_i hk; injection h with h; exact ⟨hk, h.symm⟩
  · cases h
theorem rnew_of {P : Program} {f : FuncId} {fn : Func} {args : List AV} {cs : List AC} {K : Nat} {en : Ent} {v : AV} (hf : P.funcs[f]? = some fn) (hb : fn.body.isSome = true) (hN : Nat.ble args.length fn.ntmps = true) (ha : (keysOf args).all (fun k => Nat.blt k 1) = true) (hcs : cs.flatMap AC.ks = []) (hK : 1 ≤ K) (hv : v.ks = [K]) (hc : en.cells.flatMap AC.ks = [])
    (h : ∀ w β, EKeys 1 [] (some K) ⟨v, [], some (K, en)⟩ → ART P f (cx w β 1 []) fn.ntmps [.code (bodyOf fn)] (Kn.start args [(0, ⟨false, cs, 0⟩)] 1) (REff w β ⟨v, [], some (K, en)⟩)) : CallOK P ⟨f, args, [(0, ⟨false, cs, 0⟩)], ⟨v, [], some (K, en)⟩⟩ := by
  have e : EKeys 1 [] (some K) ⟨v, [], some (K, en)⟩ := by
    refine ⟨fun k hk => Or.inr ?_, fun _ _ hm => (nomatch hm), fun k en' h' => ?_, fun _ h => (nomatch h), fun k h => ⟨?_, rfl⟩⟩
    · simp only at hk; rw [hv] at hk; rw [List.mem_singleton.1 hk]
    · injection h' with h'; injection h' with _ h'; subst h'; exact hc
    · injection h with h; subst h; exact hK
  have hB : Begin args [(0, ⟨false, cs, 0⟩)] 1 := by
    refine ⟨fun v hv k hk => ?_, fun k e he => ?_⟩
    · have h2 := List.all_eq_true.1 ha k (List.mem_flatMap.2 ⟨v, hv, hk⟩)
      simpa using h2
    · obtain ⟨rfl, rfl⟩ := one_look he
      exact ⟨by decide, fun c hc j hj => (nk_of hcs hc hj).elim⟩
  refine eff_of [] (some K) hf hb hN hB (fun k hk => Or.inr ?_) (fun k en' h' => ?_) (fun k h => ⟨en, ?_⟩) e (fun _ _ hm => (nomatch hm)) (fun k en h1 h2 => ?_) fun w β _ => h w β e
  · simp only at hk; rw [hv] at hk; rw [List.mem_singleton.1 hk]
  · injection h' with h'; injection h' with h' _; rw [h']
  · injection h with h; subst h; rfl
  · obtain ⟨_, rfl⟩ := one_look h1; cases h2
theorem cloneS_ok {S : List St} {q c : Nat} (h0 : 0 < q) (h1 : q ≤ S.length) (h2 : q ≤ 64) : CallOK Try.prog ⟨47, [.c (.sl 0 0 q c)], [(0, ⟨false, scell S, 0⟩)], ⟨.c (.sx 6 q), [], some (6, ⟨true, scell (S.take q), 31⟩)⟩⟩ := by
  refine rnew_of Try.func47 rfl rfl rfl (scell_ks S) (by decide) rfl (scell_ks _) fun w β hk => cloneS_w0 ?_ ?_ hk
  · have e : Nat.ble (0 + q * 31) (scell S).length = true := by rw [scell_len, Nat.ble_eq]; omega
    rw [e, decide_eq_true (by omega : 0 + q ≤ 137438953472), decide_eq_true (by omega : 0 < 0 + q)]; rfl
  · rw [Nat.zero_add, List.drop_zero, List.drop_zero, scell_take]; rfl
/- a call that writes the one block that it is handed -/
theorem wr_of {P : Program} {f : FuncId} {fn : Func} {args : List AV} {cs cs' : List AC} {v : AV} (hf : P.funcs[f]? = some fn) (hb : fn.body.isSome = true) (hN : Nat.ble args.length fn.ntmps = true) (ha : (keysOf args).all (fun k => Nat.blt k 1) = true) (hcs : cs.flatMap AC.ks = []) (hne : cs ≠ []) (hv : v.ks = []) (hc : cs'.flatMap AC.ks = [])
    (h : ∀ w β, EKeys 1 [0] none ⟨v, [(0, cs')], none⟩ → ART P f (cx w β 1 [0]) fn.ntmps [.code (bodyOf fn)] (Kn.start args [(0, ⟨true, cs, 0⟩)] 1) (REff w β ⟨v, [(0, cs')], none⟩)) : CallOK P ⟨f, args, [(0, ⟨true, cs, 0⟩)], ⟨v, [(0, cs')], none⟩⟩ := by
  have e : EKeys 1 [0] none ⟨v, [(0, cs')], none⟩ := by
    refine ⟨fun k hk => ?_, fun k cs hm => ?_, fun _ _ h' => (nomatch h'), fun k h => ?_, fun _ h => (nomatch h)⟩
    · simp only at hk; rw [hv] at hk; cases hk
    · have := List.mem_singleton.1 hm; injection this with _ h2; subst h2; exact hc
    · rw [List.mem_singleton.1 h]; decide
  have hB : Begin args [(0, ⟨true, cs, 0⟩)] 1 := by
    refine ⟨fun v hv k hk => ?_, fun k e he => ?_⟩
    · have h2 := List.all_eq_true.1 ha k (List.mem_flatMap.2 ⟨v, hv, hk⟩)
      simpa using h2
    · obtain ⟨rfl, rfl⟩ := one_look he
      exact ⟨by decide, fun c hc j hj => (nk_of hcs hc hj).elim⟩
  refine eff_of [0] none hf hb hN hB (fun k hk => ?_) (fun _ _ h' => (nomatch h')) (fun _ h => (nomatch h)) e (fun k cs' hm => ?_) (fun k en h1 h2 => ?_) fun w β _ => h w β e
  · simp only at hk; rw [hv] at hk; cases hk
  · have := List.mem_singleton.1 hm; injection this with h1 h2; subst h1
    exact ⟨⟨true, cs, 0⟩, rfl, rfl, hne⟩
  · obtain ⟨rfl, _⟩ := one_look h1; exact List.mem_singleton.2 rfl
theorem scell_ne {S : List St} (h : 0 < S.length) : scell S ≠ [] := fun e => by
  have := scell_len S
  rw [e] at this
  simp at this
  omega
theorem add_ok {S : List St} {c : Nat} {k : Int} {t : St} (h0 : 0 < S.length) (hk : t.live = true → 0 ≤ k ∧ k < S.length) (ht : t.Ok) (hS : ∀ j, (stAt S j).Ok) : CallOK Try.prog ⟨48, [.c (.sl 0 0 S.length c), .c (.i k), .ag t.cs], [(0, ⟨true, scell S, 0⟩)], ⟨.tu [], [(0, scell (addS S k.toNat t))], none⟩⟩ := by
  refine wr_of Try.func48 rfl rfl rfl (scell_ks S) (scell_ne h0) rfl (scell_ks _) fun w β hkk => ?_
  refine addS_all (j1 := (stAt S k.toNat).join t) (e := 0) (fun hl => ?_) (fun hl => ?_)
  · obtain ⟨k0, k1⟩ := hk hl
    have hlt : k.toNat < S.length := by omega
    have e1 : (decide (0 ≤ k) && decide (k < (↑S.length : Int))) = true := and_yes (decide_eq_true k0) (decide_eq_true k1)
    have ea : addS S k.toNat t = S.set k.toNat ((stAt S k.toNat).join t) := by unfold addS; rw [if_pos hl]
    rw [ea] at hkk
    have hj := fjoin_ok (stAt S k.toNat) t
    have ab : ((stAt S k.toNat).ok && t.ok) = true := and_yes (St.ok_iff.2 (hS _)) (St.ok_iff.2 ht)
    unfold joinA joinE at hj
    rw [if_pos ab, if_pos ab] at hj
    refine ⟨e1, sble hlt, e1, ?_, sat_eff hlt, hj, ?_, hkk, ?_⟩
    · rw [show (St.cs ((stAt S k.toNat).join t)).length = 31 from rfl, sble hlt]; rfl
    · rw [Nat.zero_add, scell_set _ hlt]
    · rw [ea]
  · have ea : addS S k.toNat t = S := by unfold addS; rw [if_neg (by rw [hl]; decide)]
    rw [ea] at hkk ⊢
    exact ⟨hkk, rfl⟩
abbrev vKn (L : List Ins) (c : Nat) (S : List St) (j : Nat) : Kn := ⟨[(2, .c (.w 1)), (5, .c (.sl 10 0 L.length L.length)), (24, .c (.sl 0 0 L.length c)), (25, .c (.i (L.length : Int))), (26, .c (.i (j : Int)))], [(0, ⟨false, pcell L, 0⟩), (1, ⟨true, [AC.i 0, AC.i 0, nilSl], 0⟩), (10, ⟨true, scell S, 0⟩)], 11⟩
theorem v_low (L : List Ins) (c : Nat) (S : List St) (j : Nat) : Kn.Low (vKn L c S j) := low_n rfl rfl ⟨pcell_ks L, rfl, scell_ks S, trivial⟩
/- what Verify hands back -/
def okE (K : Nat) (n : Nat) (S : List St) : Eff := ⟨.tu [.ag [.i 0, .i 0, .sl K 0 n n], .c (.i 0)], [], some (K, ⟨true, scell S, 0⟩)⟩
def trapE (K : Nat) (R : Rep) : Eff := ⟨.tu [.ag [.i R.trap, .i R.pos, .sx K R.sts.length], .c (.i 0)], [], some (K, ⟨true, scell R.sts, 31⟩)⟩
def verE (n : Nat) (R : Rep) : Eff := if R.trap = 0 then okE 10 n R.sts else trapE 43 R
theorem ekeys_ok (K n : Nat) (S : List St) (hK : 1 ≤ K) : EKeys 1 [] (some K) (okE K n S) := by
  refine ⟨fun k hk => Or.inr ?_, fun _ _ hm => (nomatch hm), fun k en' h' => ?_, fun _ h => (nomatch h), fun k h => ⟨?_, rfl⟩⟩
  · have : k ∈ [K] := hk
    rw [List.mem_singleton.1 this]
  · injection h' with h'; injection h' with _ h'; subst h'; exact scell_ks S
  · injection h with h; subst h; exact hK
theorem ekeys_trap (K : Nat) (R : Rep) (hK : 1 ≤ K) : EKeys 1 [] (some K) (trapE K R) := by
  refine ⟨fun k hk => Or.inr ?_, fun _ _ hm => (nomatch hm), fun k en' h' => ?_, fun _ h => (nomatch h), fun k h => ⟨?_, rfl⟩⟩
  · have : k ∈ [K] := hk
    rw [List.mem_singleton.1 this]
  · injection h' with h'; injection h' with _ h'; subst h'; exact scell_ks R.sts
  · injection h with h; subst h; exact hK
theorem step_in {L : List Ins} {k : Nat} {t : St} (hP : RightP L) (hk : k < L.length) (ht : t.Ok) : Ok 22 [.ag (elt L k).cs, .ag t.cs] (.tu [.ag (stepS (elt L k) t).1.cs, .ag (stepS (elt L k) t).2.1.cs, .c (.i (stepS (elt L k) t).2.2), .c (.i 0)]) := by
  have h := fstep_ok (elt L k) t
  have hle := hP.le
  have hb : (fineI (elt L k) && t.ok) = true := and_yes (fine_right.2 ((right_lt hP hk).mono (by omega))) (St.ok_iff.2 ht)
  unfold stepA stepE at h
  rwa [if_pos hb, if_pos hb] at h
theorem offB {i : Ins} {n : Int} (hr : Right i n) (hn : n ≤ 64) : -64 ≤ i.of ∧ i.of ≤ 64 := by
  rcases ops_of hr with c | c | c | c | c | c | c | c
  · have := fits_reach hr (Or.inl c); omega
  · have := fits_reach hr (Or.inr c); omega
  · have := fits_jump hr c; omega
  · have := fits_branch hr (Or.inl c); omega
  · have := fits_branch hr (Or.inr c); omega
  · have := fits_exit hr c; omega
  · have := fits_two hr (by omega); omega
  · have := fits_two hr (by omega); omega
theorem verLoop {L : List Ins} {c : Nat} (hP : RightP L) {w : World} {β : Bs} : ∀ (n k : Nat) (S : List St), k + n = L.length → S.length = L.length → (∀ j, (stAt S j).Ok) →
    ART Try.prog 23 (cx w β 1 []) Try.f23.ntmps (cutAt Try.f23 0) (vKn L c S k) (REff w β (verE L.length (verL L n k S)))
  | 0, k, S, hk, hS, hok => by
    have e : verE L.length (verL L 0 k S) = okE 10 L.length S := by unfold verL verE; rw [if_pos rfl]
    rw [e]
    refine vEnd_w0 ?_ (ekeys_ok 10 L.length S (by decide))
    rw [decide_eq_false (by omega : ¬ (k : Int) < (L.length : Int))]; rfl
  | n + 1, k, S, hk, hS, hok => by
    have hlt : k < L.length := by omega
    have hltS : k < S.length := by omega
    have hle := hP.le
    have hr := right_lt hP hlt
    have hst := step_in hP hlt (hok k)
    have d0 : decide ((k : Int) < (L.length : Int)) = true := jl hlt
    have f1 : Nat.ble (0 + Int.toNat (k : Int) * 5 + 5) (pcell L).length = true := pble hlt
    have f2 : Nat.ble (0 + Int.toNat (k : Int) * 31 + 31) (scell S).length = true := sble hltS
    have f3 := elt_eff hlt
    have f4 : Eff.mk (AV.ag (List.take 31 (List.drop (0 + Int.toNat (k : Int) * 31) (scell S)))) [] none = Eff.mk (AV.ag (St.cs (stAt S k))) [] none := sat_eff hltS
    have f5 : Eff.mk (AV.c (AC.i (IntKind.wrap IntKind.i64 ((k : Int) + 1)))) [] none = Eff.mk (AV.c (AC.i ((k + 1 : Nat) : Int))) [] none := by rw [wrapS (by omega)]
    obtain ⟨q1, q2⟩ := stepS_Ok hr (hok k)
    unfold verL
    by_cases h0 : (stepS (elt L k) (stAt S k)).2.2 = 0
    · rw [if_pos h0]
      have e1 : (!(stepS (elt L k) (stAt S k)).2.2 != 0) = true := by rw [h0]; rfl
      have hok1 := addS_Ok (k := k + 1) hok q1
      have hok2 := addS_Ok (k := k + 1 + (elt L k).of.toNat) hok1 q2
      have a1 := add_ok (S := S) (c := L.length) (k := ((k + 1 : Nat) : Int)) (by omega) (fun hl => by have := go1_lt hP hlt hl; omega) q1 hok
      have len1 : (addS S (k + 1) (stepS (elt L k) (stAt S k)).1).length = L.length := by rw [addS_len]; exact hS
      have a2 := add_ok (S := addS S (k + 1) (stepS (elt L k) (stAt S k)).1) (c := L.length) (k := ((k + 1 : Nat) : Int) + (elt L k).of) (by omega) (fun hl => by have := go2_lt hP hlt hl; omega) q2 hok1
      rw [hS] at a1
      rw [len1] at a2
      have hS2 : addS (addS S (k + 1) (stepS (elt L k) (stAt S k)).1) (((k + 1 : Nat) : Int) + (elt L k).of).toNat (stepS (elt L k) (stAt S k)).2.1 = addS (addS S (k + 1) (stepS (elt L k) (stAt S k)).1) (k + 1 + (elt L k).of.toNat) (stepS (elt L k) (stAt S k)).2.1 := by
        by_cases hl : (stepS (elt L k) (stAt S k)).2.1.live = true
        · have := go2_lt hP hlt hl
          rw [show (((k + 1 : Nat) : Int) + (elt L k).of).toNat = k + 1 + (elt L k).of.toNat by omega]
        · unfold addS; rw [if_neg hl, if_neg hl]
      rw [hS2] at a2
      rw [show ((k + 1 : Nat) : Int).toNat = k + 1 from rfl] at a1
      have b1 := a1.ren (swp 0 10) (swp_inj 0 10)
      have b2 := a2.ren (swp 0 10) (swp_inj 0 10)
      unfold CallRec.ren Eff.ren renH at b1 b2
      simp only [List.map_cons, List.map_nil, Option.map_none] at b1 b2
      have hR := offB hr (by omega)
      refine vRound_w0 (S1 := addS S (k + 1) (stepS (elt L k) (stAt S k)).1) (S2 := addS (addS S (k + 1) (stepS (elt L k) (stAt S k)).1) (k + 1 + (elt L k).of.toNat) (stepS (elt L k) (stAt S k)).2.1)
        (and_yes d0 (and_yes d0 (and_yes f1 (and_yes d0 (and_yes f2 (and_yes e1 rfl)))))) f3 f4 hst f5 (b1.congr ?_) f5 ?_ (b2.congr ?_) f5 (v_low _ _ _ _) (fun _ h => Nat.lt_of_lt_of_le h (by decide)) (verLoop hP n (k + 1) _ (by omega) (by rw [addS_len, addS_len]; exact hS) hok2)
      · simp only [Ent.ren, ren_nk _ (scell_ks _)]
        rfl
      · rw [wrapN (by omega) (by omega)]
      · simp only [Ent.ren, ren_nk _ (scell_ks _)]
        rfl
    · rw [if_neg h0]
      have e1 : ((stepS (elt L k) (stAt S k)).2.2 != 0) = true := by simpa using h0
      have eE : verE L.length ⟨(stepS (elt L k) (stAt S k)).2.2, k, S.take (k + 1)⟩ = trapE 43 ⟨(stepS (elt L k) (stAt S k)).2.2, k, S.take (k + 1)⟩ := by unfold verE; rw [if_neg h0]
      have hlen : (S.take (k + 1)).length = k + 1 := by rw [List.length_take]; omega
      have hk := ekeys_trap 43 ⟨(stepS (elt L k) (stAt S k)).2.2, k, S.take (k + 1)⟩ (by decide)
      have cl := ((cloneS_ok (S := S) (q := k + 1) (c := L.length) (by omega) (by omega) (by omega)).ren (swp 6 43) (swp_inj 6 43)).ren (swp 0 10) (swp_inj 0 10)
      rw [eE]
      unfold trapE at hk ⊢
      simp only [hlen] at hk ⊢
      refine vTrap_w0 (and_yes d0 (and_yes d0 (and_yes f1 (and_yes d0 (and_yes f2 (and_yes e1 (and_yes (and_yes (decide_eq_true (by omega)) (decide_eq_true (by omega))) rfl))))))) f3 f4 hst f5 rfl ?_ hk
      refine CallOK.more (H := [(10, ⟨false, scell S, 0⟩)]) ?_ ⟨fun j en hj => ?_⟩
      · refine cl.congr ?_
        unfold CallRec.ren Eff.ren renH
        simp only [List.map_cons, List.map_nil, Option.map_some, Ent.ren, ren_nk _ (scell_ks _)]
        rfl
      · obtain ⟨rfl, rfl⟩ := one_look hj
        exact ⟨⟨true, scell S, 0⟩, rfl, rfl, fun h => (by cases h), Or.inl rfl⟩
theorem verify_err {L : List Ins} {c : Nat} (h : codeErr L ≠ 0) : CallOK Try.prog ⟨23, [.c (.sl 0 0 L.length c)], pH L, ⟨.tu [.ag [.i 0, .i 0, nilSl], .c (.i (codeErr L))], [], none⟩⟩ := by
  refine read_of Try.func23 rfl rfl (begin_p rfl) rfl ro_p fun w β => ?_
  exact vTop_w0 (and_yes (by simpa using h) rfl) (check_ok L c)
theorem verify_nil : Ok 23 [.c nilSl] (.tu [.ag [.i 0, .i 0, nilSl], .c (.i 2)]) := vNil_w0 rfl check_nil
theorem verify_ret {L : List Ins} {c : Nat} (h : codeErr L = 0) : CallOK Try.prog ⟨23, [.c (.sl 0 0 L.length c)], pH L, verE L.length (verifyS L)⟩ := by
  have hP := codeErr_zero h
  have hp := hP.pos
  have hle := hP.le
  have main : ∀ w β, ART Try.prog 23 (cx w β 1 []) Try.f23.ntmps [.code (bodyOf Try.f23)] (Kn.start [.c (.sl 0 0 L.length c)] (pH L) 1) (REff w β (verE L.length (verifyS L))) := by
    intro w β
    have hb : (scell (List.replicate L.length St.z)).length = L.length * 31 := by rw [scell_len, List.length_replicate]
    refine vTop_w1 (b := beginS) (e := codeErr L) ?_ (check_ok L c) ?_ fbegin_ok ?_ (v_low L c (firstS L.length) 0) (fun _ h => Nat.lt_of_lt_of_le h (by decide)) (verLoop hP L.length 0 (firstS L.length) (by omega) (firstS_len _) (firstS_Ok hp))
    · have e1 : (!codeErr L != 0) = true := by rw [h]; rfl
      have e2 : Nat.ble (0 + (St.cs beginS).length) (scell (List.replicate L.length St.z)).length = true := by rw [hb, st_len, Nat.ble_eq]; omega
      rw [e1, e2, decide_eq_true (by omega : (L.length : Int) ≤ (L.length : Int)), decide_eq_true (by omega : (L.length : Int) ≤ 1099511627776), decide_eq_true (by omega : (0 : Int) < (L.length : Int))]; rfl
    · rw [Int.toNat_natCast, scell_rows]
    · have := scell_set (S := List.replicate L.length St.z) (k := 0) beginS (by rw [List.length_replicate]; exact hp)
      rw [Nat.zero_mul] at this
      rw [this]
  by_cases h0 : (verifyS L).trap = 0
  · have e : verE L.length (verifyS L) = okE 10 L.length (verifyS L).sts := by unfold verE; rw [if_pos h0]
    rw [e] at main ⊢
    exact rnew_of Try.func23 rfl rfl rfl (pcell_ks L) (by decide) rfl (scell_ks _) fun w β _ => main w β
  · have e : verE L.length (verifyS L) = trapE 43 (verifyS L) := by unfold verE; rw [if_neg h0]
    rw [e] at main ⊢
    exact rnew_of Try.func23 rfl rfl rfl (pcell_ks L) (by decide) rfl (scell_ks _) fun w β _ => main w β
end Go.Proofs.Ytkigmocchaikgab

/- Folding: what a folded step makes of a state is what the step makes of it; and so of a machine that is had: plain facts. -/
namespace Go.Proofs.Ytkigmocchaikgab

/- what is known already, told again -/
/- of a branch that may go on in one way alone, that way's state is as it was -/
/- a jump, on what may be -/
/- what a folded step adds is what the step adds -/
/- of a machine that is had, a folded step makes what the step makes -/
end Go.Proofs.Ytkigmocchaikgab

/- Folding: the program that is folded is right, verifies as it did, and runs as it did: plain facts. -/
namespace Go.Proofs.Ytkigmocchaikgab

/- a machine's next -/
theorem zeroI (s : V6 Bool) (r : V6 (BitVec 64)) : zeroB s r = true ↔ ∀ i, i < 6 → (s.get i = true ∨ r.get i = 0#64) := by
  constructor
  · intro h
    simp only [zeroB, eqb, Bool.and_eq_true, Bool.or_eq_true, beq_iff_eq] at h
    obtain ⟨⟨⟨⟨⟨h0, h1⟩, h2⟩, h3⟩, h4⟩, h5⟩ := h
    exact lt6 h0 h1 h2 h3 h4 h5
  · intro h
    simp only [zeroB, eqb, Bool.and_eq_true, Bool.or_eq_true, beq_iff_eq]
    exact ⟨⟨⟨⟨⟨h 0 (by decide), h 1 (by decide)⟩, h 2 (by decide)⟩, h 3 (by decide)⟩, h 4 (by decide)⟩, h 5 (by decide)⟩
theorem zeroW {m : Mach} {d : Nat} {x : BitVec 64} (hd : d < 6) (h : zeroB m.s m.r = true) : zeroB (m.wth d x).s (m.wth d x).r = true := by
  rw [zeroI] at h ⊢
  intro i hi
  simp only [Mach.wth]
  rw [V6.get_set _ _ _ _ hd hi, V6.get_set _ _ _ _ hd hi]
  by_cases c : d = i
  · rw [if_pos c]; exact Or.inl rfl
  · rw [if_neg c, if_neg c]; exact h i hi
theorem zeroM {i : Ins} {n : Int} {m : Mach} (hr : Right i n) (h : zeroB m.s m.r = true) : zeroB (stepM i m).s (stepM i m).r = true := by
  have hd := reg_nat (right_regs hr).1
  unfold stepM
  by_cases c0 : lacks (useOf i) m.s = true
  · rw [if_pos c0]; exact h
  rw [if_neg c0]
  by_cases c1 : i.op = 10 ∨ i.op = 11
  · rw [if_pos c1]
    unfold reachM
    by_cases c2 : farB i m = true
    · rw [if_pos c2]; exact h
    rw [if_neg c2]
    by_cases c3 : i.op = 10
    · rw [if_pos c3]; exact zeroW hd h
    rw [if_neg c3]; exact h
  rw [if_neg c1]
  by_cases c2 : i.op = 12
  · rw [if_pos c2]; exact h
  rw [if_neg c2]
  by_cases c3 : i.op = 13
  · rw [if_pos c3]; exact h
  rw [if_neg c3]
  by_cases c4 : i.op = 14
  · rw [if_pos c4]; exact h
  rw [if_neg c4]
  by_cases c5 : i.op = 15
  · rw [if_pos c5]; exact h
  rw [if_neg c5]; exact zeroW hd h
theorem mach_zero {m : Mach} : machErr m = 0 ↔ m.mem.size = 64 ∧ (0 ≤ m.fin ∧ m.fin ≤ 3) ∧ (0 ≤ m.t ∧ m.t < 64) ∧ zeroB m.s m.r = true := by
  unfold machErr
  cases hz : zeroB m.s m.r with
  | false => simp
  | true =>
    cases hh : headB m with
    | false =>
      have : ¬ (m.mem.size = 64 ∧ (0 ≤ m.fin ∧ m.fin ≤ 3) ∧ (0 ≤ m.t ∧ m.t < 64)) := fun h => by
        have : headB m = true := by simp [headB, h.1]; omega
        rw [hh] at this; cases this
      simp
      intro a b c d
      by_cases f : m.t < 64
      · exact absurd ⟨a, ⟨b, c⟩, d, f⟩ this
      · omega
    | true =>
      have : m.mem.size = 64 ∧ (0 ≤ m.fin ∧ m.fin ≤ 3) ∧ (0 ≤ m.t ∧ m.t < 64) := by simpa [headB, and_assoc] using hh
      simp [this.1]; omega
/- a machine that runs in a program -/
structure Runs (L : List Ins) (m : Mach) : Prop where
  mach : machErr m = 0
  fin : m.fin = 0
  pos : 0 ≤ m.t
  lt : m.t < L.length
theorem runs_next {L : List Ins} {m : Mach} (hP : RightP L) (h : Runs L m) (h0 : (stepM (insAt L m.t) m).fin = 0) : Runs L (stepM (insAt L m.t) m) ∧ m.t < (stepM (insAt L m.t) m).t := by
  have hlt : m.t.toNat < L.length := by have := h.lt; have := h.pos; omega
  have hr := right_lt hP hlt
  have e : insAt L m.t = elt L m.t.toNat := rfl
  rw [← e] at hr
  have hl : (insAt L m.t).op = 15 ∨ (0 : Int) < ((L.length - 1 - m.t.toNat : Nat) : Int) := by
    by_cases c : m.t.toNat = L.length - 1
    · left
      rw [e, c]; exact last_op hP
    · right; omega
  obtain ⟨z1, _, _, z4⟩ := mach_zero.1 h.mach
  have h1 := h.pos
  have h2 := h.lt
  have hle := hP.le
  rcases stepM_at hr hl h.fin with h4 | ⟨_, h5, h6⟩
  · exact absurd h0 h4
  · exact ⟨⟨mach_zero.2 ⟨stepM_mem hr z1, by omega, by omega, zeroM hr z4⟩, h0, by omega, by omega⟩, h5⟩
theorem runs_start {L : List Ins} (hP : RightP L) {s : ByteArray} {x : BitVec 64} (hs : s.size = 64) : Runs L (startM s x) :=
  ⟨(begin_Has (x := x) hs).mach, rfl, Int.le_refl _, by have := hP.pos; show (0 : Int) < _; omega⟩
/- a machine that is had where it is, in a program without a trap, goes on so, till it stops -/
def Had (L : List Ins) (m : Mach) : Prop := m.fin = 0 → Runs L m ∧ (stAt (verifyS L).sts m.t.toNat).Has m
theorem had_start {L : List Ins} (hP : RightP L) {s : ByteArray} {x : BitVec 64} (hs : s.size = 64) : Had L (startM s x) := fun _ => by
  refine ⟨runs_start hP hs, ?_⟩
  show (stAt (verifyS L).sts 0).Has _
  rw [verify_first hP]
  exact begin_Has hs
theorem had_next {L : List Ins} (hP : RightP L) (h0 : (verifyS L).trap = 0) {m : Mach} (hf : m.fin = 0) (h : Had L m) : ((stepM (insAt L m.t) m).fin = 0 ∨ (stepM (insAt L m.t) m).fin = 3) ∧ Had L (stepM (insAt L m.t) m) := by
  obtain ⟨hr, hh⟩ := h hf
  rcases verify_step hP hr.pos hr.lt (Or.inl h0) hh with h1 | ⟨h1, h2⟩
  · exact ⟨Or.inr h1, fun h => by rw [h1] at h; exact absurd h (by decide)⟩
  · obtain ⟨h3, _⟩ := runs_next hP hr h1
    exact ⟨Or.inl h1, fun _ => ⟨h3, h2 h3.mach (Or.inl h0)⟩⟩
/- a run of a program without a trap stops -/
theorem run_stops {L : List Ins} (hP : RightP L) (h0 : (verifyS L).trap = 0) : ∀ (k : Nat) (m : Mach) (q : Nat), Had L m → (m.fin = 0 ∨ m.fin = 3) → (m.fin = 0 → (L.length : Int) ≤ m.t + k) → (runM L k m q).1.fin = 3 ∧ (runM L k m q).2 ≤ q + k
  | 0, m, q, hh, hf, hk => by
    refine ⟨?_, by unfold runM; exact Nat.le_refl _⟩
    unfold runM
    rcases hf with hf | hf
    · have := hk hf
      have := (hh hf).1.lt
      omega
    · exact hf
  | k + 1, m, q, hh, hf, hk => by
    unfold runM
    by_cases c : m.fin = 0
    · rw [if_pos c]
      obtain ⟨h1, h2⟩ := had_next hP h0 c hh
      have := run_stops hP h0 k (stepM (insAt L m.t) m) (q + 1) h2 h1 (fun h => by
        have h3 := (runs_next hP (hh c).1 h).2
        have := hk c
        omega)
      exact ⟨this.1, by omega⟩
    · rw [if_neg c]
      exact ⟨hf.resolve_left c, by omega⟩
/- a program that is right, step by step -/
end Go.Proofs.Ytkigmocchaikgab
