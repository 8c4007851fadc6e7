import Derived.Test.YtkigmocchaikgaaRu2
import Derived.Test.YtkigmocchaikgaaProg
import Derived.Test.YtkigmocchaikgaaRu3
import Derived.Test.YtkigmocchaikgaaRu6
import Derived.Test.YtkigmocchaikgaaRu5
import Derived.Test.YtkigmocchaikgaaRu4
/- Ways of bodies, written by a program (ways.py): what each asks for, and hands back. -/
namespace Go.Proofs.Ytkigmocchaikgaa
open Go.RowKit

theorem ckTop_w0 {L : List Ins} {c : Nat} {w : World} {β : Bs} {n : Nat} (h : ((↑(List.length L) : Int) == 0 && true) = true) :
    ART Try.prog 101 (cx w β n []) Try.f101.ntmps ([Item.code (bodyOf Try.f101)]) (Kn.start [AV.c (AC.sl 0 0 (List.length L) c)] [(0, Ent.mk false (pcell L) 0)] 1) (REff w β ⟨AV.c (AC.i 2), [], none⟩) :=
  run_eff [] (none) 2000 [] [true, true] [true] [] Try.func101 (ekeys0 rfl n) (by kernel_rfl) h cr_nil
theorem ckTop_w1 {L : List Ins} {c : Nat} {w : World} {β : Bs} {n : Nat} (h : (!(↑(List.length L) : Int) == 0 && (decide (64 < (↑(List.length L) : Int)) && true)) = true) :
    ART Try.prog 101 (cx w β n []) Try.f101.ntmps ([Item.code (bodyOf Try.f101)]) (Kn.start [AV.c (AC.sl 0 0 (List.length L) c)] [(0, Ent.mk false (pcell L) 0)] 1) (REff w β ⟨AV.c (AC.i 2), [], none⟩) :=
  run_eff [] (none) 2000 [] [false, true] [true] [] Try.func101 (ekeys0 rfl n) (by kernel_rfl) h cr_nil
theorem ckTop_w2 {L : List Ins} {c : Nat} {C : Cx} {R : Ending → World → Prop} (h : (!(↑(List.length L) : Int) == 0 && (!decide (64 < (↑(List.length L) : Int)) && true)) = true) (lo : Kn.Low ⟨[(0, AV.c (AC.sl 0 0 (List.length L) c)), (17, AV.c (AC.sl 0 0 (List.length L) c)), (18, AV.c (AC.i (↑(List.length L) : Int))), (19, AV.c (AC.i 0))], [(0, Ent.mk false (pcell L) 0)], 1⟩) (hF : ∀ k, C.F k → k < 1) (z : ART Try.prog 101 C Try.f101.ntmps (cutAt Try.f101 0) ⟨[(0, AV.c (AC.sl 0 0 (List.length L) c)), (17, AV.c (AC.sl 0 0 (List.length L) c)), (18, AV.c (AC.i (↑(List.length L) : Int))), (19, AV.c (AC.i 0))], [(0, Ent.mk false (pcell L) 0)], 1⟩ R) :
    ART Try.prog 101 C Try.f101.ntmps ([Item.code (bodyOf Try.f101)]) (Kn.start [AV.c (AC.sl 0 0 (List.length L) c)] [(0, Ent.mk false (pcell L) 0)] 1) R :=
  run_cut ⟨[(0, AV.c (AC.sl 0 0 (List.length L) c)), (17, AV.c (AC.sl 0 0 (List.length L) c)), (18, AV.c (AC.i (↑(List.length L) : Int))), (19, AV.c (AC.i 0))], [(0, Ent.mk false (pcell L) 0)], 1⟩ 2000 [] [false, false] [true] [] Try.func101 (by kernel_rfl) h cr_nil lo hF z
theorem ckTop_all {L : List Ins} {c : Nat} {w : World} {β : Bs} {n : Nat} {E : Eff} (hn : n ≤ 1)
    (l0 : ((↑(List.length L) : Int) == 0) = true → ((⟨AV.c (AC.i 2), [], none⟩ : Eff) = E))
    (l1 : ((↑(List.length L) : Int) == 0) = false → (decide (64 < (↑(List.length L) : Int))) = true → ((⟨AV.c (AC.i 2), [], none⟩ : Eff) = E))
    (l2 : ((↑(List.length L) : Int) == 0) = false → (decide (64 < (↑(List.length L) : Int))) = false → Kn.Low ⟨[(0, AV.c (AC.sl 0 0 (List.length L) c)), (17, AV.c (AC.sl 0 0 (List.length L) c)), (18, AV.c (AC.i (↑(List.length L) : Int))), (19, AV.c (AC.i 0))], [(0, Ent.mk false (pcell L) 0)], 1⟩ ∧ ART Try.prog 101 (cx w β n []) Try.f101.ntmps (cutAt Try.f101 0) ⟨[(0, AV.c (AC.sl 0 0 (List.length L) c)), (17, AV.c (AC.sl 0 0 (List.length L) c)), (18, AV.c (AC.i (↑(List.length L) : Int))), (19, AV.c (AC.i 0))], [(0, Ent.mk false (pcell L) 0)], 1⟩ (REff w β E)) :
    ART Try.prog 101 (cx w β n []) Try.f101.ntmps ([Item.code (bodyOf Try.f101)]) (Kn.start [AV.c (AC.sl 0 0 (List.length L) c)] [(0, Ent.mk false (pcell L) 0)] 1) (REff w β E) :=
  (tf ((↑(List.length L) : Int) == 0)).elim (fun h0 => (match l0 h0 with | e => art_eq (ckTop_w0 (and_yes h0 rfl)) e)) (fun h0 => (tf (decide (64 < (↑(List.length L) : Int)))).elim (fun h1 => (match l1 h0 h1 with | e => art_eq (ckTop_w1 (and_yes (not_yes h0) (and_yes h1 rfl))) e)) (fun h1 => (match l2 h0 h1 with | ⟨lo, z⟩ => ckTop_w2 (and_yes (not_yes h0) (and_yes (not_yes h1) rfl)) lo (fun _ hk => Nat.lt_of_lt_of_le hk hn) z)))
theorem ckA_w0 {L : List Ins} {c : Nat} {j : Nat} {w : World} {β : Bs} {n : Nat} (h : (decide ((↑j : Int) < (↑(List.length L) : Int)) && (decide ((↑j : Int) < (↑(List.length L) : Int)) && (Nat.ble (0 + Int.toNat (↑j : Int) * 5 + 5) (List.length (pcell L)) && (decide (Ins.op (elt L j) < 1) && true)))) = true) (c0 : Eff.mk (AV.ag (List.take 5 (List.drop (0 + Int.toNat (↑j : Int) * 5) (pcell L)))) [] none = Eff.mk (AV.ag (Ins.cs (elt L j))) [] none) :
    ART Try.prog 101 (cx w β n []) Try.f101.ntmps (cutAt Try.f101 0) (Kn.mk [(0, AV.c (AC.sl 0 0 (List.length L) c)), (17, AV.c (AC.sl 0 0 (List.length L) c)), (18, AV.c (AC.i (↑(List.length L) : Int))), (19, AV.c (AC.i (↑j : Int)))] [(0, Ent.mk false (pcell L) 0)] 1) (REff w β ⟨AV.c (AC.i 4), [], none⟩) :=
  run_eff [] (none) 2000 [Eff.mk (AV.ag (Ins.cs (elt L j))) [] none] [true, true, true] [true] [(5, 1)] Try.func101 (ekeys0 rfl n) (by kernel_rfl) h (cr_same c0 cr_nil)
theorem ckA_w1 {L : List Ins} {c : Nat} {j : Nat} {w : World} {β : Bs} {n : Nat} (h : (decide ((↑j : Int) < (↑(List.length L) : Int)) && (decide ((↑j : Int) < (↑(List.length L) : Int)) && (Nat.ble (0 + Int.toNat (↑j : Int) * 5 + 5) (List.length (pcell L)) && (!decide (Ins.op (elt L j) < 1) && (decide (15 < Ins.op (elt L j)) && true))))) = true) (c0 : Eff.mk (AV.ag (List.take 5 (List.drop (0 + Int.toNat (↑j : Int) * 5) (pcell L)))) [] none = Eff.mk (AV.ag (Ins.cs (elt L j))) [] none) :
    ART Try.prog 101 (cx w β n []) Try.f101.ntmps (cutAt Try.f101 0) (Kn.mk [(0, AV.c (AC.sl 0 0 (List.length L) c)), (17, AV.c (AC.sl 0 0 (List.length L) c)), (18, AV.c (AC.i (↑(List.length L) : Int))), (19, AV.c (AC.i (↑j : Int)))] [(0, Ent.mk false (pcell L) 0)] 1) (REff w β ⟨AV.c (AC.i 4), [], none⟩) :=
  run_eff [] (none) 2000 [Eff.mk (AV.ag (Ins.cs (elt L j))) [] none] [true, false, true] [true] [(5, 1)] Try.func101 (ekeys0 rfl n) (by kernel_rfl) h (cr_same c0 cr_nil)
theorem ckA_w2 {L : List Ins} {c : Nat} {j : Nat} {C : Cx} {R : Ending → World → Prop} (h : (decide ((↑j : Int) < (↑(List.length L) : Int)) && (decide ((↑j : Int) < (↑(List.length L) : Int)) && (Nat.ble (0 + Int.toNat (↑j : Int) * 5 + 5) (List.length (pcell L)) && (!decide (Ins.op (elt L j) < 1) && (!decide (15 < Ins.op (elt L j)) && true))))) = true) (c0 : Eff.mk (AV.ag (List.take 5 (List.drop (0 + Int.toNat (↑j : Int) * 5) (pcell L)))) [] none = Eff.mk (AV.ag (Ins.cs (elt L j))) [] none) (lo : Kn.Low ⟨[(0, AV.c (AC.sl 0 0 (List.length L) c)), (17, AV.c (AC.sl 0 0 (List.length L) c)), (18, AV.c (AC.i (↑(List.length L) : Int))), (19, AV.c (AC.i (IntKind.wrap IntKind.i64 ((↑j : Int) + 1))))], [(0, Ent.mk false (pcell L) 0)], 1⟩) (hF : ∀ k, C.F k → k < 1) (z : ART Try.prog 101 C Try.f101.ntmps (cutAt Try.f101 0) ⟨[(0, AV.c (AC.sl 0 0 (List.length L) c)), (17, AV.c (AC.sl 0 0 (List.length L) c)), (18, AV.c (AC.i (↑(List.length L) : Int))), (19, AV.c (AC.i (IntKind.wrap IntKind.i64 ((↑j : Int) + 1))))], [(0, Ent.mk false (pcell L) 0)], 1⟩ R) :
    ART Try.prog 101 C Try.f101.ntmps (cutAt Try.f101 0) (Kn.mk [(0, AV.c (AC.sl 0 0 (List.length L) c)), (17, AV.c (AC.sl 0 0 (List.length L) c)), (18, AV.c (AC.i (↑(List.length L) : Int))), (19, AV.c (AC.i (↑j : Int)))] [(0, Ent.mk false (pcell L) 0)] 1) R :=
  run_cut ⟨[(0, AV.c (AC.sl 0 0 (List.length L) c)), (17, AV.c (AC.sl 0 0 (List.length L) c)), (18, AV.c (AC.i (↑(List.length L) : Int))), (19, AV.c (AC.i (IntKind.wrap IntKind.i64 ((↑j : Int) + 1))))], [(0, Ent.mk false (pcell L) 0)], 1⟩ 2000 [Eff.mk (AV.ag (Ins.cs (elt L j))) [] none] [true, false, false] [true] [(5, 1)] Try.func101 (by kernel_rfl) h (cr_same c0 cr_nil) lo hF z
theorem ckA_all {L : List Ins} {c : Nat} {j : Nat} {w : World} {β : Bs} {n : Nat} {E : Eff} (hn : n ≤ 1)
    (l0 : (decide (Ins.op (elt L j) < 1)) = true → (decide ((↑j : Int) < (↑(List.length L) : Int))) = true ∧ (decide ((↑j : Int) < (↑(List.length L) : Int))) = true ∧ (Nat.ble (0 + Int.toNat (↑j : Int) * 5 + 5) (List.length (pcell L))) = true ∧ (Eff.mk (AV.ag (List.take 5 (List.drop (0 + Int.toNat (↑j : Int) * 5) (pcell L)))) [] none = Eff.mk (AV.ag (Ins.cs (elt L j))) [] none) ∧ ((⟨AV.c (AC.i 4), [], none⟩ : Eff) = E))
    (l1 : (decide (Ins.op (elt L j) < 1)) = false → (decide (15 < Ins.op (elt L j))) = true → (decide ((↑j : Int) < (↑(List.length L) : Int))) = true ∧ (decide ((↑j : Int) < (↑(List.length L) : Int))) = true ∧ (Nat.ble (0 + Int.toNat (↑j : Int) * 5 + 5) (List.length (pcell L))) = true ∧ (Eff.mk (AV.ag (List.take 5 (List.drop (0 + Int.toNat (↑j : Int) * 5) (pcell L)))) [] none = Eff.mk (AV.ag (Ins.cs (elt L j))) [] none) ∧ ((⟨AV.c (AC.i 4), [], none⟩ : Eff) = E))
    (l2 : (decide (Ins.op (elt L j) < 1)) = false → (decide (15 < Ins.op (elt L j))) = false → (decide ((↑j : Int) < (↑(List.length L) : Int))) = true ∧ (decide ((↑j : Int) < (↑(List.length L) : Int))) = true ∧ (Nat.ble (0 + Int.toNat (↑j : Int) * 5 + 5) (List.length (pcell L))) = true ∧ (Eff.mk (AV.ag (List.take 5 (List.drop (0 + Int.toNat (↑j : Int) * 5) (pcell L)))) [] none = Eff.mk (AV.ag (Ins.cs (elt L j))) [] none) ∧ Kn.Low ⟨[(0, AV.c (AC.sl 0 0 (List.length L) c)), (17, AV.c (AC.sl 0 0 (List.length L) c)), (18, AV.c (AC.i (↑(List.length L) : Int))), (19, AV.c (AC.i (IntKind.wrap IntKind.i64 ((↑j : Int) + 1))))], [(0, Ent.mk false (pcell L) 0)], 1⟩ ∧ ART Try.prog 101 (cx w β n []) Try.f101.ntmps (cutAt Try.f101 0) ⟨[(0, AV.c (AC.sl 0 0 (List.length L) c)), (17, AV.c (AC.sl 0 0 (List.length L) c)), (18, AV.c (AC.i (↑(List.length L) : Int))), (19, AV.c (AC.i (IntKind.wrap IntKind.i64 ((↑j : Int) + 1))))], [(0, Ent.mk false (pcell L) 0)], 1⟩ (REff w β E)) :
    ART Try.prog 101 (cx w β n []) Try.f101.ntmps (cutAt Try.f101 0) (Kn.mk [(0, AV.c (AC.sl 0 0 (List.length L) c)), (17, AV.c (AC.sl 0 0 (List.length L) c)), (18, AV.c (AC.i (↑(List.length L) : Int))), (19, AV.c (AC.i (↑j : Int)))] [(0, Ent.mk false (pcell L) 0)] 1) (REff w β E) :=
  (tf (decide (Ins.op (elt L j) < 1))).elim (fun h0 => (match l0 h0 with | ⟨o0, o1, o2, c0, e⟩ => art_eq (ckA_w0 (and_yes o0 (and_yes o1 (and_yes o2 (and_yes h0 rfl)))) c0) e)) (fun h0 => (tf (decide (15 < Ins.op (elt L j)))).elim (fun h1 => (match l1 h0 h1 with | ⟨o0, o1, o2, c0, e⟩ => art_eq (ckA_w1 (and_yes o0 (and_yes o1 (and_yes o2 (and_yes (not_yes h0) (and_yes h1 rfl))))) c0) e)) (fun h1 => (match l2 h0 h1 with | ⟨o0, o1, o2, c0, lo, z⟩ => ckA_w2 (and_yes o0 (and_yes o1 (and_yes o2 (and_yes (not_yes h0) (and_yes (not_yes h1) rfl))))) c0 lo (fun _ hk => Nat.lt_of_lt_of_le hk hn) z)))
theorem ckAx_w0 {L : List Ins} {c : Nat} {j : Nat} {C : Cx} {R : Ending → World → Prop} (h : (!decide ((↑j : Int) < (↑(List.length L) : Int)) && true) = true) (lo : Kn.Low ⟨[(0, AV.c (AC.sl 0 0 (List.length L) c)), (32, AV.c (AC.sl 0 0 (List.length L) c)), (33, AV.c (AC.i (↑(List.length L) : Int))), (34, AV.c (AC.i 0))], [(0, Ent.mk false (pcell L) 0)], 1⟩) (hF : ∀ k, C.F k → k < 1) (z : ART Try.prog 101 C Try.f101.ntmps (cutAt Try.f101 1) ⟨[(0, AV.c (AC.sl 0 0 (List.length L) c)), (32, AV.c (AC.sl 0 0 (List.length L) c)), (33, AV.c (AC.i (↑(List.length L) : Int))), (34, AV.c (AC.i 0))], [(0, Ent.mk false (pcell L) 0)], 1⟩ R) :
    ART Try.prog 101 C Try.f101.ntmps (cutAt Try.f101 0) (Kn.mk [(0, AV.c (AC.sl 0 0 (List.length L) c)), (17, AV.c (AC.sl 0 0 (List.length L) c)), (18, AV.c (AC.i (↑(List.length L) : Int))), (19, AV.c (AC.i (↑j : Int)))] [(0, Ent.mk false (pcell L) 0)] 1) R :=
  run_cut ⟨[(0, AV.c (AC.sl 0 0 (List.length L) c)), (32, AV.c (AC.sl 0 0 (List.length L) c)), (33, AV.c (AC.i (↑(List.length L) : Int))), (34, AV.c (AC.i 0))], [(0, Ent.mk false (pcell L) 0)], 1⟩ 2000 [] [false] [true] [] Try.func101 (by kernel_rfl) h cr_nil lo hF z
theorem ckB_w0 {L : List Ins} {c : Nat} {j : Nat} {w : World} {β : Bs} {n : Nat} (h : (decide ((↑j : Int) < (↑(List.length L) : Int)) && (decide ((↑j : Int) < (↑(List.length L) : Int)) && (Nat.ble (0 + Int.toNat (↑j : Int) * 5 + 5) (List.length (pcell L)) && (!inB (elt L j) (↑(List.length L - 1 - j) : Int) && true)))) = true) (c0 : Eff.mk (AV.ag (List.take 5 (List.drop (0 + Int.toNat (↑j : Int) * 5) (pcell L)))) [] none = Eff.mk (AV.ag (Ins.cs (elt L j))) [] none) (c1 : Eff.mk (AV.c (AC.i (IntKind.wrap IntKind.i64 (IntKind.wrap IntKind.i64 ((↑(List.length L) : Int) - 1) - (↑j : Int))))) [] none = Eff.mk (AV.c (AC.i (↑(List.length L - 1 - j) : Int))) [] none) (c2 : CallOK Try.prog (CallRec.mk 114 [AV.ag (Ins.cs (elt L j)), AV.c (AC.i (↑(List.length L - 1 - j) : Int))] [] (Eff.mk (AV.c (AC.b (inB (elt L j) (↑(List.length L - 1 - j) : Int)))) [] none))) :
    ART Try.prog 101 (cx w β n []) Try.f101.ntmps (cutAt Try.f101 1) (Kn.mk [(0, AV.c (AC.sl 0 0 (List.length L) c)), (32, AV.c (AC.sl 0 0 (List.length L) c)), (33, AV.c (AC.i (↑(List.length L) : Int))), (34, AV.c (AC.i (↑j : Int)))] [(0, Ent.mk false (pcell L) 0)] 1) (REff w β ⟨AV.c (AC.i 3), [], none⟩) :=
  run_eff [] (none) 2000 [Eff.mk (AV.ag (Ins.cs (elt L j))) [] none, Eff.mk (AV.c (AC.i (↑(List.length L - 1 - j) : Int))) [] none, Eff.mk (AV.c (AC.b (inB (elt L j) (↑(List.length L - 1 - j) : Int)))) [] none] [true, true] [true] [(11, 2), (12, 5)] Try.func101 (ekeys0 rfl n) (by kernel_rfl) h (cr_same c0 (cr_same c1 (cr_cons c2 cr_nil)))
theorem ckB_w1 {L : List Ins} {c : Nat} {j : Nat} {C : Cx} {R : Ending → World → Prop} (h : (decide ((↑j : Int) < (↑(List.length L) : Int)) && (decide ((↑j : Int) < (↑(List.length L) : Int)) && (Nat.ble (0 + Int.toNat (↑j : Int) * 5 + 5) (List.length (pcell L)) && (!!inB (elt L j) (↑(List.length L - 1 - j) : Int) && true)))) = true) (c0 : Eff.mk (AV.ag (List.take 5 (List.drop (0 + Int.toNat (↑j : Int) * 5) (pcell L)))) [] none = Eff.mk (AV.ag (Ins.cs (elt L j))) [] none) (c1 : Eff.mk (AV.c (AC.i (IntKind.wrap IntKind.i64 (IntKind.wrap IntKind.i64 ((↑(List.length L) : Int) - 1) - (↑j : Int))))) [] none = Eff.mk (AV.c (AC.i (↑(List.length L - 1 - j) : Int))) [] none) (c2 : CallOK Try.prog (CallRec.mk 114 [AV.ag (Ins.cs (elt L j)), AV.c (AC.i (↑(List.length L - 1 - j) : Int))] [] (Eff.mk (AV.c (AC.b (inB (elt L j) (↑(List.length L - 1 - j) : Int)))) [] none))) (lo : Kn.Low ⟨[(0, AV.c (AC.sl 0 0 (List.length L) c)), (32, AV.c (AC.sl 0 0 (List.length L) c)), (33, AV.c (AC.i (↑(List.length L) : Int))), (34, AV.c (AC.i (IntKind.wrap IntKind.i64 ((↑j : Int) + 1))))], [(0, Ent.mk false (pcell L) 0)], 1⟩) (hF : ∀ k, C.F k → k < 1) (z : ART Try.prog 101 C Try.f101.ntmps (cutAt Try.f101 1) ⟨[(0, AV.c (AC.sl 0 0 (List.length L) c)), (32, AV.c (AC.sl 0 0 (List.length L) c)), (33, AV.c (AC.i (↑(List.length L) : Int))), (34, AV.c (AC.i (IntKind.wrap IntKind.i64 ((↑j : Int) + 1))))], [(0, Ent.mk false (pcell L) 0)], 1⟩ R) :
    ART Try.prog 101 C Try.f101.ntmps (cutAt Try.f101 1) (Kn.mk [(0, AV.c (AC.sl 0 0 (List.length L) c)), (32, AV.c (AC.sl 0 0 (List.length L) c)), (33, AV.c (AC.i (↑(List.length L) : Int))), (34, AV.c (AC.i (↑j : Int)))] [(0, Ent.mk false (pcell L) 0)] 1) R :=
  run_cut ⟨[(0, AV.c (AC.sl 0 0 (List.length L) c)), (32, AV.c (AC.sl 0 0 (List.length L) c)), (33, AV.c (AC.i (↑(List.length L) : Int))), (34, AV.c (AC.i (IntKind.wrap IntKind.i64 ((↑j : Int) + 1))))], [(0, Ent.mk false (pcell L) 0)], 1⟩ 2000 [Eff.mk (AV.ag (Ins.cs (elt L j))) [] none, Eff.mk (AV.c (AC.i (↑(List.length L - 1 - j) : Int))) [] none, Eff.mk (AV.c (AC.b (inB (elt L j) (↑(List.length L - 1 - j) : Int)))) [] none] [true, false] [true] [(11, 2), (12, 5)] Try.func101 (by kernel_rfl) h (cr_same c0 (cr_same c1 (cr_cons c2 cr_nil))) lo hF z
theorem ckB_all {L : List Ins} {c : Nat} {j : Nat} {w : World} {β : Bs} {n : Nat} {E : Eff} (hn : n ≤ 1)
    (l0 : (!inB (elt L j) (↑(List.length L - 1 - j) : Int)) = true → (decide ((↑j : Int) < (↑(List.length L) : Int))) = true ∧ (decide ((↑j : Int) < (↑(List.length L) : Int))) = true ∧ (Nat.ble (0 + Int.toNat (↑j : Int) * 5 + 5) (List.length (pcell L))) = true ∧ (Eff.mk (AV.ag (List.take 5 (List.drop (0 + Int.toNat (↑j : Int) * 5) (pcell L)))) [] none = Eff.mk (AV.ag (Ins.cs (elt L j))) [] none) ∧ (Eff.mk (AV.c (AC.i (IntKind.wrap IntKind.i64 (IntKind.wrap IntKind.i64 ((↑(List.length L) : Int) - 1) - (↑j : Int))))) [] none = Eff.mk (AV.c (AC.i (↑(List.length L - 1 - j) : Int))) [] none) ∧ (CallOK Try.prog (CallRec.mk 114 [AV.ag (Ins.cs (elt L j)), AV.c (AC.i (↑(List.length L - 1 - j) : Int))] [] (Eff.mk (AV.c (AC.b (inB (elt L j) (↑(List.length L - 1 - j) : Int)))) [] none))) ∧ ((⟨AV.c (AC.i 3), [], none⟩ : Eff) = E))
    (l1 : (!inB (elt L j) (↑(List.length L - 1 - j) : Int)) = false → (decide ((↑j : Int) < (↑(List.length L) : Int))) = true ∧ (decide ((↑j : Int) < (↑(List.length L) : Int))) = true ∧ (Nat.ble (0 + Int.toNat (↑j : Int) * 5 + 5) (List.length (pcell L))) = true ∧ (Eff.mk (AV.ag (List.take 5 (List.drop (0 + Int.toNat (↑j : Int) * 5) (pcell L)))) [] none = Eff.mk (AV.ag (Ins.cs (elt L j))) [] none) ∧ (Eff.mk (AV.c (AC.i (IntKind.wrap IntKind.i64 (IntKind.wrap IntKind.i64 ((↑(List.length L) : Int) - 1) - (↑j : Int))))) [] none = Eff.mk (AV.c (AC.i (↑(List.length L - 1 - j) : Int))) [] none) ∧ (CallOK Try.prog (CallRec.mk 114 [AV.ag (Ins.cs (elt L j)), AV.c (AC.i (↑(List.length L - 1 - j) : Int))] [] (Eff.mk (AV.c (AC.b (inB (elt L j) (↑(List.length L - 1 - j) : Int)))) [] none))) ∧ Kn.Low ⟨[(0, AV.c (AC.sl 0 0 (List.length L) c)), (32, AV.c (AC.sl 0 0 (List.length L) c)), (33, AV.c (AC.i (↑(List.length L) : Int))), (34, AV.c (AC.i (IntKind.wrap IntKind.i64 ((↑j : Int) + 1))))], [(0, Ent.mk false (pcell L) 0)], 1⟩ ∧ ART Try.prog 101 (cx w β n []) Try.f101.ntmps (cutAt Try.f101 1) ⟨[(0, AV.c (AC.sl 0 0 (List.length L) c)), (32, AV.c (AC.sl 0 0 (List.length L) c)), (33, AV.c (AC.i (↑(List.length L) : Int))), (34, AV.c (AC.i (IntKind.wrap IntKind.i64 ((↑j : Int) + 1))))], [(0, Ent.mk false (pcell L) 0)], 1⟩ (REff w β E)) :
    ART Try.prog 101 (cx w β n []) Try.f101.ntmps (cutAt Try.f101 1) (Kn.mk [(0, AV.c (AC.sl 0 0 (List.length L) c)), (32, AV.c (AC.sl 0 0 (List.length L) c)), (33, AV.c (AC.i (↑(List.length L) : Int))), (34, AV.c (AC.i (↑j : Int)))] [(0, Ent.mk false (pcell L) 0)] 1) (REff w β E) :=
  (tf (!inB (elt L j) (↑(List.length L - 1 - j) : Int))).elim (fun h0 => (match l0 h0 with | ⟨o0, o1, o2, c0, c1, c2, e⟩ => art_eq (ckB_w0 (and_yes o0 (and_yes o1 (and_yes o2 (and_yes h0 rfl)))) c0 c1 c2) e)) (fun h0 => (match l1 h0 with | ⟨o0, o1, o2, c0, c1, c2, lo, z⟩ => ckB_w1 (and_yes o0 (and_yes o1 (and_yes o2 (and_yes (not_yes h0) rfl)))) c0 c1 c2 lo (fun _ hk => Nat.lt_of_lt_of_le hk hn) z))
theorem ckBx_w0 {L : List Ins} {c : Nat} {j : Nat} {C : Cx} {R : Ending → World → Prop} (h : (!decide ((↑j : Int) < (↑(List.length L) : Int)) && true) = true) (lo : Kn.Low ⟨[(0, AV.c (AC.sl 0 0 (List.length L) c)), (48, AV.c (AC.sl 0 0 (List.length L) c)), (49, AV.c (AC.i (↑(List.length L) : Int))), (50, AV.c (AC.i 0))], [(0, Ent.mk false (pcell L) 0)], 1⟩) (hF : ∀ k, C.F k → k < 1) (z : ART Try.prog 101 C Try.f101.ntmps (cutAt Try.f101 2) ⟨[(0, AV.c (AC.sl 0 0 (List.length L) c)), (48, AV.c (AC.sl 0 0 (List.length L) c)), (49, AV.c (AC.i (↑(List.length L) : Int))), (50, AV.c (AC.i 0))], [(0, Ent.mk false (pcell L) 0)], 1⟩ R) :
    ART Try.prog 101 C Try.f101.ntmps (cutAt Try.f101 1) (Kn.mk [(0, AV.c (AC.sl 0 0 (List.length L) c)), (32, AV.c (AC.sl 0 0 (List.length L) c)), (33, AV.c (AC.i (↑(List.length L) : Int))), (34, AV.c (AC.i (↑j : Int)))] [(0, Ent.mk false (pcell L) 0)] 1) R :=
  run_cut ⟨[(0, AV.c (AC.sl 0 0 (List.length L) c)), (48, AV.c (AC.sl 0 0 (List.length L) c)), (49, AV.c (AC.i (↑(List.length L) : Int))), (50, AV.c (AC.i 0))], [(0, Ent.mk false (pcell L) 0)], 1⟩ 2000 [] [false] [true] [] Try.func101 (by kernel_rfl) h cr_nil lo hF z
theorem ckC_w0 {L : List Ins} {c : Nat} {j : Nat} {w : World} {β : Bs} {n : Nat} (h : (decide ((↑j : Int) < (↑(List.length L) : Int)) && (decide ((↑j : Int) < (↑(List.length L) : Int)) && (Nat.ble (0 + Int.toNat (↑j : Int) * 5 + 5) (List.length (pcell L)) && (!bareB (elt L j) && true)))) = true) (c0 : Eff.mk (AV.ag (List.take 5 (List.drop (0 + Int.toNat (↑j : Int) * 5) (pcell L)))) [] none = Eff.mk (AV.ag (Ins.cs (elt L j))) [] none) (c1 : CallOK Try.prog (CallRec.mk 115 [AV.ag (Ins.cs (elt L j))] [] (Eff.mk (AV.c (AC.b (bareB (elt L j)))) [] none))) :
    ART Try.prog 101 (cx w β n []) Try.f101.ntmps (cutAt Try.f101 2) (Kn.mk [(0, AV.c (AC.sl 0 0 (List.length L) c)), (48, AV.c (AC.sl 0 0 (List.length L) c)), (49, AV.c (AC.i (↑(List.length L) : Int))), (50, AV.c (AC.i (↑j : Int)))] [(0, Ent.mk false (pcell L) 0)] 1) (REff w β ⟨AV.c (AC.i 1), [], none⟩) :=
  run_eff [] (none) 2000 [Eff.mk (AV.ag (Ins.cs (elt L j))) [] none, Eff.mk (AV.c (AC.b (bareB (elt L j)))) [] none] [true, true] [true] [(17, 1)] Try.func101 (ekeys0 rfl n) (by kernel_rfl) h (cr_same c0 (cr_cons c1 cr_nil))
theorem ckC_w1 {L : List Ins} {c : Nat} {j : Nat} {C : Cx} {R : Ending → World → Prop} (h : (decide ((↑j : Int) < (↑(List.length L) : Int)) && (decide ((↑j : Int) < (↑(List.length L) : Int)) && (Nat.ble (0 + Int.toNat (↑j : Int) * 5 + 5) (List.length (pcell L)) && (!!bareB (elt L j) && true)))) = true) (c0 : Eff.mk (AV.ag (List.take 5 (List.drop (0 + Int.toNat (↑j : Int) * 5) (pcell L)))) [] none = Eff.mk (AV.ag (Ins.cs (elt L j))) [] none) (c1 : CallOK Try.prog (CallRec.mk 115 [AV.ag (Ins.cs (elt L j))] [] (Eff.mk (AV.c (AC.b (bareB (elt L j)))) [] none))) (lo : Kn.Low ⟨[(0, AV.c (AC.sl 0 0 (List.length L) c)), (48, AV.c (AC.sl 0 0 (List.length L) c)), (49, AV.c (AC.i (↑(List.length L) : Int))), (50, AV.c (AC.i (IntKind.wrap IntKind.i64 ((↑j : Int) + 1))))], [(0, Ent.mk false (pcell L) 0)], 1⟩) (hF : ∀ k, C.F k → k < 1) (z : ART Try.prog 101 C Try.f101.ntmps (cutAt Try.f101 2) ⟨[(0, AV.c (AC.sl 0 0 (List.length L) c)), (48, AV.c (AC.sl 0 0 (List.length L) c)), (49, AV.c (AC.i (↑(List.length L) : Int))), (50, AV.c (AC.i (IntKind.wrap IntKind.i64 ((↑j : Int) + 1))))], [(0, Ent.mk false (pcell L) 0)], 1⟩ R) :
    ART Try.prog 101 C Try.f101.ntmps (cutAt Try.f101 2) (Kn.mk [(0, AV.c (AC.sl 0 0 (List.length L) c)), (48, AV.c (AC.sl 0 0 (List.length L) c)), (49, AV.c (AC.i (↑(List.length L) : Int))), (50, AV.c (AC.i (↑j : Int)))] [(0, Ent.mk false (pcell L) 0)] 1) R :=
  run_cut ⟨[(0, AV.c (AC.sl 0 0 (List.length L) c)), (48, AV.c (AC.sl 0 0 (List.length L) c)), (49, AV.c (AC.i (↑(List.length L) : Int))), (50, AV.c (AC.i (IntKind.wrap IntKind.i64 ((↑j : Int) + 1))))], [(0, Ent.mk false (pcell L) 0)], 1⟩ 2000 [Eff.mk (AV.ag (Ins.cs (elt L j))) [] none, Eff.mk (AV.c (AC.b (bareB (elt L j)))) [] none] [true, false] [true] [(17, 1)] Try.func101 (by kernel_rfl) h (cr_same c0 (cr_cons c1 cr_nil)) lo hF z
theorem ckC_all {L : List Ins} {c : Nat} {j : Nat} {w : World} {β : Bs} {n : Nat} {E : Eff} (hn : n ≤ 1)
    (l0 : (!bareB (elt L j)) = true → (decide ((↑j : Int) < (↑(List.length L) : Int))) = true ∧ (decide ((↑j : Int) < (↑(List.length L) : Int))) = true ∧ (Nat.ble (0 + Int.toNat (↑j : Int) * 5 + 5) (List.length (pcell L))) = true ∧ (Eff.mk (AV.ag (List.take 5 (List.drop (0 + Int.toNat (↑j : Int) * 5) (pcell L)))) [] none = Eff.mk (AV.ag (Ins.cs (elt L j))) [] none) ∧ (CallOK Try.prog (CallRec.mk 115 [AV.ag (Ins.cs (elt L j))] [] (Eff.mk (AV.c (AC.b (bareB (elt L j)))) [] none))) ∧ ((⟨AV.c (AC.i 1), [], none⟩ : Eff) = E))
    (l1 : (!bareB (elt L j)) = false → (decide ((↑j : Int) < (↑(List.length L) : Int))) = true ∧ (decide ((↑j : Int) < (↑(List.length L) : Int))) = true ∧ (Nat.ble (0 + Int.toNat (↑j : Int) * 5 + 5) (List.length (pcell L))) = true ∧ (Eff.mk (AV.ag (List.take 5 (List.drop (0 + Int.toNat (↑j : Int) * 5) (pcell L)))) [] none = Eff.mk (AV.ag (Ins.cs (elt L j))) [] none) ∧ (CallOK Try.prog (CallRec.mk 115 [AV.ag (Ins.cs (elt L j))] [] (Eff.mk (AV.c (AC.b (bareB (elt L j)))) [] none))) ∧ Kn.Low ⟨[(0, AV.c (AC.sl 0 0 (List.length L) c)), (48, AV.c (AC.sl 0 0 (List.length L) c)), (49, AV.c (AC.i (↑(List.length L) : Int))), (50, AV.c (AC.i (IntKind.wrap IntKind.i64 ((↑j : Int) + 1))))], [(0, Ent.mk false (pcell L) 0)], 1⟩ ∧ ART Try.prog 101 (cx w β n []) Try.f101.ntmps (cutAt Try.f101 2) ⟨[(0, AV.c (AC.sl 0 0 (List.length L) c)), (48, AV.c (AC.sl 0 0 (List.length L) c)), (49, AV.c (AC.i (↑(List.length L) : Int))), (50, AV.c (AC.i (IntKind.wrap IntKind.i64 ((↑j : Int) + 1))))], [(0, Ent.mk false (pcell L) 0)], 1⟩ (REff w β E)) :
    ART Try.prog 101 (cx w β n []) Try.f101.ntmps (cutAt Try.f101 2) (Kn.mk [(0, AV.c (AC.sl 0 0 (List.length L) c)), (48, AV.c (AC.sl 0 0 (List.length L) c)), (49, AV.c (AC.i (↑(List.length L) : Int))), (50, AV.c (AC.i (↑j : Int)))] [(0, Ent.mk false (pcell L) 0)] 1) (REff w β E) :=
  (tf (!bareB (elt L j))).elim (fun h0 => (match l0 h0 with | ⟨o0, o1, o2, c0, c1, e⟩ => art_eq (ckC_w0 (and_yes o0 (and_yes o1 (and_yes o2 (and_yes h0 rfl)))) c0 c1) e)) (fun h0 => (match l1 h0 with | ⟨o0, o1, o2, c0, c1, lo, z⟩ => ckC_w1 (and_yes o0 (and_yes o1 (and_yes o2 (and_yes (not_yes h0) rfl)))) c0 c1 lo (fun _ hk => Nat.lt_of_lt_of_le hk hn) z))
theorem ckCx_w0 {L : List Ins} {c : Nat} {j : Nat} {w : World} {β : Bs} {n : Nat} (h : (!decide ((↑j : Int) < (↑(List.length L) : Int)) && (decide (0 ≤ IntKind.wrap IntKind.i64 ((↑(List.length L) : Int) - 1)) && decide (IntKind.wrap IntKind.i64 ((↑(List.length L) : Int) - 1) < (↑(List.length L) : Int)) && (AC.isI (Option.getD (pcell L)[0 + Int.toNat (IntKind.wrap IntKind.i64 ((↑(List.length L) : Int) - 1)) * 5 + 0]? (AC.b false)) && Nat.blt (0 + Int.toNat (IntKind.wrap IntKind.i64 ((↑(List.length L) : Int) - 1)) * 5 + 0) (List.length (pcell L)) && (lastOp L != 15 && true)))) = true) (c0 : Eff.mk (AV.c (AC.i (AC.asI (Option.getD (pcell L)[0 + Int.toNat (IntKind.wrap IntKind.i64 ((↑(List.length L) : Int) - 1)) * 5 + 0]? (AC.b false))))) [] none = Eff.mk (AV.c (AC.i (lastOp L))) [] none) :
    ART Try.prog 101 (cx w β n []) Try.f101.ntmps (cutAt Try.f101 2) (Kn.mk [(0, AV.c (AC.sl 0 0 (List.length L) c)), (48, AV.c (AC.sl 0 0 (List.length L) c)), (49, AV.c (AC.i (↑(List.length L) : Int))), (50, AV.c (AC.i (↑j : Int)))] [(0, Ent.mk false (pcell L) 0)] 1) (REff w β ⟨AV.c (AC.i 1), [], none⟩) :=
  run_eff [] (none) 2000 [Eff.mk (AV.c (AC.i (lastOp L))) [] none] [false, true] [true] [(21, 6)] Try.func101 (ekeys0 rfl n) (by kernel_rfl) h (cr_same c0 cr_nil)
theorem ckCx_w1 {L : List Ins} {c : Nat} {j : Nat} {w : World} {β : Bs} {n : Nat} (h : (!decide ((↑j : Int) < (↑(List.length L) : Int)) && (decide (0 ≤ IntKind.wrap IntKind.i64 ((↑(List.length L) : Int) - 1)) && decide (IntKind.wrap IntKind.i64 ((↑(List.length L) : Int) - 1) < (↑(List.length L) : Int)) && (AC.isI (Option.getD (pcell L)[0 + Int.toNat (IntKind.wrap IntKind.i64 ((↑(List.length L) : Int) - 1)) * 5 + 0]? (AC.b false)) && Nat.blt (0 + Int.toNat (IntKind.wrap IntKind.i64 ((↑(List.length L) : Int) - 1)) * 5 + 0) (List.length (pcell L)) && (!lastOp L != 15 && true)))) = true) (c0 : Eff.mk (AV.c (AC.i (AC.asI (Option.getD (pcell L)[0 + Int.toNat (IntKind.wrap IntKind.i64 ((↑(List.length L) : Int) - 1)) * 5 + 0]? (AC.b false))))) [] none = Eff.mk (AV.c (AC.i (lastOp L))) [] none) :
    ART Try.prog 101 (cx w β n []) Try.f101.ntmps (cutAt Try.f101 2) (Kn.mk [(0, AV.c (AC.sl 0 0 (List.length L) c)), (48, AV.c (AC.sl 0 0 (List.length L) c)), (49, AV.c (AC.i (↑(List.length L) : Int))), (50, AV.c (AC.i (↑j : Int)))] [(0, Ent.mk false (pcell L) 0)] 1) (REff w β ⟨AV.c (AC.i 0), [], none⟩) :=
  run_eff [] (none) 2000 [Eff.mk (AV.c (AC.i (lastOp L))) [] none] [false, false] [true] [(21, 6)] Try.func101 (ekeys0 rfl n) (by kernel_rfl) h (cr_same c0 cr_nil)
theorem ckCx_all {L : List Ins} {c : Nat} {j : Nat} {w : World} {β : Bs} {n : Nat} {E : Eff}
    (l0 : (lastOp L != 15) = true → (!decide ((↑j : Int) < (↑(List.length L) : Int))) = true ∧ (decide (0 ≤ IntKind.wrap IntKind.i64 ((↑(List.length L) : Int) - 1)) && decide (IntKind.wrap IntKind.i64 ((↑(List.length L) : Int) - 1) < (↑(List.length L) : Int))) = true ∧ (AC.isI (Option.getD (pcell L)[0 + Int.toNat (IntKind.wrap IntKind.i64 ((↑(List.length L) : Int) - 1)) * 5 + 0]? (AC.b false)) && Nat.blt (0 + Int.toNat (IntKind.wrap IntKind.i64 ((↑(List.length L) : Int) - 1)) * 5 + 0) (List.length (pcell L))) = true ∧ (Eff.mk (AV.c (AC.i (AC.asI (Option.getD (pcell L)[0 + Int.toNat (IntKind.wrap IntKind.i64 ((↑(List.length L) : Int) - 1)) * 5 + 0]? (AC.b false))))) [] none = Eff.mk (AV.c (AC.i (lastOp L))) [] none) ∧ ((⟨AV.c (AC.i 1), [], none⟩ : Eff) = E))
    (l1 : (lastOp L != 15) = false → (!decide ((↑j : Int) < (↑(List.length L) : Int))) = true ∧ (decide (0 ≤ IntKind.wrap IntKind.i64 ((↑(List.length L) : Int) - 1)) && decide (IntKind.wrap IntKind.i64 ((↑(List.length L) : Int) - 1) < (↑(List.length L) : Int))) = true ∧ (AC.isI (Option.getD (pcell L)[0 + Int.toNat (IntKind.wrap IntKind.i64 ((↑(List.length L) : Int) - 1)) * 5 + 0]? (AC.b false)) && Nat.blt (0 + Int.toNat (IntKind.wrap IntKind.i64 ((↑(List.length L) : Int) - 1)) * 5 + 0) (List.length (pcell L))) = true ∧ (Eff.mk (AV.c (AC.i (AC.asI (Option.getD (pcell L)[0 + Int.toNat (IntKind.wrap IntKind.i64 ((↑(List.length L) : Int) - 1)) * 5 + 0]? (AC.b false))))) [] none = Eff.mk (AV.c (AC.i (lastOp L))) [] none) ∧ ((⟨AV.c (AC.i 0), [], none⟩ : Eff) = E)) :
    ART Try.prog 101 (cx w β n []) Try.f101.ntmps (cutAt Try.f101 2) (Kn.mk [(0, AV.c (AC.sl 0 0 (List.length L) c)), (48, AV.c (AC.sl 0 0 (List.length L) c)), (49, AV.c (AC.i (↑(List.length L) : Int))), (50, AV.c (AC.i (↑j : Int)))] [(0, Ent.mk false (pcell L) 0)] 1) (REff w β E) :=
  (tf (lastOp L != 15)).elim (fun h0 => (match l0 h0 with | ⟨o0, o1, o2, c0, e⟩ => art_eq (ckCx_w0 (and_yes o0 (and_yes o1 (and_yes o2 (and_yes h0 rfl)))) c0) e)) (fun h0 => (match l1 h0 with | ⟨o0, o1, o2, c0, e⟩ => art_eq (ckCx_w1 (and_yes o0 (and_yes o1 (and_yes o2 (and_yes (not_yes h0) rfl)))) c0) e))
theorem ckNil_w0 :
    CallOK Try.prog ⟨101, [AV.c nilSl], [], ⟨AV.c (AC.i 2), [], none⟩⟩ :=
  val_run 2000 [] [true, true] [] [] Try.func101 rfl rfl rfl rfl (by kernel_rfl) rfl cr_nil
end Go.Proofs.Ytkigmocchaikgaa

/- The contract of code.Check. -/
namespace Go.Proofs.Ytkigmocchaikgaa
open Go.RowKit

section
variable {L : List Ins} {c : Nat} {w : World} {β : Bs} {E : Eff}
abbrev ckKn (L : List Ins) (c a b d : Nat) (j : Int) : Kn := ⟨[(0, .c (.sl 0 0 L.length c)), (a, .c (.sl 0 0 L.length c)), (b, .c (.i L.length)), (d, .c (.i j))], pH L, 1⟩
theorem ckA_loop (hL : L.length ≤ 64) : ∀ n j : Nat, j + n = L.length → ((L.drop j).all kindB = false → ⟨.c (.i 4), [], none⟩ = E) →
    ((L.drop j).all kindB = true → ART Try.prog 101 (cx w β 1 []) Try.f101.ntmps (cutAt Try.f101 1) (ckKn L c 32 33 34 0) (REff w β E)) →
    ART Try.prog 101 (cx w β 1 []) Try.f101.ntmps (cutAt Try.f101 0) (ckKn L c 17 18 19 j) (REff w β E)
  | 0, j, h, hy, hz => by
    refine ckAx_w0 (by rw [jn (by omega)]; rfl) (low_p rfl) (fun _ h => h) (hz ?_)
    rw [List.drop_eq_nil_of_le (by omega)]; rfl
  | n + 1, j, h, hy, hz => by
    have hj : j < L.length := by omega
    rw [drop_elt hj, List.all_cons] at hy hz
    refine ckA_all (by omega) (fun a => ⟨jl hj, jl hj, pble hj, elt_eff hj, hy ?_⟩) (fun a b => ⟨jl hj, jl hj, pble hj, elt_eff hj, hy ?_⟩) (fun a b => ⟨jl hj, jl hj, pble hj, elt_eff hj, low_p rfl, ?_⟩)
    · have : kindB (elt L j) = false := by simp at a; simp [kindB]; omega
      rw [this]; rfl
    · have : kindB (elt L j) = false := by simp at b; simp [kindB]; omega
      rw [this]; rfl
    · have : kindB (elt L j) = true := by simp at a b; simp [kindB]; omega
      rw [this] at hy hz
      rw [wrapS (by omega)]
      exact ckA_loop hL n (j + 1) (by omega) (fun h => hy h) (fun h => hz h)
theorem ckB_loop (hL : L.length ≤ 64) : ∀ n j : Nat, j + n = L.length → (inAll (L.drop j) = false → ⟨.c (.i 3), [], none⟩ = E) →
    (inAll (L.drop j) = true → ART Try.prog 101 (cx w β 1 []) Try.f101.ntmps (cutAt Try.f101 2) (ckKn L c 48 49 50 0) (REff w β E)) →
    ART Try.prog 101 (cx w β 1 []) Try.f101.ntmps (cutAt Try.f101 1) (ckKn L c 32 33 34 j) (REff w β E)
  | 0, j, h, hy, hz => by
    refine ckBx_w0 (by rw [jn (by omega)]; rfl) (low_p rfl) (fun _ h => h) (hz ?_)
    rw [List.drop_eq_nil_of_le (by omega)]; rfl
  | n + 1, j, h, hy, hz => by
    have hj : j < L.length := by omega
    have el : ((L.drop (j + 1)).length : Int) = ((L.length - 1 - j : Nat) : Int) := by rw [List.length_drop]; omega
    rw [drop_elt hj, inAll, el] at hy hz
    have ew : IntKind.wrap IntKind.i64 (IntKind.wrap IntKind.i64 ((L.length : Int) - 1) - (j : Int)) = ((L.length - 1 - j : Nat) : Int) := by
      rw [wrapN (n := (L.length : Int) - 1) (by omega) (by omega), wrapN (by omega) (by omega)]; omega
    have c1 : Eff.mk (AV.c (AC.i (IntKind.wrap IntKind.i64 (IntKind.wrap IntKind.i64 ((L.length : Int) - 1) - (j : Int))))) [] none = Eff.mk (AV.c (AC.i ((L.length - 1 - j : Nat) : Int))) [] none := by rw [ew]
    refine ckB_all (by omega) (fun a => ⟨jl hj, jl hj, pble hj, elt_eff hj, c1, inBounds_ok _ _, hy ?_⟩) (fun a => ⟨jl hj, jl hj, pble hj, elt_eff hj, c1, inBounds_ok _ _, low_p rfl, ?_⟩)
    · have : inB (elt L j) ((L.length - 1 - j : Nat) : Int) = false := by simpa using a
      rw [this]; rfl
    · have : inB (elt L j) ((L.length - 1 - j : Nat) : Int) = true := by simpa using a
      rw [this] at hy hz
      rw [wrapS (by omega)]
      exact ckB_loop hL n (j + 1) (by omega) (fun h => hy h) (fun h => hz h)
theorem lastOp_eff (h0 : 0 < L.length) (hL : L.length ≤ 64) : (pcell L)[0 + Int.toNat (IntKind.wrap IntKind.i64 ((L.length : Int) - 1)) * 5 + 0]? = some (.i (lastOp L)) := by
  rw [wrapN (by omega) (by omega), show (0 + ((L.length : Int) - 1).toNat * 5 + 0) = (L.length - 1) * 5 by omega]
  have h1 := pcell_op (L := L) (k := L.length - 1) (by omega) (.b false)
  have h2 : (L.length - 1) * 5 < (pcell L).length := by rw [pcell_length]; omega
  rw [List.getD_eq_getElem?_getD, List.getElem?_eq_getElem h2] at h1
  rw [List.getElem?_eq_getElem h2]
  refine congrArg some (h1.trans ?_)
  unfold lastOp elt
  rw [List.getLast?_eq_getElem?, List.getD_eq_getElem?_getD, List.getElem?_eq_getElem (by omega)]
  rfl
theorem ckC_loop (h0 : 0 < L.length) (hL : L.length ≤ 64) : ∀ n j : Nat, j + n = L.length → ((L.drop j).all bareB = false → ⟨.c (.i 1), [], none⟩ = E) →
    ((L.drop j).all bareB = true → ⟨.c (.i (if lastOp L ≠ 15 then 1 else 0)), [], none⟩ = E) →
    ART Try.prog 101 (cx w β 1 []) Try.f101.ntmps (cutAt Try.f101 2) (ckKn L c 48 49 50 j) (REff w β E)
  | 0, j, h, hy, hz => by
    have hz := hz (by rw [List.drop_eq_nil_of_le (by omega)]; rfl)
    have o0 : (!decide ((j : Int) < (L.length : Int))) = true := by rw [jn (by omega)]; rfl
    have o1 : (decide (0 ≤ IntKind.wrap IntKind.i64 ((L.length : Int) - 1)) && decide (IntKind.wrap IntKind.i64 ((L.length : Int) - 1) < (L.length : Int))) = true := by
      rw [wrapN (by omega) (by omega)]; simp; omega
    have o2 : (AC.isI (Option.getD (pcell L)[0 + Int.toNat (IntKind.wrap IntKind.i64 ((L.length : Int) - 1)) * 5 + 0]? (AC.b false)) && Nat.blt (0 + Int.toNat (IntKind.wrap IntKind.i64 ((L.length : Int) - 1)) * 5 + 0) (pcell L).length) = true := by
      rw [lastOp_eff h0 hL, wrapN (by omega) (by omega), pcell_length]; simp [AC.isI]; omega
    have c0 : Eff.mk (AV.c (AC.i (AC.asI (Option.getD (pcell L)[0 + Int.toNat (IntKind.wrap IntKind.i64 ((L.length : Int) - 1)) * 5 + 0]? (AC.b false))))) [] none = Eff.mk (AV.c (AC.i (lastOp L))) [] none := by rw [lastOp_eff h0 hL]; rfl
    refine ckCx_all (fun a => ⟨o0, o1, o2, c0, ?_⟩) (fun a => ⟨o0, o1, o2, c0, ?_⟩)
    · rw [← hz, if_pos (by simpa using a)]
    · rw [← hz, if_neg (by simpa using a)]
  | n + 1, j, h, hy, hz => by
    have hj : j < L.length := by omega
    rw [drop_elt hj, List.all_cons] at hy hz
    refine ckC_all (by omega) (fun a => ⟨jl hj, jl hj, pble hj, elt_eff hj, bare_ok _, hy ?_⟩) (fun a => ⟨jl hj, jl hj, pble hj, elt_eff hj, bare_ok _, low_p rfl, ?_⟩)
    · have : bareB (elt L j) = false := by simpa using a
      rw [this]; rfl
    · have : bareB (elt L j) = true := by simpa using a
      rw [this] at hy hz
      rw [wrapS (by omega)]
      exact ckC_loop h0 hL n (j + 1) (by omega) (fun h => hy h) (fun h => hz h)
end
theorem check_ok (L : List Ins) (c : Nat) : CallOK Try.prog ⟨101, [.c (.sl 0 0 L.length c)], pH L, ⟨.c (.i (codeErr L)), [], none⟩⟩ := by
  refine read_of Try.func101 rfl rfl (begin_p rfl) rfl ro_p fun w β => ?_
  refine ckTop_all (Nat.le_refl 1) (fun a => ?_) (fun a b => ?_) (fun a b => ⟨low_p rfl, ?_⟩)
  · unfold codeErr
    rw [if_pos (Or.inl (by simpa using a))]
  · unfold codeErr
    rw [if_pos (Or.inr (by simp at b; omega))]
  · have h0 : 0 < L.length := by
      have : ¬ ((L.length : Int) = 0) := by simpa using a
      omega
    have h1 : L.length ≤ 64 := by simp at b; omega
    unfold codeErr
    rw [if_neg (by omega)]
    refine ckA_loop h1 L.length 0 (by omega) (fun h => ?_) (fun h => ?_)
    · rw [if_pos (by simpa using h)]
    · rw [if_neg (by simpa using h)]
      refine ckB_loop h1 L.length 0 (by omega) (fun h => ?_) (fun h => ?_)
      · rw [if_pos (by simpa using h)]
      · rw [if_neg (by simpa using h)]
        refine ckC_loop h0 h1 L.length 0 (by omega) (fun h => ?_) (fun h => ?_)
        · rw [if_pos (by simpa using h)]
        · have e : ¬ (L.all bareB = false) := by simpa using h
          rw [if_neg e]
theorem check_nil : Ok 101 [.c nilSl] (.c (.i (codeErr []))) := ckNil_w0
end Go.Proofs.Ytkigmocchaikgaa

/- The contracts of run.Check, run.Start, run.Step and run.Run. -/
namespace Go.Proofs.Ytkigmocchaikgaa
open Go.RowKit

abbrev mcKn (m : Mach) (u : V6 Bool) (j : Int) : Kn := ⟨[(1, .c (.w 0)), (30, .ag (bcs u)), (31, .c (.i j))], [(0, ⟨true, m.cs, 0⟩)], 1⟩
theorem mcLoop {m : Mach} {u : V6 Bool} {w : World} {β : Bs} {E : Eff} : ∀ n, n ≤ 6 → (anyFrom (fun j => !u.get j && !eqb (m.r.get j) 0#64) n = true → ⟨.c (.i 1), [], none⟩ = E) →
    (anyFrom (fun j => !u.get j && !eqb (m.r.get j) 0#64) n = false → ⟨.c (.i 0), [], none⟩ = E) →
    ART Try.prog 66 (cx w β 0 []) Try.f66.ntmps (cutAt Try.f66 0) (mcKn m u (6 - n : Nat)) (REff w β E)
  | 0, _, _, hz => art_eq mcEnd_w0 (hz rfl)
  | n + 1, hn, hy, hz => by
    have hj : regB ((6 - (n + 1) : Nat) : Int) = true := by rw [regB_iff]; omega
    have ej : ((6 - (n + 1) : Nat) : Int).toNat = 5 - n := by omega
    have e1 : IntKind.wrap IntKind.i64 (((6 - (n + 1) : Nat) : Int) + 1) = ((6 - n : Nat) : Int) := by rw [wrapN (by omega) (by omega)]; omega
    have h1 := regB_iff.1 hj
    have o0 : decide (((6 - (n + 1) : Nat) : Int) < 6) = true := decide_eq_true h1.2
    have o2 : (decide (0 ≤ ((6 - (n + 1) : Nat) : Int)) && decide (((6 - (n + 1) : Nat) : Int) < 6)) = true := hj
    have o1 : (AC.isB (Option.getD (bcs u)[((6 - (n + 1) : Nat) : Int).toNat * 1]? (AC.b false)) && Nat.blt (((6 - (n + 1) : Nat) : Int).toNat * 1) (bcs u).length && (decide (0 ≤ ((6 - (n + 1) : Nat) : Int)) && decide (((6 - (n + 1) : Nat) : Int) < 6))) = true := by
      rw [bcs_get hj, o2, bcs_len]; simp [AC.isB]; omega
    have o3 : (AC.isU (Option.getD m.cs[1 + ((6 - (n + 1) : Nat) : Int).toNat * 1]? (AC.b false)) && Nat.blt (1 + ((6 - (n + 1) : Nat) : Int).toNat * 1) m.cs.length) = true := by
      rw [mach_get_r hj, mach_len]; simp [AC.isU]; omega
    have c0 : Eff.mk (AV.c (AC.b (AC.asB (Option.getD (bcs u)[((6 - (n + 1) : Nat) : Int).toNat * 1]? (AC.b false))))) [] none = Eff.mk (AV.c (AC.b (u.get ((6 - (n + 1) : Nat) : Int).toNat))) [] none := by rw [bcs_get hj]; rfl
    have c1 : Eff.mk (AV.c (AC.u (AC.asU (Option.getD m.cs[1 + ((6 - (n + 1) : Nat) : Int).toNat * 1]? (AC.b false))))) [] none = Eff.mk (AV.c (AC.u (m.r.get ((6 - (n + 1) : Nat) : Int).toNat))) [] none := by rw [mach_get_r hj]; rfl
    have next : (!u.get (5 - n) && !eqb (m.r.get (5 - n)) 0#64) = false → ART Try.prog 66 (cx w β 0 []) Try.f66.ntmps (cutAt Try.f66 0) (mcKn m u (IntKind.wrap IntKind.i64 (((6 - (n + 1) : Nat) : Int) + 1))) (REff w β E) := by
      intro hb
      rw [e1]
      refine mcLoop n (by omega) (fun h => hy ?_) (fun h => hz ?_)
      · rw [anyFrom, hb, h]; rfl
      · rw [anyFrom, hb, h]; rfl
    refine mcRound_all (by omega) (fun a b => ?_) (fun a b => ?_) (fun a => ?_)
    · refine ⟨o0, o1, o2, o3, c0, c1, hy ?_⟩
      rw [ej] at a b
      rw [anyFrom, a, b]; rfl
    · refine ⟨o0, o1, o2, o3, c0, c1, low_of rfl, next ?_⟩
      rw [ej] at a b
      rw [a, b]; rfl
    · refine ⟨o0, o1, c0, low_of rfl, next ?_⟩
      rw [ej] at a
      rw [a]; rfl
theorem machCheck_ok (m : Mach) : Ok 66 [.ag m.cs] (.c (.i (machErr m))) := by
  refine val_of Try.func66 rfl rfl rfl rfl fun w β => ?_
  have bad : headB m = false → Eff.mk (AV.c (AC.i 1)) [] none = Eff.mk (AV.c (AC.i (machErr m))) [] none := fun h => by unfold machErr; rw [h]; rfl
  refine mcTop_all (Nat.zero_le 1) (fun a => bad ?_) (fun a b => bad ?_) (fun a b c => bad ?_) (fun a b c d => bad ?_) (fun a b c d e => bad ?_) (fun a b c d e => ⟨low_of rfl, ?_⟩)
  · simp at a; simp [headB]; omega
  · simp at b; simp [headB]; omega
  · simp at c; simp [headB]; omega
  · simp at d; simp [headB]; omega
  · simp at e; simp [headB]; omega
  · have hh : headB m = true := by simp at a b c d e; simp [headB]; omega
    refine mcLoop 6 (Nat.le_refl 6) (fun h => ?_) (fun h => ?_)
    · unfold machErr; rw [hh, zero_from, h]; rfl
    · unfold machErr; rw [hh, zero_from, h]; rfl
def startErr (mem : ByteArray) : Int := if mem.size ≠ 64 then 1 else 0
def startRes (mem : ByteArray) (x : BitVec 64) : Mach := if mem.size ≠ 64 then Mach.z else startM mem x
theorem start_ok (mem : ByteArray) (x : BitVec 64) : Ok 60 [.c (.s mem), .c (.u x)] (.tu [.ag (startRes mem x).cs, .c (.i (startErr mem))]) := by
  unfold startErr startRes
  refine start_all (fun a => ?_) (fun a => ⟨with_ok (m := ⟨0, V6.rep 0#64, no6, mem, 0⟩) (r := 1) x rfl, ?_⟩)
  · have h : mem.size ≠ 64 := by simp at a; omega
    rw [if_pos h, if_pos h]; rfl
  · have h : ¬ mem.size ≠ 64 := by simp at a; omega
    rw [if_neg h, if_neg h]; rfl
theorem right_at {L : List Ins} {t : Int} (h : RightP L) (h0 : 0 ≤ t) (h1 : t < L.length) : Right (insAt L t) ((L.length - 1 - t.toNat : Nat) : Int) := h.step t.toNat (by omega)
theorem insAt_eff {L : List Ins} {t : Int} (h0 : 0 ≤ t) (h1 : t < L.length) : Eff.mk (AV.ag (List.take 5 (List.drop (0 + Int.toNat t * 5) (pcell L)))) [] none = Eff.mk (AV.ag (insAt L t).cs) [] none := by
  rw [Nat.zero_add, pcell_elt (by omega)]; rfl
theorem pble_at {L : List Ins} {t : Int} (h0 : 0 ≤ t) (h1 : t < L.length) : Nat.ble (0 + Int.toNat t * 5 + 5) (pcell L).length = true := by
  rw [pcell_length, Nat.ble_eq]; omega
theorem machErr_zero {m : Mach} (h : machErr m = 0) : m.mem.size = 64 ∧ (0 ≤ m.fin ∧ m.fin ≤ 3) ∧ (0 ≤ m.t ∧ m.t < 64) := by
  unfold machErr at h
  have : headB m = true := by
    cases hh : headB m with
    | true => rfl
    | false => rw [hh] at h; simp at h
  simpa [headB, and_assoc] using this
theorem step_ok (L : List Ins) (c : Nat) (m : Mach) : CallOK Try.prog ⟨59, [.c (.sl 0 0 L.length c), .ag m.cs], pH L, ⟨.tu [.ag (stepRes L m).cs, .c (.i (stepErr L m))], [], none⟩⟩ := by
  refine read_of Try.func59 rfl rfl (begin_p rfl) rfl ro_p fun w β => ?_
  have bad : ∀ e, stepErr L m = e → e ≠ 0 → Eff.mk (AV.tu [.ag Mach.z.cs, .c (.i e)]) [] none = Eff.mk (AV.tu [.ag (stepRes L m).cs, .c (.i (stepErr L m))]) [] none := fun e h1 h2 => by
    unfold stepRes; rw [h1, if_pos h2]
  refine step_all (fun a => ⟨check_ok L c, bad _ ?_ ?_⟩) (fun a b => ⟨check_ok L c, machCheck_ok m, bad _ ?_ ?_⟩) (fun a b d => ⟨check_ok L c, machCheck_ok m, bad _ ?_ (by decide)⟩) (fun a b d e => ⟨check_ok L c, machCheck_ok m, ?_⟩) (fun a b d e => ?_)
  · have a : codeErr L ≠ 0 := by simpa using a
    unfold stepErr; rw [if_pos a]
  · simpa using a
  · have a : ¬ codeErr L ≠ 0 := by simpa using a
    have b : machErr m ≠ 0 := by simpa using b
    unfold stepErr; rw [if_neg a, if_pos b]
  · simpa using b
  · have a : ¬ codeErr L ≠ 0 := by simpa using a
    have b : ¬ machErr m ≠ 0 := by simpa using b
    have d : (L.length : Int) ≤ m.t := by simpa using d
    unfold stepErr; rw [if_neg a, if_neg b, if_pos d]
  all_goals
    have a : ¬ codeErr L ≠ 0 := by simpa using a
    have b : ¬ machErr m ≠ 0 := by simpa using b
    have d : ¬ (L.length : Int) ≤ m.t := by simpa using d
    have hs : stepErr L m = 0 := by unfold stepErr; rw [if_neg a, if_neg b, if_neg d]
    unfold stepRes
    rw [hs]
  · have e : m.fin ≠ 0 := by simpa using e
    rw [if_neg (by decide), if_pos e]
  · have e : ¬ m.fin ≠ 0 := by simpa using e
    have hm := machErr_zero (Decidable.not_not.1 b)
    have hP := codeErr_zero (Decidable.not_not.1 a)
    have hr := right_at hP hm.2.2.1 (by omega)
    refine ⟨?_, pble_at hm.2.2.1 (by omega), check_ok L c, machCheck_ok m, insAt_eff hm.2.2.1 (by omega), do_ok hr (by have := hP.le; omega) hm.1 (by omega), ?_⟩
    · simp; omega
    · rw [if_neg (by decide), if_neg e]
theorem step_nil (m : Mach) : Ok 59 [.c nilSl, .ag m.cs] (.tu [.ag (stepRes [] m).cs, .c (.i (stepErr [] m))]) := stepNil_w0 check_nil
abbrev runKn (L : List Ins) (c : Nat) (m : Mach) (q : Int) : Kn := ⟨[(0, .c (.sl 0 0 L.length c)), (6, .c (.w 1)), (9, .c (.w 14)), (11, .c (.i q))], [(0, ⟨false, pcell L, 0⟩), (1, ⟨true, Outc.z.cs, 0⟩), (14, ⟨true, m.cs, 0⟩)], 15⟩
theorem run_low (L : List Ins) (c : Nat) (m : Mach) (q : Int) : Kn.Low (runKn L c m q) := low_n rfl rfl ⟨pcell_ks L, rfl, rfl, trivial⟩
/- where a run is -/
structure Goes (L : List Ins) (k : Nat) (m : Mach) : Prop where
  mem : m.mem.size = 64
  pos : 0 ≤ m.t
  lt : m.t < L.length
  left : L.length ≤ m.t + k
theorem goes_step {L : List Ins} {k : Nat} {m : Mach} (hP : RightP L) (h : Goes L (k + 1) m) (hf : m.fin = 0) : (stepM (insAt L m.t) m).fin = 0 → Goes L k (stepM (insAt L m.t) m) := by
  intro h0
  have hr := right_at hP h.pos h.lt
  have hp := hP.pos
  have h1 := h.pos
  have h2 := h.lt
  have h3 := h.left
  have hl : (insAt L m.t).op = 15 ∨ (0 : Int) < ((L.length - 1 - m.t.toNat : Nat) : Int) := by
    by_cases c : m.t.toNat = L.length - 1
    · left
      have := hP.last
      unfold insAt
      rw [c]; exact this
    · right; omega
  rcases stepM_at hr hl hf with h4 | ⟨_, h5, h6⟩
  · exact absurd h0 h4
  · exact ⟨stepM_mem hr h.mem, by omega, by omega, by omega⟩
theorem out3 {m : Mach} {q : Nat} (h : m.fin = 3) : outOf (m, q) = ⟨m.fin, m.t, q, m.r.x0, m.mem⟩ := by unfold outOf; rw [if_pos h]
theorem out_n {m : Mach} {q : Nat} (h : ¬ m.fin = 3) : outOf (m, q) = ⟨m.fin, m.t, q, 0#64, m.mem⟩ := by unfold outOf; rw [if_neg h]
theorem runM_end {L : List Ins} {m : Mach} (h : ¬ m.fin = 0) : ∀ (k q : Nat), runM L k m q = (m, q)
  | 0, _ => rfl
  | k + 1, q => by rw [runM, if_neg h]
theorem runM_go {L : List Ins} {m : Mach} (h : m.fin = 0) (k q : Nat) : runM L (k + 1) m q = runM L k (stepM (insAt L m.t) m) (q + 1) := by rw [runM, if_pos h]
theorem runLoop {L : List Ins} {c : Nat} (hP : RightP L) {w : World} {β : Bs} : ∀ (k : Nat) (m : Mach) (q : Nat), (m.fin = 0 → Goes L k m) → q + k ≤ 64 →
    ART Try.prog 67 (cx w β 1 []) Try.f67.ntmps (cutAt Try.f67 0) (runKn L c m q) (REff w β ⟨.tu [.ag (outOf (runM L k m q)).cs, .c (.i 0)], [], none⟩) := by
  intro k
  induction k with
  | zero =>
    intro m q hg _
    have hf : ¬ m.fin = 0 := fun h => by have := hg h; have h1 := this.lt; have h2 := this.left; omega
    refine runEnd_all (fun a => ⟨by simpa using hf, ?_⟩) (fun a => ⟨by simpa using hf, ?_⟩)
    · have a : m.fin = 3 := by simpa using a
      rw [runM_end hf, out3 a]; rfl
    · have a : ¬ m.fin = 3 := by simpa using a
      rw [runM_end hf, out_n a]; rfl
  | succ k ih =>
    intro m q hg hq
    by_cases hf : m.fin = 0
    · have g := hg hf
      have h1 := g.pos
      have h2 := g.lt
      have hr := right_at hP g.pos g.lt
      have hle := hP.le
      refine runRound_w0 ?_ (insAt_eff g.pos g.lt) (do_ok hr (by omega) g.mem (by omega)) (run_low _ _ _ _) (fun _ h => Nat.lt_of_lt_of_le h (by decide)) ?_
      · rw [pble_at g.pos g.lt]; simp [hf]; omega
      · have e : IntKind.wrap IntKind.i64 ((q : Int) + 1) = ((q + 1 : Nat) : Int) := by rw [wrapN (by omega) (by omega)]; omega
        have := ih (stepM (insAt L m.t) m) (q + 1) (goes_step hP g hf) (by omega)
        rw [e, runM_go hf]
        exact this
    · refine runEnd_all (fun a => ⟨by simpa using hf, ?_⟩) (fun a => ⟨by simpa using hf, ?_⟩)
      · have a : m.fin = 3 := by simpa using a
        rw [runM_end hf, out3 a]; rfl
      · have a : ¬ m.fin = 3 := by simpa using a
        rw [runM_end hf, out_n a]; rfl
theorem goes_start {L : List Ins} {mem : ByteArray} {x : BitVec 64} (hP : RightP L) (hm : mem.size = 64) : Goes L L.length (startM mem x) := ⟨hm, by show (0 : Int) ≤ 0; decide, by have := hP.pos; show (0 : Int) < _; omega, by show _ ≤ (0 : Int) + _; omega⟩
theorem run_ok (L : List Ins) (c : Nat) (mem : ByteArray) (x : BitVec 64) : CallOK Try.prog ⟨67, [.c (.sl 0 0 L.length c), .c (.s mem), .c (.u x)], pH L, ⟨.tu [.ag (runRes L mem x).cs, .c (.i (runErr L mem))], [], none⟩⟩ := by
  refine read_of Try.func67 rfl rfl (begin_p rfl) rfl ro_p fun w β => ?_
  have hst := start_ok mem x
  refine runTop_all (m := startRes mem x) (e := startErr mem) (by decide) (fun a => ⟨check_ok L c, ?_⟩) (fun a b => ⟨check_ok L c, hst, ?_⟩) (fun a b => ⟨check_ok L c, hst, run_low _ _ _ _, ?_⟩)
  · have a : codeErr L ≠ 0 := by simpa using a
    unfold runRes runErr
    rw [if_pos a, if_pos a]; rfl
  · have a : ¬ codeErr L ≠ 0 := by simpa using a
    have b : mem.size ≠ 64 := by
      intro h
      unfold startErr at b
      rw [if_neg (by simpa using h)] at b
      exact absurd b (by decide)
    unfold runRes runErr startErr
    rw [if_neg a, if_pos b, if_pos (by decide)]; rfl
  · have a : ¬ codeErr L ≠ 0 := by simpa using a
    have b : ¬ mem.size ≠ 64 := by
      intro h
      unfold startErr at b
      rw [if_pos h] at b
      exact absurd b (by decide)
    have hP := codeErr_zero (Decidable.not_not.1 a)
    have hE : runErr L mem = 0 := by unfold runErr; rw [if_neg a, if_neg b]
    unfold runRes startRes
    rw [hE, if_neg b, if_neg (by decide)]
    exact runLoop hP L.length _ 0 (fun _ => goes_start hP (Decidable.not_not.1 b)) (by have := hP.le; omega)
theorem run_nil (mem : ByteArray) (x : BitVec 64) : Ok 67 [.c nilSl, .c (.s mem), .c (.u x)] (.tu [.ag (runRes [] mem x).cs, .c (.i (runErr [] mem))]) := runNil_w0 check_nil
end Go.Proofs.Ytkigmocchaikgaa

/- The contracts of the reference's small functions, of CheckCode, CheckMachine, StartOf and uses. -/
namespace Go.Proofs.Ytkigmocchaikgaa
open Go.RowKit

theorem refBranches_ok (op : Int) : Ok 124 [.c (.i op)] (.c (.b (op == 13 || op == 14))) := by
  apply refBranches_all <;> (intros; simp_all)
theorem refReaches_ok (op : Int) : Ok 107 [.c (.i op)] (.c (.b (op == 10 || op == 11))) := by
  apply refReaches_all <;> (intros; simp_all)
theorem refWithin_ok (a lo hi : Int) : Ok 75 [.c (.i a), .c (.i lo), .c (.i hi)] (.c (.b (decide (lo ≤ a) && decide (a ≤ hi)))) := by
  apply refWithin_all <;> (intro h; rw [h]; rfl)
theorem refReckons_ok (op : Int) : Ok 108 [.c (.i op)] (.c (.b (decide (1 ≤ op) && decide (op ≤ 9)))) := refReckons_w0 (refWithin_ok _ _ _)
theorem within_reg (d : Int) : (decide (0 ≤ d) && decide (d ≤ 5)) = regB d := by
  unfold regB
  congr 1
  exact decide_eq_decide.2 (by omega)
theorem refReg_ok (d : Int) : Ok 123 [.c (.i d)] (.c (.b (regB d))) := by
  rw [← within_reg]
  exact refReg_w0 (refWithin_ok _ _ _)
theorem inB_two {i : Ins} {q : Int} (h : 1 ≤ i.op ∧ i.op ≤ 9) : inB i q = (regB i.d && srcB i.s) := by
  unfold inB
  rw [if_neg (by omega), if_neg (by omega), if_neg (by omega), if_neg (by omega)]
theorem bareB_two {i : Ins} (h : 1 ≤ i.op ∧ i.op ≤ 9) : bareB i = (decide (i.of = 0) && (decide (i.s = -1) || eqb i.im 0#64)) := by
  unfold bareB
  rw [if_neg (by omega), if_neg (by omega), if_neg (by omega), if_neg (by omega)]
theorem refFields_ok {i : Ins} (q : Int) (hk : kindB i = true) : Ok 104 [.ag i.cs, .c (.i q)] (.c (.b (inB i (q + 1)))) := by
  have hw : (decide (i.of < q + 1)) = decide (i.of ≤ q) := decide_eq_decide.2 (by omega)
  have hr := kind_iff.1 hk
  have hc : (1 ≤ i.op ∧ i.op ≤ 9) ∨ i.op = 10 ∨ i.op = 11 ∨ i.op = 12 ∨ i.op = 13 ∨ i.op = 14 ∨ i.op = 15 := by omega
  apply refFields_all
  all_goals intros
  all_goals repeat' apply And.intro
  all_goals first
    | exact refReg_ok _
    | exact refBranches_ok _
    | exact refReaches_ok _
    | exact refReckons_ok _
    | exact refWithin_ok _ _ _
    | skip
  all_goals (refine congrArg (fun b => AV.c (AC.b b)) ?_)
  all_goals
    rcases hc with hc | hc | hc | hc | hc | hc | hc
    · rw [inB_two hc]
      simp_all [srcB]
      try first | rfl | omega
    all_goals (simp_all [inB, srcB, goesB, sizeB]; try first | rfl | omega)
theorem refOthers_ok {i : Ins} (hk : kindB i = true) : Ok 105 [.ag i.cs] (.c (.b (bareB i))) := by
  have hr := kind_iff.1 hk
  have hc : (1 ≤ i.op ∧ i.op ≤ 9) ∨ i.op = 10 ∨ i.op = 11 ∨ i.op = 12 ∨ i.op = 13 ∨ i.op = 14 ∨ i.op = 15 := by omega
  apply refOthers_all
  all_goals intros
  all_goals repeat' apply And.intro
  all_goals first
    | exact refBranches_ok _
    | exact refReckons_ok _
    | skip
  all_goals (refine congrArg (fun b => AV.c (AC.b b)) ?_)
  all_goals
    rcases hc with hc | hc | hc | hc | hc | hc | hc
    · rw [bareB_two hc]
      simp_all
      try omega
    all_goals (simp_all [bareB, eqCs, eqC, splice, Ins.cs, Bool.and_assoc]; try rfl; try omega)

/- CheckCode -/
section
variable {L : List Ins} {c : Nat} {w : World} {β : Bs} {E : Eff}
abbrev rcKn (L : List Ins) (c a : Nat) (j : Int) : Kn := ⟨[(0, .c (.sl 0 0 L.length c)), (a, .c (.i j))], pH L, 1⟩
theorem elt_op {j : Nat} (h : j < L.length) : (pcell L)[0 + Int.toNat (j : Int) * 5 + 0]? = some (.i (elt L j).op) := by
  have h1 := pcell_op (L := L) (k := j) h (.b false)
  have h2 : j * 5 < (pcell L).length := by rw [pcell_length]; omega
  rw [List.getD_eq_getElem?_getD, List.getElem?_eq_getElem h2] at h1
  rw [show 0 + Int.toNat (j : Int) * 5 + 0 = j * 5 by omega, List.getElem?_eq_getElem h2]
  exact congrArg some h1
theorem rcA_loop (hL : L.length ≤ 64) : ∀ n j : Nat, j + n = L.length → ((L.drop j).all kindB = false → ⟨.c (.i 4), [], none⟩ = E) →
    ((L.drop j).all kindB = true → ART Try.prog 61 (cx w β 1 []) Try.f61.ntmps (cutAt Try.f61 1) (rcKn L c 4 0) (REff w β E)) →
    ART Try.prog 61 (cx w β 1 []) Try.f61.ntmps (cutAt Try.f61 0) (rcKn L c 3 j) (REff w β E)
  | 0, j, h, hy, hz => by
    refine rcAx_w0 (by rw [jn (by omega)]; rfl) (low_p rfl) (fun _ h => h) (hz ?_)
    rw [List.drop_eq_nil_of_le (by omega)]; rfl
  | n + 1, j, h, hy, hz => by
    have hj : j < L.length := by omega
    rw [drop_elt hj, List.all_cons] at hy hz
    have o2 : (AC.isI (Option.getD (pcell L)[0 + Int.toNat (j : Int) * 5 + 0]? (AC.b false)) && Nat.blt (0 + Int.toNat (j : Int) * 5 + 0) (pcell L).length) = true := by
      rw [elt_op hj, pcell_length]; simp [AC.isI]; omega
    have c0 : Eff.mk (AV.c (AC.i (AC.asI (Option.getD (pcell L)[0 + Int.toNat (j : Int) * 5 + 0]? (AC.b false))))) [] none = Eff.mk (AV.c (AC.i (elt L j).op)) [] none := by rw [elt_op hj]; rfl
    refine rcA_all (by omega) (fun a => ⟨jl hj, jl hj, o2, c0, refWithin_ok _ _ _, hy ?_⟩) (fun a => ⟨jl hj, jl hj, o2, c0, refWithin_ok _ _ _, low_p rfl, ?_⟩)
    · have : kindB (elt L j) = false := by simp at a; simp [kindB]; omega
      rw [this]; rfl
    · have : kindB (elt L j) = true := by simpa [kindB] using a
      rw [this] at hy hz
      rw [wrapS (by omega)]
      exact rcA_loop hL n (j + 1) (by omega) (fun h => hy h) (fun h => hz h)
theorem rcB_loop (hL : L.length ≤ 64) (hK : L.all kindB = true) : ∀ n j : Nat, j + n = L.length → (inAll (L.drop j) = false → ⟨.c (.i 3), [], none⟩ = E) →
    (inAll (L.drop j) = true → ART Try.prog 61 (cx w β 1 []) Try.f61.ntmps (cutAt Try.f61 2) (rcKn L c 5 0) (REff w β E)) →
    ART Try.prog 61 (cx w β 1 []) Try.f61.ntmps (cutAt Try.f61 1) (rcKn L c 4 j) (REff w β E)
  | 0, j, h, hy, hz => by
    refine rcBx_w0 (by rw [jn (by omega)]; rfl) (low_p rfl) (fun _ h => h) (hz ?_)
    rw [List.drop_eq_nil_of_le (by omega)]; rfl
  | n + 1, j, h, hy, hz => by
    have hj : j < L.length := by omega
    have el : ((L.drop (j + 1)).length : Int) = ((L.length - 1 - j : Nat) : Int) := by rw [List.length_drop]; omega
    rw [drop_elt hj, inAll, el] at hy hz
    have hk : kindB (elt L j) = true := all_at hK hj
    have ew : IntKind.wrap IntKind.i64 (IntKind.wrap IntKind.i64 ((L.length : Int) - 2) - (j : Int)) = ((L.length - 1 - j : Nat) : Int) - 1 := by
      rw [wrapN (n := (L.length : Int) - 2) (by omega) (by omega), wrapN (by omega) (by omega)]; omega
    have c1 : Eff.mk (AV.c (AC.i (IntKind.wrap IntKind.i64 (IntKind.wrap IntKind.i64 ((L.length : Int) - 2) - (j : Int))))) [] none = Eff.mk (AV.c (AC.i (((L.length - 1 - j : Nat) : Int) - 1))) [] none := by rw [ew]
    have c2 : Eff.mk (AV.c (AC.b (inB (elt L j) (((L.length - 1 - j : Nat) : Int) - 1 + 1)))) [] none = Eff.mk (AV.c (AC.b (inB (elt L j) ((L.length - 1 - j : Nat) : Int)))) [] none := by
      rw [show ((L.length - 1 - j : Nat) : Int) - 1 + 1 = ((L.length - 1 - j : Nat) : Int) by omega]
    refine rcB_all (by omega) (fun a => ⟨jl hj, jl hj, pble hj, elt_eff hj, c1, c2, refFields_ok _ hk, hy ?_⟩) (fun a => ⟨jl hj, jl hj, pble hj, elt_eff hj, c1, c2, refFields_ok _ hk, low_p rfl, ?_⟩)
    · have : inB (elt L j) ((L.length - 1 - j : Nat) : Int) = false := by simpa using a
      rw [this]; rfl
    · have : inB (elt L j) ((L.length - 1 - j : Nat) : Int) = true := by simpa using a
      rw [this] at hy hz
      rw [wrapS (by omega)]
      exact rcB_loop hL hK n (j + 1) (by omega) (fun h => hy h) (fun h => hz h)
theorem rcC_loop (h0 : 0 < L.length) (hL : L.length ≤ 64) (hK : L.all kindB = true) : ∀ n j : Nat, j + n = L.length → ((L.drop j).all bareB = false → ⟨.c (.i 1), [], none⟩ = E) →
    ((L.drop j).all bareB = true → ⟨.c (.i (if lastOp L ≠ 15 then 1 else 0)), [], none⟩ = E) →
    ART Try.prog 61 (cx w β 1 []) Try.f61.ntmps (cutAt Try.f61 2) (rcKn L c 5 j) (REff w β E)
  | 0, j, h, hy, hz => by
    have hz := hz (by rw [List.drop_eq_nil_of_le (by omega)]; rfl)
    have o0 : (!decide ((j : Int) < (L.length : Int))) = true := by rw [jn (by omega)]; rfl
    have o1 : (decide (0 ≤ IntKind.wrap IntKind.i64 ((L.length : Int) - 1)) && decide (IntKind.wrap IntKind.i64 ((L.length : Int) - 1) < (L.length : Int))) = true := by
      rw [wrapN (by omega) (by omega)]; simp; omega
    have o2 : (AC.isI (Option.getD (pcell L)[0 + Int.toNat (IntKind.wrap IntKind.i64 ((L.length : Int) - 1)) * 5 + 0]? (AC.b false)) && Nat.blt (0 + Int.toNat (IntKind.wrap IntKind.i64 ((L.length : Int) - 1)) * 5 + 0) (pcell L).length) = true := by
      rw [lastOp_eff h0 hL, wrapN (by omega) (by omega), pcell_length]; simp [AC.isI]; omega
    have c0 : Eff.mk (AV.c (AC.i (AC.asI (Option.getD (pcell L)[0 + Int.toNat (IntKind.wrap IntKind.i64 ((L.length : Int) - 1)) * 5 + 0]? (AC.b false))))) [] none = Eff.mk (AV.c (AC.i (lastOp L))) [] none := by rw [lastOp_eff h0 hL]; rfl
    refine rcCx_all (fun a => ⟨o0, o1, o2, c0, ?_⟩) (fun a => ⟨o0, o1, o2, c0, ?_⟩)
    · rw [← hz, if_pos (by simpa using a)]
    · rw [← hz, if_neg (by simpa using a)]
  | n + 1, j, h, hy, hz => by
    have hj : j < L.length := by omega
    have hk : kindB (elt L j) = true := all_at hK hj
    rw [drop_elt hj, List.all_cons] at hy hz
    refine rcC_all (by omega) (fun a => ⟨jl hj, jl hj, pble hj, elt_eff hj, refOthers_ok hk, hy ?_⟩) (fun a => ⟨jl hj, jl hj, pble hj, elt_eff hj, refOthers_ok hk, low_p rfl, ?_⟩)
    · have : bareB (elt L j) = false := by simpa using a
      rw [this]; rfl
    · have : bareB (elt L j) = true := by simpa using a
      rw [this] at hy hz
      rw [wrapS (by omega)]
      exact rcC_loop h0 hL hK n (j + 1) (by omega) (fun h => hy h) (fun h => hz h)
end
theorem checkCode_ok (L : List Ins) (c : Nat) : CallOK Try.prog ⟨61, [.c (.sl 0 0 L.length c)], pH L, ⟨.c (.i (codeErr L)), [], none⟩⟩ := by
  refine read_of Try.func61 rfl rfl (begin_p rfl) rfl ro_p fun w β => ?_
  refine rcTop_all (Nat.le_refl 1) (fun a => ⟨refWithin_ok _ _ _, ?_⟩) (fun a => ⟨refWithin_ok _ _ _, low_p rfl, ?_⟩)
  · unfold codeErr
    rw [if_pos (by simp at a; omega)]
  · have h : 1 ≤ (L.length : Int) ∧ (L.length : Int) ≤ 64 := by simpa using a
    have h0 : 0 < L.length := by omega
    have h1 : L.length ≤ 64 := by omega
    unfold codeErr
    rw [if_neg (by omega)]
    refine rcA_loop h1 L.length 0 (by omega) (fun h => ?_) (fun h => ?_)
    · rw [if_pos (by simpa using h)]
    · have hK : L.all kindB = true := by simpa using h
      rw [if_neg (by simpa using h)]
      refine rcB_loop h1 hK L.length 0 (by omega) (fun h => ?_) (fun h => ?_)
      · rw [if_pos (by simpa using h)]
      · rw [if_neg (by simpa using h)]
        refine rcC_loop h0 h1 hK L.length 0 (by omega) (fun h => ?_) (fun h => ?_)
        · rw [if_pos (by simpa using h)]
        · have e : ¬ (L.all bareB = false) := by simpa using h
          rw [if_neg e]
theorem checkCode_nil : Ok 61 [.c nilSl] (.c (.i (codeErr []))) := rcNil_w0 (refWithin_ok _ _ _)

/- CheckMachine, StartOf -/
abbrev rmKn (m : Mach) (j : Int) : Kn := ⟨[(1, .c (.w 0)), (3, .c (.i j))], [(0, ⟨true, m.cs, 0⟩)], 1⟩
theorem rmLoop {m : Mach} {w : World} {β : Bs} {E : Eff} : ∀ n, n ≤ 6 → (anyFrom (fun j => !m.s.get j && !eqb (m.r.get j) 0#64) n = true → ⟨.c (.i 1), [], none⟩ = E) →
    (anyFrom (fun j => !m.s.get j && !eqb (m.r.get j) 0#64) n = false → ⟨.c (.i 0), [], none⟩ = E) →
    ART Try.prog 62 (cx w β 0 []) Try.f62.ntmps (cutAt Try.f62 0) (rmKn m (6 - n : Nat)) (REff w β E)
  | 0, _, _, hz => art_eq rmEnd_w0 (hz rfl)
  | n + 1, hn, hy, hz => by
    have hj : regB ((6 - (n + 1) : Nat) : Int) = true := by rw [regB_iff]; omega
    have ej : ((6 - (n + 1) : Nat) : Int).toNat = 5 - n := by omega
    have e1 : IntKind.wrap IntKind.i64 (((6 - (n + 1) : Nat) : Int) + 1) = ((6 - n : Nat) : Int) := by rw [wrapN (by omega) (by omega)]; omega
    have h1 := regB_iff.1 hj
    have o0 : decide (((6 - (n + 1) : Nat) : Int) < 6) = true := decide_eq_true h1.2
    have o2 : (decide (0 ≤ ((6 - (n + 1) : Nat) : Int)) && decide (((6 - (n + 1) : Nat) : Int) < 6)) = true := hj
    have o1 : (AC.isB (Option.getD m.cs[7 + ((6 - (n + 1) : Nat) : Int).toNat * 1]? (AC.b false)) && Nat.blt (7 + ((6 - (n + 1) : Nat) : Int).toNat * 1) m.cs.length) = true := by
      rw [mach_get_s hj, mach_len]; simp [AC.isB]; omega
    have o3 : (AC.isU (Option.getD m.cs[1 + ((6 - (n + 1) : Nat) : Int).toNat * 1]? (AC.b false)) && Nat.blt (1 + ((6 - (n + 1) : Nat) : Int).toNat * 1) m.cs.length) = true := by
      rw [mach_get_r hj, mach_len]; simp [AC.isU]; omega
    have c0 : Eff.mk (AV.c (AC.b (AC.asB (Option.getD m.cs[7 + ((6 - (n + 1) : Nat) : Int).toNat * 1]? (AC.b false))))) [] none = Eff.mk (AV.c (AC.b (m.s.get ((6 - (n + 1) : Nat) : Int).toNat))) [] none := by rw [mach_get_s hj]; rfl
    have c1 : Eff.mk (AV.c (AC.u (AC.asU (Option.getD m.cs[1 + ((6 - (n + 1) : Nat) : Int).toNat * 1]? (AC.b false))))) [] none = Eff.mk (AV.c (AC.u (m.r.get ((6 - (n + 1) : Nat) : Int).toNat))) [] none := by rw [mach_get_r hj]; rfl
    have next : (!m.s.get (5 - n) && !eqb (m.r.get (5 - n)) 0#64) = false → ART Try.prog 62 (cx w β 0 []) Try.f62.ntmps (cutAt Try.f62 0) (rmKn m (IntKind.wrap IntKind.i64 (((6 - (n + 1) : Nat) : Int) + 1))) (REff w β E) := by
      intro hb
      rw [e1]
      refine rmLoop n (by omega) (fun h => hy ?_) (fun h => hz ?_)
      · rw [anyFrom, hb, h]; rfl
      · rw [anyFrom, hb, h]; rfl
    refine rmRound_all (by omega) (fun a b => ?_) (fun a b => ?_) (fun a => ?_)
    · refine ⟨o0, o2, o1, o2, o3, c0, c1, hy ?_⟩
      rw [ej] at a b
      rw [anyFrom, a, b]; rfl
    · refine ⟨o0, o2, o1, o2, o3, c0, c1, low_of rfl, next ?_⟩
      rw [ej] at a b
      rw [a, b]; rfl
    · refine ⟨o0, o2, o1, c0, low_of rfl, next ?_⟩
      rw [ej] at a
      rw [a]; rfl
theorem checkMachine_ok (m : Mach) : Ok 62 [.ag m.cs] (.c (.i (machErr m))) := by
  refine val_of Try.func62 rfl rfl rfl rfl fun w β => ?_
  have bad : headB m = false → Eff.mk (AV.c (AC.i 1)) [] none = Eff.mk (AV.c (AC.i (machErr m))) [] none := fun h => by unfold machErr; rw [h]; rfl
  refine rmTop_all (Nat.zero_le 1) (fun a => bad ?_) (fun a b => ⟨refWithin_ok _ _ _, bad ?_⟩) (fun a b c => ⟨refWithin_ok _ _ _, refWithin_ok _ _ _, bad ?_⟩) (fun a b c => ⟨refWithin_ok _ _ _, refWithin_ok _ _ _, low_of rfl, ?_⟩)
  · simp at a; simp [headB]; omega
  · simp at b; simp [headB]; omega
  · simp at c; simp [headB]; omega
  · have hh : headB m = true := by simp at a b c; simp [headB]; omega
    refine rmLoop 6 (Nat.le_refl 6) (fun h => ?_) (fun h => ?_)
    · unfold machErr; rw [hh, zero_from, h]; rfl
    · unfold machErr; rw [hh, zero_from, h]; rfl
theorem startOf_ok (mem : ByteArray) (x : BitVec 64) : Ok 64 [.c (.s mem), .c (.u x)] (.ag (startM mem x).cs) := startOf_w0

/- uses -/
theorem uses2_ok {op d s of : Int} {im : BitVec 64} (K : Nat) (h : (2 ≤ op ∧ op ≤ 9) ∨ op = 11 ∨ op = 13 ∨ op = 14) (hs : s ≠ -1) :
    CallOK Try.prog ⟨106, [.ag (Ins.mk op d s im of).cs], [], ⟨.c (.sx K 2), [], some (K, ⟨true, [.i d, .i s], 1⟩)⟩⟩ := by
  have b : (s != -1) = true := by simpa using hs
  have key : CallOK Try.prog ⟨106, [.ag (Ins.mk op d s im of).cs], [], ⟨.c (.sx 44 2), [], some (44, ⟨true, [.i d, .i s], 1⟩)⟩⟩ := by
    refine new_of Try.func106 rfl rfl rfl rfl rfl fun w β hk => ?_
    rcases h with h | h | h | h
    · exact usesA1_w0 (by simp [b]; omega) hk
    · exact usesA1_w0 (by simp [b]; omega) hk
    · subst h; exact uses13_1_w0 (by rw [b]; rfl) (refBranches_ok 13) (refBranches_ok 13) hk
    · subst h; exact uses14_1_w0 (by rw [b]; rfl) (refBranches_ok 14) (refBranches_ok 14) hk
  exact key.ren (swp 44 K) (swp_inj 44 K)
theorem usesD_ok {op d of : Int} {im : BitVec 64} (K : Nat) (h : (2 ≤ op ∧ op ≤ 9) ∨ op = 13 ∨ op = 14) :
    CallOK Try.prog ⟨106, [.ag (Ins.mk op d (-1) im of).cs], [], ⟨.c (.sx K 1), [], some (K, ⟨true, [.i d], 1⟩)⟩⟩ := by
  have key : CallOK Try.prog ⟨106, [.ag (Ins.mk op d (-1) im of).cs], [], ⟨.c (.sx 25 1), [], some (25, ⟨true, [.i d], 1⟩)⟩⟩ := by
    refine new_of Try.func106 rfl rfl rfl rfl rfl fun w β hk => ?_
    rcases h with h | h | h
    · exact usesA0_w0 (by simp; omega) hk
    · subst h; exact uses13_0_w0 rfl (refBranches_ok 13) (refBranches_ok 13) hk
    · subst h; exact uses14_0_w0 rfl (refBranches_ok 14) (refBranches_ok 14) hk
  exact key.ren (swp 25 K) (swp_inj 25 K)
theorem usesS_ok {op d s of : Int} {im : BitVec 64} (K : Nat) (h : op = 1 ∨ op = 10) (hs : s ≠ -1) :
    CallOK Try.prog ⟨106, [.ag (Ins.mk op d s im of).cs], [], ⟨.c (.sx K 1), [], some (K, ⟨true, [.i s], 1⟩)⟩⟩ := by
  have b : (s != -1) = true := by simpa using hs
  have key : CallOK Try.prog ⟨106, [.ag (Ins.mk op d s im of).cs], [], ⟨.c (.sx 38 1), [], some (38, ⟨true, [.i s], 1⟩)⟩⟩ := by
    refine new_of Try.func106 rfl rfl rfl rfl rfl fun w β hk => ?_
    rcases h with h | h
    · subst h; exact uses1_1_w0 (by rw [b]; rfl) (refBranches_ok 1) hk
    · subst h; exact uses10_1_w0 (by rw [b]; rfl) (refBranches_ok 10) hk
  exact key.ren (swp 38 K) (swp_inj 38 K)
theorem usesN_ok {d of : Int} {im : BitVec 64} : Ok 106 [.ag (Ins.mk 1 d (-1) im of).cs] (.c nilSl) := uses1_0_w0 rfl (refBranches_ok 1)
theorem usesJ_ok {d s of : Int} {im : BitVec 64} : Ok 106 [.ag (Ins.mk 12 d s im of).cs] (.c nilSl) := uses12_w0 (refBranches_ok 12) (refBranches_ok 12)
theorem usesX_ok {d s of : Int} {im : BitVec 64} (K : Nat) : CallOK Try.prog ⟨106, [.ag (Ins.mk 15 d s im of).cs], [], ⟨.c (.sx K 1), [], some (K, ⟨true, [.i 0], 1⟩)⟩⟩ := by
  have key : CallOK Try.prog ⟨106, [.ag (Ins.mk 15 d s im of).cs], [], ⟨.c (.sx 39 1), [], some (39, ⟨true, [.i 0], 1⟩)⟩⟩ :=
    new_of Try.func106 rfl rfl rfl rfl rfl fun w β hk => uses15_w0 (refBranches_ok 15) (refBranches_ok 15) hk
  exact key.ren (swp 39 K) (swp_inj 39 K)
end Go.Proofs.Ytkigmocchaikgaa

/- The contracts of the reference's Number, StepOf and RunOf (written by gen_c10.py). -/
namespace Go.Proofs.Ytkigmocchaikgaa
open Go.RowKit

theorem refNumber_ok (op : Int) (x y : BitVec 64) (h : 1 ≤ op ∧ op ≤ 9) : Ok 30 [.c (.i op), .c (.u x), .c (.u y)] (.c (.u (numN op x y))) := by
  have hc : op = 1 ∨ op = 2 ∨ op = 3 ∨ op = 4 ∨ op = 5 ∨ op = 6 ∨ op = 7 ∨ op = 8 ∨ op = 9 := by omega
  have h6 := six_nv y
  have h7 := six_lt y
  have h8 : decide (nv (band y 63#64) ≤ 64) = true := by rw [h6]; simp; omega
  rcases hc with rfl | rfl | rfl | rfl | rfl | rfl | rfl | rfl | rfl
  · exact refNumber_w0 rfl
  · exact refNumber_w1 rfl
  · exact refNumber_w2 rfl
  · exact refNumber_w3 rfl
  · exact refNumber_w4 rfl
  · exact refNumber_w5 rfl
  · exact refNumber_w6 rfl
  · exact refNumber_w7 (by simp [h8])
  · exact refNumber_w8 (by simp [h8])

/- what is used and not set -/
theorem lacks0 (s : V6 Bool) : lacks no6 s = false := by simp [lacks, no6]
theorem lacks1 (s : V6 Bool) {d : Nat} (h : d < 6) : lacks (no6.set d true) s = !s.get d := by
  revert d; apply lt6 <;> simp [lacks, no6, V6.set, V6.get]
theorem lacks2 (s : V6 Bool) {d e : Nat} (h : d < 6) (k : e < 6) : lacks ((no6.set d true).set e true) s = (!s.get d || !s.get e) := by
  revert d; apply lt6 <;> (revert e; apply lt6 <;> simp [lacks, no6, V6.set, V6.get, Bool.or_comm])
section
variable {m : Mach} {r : Int}
theorem okS (h : regB r = true) : (AC.isB (Option.getD (Mach.cs m)[7 + Int.toNat r * 1]? (AC.b false)) && Nat.blt (7 + Int.toNat r * 1) (List.length (Mach.cs m))) = true := by
  have := reg_nat h
  rw [mach_get_s h, mach_len]; simp [AC.isB]; omega
theorem okR (h : regB r = true) : (AC.isU (Option.getD (Mach.cs m)[1 + Int.toNat r * 1]? (AC.b false)) && Nat.blt (1 + Int.toNat r * 1) (List.length (Mach.cs m))) = true := by
  have := reg_nat h
  rw [mach_get_r h, mach_len]; simp [AC.isU]; omega
theorem effS (h : regB r = true) : Eff.mk (AV.c (AC.b (AC.asB (Option.getD (Mach.cs m)[7 + Int.toNat r * 1]? (AC.b false))))) [] none = Eff.mk (AV.c (AC.b (V6.get (Mach.s m) (Int.toNat r)))) [] none := by rw [mach_get_s h]; rfl
theorem effR (h : regB r = true) : Eff.mk (AV.c (AC.u (AC.asU (Option.getD (Mach.cs m)[1 + Int.toNat r * 1]? (AC.b false))))) [] none = Eff.mk (AV.c (AC.u (V6.get (Mach.r m) (Int.toNat r)))) [] none := by rw [mach_get_r h]; rfl
theorem bleR (h : regB r = true) (x : AC) : (Nat.ble (1 + Int.toNat r * 1 + List.length [x]) (List.length (Mach.cs m)) && true) = true := by
  have := reg_nat h
  rw [mach_len]; simp; omega
theorem bleS (h : regB r = true) : (Nat.ble (7 + Int.toNat r * 1 + 1) (List.length (Mach.cs m)) && true) = true := by
  have := reg_nat h
  rw [mach_len]; simp; omega
theorem wrR (h : regB r = true) (x : BitVec 64) : Eff.mk (AV.raw undef) [(1, List.set (Mach.cs m) (1 + Int.toNat r * 1) (AC.u x))] none = Eff.mk (AV.raw undef) [(1, Mach.cs (Mach.mk m.t (m.r.set r.toNat x) m.s m.mem m.fin))] none := by rw [mach_set_r x h]
theorem wrS (h : regB r = true) : Eff.mk (AV.raw undef) [(1, List.set (Mach.cs m) (7 + Int.toNat r * 1) (AC.b true))] none = Eff.mk (AV.raw undef) [(1, Mach.cs (Mach.mk m.t m.r (m.s.set r.toNat true) m.mem m.fin))] none := by rw [mach_set_s h]
theorem onE (h : 0 ≤ m.t ∧ m.t ≤ 64) : Eff.mk (AV.c (AC.i (IntKind.wrap IntKind.i64 (Mach.t m + 1)))) [] none = Eff.mk (AV.c (AC.i (Mach.t m + 1 + 0))) [] none := by
  rw [wrapN (by omega) (by omega), Int.add_zero]
theorem farE {of : Int} (h : 0 ≤ m.t ∧ m.t ≤ 64) (k : 0 ≤ of ∧ of ≤ 64) : Eff.mk (AV.c (AC.i (IntKind.wrap IntKind.i64 (Mach.t m + 1 + 0 + of)))) [] none = Eff.mk (AV.c (AC.i (Mach.t m + 1 + of))) [] none := by
  rw [wrapN (by omega) (by omega), Int.add_zero]
theorem backE (h : 0 ≤ m.t ∧ m.t ≤ 64) : Eff.mk (AV.c (AC.i (IntKind.wrap IntKind.i64 (Mach.t m + 1 + 0 - 1)))) [] none = Eff.mk (AV.c (AC.i (Mach.t m))) [] none := by
  rw [wrapN (by omega) (by omega), Int.add_zero, Int.add_sub_cancel]
end
abbrev soART (L : List Ins) (c : Nat) (m : Mach) (w : World) (β : Bs) (r : Mach) : Prop :=
  ART Try.prog 63 (cx w β 1 []) Try.f63.ntmps ([Item.code (bodyOf Try.f63)]) (Kn.start [AV.c (AC.sl 0 0 (List.length L) c), AV.ag (Mach.cs m)] [(0, Ent.mk false (pcell L) 0)] 1) (REff w β ⟨.ag r.cs, [], none⟩)
section
variable {L : List Ins} {c : Nat} {m : Mach} {w : World} {β : Bs}
theorem st2c_so {op : Int} {d of : Int} {im : BitVec 64} (hT : (decide (0 ≤ m.t) && decide (m.t < (L.length : Int))) = true) (ht : 0 ≤ m.t ∧ m.t ≤ 64) (hB : Nat.ble (0 + Int.toNat m.t * 5 + 5) (pcell L).length = true) (hf : (!m.fin != 0) = true) (hop : 2 ≤ op ∧ op ≤ 9) (hd : regB d = true) (hE : Eff.mk (AV.ag (List.take 5 (List.drop (0 + Int.toNat m.t * 5) (pcell L)))) [] none = Eff.mk (AV.ag (Ins.cs (Ins.mk op d (-1) im of))) [] none) : soART L c m w β (stepM (Ins.mk op d (-1) im of) m) := by
  have hs := hd
  have d2 := reg_nat hd
  have s2 := reg_nat hs
  have s1 := regB_iff.1 hs
  have hU := usesD_ok (d := d) (of := of) (im := im) 14 (Or.inl hop)
  have hq := hf
  have n10 : (!op == 10) = true := by simp; omega
  have n11 : (!op == 11) = true := by simp; omega
  have n12 : (!op == 12) = true := by simp; omega
  have n13 : (!op == 13) = true := by simp; omega
  have n14 : (!op == 14) = true := by simp; omega
  have n15 : (!op == 15) = true := by simp; omega
  have hRe : Ok 107 [.c (.i op)] (.c (.b false)) := by
    have := refReaches_ok op
    rwa [show (op == 10 || op == 11) = false by simp; omega] at this
  have hRk : Ok 108 [.c (.i op)] (.c (.b true)) := by
    have := refReckons_ok op
    rwa [show (decide (1 ≤ op) && decide (op ≤ 9)) = true by simp; omega] at this
  have hN := refNumber_ok op (m.r.get d.toNat) im (by omega)
  have hW := wrR (m := m.on 0) hd (numN op (m.r.get d.toNat) im)
  have hW2 := wrS (m := Mach.mk (m.t + 1 + 0) (m.r.set d.toNat (numN op (m.r.get d.toNat) im)) m.s m.mem m.fin) hd
  have hl : lacks (useOf (Ins.mk op d (-1) im of)) m.s = (!m.s.get d.toNat) := by
    unfold useOf
    rw [if_neg (by show ¬ op = 12; omega), if_neg (by show ¬ op = 15; omega), if_pos rfl, if_neg (by show ¬ (op = 1 ∨ op = 10); omega)]
    exact lacks1 m.s d2
  have hsrc : srcN (Ins.mk op d (-1) im of) m = im := by unfold srcN; rw [if_pos rfl]
  have vGo : (!m.s.get d.toNat) = false → stepM (Ins.mk op d (-1) im of) m = (m.wth d.toNat (numN op (m.r.get d.toNat) im)).on 0 := by
    intro xd
    unfold stepM
    rw [hl, if_neg (by simp_all)]
    rw [if_neg (by show ¬ (op = 10 ∨ op = 11); omega), if_neg (by show ¬ op = 12; omega), if_neg (by show ¬ op = 13; omega), if_neg (by show ¬ op = 14; omega), if_neg (by show ¬ op = 15; omega), hsrc]
  have v0 : (!m.s.get d.toNat) = true → stepM (Ins.mk op d (-1) im of) m = m.fine 1 := by
    intros
    unfold stepM
    rw [hl, if_pos (by simp_all)]
  apply st2c_all (op := op) (d := d) (of := of) (im := im)
  all_goals intros
  all_goals repeat' apply And.intro
  all_goals first
    | exact hf
    | exact hT
    | exact hB
    | exact hE
    | exact hU
    | exact hd
    | exact hs
    | exact okS hd
    | exact okS hs
    | exact okR hd
    | exact okR hs
    | exact okR (m := m.on 0) hd
    | exact effS hd
    | exact effS hs
    | exact effR hd
    | exact effR hs
    | exact effR (m := m.on 0) hd
    | exact onE ht
    | exact hq
    | exact hRe
    | exact hRk
    | exact hN
    | exact n10
    | exact n11
    | exact n12
    | exact n13
    | exact n14
    | exact n15
    | exact bleR (m := m.on 0) hd _
    | exact bleS (m := Mach.mk (m.t + 1 + 0) (m.r.set d.toNat (numN op (m.r.get d.toNat) im)) m.s m.mem m.fin) hd
    | exact hW
    | exact hW2
    | (rw [v0 (by assumption)]; rfl)
    | (rw [vGo (by assumption)]; rfl)
theorem st2r_so {op : Int} {d s of : Int} {im : BitVec 64} (hT : (decide (0 ≤ m.t) && decide (m.t < (L.length : Int))) = true) (ht : 0 ≤ m.t ∧ m.t ≤ 64) (hB : Nat.ble (0 + Int.toNat m.t * 5 + 5) (pcell L).length = true) (hf : (!m.fin != 0) = true) (hop : 2 ≤ op ∧ op ≤ 9) (hd : regB d = true) (hs : regB s = true) (hE : Eff.mk (AV.ag (List.take 5 (List.drop (0 + Int.toNat m.t * 5) (pcell L)))) [] none = Eff.mk (AV.ag (Ins.cs (Ins.mk op d s im of))) [] none) : soART L c m w β (stepM (Ins.mk op d s im of) m) := by
  have d2 := reg_nat hd
  have s2 := reg_nat hs
  have s1 := regB_iff.1 hs
  have hU := uses2_ok (d := d) (of := of) (im := im) 14 (Or.inl hop) (show s ≠ -1 by omega)
  have hq : (s != -1) = true := by simp; omega
  have n10 : (!op == 10) = true := by simp; omega
  have n11 : (!op == 11) = true := by simp; omega
  have n12 : (!op == 12) = true := by simp; omega
  have n13 : (!op == 13) = true := by simp; omega
  have n14 : (!op == 14) = true := by simp; omega
  have n15 : (!op == 15) = true := by simp; omega
  have hRe : Ok 107 [.c (.i op)] (.c (.b false)) := by
    have := refReaches_ok op
    rwa [show (op == 10 || op == 11) = false by simp; omega] at this
  have hRk : Ok 108 [.c (.i op)] (.c (.b true)) := by
    have := refReckons_ok op
    rwa [show (decide (1 ≤ op) && decide (op ≤ 9)) = true by simp; omega] at this
  have hN := refNumber_ok op (m.r.get d.toNat) (m.r.get s.toNat) (by omega)
  have hW := wrR (m := m.on 0) hd (numN op (m.r.get d.toNat) (m.r.get s.toNat))
  have hW2 := wrS (m := Mach.mk (m.t + 1 + 0) (m.r.set d.toNat (numN op (m.r.get d.toNat) (m.r.get s.toNat))) m.s m.mem m.fin) hd
  have hl : lacks (useOf (Ins.mk op d s im of)) m.s = (!m.s.get d.toNat || !m.s.get s.toNat) := by
    unfold useOf
    rw [if_neg (by show ¬ op = 12; omega), if_neg (by show ¬ op = 15; omega), if_neg (by show ¬ s = -1; omega), if_neg (by show ¬ (op = 1 ∨ op = 10); omega)]
    exact lacks2 m.s d2 s2
  have hsrc : srcN (Ins.mk op d s im of) m = (m.r.get s.toNat) := by unfold srcN; rw [if_neg (by show ¬ s = -1; omega)]
  have vGo : (!m.s.get d.toNat) = false → (!m.s.get s.toNat) = false → stepM (Ins.mk op d s im of) m = (m.wth d.toNat (numN op (m.r.get d.toNat) (m.r.get s.toNat))).on 0 := by
    intro xd xs
    unfold stepM
    rw [hl, if_neg (by simp_all)]
    rw [if_neg (by show ¬ (op = 10 ∨ op = 11); omega), if_neg (by show ¬ op = 12; omega), if_neg (by show ¬ op = 13; omega), if_neg (by show ¬ op = 14; omega), if_neg (by show ¬ op = 15; omega), hsrc]
  have v0 : (!m.s.get d.toNat) = true → stepM (Ins.mk op d s im of) m = m.fine 1 := by
    intros
    unfold stepM
    rw [hl, if_pos (by simp_all)]
  have v1 : (!m.s.get d.toNat) = false → (!m.s.get s.toNat) = true → stepM (Ins.mk op d s im of) m = m.fine 1 := by
    intros
    unfold stepM
    rw [hl, if_pos (by simp_all)]
  apply st2r_all (op := op) (d := d) (s := s) (of := of) (im := im)
  all_goals intros
  all_goals repeat' apply And.intro
  all_goals first
    | exact hf
    | exact hT
    | exact hB
    | exact hE
    | exact hU
    | exact hd
    | exact hs
    | exact okS hd
    | exact okS hs
    | exact okR hd
    | exact okR hs
    | exact okR (m := m.on 0) hd
    | exact effS hd
    | exact effS hs
    | exact effR hd
    | exact effR hs
    | exact effR (m := m.on 0) hd
    | exact onE ht
    | exact hq
    | exact hRe
    | exact hRk
    | exact hN
    | exact n10
    | exact n11
    | exact n12
    | exact n13
    | exact n14
    | exact n15
    | exact bleR (m := m.on 0) hd _
    | exact bleS (m := Mach.mk (m.t + 1 + 0) (m.r.set d.toNat (numN op (m.r.get d.toNat) (m.r.get s.toNat))) m.s m.mem m.fin) hd
    | exact hW
    | exact hW2
    | (rw [v0 (by assumption)]; rfl)
    | (rw [v1 (by assumption) (by assumption)]; rfl)
    | (rw [vGo (by assumption) (by assumption)]; rfl)
theorem st1c_so {d of : Int} {im : BitVec 64} (hT : (decide (0 ≤ m.t) && decide (m.t < (L.length : Int))) = true) (ht : 0 ≤ m.t ∧ m.t ≤ 64) (hB : Nat.ble (0 + Int.toNat m.t * 5 + 5) (pcell L).length = true) (hf : (!m.fin != 0) = true) (hd : regB d = true) (hE : Eff.mk (AV.ag (List.take 5 (List.drop (0 + Int.toNat m.t * 5) (pcell L)))) [] none = Eff.mk (AV.ag (Ins.cs (Ins.mk 1 d (-1) im of))) [] none) : soART L c m w β (stepM (Ins.mk 1 d (-1) im of) m) := by
  have hs := hd
  have d2 := reg_nat hd
  have s2 := reg_nat hs
  have s1 := regB_iff.1 hs
  have hU := usesN_ok (d := d) (of := of) (im := im)
  have hq := hf
  have hRe : Ok 107 [.c (.i 1)] (.c (.b false)) := refReaches_ok 1
  have hRk : Ok 108 [.c (.i 1)] (.c (.b true)) := refReckons_ok 1
  have hN := refNumber_ok 1 (m.r.get d.toNat) im (by decide)
  have hW := wrR (m := m.on 0) hd (numN 1 (m.r.get d.toNat) im)
  have hW2 := wrS (m := Mach.mk (m.t + 1 + 0) (m.r.set d.toNat (numN 1 (m.r.get d.toNat) im)) m.s m.mem m.fin) hd
  have hl : lacks (useOf (Ins.mk 1 d (-1) im of)) m.s = false := by
    unfold useOf
    rw [if_neg (by show ¬ (1 : Int) = 12; omega), if_neg (by show ¬ (1 : Int) = 15; omega), if_pos rfl, if_pos (Or.inl rfl)]
    exact lacks0 m.s
  have hsrc : srcN (Ins.mk 1 d (-1) im of) m = im := by unfold srcN; rw [if_pos rfl]
  have vGo : stepM (Ins.mk 1 d (-1) im of) m = (m.wth d.toNat (numN 1 (m.r.get d.toNat) im)).on 0 := by
    unfold stepM
    rw [hl, if_neg (by simp_all)]
    rw [if_neg (by show ¬ (1 = 10 ∨ 1 = 11); omega), if_neg (by show ¬ 1 = 12; omega), if_neg (by show ¬ 1 = 13; omega), if_neg (by show ¬ 1 = 14; omega), if_neg (by show ¬ 1 = 15; omega), hsrc]
  rw [vGo]
  refine st1c_w0 ?_ hE hU (effR hd) hRe (onE ht) hRk (effR (m := m.on 0) hd) hN hW hW2
  have a1 := okR (m := m) hd
  have a2 := okR (m := m.on 0) hd
  have a3 := bleR (m := m.on 0) hd (AC.u (numN 1 (m.r.get d.toNat) im))
  have a4 := bleS (m := Mach.mk (m.t + 1 + 0) (m.r.set d.toNat (numN 1 (m.r.get d.toNat) im)) m.s m.mem m.fin) hd
  have a5 : (decide (0 ≤ d) && decide (d < 6)) = true := hd
  exact and_yes hf (and_yes hT (and_yes hB (and_yes a5 (and_yes a1 (and_yes a5 (and_yes a2 (and_yes a5 (and_yes a3 (and_yes a5 (and_yes a4 rfl))))))))))
theorem st1r_so {d s of : Int} {im : BitVec 64} (hT : (decide (0 ≤ m.t) && decide (m.t < (L.length : Int))) = true) (ht : 0 ≤ m.t ∧ m.t ≤ 64) (hB : Nat.ble (0 + Int.toNat m.t * 5 + 5) (pcell L).length = true) (hf : (!m.fin != 0) = true) (hd : regB d = true) (hs : regB s = true) (hE : Eff.mk (AV.ag (List.take 5 (List.drop (0 + Int.toNat m.t * 5) (pcell L)))) [] none = Eff.mk (AV.ag (Ins.cs (Ins.mk 1 d s im of))) [] none) : soART L c m w β (stepM (Ins.mk 1 d s im of) m) := by
  have d2 := reg_nat hd
  have s2 := reg_nat hs
  have s1 := regB_iff.1 hs
  have hU := usesS_ok (d := d) (of := of) (im := im) 14 (Or.inl rfl) (show s ≠ -1 by omega)
  have hq : (s != -1) = true := by simp; omega
  have hRe : Ok 107 [.c (.i 1)] (.c (.b false)) := refReaches_ok 1
  have hRk : Ok 108 [.c (.i 1)] (.c (.b true)) := refReckons_ok 1
  have hN := refNumber_ok 1 (m.r.get d.toNat) (m.r.get s.toNat) (by decide)
  have hW := wrR (m := m.on 0) hd (numN 1 (m.r.get d.toNat) (m.r.get s.toNat))
  have hW2 := wrS (m := Mach.mk (m.t + 1 + 0) (m.r.set d.toNat (numN 1 (m.r.get d.toNat) (m.r.get s.toNat))) m.s m.mem m.fin) hd
  have hl : lacks (useOf (Ins.mk 1 d s im of)) m.s = (!m.s.get s.toNat) := by
    unfold useOf
    rw [if_neg (by show ¬ (1 : Int) = 12; omega), if_neg (by show ¬ (1 : Int) = 15; omega), if_neg (by show ¬ s = -1; omega), if_pos (by show (1 : Int) = 1 ∨ (1 : Int) = 10; omega)]
    exact lacks1 m.s s2
  have hsrc : srcN (Ins.mk 1 d s im of) m = (m.r.get s.toNat) := by unfold srcN; rw [if_neg (by show ¬ s = -1; omega)]
  have vGo : (!m.s.get s.toNat) = false → stepM (Ins.mk 1 d s im of) m = (m.wth d.toNat (numN 1 (m.r.get d.toNat) (m.r.get s.toNat))).on 0 := by
    intro xs
    unfold stepM
    rw [hl, if_neg (by simp_all)]
    rw [if_neg (by show ¬ (1 = 10 ∨ 1 = 11); omega), if_neg (by show ¬ 1 = 12; omega), if_neg (by show ¬ 1 = 13; omega), if_neg (by show ¬ 1 = 14; omega), if_neg (by show ¬ 1 = 15; omega), hsrc]
  have v0 : (!m.s.get s.toNat) = true → stepM (Ins.mk 1 d s im of) m = m.fine 1 := by
    intros
    unfold stepM
    rw [hl, if_pos (by simp_all)]
  apply st1r_all (d := d) (s := s) (of := of) (im := im)
  all_goals intros
  all_goals repeat' apply And.intro
  all_goals first
    | exact hf
    | exact hT
    | exact hB
    | exact hE
    | exact hU
    | exact hd
    | exact hs
    | exact okS hd
    | exact okS hs
    | exact okR hd
    | exact okR hs
    | exact okR (m := m.on 0) hd
    | exact effS hd
    | exact effS hs
    | exact effR hd
    | exact effR hs
    | exact effR (m := m.on 0) hd
    | exact onE ht
    | exact hq
    | exact hRe
    | exact hRk
    | exact hN
    | exact bleR (m := m.on 0) hd _
    | exact bleS (m := Mach.mk (m.t + 1 + 0) (m.r.set d.toNat (numN 1 (m.r.get d.toNat) (m.r.get s.toNat))) m.s m.mem m.fin) hd
    | exact hW
    | exact hW2
    | (rw [v0 (by assumption)]; rfl)
    | (rw [vGo (by assumption)]; rfl)
theorem st13c_so {d of : Int} {im : BitVec 64} (hT : (decide (0 ≤ m.t) && decide (m.t < (L.length : Int))) = true) (ht : 0 ≤ m.t ∧ m.t ≤ 64) (hB : Nat.ble (0 + Int.toNat m.t * 5 + 5) (pcell L).length = true) (hf : (!m.fin != 0) = true) (ho : 0 ≤ of ∧ of ≤ 64) (hd : regB d = true) (hE : Eff.mk (AV.ag (List.take 5 (List.drop (0 + Int.toNat m.t * 5) (pcell L)))) [] none = Eff.mk (AV.ag (Ins.cs (Ins.mk 13 d (-1) im of))) [] none) : soART L c m w β (stepM (Ins.mk 13 d (-1) im of) m) := by
  have hs := hd
  have d2 := reg_nat hd
  have s2 := reg_nat hs
  have s1 := regB_iff.1 hs
  have hU := usesD_ok (op := 13) (d := d) (of := of) (im := im) 14 (by omega)
  have hq := hf
  have hRe : Ok 107 [.c (.i 13)] (.c (.b false)) := refReaches_ok 13
  have hRk : Ok 108 [.c (.i 13)] (.c (.b false)) := refReckons_ok 13
  have hN := hf
  have hl : lacks (useOf (Ins.mk 13 d (-1) im of)) m.s = (!m.s.get d.toNat) := by
    unfold useOf
    rw [if_neg (by show ¬ (13 : Int) = 12; omega), if_neg (by show ¬ (13 : Int) = 15; omega), if_pos rfl, if_neg (by show ¬ ((13 : Int) = 1 ∨ (13 : Int) = 10); omega)]
    exact lacks1 m.s d2
  have hsrc : srcN (Ins.mk 13 d (-1) im of) m = im := by unfold srcN; rw [if_pos rfl]
  have vY : (!m.s.get d.toNat) = false → (eqb (m.r.get d.toNat) im) = true → stepM (Ins.mk 13 d (-1) im of) m = m.on of := by
    intro xd b
    unfold stepM
    rw [hl, if_neg (by simp_all)]
    rw [if_neg (by show ¬ ((13 : Int) = 10 ∨ (13 : Int) = 11); omega), if_neg (by show ¬ (13 : Int) = 12; omega), if_pos rfl, hsrc]
    rw [show (eqb (m.r.get (Ins.mk 13 d (-1) im of).d.toNat) im) = true from b]; rfl
  have vN : (!m.s.get d.toNat) = false → (eqb (m.r.get d.toNat) im) = false → stepM (Ins.mk 13 d (-1) im of) m = m.on 0 := by
    intro xd b
    unfold stepM
    rw [hl, if_neg (by simp_all)]
    rw [if_neg (by show ¬ ((13 : Int) = 10 ∨ (13 : Int) = 11); omega), if_neg (by show ¬ (13 : Int) = 12; omega), if_pos rfl, hsrc]
    rw [show (eqb (m.r.get (Ins.mk 13 d (-1) im of).d.toNat) im) = false from b]; rfl
  have v0 : (!m.s.get d.toNat) = true → stepM (Ins.mk 13 d (-1) im of) m = m.fine 1 := by
    intros
    unfold stepM
    rw [hl, if_pos (by simp_all)]
  apply st13c_all (d := d) (of := of) (im := im)
  all_goals intros
  all_goals repeat' apply And.intro
  all_goals first
    | exact hf
    | exact hT
    | exact hB
    | exact hE
    | exact hU
    | exact hd
    | exact hs
    | exact okS hd
    | exact okS hs
    | exact okR hd
    | exact okR hs
    | exact okR (m := m.on 0) hd
    | exact effS hd
    | exact effS hs
    | exact effR hd
    | exact effR hs
    | exact effR (m := m.on 0) hd
    | exact onE ht
    | exact hq
    | exact hRe
    | exact hRk
    | exact hN
    | exact farE ht ho
    | (rw [v0 (by assumption)]; rfl)
    | (rw [vY (by assumption) (by assumption)]; rfl)
    | (rw [vN (by assumption) (by assumption)]; rfl)
theorem st13r_so {d s of : Int} {im : BitVec 64} (hT : (decide (0 ≤ m.t) && decide (m.t < (L.length : Int))) = true) (ht : 0 ≤ m.t ∧ m.t ≤ 64) (hB : Nat.ble (0 + Int.toNat m.t * 5 + 5) (pcell L).length = true) (hf : (!m.fin != 0) = true) (ho : 0 ≤ of ∧ of ≤ 64) (hd : regB d = true) (hs : regB s = true) (hE : Eff.mk (AV.ag (List.take 5 (List.drop (0 + Int.toNat m.t * 5) (pcell L)))) [] none = Eff.mk (AV.ag (Ins.cs (Ins.mk 13 d s im of))) [] none) : soART L c m w β (stepM (Ins.mk 13 d s im of) m) := by
  have d2 := reg_nat hd
  have s2 := reg_nat hs
  have s1 := regB_iff.1 hs
  have hU := uses2_ok (op := 13) (d := d) (of := of) (im := im) 14 (by omega) (show s ≠ -1 by omega)
  have hq : (s != -1) = true := by simp; omega
  have hRe : Ok 107 [.c (.i 13)] (.c (.b false)) := refReaches_ok 13
  have hRk : Ok 108 [.c (.i 13)] (.c (.b false)) := refReckons_ok 13
  have hN := hf
  have hl : lacks (useOf (Ins.mk 13 d s im of)) m.s = (!m.s.get d.toNat || !m.s.get s.toNat) := by
    unfold useOf
    rw [if_neg (by show ¬ (13 : Int) = 12; omega), if_neg (by show ¬ (13 : Int) = 15; omega), if_neg (by show ¬ s = -1; omega), if_neg (by show ¬ ((13 : Int) = 1 ∨ (13 : Int) = 10); omega)]
    exact lacks2 m.s d2 s2
  have hsrc : srcN (Ins.mk 13 d s im of) m = (m.r.get s.toNat) := by unfold srcN; rw [if_neg (by show ¬ s = -1; omega)]
  have vY : (!m.s.get d.toNat) = false → (!m.s.get s.toNat) = false → (eqb (m.r.get d.toNat) (m.r.get s.toNat)) = true → stepM (Ins.mk 13 d s im of) m = m.on of := by
    intro xd xs b
    unfold stepM
    rw [hl, if_neg (by simp_all)]
    rw [if_neg (by show ¬ ((13 : Int) = 10 ∨ (13 : Int) = 11); omega), if_neg (by show ¬ (13 : Int) = 12; omega), if_pos rfl, hsrc]
    rw [show (eqb (m.r.get (Ins.mk 13 d s im of).d.toNat) (m.r.get s.toNat)) = true from b]; rfl
  have vN : (!m.s.get d.toNat) = false → (!m.s.get s.toNat) = false → (eqb (m.r.get d.toNat) (m.r.get s.toNat)) = false → stepM (Ins.mk 13 d s im of) m = m.on 0 := by
    intro xd xs b
    unfold stepM
    rw [hl, if_neg (by simp_all)]
    rw [if_neg (by show ¬ ((13 : Int) = 10 ∨ (13 : Int) = 11); omega), if_neg (by show ¬ (13 : Int) = 12; omega), if_pos rfl, hsrc]
    rw [show (eqb (m.r.get (Ins.mk 13 d s im of).d.toNat) (m.r.get s.toNat)) = false from b]; rfl
  have v0 : (!m.s.get d.toNat) = true → stepM (Ins.mk 13 d s im of) m = m.fine 1 := by
    intros
    unfold stepM
    rw [hl, if_pos (by simp_all)]
  have v1 : (!m.s.get d.toNat) = false → (!m.s.get s.toNat) = true → stepM (Ins.mk 13 d s im of) m = m.fine 1 := by
    intros
    unfold stepM
    rw [hl, if_pos (by simp_all)]
  apply st13r_all (d := d) (s := s) (of := of) (im := im)
  all_goals intros
  all_goals repeat' apply And.intro
  all_goals first
    | exact hf
    | exact hT
    | exact hB
    | exact hE
    | exact hU
    | exact hd
    | exact hs
    | exact okS hd
    | exact okS hs
    | exact okR hd
    | exact okR hs
    | exact okR (m := m.on 0) hd
    | exact effS hd
    | exact effS hs
    | exact effR hd
    | exact effR hs
    | exact effR (m := m.on 0) hd
    | exact onE ht
    | exact hq
    | exact hRe
    | exact hRk
    | exact hN
    | exact farE ht ho
    | (rw [v0 (by assumption)]; rfl)
    | (rw [v1 (by assumption) (by assumption)]; rfl)
    | (rw [vY (by assumption) (by assumption) (by assumption)]; rfl)
    | (rw [vN (by assumption) (by assumption) (by assumption)]; rfl)
theorem st14c_so {d of : Int} {im : BitVec 64} (hT : (decide (0 ≤ m.t) && decide (m.t < (L.length : Int))) = true) (ht : 0 ≤ m.t ∧ m.t ≤ 64) (hB : Nat.ble (0 + Int.toNat m.t * 5 + 5) (pcell L).length = true) (hf : (!m.fin != 0) = true) (ho : 0 ≤ of ∧ of ≤ 64) (hd : regB d = true) (hE : Eff.mk (AV.ag (List.take 5 (List.drop (0 + Int.toNat m.t * 5) (pcell L)))) [] none = Eff.mk (AV.ag (Ins.cs (Ins.mk 14 d (-1) im of))) [] none) : soART L c m w β (stepM (Ins.mk 14 d (-1) im of) m) := by
  have hs := hd
  have d2 := reg_nat hd
  have s2 := reg_nat hs
  have s1 := regB_iff.1 hs
  have hU := usesD_ok (op := 14) (d := d) (of := of) (im := im) 14 (by omega)
  have hq := hf
  have hRe : Ok 107 [.c (.i 14)] (.c (.b false)) := refReaches_ok 14
  have hRk : Ok 108 [.c (.i 14)] (.c (.b false)) := refReckons_ok 14
  have hN := hf
  have hl : lacks (useOf (Ins.mk 14 d (-1) im of)) m.s = (!m.s.get d.toNat) := by
    unfold useOf
    rw [if_neg (by show ¬ (14 : Int) = 12; omega), if_neg (by show ¬ (14 : Int) = 15; omega), if_pos rfl, if_neg (by show ¬ ((14 : Int) = 1 ∨ (14 : Int) = 10); omega)]
    exact lacks1 m.s d2
  have hsrc : srcN (Ins.mk 14 d (-1) im of) m = im := by unfold srcN; rw [if_pos rfl]
  have vY : (!m.s.get d.toNat) = false → (decide (nv (m.r.get d.toNat) < nv im)) = true → stepM (Ins.mk 14 d (-1) im of) m = m.on of := by
    intro xd b
    unfold stepM
    rw [hl, if_neg (by simp_all)]
    rw [if_neg (by show ¬ ((14 : Int) = 10 ∨ (14 : Int) = 11); omega), if_neg (by show ¬ (14 : Int) = 12; omega), if_neg (by show ¬ (14 : Int) = 13; omega), if_pos rfl, hsrc]
    rw [if_pos (of_decide_eq_true b)]
  have vN : (!m.s.get d.toNat) = false → (decide (nv (m.r.get d.toNat) < nv im)) = false → stepM (Ins.mk 14 d (-1) im of) m = m.on 0 := by
    intro xd b
    unfold stepM
    rw [hl, if_neg (by simp_all)]
    rw [if_neg (by show ¬ ((14 : Int) = 10 ∨ (14 : Int) = 11); omega), if_neg (by show ¬ (14 : Int) = 12; omega), if_neg (by show ¬ (14 : Int) = 13; omega), if_pos rfl, hsrc]
    rw [if_neg (of_decide_eq_false b)]
  have v0 : (!m.s.get d.toNat) = true → stepM (Ins.mk 14 d (-1) im of) m = m.fine 1 := by
    intros
    unfold stepM
    rw [hl, if_pos (by simp_all)]
  apply st14c_all (d := d) (of := of) (im := im)
  all_goals intros
  all_goals repeat' apply And.intro
  all_goals first
    | exact hf
    | exact hT
    | exact hB
    | exact hE
    | exact hU
    | exact hd
    | exact hs
    | exact okS hd
    | exact okS hs
    | exact okR hd
    | exact okR hs
    | exact okR (m := m.on 0) hd
    | exact effS hd
    | exact effS hs
    | exact effR hd
    | exact effR hs
    | exact effR (m := m.on 0) hd
    | exact onE ht
    | exact hq
    | exact hRe
    | exact hRk
    | exact hN
    | exact farE ht ho
    | (rw [v0 (by assumption)]; rfl)
    | (rw [vY (by assumption) (by assumption)]; rfl)
    | (rw [vN (by assumption) (by assumption)]; rfl)
theorem st14r_so {d s of : Int} {im : BitVec 64} (hT : (decide (0 ≤ m.t) && decide (m.t < (L.length : Int))) = true) (ht : 0 ≤ m.t ∧ m.t ≤ 64) (hB : Nat.ble (0 + Int.toNat m.t * 5 + 5) (pcell L).length = true) (hf : (!m.fin != 0) = true) (ho : 0 ≤ of ∧ of ≤ 64) (hd : regB d = true) (hs : regB s = true) (hE : Eff.mk (AV.ag (List.take 5 (List.drop (0 + Int.toNat m.t * 5) (pcell L)))) [] none = Eff.mk (AV.ag (Ins.cs (Ins.mk 14 d s im of))) [] none) : soART L c m w β (stepM (Ins.mk 14 d s im of) m) := by
  have d2 := reg_nat hd
  have s2 := reg_nat hs
  have s1 := regB_iff.1 hs
  have hU := uses2_ok (op := 14) (d := d) (of := of) (im := im) 14 (by omega) (show s ≠ -1 by omega)
  have hq : (s != -1) = true := by simp; omega
  have hRe : Ok 107 [.c (.i 14)] (.c (.b false)) := refReaches_ok 14
  have hRk : Ok 108 [.c (.i 14)] (.c (.b false)) := refReckons_ok 14
  have hN := hf
  have hl : lacks (useOf (Ins.mk 14 d s im of)) m.s = (!m.s.get d.toNat || !m.s.get s.toNat) := by
    unfold useOf
    rw [if_neg (by show ¬ (14 : Int) = 12; omega), if_neg (by show ¬ (14 : Int) = 15; omega), if_neg (by show ¬ s = -1; omega), if_neg (by show ¬ ((14 : Int) = 1 ∨ (14 : Int) = 10); omega)]
    exact lacks2 m.s d2 s2
  have hsrc : srcN (Ins.mk 14 d s im of) m = (m.r.get s.toNat) := by unfold srcN; rw [if_neg (by show ¬ s = -1; omega)]
  have vY : (!m.s.get d.toNat) = false → (!m.s.get s.toNat) = false → (decide (nv (m.r.get d.toNat) < nv (m.r.get s.toNat))) = true → stepM (Ins.mk 14 d s im of) m = m.on of := by
    intro xd xs b
    unfold stepM
    rw [hl, if_neg (by simp_all)]
    rw [if_neg (by show ¬ ((14 : Int) = 10 ∨ (14 : Int) = 11); omega), if_neg (by show ¬ (14 : Int) = 12; omega), if_neg (by show ¬ (14 : Int) = 13; omega), if_pos rfl, hsrc]
    rw [if_pos (of_decide_eq_true b)]
  have vN : (!m.s.get d.toNat) = false → (!m.s.get s.toNat) = false → (decide (nv (m.r.get d.toNat) < nv (m.r.get s.toNat))) = false → stepM (Ins.mk 14 d s im of) m = m.on 0 := by
    intro xd xs b
    unfold stepM
    rw [hl, if_neg (by simp_all)]
    rw [if_neg (by show ¬ ((14 : Int) = 10 ∨ (14 : Int) = 11); omega), if_neg (by show ¬ (14 : Int) = 12; omega), if_neg (by show ¬ (14 : Int) = 13; omega), if_pos rfl, hsrc]
    rw [if_neg (of_decide_eq_false b)]
  have v0 : (!m.s.get d.toNat) = true → stepM (Ins.mk 14 d s im of) m = m.fine 1 := by
    intros
    unfold stepM
    rw [hl, if_pos (by simp_all)]
  have v1 : (!m.s.get d.toNat) = false → (!m.s.get s.toNat) = true → stepM (Ins.mk 14 d s im of) m = m.fine 1 := by
    intros
    unfold stepM
    rw [hl, if_pos (by simp_all)]
  apply st14r_all (d := d) (s := s) (of := of) (im := im)
  all_goals intros
  all_goals repeat' apply And.intro
  all_goals first
    | exact hf
    | exact hT
    | exact hB
    | exact hE
    | exact hU
    | exact hd
    | exact hs
    | exact okS hd
    | exact okS hs
    | exact okR hd
    | exact okR hs
    | exact okR (m := m.on 0) hd
    | exact effS hd
    | exact effS hs
    | exact effR hd
    | exact effR hs
    | exact effR (m := m.on 0) hd
    | exact onE ht
    | exact hq
    | exact hRe
    | exact hRk
    | exact hN
    | exact farE ht ho
    | (rw [v0 (by assumption)]; rfl)
    | (rw [v1 (by assumption) (by assumption)]; rfl)
    | (rw [vY (by assumption) (by assumption) (by assumption)]; rfl)
    | (rw [vN (by assumption) (by assumption) (by assumption)]; rfl)
end
end Go.Proofs.Ytkigmocchaikgaa

/- The contracts of the reference's StepOf and RunOf. -/
namespace Go.Proofs.Ytkigmocchaikgaa
open Go.RowKit

section
variable {L : List Ins} {c : Nat} {m : Mach} {w : World} {β : Bs}
theorem stJ_so {of : Int} {im : BitVec 64} (hT : (decide (0 ≤ m.t) && decide (m.t < (L.length : Int))) = true) (ht : 0 ≤ m.t ∧ m.t ≤ 64) (hB : Nat.ble (0 + Int.toNat m.t * 5 + 5) (pcell L).length = true) (hf : (!m.fin != 0) = true) (ho : 0 ≤ of ∧ of ≤ 64)
    (hE : Eff.mk (AV.ag (List.take 5 (List.drop (0 + Int.toNat m.t * 5) (pcell L)))) [] none = Eff.mk (AV.ag (Ins.cs (Ins.mk 12 0 0 im of))) [] none) : soART L c m w β (stepM (Ins.mk 12 0 0 im of) m) := by
  have v : stepM (Ins.mk 12 0 0 im of) m = m.on of := by
    have hl : lacks (useOf (Ins.mk 12 0 0 im of)) m.s = false := lacks0 m.s
    unfold stepM
    rw [hl, if_neg (by decide), if_neg (by decide : ¬ ((12 : Int) = 10 ∨ (12 : Int) = 11)), if_pos rfl]
  rw [v]
  exact stJ_w0 (and_yes hf (and_yes hT (and_yes hB rfl))) hE usesJ_ok rfl rfl (refReaches_ok 12) (onE ht) (farE ht ho)
theorem stX_so {of : Int} {im : BitVec 64} (hT : (decide (0 ≤ m.t) && decide (m.t < (L.length : Int))) = true) (ht : 0 ≤ m.t ∧ m.t ≤ 64) (hB : Nat.ble (0 + Int.toNat m.t * 5 + 5) (pcell L).length = true) (hf : (!m.fin != 0) = true)
    (hE : Eff.mk (AV.ag (List.take 5 (List.drop (0 + Int.toNat m.t * 5) (pcell L)))) [] none = Eff.mk (AV.ag (Ins.cs (Ins.mk 15 0 0 im of))) [] none) : soART L c m w β (stepM (Ins.mk 15 0 0 im of) m) := by
  have hl : lacks (useOf (Ins.mk 15 0 0 im of)) m.s = !m.s.get 0 := lacks1 m.s (by decide)
  have v0 : (!m.s.get 0) = true → stepM (Ins.mk 15 0 0 im of) m = m.fine 1 := fun h => by
    unfold stepM
    rw [hl, if_pos h]
  have v1 : (!m.s.get 0) = false → stepM (Ins.mk 15 0 0 im of) m = m.fine 3 := fun h => by
    unfold stepM
    rw [hl, h, if_neg (by decide), if_neg (by decide : ¬ ((15 : Int) = 10 ∨ (15 : Int) = 11)), if_neg (by decide : ¬ (15 : Int) = 12), if_neg (by decide : ¬ (15 : Int) = 13), if_neg (by decide : ¬ (15 : Int) = 14), if_pos rfl]
  have hU := usesX_ok (d := 0) (s := 0) (of := of) (im := im) 14
  have hRe : Ok 107 [.c (.i 15)] (.c (.b false)) := refReaches_ok 15
  apply stX_all (of := of) (im := im)
  all_goals intros
  all_goals repeat' apply And.intro
  all_goals first
    | exact hf
    | exact hT
    | exact hB
    | exact hE
    | exact hU
    | exact hRe
    | exact onE ht
    | exact backE ht
    | rfl
    | (rw [v0 (by assumption)]; rfl)
    | (rw [v1 (by assumption)]; rfl)

/- a load, from above -/
abbrev slKn (m : Mach) (i : Ins) (F x : BitVec 64) (k : Int) : Kn := ⟨[(3, .c (.w 1)), (4, .c (.w 2)), (5, .c (.w 11)), (9, .c (.u F)), (10, .c (.u x)), (11, .c (.i k))], [(1, ⟨true, (m.on 0).cs, 0⟩), (2, ⟨true, Mach.z.cs, 0⟩), (11, ⟨true, i.cs, 0⟩)], 12⟩
theorem loadDown {d s of : Int} {im F : BitVec 64} (hd : regB d = true) (hm : m.mem.size = 64) {n : Nat} (hF : F.toNat + n ≤ 64) : ∀ k : Nat, k ≤ n →
    ART Try.prog 63 (cx w β 1 []) Try.f63.ntmps (cutAt Try.f63 1) (slKn m (Ins.mk 10 d s im of) F (loadL (memL m.mem (F.toNat + k) (n - k))) ((k : Int) - 1)) (REff w β ⟨.ag ((m.wth d.toNat (loadL (memL m.mem F.toNat n))).on 0).cs, [], none⟩)
  | 0, _ => by
    have h1 := regB_iff.1 hd
    refine stLx_w0 ?_ (wrR (m := m.on 0) hd _) (wrS (m := Mach.mk (m.t + 1 + 0) (m.r.set d.toNat _) m.s m.mem m.fin) hd)
    have a3 := bleR (m := m.on 0) hd (AC.u (loadL (memL m.mem (F.toNat + 0) (n - 0))))
    have a4 := bleS (m := Mach.mk (m.t + 1 + 0) (m.r.set d.toNat (loadL (memL m.mem (F.toNat + 0) (n - 0)))) m.s m.mem m.fin) hd
    have a5 : (decide (0 ≤ d) && decide (d < 6)) = true := hd
    exact and_yes (by decide) (and_yes a5 (and_yes a3 (and_yes a5 (and_yes a4 rfl))))
  | k + 1, hk => by
    have e0 : IntKind.wrap IntKind.i64 (nv F) = (F.toNat : Int) := by show IntKind.wrap IntKind.i64 (F.toNat : Int) = _; rw [wrapN (by omega) (by omega)]
    have e1 : IntKind.wrap IntKind.i64 (IntKind.wrap IntKind.i64 (nv F) + (((k + 1 : Nat) : Int) - 1)) = ((F.toNat + k : Nat) : Int) := by
      rw [e0, wrapN (by omega) (by omega)]; omega
    have e2 : IntKind.wrap IntKind.i64 (((k + 1 : Nat) : Int) - 1 - 1) = (k : Int) - 1 := by rw [wrapN (by omega) (by omega)]; omega
    have e3 : bor (bshl (loadL (memL m.mem (F.toNat + (k + 1)) (n - (k + 1)))) 8) ((byteAt m.mem (F.toNat + k)).setWidth 64) = loadL (memL m.mem (F.toNat + k) (n - k)) := by
      rw [show n - k = (n - (k + 1)) + 1 by omega, memL_cons]
      rfl
    refine stLr_w0 (j := F.toNat + k) ?_ ?_ (low_of rfl) (fun _ h => Nat.lt_of_lt_of_le h (by decide)) ?_
    · rw [e1]; simp; omega
    · rw [e1]; rfl
    · rw [e2, e3]
      exact loadDown hd hm hF k (by omega)
theorem stL_so {d s of : Int} {im : BitVec 64} (hT : (decide (0 ≤ m.t) && decide (m.t < (L.length : Int))) = true) (ht : 0 ≤ m.t ∧ m.t ≤ 64) (hB : Nat.ble (0 + Int.toNat m.t * 5 + 5) (pcell L).length = true) (hf : (!m.fin != 0) = true) (hm : m.mem.size = 64) (hd : regB d = true) (hs : regB s = true) (hz : sizeB im = true)
    (hE : Eff.mk (AV.ag (List.take 5 (List.drop (0 + Int.toNat m.t * 5) (pcell L)))) [] none = Eff.mk (AV.ag (Ins.cs (Ins.mk 10 d s im of))) [] none) : soART L c m w β (stepM (Ins.mk 10 d s im of) m) := by
  have s1 := regB_iff.1 hs
  have hl : lacks (useOf (Ins.mk 10 d s im of)) m.s = !m.s.get s.toNat := by
    unfold useOf
    rw [if_neg (by decide : ¬ (10 : Int) = 12), if_neg (by decide : ¬ (10 : Int) = 15), if_neg (by show ¬ s = -1; omega), if_pos (Or.inr rfl)]
    exact lacks1 m.s (reg_nat hs)
  have v0 : (!m.s.get s.toNat) = true → stepM (Ins.mk 10 d s im of) m = m.fine 1 := fun h => by
    unfold stepM
    rw [hl, if_pos h]
  have v1 : (!m.s.get s.toNat) = false → farB (Ins.mk 10 d s im of) m = true → stepM (Ins.mk 10 d s im of) m = m.fine 2 := fun h k => by
    unfold stepM reachM
    rw [hl, h, if_neg (by decide), if_pos (Or.inl rfl), k, if_pos rfl]
  have hU := usesS_ok (op := 10) (d := d) (of := of) (im := im) 14 (Or.inr rfl) (show s ≠ -1 by omega)
  have hq : (s != -1) = true := by simp; omega
  have hRe : Ok 107 [.c (.i 10)] (.c (.b true)) := refReaches_ok 10
  refine stL_all (d := d) (s := s) (of := of) (im := im) (by decide) (fun a => ?_) (fun a b => ?_) (fun a b => ?_)
  · repeat' apply And.intro
    all_goals first
      | exact hf
      | exact hT
      | exact hB
      | exact hE
      | exact hU
      | exact hs
      | exact okS hs
      | exact effS hs
      | (rw [v0 a]; rfl)
  · repeat' apply And.intro
    all_goals first
      | exact hf
      | exact hT
      | exact hB
      | exact hE
      | exact hU
      | exact hs
      | exact hd
      | exact hq
      | exact hRe
      | exact okS hs
      | exact effS hs
      | exact okR hs
      | exact effR hs
      | exact okR hd
      | exact effR hd
      | rfl
      | (rw [v1 a b]; rfl)
  · have hfar := far_no (i := Ins.mk 10 d s im of) (m := m) hz b
    have v2 : stepM (Ins.mk 10 d s im of) m = (m.wth d.toNat (loadL (memL m.mem (fromN (Ins.mk 10 d s im of) m).toNat im.toNat))).on 0 := by
      unfold stepM reachM
      rw [hl, a, if_neg (by decide), if_pos (Or.inl rfl), b, if_neg (by decide), if_pos rfl]
    have hl := loadDown (w := w) (β := β) (m := m) (s := s) (of := of) (im := im) (F := fromN (Ins.mk 10 d s im of) m) hd hm hfar im.toNat (Nat.le_refl _)
    rw [Nat.sub_self] at hl
    have e : IntKind.wrap IntKind.i64 (IntKind.wrap IntKind.i64 (nv im) - 1) = (im.toNat : Int) - 1 := by
      have : im.toNat ≤ 64 := by have h1 : (Ins.mk 10 d s im of).im.toNat ≤ 64 := by omega
                                 exact h1
      show IntKind.wrap IntKind.i64 (IntKind.wrap IntKind.i64 (im.toNat : Int) - 1) = _
      rw [wrapN (n := (im.toNat : Int)) (by omega) (by omega), wrapN (by omega) (by omega)]
    rw [v2]
    repeat' apply And.intro
    all_goals first
      | exact hf
      | exact hT
      | exact hB
      | exact hE
      | exact hU
      | exact hs
      | exact hd
      | exact hq
      | exact hRe
      | exact okS hs
      | exact effS hs
      | exact okR hs
      | exact effR hs
      | exact okR hd
      | exact effR hd
      | exact onE ht
      | rfl
      | exact low_of rfl
      | (rw [e]; exact hl)

/- a store -/
abbrev ssKn (m : Mach) (i : Ins) (y F : BitVec 64) (t : ByteArray) (k : Int) : Kn := ⟨[(3, .c (.w 1)), (4, .c (.w 2)), (5, .c (.w 11)), (8, .c (.u y)), (9, .c (.u F)), (12, .c (.s t)), (13, .c (.i k))], [(1, ⟨true, (m.on 0).cs, 0⟩), (2, ⟨true, Mach.z.cs, 0⟩), (11, ⟨true, i.cs, 0⟩)], 12⟩
theorem storeUp {d s of : Int} {im F y : BitVec 64} (hm : m.mem.size = 64) (hi : im.toNat ≤ 8) (hF : F.toNat + im.toNat ≤ 64) : ∀ n k : Nat, k + n = im.toNat →
    ART Try.prog 63 (cx w β 1 []) Try.f63.ntmps (cutAt Try.f63 2) (ssKn m (Ins.mk 11 d s im of) y F (strOf (storeL y k)) k) (REff w β ⟨.ag (Mach.on ⟨m.t, m.r, m.s, putMem m.mem F.toNat im.toNat y, m.fin⟩ 0).cs, [], none⟩)
  | 0, k, h => by
    have e0 : IntKind.wrap IntKind.i64 (nv F) = (F.toNat : Int) := by show IntKind.wrap IntKind.i64 (F.toNat : Int) = _; rw [wrapN (by omega) (by omega)]
    have ei : IntKind.wrap IntKind.i64 (nv im) = (im.toNat : Int) := by show IntKind.wrap IntKind.i64 (im.toNat : Int) = _; rw [wrapN (by omega) (by omega)]
    have hk : k = im.toNat := by omega
    subst hk
    have hz : (strOf (storeL y im.toNat)).size = im.toNat := by rw [strOf_size, storeL_length]
    have e1 : IntKind.wrap IntKind.i64 ((F.toNat : Int) + ((strOf (storeL y im.toNat)).size : Int)) = ((F.toNat + im.toNat : Nat) : Int) := by
      rw [hz, wrapN (by omega) (by omega)]; omega
    have e2 : nv F = (F.toNat : Int) := rfl
    refine stSx_w0 (t2 := putMem m.mem F.toNat im.toNat y) ?_ ?_
    · rw [e0, e1, ei, e2]
      simp only [Int.toNat_natCast, ByteArray.size_append, ByteArray.size_extract, hz, hm]
      simp
      omega
    · rw [e0, e1, e2]
      rfl
  | n + 1, k, h => by
    have ei : IntKind.wrap IntKind.i64 (nv im) = (im.toNat : Int) := by show IntKind.wrap IntKind.i64 (im.toNat : Int) = _; rw [wrapN (by omega) (by omega)]
    have e8 : IntKind.wrap IntKind.i64 (8 * (k : Int)) = ((8 * k : Nat) : Int) := by rw [wrapN (by omega) (by omega)]; omega
    have e1 : IntKind.wrap IntKind.i64 ((k : Int) + 1) = ((k + 1 : Nat) : Int) := by rw [wrapN (by omega) (by omega)]; omega
    have hz : (strOf (storeL y k)).size = k := by rw [strOf_size, storeL_length]
    have ez : List.take 1 (List.drop 0 (splice (rows 1 [AC.y 0#8]) 0 [AC.y (BitVec.setWidth 8 (bshr y (Int.toNat ((8 * k : Nat) : Int))))])) = [AC.y (BitVec.setWidth 8 (bshr y (8 * k)))] := rfl
    refine stSr_w0 ?_ (low_of rfl) (fun _ h => Nat.lt_of_lt_of_le h (by decide)) ?_
    · rw [ei, e8, ez, hz, strOf_size]
      simp
      omega
    · rw [e8, e1, ez, ← strOf_append, ← storeL_succ]
      exact storeUp hm hi hF n (k + 1) (by omega)
theorem stS_so {d s of : Int} {im : BitVec 64} (hT : (decide (0 ≤ m.t) && decide (m.t < (L.length : Int))) = true) (ht : 0 ≤ m.t ∧ m.t ≤ 64) (hB : Nat.ble (0 + Int.toNat m.t * 5 + 5) (pcell L).length = true) (hf : (!m.fin != 0) = true) (hm : m.mem.size = 64) (hd : regB d = true) (hs : regB s = true) (hz : sizeB im = true)
    (hE : Eff.mk (AV.ag (List.take 5 (List.drop (0 + Int.toNat m.t * 5) (pcell L)))) [] none = Eff.mk (AV.ag (Ins.cs (Ins.mk 11 d s im of))) [] none) : soART L c m w β (stepM (Ins.mk 11 d s im of) m) := by
  have s1 := regB_iff.1 hs
  have hl : lacks (useOf (Ins.mk 11 d s im of)) m.s = (!m.s.get d.toNat || !m.s.get s.toNat) := by
    unfold useOf
    rw [if_neg (by decide : ¬ (11 : Int) = 12), if_neg (by decide : ¬ (11 : Int) = 15), if_neg (by show ¬ s = -1; omega), if_neg (by decide : ¬ ((11 : Int) = 1 ∨ (11 : Int) = 10))]
    exact lacks2 m.s (reg_nat hd) (reg_nat hs)
  have v0 : (!m.s.get d.toNat) = true → stepM (Ins.mk 11 d s im of) m = m.fine 1 := fun h => by
    unfold stepM
    rw [hl, if_pos (by rw [h]; rfl)]
  have v0' : (!m.s.get d.toNat) = false → (!m.s.get s.toNat) = true → stepM (Ins.mk 11 d s im of) m = m.fine 1 := fun h k => by
    unfold stepM
    rw [hl, if_pos (by rw [h, k]; rfl)]
  have v1 : (!m.s.get d.toNat) = false → (!m.s.get s.toNat) = false → farB (Ins.mk 11 d s im of) m = true → stepM (Ins.mk 11 d s im of) m = m.fine 2 := fun h h' k => by
    unfold stepM reachM
    rw [hl, h, h', if_neg (by decide), if_pos (Or.inr rfl), k, if_pos rfl]
  have hU := uses2_ok (op := 11) (d := d) (of := of) (im := im) 14 (Or.inr (Or.inl rfl)) (show s ≠ -1 by omega)
  have hq : (s != -1) = true := by simp; omega
  have hRe : Ok 107 [.c (.i 11)] (.c (.b true)) := refReaches_ok 11
  refine stS_all (d := d) (s := s) (of := of) (im := im) (by decide) (fun a => ?_) (fun a b => ?_) (fun a b e => ?_) (fun a b e => ?_)
  · repeat' apply And.intro
    all_goals first
      | exact hf
      | exact hT
      | exact hB
      | exact hE
      | exact hU
      | exact hd
      | exact okS hd
      | exact effS hd
      | (rw [v0 a]; rfl)
  · repeat' apply And.intro
    all_goals first
      | exact hf
      | exact hT
      | exact hB
      | exact hE
      | exact hU
      | exact hd
      | exact hs
      | exact okS hd
      | exact effS hd
      | exact okS hs
      | exact effS hs
      | (rw [v0' a b]; rfl)
  · repeat' apply And.intro
    all_goals first
      | exact hf
      | exact hT
      | exact hB
      | exact hE
      | exact hU
      | exact hs
      | exact hd
      | exact hq
      | exact hRe
      | exact okS hs
      | exact effS hs
      | exact okS hd
      | exact effS hd
      | exact okR hs
      | exact effR hs
      | exact okR hd
      | exact effR hd
      | rfl
      | (rw [v1 a b e]; rfl)
  · have hfar := far_no (i := Ins.mk 11 d s im of) (m := m) hz e
    have him : im.toNat ≤ 8 := size_elim (P := fun x => x.toNat ≤ 8) hz (by decide) (by decide) (by decide) (by decide)
    have v2 : stepM (Ins.mk 11 d s im of) m = Mach.on ⟨m.t, m.r, m.s, putMem m.mem (fromN (Ins.mk 11 d s im of) m).toNat im.toNat (m.r.get s.toNat), m.fin⟩ 0 := by
      unfold stepM reachM
      rw [hl, a, b, if_neg (by decide), if_pos (Or.inr rfl), e, if_neg (by decide), if_neg (by decide : ¬ (11 : Int) = 10)]
    have hl := storeUp (w := w) (β := β) (m := m) (d := d) (s := s) (of := of) (im := im) (F := fromN (Ins.mk 11 d s im of) m) (y := m.r.get s.toNat) hm him hfar im.toNat 0 (Nat.zero_add _)
    rw [v2]
    repeat' apply And.intro
    all_goals first
      | exact hf
      | exact hT
      | exact hB
      | exact hE
      | exact hU
      | exact hs
      | exact hd
      | exact hq
      | exact hRe
      | exact okS hs
      | exact effS hs
      | exact okS hd
      | exact effS hd
      | exact okR hs
      | exact effR hs
      | exact okR hd
      | exact effR hd
      | exact onE ht
      | rfl
      | exact low_of rfl
      | exact hl
end
theorem stepOf_ok {L : List Ins} {c : Nat} {m : Mach} (hP : RightP L) (hm : m.mem.size = 64) (h0 : 0 ≤ m.t) (h1 : m.t < L.length) : CallOK Try.prog ⟨63, [.c (.sl 0 0 L.length c), .ag m.cs], pH L, ⟨.ag (if m.fin ≠ 0 then m else stepM (insAt L m.t) m).cs, [], none⟩⟩ := by
  refine read_of Try.func63 rfl rfl (begin_p rfl) rfl ro_p fun w β => ?_
  by_cases hf : m.fin ≠ 0
  · rw [if_pos hf]
    exact stDone_w0 (and_yes (by simpa using hf) rfl)
  rw [if_neg hf]
  have hf' : (!m.fin != 0) = true := by simpa using hf
  have hr := right_at hP h0 h1
  have hle := hP.le
  have ht : 0 ≤ m.t ∧ m.t ≤ 64 := by omega
  have hT : (decide (0 ≤ m.t) && decide (m.t < (L.length : Int))) = true := by simp; omega
  have hB := pble_at h0 h1
  have hE := insAt_eff h0 h1
  have hk := kind_iff.1 hr.kind
  obtain ⟨hd, hs⟩ := right_regs hr
  have hbig : ((L.length - 1 - m.t.toNat : Nat) : Int) ≤ 64 := by omega
  revert hE hr hk hd hs
  generalize insAt L m.t = i
  intro hr hE hk hd hs
  by_cases c1 : i.op ≤ 9
  · by_cases c2 : i.op = 1
    · obtain ⟨op, d, s, im, of⟩ := i
      simp only at *
      subst c2
      rcases srcB_iff.1 hs with rfl | hs
      · exact st1c_so hT ht hB hf' hd hE
      · exact st1r_so hT ht hB hf' hd hs hE
    · obtain ⟨op, d, s, im, of⟩ := i
      simp only at *
      rcases srcB_iff.1 hs with rfl | hs
      · exact st2c_so hT ht hB hf' (by omega) hd hE
      · exact st2r_so hT ht hB hf' (by omega) hd hs hE
  by_cases c2 : i.op = 10
  · obtain ⟨_, hs', hz, _⟩ := fits_reach hr (Or.inl c2)
    obtain ⟨op, d, s, im, of⟩ := i
    simp only at *
    subst c2
    exact stL_so hT ht hB hf' hm hd hs' hz hE
  by_cases c3 : i.op = 11
  · obtain ⟨_, hs', hz, _⟩ := fits_reach hr (Or.inr c3)
    obtain ⟨op, d, s, im, of⟩ := i
    simp only at *
    subst c3
    exact stS_so hT ht hB hf' hm hd hs' hz hE
  by_cases c4 : i.op = 12
  · have hj := fits_jump hr c4
    obtain ⟨op, d, s, im, of⟩ := i
    simp only at *
    obtain ⟨j1, j2, rfl, rfl⟩ := hj
    subst c4
    exact stJ_so hT ht hB hf' (by omega) hE
  by_cases c5 : i.op = 13
  · have hj := fits_branch hr (Or.inl c5)
    obtain ⟨op, d, s, im, of⟩ := i
    simp only at *
    subst c5
    rcases srcB_iff.1 hs with rfl | hs
    · exact st13c_so hT ht hB hf' (by omega) hd hE
    · exact st13r_so hT ht hB hf' (by omega) hd hs hE
  by_cases c6 : i.op = 14
  · have hj := fits_branch hr (Or.inr c6)
    obtain ⟨op, d, s, im, of⟩ := i
    simp only at *
    subst c6
    rcases srcB_iff.1 hs with rfl | hs
    · exact st14c_so hT ht hB hf' (by omega) hd hE
    · exact st14r_so hT ht hB hf' (by omega) hd hs hE
  have c7 : i.op = 15 := by omega
  have hj := fits_exit hr c7
  obtain ⟨op, d, s, im, of⟩ := i
  simp only at *
  obtain ⟨rfl, rfl, _, _⟩ := hj
  subst c7
  exact stX_so hT ht hB hf' hE

abbrev roKn (L : List Ins) (c : Nat) (m : Mach) (q : Int) : Kn := ⟨[(0, .c (.sl 0 0 L.length c)), (6, .c (.w 1)), (7, .c (.w 5)), (8, .c (.i q))], [(0, ⟨false, pcell L, 0⟩), (1, ⟨true, Outc.z.cs, 0⟩), (5, ⟨true, m.cs, 0⟩)], 6⟩
theorem ro_low (L : List Ins) (c : Nat) (m : Mach) (q : Int) : Kn.Low (roKn L c m q) := low_n rfl rfl ⟨pcell_ks L, rfl, rfl, trivial⟩
theorem roLoop {L : List Ins} {c : Nat} (hP : RightP L) {w : World} {β : Bs} : ∀ (k : Nat) (m : Mach) (q : Nat), (m.fin = 0 → Goes L k m) → q + k ≤ 64 →
    ART Try.prog 68 (cx w β 1 []) Try.f68.ntmps (cutAt Try.f68 0) (roKn L c m q) (REff w β ⟨.ag (outOf (runM L k m q)).cs, [], none⟩) := by
  have fin : ∀ (k : Nat) (m : Mach) (q : Nat), ¬ m.fin = 0 → ART Try.prog 68 (cx w β 1 []) Try.f68.ntmps (cutAt Try.f68 0) (roKn L c m q) (REff w β ⟨.ag (outOf (runM L k m q)).cs, [], none⟩) := by
    intro k m q hf
    refine roEnd_all (fun a => ⟨by simpa using hf, ?_⟩) (fun a => ⟨by simpa using hf, ?_⟩)
    · have a : m.fin = 3 := by simpa using a
      rw [runM_end hf, out3 a]; rfl
    · have a : ¬ m.fin = 3 := by simpa using a
      rw [runM_end hf, out_n a]; rfl
  intro k
  induction k with
  | zero =>
    intro m q hg _
    exact fin 0 m q fun h => by have := hg h; have h1 := this.lt; have h2 := this.left; omega
  | succ k ih =>
    intro m q hg hq
    by_cases hf : m.fin = 0
    · have g := hg hf
      have hs := stepOf_ok (c := c) hP g.mem g.pos g.lt
      rw [if_neg (by simpa using hf)] at hs
      refine roRound_w0 (and_yes (by simpa using hf) rfl) hs (ro_low _ _ _ _) (fun _ h => Nat.lt_of_lt_of_le h (by decide)) ?_
      have e : IntKind.wrap IntKind.i64 ((q : Int) + 1) = ((q + 1 : Nat) : Int) := by rw [wrapN (by omega) (by omega)]; omega
      have := ih (stepM (insAt L m.t) m) (q + 1) (goes_step hP g hf) (by omega)
      rw [e, runM_go hf]
      exact this
    · exact fin _ m q hf
theorem runOf_ok {L : List Ins} {c : Nat} {mem : ByteArray} {x : BitVec 64} (hP : RightP L) (hm : mem.size = 64) : CallOK Try.prog ⟨68, [.c (.sl 0 0 L.length c), .c (.s mem), .c (.u x)], pH L, ⟨.ag (runOut L mem x).cs, [], none⟩⟩ := by
  refine read_of Try.func68 rfl rfl (begin_p rfl) rfl ro_p fun w β => ?_
  exact roTop_w0 (startOf_ok mem x) (ro_low L c (startM mem x) 0) (fun _ h => Nat.lt_of_lt_of_le h (by decide)) (roLoop hP L.length _ 0 (fun _ => goes_start hP hm) (by have := hP.le; omega))
end Go.Proofs.Ytkigmocchaikgaa

/- The contracts of what the laws themselves call, and of the two laws of running. -/
namespace Go.Proofs.Ytkigmocchaikgaa
open Go.RowKit

/- a contract that reads a program, under another key, whether it may be written or not -/
theorem p_at {P : Program} {f : Nat} {args args' : List AV} {L : List Ins} {e : Eff} (h : CallOK P ⟨f, args, pH L, e⟩) (K : Nat) (b : Bool) (ha : args.map (AV.ren (swp 0 K)) = args') (he : e.ren (swp 0 K) = e) : CallOK P ⟨f, args', [(K, ⟨b, pcell L, 0⟩)], e⟩ := by
  have h1 := h.ren (swp 0 K) (swp_inj 0 K)
  unfold CallRec.ren at h1
  simp only [ha, he] at h1
  refine h1.more ⟨fun k en hk => ?_⟩
  have e1 : renH (swp 0 K) (pH L) = [(K, ⟨false, pcell L, 0⟩)] := by
    show [(swp 0 K 0, Ent.mk false ((pcell L).map (AC.ren (swp 0 K))) 0)] = _
    rw [ren_nk _ (pcell_ks L)]
    rfl
  rw [e1, look_cons] at hk
  split at hk
  · rename_i hk'
    injection hk with hk
    subst hk hk'
    exact ⟨⟨b, pcell L, 0⟩, by rw [look_cons, if_pos rfl], rfl, fun h => (by cases h), Or.inl rfl⟩
  · cases hk
theorem guarded_ok (K : Nat) : CallOK Try.prog ⟨109, [], [], ⟨.c (.sl K 0 6 6), [], some (K, ⟨true, pcell gL, 0⟩)⟩⟩ := by
  have key : CallOK Try.prog ⟨109, [], [], ⟨.c (.sl 7 0 6 6), [], some (7, ⟨true, pcell gL, 0⟩)⟩⟩ :=
    new_of Try.func109 rfl rfl rfl rfl rfl fun w β hk => guarded_w0 hk
  exact key.ren (swp 7 K) (swp_inj 7 K)
theorem mem_ok : Ok 110 [] (.c (.s memB)) := ok_eq memF_w0 (by kernel_rfl)
theorem memB_size : memB.size = 64 := by kernel_rfl
theorem run7 : runRes gL memB 7#64 = ⟨3, 5, 5, 9#64, memB⟩ := by kernel_rfl
theorem run64 : runRes gL memB 64#64 = ⟨3, 2, 3, 0#64, memB⟩ := by kernel_rfl
theorem runBegun_ok : Ok 65 [] (.c (.b true)) := by
  have r7 : CallOK Try.prog ⟨67, [.c (.sl 1 0 6 6), .c (.s memB), .c (.u 7#64)], [(1, ⟨true, pcell gL, 0⟩)], ⟨.tu [.ag (Outc.mk 3 5 5 9#64 memB).cs, .c (.i 0)], [], none⟩⟩ := by
    have h := run_ok gL 6 memB 7#64
    rw [run7, show runErr gL memB = 0 by kernel_rfl] at h
    exact p_at h 1 true rfl rfl
  have r64 : CallOK Try.prog ⟨67, [.c (.sl 10 0 6 6), .c (.s memB), .c (.u 64#64)], [(10, ⟨true, pcell gL, 0⟩)], ⟨.tu [.ag (Outc.mk 3 2 3 0#64 memB).cs, .c (.i 0)], [], none⟩⟩ := by
    have h := run_ok gL 6 memB 64#64
    rw [run64, show runErr gL memB = 0 by kernel_rfl] at h
    exact p_at h 10 true rfl rfl
  have st : Ok 60 [.c (.s memB), .c (.u 9#64)] (.tu [.ag (startM memB 9#64).cs, .c (.i 0)]) := start_ok memB 9#64
  have s1 : CallOK Try.prog ⟨59, [.c (.sl 27 0 6 6), .ag (startM memB 9#64).cs], [(27, ⟨true, pcell gL, 0⟩)], ⟨.tu [.ag m1.cs, .c (.i 0)], [], none⟩⟩ := by
    have h := step_ok gL 6 (startM memB 9#64)
    rw [show stepRes gL (startM memB 9#64) = m1 by kernel_rfl, show stepErr gL (startM memB 9#64) = 0 by kernel_rfl] at h
    exact p_at h 27 true rfl rfl
  have s2 : CallOK Try.prog ⟨59, [.c (.sl 37 0 2 2), .ag m1.cs], [(37, ⟨true, pcell g2, 0⟩)], ⟨.tu [.ag (stepRes g2 m1).cs, .c (.i 0)], [], none⟩⟩ := by
    have h := step_ok g2 2 m1
    rw [show stepErr g2 m1 = 0 by kernel_rfl] at h
    exact p_at h 37 true rfl rfl
  exact runBegun_w0 (guarded_ok 1) mem_ok r7 (guarded_ok 10) mem_ok r64 mem_ok st (guarded_ok 27) s1 s2 mem_ok mem_ok
end Go.Proofs.Ytkigmocchaikgaa

/- The two laws of running, as contracts. -/
namespace Go.Proofs.Ytkigmocchaikgaa
open Go.RowKit

theorem eqC_u (x : BitVec 64) : eqC (.u x) (.u x) = true := by simp [eqC, eqb]
theorem eqC_i (x : Int) : eqC (.i x) (.i x) = true := by simp [eqC]
theorem eqC_b (x : Bool) : eqC (.b x) (.b x) = true := by simp [eqC]
theorem eqC_s (x : ByteArray) : eqC (.s x) (.s x) = true := by simp [eqC]
theorem eqCs_cons {a : AC} {l : List AC} (h : eqC a a = true) (k : eqCs l l = true) : eqCs (a :: l) (a :: l) = true := by rw [eqCs, h, k]; rfl
theorem eq_mach (m : Mach) : eqCs m.cs m.cs = true :=
  eqCs_cons (eqC_i _) (eqCs_cons (eqC_u _) (eqCs_cons (eqC_u _) (eqCs_cons (eqC_u _) (eqCs_cons (eqC_u _) (eqCs_cons (eqC_u _) (eqCs_cons (eqC_u _) (eqCs_cons (eqC_b _) (eqCs_cons (eqC_b _) (eqCs_cons (eqC_b _) (eqCs_cons (eqC_b _) (eqCs_cons (eqC_b _) (eqCs_cons (eqC_b _) (eqCs_cons (eqC_s _) (eqCs_cons (eqC_i _) rfl))))))))))))))
theorem eq_outc (r : Outc) : eqCs r.cs r.cs = true :=
  eqCs_cons (eqC_i _) (eqCs_cons (eqC_i _) (eqCs_cons (eqC_i _) (eqCs_cons (eqC_u _) (eqCs_cons (eqC_s _) rfl))))
theorem beq_i (x : Int) : (x == x) = true := by simp
theorem ne_i {x y : Int} (h : x ≠ y) : (!x == y) = true := by simpa using h
theorem eq_i {x y : Int} (h : x = y) : (x == y) = true := by simpa using h
section
variable {L : List Ins} {c : Nat} {m : Mach} {s : ByteArray} {x : BitVec 64}
theorem eff_true {b : Bool} (h : b = true) : (⟨.c (.b b), [], none⟩ : Eff) = ⟨.c (.b true), [], none⟩ := by rw [h]
theorem start_y (h : s.size = 64) : Ok 60 [.c (.s s), .c (.u x)] (.tu [.ag (startM s x).cs, .c (.i 0)]) := by
  have := start_ok s x
  unfold startRes startErr at this
  rwa [if_neg (by simpa using h), if_neg (by simpa using h)] at this
theorem start_n (h : s.size ≠ 64) : Ok 60 [.c (.s s), .c (.u x)] (.tu [.ag Mach.z.cs, .c (.i 1)]) := by
  have := start_ok s x
  unfold startRes startErr at this
  rwa [if_pos h, if_pos h] at this
theorem step_bad {e : Int} (h : stepErr L m = e) (h0 : e ≠ 0) : CallOK Try.prog ⟨59, [.c (.sl 0 0 L.length c), .ag m.cs], pH L, ⟨.tu [.ag Mach.z.cs, .c (.i e)], [], none⟩⟩ := by
  have := step_ok L c m
  unfold stepRes at this
  rwa [h, if_pos h0] at this
theorem runSteps_ok (L : List Ins) (c : Nat) (m : Mach) (s : ByteArray) (x : BitVec 64) : CallOK Try.prog ⟨11, [.c (.sl 0 0 L.length c), .ag m.cs, .c (.s s), .c (.u x)], pH L, ⟨.c (.b true), [], none⟩⟩ := by
  refine read_of Try.func11 rfl rfl (begin_p rfl) rfl ro_p fun w β => ?_
  have hc := checkCode_ok L c
  have hm := checkMachine_ok m
  have hm' := machCheck_ok m
  have hz := eq_mach Mach.z
  by_cases a : codeErr L = 0
  · by_cases b : machErr m = 0
    · by_cases d : (L.length : Int) ≤ m.t
      · have he : stepErr L m = 3 := by unfold stepErr; rw [if_neg (by simpa using a), if_neg (by simpa using b), if_pos d]
        have h1 := step_bad (c := c) he (by decide)
        by_cases y : s.size = 64
        · exact art_eq (rsCy_w0 (and_yes (eq_i a) (and_yes (eq_i b) (and_yes (decide_eq_true d) (and_yes (eq_i (by omega)) (and_yes (beq_i _) (and_yes (beq_i 3) (and_yes hz (and_yes (beq_i 0) rfl)))))))) h1 (start_y y) hc hm (startOf_ok s x) runBegun_ok hm' hm) (eff_true (eq_mach _))
        · exact art_eq (rsCn_w0 (and_yes (eq_i a) (and_yes (eq_i b) (and_yes (decide_eq_true d) (and_yes (ne_i (by omega)) (and_yes (beq_i _) (and_yes (beq_i 3) (and_yes hz (and_yes (beq_i 1) rfl)))))))) h1 (start_n y) hc hm runBegun_ok hm' hm) (eff_true (eq_mach Mach.z))
      · have he : stepErr L m = 0 := by unfold stepErr; rw [if_neg (by simpa using a), if_neg (by simpa using b), if_neg d]
        have hP := codeErr_zero a
        have hM := machErr_zero b
        have h1 := step_ok L c m
        unfold stepRes at h1
        rw [he, if_neg (by decide)] at h1
        have h2 := stepOf_ok (c := c) hP hM.1 hM.2.2.1 (by omega)
        have hd : (!decide ((L.length : Int) ≤ m.t)) = true := by simpa using d
        by_cases y : s.size = 64
        · exact art_eq (rsDy_w0 (and_yes (eq_i a) (and_yes (eq_i b) (and_yes hd (and_yes (eq_i b) (and_yes (eq_i (by omega)) (and_yes (beq_i _) (and_yes (eq_i b.symm) (and_yes (eq_mach _) (and_yes (beq_i 0) rfl))))))))) h1 (start_y y) hc hm h2 (startOf_ok s x) runBegun_ok hm' hm) (eff_true (eq_mach _))
        · exact art_eq (rsDn_w0 (and_yes (eq_i a) (and_yes (eq_i b) (and_yes hd (and_yes (eq_i b) (and_yes (ne_i (by omega)) (and_yes (beq_i _) (and_yes (eq_i b.symm) (and_yes (eq_mach _) (and_yes (beq_i 1) rfl))))))))) h1 (start_n y) hc hm h2 runBegun_ok hm' hm) (eff_true (eq_mach Mach.z))
    · have he : stepErr L m = machErr m := by unfold stepErr; rw [if_neg (by simpa using a), if_pos b]
      have h1 := step_bad (c := c) he b
      by_cases y : s.size = 64
      · exact art_eq (rsBy_w0 (and_yes (eq_i a) (and_yes (ne_i b) (and_yes (ne_i b) (and_yes (eq_i (by omega)) (and_yes (beq_i _) (and_yes (beq_i _) (and_yes hz (and_yes (beq_i 0) rfl)))))))) h1 (start_y y) hc hm (startOf_ok s x) runBegun_ok hm' hm) (eff_true (eq_mach _))
      · exact art_eq (rsBn_w0 (and_yes (eq_i a) (and_yes (ne_i b) (and_yes (ne_i b) (and_yes (ne_i (by omega)) (and_yes (beq_i _) (and_yes (beq_i _) (and_yes hz (and_yes (beq_i 1) rfl)))))))) h1 (start_n y) hc hm runBegun_ok hm' hm) (eff_true (eq_mach Mach.z))
  · have he : stepErr L m = codeErr L := by unfold stepErr; rw [if_pos a]
    have h1 := step_bad (c := c) he a
    by_cases y : s.size = 64
    · exact art_eq (rsAy_w0 (and_yes (ne_i a) (and_yes (ne_i a) (and_yes (ne_i a) (and_yes (eq_i (by omega)) (and_yes (beq_i _) (and_yes (beq_i _) (and_yes hz (and_yes (beq_i 0) rfl)))))))) h1 (start_y y) hc (startOf_ok s x) runBegun_ok hm' hm) (eff_true (eq_mach _))
    · exact art_eq (rsAn_w0 (and_yes (ne_i a) (and_yes (ne_i a) (and_yes (ne_i a) (and_yes (ne_i (by omega)) (and_yes (beq_i _) (and_yes (beq_i _) (and_yes hz (and_yes (beq_i 1) rfl)))))))) h1 (start_n y) hc runBegun_ok hm' hm) (eff_true (eq_mach Mach.z))
theorem runSteps_nil (m : Mach) (s : ByteArray) (x : BitVec 64) : Ok 11 [.c nilSl, .ag m.cs, .c (.s s), .c (.u x)] (.c (.b true)) := by
  have hm := checkMachine_ok m
  have hm' := machCheck_ok m
  have hz := eq_mach Mach.z
  have a : (2 : Int) ≠ 0 := by decide
  have h1 : Ok 59 [.c nilSl, .ag m.cs] (.tu [.ag Mach.z.cs, .c (.i 2)]) := step_nil m
  have hc : Ok 61 [.c nilSl] (.c (.i 2)) := checkCode_nil
  by_cases y : s.size = 64
  · exact ok_eq (rsNAy_w0 (and_yes (ne_i a) (and_yes (ne_i a) (and_yes (ne_i a) (and_yes (eq_i (by omega)) (and_yes (beq_i _) (and_yes (beq_i _) (and_yes hz (and_yes (beq_i 0) rfl)))))))) h1 (start_y y) hc (startOf_ok s x) runBegun_ok hm' hm) (congrArg (fun b => AV.c (AC.b b)) (eq_mach (startM s x)))
  · exact ok_eq (rsNAn_w0 (and_yes (ne_i a) (and_yes (ne_i a) (and_yes (ne_i a) (and_yes (ne_i (by omega)) (and_yes (beq_i _) (and_yes (beq_i _) (and_yes hz (and_yes (beq_i 1) rfl)))))))) h1 (start_n y) hc runBegun_ok hm' hm) (congrArg (fun b => AV.c (AC.b b)) (eq_mach Mach.z))
theorem runRuns_ok (L : List Ins) (c : Nat) (s : ByteArray) (x : BitVec 64) : CallOK Try.prog ⟨12, [.c (.sl 0 0 L.length c), .c (.s s), .c (.u x)], pH L, ⟨.c (.b true), [], none⟩⟩ := by
  refine read_of Try.func12 rfl rfl (begin_p rfl) rfl ro_p fun w β => ?_
  have hc := checkCode_ok L c
  have hr := run_ok L c s x
  unfold runRes runErr at hr
  by_cases a : codeErr L = 0
  · have a' : ¬ codeErr L ≠ 0 := by simpa using a
    by_cases y : s.size = 64
    · have y' : ¬ s.size ≠ 64 := by simpa using y
      rw [if_neg a', if_neg y', if_neg (by decide)] at hr
      have h2 := runOf_ok (c := c) (x := x) (codeErr_zero a) y
      exact art_eq (rrD_w0 (and_yes (eq_i a) (and_yes (by simp; omega) (and_yes (eq_i a) (and_yes (eq_i a.symm) rfl)))) hr hc h2 runBegun_ok) (eff_true (eq_outc _))
    · rw [if_neg a', if_pos y, if_pos (by decide)] at hr
      exact art_eq (rrB_w0 (and_yes (eq_i a) (and_yes (by simp; omega) (and_yes (beq_i 1) rfl))) hr hc runBegun_ok) (eff_true (eq_outc Outc.z))
  · rw [if_pos a, if_pos a] at hr
    exact art_eq (rrA_w0 (and_yes (ne_i a) (and_yes (ne_i a) (and_yes (beq_i _) rfl))) hr hc runBegun_ok) (eff_true (eq_outc Outc.z))
theorem runRuns_nil (s : ByteArray) (x : BitVec 64) : Ok 12 [.c nilSl, .c (.s s), .c (.u x)] (.c (.b true)) := by
  have a : (2 : Int) ≠ 0 := by decide
  have h1 : Ok 67 [.c nilSl, .c (.s s), .c (.u x)] (.tu [.ag Outc.z.cs, .c (.i 2)]) := run_nil s x
  exact ok_eq (rrNA_w0 (and_yes (ne_i a) (and_yes (ne_i a) (and_yes (beq_i _) rfl))) h1 checkCode_nil runBegun_ok) (congrArg (fun b => AV.c (AC.b b)) (eq_outc Outc.z))
end
end Go.Proofs.Ytkigmocchaikgaa
