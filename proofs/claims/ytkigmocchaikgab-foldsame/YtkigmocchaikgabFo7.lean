import Derived.Test.YtkigmocchaikgabFo2
import Derived.Test.YtkigmocchaikgabProg
import Derived.Test.YtkigmocchaikgabFo4
import Derived.Test.YtkigmocchaikgabFo5
import Derived.Test.YtkigmocchaikgabFo6
/- Ways of bodies, written by a program (ways.py): what each asks for, and hands back. -/
namespace Go.Proofs.Ytkigmocchaikgab
open Go.RowKit

theorem fwith_w0 {t : St} {d : Int} {a : V4} (h : (decide (0 ≤ d) && decide (d < 6) && (Nat.ble (1 + Int.toNat d * 1 + 1) (List.length (St.cs t)) && true && (decide (0 ≤ d) && decide (d < 6) && (Nat.ble (7 + Int.toNat d * 4 + List.length (V4.cs a)) (List.length (St.cs (St.mk (St.live t) (V6.set (St.s t) (Int.toNat d) true) (St.r t)))) && true && true)))) = true) (c0 : Eff.mk (AV.raw undef) [(0, List.set (St.cs t) (1 + Int.toNat d * 1) (AC.b true))] none = Eff.mk (AV.raw undef) [(0, St.cs (St.mk (St.live t) (V6.set (St.s t) (Int.toNat d) true) (St.r t)))] none) (c1 : Eff.mk (AV.raw undef) [(0, splice (St.cs (St.mk (St.live t) (V6.set (St.s t) (Int.toNat d) true) (St.r t))) (7 + Int.toNat d * 4) (V4.cs a))] none = Eff.mk (AV.raw undef) [(0, St.cs (St.wth t (Int.toNat d) a))] none) :
    CallOK Try.prog ⟨35, [AV.ag (St.cs t), AV.c (AC.i d), AV.ag (V4.cs a)], [], ⟨AV.ag [AC.b (St.live t), AC.b (V6.x0 (V6.set (St.s t) (Int.toNat d) true)), AC.b (V6.x1 (V6.set (St.s t) (Int.toNat d) true)), AC.b (V6.x2 (V6.set (St.s t) (Int.toNat d) true)), AC.b (V6.x3 (V6.set (St.s t) (Int.toNat d) true)), AC.b (V6.x4 (V6.set (St.s t) (Int.toNat d) true)), AC.b (V6.x5 (V6.set (St.s t) (Int.toNat d) true)), AC.u (V4.v (V6.x0 (V6.set (St.r t) (Int.toNat d) a))), AC.u (V4.m (V6.x0 (V6.set (St.r t) (Int.toNat d) a))), AC.u (V4.l (V6.x0 (V6.set (St.r t) (Int.toNat d) a))), AC.u (V4.h (V6.x0 (V6.set (St.r t) (Int.toNat d) a))), AC.u (V4.v (V6.x1 (V6.set (St.r t) (Int.toNat d) a))), AC.u (V4.m (V6.x1 (V6.set (St.r t) (Int.toNat d) a))), AC.u (V4.l (V6.x1 (V6.set (St.r t) (Int.toNat d) a))), AC.u (V4.h (V6.x1 (V6.set (St.r t) (Int.toNat d) a))), AC.u (V4.v (V6.x2 (V6.set (St.r t) (Int.toNat d) a))), AC.u (V4.m (V6.x2 (V6.set (St.r t) (Int.toNat d) a))), AC.u (V4.l (V6.x2 (V6.set (St.r t) (Int.toNat d) a))), AC.u (V4.h (V6.x2 (V6.set (St.r t) (Int.toNat d) a))), AC.u (V4.v (V6.x3 (V6.set (St.r t) (Int.toNat d) a))), AC.u (V4.m (V6.x3 (V6.set (St.r t) (Int.toNat d) a))), AC.u (V4.l (V6.x3 (V6.set (St.r t) (Int.toNat d) a))), AC.u (V4.h (V6.x3 (V6.set (St.r t) (Int.toNat d) a))), AC.u (V4.v (V6.x4 (V6.set (St.r t) (Int.toNat d) a))), AC.u (V4.m (V6.x4 (V6.set (St.r t) (Int.toNat d) a))), AC.u (V4.l (V6.x4 (V6.set (St.r t) (Int.toNat d) a))), AC.u (V4.h (V6.x4 (V6.set (St.r t) (Int.toNat d) a))), AC.u (V4.v (V6.x5 (V6.set (St.r t) (Int.toNat d) a))), AC.u (V4.m (V6.x5 (V6.set (St.r t) (Int.toNat d) a))), AC.u (V4.l (V6.x5 (V6.set (St.r t) (Int.toNat d) a))), AC.u (V4.h (V6.x5 (V6.set (St.r t) (Int.toNat d) a)))], [], none⟩⟩ :=
  val_run 2000 [Eff.mk (AV.raw undef) [(0, St.cs (St.mk (St.live t) (V6.set (St.s t) (Int.toNat d) true) (St.r t)))] none, Eff.mk (AV.raw undef) [(0, St.cs (St.wth t (Int.toNat d) a))] none] [] ([]) [(1, 5), (1, 8)] Try.func35 rfl rfl rfl rfl (by kernel_rfl) h (cr_same c0 (cr_same c1 cr_nil))
theorem fbegin_w0 {a : V4} {t : St} (c0 : CallOK Try.prog (CallRec.mk 39 [] [] (Eff.mk (AV.ag (V4.cs a)) [] none))) (c1 : CallOK Try.prog (CallRec.mk 35 [AV.ag (St.cs St.e), AV.c (AC.i 1), AV.ag (V4.cs a)] [] (Eff.mk (AV.ag (St.cs t)) [] none))) :
    CallOK Try.prog ⟨18, [], [], ⟨AV.ag (St.cs t), [], none⟩⟩ :=
  val_run 2000 [Eff.mk (AV.ag (V4.cs a)) [] none, Eff.mk (AV.ag (St.cs t)) [] none] [] ([]) [] Try.func18 rfl rfl rfl rfl (by kernel_rfl) rfl (cr_cons c0 (cr_cons c1 cr_nil))
theorem fcTop_w0 {t : St} {w : World} {β : Bs} {n : Nat} (h : (!St.live t && (!eqCs (St.cs t) (St.cs St.z) && true)) = true) :
    ART Try.prog 17 (cx w β n []) Try.f17.ntmps ([Item.code (bodyOf Try.f17)]) (Kn.start [AV.ag (St.cs t)] [] 0) (REff w β ⟨AV.c (AC.i 1), [], none⟩) :=
  run_eff [] (none) 2000 [] [true, true] ([true]) [] Try.func17 (ekeys0 rfl n) (by kernel_rfl) h cr_nil
theorem fcTop_w1 {t : St} {C : Cx} {R : Ending → World → Prop} (h : (!St.live t && (!!eqCs (St.cs t) (St.cs St.z) && true)) = true) (lo : Kn.Low ⟨[(1, AV.c (AC.w 0)), (14, AV.ag (bcs (St.s t))), (15, AV.c (AC.i 0))], [(0, Ent.mk true (St.cs t) 0)], 1⟩) (hF : ∀ k, C.F k → k < 1) (z : ART Try.prog 17 C Try.f17.ntmps (cutAt Try.f17 0) ⟨[(1, AV.c (AC.w 0)), (14, AV.ag (bcs (St.s t))), (15, AV.c (AC.i 0))], [(0, Ent.mk true (St.cs t) 0)], 1⟩ R) :
    ART Try.prog 17 C Try.f17.ntmps ([Item.code (bodyOf Try.f17)]) (Kn.start [AV.ag (St.cs t)] [] 0) R :=
  run_cut ⟨[(1, AV.c (AC.w 0)), (14, AV.ag (bcs (St.s t))), (15, AV.c (AC.i 0))], [(0, Ent.mk true (St.cs t) 0)], 1⟩ 2000 [] [true, false] ([true]) [] Try.func17 (by kernel_rfl) h cr_nil lo hF z
theorem fcTop_w2 {t : St} {C : Cx} {R : Ending → World → Prop} (h : (!!St.live t && true) = true) (lo : Kn.Low ⟨[(1, AV.c (AC.w 0)), (14, AV.ag (bcs (St.s t))), (15, AV.c (AC.i 0))], [(0, Ent.mk true (St.cs t) 0)], 1⟩) (hF : ∀ k, C.F k → k < 1) (z : ART Try.prog 17 C Try.f17.ntmps (cutAt Try.f17 0) ⟨[(1, AV.c (AC.w 0)), (14, AV.ag (bcs (St.s t))), (15, AV.c (AC.i 0))], [(0, Ent.mk true (St.cs t) 0)], 1⟩ R) :
    ART Try.prog 17 C Try.f17.ntmps ([Item.code (bodyOf Try.f17)]) (Kn.start [AV.ag (St.cs t)] [] 0) R :=
  run_cut ⟨[(1, AV.c (AC.w 0)), (14, AV.ag (bcs (St.s t))), (15, AV.c (AC.i 0))], [(0, Ent.mk true (St.cs t) 0)], 1⟩ 2000 [] [false, false] ([true]) [] Try.func17 (by kernel_rfl) h cr_nil lo hF z
theorem fcTop_all {t : St} {w : World} {β : Bs} {n : Nat} {E : Eff} (hn : n ≤ 1)
    (l0 : (!St.live t) = true → (!eqCs (St.cs t) (St.cs St.z)) = true → ((⟨AV.c (AC.i 1), [], none⟩ : Eff) = E))
    (l1 : (!St.live t) = true → (!eqCs (St.cs t) (St.cs St.z)) = false → Kn.Low ⟨[(1, AV.c (AC.w 0)), (14, AV.ag (bcs (St.s t))), (15, AV.c (AC.i 0))], [(0, Ent.mk true (St.cs t) 0)], 1⟩ ∧ ART Try.prog 17 (cx w β n []) Try.f17.ntmps (cutAt Try.f17 0) ⟨[(1, AV.c (AC.w 0)), (14, AV.ag (bcs (St.s t))), (15, AV.c (AC.i 0))], [(0, Ent.mk true (St.cs t) 0)], 1⟩ (REff w β E))
    (l2 : (!St.live t) = false → Kn.Low ⟨[(1, AV.c (AC.w 0)), (14, AV.ag (bcs (St.s t))), (15, AV.c (AC.i 0))], [(0, Ent.mk true (St.cs t) 0)], 1⟩ ∧ ART Try.prog 17 (cx w β n []) Try.f17.ntmps (cutAt Try.f17 0) ⟨[(1, AV.c (AC.w 0)), (14, AV.ag (bcs (St.s t))), (15, AV.c (AC.i 0))], [(0, Ent.mk true (St.cs t) 0)], 1⟩ (REff w β E)) :
    ART Try.prog 17 (cx w β n []) Try.f17.ntmps ([Item.code (bodyOf Try.f17)]) (Kn.start [AV.ag (St.cs t)] [] 0) (REff w β E) :=
  (tf (!St.live t)).elim (fun h0 => (tf (!eqCs (St.cs t) (St.cs St.z))).elim (fun h1 => (match l0 h0 h1 with | e => art_eq (fcTop_w0 (and_yes h0 (and_yes h1 rfl))) e)) (fun h1 => (match l1 h0 h1 with | ⟨lo, z⟩ => fcTop_w1 (and_yes h0 (and_yes (not_yes h1) rfl)) lo (fun _ hk => Nat.lt_of_lt_of_le hk hn) z))) (fun h0 => (match l2 h0 with | ⟨lo, z⟩ => fcTop_w2 (and_yes (not_yes h0) rfl) lo (fun _ hk => Nat.lt_of_lt_of_le hk hn) z))
theorem fcRound_w0 {t : St} {j : Int} {w : World} {β : Bs} {n : Nat} (h : (decide (j < 6) && (AC.isB (Option.getD (bcs (St.s t))[Int.toNat j * 1]? (AC.b false)) && Nat.blt (Int.toNat j * 1) (List.length (bcs (St.s t))) && (decide (0 ≤ j) && decide (j < 6)) && (V6.get (St.s t) (Int.toNat j) && (decide (0 ≤ j) && decide (j < 6) && (Nat.ble (7 + Int.toNat j * 4 + 4) (List.length (St.cs t)) && (er (V4.ok (V6.get (St.r t) (Int.toNat j))) != 0 && true)))))) = true) (c0 : Eff.mk (AV.c (AC.b (AC.asB (Option.getD (bcs (St.s t))[Int.toNat j * 1]? (AC.b false))))) [] none = Eff.mk (AV.c (AC.b (V6.get (St.s t) (Int.toNat j)))) [] none) (c1 : Eff.mk (AV.ag (List.take 4 (List.drop (7 + Int.toNat j * 4) (St.cs t)))) [] none = Eff.mk (AV.ag (V4.cs (V6.get (St.r t) (Int.toNat j)))) [] none) (c2 : CallOK Try.prog (CallRec.mk 38 [AV.ag (V4.cs (V6.get (St.r t) (Int.toNat j)))] [] (Eff.mk (AV.c (AC.i (er (V4.ok (V6.get (St.r t) (Int.toNat j)))))) [] none))) :
    ART Try.prog 17 (cx w β n []) Try.f17.ntmps (cutAt Try.f17 0) (Kn.mk [(1, AV.c (AC.w 0)), (14, AV.ag (bcs (St.s t))), (15, AV.c (AC.i j))] [(0, Ent.mk true (St.cs t) 0)] 1) (REff w β ⟨AV.c (AC.i 1), [], none⟩) :=
  run_eff [] (none) 2000 [Eff.mk (AV.c (AC.b (V6.get (St.s t) (Int.toNat j)))) [] none, Eff.mk (AV.ag (V4.cs (V6.get (St.r t) (Int.toNat j)))) [] none, Eff.mk (AV.c (AC.i (er (V4.ok (V6.get (St.r t) (Int.toNat j)))))) [] none] [true, true, true, true] ([true]) [(5, 1), (6, 5), (6, 16)] Try.func17 (ekeys0 rfl n) (by kernel_rfl) h (cr_same c0 (cr_same c1 (cr_cons c2 cr_nil)))
theorem fcRound_w1 {t : St} {j : Int} {C : Cx} {R : Ending → World → Prop} (h : (decide (j < 6) && (AC.isB (Option.getD (bcs (St.s t))[Int.toNat j * 1]? (AC.b false)) && Nat.blt (Int.toNat j * 1) (List.length (bcs (St.s t))) && (decide (0 ≤ j) && decide (j < 6)) && (V6.get (St.s t) (Int.toNat j) && (decide (0 ≤ j) && decide (j < 6) && (Nat.ble (7 + Int.toNat j * 4 + 4) (List.length (St.cs t)) && (!er (V4.ok (V6.get (St.r t) (Int.toNat j))) != 0 && (!!V6.get (St.s t) (Int.toNat j) && true))))))) = true) (c0 : Eff.mk (AV.c (AC.b (AC.asB (Option.getD (bcs (St.s t))[Int.toNat j * 1]? (AC.b false))))) [] none = Eff.mk (AV.c (AC.b (V6.get (St.s t) (Int.toNat j)))) [] none) (c1 : Eff.mk (AV.ag (List.take 4 (List.drop (7 + Int.toNat j * 4) (St.cs t)))) [] none = Eff.mk (AV.ag (V4.cs (V6.get (St.r t) (Int.toNat j)))) [] none) (c2 : CallOK Try.prog (CallRec.mk 38 [AV.ag (V4.cs (V6.get (St.r t) (Int.toNat j)))] [] (Eff.mk (AV.c (AC.i (er (V4.ok (V6.get (St.r t) (Int.toNat j)))))) [] none))) (lo : Kn.Low ⟨[(1, AV.c (AC.w 0)), (14, AV.ag (bcs (St.s t))), (15, AV.c (AC.i (IntKind.wrap IntKind.i64 (j + 1))))], [(0, Ent.mk true (St.cs t) 0)], 1⟩) (hF : ∀ k, C.F k → k < 1) (z : ART Try.prog 17 C Try.f17.ntmps (cutAt Try.f17 0) ⟨[(1, AV.c (AC.w 0)), (14, AV.ag (bcs (St.s t))), (15, AV.c (AC.i (IntKind.wrap IntKind.i64 (j + 1))))], [(0, Ent.mk true (St.cs t) 0)], 1⟩ R) :
    ART Try.prog 17 C Try.f17.ntmps (cutAt Try.f17 0) (Kn.mk [(1, AV.c (AC.w 0)), (14, AV.ag (bcs (St.s t))), (15, AV.c (AC.i j))] [(0, Ent.mk true (St.cs t) 0)] 1) R :=
  run_cut ⟨[(1, AV.c (AC.w 0)), (14, AV.ag (bcs (St.s t))), (15, AV.c (AC.i (IntKind.wrap IntKind.i64 (j + 1))))], [(0, Ent.mk true (St.cs t) 0)], 1⟩ 2000 [Eff.mk (AV.c (AC.b (V6.get (St.s t) (Int.toNat j)))) [] none, Eff.mk (AV.ag (V4.cs (V6.get (St.r t) (Int.toNat j)))) [] none, Eff.mk (AV.c (AC.i (er (V4.ok (V6.get (St.r t) (Int.toNat j)))))) [] none] [true, true, false, false, false] ([true]) [(5, 1), (6, 5), (6, 16)] Try.func17 (by kernel_rfl) h (cr_same c0 (cr_same c1 (cr_cons c2 cr_nil))) lo hF z
theorem fcRound_w2 {t : St} {j : Int} {w : World} {β : Bs} {n : Nat} (h : (decide (j < 6) && (AC.isB (Option.getD (bcs (St.s t))[Int.toNat j * 1]? (AC.b false)) && Nat.blt (Int.toNat j * 1) (List.length (bcs (St.s t))) && (decide (0 ≤ j) && decide (j < 6)) && (!V6.get (St.s t) (Int.toNat j) && (!V6.get (St.s t) (Int.toNat j) && (decide (0 ≤ j) && decide (j < 6) && (Nat.ble (7 + Int.toNat j * 4 + 4) (List.length (St.cs t)) && (!eqCs (V4.cs (V6.get (St.r t) (Int.toNat j))) [AC.u 0#64, AC.u 0#64, AC.u 0#64, AC.u 0#64] && true))))))) = true) (c0 : Eff.mk (AV.c (AC.b (AC.asB (Option.getD (bcs (St.s t))[Int.toNat j * 1]? (AC.b false))))) [] none = Eff.mk (AV.c (AC.b (V6.get (St.s t) (Int.toNat j)))) [] none) (c1 : Eff.mk (AV.ag (List.take 4 (List.drop (7 + Int.toNat j * 4) (St.cs t)))) [] none = Eff.mk (AV.ag (V4.cs (V6.get (St.r t) (Int.toNat j)))) [] none) :
    ART Try.prog 17 (cx w β n []) Try.f17.ntmps (cutAt Try.f17 0) (Kn.mk [(1, AV.c (AC.w 0)), (14, AV.ag (bcs (St.s t))), (15, AV.c (AC.i j))] [(0, Ent.mk true (St.cs t) 0)] 1) (REff w β ⟨AV.c (AC.i 1), [], none⟩) :=
  run_eff [] (none) 2000 [Eff.mk (AV.c (AC.b (V6.get (St.s t) (Int.toNat j)))) [] none, Eff.mk (AV.ag (V4.cs (V6.get (St.r t) (Int.toNat j)))) [] none] [true, false, false, true, true] ([true]) [(5, 1), (6, 5), (6, 16)] Try.func17 (ekeys0 rfl n) (by kernel_rfl) h (cr_same c0 (cr_same c1 cr_nil))
theorem fcRound_w3 {t : St} {j : Int} {C : Cx} {R : Ending → World → Prop} (h : (decide (j < 6) && (AC.isB (Option.getD (bcs (St.s t))[Int.toNat j * 1]? (AC.b false)) && Nat.blt (Int.toNat j * 1) (List.length (bcs (St.s t))) && (decide (0 ≤ j) && decide (j < 6)) && (!V6.get (St.s t) (Int.toNat j) && (!V6.get (St.s t) (Int.toNat j) && (decide (0 ≤ j) && decide (j < 6) && (Nat.ble (7 + Int.toNat j * 4 + 4) (List.length (St.cs t)) && (!!eqCs (V4.cs (V6.get (St.r t) (Int.toNat j))) [AC.u 0#64, AC.u 0#64, AC.u 0#64, AC.u 0#64] && true))))))) = true) (c0 : Eff.mk (AV.c (AC.b (AC.asB (Option.getD (bcs (St.s t))[Int.toNat j * 1]? (AC.b false))))) [] none = Eff.mk (AV.c (AC.b (V6.get (St.s t) (Int.toNat j)))) [] none) (c1 : Eff.mk (AV.ag (List.take 4 (List.drop (7 + Int.toNat j * 4) (St.cs t)))) [] none = Eff.mk (AV.ag (V4.cs (V6.get (St.r t) (Int.toNat j)))) [] none) (lo : Kn.Low ⟨[(1, AV.c (AC.w 0)), (14, AV.ag (bcs (St.s t))), (15, AV.c (AC.i (IntKind.wrap IntKind.i64 (j + 1))))], [(0, Ent.mk true (St.cs t) 0)], 1⟩) (hF : ∀ k, C.F k → k < 1) (z : ART Try.prog 17 C Try.f17.ntmps (cutAt Try.f17 0) ⟨[(1, AV.c (AC.w 0)), (14, AV.ag (bcs (St.s t))), (15, AV.c (AC.i (IntKind.wrap IntKind.i64 (j + 1))))], [(0, Ent.mk true (St.cs t) 0)], 1⟩ R) :
    ART Try.prog 17 C Try.f17.ntmps (cutAt Try.f17 0) (Kn.mk [(1, AV.c (AC.w 0)), (14, AV.ag (bcs (St.s t))), (15, AV.c (AC.i j))] [(0, Ent.mk true (St.cs t) 0)] 1) R :=
  run_cut ⟨[(1, AV.c (AC.w 0)), (14, AV.ag (bcs (St.s t))), (15, AV.c (AC.i (IntKind.wrap IntKind.i64 (j + 1))))], [(0, Ent.mk true (St.cs t) 0)], 1⟩ 2000 [Eff.mk (AV.c (AC.b (V6.get (St.s t) (Int.toNat j)))) [] none, Eff.mk (AV.ag (V4.cs (V6.get (St.r t) (Int.toNat j)))) [] none] [true, false, false, true, false] ([true]) [(5, 1), (6, 5), (6, 16)] Try.func17 (by kernel_rfl) h (cr_same c0 (cr_same c1 cr_nil)) lo hF z
theorem fcRound_all {t : St} {j : Int} {w : World} {β : Bs} {n : Nat} {E : Eff} (hn : n ≤ 1)
    (l0 : (V6.get (St.s t) (Int.toNat j)) = true → (er (V4.ok (V6.get (St.r t) (Int.toNat j))) != 0) = true → (decide (j < 6)) = true ∧ (AC.isB (Option.getD (bcs (St.s t))[Int.toNat j * 1]? (AC.b false)) && Nat.blt (Int.toNat j * 1) (List.length (bcs (St.s t))) && (decide (0 ≤ j) && decide (j < 6))) = true ∧ (decide (0 ≤ j) && decide (j < 6)) = true ∧ (Nat.ble (7 + Int.toNat j * 4 + 4) (List.length (St.cs t))) = true ∧ (Eff.mk (AV.c (AC.b (AC.asB (Option.getD (bcs (St.s t))[Int.toNat j * 1]? (AC.b false))))) [] none = Eff.mk (AV.c (AC.b (V6.get (St.s t) (Int.toNat j)))) [] none) ∧ (Eff.mk (AV.ag (List.take 4 (List.drop (7 + Int.toNat j * 4) (St.cs t)))) [] none = Eff.mk (AV.ag (V4.cs (V6.get (St.r t) (Int.toNat j)))) [] none) ∧ (CallOK Try.prog (CallRec.mk 38 [AV.ag (V4.cs (V6.get (St.r t) (Int.toNat j)))] [] (Eff.mk (AV.c (AC.i (er (V4.ok (V6.get (St.r t) (Int.toNat j)))))) [] none))) ∧ ((⟨AV.c (AC.i 1), [], none⟩ : Eff) = E))
    (l1 : (V6.get (St.s t) (Int.toNat j)) = true → (er (V4.ok (V6.get (St.r t) (Int.toNat j))) != 0) = false → (decide (j < 6)) = true ∧ (AC.isB (Option.getD (bcs (St.s t))[Int.toNat j * 1]? (AC.b false)) && Nat.blt (Int.toNat j * 1) (List.length (bcs (St.s t))) && (decide (0 ≤ j) && decide (j < 6))) = true ∧ (decide (0 ≤ j) && decide (j < 6)) = true ∧ (Nat.ble (7 + Int.toNat j * 4 + 4) (List.length (St.cs t))) = true ∧ (!!V6.get (St.s t) (Int.toNat j)) = true ∧ (Eff.mk (AV.c (AC.b (AC.asB (Option.getD (bcs (St.s t))[Int.toNat j * 1]? (AC.b false))))) [] none = Eff.mk (AV.c (AC.b (V6.get (St.s t) (Int.toNat j)))) [] none) ∧ (Eff.mk (AV.ag (List.take 4 (List.drop (7 + Int.toNat j * 4) (St.cs t)))) [] none = Eff.mk (AV.ag (V4.cs (V6.get (St.r t) (Int.toNat j)))) [] none) ∧ (CallOK Try.prog (CallRec.mk 38 [AV.ag (V4.cs (V6.get (St.r t) (Int.toNat j)))] [] (Eff.mk (AV.c (AC.i (er (V4.ok (V6.get (St.r t) (Int.toNat j)))))) [] none))) ∧ Kn.Low ⟨[(1, AV.c (AC.w 0)), (14, AV.ag (bcs (St.s t))), (15, AV.c (AC.i (IntKind.wrap IntKind.i64 (j + 1))))], [(0, Ent.mk true (St.cs t) 0)], 1⟩ ∧ ART Try.prog 17 (cx w β n []) Try.f17.ntmps (cutAt Try.f17 0) ⟨[(1, AV.c (AC.w 0)), (14, AV.ag (bcs (St.s t))), (15, AV.c (AC.i (IntKind.wrap IntKind.i64 (j + 1))))], [(0, Ent.mk true (St.cs t) 0)], 1⟩ (REff w β E))
    (l2 : (V6.get (St.s t) (Int.toNat j)) = false → (!eqCs (V4.cs (V6.get (St.r t) (Int.toNat j))) [AC.u 0#64, AC.u 0#64, AC.u 0#64, AC.u 0#64]) = true → (decide (j < 6)) = true ∧ (AC.isB (Option.getD (bcs (St.s t))[Int.toNat j * 1]? (AC.b false)) && Nat.blt (Int.toNat j * 1) (List.length (bcs (St.s t))) && (decide (0 ≤ j) && decide (j < 6))) = true ∧ (decide (0 ≤ j) && decide (j < 6)) = true ∧ (Nat.ble (7 + Int.toNat j * 4 + 4) (List.length (St.cs t))) = true ∧ (Eff.mk (AV.c (AC.b (AC.asB (Option.getD (bcs (St.s t))[Int.toNat j * 1]? (AC.b false))))) [] none = Eff.mk (AV.c (AC.b (V6.get (St.s t) (Int.toNat j)))) [] none) ∧ (Eff.mk (AV.ag (List.take 4 (List.drop (7 + Int.toNat j * 4) (St.cs t)))) [] none = Eff.mk (AV.ag (V4.cs (V6.get (St.r t) (Int.toNat j)))) [] none) ∧ ((⟨AV.c (AC.i 1), [], none⟩ : Eff) = E))
    (l3 : (V6.get (St.s t) (Int.toNat j)) = false → (!eqCs (V4.cs (V6.get (St.r t) (Int.toNat j))) [AC.u 0#64, AC.u 0#64, AC.u 0#64, AC.u 0#64]) = false → (decide (j < 6)) = true ∧ (AC.isB (Option.getD (bcs (St.s t))[Int.toNat j * 1]? (AC.b false)) && Nat.blt (Int.toNat j * 1) (List.length (bcs (St.s t))) && (decide (0 ≤ j) && decide (j < 6))) = true ∧ (decide (0 ≤ j) && decide (j < 6)) = true ∧ (Nat.ble (7 + Int.toNat j * 4 + 4) (List.length (St.cs t))) = true ∧ (Eff.mk (AV.c (AC.b (AC.asB (Option.getD (bcs (St.s t))[Int.toNat j * 1]? (AC.b false))))) [] none = Eff.mk (AV.c (AC.b (V6.get (St.s t) (Int.toNat j)))) [] none) ∧ (Eff.mk (AV.ag (List.take 4 (List.drop (7 + Int.toNat j * 4) (St.cs t)))) [] none = Eff.mk (AV.ag (V4.cs (V6.get (St.r t) (Int.toNat j)))) [] none) ∧ Kn.Low ⟨[(1, AV.c (AC.w 0)), (14, AV.ag (bcs (St.s t))), (15, AV.c (AC.i (IntKind.wrap IntKind.i64 (j + 1))))], [(0, Ent.mk true (St.cs t) 0)], 1⟩ ∧ ART Try.prog 17 (cx w β n []) Try.f17.ntmps (cutAt Try.f17 0) ⟨[(1, AV.c (AC.w 0)), (14, AV.ag (bcs (St.s t))), (15, AV.c (AC.i (IntKind.wrap IntKind.i64 (j + 1))))], [(0, Ent.mk true (St.cs t) 0)], 1⟩ (REff w β E)) :
    ART Try.prog 17 (cx w β n []) Try.f17.ntmps (cutAt Try.f17 0) (Kn.mk [(1, AV.c (AC.w 0)), (14, AV.ag (bcs (St.s t))), (15, AV.c (AC.i j))] [(0, Ent.mk true (St.cs t) 0)] 1) (REff w β E) :=
  (tf (V6.get (St.s t) (Int.toNat j))).elim (fun h0 => (tf (er (V4.ok (V6.get (St.r t) (Int.toNat j))) != 0)).elim (fun h1 => (match l0 h0 h1 with | ⟨o0, o1, o2, o3, c0, c1, c2, e⟩ => art_eq (fcRound_w0 (and_yes o0 (and_yes o1 (and_yes h0 (and_yes o2 (and_yes o3 (and_yes h1 rfl)))))) c0 c1 c2) e)) (fun h1 => (match l1 h0 h1 with | ⟨o0, o1, o2, o3, o4, c0, c1, c2, lo, z⟩ => fcRound_w1 (and_yes o0 (and_yes o1 (and_yes h0 (and_yes o2 (and_yes o3 (and_yes (not_yes h1) (and_yes o4 rfl))))))) c0 c1 c2 lo (fun _ hk => Nat.lt_of_lt_of_le hk hn) z))) (fun h0 => (tf (!eqCs (V4.cs (V6.get (St.r t) (Int.toNat j))) [AC.u 0#64, AC.u 0#64, AC.u 0#64, AC.u 0#64])).elim (fun h1 => (match l2 h0 h1 with | ⟨o0, o1, o2, o3, c0, c1, e⟩ => art_eq (fcRound_w2 (and_yes o0 (and_yes o1 (and_yes (not_yes h0) (and_yes (not_yes h0) (and_yes o2 (and_yes o3 (and_yes h1 rfl))))))) c0 c1) e)) (fun h1 => (match l3 h0 h1 with | ⟨o0, o1, o2, o3, c0, c1, lo, z⟩ => fcRound_w3 (and_yes o0 (and_yes o1 (and_yes (not_yes h0) (and_yes (not_yes h0) (and_yes o2 (and_yes o3 (and_yes (not_yes h1) rfl))))))) c0 c1 lo (fun _ hk => Nat.lt_of_lt_of_le hk hn) z)))
theorem fcEnd_w0 {t : St} {w : World} {β : Bs} {n : Nat} :
    ART Try.prog 17 (cx w β n []) Try.f17.ntmps (cutAt Try.f17 0) (Kn.mk [(1, AV.c (AC.w 0)), (14, AV.ag (bcs (St.s t))), (15, AV.c (AC.i 6))] [(0, Ent.mk true (St.cs t) 0)] 1) (REff w β ⟨AV.c (AC.i 0), [], none⟩) :=
  run_eff [] (none) 2000 [] [false] ([true]) [] Try.func17 (ekeys0 rfl n) (by kernel_rfl) rfl cr_nil
theorem fjTop_w0 {t : St} {u : St} {e : Int} {w : World} {β : Bs} {n : Nat} (h : (e != 0 && true) = true) (c0 : CallOK Try.prog (CallRec.mk 17 [AV.ag (St.cs t)] [] (Eff.mk (AV.c (AC.i e)) [] none))) :
    ART Try.prog 13 (cx w β n []) Try.f13.ntmps ([Item.code (bodyOf Try.f13)]) (Kn.start [AV.ag (St.cs t), AV.ag (St.cs u)] [] 0) (REff w β ⟨AV.tu [AT.ag (St.cs St.z), AT.c (AC.i 1)], [], none⟩) :=
  run_eff [] (none) 2000 [Eff.mk (AV.c (AC.i e)) [] none] [true, true] ([true]) [] Try.func13 (ekeys0 rfl n) (by kernel_rfl) h (cr_cons c0 cr_nil)
theorem fjTop_w1 {t : St} {u : St} {e : Int} {f : Int} {w : World} {β : Bs} {n : Nat} (h : (!e != 0 && (f != 0 && true)) = true) (c0 : CallOK Try.prog (CallRec.mk 17 [AV.ag (St.cs t)] [] (Eff.mk (AV.c (AC.i e)) [] none))) (c1 : CallOK Try.prog (CallRec.mk 17 [AV.ag (St.cs u)] [] (Eff.mk (AV.c (AC.i f)) [] none))) :
    ART Try.prog 13 (cx w β n []) Try.f13.ntmps ([Item.code (bodyOf Try.f13)]) (Kn.start [AV.ag (St.cs t), AV.ag (St.cs u)] [] 0) (REff w β ⟨AV.tu [AT.ag (St.cs St.z), AT.c (AC.i 1)], [], none⟩) :=
  run_eff [] (none) 2000 [Eff.mk (AV.c (AC.i e)) [] none, Eff.mk (AV.c (AC.i f)) [] none] [false, true] ([true]) [] Try.func13 (ekeys0 rfl n) (by kernel_rfl) h (cr_cons c0 (cr_cons c1 cr_nil))
theorem fjTop_w2 {t : St} {u : St} {e : Int} {f : Int} {w : World} {β : Bs} {n : Nat} (h : (!e != 0 && (!f != 0 && (!St.live t && true))) = true) (c0 : CallOK Try.prog (CallRec.mk 17 [AV.ag (St.cs t)] [] (Eff.mk (AV.c (AC.i e)) [] none))) (c1 : CallOK Try.prog (CallRec.mk 17 [AV.ag (St.cs u)] [] (Eff.mk (AV.c (AC.i f)) [] none))) :
    ART Try.prog 13 (cx w β n []) Try.f13.ntmps ([Item.code (bodyOf Try.f13)]) (Kn.start [AV.ag (St.cs t), AV.ag (St.cs u)] [] 0) (REff w β ⟨AV.tu [AT.ag (St.cs u), AT.c (AC.i 0)], [], none⟩) :=
  run_eff [] (none) 2000 [Eff.mk (AV.c (AC.i e)) [] none, Eff.mk (AV.c (AC.i f)) [] none] [false, false, true] ([true]) [] Try.func13 (ekeys0 rfl n) (by kernel_rfl) h (cr_cons c0 (cr_cons c1 cr_nil))
theorem fjTop_w3 {t : St} {u : St} {e : Int} {f : Int} {w : World} {β : Bs} {n : Nat} (h : (!e != 0 && (!f != 0 && (!!St.live t && (!St.live u && true)))) = true) (c0 : CallOK Try.prog (CallRec.mk 17 [AV.ag (St.cs t)] [] (Eff.mk (AV.c (AC.i e)) [] none))) (c1 : CallOK Try.prog (CallRec.mk 17 [AV.ag (St.cs u)] [] (Eff.mk (AV.c (AC.i f)) [] none))) :
    ART Try.prog 13 (cx w β n []) Try.f13.ntmps ([Item.code (bodyOf Try.f13)]) (Kn.start [AV.ag (St.cs t), AV.ag (St.cs u)] [] 0) (REff w β ⟨AV.tu [AT.ag (St.cs t), AT.c (AC.i 0)], [], none⟩) :=
  run_eff [] (none) 2000 [Eff.mk (AV.c (AC.i e)) [] none, Eff.mk (AV.c (AC.i f)) [] none] [false, false, false, true] ([true]) [] Try.func13 (ekeys0 rfl n) (by kernel_rfl) h (cr_cons c0 (cr_cons c1 cr_nil))
theorem fjTop_w4 {t : St} {u : St} {e : Int} {f : Int} {C : Cx} {R : Ending → World → Prop} (h : (!e != 0 && (!f != 0 && (!!St.live t && (!!St.live u && true)))) = true) (c0 : CallOK Try.prog (CallRec.mk 17 [AV.ag (St.cs t)] [] (Eff.mk (AV.c (AC.i e)) [] none))) (c1 : CallOK Try.prog (CallRec.mk 17 [AV.ag (St.cs u)] [] (Eff.mk (AV.c (AC.i f)) [] none))) (lo : Kn.Low ⟨[(2, AV.c (AC.w 0)), (3, AV.c (AC.w 1)), (4, AV.c (AC.w 2)), (6, AV.c (AC.w 19)), (28, AV.c (AC.i 0))], [(0, Ent.mk true (St.cs t) 0), (1, Ent.mk true (St.cs u) 0), (2, Ent.mk true (St.cs St.z) 0), (19, Ent.mk true (St.cs St.e) 0)], 20⟩) (hF : ∀ k, C.F k → k < 20) (z : ART Try.prog 13 C Try.f13.ntmps (cutAt Try.f13 0) ⟨[(2, AV.c (AC.w 0)), (3, AV.c (AC.w 1)), (4, AV.c (AC.w 2)), (6, AV.c (AC.w 19)), (28, AV.c (AC.i 0))], [(0, Ent.mk true (St.cs t) 0), (1, Ent.mk true (St.cs u) 0), (2, Ent.mk true (St.cs St.z) 0), (19, Ent.mk true (St.cs St.e) 0)], 20⟩ R) :
    ART Try.prog 13 C Try.f13.ntmps ([Item.code (bodyOf Try.f13)]) (Kn.start [AV.ag (St.cs t), AV.ag (St.cs u)] [] 0) R :=
  run_cut ⟨[(2, AV.c (AC.w 0)), (3, AV.c (AC.w 1)), (4, AV.c (AC.w 2)), (6, AV.c (AC.w 19)), (28, AV.c (AC.i 0))], [(0, Ent.mk true (St.cs t) 0), (1, Ent.mk true (St.cs u) 0), (2, Ent.mk true (St.cs St.z) 0), (19, Ent.mk true (St.cs St.e) 0)], 20⟩ 2000 [Eff.mk (AV.c (AC.i e)) [] none, Eff.mk (AV.c (AC.i f)) [] none] [false, false, false, false] ([true]) [] Try.func13 (by kernel_rfl) h (cr_cons c0 (cr_cons c1 cr_nil)) lo hF z
theorem fjTop_all {t : St} {u : St} {e : Int} {f : Int} {w : World} {β : Bs} {n : Nat} {E : Eff} (hn : n ≤ 20)
    (l0 : (e != 0) = true → (CallOK Try.prog (CallRec.mk 17 [AV.ag (St.cs t)] [] (Eff.mk (AV.c (AC.i e)) [] none))) ∧ ((⟨AV.tu [AT.ag (St.cs St.z), AT.c (AC.i 1)], [], none⟩ : Eff) = E))
    (l1 : (e != 0) = false → (f != 0) = true → (CallOK Try.prog (CallRec.mk 17 [AV.ag (St.cs t)] [] (Eff.mk (AV.c (AC.i e)) [] none))) ∧ (CallOK Try.prog (CallRec.mk 17 [AV.ag (St.cs u)] [] (Eff.mk (AV.c (AC.i f)) [] none))) ∧ ((⟨AV.tu [AT.ag (St.cs St.z), AT.c (AC.i 1)], [], none⟩ : Eff) = E))
    (l2 : (e != 0) = false → (f != 0) = false → (!St.live t) = true → (CallOK Try.prog (CallRec.mk 17 [AV.ag (St.cs t)] [] (Eff.mk (AV.c (AC.i e)) [] none))) ∧ (CallOK Try.prog (CallRec.mk 17 [AV.ag (St.cs u)] [] (Eff.mk (AV.c (AC.i f)) [] none))) ∧ ((⟨AV.tu [AT.ag (St.cs u), AT.c (AC.i 0)], [], none⟩ : Eff) = E))
    (l3 : (e != 0) = false → (f != 0) = false → (!St.live t) = false → (!St.live u) = true → (CallOK Try.prog (CallRec.mk 17 [AV.ag (St.cs t)] [] (Eff.mk (AV.c (AC.i e)) [] none))) ∧ (CallOK Try.prog (CallRec.mk 17 [AV.ag (St.cs u)] [] (Eff.mk (AV.c (AC.i f)) [] none))) ∧ ((⟨AV.tu [AT.ag (St.cs t), AT.c (AC.i 0)], [], none⟩ : Eff) = E))
    (l4 : (e != 0) = false → (f != 0) = false → (!St.live t) = false → (!St.live u) = false → (CallOK Try.prog (CallRec.mk 17 [AV.ag (St.cs t)] [] (Eff.mk (AV.c (AC.i e)) [] none))) ∧ (CallOK Try.prog (CallRec.mk 17 [AV.ag (St.cs u)] [] (Eff.mk (AV.c (AC.i f)) [] none))) ∧ Kn.Low ⟨[(2, AV.c (AC.w 0)), (3, AV.c (AC.w 1)), (4, AV.c (AC.w 2)), (6, AV.c (AC.w 19)), (28, AV.c (AC.i 0))], [(0, Ent.mk true (St.cs t) 0), (1, Ent.mk true (St.cs u) 0), (2, Ent.mk true (St.cs St.z) 0), (19, Ent.mk true (St.cs St.e) 0)], 20⟩ ∧ ART Try.prog 13 (cx w β n []) Try.f13.ntmps (cutAt Try.f13 0) ⟨[(2, AV.c (AC.w 0)), (3, AV.c (AC.w 1)), (4, AV.c (AC.w 2)), (6, AV.c (AC.w 19)), (28, AV.c (AC.i 0))], [(0, Ent.mk true (St.cs t) 0), (1, Ent.mk true (St.cs u) 0), (2, Ent.mk true (St.cs St.z) 0), (19, Ent.mk true (St.cs St.e) 0)], 20⟩ (REff w β E)) :
    ART Try.prog 13 (cx w β n []) Try.f13.ntmps ([Item.code (bodyOf Try.f13)]) (Kn.start [AV.ag (St.cs t), AV.ag (St.cs u)] [] 0) (REff w β E) :=
  (tf (e != 0)).elim (fun h0 => (match l0 h0 with | ⟨c0, e⟩ => art_eq (fjTop_w0 (and_yes h0 rfl) c0) e)) (fun h0 => (tf (f != 0)).elim (fun h1 => (match l1 h0 h1 with | ⟨c0, c1, e⟩ => art_eq (fjTop_w1 (and_yes (not_yes h0) (and_yes h1 rfl)) c0 c1) e)) (fun h1 => (tf (!St.live t)).elim (fun h2 => (match l2 h0 h1 h2 with | ⟨c0, c1, e⟩ => art_eq (fjTop_w2 (and_yes (not_yes h0) (and_yes (not_yes h1) (and_yes h2 rfl))) c0 c1) e)) (fun h2 => (tf (!St.live u)).elim (fun h3 => (match l3 h0 h1 h2 h3 with | ⟨c0, c1, e⟩ => art_eq (fjTop_w3 (and_yes (not_yes h0) (and_yes (not_yes h1) (and_yes (not_yes h2) (and_yes h3 rfl)))) c0 c1) e)) (fun h3 => (match l4 h0 h1 h2 h3 with | ⟨c0, c1, lo, z⟩ => fjTop_w4 (and_yes (not_yes h0) (and_yes (not_yes h1) (and_yes (not_yes h2) (and_yes (not_yes h3) rfl)))) c0 c1 lo (fun _ hk => Nat.lt_of_lt_of_le hk hn) z)))))
theorem fjRound_w0 {t : St} {u : St} {b : St} {b2 : St} {a : V4} {j : Int} {C : Cx} {R : Ending → World → Prop} (h : (decide (j < 6) && (decide (0 ≤ j) && decide (j < 6) && (AC.isB (Option.getD (St.cs t)[1 + Int.toNat j * 1]? (AC.b false)) && Nat.blt (1 + Int.toNat j * 1) (List.length (St.cs t)) && (V6.get (St.s t) (Int.toNat j) && (decide (0 ≤ j) && decide (j < 6) && (AC.isB (Option.getD (St.cs u)[1 + Int.toNat j * 1]? (AC.b false)) && Nat.blt (1 + Int.toNat j * 1) (List.length (St.cs u)) && (V6.get (St.s u) (Int.toNat j) && (decide (0 ≤ j) && decide (j < 6) && (Nat.ble (7 + Int.toNat j * 4 + 4) (List.length (St.cs t)) && (decide (0 ≤ j) && decide (j < 6) && (Nat.ble (7 + Int.toNat j * 4 + 4) (List.length (St.cs u)) && true))))))))))) = true) (c0 : Eff.mk (AV.c (AC.b (AC.asB (Option.getD (St.cs t)[1 + Int.toNat j * 1]? (AC.b false))))) [] none = Eff.mk (AV.c (AC.b (V6.get (St.s t) (Int.toNat j)))) [] none) (c1 : Eff.mk (AV.c (AC.b (AC.asB (Option.getD (St.cs u)[1 + Int.toNat j * 1]? (AC.b false))))) [] none = Eff.mk (AV.c (AC.b (V6.get (St.s u) (Int.toNat j)))) [] none) (c2 : Eff.mk (AV.ag (List.take 4 (List.drop (7 + Int.toNat j * 4) (St.cs t)))) [] none = Eff.mk (AV.ag (V4.cs (V6.get (St.r t) (Int.toNat j)))) [] none) (c3 : Eff.mk (AV.ag (List.take 4 (List.drop (7 + Int.toNat j * 4) (St.cs u)))) [] none = Eff.mk (AV.ag (V4.cs (V6.get (St.r u) (Int.toNat j)))) [] none) (c4 : CallOK Try.prog (CallRec.mk 34 [AV.ag (V4.cs (V6.get (St.r t) (Int.toNat j))), AV.ag (V4.cs (V6.get (St.r u) (Int.toNat j)))] [] (Eff.mk (AV.tu [AT.ag (V4.cs a), AT.c (AC.i 0)]) [] none))) (c5 : CallOK Try.prog (CallRec.mk 35 [AV.ag (St.cs b), AV.c (AC.i j), AV.ag (V4.cs a)] [] (Eff.mk (AV.ag (St.cs b2)) [] none))) (lo : Kn.Low ⟨[(2, AV.c (AC.w 0)), (3, AV.c (AC.w 1)), (4, AV.c (AC.w 2)), (6, AV.c (AC.w 19)), (28, AV.c (AC.i (IntKind.wrap IntKind.i64 (j + 1))))], [(0, Ent.mk true (St.cs t) 0), (1, Ent.mk true (St.cs u) 0), (2, Ent.mk true (St.cs St.z) 0), (19, Ent.mk true (St.cs b2) 0)], 20⟩) (hF : ∀ k, C.F k → k < 20) (z : ART Try.prog 13 C Try.f13.ntmps (cutAt Try.f13 0) ⟨[(2, AV.c (AC.w 0)), (3, AV.c (AC.w 1)), (4, AV.c (AC.w 2)), (6, AV.c (AC.w 19)), (28, AV.c (AC.i (IntKind.wrap IntKind.i64 (j + 1))))], [(0, Ent.mk true (St.cs t) 0), (1, Ent.mk true (St.cs u) 0), (2, Ent.mk true (St.cs St.z) 0), (19, Ent.mk true (St.cs b2) 0)], 20⟩ R) :
    ART Try.prog 13 C Try.f13.ntmps (cutAt Try.f13 0) (Kn.mk [(2, AV.c (AC.w 0)), (3, AV.c (AC.w 1)), (4, AV.c (AC.w 2)), (6, AV.c (AC.w 19)), (28, AV.c (AC.i j))] [(0, Ent.mk true (St.cs t) 0), (1, Ent.mk true (St.cs u) 0), (2, Ent.mk true (St.cs St.z) 0), (19, Ent.mk true (St.cs b) 0)] 20) R :=
  run_cut ⟨[(2, AV.c (AC.w 0)), (3, AV.c (AC.w 1)), (4, AV.c (AC.w 2)), (6, AV.c (AC.w 19)), (28, AV.c (AC.i (IntKind.wrap IntKind.i64 (j + 1))))], [(0, Ent.mk true (St.cs t) 0), (1, Ent.mk true (St.cs u) 0), (2, Ent.mk true (St.cs St.z) 0), (19, Ent.mk true (St.cs b2) 0)], 20⟩ 2000 [Eff.mk (AV.c (AC.b (V6.get (St.s t) (Int.toNat j)))) [] none, Eff.mk (AV.c (AC.b (V6.get (St.s u) (Int.toNat j)))) [] none, Eff.mk (AV.ag (V4.cs (V6.get (St.r t) (Int.toNat j)))) [] none, Eff.mk (AV.ag (V4.cs (V6.get (St.r u) (Int.toNat j)))) [] none, Eff.mk (AV.tu [AT.ag (V4.cs a), AT.c (AC.i 0)]) [] none, Eff.mk (AV.ag (St.cs b2)) [] none] [true, true, true] ([true]) [(11, 3), (11, 8), (12, 3), (12, 7)] Try.func13 (by kernel_rfl) h (cr_same c0 (cr_same c1 (cr_same c2 (cr_same c3 (cr_cons c4 (cr_cons c5 cr_nil)))))) lo hF z
theorem fjRound_w1 {t : St} {u : St} {b : St} {j : Int} {C : Cx} {R : Ending → World → Prop} (h : (decide (j < 6) && (decide (0 ≤ j) && decide (j < 6) && (AC.isB (Option.getD (St.cs t)[1 + Int.toNat j * 1]? (AC.b false)) && Nat.blt (1 + Int.toNat j * 1) (List.length (St.cs t)) && (V6.get (St.s t) (Int.toNat j) && (decide (0 ≤ j) && decide (j < 6) && (AC.isB (Option.getD (St.cs u)[1 + Int.toNat j * 1]? (AC.b false)) && Nat.blt (1 + Int.toNat j * 1) (List.length (St.cs u)) && (!V6.get (St.s u) (Int.toNat j) && true))))))) = true) (c0 : Eff.mk (AV.c (AC.b (AC.asB (Option.getD (St.cs t)[1 + Int.toNat j * 1]? (AC.b false))))) [] none = Eff.mk (AV.c (AC.b (V6.get (St.s t) (Int.toNat j)))) [] none) (c1 : Eff.mk (AV.c (AC.b (AC.asB (Option.getD (St.cs u)[1 + Int.toNat j * 1]? (AC.b false))))) [] none = Eff.mk (AV.c (AC.b (V6.get (St.s u) (Int.toNat j)))) [] none) (lo : Kn.Low ⟨[(2, AV.c (AC.w 0)), (3, AV.c (AC.w 1)), (4, AV.c (AC.w 2)), (6, AV.c (AC.w 19)), (28, AV.c (AC.i (IntKind.wrap IntKind.i64 (j + 1))))], [(0, Ent.mk true (St.cs t) 0), (1, Ent.mk true (St.cs u) 0), (2, Ent.mk true (St.cs St.z) 0), (19, Ent.mk true (St.cs b) 0)], 20⟩) (hF : ∀ k, C.F k → k < 20) (z : ART Try.prog 13 C Try.f13.ntmps (cutAt Try.f13 0) ⟨[(2, AV.c (AC.w 0)), (3, AV.c (AC.w 1)), (4, AV.c (AC.w 2)), (6, AV.c (AC.w 19)), (28, AV.c (AC.i (IntKind.wrap IntKind.i64 (j + 1))))], [(0, Ent.mk true (St.cs t) 0), (1, Ent.mk true (St.cs u) 0), (2, Ent.mk true (St.cs St.z) 0), (19, Ent.mk true (St.cs b) 0)], 20⟩ R) :
    ART Try.prog 13 C Try.f13.ntmps (cutAt Try.f13 0) (Kn.mk [(2, AV.c (AC.w 0)), (3, AV.c (AC.w 1)), (4, AV.c (AC.w 2)), (6, AV.c (AC.w 19)), (28, AV.c (AC.i j))] [(0, Ent.mk true (St.cs t) 0), (1, Ent.mk true (St.cs u) 0), (2, Ent.mk true (St.cs St.z) 0), (19, Ent.mk true (St.cs b) 0)] 20) R :=
  run_cut ⟨[(2, AV.c (AC.w 0)), (3, AV.c (AC.w 1)), (4, AV.c (AC.w 2)), (6, AV.c (AC.w 19)), (28, AV.c (AC.i (IntKind.wrap IntKind.i64 (j + 1))))], [(0, Ent.mk true (St.cs t) 0), (1, Ent.mk true (St.cs u) 0), (2, Ent.mk true (St.cs St.z) 0), (19, Ent.mk true (St.cs b) 0)], 20⟩ 2000 [Eff.mk (AV.c (AC.b (V6.get (St.s t) (Int.toNat j)))) [] none, Eff.mk (AV.c (AC.b (V6.get (St.s u) (Int.toNat j)))) [] none] [true, true, false] ([true]) [(11, 3), (11, 8), (12, 3), (12, 7)] Try.func13 (by kernel_rfl) h (cr_same c0 (cr_same c1 cr_nil)) lo hF z
theorem fjRound_w2 {t : St} {u : St} {b : St} {j : Int} {C : Cx} {R : Ending → World → Prop} (h : (decide (j < 6) && (decide (0 ≤ j) && decide (j < 6) && (AC.isB (Option.getD (St.cs t)[1 + Int.toNat j * 1]? (AC.b false)) && Nat.blt (1 + Int.toNat j * 1) (List.length (St.cs t)) && (!V6.get (St.s t) (Int.toNat j) && true)))) = true) (c0 : Eff.mk (AV.c (AC.b (AC.asB (Option.getD (St.cs t)[1 + Int.toNat j * 1]? (AC.b false))))) [] none = Eff.mk (AV.c (AC.b (V6.get (St.s t) (Int.toNat j)))) [] none) (lo : Kn.Low ⟨[(2, AV.c (AC.w 0)), (3, AV.c (AC.w 1)), (4, AV.c (AC.w 2)), (6, AV.c (AC.w 19)), (28, AV.c (AC.i (IntKind.wrap IntKind.i64 (j + 1))))], [(0, Ent.mk true (St.cs t) 0), (1, Ent.mk true (St.cs u) 0), (2, Ent.mk true (St.cs St.z) 0), (19, Ent.mk true (St.cs b) 0)], 20⟩) (hF : ∀ k, C.F k → k < 20) (z : ART Try.prog 13 C Try.f13.ntmps (cutAt Try.f13 0) ⟨[(2, AV.c (AC.w 0)), (3, AV.c (AC.w 1)), (4, AV.c (AC.w 2)), (6, AV.c (AC.w 19)), (28, AV.c (AC.i (IntKind.wrap IntKind.i64 (j + 1))))], [(0, Ent.mk true (St.cs t) 0), (1, Ent.mk true (St.cs u) 0), (2, Ent.mk true (St.cs St.z) 0), (19, Ent.mk true (St.cs b) 0)], 20⟩ R) :
    ART Try.prog 13 C Try.f13.ntmps (cutAt Try.f13 0) (Kn.mk [(2, AV.c (AC.w 0)), (3, AV.c (AC.w 1)), (4, AV.c (AC.w 2)), (6, AV.c (AC.w 19)), (28, AV.c (AC.i j))] [(0, Ent.mk true (St.cs t) 0), (1, Ent.mk true (St.cs u) 0), (2, Ent.mk true (St.cs St.z) 0), (19, Ent.mk true (St.cs b) 0)] 20) R :=
  run_cut ⟨[(2, AV.c (AC.w 0)), (3, AV.c (AC.w 1)), (4, AV.c (AC.w 2)), (6, AV.c (AC.w 19)), (28, AV.c (AC.i (IntKind.wrap IntKind.i64 (j + 1))))], [(0, Ent.mk true (St.cs t) 0), (1, Ent.mk true (St.cs u) 0), (2, Ent.mk true (St.cs St.z) 0), (19, Ent.mk true (St.cs b) 0)], 20⟩ 2000 [Eff.mk (AV.c (AC.b (V6.get (St.s t) (Int.toNat j)))) [] none] [true, false, false] ([true]) [(11, 3), (11, 8), (12, 3), (12, 7)] Try.func13 (by kernel_rfl) h (cr_same c0 cr_nil) lo hF z
theorem fjRound_all {t : St} {u : St} {b : St} {b2 : St} {a : V4} {j : Int} {w : World} {β : Bs} {n : Nat} {E : Eff} (hn : n ≤ 20)
    (l0 : (V6.get (St.s t) (Int.toNat j)) = true → (V6.get (St.s u) (Int.toNat j)) = true → (decide (j < 6)) = true ∧ (decide (0 ≤ j) && decide (j < 6)) = true ∧ (AC.isB (Option.getD (St.cs t)[1 + Int.toNat j * 1]? (AC.b false)) && Nat.blt (1 + Int.toNat j * 1) (List.length (St.cs t))) = true ∧ (decide (0 ≤ j) && decide (j < 6)) = true ∧ (AC.isB (Option.getD (St.cs u)[1 + Int.toNat j * 1]? (AC.b false)) && Nat.blt (1 + Int.toNat j * 1) (List.length (St.cs u))) = true ∧ (decide (0 ≤ j) && decide (j < 6)) = true ∧ (Nat.ble (7 + Int.toNat j * 4 + 4) (List.length (St.cs t))) = true ∧ (decide (0 ≤ j) && decide (j < 6)) = true ∧ (Nat.ble (7 + Int.toNat j * 4 + 4) (List.length (St.cs u))) = true ∧ (Eff.mk (AV.c (AC.b (AC.asB (Option.getD (St.cs t)[1 + Int.toNat j * 1]? (AC.b false))))) [] none = Eff.mk (AV.c (AC.b (V6.get (St.s t) (Int.toNat j)))) [] none) ∧ (Eff.mk (AV.c (AC.b (AC.asB (Option.getD (St.cs u)[1 + Int.toNat j * 1]? (AC.b false))))) [] none = Eff.mk (AV.c (AC.b (V6.get (St.s u) (Int.toNat j)))) [] none) ∧ (Eff.mk (AV.ag (List.take 4 (List.drop (7 + Int.toNat j * 4) (St.cs t)))) [] none = Eff.mk (AV.ag (V4.cs (V6.get (St.r t) (Int.toNat j)))) [] none) ∧ (Eff.mk (AV.ag (List.take 4 (List.drop (7 + Int.toNat j * 4) (St.cs u)))) [] none = Eff.mk (AV.ag (V4.cs (V6.get (St.r u) (Int.toNat j)))) [] none) ∧ (CallOK Try.prog (CallRec.mk 34 [AV.ag (V4.cs (V6.get (St.r t) (Int.toNat j))), AV.ag (V4.cs (V6.get (St.r u) (Int.toNat j)))] [] (Eff.mk (AV.tu [AT.ag (V4.cs a), AT.c (AC.i 0)]) [] none))) ∧ (CallOK Try.prog (CallRec.mk 35 [AV.ag (St.cs b), AV.c (AC.i j), AV.ag (V4.cs a)] [] (Eff.mk (AV.ag (St.cs b2)) [] none))) ∧ Kn.Low ⟨[(2, AV.c (AC.w 0)), (3, AV.c (AC.w 1)), (4, AV.c (AC.w 2)), (6, AV.c (AC.w 19)), (28, AV.c (AC.i (IntKind.wrap IntKind.i64 (j + 1))))], [(0, Ent.mk true (St.cs t) 0), (1, Ent.mk true (St.cs u) 0), (2, Ent.mk true (St.cs St.z) 0), (19, Ent.mk true (St.cs b2) 0)], 20⟩ ∧ ART Try.prog 13 (cx w β n []) Try.f13.ntmps (cutAt Try.f13 0) ⟨[(2, AV.c (AC.w 0)), (3, AV.c (AC.w 1)), (4, AV.c (AC.w 2)), (6, AV.c (AC.w 19)), (28, AV.c (AC.i (IntKind.wrap IntKind.i64 (j + 1))))], [(0, Ent.mk true (St.cs t) 0), (1, Ent.mk true (St.cs u) 0), (2, Ent.mk true (St.cs St.z) 0), (19, Ent.mk true (St.cs b2) 0)], 20⟩ (REff w β E))
    (l1 : (V6.get (St.s t) (Int.toNat j)) = true → (V6.get (St.s u) (Int.toNat j)) = false → (decide (j < 6)) = true ∧ (decide (0 ≤ j) && decide (j < 6)) = true ∧ (AC.isB (Option.getD (St.cs t)[1 + Int.toNat j * 1]? (AC.b false)) && Nat.blt (1 + Int.toNat j * 1) (List.length (St.cs t))) = true ∧ (decide (0 ≤ j) && decide (j < 6)) = true ∧ (AC.isB (Option.getD (St.cs u)[1 + Int.toNat j * 1]? (AC.b false)) && Nat.blt (1 + Int.toNat j * 1) (List.length (St.cs u))) = true ∧ (Eff.mk (AV.c (AC.b (AC.asB (Option.getD (St.cs t)[1 + Int.toNat j * 1]? (AC.b false))))) [] none = Eff.mk (AV.c (AC.b (V6.get (St.s t) (Int.toNat j)))) [] none) ∧ (Eff.mk (AV.c (AC.b (AC.asB (Option.getD (St.cs u)[1 + Int.toNat j * 1]? (AC.b false))))) [] none = Eff.mk (AV.c (AC.b (V6.get (St.s u) (Int.toNat j)))) [] none) ∧ Kn.Low ⟨[(2, AV.c (AC.w 0)), (3, AV.c (AC.w 1)), (4, AV.c (AC.w 2)), (6, AV.c (AC.w 19)), (28, AV.c (AC.i (IntKind.wrap IntKind.i64 (j + 1))))], [(0, Ent.mk true (St.cs t) 0), (1, Ent.mk true (St.cs u) 0), (2, Ent.mk true (St.cs St.z) 0), (19, Ent.mk true (St.cs b) 0)], 20⟩ ∧ ART Try.prog 13 (cx w β n []) Try.f13.ntmps (cutAt Try.f13 0) ⟨[(2, AV.c (AC.w 0)), (3, AV.c (AC.w 1)), (4, AV.c (AC.w 2)), (6, AV.c (AC.w 19)), (28, AV.c (AC.i (IntKind.wrap IntKind.i64 (j + 1))))], [(0, Ent.mk true (St.cs t) 0), (1, Ent.mk true (St.cs u) 0), (2, Ent.mk true (St.cs St.z) 0), (19, Ent.mk true (St.cs b) 0)], 20⟩ (REff w β E))
    (l2 : (V6.get (St.s t) (Int.toNat j)) = false → (decide (j < 6)) = true ∧ (decide (0 ≤ j) && decide (j < 6)) = true ∧ (AC.isB (Option.getD (St.cs t)[1 + Int.toNat j * 1]? (AC.b false)) && Nat.blt (1 + Int.toNat j * 1) (List.length (St.cs t))) = true ∧ (Eff.mk (AV.c (AC.b (AC.asB (Option.getD (St.cs t)[1 + Int.toNat j * 1]? (AC.b false))))) [] none = Eff.mk (AV.c (AC.b (V6.get (St.s t) (Int.toNat j)))) [] none) ∧ Kn.Low ⟨[(2, AV.c (AC.w 0)), (3, AV.c (AC.w 1)), (4, AV.c (AC.w 2)), (6, AV.c (AC.w 19)), (28, AV.c (AC.i (IntKind.wrap IntKind.i64 (j + 1))))], [(0, Ent.mk true (St.cs t) 0), (1, Ent.mk true (St.cs u) 0), (2, Ent.mk true (St.cs St.z) 0), (19, Ent.mk true (St.cs b) 0)], 20⟩ ∧ ART Try.prog 13 (cx w β n []) Try.f13.ntmps (cutAt Try.f13 0) ⟨[(2, AV.c (AC.w 0)), (3, AV.c (AC.w 1)), (4, AV.c (AC.w 2)), (6, AV.c (AC.w 19)), (28, AV.c (AC.i (IntKind.wrap IntKind.i64 (j + 1))))], [(0, Ent.mk true (St.cs t) 0), (1, Ent.mk true (St.cs u) 0), (2, Ent.mk true (St.cs St.z) 0), (19, Ent.mk true (St.cs b) 0)], 20⟩ (REff w β E)) :
    ART Try.prog 13 (cx w β n []) Try.f13.ntmps (cutAt Try.f13 0) (Kn.mk [(2, AV.c (AC.w 0)), (3, AV.c (AC.w 1)), (4, AV.c (AC.w 2)), (6, AV.c (AC.w 19)), (28, AV.c (AC.i j))] [(0, Ent.mk true (St.cs t) 0), (1, Ent.mk true (St.cs u) 0), (2, Ent.mk true (St.cs St.z) 0), (19, Ent.mk true (St.cs b) 0)] 20) (REff w β E) :=
  (tf (V6.get (St.s t) (Int.toNat j))).elim (fun h0 => (tf (V6.get (St.s u) (Int.toNat j))).elim (fun h1 => (match l0 h0 h1 with | ⟨o0, o1, o2, o3, o4, o5, o6, o7, o8, c0, c1, c2, c3, c4, c5, lo, z⟩ => fjRound_w0 (and_yes o0 (and_yes o1 (and_yes o2 (and_yes h0 (and_yes o3 (and_yes o4 (and_yes h1 (and_yes o5 (and_yes o6 (and_yes o7 (and_yes o8 rfl))))))))))) c0 c1 c2 c3 c4 c5 lo (fun _ hk => Nat.lt_of_lt_of_le hk hn) z)) (fun h1 => (match l1 h0 h1 with | ⟨o0, o1, o2, o3, o4, c0, c1, lo, z⟩ => fjRound_w1 (and_yes o0 (and_yes o1 (and_yes o2 (and_yes h0 (and_yes o3 (and_yes o4 (and_yes (not_yes h1) rfl))))))) c0 c1 lo (fun _ hk => Nat.lt_of_lt_of_le hk hn) z))) (fun h0 => (match l2 h0 with | ⟨o0, o1, o2, c0, lo, z⟩ => fjRound_w2 (and_yes o0 (and_yes o1 (and_yes o2 (and_yes (not_yes h0) rfl)))) c0 lo (fun _ hk => Nat.lt_of_lt_of_le hk hn) z))
theorem fjEnd_w0 {t : St} {u : St} {b : St} {w : World} {β : Bs} {n : Nat} :
    ART Try.prog 13 (cx w β n []) Try.f13.ntmps (cutAt Try.f13 0) (Kn.mk [(2, AV.c (AC.w 0)), (3, AV.c (AC.w 1)), (4, AV.c (AC.w 2)), (6, AV.c (AC.w 19)), (28, AV.c (AC.i 6))] [(0, Ent.mk true (St.cs t) 0), (1, Ent.mk true (St.cs u) 0), (2, Ent.mk true (St.cs St.z) 0), (19, Ent.mk true (St.cs b) 0)] 20) (REff w β ⟨AV.tu [AT.ag (St.cs b), AT.c (AC.i 0)], [], none⟩) :=
  run_eff [] (none) 2000 [] [false] ([true]) [] Try.func13 (ekeys0 rfl n) (by kernel_rfl) rfl cr_nil
end Go.Proofs.Ytkigmocchaikgab

/- What a value has, and what is left of two: plain facts. -/
namespace Go.Proofs.Ytkigmocchaikgab

theorem V4.ok_rt {a : V4} (h : a.ok = true) : RtB a.v a.m := (val_facts h).1
theorem V4.has_ok {a : V4} {x : BitVec 64} (h : a.has x = true) : a.ok = true := (has_facts h).1
theorem V4.nrm_ok {a : V4} (hr : RtB a.v a.m) (h : a.nok = true) : a.nrm.ok = true := norm_right hr h
theorem V4.nrm_has {a : V4} {x : BitVec 64} (hr : RtB a.v a.m) (hx : rawV a.v a.m a.l a.h x = true) : a.nok = true ∧ a.nrm.has x = true := raw_norm hr hx
theorem V4.has_iff {a : V4} {x : BitVec 64} : a.has x = true ↔ a.ok = true ∧ hasB a.v a.m x = true ∧ nv a.l ≤ nv x ∧ nv x ≤ nv a.h := by
  simp only [V4.has, hasV, V4.ok, Bool.and_eq_true, decide_eq_true_eq]
theorem V4.low_has {a : V4} (h : a.ok = true) : a.has a.l = true := by
  obtain ⟨_, h2, _, h4, _⟩ := val_facts h
  exact V4.has_iff.2 ⟨h, h2, Int.le_refl _, h4⟩
theorem V4.high_has {a : V4} (h : a.ok = true) : a.has a.h = true := by
  obtain ⟨_, _, h3, h4, _⟩ := val_facts h
  exact V4.has_iff.2 ⟨h, h3, h4, Int.le_refl _⟩
theorem V4.le {a : V4} (h : a.ok = true) : nv a.l ≤ nv a.h := (val_facts h).2.2.2.1
theorem V4.stays {a : V4} (h : a.ok = true) : a.nok = true ∧ a.nrm = a := by
  obtain ⟨h1, h2, h3, h4, h5⟩ := norm_stays h
  refine ⟨h1, ?_⟩
  cases a; simp only [V4.nrm] at *; rw [h2, h3, h4, h5]
theorem V4.two_has {op : Int} {a b : V4} {x y : BitVec 64} (hop : 2 ≤ op ∧ op ≤ 9) (hx : a.has x = true) (hy : b.has y = true) : (V4.two op a b).has (numN op x y) = true := by
  obtain ⟨h1, h2⟩ := rk_sound hop hx hy
  obtain ⟨h3, h4⟩ := V4.nrm_has (a := V4.raw2 op a b) h1 h2
  unfold V4.two V4.norm
  rw [if_pos h3]
  exact h4
theorem V4.two_ok {op : Int} {a b : V4} (hop : 2 ≤ op ∧ op ≤ 9) (ha : a.ok = true) (hb : b.ok = true) : (V4.two op a b).ok = true := V4.has_ok (V4.two_has hop (V4.low_has ha) (V4.low_has hb))
theorem V4.join_has {a b : V4} {x : BitVec 64} (ha : a.ok = true) (hb : b.ok = true) (h : a.has x = true ∨ b.has x = true) : (a.join b).has x = true := by
  obtain ⟨_, h2, h3⟩ := join_facts ha hb
  rcases h with h | h
  · exact insV_has h2 h
  · exact insV_has h3 h
theorem V4.join_ok {a b : V4} (ha : a.ok = true) (hb : b.ok = true) : (a.join b).ok = true := V4.has_ok (V4.join_has ha hb (Or.inl (V4.low_has ha)))
theorem insB_refl {v m : BitVec 64} (h : RtB v m) : insB v m v m = true := ins_of_all h h fun _ hx => hx
theorem hasB_of (x : BitVec 64) : hasB x zero x = true := by
  have hr : RtB x zero := fun j => by rw [bit_zero]; cases bit x j <;> rfl
  refine (hasB_iff _ _ _).2 ⟨hr, fun j hj => ?_⟩
  rw [bit_zero]; cases bit x j <;> rfl
theorem sM_self (x : BitVec 64) : sM x x = zero := by
  apply bext
  intro j hj
  rw [bit_zero]
  exact (sM_bit x x j hj).2 fun _ _ => rfl
theorem V4.of_ok (x : BitVec 64) : (V4.of x).ok = true := by
  have h := hasB_of x
  have hs : spV x x = x := by
    unfold spV
    rw [sM_self]
    apply bext
    intro j hj
    rw [bit_andn _ _ _ hj, bit_zero]; cases bit x j <;> rfl
  show valB x zero x x = true
  unfold valB
  rw [h, sM_self, hs, insB_refl ((hasB_iff _ _ _).1 h).1]
  simp
theorem V4.of_has {x y : BitVec 64} : (V4.of x).has y = true ↔ y = x := by
  constructor
  · intro h
    obtain ⟨_, _, h1, h2⟩ := V4.has_iff.1 h
    have h1 : nv x ≤ nv y := h1
    have h2 : nv y ≤ nv x := h2
    exact nv_inj _ _ (by omega)
  · rintro rfl
    exact V4.low_has (V4.of_ok y)
theorem sM_ends {l h : BitVec 64} {n : Nat} (hn : n < 64) (hl : l = zero) (hb : bit h n = true) : ∀ j, j ≤ n → bit (sM l h) j = true := by
  intro j hj
  cases hc : bit (sM l h) j with
  | true => rfl
  | false =>
    have := (sM_bit l h j (by omega)).1 hc n hj
    rw [hl, bit_zero, hb] at this
    cases this
theorem V4.low_ok {h : BitVec 64} (n : Nat) (hn : n ≤ 64) (hb : ∀ j, j < 64 → bit h j = decide (j < n)) (h0 : 0 < n) : V4.ok ⟨zero, h, zero, h⟩ = true ∧ ∀ x, nv x ≤ nv h → V4.has ⟨zero, h, zero, h⟩ x = true := by
  have hr : RtB zero h := zero_rt h
  have g0 : hasB zero h zero = true := (hasB_iff _ _ _).2 ⟨hr, fun j hj => by rw [bit_zero]; rfl⟩
  have g1 : hasB zero h h = true := (hasB_iff _ _ _).2 ⟨hr, fun j hj => by rw [bit_zero]; cases bit h j <;> rfl⟩
  have hle : nv zero ≤ nv h := (ends h).1
  have sm : sM zero h = h := by
    apply bext
    intro j hj
    rw [hb j hj]
    by_cases c : j < n
    · rw [sM_ends (n := n - 1) (by omega) rfl (by rw [hb _ (by omega)]; simp; omega) j (by omega)]; simp [c]
    · have : bit (sM zero h) j = false := (sM_bit _ _ _ hj).2 fun i hi => by
        by_cases c' : i < 64
        · rw [bit_zero, hb i c']; simp; omega
        · rw [bit_big _ _ (by omega), bit_big _ _ (by omega)]
      rw [this]; simp [c]
  have sp : spV zero h = zero := by
    unfold spV
    apply bext
    intro j hj
    rw [bit_andn _ _ _ hj, bit_zero]; rfl
  have ho : V4.ok ⟨zero, h, zero, h⟩ = true := by
    show valB zero h zero h = true
    unfold valB
    rw [g0, g1, sm, sp, insB_refl hr]
    simp [hle]
  refine ⟨ho, fun x hx => V4.has_iff.2 ⟨ho, (hasB_iff _ _ _).2 ⟨hr, fun j hj => ?_⟩, (ends x).1, hx⟩⟩
  -- a bit that h lacks, x lacks
  rw [bit_zero]
  have := span_has (l := zero) (h := h) (x := x) (ends x).1 hx
  rw [sm, sp] at this
  have h2 := ((hasB_iff _ _ _).1 this).2 j hj
  rw [bit_zero] at h2
  exact h2
theorem V4.any_has (x : BitVec 64) : V4.any.has x = true := (V4.low_ok (h := top) 64 (Nat.le_refl _) (fun j hj => by rw [bit_top _ hj]; simp [hj]) (by decide)).2 x (ends x).2
theorem V4.any_ok : V4.any.ok = true := V4.has_ok (V4.any_has zero)
theorem byteTop_bits (n : Int) : ∃ k, 0 < k ∧ k ≤ 64 ∧ ∀ j, j < 64 → bit (byteTop n) j = decide (j < k) := by
  have key : ∀ (k : Nat) (x : BitVec 64), (∀ j : Fin 64, x.getLsbD j.1 = decide (j.1 < k)) → ∀ j, j < 64 → bit x j = decide (j < k) := fun k x h j hj => h ⟨j, hj⟩
  unfold byteTop
  split
  · exact ⟨64, by decide, by decide, fun j hj => by rw [bit_top _ hj]; simp [hj]⟩
  · split
    · exact ⟨32, by decide, by decide, key 32 _ (by decide)⟩
    · split
      · exact ⟨16, by decide, by decide, key 16 _ (by decide)⟩
      · exact ⟨8, by decide, by decide, key 8 _ (by decide)⟩
theorem V4.bytes_has (n : Int) (x : BitVec 64) (hx : nv x ≤ nv (byteTop n)) : (V4.bytes n).has x = true := by
  obtain ⟨k, h1, h2, h3⟩ := byteTop_bits n
  exact (V4.low_ok k h2 h3 h1).2 x hx
theorem V4.bytes_ok (n : Int) : (V4.bytes n).ok = true := V4.has_ok (V4.bytes_has n zero (ends _).1)

/- what is left of two -/
theorem left2_ok {may : Bool} {x y : V4} (hx : RtB x.v x.m) (hy : RtB y.v y.m) (h : (left2 may x y).2.2 = true) : (left2 may x y).1.ok = true ∧ (left2 may x y).2.1.ok = true := by
  have h' : (may && (x.nok && y.nok)) = true := h
  simp only [left2, lvV, h', if_true]
  simp only [Bool.and_eq_true] at h'
  exact ⟨V4.nrm_ok hx h'.2.1, V4.nrm_ok hy h'.2.2⟩
theorem left2_has {x y : V4} {p q : BitVec 64} (hx : RtB x.v x.m) (hy : RtB y.v y.m) (h1 : rawV x.v x.m x.l x.h p = true) (h2 : rawV y.v y.m y.l y.h q = true) :
    (left2 true x y).2.2 = true ∧ (left2 true x y).1.has p = true ∧ (left2 true x y).2.1.has q = true := by
  obtain ⟨a1, a2⟩ := V4.nrm_has hx h1
  obtain ⟨b1, b2⟩ := V4.nrm_has hy h2
  simp only [left2, lvV, a1, b1, Bool.and_self, if_true]
  exact ⟨trivial, a2, b2⟩
theorem meet_rt {a b : V4} (ha : a.ok = true) (hb : b.ok = true) : RtB (bor a.v b.v) (band a.m b.m) := by
  have r1 := V4.ok_rt ha
  have r2 := V4.ok_rt hb
  intro j
  have h3 := r1 j; have h4 := r2 j
  rw [bit_or, bit_and']
  revert h3 h4
  cases bit a.v j <;> cases bit a.m j <;> cases bit b.v j <;> cases bit b.m j <;> simp
theorem V4.equal_ok {a b : V4} (ha : a.ok = true) (hb : b.ok = true) (h : (a.equal b).2.2 = true) : (a.equal b).1.ok = true ∧ (a.equal b).2.1.ok = true := by
  unfold V4.equal at h ⊢
  split at h
  · rename_i hm
    rw [if_pos hm]
    exact left2_ok (meet_rt ha hb) (meet_rt ha hb) h
  · cases h
theorem V4.equal_has {a b : V4} {x : BitVec 64} (hx : a.has x = true) (hy : b.has x = true) : (a.equal b).2.2 = true ∧ (a.equal b).1.has x = true ∧ (a.equal b).2.1.has x = true := by
  obtain ⟨h1, h2, h3⟩ := left_equal hx hy
  unfold V4.equal
  rw [if_pos (show a.meets b = true from h1)]
  exact left2_has (x := a.rawEqual b) (y := a.rawEqual b) h2 h2 h3 h3
theorem V4.other_ok {a b : V4} (ha : a.ok = true) (hb : b.ok = true) (h : (a.other b).2.2 = true) : (a.other b).1.ok = true ∧ (a.other b).2.1.ok = true :=
  left2_ok (show RtB a.v a.m from V4.ok_rt ha) (show RtB b.v b.m from V4.ok_rt hb) h
theorem V4.other_has {a b : V4} {x y : BitVec 64} (hx : a.has x = true) (hy : b.has y = true) (hne : x ≠ y) : (a.other b).2.2 = true ∧ (a.other b).1.has x = true ∧ (a.other b).2.1.has y = true := by
  have h1 := left_other hx hy hne
  have h2 := left_other hy hx (Ne.symm hne)
  have h3 := may_other hx hy hne
  unfold V4.other
  have e : (!(a.alone && (b.alone && eqb a.l b.l))) = true := by
    show (!(eqb a.l a.h && (eqb b.l b.h && eqb a.l b.l))) = true
    rw [h3]; rfl
  rw [e]
  exact left2_has (x := a.without b) (y := b.without a) (show RtB a.v a.m from V4.ok_rt (V4.has_ok hx)) (show RtB b.v b.m from V4.ok_rt (V4.has_ok hy)) h1 h2
theorem V4.less_ok {a b : V4} (ha : a.ok = true) (hb : b.ok = true) (h : (a.less b).2.2 = true) : (a.less b).1.ok = true ∧ (a.less b).2.1.ok = true := by
  unfold V4.less at h ⊢
  split at h
  · cases h
  · rename_i hm
    rw [if_neg hm]
    exact left2_ok (show RtB a.v a.m from V4.ok_rt ha) (show RtB b.v b.m from V4.ok_rt hb) h
theorem V4.less_has {a b : V4} {x y : BitVec 64} (hx : a.has x = true) (hy : b.has y = true) (hlt : nv x < nv y) : (a.less b).2.2 = true ∧ (a.less b).1.has x = true ∧ (a.less b).2.1.has y = true := by
  obtain ⟨h1, h2, h3, h4⟩ := left_less hx hy hlt
  rw [bmax_self] at h3
  rw [bmin_self] at h4
  unfold V4.less
  rw [h1, h2, if_neg (by decide)]
  exact left2_has (x := ⟨a.v, a.m, a.l, bmin a.h (bsub b.h one)⟩) (y := ⟨b.v, b.m, bmax b.l (badd a.l one), b.h⟩) (show RtB a.v a.m from V4.ok_rt (V4.has_ok hx)) (show RtB b.v b.m from V4.ok_rt (V4.has_ok hy)) h3 h4
theorem V4.notLess_ok {a b : V4} (ha : a.ok = true) (hb : b.ok = true) (h : (a.notLess b).2.2 = true) : (a.notLess b).1.ok = true ∧ (a.notLess b).2.1.ok = true :=
  left2_ok (show RtB a.v a.m from V4.ok_rt ha) (show RtB b.v b.m from V4.ok_rt hb) h
theorem V4.notLess_has {a b : V4} {x y : BitVec 64} (hx : a.has x = true) (hy : b.has y = true) (hle : nv y ≤ nv x) : (a.notLess b).2.2 = true ∧ (a.notLess b).1.has x = true ∧ (a.notLess b).2.1.has y = true := by
  obtain ⟨h3, h4⟩ := left_notLess hx hy hle
  rw [bmin_self] at h3
  rw [bmax_self] at h4
  exact left2_has (x := ⟨a.v, a.m, bmax a.l b.l, a.h⟩) (y := ⟨b.v, b.m, b.l, bmin b.h a.h⟩) (show RtB a.v a.m from V4.ok_rt (V4.has_ok hx)) (show RtB b.v b.m from V4.ok_rt (V4.has_ok hy)) h3 h4

/- cells that are the same -/
theorem V4.eq_iff {a b : V4} : eqCs a.cs b.cs = true ↔ a = b := by
  cases a; cases b
  simp [V4.cs, eqCs, eqC, eqb]
end Go.Proofs.Ytkigmocchaikgab

/- States: which machines they have; joins: plain facts. -/
namespace Go.Proofs.Ytkigmocchaikgab

theorem anyFrom_no {p : Nat → Bool} : anyFrom p 6 = false ↔ ∀ j, j < 6 → p j = false := by
  simp only [anyFrom, Bool.or_eq_false_iff]
  constructor
  · rintro ⟨h0, h1, h2, h3, h4, h5, _⟩
    exact lt6 h0 h1 h2 h3 h4 h5
  · intro h
    exact ⟨h 0 (by decide), h 1 (by decide), h 2 (by decide), h 3 (by decide), h 4 (by decide), h 5 (by decide), trivial⟩
theorem St.z_iff {t : St} : eqCs t.cs St.z.cs = true ↔ t = St.z := by
  obtain ⟨l, ⟨s0, s1, s2, s3, s4, s5⟩, ⟨⟨a0, a1, a2, a3⟩, ⟨b0, b1, b2, b3⟩, ⟨c0, c1, c2, c3⟩, ⟨d0, d1, d2, d3⟩, ⟨e0, e1, e2, e3⟩, ⟨f0, f1, f2, f3⟩⟩⟩ := t
  simp [St.cs, St.z, no6, V6.rep, V4.z, eqCs, eqC, eqb, and_assoc]
theorem V4.z_iff {a : V4} : eqCs a.cs V4.z.cs = true ↔ a = V4.z := V4.eq_iff
structure St.Ok (t : St) : Prop where
  dead : t.live = false → t = St.z
  set : ∀ j, j < 6 → t.s.get j = true → (t.r.get j).ok = true
  unset : ∀ j, j < 6 → t.s.get j = false → t.r.get j = V4.z
theorem badR_no {t : St} {j : Nat} : badR t j = false ↔ ((t.s.get j = true → (t.r.get j).ok = true) ∧ (t.s.get j = false → t.r.get j = V4.z)) := by
  unfold badR
  cases h : t.s.get j with
  | true => simp
  | false =>
    rw [← V4.z_iff]
    simp
theorem St.ok_iff {t : St} : t.ok = true ↔ t.Ok := by
  unfold St.ok
  rw [Bool.and_eq_true, Bool.or_eq_true, St.z_iff, Bool.not_eq_true', anyFrom_no]
  constructor
  · rintro ⟨h1, h2⟩
    exact ⟨fun h => h1.resolve_left (by rw [h]; decide), fun j hj => (badR_no.1 (h2 j hj)).1, fun j hj => (badR_no.1 (h2 j hj)).2⟩
  · intro h
    refine ⟨?_, fun j hj => badR_no.2 ⟨h.set j hj, h.unset j hj⟩⟩
    cases hl : t.live with
    | true => exact Or.inl rfl
    | false => exact Or.inr (h.dead hl)
theorem rep_get {α : Type} (a : α) : ∀ j, j < 6 → (V6.rep a).get j = a := lt6 rfl rfl rfl rfl rfl rfl
theorem no6_get : ∀ j, j < 6 → no6.get j = false := lt6 rfl rfl rfl rfl rfl rfl
theorem St.z_Ok : St.z.Ok := ⟨fun _ => rfl, fun j hj h => (by rw [show St.z.s = no6 from rfl, no6_get j hj] at h; cases h), fun j hj _ => rep_get _ j hj⟩
theorem St.e_Ok : St.e.Ok := ⟨fun h => (by cases h), fun j hj h => (by rw [show St.e.s = no6 from rfl, no6_get j hj] at h; cases h), fun j hj _ => rep_get _ j hj⟩
theorem St.wth_s {t : St} {d j : Nat} {a : V4} (hd : d < 6) (hj : j < 6) : (t.wth d a).s.get j = if d = j then true else t.s.get j := V6.get_set _ _ _ _ hd hj
theorem St.wth_r {t : St} {d j : Nat} {a : V4} (hd : d < 6) (hj : j < 6) : (t.wth d a).r.get j = if d = j then a else t.r.get j := V6.get_set _ _ _ _ hd hj
theorem St.wth_Ok {t : St} {d : Nat} {a : V4} (hd : d < 6) (hl : t.live = true) (ha : a.ok = true) (h : t.Ok) : (t.wth d a).Ok := by
  refine ⟨fun hn => ?_, fun j hj hs => ?_, fun j hj hs => ?_⟩
  · have : t.live = false := hn
    rw [hl] at this; cases this
  · rw [St.wth_s hd hj] at hs
    rw [St.wth_r hd hj]
    split
    · exact ha
    · rename_i hne; rw [if_neg hne] at hs; exact h.set j hj hs
  · rw [St.wth_s hd hj] at hs
    rw [St.wth_r hd hj]
    split
    · rename_i hne; rw [if_pos hne] at hs; cases hs
    · rename_i hne; rw [if_neg hne] at hs; exact h.unset j hj hs
theorem beginS_Ok : beginS.Ok := St.wth_Ok (by decide) rfl V4.any_ok St.e_Ok

/- a machine that the state has -/
structure St.Has (t : St) (m : Mach) : Prop where
  ok : t.Ok
  live : t.live = true
  mach : machErr m = 0
  fin : m.fin = 0
  reg : ∀ j, j < 6 → t.s.get j = true → m.s.get j = true ∧ (t.r.get j).has (m.r.get j) = true
theorem lackR_no {t : St} {m : Mach} {j : Nat} : lackR t m j = false ↔ (t.s.get j = true → m.s.get j = true ∧ (t.r.get j).has (m.r.get j) = true) := by
  unfold lackR
  cases t.s.get j <;> cases m.s.get j <;> cases (t.r.get j).has (m.r.get j) <;> simp
theorem St.has_iff {t : St} {m : Mach} : t.has m = true ↔ t.Has m := by
  unfold St.has
  rw [Bool.and_eq_true, Bool.and_eq_true, Bool.and_eq_true, Bool.and_eq_true, St.ok_iff, decide_eq_true_eq, decide_eq_true_eq, Bool.not_eq_true', anyFrom_no]
  constructor
  · rintro ⟨h1, h2, h3, h4, h5⟩
    exact ⟨h1, h2, h3, h4, fun j hj => lackR_no.1 (h5 j hj)⟩
  · intro h
    exact ⟨h.ok, h.live, h.mach, h.fin, fun j hj => lackR_no.2 (h.reg j hj)⟩

/- joins -/
theorem joinFrom_facts (t u : St) : ∀ n, n ≤ 6 → ∀ b : St, (joinFrom t u n b).live = b.live ∧ ∀ j, j < 6 →
    (joinFrom t u n b).s.get j = (if 6 - n ≤ j then ((t.s.get j && u.s.get j) || b.s.get j) else b.s.get j) ∧
    (joinFrom t u n b).r.get j = (if 6 - n ≤ j ∧ (t.s.get j && u.s.get j) = true then (t.r.get j).join (u.r.get j) else b.r.get j)
  | 0, _, b => ⟨rfl, fun j hj => ⟨by rw [if_neg (by omega)]; rfl, by rw [if_neg (by omega)]; rfl⟩⟩
  | n + 1, hn, b => by
    obtain ⟨h1, h2⟩ := joinFrom_facts t u n (by omega) (joinR t u (5 - n) b)
    have hk : 5 - n < 6 := by omega
    have hb : (joinR t u (5 - n) b).live = b.live ∧ ∀ j, j < 6 → (joinR t u (5 - n) b).s.get j = (if 5 - n = j then ((t.s.get j && u.s.get j) || b.s.get j) else b.s.get j) ∧
        (joinR t u (5 - n) b).r.get j = (if 5 - n = j ∧ (t.s.get j && u.s.get j) = true then (t.r.get j).join (u.r.get j) else b.r.get j) := by
      unfold joinR
      cases hc : (t.s.get (5 - n) && u.s.get (5 - n)) with
      | true =>
        rw [if_pos rfl]
        refine ⟨rfl, fun j hj => ?_⟩
        rw [St.wth_s hk hj, St.wth_r hk hj]
        by_cases hjj : 5 - n = j
        · subst hjj; simp [hc]
        · simp [hjj]
      | false =>
        rw [if_neg (by decide)]
        refine ⟨rfl, fun j hj => ?_⟩
        by_cases hjj : 5 - n = j
        · subst hjj; simp [hc]
        · simp [hjj]
    refine ⟨h1.trans hb.1, fun j hj => ?_⟩
    obtain ⟨h3, h4⟩ := h2 j hj
    obtain ⟨h5, h6⟩ := hb.2 j hj
    show (joinFrom t u n (joinR t u (5 - n) b)).s.get j = _ ∧ (joinFrom t u n (joinR t u (5 - n) b)).r.get j = _
    rw [h3, h4, h5, h6]
    have pick : ∀ {p q r : Prop} [Decidable p] [Decidable q] [Decidable r] (x y : Bool) (v w : V4), (r ↔ (p ∨ q)) → ¬ (p ∧ q) → ((if p then (x || (if q then (x || y) else y)) else (if q then (x || y) else y)) = (if r then (x || y) else y)) ∧
        ((if p ∧ x = true then v else (if q ∧ x = true then v else w)) = (if r ∧ x = true then v else w)) := by
      intro p q r _ _ _ x y v w h1 h2
      by_cases hp : p
      · have hq : ¬ q := fun hq => h2 ⟨hp, hq⟩
        have hr : r := h1.2 (Or.inl hp)
        simp [hp, hq, hr]
      · by_cases hq : q
        · have hr : r := h1.2 (Or.inr hq)
          simp [hp, hq, hr]
        · have hr : ¬ r := fun hr => (h1.1 hr).elim hp hq
          simp [hp, hq, hr]
    exact pick _ _ _ _ (by omega) (by omega)
theorem St.join_live {t u : St} (ht : t.live = true) (hu : u.live = true) : (t.join u).live = true ∧ ∀ j, j < 6 →
    (t.join u).s.get j = (t.s.get j && u.s.get j) ∧ (t.join u).r.get j = (if (t.s.get j && u.s.get j) = true then (t.r.get j).join (u.r.get j) else V4.z) := by
  unfold St.join
  rw [if_pos ht, if_pos hu]
  obtain ⟨h1, h2⟩ := joinFrom_facts t u 6 (Nat.le_refl 6) St.e
  refine ⟨h1, fun j hj => ?_⟩
  obtain ⟨h3, h4⟩ := h2 j hj
  rw [h3, h4, if_pos (by omega), show St.e.s = no6 from rfl, show St.e.r = V6.rep V4.z from rfl, no6_get j hj, rep_get _ j hj, Bool.or_false]
  exact ⟨rfl, by simp⟩
theorem St.join_Ok {t u : St} (ht : t.Ok) (hu : u.Ok) : (t.join u).Ok := by
  by_cases h1 : t.live = true
  · by_cases h2 : u.live = true
    · obtain ⟨h3, h4⟩ := St.join_live h1 h2
      refine ⟨fun h => (by rw [h3] at h; cases h), fun j hj hs => ?_, fun j hj hs => ?_⟩
      · obtain ⟨h5, h6⟩ := h4 j hj
        rw [h5] at hs
        rw [h6, if_pos hs]
        rw [Bool.and_eq_true] at hs
        exact V4.join_ok (ht.set j hj hs.1) (hu.set j hj hs.2)
      · obtain ⟨h5, h6⟩ := h4 j hj
        rw [h5] at hs
        rw [h6, if_neg (by rw [hs]; decide)]
    · unfold St.join; rw [if_pos h1, if_neg h2]; exact ht
  · unfold St.join; rw [if_neg h1]; exact hu
theorem St.join_Has {t u : St} {m : Mach} (ht : t.Ok) (hu : u.Ok) (h : t.Has m ∨ u.Has m) : (t.join u).Has m := by
  by_cases h1 : t.live = true
  · by_cases h2 : u.live = true
    · obtain ⟨h3, h4⟩ := St.join_live h1 h2
      have key : ∀ j, j < 6 → (t.join u).s.get j = true → m.s.get j = true ∧ ((t.join u).r.get j).has (m.r.get j) = true := by
        intro j hj hs
        obtain ⟨h5, h6⟩ := h4 j hj
        rw [h5] at hs
        rw [h6, if_pos hs]
        rw [Bool.and_eq_true] at hs
        rcases h with h | h
        · exact ⟨(h.reg j hj hs.1).1, V4.join_has (ht.set j hj hs.1) (hu.set j hj hs.2) (Or.inl (h.reg j hj hs.1).2)⟩
        · exact ⟨(h.reg j hj hs.2).1, V4.join_has (ht.set j hj hs.1) (hu.set j hj hs.2) (Or.inr (h.reg j hj hs.2).2)⟩
      rcases h with h | h
      · exact ⟨St.join_Ok ht hu, h3, h.mach, h.fin, key⟩
      · exact ⟨St.join_Ok ht hu, h3, h.mach, h.fin, key⟩
    · have e : t.join u = t := by unfold St.join; rw [if_pos h1, if_neg h2]
      rw [e]
      exact h.resolve_right fun h => h2 h.live
  · have e : t.join u = u := by unfold St.join; rw [if_neg h1]
    rw [e]
    exact h.resolve_left fun h => h1 h.live
end Go.Proofs.Ytkigmocchaikgab

/- The contracts of flow's Check, Begin, Has and Join. -/
namespace Go.Proofs.Ytkigmocchaikgab
open Go.RowKit

/- registers, looked up -/
section
variable {j : Int}
theorem lt_six (h : regB j = true) : decide (j < 6) = true := decide_eq_true (regB_iff.1 h).2
theorem b_ok (u : V6 Bool) (h : regB j = true) : (AC.isB (Option.getD (bcs u)[Int.toNat j * 1]? (AC.b false)) && Nat.blt (Int.toNat j * 1) (List.length (bcs u)) && (decide (0 ≤ j) && decide (j < 6))) = true :=
  reg_elim (P := fun j => (AC.isB (Option.getD (bcs u)[Int.toNat j * 1]? (AC.b false)) && Nat.blt (Int.toNat j * 1) (List.length (bcs u)) && (decide (0 ≤ j) && decide (j < 6))) = true) h rfl rfl rfl rfl rfl rfl
theorem b_eff (u : V6 Bool) (h : regB j = true) : Eff.mk (AV.c (AC.b (AC.asB (Option.getD (bcs u)[Int.toNat j * 1]? (AC.b false))))) [] none = Eff.mk (AV.c (AC.b (V6.get u (Int.toNat j)))) [] none :=
  reg_elim (P := fun j => Eff.mk (AV.c (AC.b (AC.asB (Option.getD (bcs u)[Int.toNat j * 1]? (AC.b false))))) [] none = Eff.mk (AV.c (AC.b (V6.get u (Int.toNat j)))) [] none) h rfl rfl rfl rfl rfl rfl
theorem ss_ok (t : St) (h : regB j = true) : (AC.isB (Option.getD (St.cs t)[1 + Int.toNat j * 1]? (AC.b false)) && Nat.blt (1 + Int.toNat j * 1) (List.length (St.cs t))) = true :=
  reg_elim (P := fun j => (AC.isB (Option.getD (St.cs t)[1 + Int.toNat j * 1]? (AC.b false)) && Nat.blt (1 + Int.toNat j * 1) (List.length (St.cs t))) = true) h rfl rfl rfl rfl rfl rfl
theorem ss_eff (t : St) (h : regB j = true) : Eff.mk (AV.c (AC.b (AC.asB (Option.getD (St.cs t)[1 + Int.toNat j * 1]? (AC.b false))))) [] none = Eff.mk (AV.c (AC.b (V6.get (St.s t) (Int.toNat j)))) [] none :=
  reg_elim (P := fun j => Eff.mk (AV.c (AC.b (AC.asB (Option.getD (St.cs t)[1 + Int.toNat j * 1]? (AC.b false))))) [] none = Eff.mk (AV.c (AC.b (V6.get (St.s t) (Int.toNat j)))) [] none) h rfl rfl rfl rfl rfl rfl
theorem sr_ok (t : St) (h : regB j = true) : Nat.ble (7 + Int.toNat j * 4 + 4) (List.length (St.cs t)) = true :=
  reg_elim (P := fun j => Nat.ble (7 + Int.toNat j * 4 + 4) (List.length (St.cs t)) = true) h rfl rfl rfl rfl rfl rfl
theorem sr_eff (t : St) (h : regB j = true) : Eff.mk (AV.ag (List.take 4 (List.drop (7 + Int.toNat j * 4) (St.cs t)))) [] none = Eff.mk (AV.ag (V4.cs (V6.get (St.r t) (Int.toNat j)))) [] none := by rw [st_get_r h]
end
/- the round that has n behind it -/
theorem rnd_reg {n : Nat} (hn : n + 1 ≤ 6) : regB ((6 - (n + 1) : Nat) : Int) = true := by rw [regB_iff]; omega
theorem rnd_nat {n : Nat} (hn : n + 1 ≤ 6) : ((6 - (n + 1) : Nat) : Int).toNat = 5 - n := by omega
theorem rnd_next {n : Nat} (hn : n + 1 ≤ 6) : IntKind.wrap IntKind.i64 (((6 - (n + 1) : Nat) : Int) + 1) = ((6 - n : Nat) : Int) := by rw [wrapN (by omega) (by omega)]; omega
theorem er_ne (b : Bool) : (er b != 0) = !b := by cases b <;> rfl
theorem fwith_ok {t : St} {d : Int} (a : V4) (h : regB d = true) : Ok 35 [.ag t.cs, .c (.i d), .ag a.cs] (.ag (t.wth d.toNat a).cs) := by
  have h1 := regB_iff.1 h
  have h2 := reg_nat h
  refine fwith_w0 ?_ ?_ ?_
  · simp [h1.1, h1.2, st_len, V4.cs]; omega
  · rw [st_set_s h]
  · rw [st_set_r a h]; rfl
theorem fbegin_ok : Ok 18 [] (.ag beginS.cs) := fbegin_w0 (a := V4.any) (t := beginS) valAny_ok (fwith_ok (t := St.e) (d := 1) V4.any rfl)

abbrev fcKn (t : St) (j : Int) : Kn := ⟨[(1, .c (.w 0)), (14, .ag (bcs t.s)), (15, .c (.i j))], [(0, ⟨true, t.cs, 0⟩)], 1⟩
theorem fcLoop {t : St} {w : World} {β : Bs} {E : Eff} : ∀ n, n ≤ 6 → (anyFrom (badR t) n = true → ⟨.c (.i 1), [], none⟩ = E) → (anyFrom (badR t) n = false → ⟨.c (.i 0), [], none⟩ = E) →
    ART Try.prog 17 (cx w β 0 []) Try.f17.ntmps (cutAt Try.f17 0) (fcKn t (6 - n : Nat)) (REff w β E)
  | 0, _, _, hz => art_eq fcEnd_w0 (hz rfl)
  | n + 1, hn, hy, hz => by
    have hj := rnd_reg hn
    have ej := rnd_nat hn
    have f0 := lt_six hj
    have f1 := b_ok t.s hj
    have f2 : (decide (0 ≤ ((6 - (n + 1) : Nat) : Int)) && decide (((6 - (n + 1) : Nat) : Int) < 6)) = true := hj
    have f3 := sr_ok t hj
    have f4 := b_eff t.s hj
    have f5 := sr_eff t hj
    have yes : badR t (5 - n) = true → (⟨.c (.i 1), [], none⟩ : Eff) = E := fun h => hy (by rw [anyFrom, h]; rfl)
    have next : badR t (5 - n) = false → ART Try.prog 17 (cx w β 0 []) Try.f17.ntmps (cutAt Try.f17 0) (fcKn t (IntKind.wrap IntKind.i64 (((6 - (n + 1) : Nat) : Int) + 1))) (REff w β E) := by
      intro hb
      rw [rnd_next hn]
      refine fcLoop n (by omega) (fun h => hy ?_) (fun h => hz ?_)
      · rw [anyFrom, hb, h]; rfl
      · rw [anyFrom, hb, h]; rfl
    refine fcRound_all (by omega) (fun a b => ⟨f0, f1, f2, f3, f4, f5, valCheck_ok _, yes ?_⟩) (fun a b => ⟨f0, f1, f2, f3, ?_, f4, f5, valCheck_ok _, low_of rfl, next ?_⟩) (fun a b => ⟨f0, f1, f2, f3, f4, f5, yes ?_⟩) (fun a b => ⟨f0, f1, f2, f3, f4, f5, low_of rfl, next ?_⟩)
    · rw [ej] at a b
      rw [er_ne] at b
      unfold badR; rw [a, b]; rfl
    · rw [a]; rfl
    · rw [ej] at a b
      rw [er_ne] at b
      unfold badR; rw [a, b]; rfl
    · rw [ej] at a b
      unfold badR; rw [a]; exact b
    · rw [ej] at a b
      unfold badR; rw [a]; exact b
theorem fcheck_ok (t : St) : Ok 17 [.ag t.cs] (.c (.i (er t.ok))) := by
  refine val_of Try.func17 rfl rfl rfl rfl fun w β => ?_
  have main : (t.live || eqCs t.cs St.z.cs) = true → ART Try.prog 17 (cx w β 0 []) Try.f17.ntmps (cutAt Try.f17 0) (fcKn t 0) (REff w β ⟨.c (.i (er t.ok)), [], none⟩) := by
    intro h
    refine fcLoop 6 (Nat.le_refl 6) (fun k => ?_) (fun k => ?_)
    · unfold St.ok; rw [h, k]; rfl
    · unfold St.ok; rw [h, k]; rfl
  refine fcTop_all (Nat.zero_le 1) (fun a b => ?_) (fun a b => ⟨low_of rfl, main ?_⟩) (fun a => ⟨low_of rfl, main ?_⟩)
  · have b : (!eqCs t.cs St.z.cs) = true := b
    have h : (t.live || eqCs t.cs St.z.cs) = false := by
      revert a b
      cases t.live <;> cases eqCs t.cs St.z.cs <;> decide
    unfold St.ok; rw [h]; rfl
  · have b : (!eqCs t.cs St.z.cs) = false := b
    rw [yes_not b]; cases t.live <;> rfl
  · rw [yes_not a]; rfl

abbrev fjKn (t u b : St) (j : Int) : Kn := ⟨[(2, .c (.w 0)), (3, .c (.w 1)), (4, .c (.w 2)), (6, .c (.w 19)), (28, .c (.i j))], [(0, ⟨true, t.cs, 0⟩), (1, ⟨true, u.cs, 0⟩), (2, ⟨true, St.z.cs, 0⟩), (19, ⟨true, b.cs, 0⟩)], 20⟩
theorem fjLoop {t u : St} (ht : t.Ok) (hu : u.Ok) {w : World} {β : Bs} : ∀ n, n ≤ 6 → ∀ b : St,
    ART Try.prog 13 (cx w β 0 []) Try.f13.ntmps (cutAt Try.f13 0) (fjKn t u b (6 - n : Nat)) (REff w β ⟨.tu [.ag (joinFrom t u n b).cs, .c (.i 0)], [], none⟩)
  | 0, _, b => fjEnd_w0
  | n + 1, hn, b => by
    have hj := rnd_reg hn
    have ej := rnd_nat hn
    have hlt : 5 - n < 6 := by omega
    have f0 := lt_six hj
    have f1 := ss_ok t hj
    have f2 : (decide (0 ≤ ((6 - (n + 1) : Nat) : Int)) && decide (((6 - (n + 1) : Nat) : Int) < 6)) = true := hj
    have f3 := ss_ok u hj
    have f4 := sr_ok t hj
    have f5 := sr_ok u hj
    have f6 := ss_eff t hj
    have f7 := ss_eff u hj
    have f8 := sr_eff t hj
    have f9 := sr_eff u hj
    have next : ∀ b' : St, joinR t u (5 - n) b = b' → ART Try.prog 13 (cx w β 0 []) Try.f13.ntmps (cutAt Try.f13 0) (fjKn t u b' (IntKind.wrap IntKind.i64 (((6 - (n + 1) : Nat) : Int) + 1))) (REff w β ⟨.tu [.ag (joinFrom t u (n + 1) b).cs, .c (.i 0)], [], none⟩) := by
      intro b' hb
      rw [rnd_next hn, joinFrom, hb]
      exact fjLoop ht hu n (by omega) b'
    have hJ : t.s.get ((6 - (n + 1) : Nat) : Int).toNat = true → u.s.get ((6 - (n + 1) : Nat) : Int).toNat = true → Ok 34 [.ag (t.r.get ((6 - (n + 1) : Nat) : Int).toNat).cs, .ag (u.r.get ((6 - (n + 1) : Nat) : Int).toNat).cs] (.tu [.ag ((t.r.get ((6 - (n + 1) : Nat) : Int).toNat).join (u.r.get ((6 - (n + 1) : Nat) : Int).toNat)).cs, .c (.i 0)]) := fun a d => by
      rw [ej] at a d ⊢
      exact valJoin_ok (ht.set _ hlt a) (hu.set _ hlt d)
    refine fjRound_all (a := (t.r.get ((6 - (n + 1) : Nat) : Int).toNat).join (u.r.get ((6 - (n + 1) : Nat) : Int).toNat)) (b2 := b.wth ((6 - (n + 1) : Nat) : Int).toNat ((t.r.get ((6 - (n + 1) : Nat) : Int).toNat).join (u.r.get ((6 - (n + 1) : Nat) : Int).toNat))) (by omega)
      (fun a d => ⟨f0, f2, f1, f2, f3, f2, f4, f2, f5, f6, f7, f8, f9, hJ a d, fwith_ok _ hj, low_of rfl, next _ ?_⟩) (fun a d => ⟨f0, f2, f1, f2, f3, f6, f7, low_of rfl, next _ ?_⟩) (fun a => ⟨f0, f2, f1, f6, low_of rfl, next _ ?_⟩)
    · rw [ej] at a d ⊢
      unfold joinR; rw [a, d]; rfl
    · rw [ej] at a d
      unfold joinR; rw [a, d]; rfl
    · rw [ej] at a
      unfold joinR; rw [a]; rfl
def joinE (t u : St) : Int := if t.ok && u.ok then 0 else 1
def joinA (t u : St) : St := if t.ok && u.ok then t.join u else St.z
theorem fjoin_ok (t u : St) : Ok 13 [.ag t.cs, .ag u.cs] (.tu [.ag (joinA t u).cs, .c (.i (joinE t u))]) := by
  refine val_of Try.func13 rfl rfl rfl rfl fun w β => ?_
  have bad : (t.ok && u.ok) = false → (⟨.tu [.ag St.z.cs, .c (.i 1)], [], none⟩ : Eff) = ⟨.tu [.ag (joinA t u).cs, .c (.i (joinE t u))], [], none⟩ := fun h => by unfold joinA joinE; rw [h]; rfl
  refine fjTop_all (e := er t.ok) (f := er u.ok) (Nat.zero_le 20) (fun a => ⟨fcheck_ok t, bad ?_⟩) (fun a b => ⟨fcheck_ok t, fcheck_ok u, bad ?_⟩) (fun a b d => ⟨fcheck_ok t, fcheck_ok u, ?_⟩) (fun a b d e => ⟨fcheck_ok t, fcheck_ok u, ?_⟩) (fun a b d e => ⟨fcheck_ok t, fcheck_ok u, low_of rfl, ?_⟩)
  · rw [er_ne] at a
    rw [show t.ok = false by simpa using a]; rfl
  · rw [er_ne] at b
    rw [show u.ok = false by simpa using b]; cases t.ok <;> rfl
  all_goals
    rw [er_ne] at a b
    have a : t.ok = true := by simpa using a
    have b : u.ok = true := by simpa using b
    have hA : joinA t u = t.join u := by unfold joinA; rw [a, b]; rfl
    have hE : joinE t u = 0 := by unfold joinE; rw [a, b]; rfl
    rw [hA, hE]
    unfold St.join
  · rw [if_neg (by simpa using d)]
  · rw [if_pos (by simpa using d), if_neg (by simpa using e)]
  · rw [if_pos (by simpa using d), if_pos (by simpa using e)]
    exact fjLoop (St.ok_iff.1 a) (St.ok_iff.1 b) 6 (Nat.le_refl 6) St.e
end Go.Proofs.Ytkigmocchaikgab

/- A step on what may be: it is right, and no step of a machine that is had is left out: plain facts. -/
namespace Go.Proofs.Ytkigmocchaikgab

theorem fine_right {i : Ins} : fineI i = true ↔ Right i 65 := by
  unfold fineI
  rw [Bool.and_eq_true, Bool.and_eq_true]
  exact ⟨fun ⟨a, b, c⟩ => ⟨a, b, c⟩, fun h => ⟨h.kind, h.fits, h.bare⟩⟩
theorem goesB_mono {o n n' : Int} (h : n ≤ n') (hg : goesB o n = true) : goesB o n' = true := by
  simp only [goesB, Bool.and_eq_true, decide_eq_true_eq] at hg ⊢
  omega
theorem Right.mono {i : Ins} {n n' : Int} (h : n ≤ n') (hr : Right i n) : Right i n' := by
  refine ⟨hr.kind, ?_, hr.bare⟩
  have := hr.fits
  unfold inB at this ⊢
  by_cases c1 : i.op = 10 ∨ i.op = 11
  · rw [if_pos c1] at this ⊢; exact this
  rw [if_neg c1] at this ⊢
  by_cases c2 : i.op = 12
  · rw [if_pos c2] at this ⊢; exact goesB_mono h this
  rw [if_neg c2] at this ⊢
  by_cases c3 : i.op = 13 ∨ i.op = 14
  · rw [if_pos c3] at this ⊢
    rw [Bool.and_eq_true] at this ⊢
    exact ⟨this.1, goesB_mono h this.2⟩
  rw [if_neg c3] at this ⊢
  exact this
theorem lacks_no {u s : V6 Bool} (h : lacks u s = false) : ∀ j, j < 6 → u.get j = true → s.get j = true := by
  rw [lacks_from, anyFrom_no] at h
  intro j hj hu
  have := h j hj
  rw [hu] at this
  simpa using this
theorem lacks_of {u s : V6 Bool} (h : ∀ j, j < 6 → u.get j = true → s.get j = true) : lacks u s = false := by
  rw [lacks_from, anyFrom_no]
  intro j hj
  cases hu : u.get j with
  | false => rfl
  | true => rw [h j hj hu]; rfl
theorem set_get {v : V6 Bool} {k j : Nat} (hk : k < 6) (hj : j < 6) : (v.set k true).get j = if k = j then true else v.get j := V6.get_set _ _ _ _ hk hj
theorem use_s {i : Ins} (h1 : i.op ≠ 12) (h2 : i.op ≠ 15) (hs : regB i.s = true) : (useOf i).get i.s.toNat = true := by
  have h3 := regB_iff.1 hs
  have h4 := reg_nat hs
  unfold useOf
  rw [if_neg h1, if_neg h2, if_neg (by omega), set_get h4 h4, if_pos rfl]
theorem use_d {i : Ins} (h1 : i.op ≠ 12) (h2 : i.op ≠ 15) (h3 : i.op ≠ 1) (h4 : i.op ≠ 10) (hd : regB i.d = true) (hs : srcB i.s = true) : (useOf i).get i.d.toNat = true := by
  have h5 := reg_nat hd
  unfold useOf
  rw [if_neg h1, if_neg h2, if_neg (by omega : ¬ (i.op = 1 ∨ i.op = 10))]
  by_cases c : i.s = -1
  · rw [if_pos c, set_get h5 h5, if_pos rfl]
  · rw [if_neg c]
    have h6 := reg_nat ((srcB_iff.1 hs).resolve_left c)
    rw [set_get h6 h5, set_get h5 h5, if_pos rfl]
    split <;> rfl
theorem srcV_ok {i : Ins} {n : Int} {t : St} (hr : Right i n) (ht : t.Ok) (hu : lacks (useOf i) t.s = false) (h1 : i.op ≠ 12) (h2 : i.op ≠ 15) : (srcV i t).ok = true := by
  have hg := right_regs hr
  unfold srcV
  by_cases c : i.s = -1
  · rw [if_pos c]; exact V4.of_ok _
  · rw [if_neg c]
    have hs := (srcB_iff.1 hg.2).resolve_left c
    exact ht.set _ (reg_nat hs) (lacks_no hu _ (reg_nat hs) (use_s h1 h2 hs))
theorem dstV_ok {i : Ins} {n : Int} {t : St} (hr : Right i n) (ht : t.Ok) (hu : lacks (useOf i) t.s = false) (h1 : i.op ≠ 12) (h2 : i.op ≠ 15) (h3 : i.op ≠ 1) (h4 : i.op ≠ 10) : (t.r.get i.d.toNat).ok = true := by
  have hg := right_regs hr
  exact ht.set _ (reg_nat hg.1) (lacks_no hu _ (reg_nat hg.1) (use_d h1 h2 h3 h4 hg.1 hg.2))
theorem trap_zero {i : Ins} {t : St} (h : trapS i t = 0) : lacks (useOf i) t.s = false ∧ (i.op = 10 → farS i (t.r.get i.s.toNat) = false) ∧ (i.op = 11 → farS i (t.r.get i.d.toNat) = false) := by
  unfold trapS at h
  by_cases c0 : lacks (useOf i) t.s = true
  · rw [if_pos c0] at h; exact absurd h (by decide)
  rw [if_neg c0] at h
  refine ⟨by simpa using c0, fun h1 => ?_, fun h1 => ?_⟩
  · rw [if_pos h1] at h
    cases hf : farS i (t.r.get i.s.toNat) with
    | false => rfl
    | true => rw [hf] at h; exact absurd h (by decide)
  · rw [if_neg (by omega), if_pos h1] at h
    cases hf : farS i (t.r.get i.d.toNat) with
    | false => rfl
    | true => rw [hf] at h; exact absurd h (by decide)
/- a step, kind by kind -/
theorem ops_of {i : Ins} {n : Int} (h : Right i n) : i.op = 10 ∨ i.op = 11 ∨ i.op = 12 ∨ i.op = 13 ∨ i.op = 14 ∨ i.op = 15 ∨ i.op = 1 ∨ (2 ≤ i.op ∧ i.op ≤ 9) := by
  have := kind_iff.1 h.kind
  omega
section
variable {i : Ins} {t : St} {m : Mach}
theorem goS_load (h : i.op = 10) : goS i t = (t.wth i.d.toNat (V4.bytes (nv i.im)), St.z) := by unfold goS; rw [if_pos h]
theorem goS_store (h : i.op = 11) : goS i t = (t, St.z) := by unfold goS; rw [if_neg (by omega), if_pos h]
theorem goS_jump (h : i.op = 12) : goS i t = (St.z, t) := by unfold goS; rw [if_neg (by omega), if_neg (by omega), if_pos h]
theorem goS_eq (h : i.op = 13) : goS i t = (leftS i t ((t.r.get i.d.toNat).other (srcV i t)), leftS i t ((t.r.get i.d.toNat).equal (srcV i t))) := by
  unfold goS; rw [if_neg (by omega), if_neg (by omega), if_neg (by omega), if_pos h]
theorem goS_lt (h : i.op = 14) : goS i t = (leftS i t ((t.r.get i.d.toNat).notLess (srcV i t)), leftS i t ((t.r.get i.d.toNat).less (srcV i t))) := by
  unfold goS; rw [if_neg (by omega), if_neg (by omega), if_neg (by omega), if_neg (by omega), if_pos h]
theorem goS_exit (h : i.op = 15) : goS i t = (St.z, St.z) := by
  unfold goS; rw [if_neg (by omega), if_neg (by omega), if_neg (by omega), if_neg (by omega), if_neg (by omega), if_pos h]
theorem goS_mov (h : i.op = 1) : goS i t = (t.wth i.d.toNat (srcV i t), St.z) := by
  unfold goS; rw [if_neg (by omega), if_neg (by omega), if_neg (by omega), if_neg (by omega), if_neg (by omega), if_neg (by omega), if_pos h]
theorem goS_two (h : 2 ≤ i.op ∧ i.op ≤ 9) : goS i t = (t.wth i.d.toNat (V4.two i.op (t.r.get i.d.toNat) (srcV i t)), St.z) := by
  unfold goS; rw [if_neg (by omega), if_neg (by omega), if_neg (by omega), if_neg (by omega), if_neg (by omega), if_neg (by omega), if_neg (by omega)]
theorem stepM_lacks (h : lacks (useOf i) m.s = true) : stepM i m = m.fine 1 := by unfold stepM; rw [if_pos h]
theorem stepM_reach (hu : lacks (useOf i) m.s = false) (h : i.op = 10 ∨ i.op = 11) : stepM i m = reachM i m := by unfold stepM; rw [if_neg (by rw [hu]; decide), if_pos h]
theorem reachM_far (h : farB i m = true) : reachM i m = m.fine 2 := by unfold reachM; rw [if_pos h]
theorem reachM_load (hf : farB i m = false) (h : i.op = 10) : reachM i m = (m.wth i.d.toNat (loadL (memL m.mem (fromN i m).toNat i.im.toNat))).on 0 := by
  unfold reachM; rw [if_neg (by rw [hf]; decide), if_pos h]
theorem reachM_store (hf : farB i m = false) (h : i.op = 11) : reachM i m = Mach.on ⟨m.t, m.r, m.s, putMem m.mem (fromN i m).toNat i.im.toNat (m.r.get i.s.toNat), m.fin⟩ 0 := by
  unfold reachM; rw [if_neg (by rw [hf]; decide), if_neg (by omega)]
theorem stepM_jump (hu : lacks (useOf i) m.s = false) (h : i.op = 12) : stepM i m = m.on i.of := by
  unfold stepM; rw [if_neg (by rw [hu]; decide), if_neg (by omega), if_pos h]
theorem stepM_eq (hu : lacks (useOf i) m.s = false) (h : i.op = 13) : stepM i m = m.on (if eqb (m.r.get i.d.toNat) (srcN i m) then i.of else 0) := by
  unfold stepM; rw [if_neg (by rw [hu]; decide), if_neg (by omega), if_neg (by omega), if_pos h]
theorem stepM_lt (hu : lacks (useOf i) m.s = false) (h : i.op = 14) : stepM i m = m.on (if nv (m.r.get i.d.toNat) < nv (srcN i m) then i.of else 0) := by
  unfold stepM; rw [if_neg (by rw [hu]; decide), if_neg (by omega), if_neg (by omega), if_neg (by omega), if_pos h]
theorem stepM_exit (hu : lacks (useOf i) m.s = false) (h : i.op = 15) : stepM i m = m.fine 3 := by
  unfold stepM; rw [if_neg (by rw [hu]; decide), if_neg (by omega), if_neg (by omega), if_neg (by omega), if_neg (by omega), if_pos h]
theorem stepM_two (hu : lacks (useOf i) m.s = false) (h : 1 ≤ i.op ∧ i.op ≤ 9) : stepM i m = (m.wth i.d.toNat (numN i.op (m.r.get i.d.toNat) (srcN i m))).on 0 := by
  unfold stepM; rw [if_neg (by rw [hu]; decide), if_neg (by omega), if_neg (by omega), if_neg (by omega), if_neg (by omega), if_neg (by omega)]
theorem numN_mov (h : i.op = 1) (x y : BitVec 64) : numN i.op x y = y := by unfold numN; rw [if_pos h]
end
theorem leftS_Ok {i : Ins} {n : Int} {t : St} {x : V4 × V4 × Bool} (hr : Right i n) (ht : t.Ok) (hl : t.live = true) (hx : x.2.2 = true → x.1.ok = true ∧ x.2.1.ok = true) : (leftS i t x).Ok := by
  have hg := right_regs hr
  unfold leftS
  by_cases c : x.2.2 = true
  · rw [if_pos c]
    have h1 := St.wth_Ok (reg_nat hg.1) hl (hx c).1 ht
    by_cases cs : i.s = -1
    · rw [if_pos cs]; exact h1
    · rw [if_neg cs]
      have hs := (srcB_iff.1 hg.2).resolve_left cs
      exact St.wth_Ok (reg_nat hs) hl (hx c).2 h1
  · rw [if_neg c]; exact St.z_Ok
theorem goS_Ok {i : Ins} {n : Int} {t : St} (hr : Right i n) (ht : t.Ok) (hl : t.live = true) (h0 : trapS i t = 0) : (goS i t).1.Ok ∧ (goS i t).2.Ok := by
  have hd := reg_nat (right_regs hr).1
  obtain ⟨hu, h10, h11⟩ := trap_zero h0
  rcases ops_of hr with c | c | c | c | c | c | c | c
  · rw [goS_load c]; exact ⟨St.wth_Ok hd hl (V4.bytes_ok _) ht, St.z_Ok⟩
  · rw [goS_store c]; exact ⟨ht, St.z_Ok⟩
  · rw [goS_jump c]; exact ⟨St.z_Ok, ht⟩
  · have hs := srcV_ok hr ht hu (by omega) (by omega)
    have hdv := dstV_ok hr ht hu (by omega) (by omega) (by omega) (by omega)
    rw [goS_eq c]; exact ⟨leftS_Ok hr ht hl (V4.other_ok hdv hs), leftS_Ok hr ht hl (V4.equal_ok hdv hs)⟩
  · have hs := srcV_ok hr ht hu (by omega) (by omega)
    have hdv := dstV_ok hr ht hu (by omega) (by omega) (by omega) (by omega)
    rw [goS_lt c]; exact ⟨leftS_Ok hr ht hl (V4.notLess_ok hdv hs), leftS_Ok hr ht hl (V4.less_ok hdv hs)⟩
  · rw [goS_exit c]; exact ⟨St.z_Ok, St.z_Ok⟩
  · rw [goS_mov c]; exact ⟨St.wth_Ok hd hl (srcV_ok hr ht hu (by omega) (by omega)) ht, St.z_Ok⟩
  · have hs := srcV_ok hr ht hu (by omega) (by omega)
    have hdv := dstV_ok hr ht hu (by omega) (by omega) (by omega) (by omega)
    rw [goS_two c]; exact ⟨St.wth_Ok hd hl (V4.two_ok (by omega) hdv hs) ht, St.z_Ok⟩
theorem stepS_Ok {i : Ins} {n : Int} {t : St} (hr : Right i n) (ht : t.Ok) : (stepS i t).1.Ok ∧ (stepS i t).2.1.Ok := by
  unfold stepS
  by_cases hl : t.live = true
  · rw [if_pos hl]
    by_cases h0 : trapS i t = 0
    · rw [if_pos h0]; exact goS_Ok hr ht hl h0
    · rw [if_neg h0]; exact ⟨St.z_Ok, St.z_Ok⟩
  · rw [if_neg hl]; exact ⟨St.z_Ok, St.z_Ok⟩

/- machines that are had -/
theorem has_srcV {i : Ins} {n : Int} {t : St} {m : Mach} (hr : Right i n) (h : t.Has m) (hu : lacks (useOf i) t.s = false) (h1 : i.op ≠ 12) (h2 : i.op ≠ 15) : (srcV i t).has (srcN i m) = true := by
  have hg := right_regs hr
  unfold srcV srcN
  by_cases c : i.s = -1
  · rw [if_pos c, if_pos c]; exact V4.of_has.2 rfl
  · rw [if_neg c, if_neg c]
    have hs := (srcB_iff.1 hg.2).resolve_left c
    exact (h.reg _ (reg_nat hs) (lacks_no hu _ (reg_nat hs) (use_s h1 h2 hs))).2
theorem has_dstV {i : Ins} {n : Int} {t : St} {m : Mach} (hr : Right i n) (h : t.Has m) (hu : lacks (useOf i) t.s = false) (h1 : i.op ≠ 12) (h2 : i.op ≠ 15) (h3 : i.op ≠ 1) (h4 : i.op ≠ 10) : (t.r.get i.d.toNat).has (m.r.get i.d.toNat) = true := by
  have hg := right_regs hr
  exact (h.reg _ (reg_nat hg.1) (lacks_no hu _ (reg_nat hg.1) (use_d h1 h2 h3 h4 hg.1 hg.2))).2
theorem has_lacks {u : V6 Bool} {t : St} {m : Mach} (h : t.Has m) (hu : lacks u t.s = false) : lacks u m.s = false :=
  lacks_of fun j hj hj' => (h.reg j hj (lacks_no hu j hj hj')).1
theorem far_sound {i : Ins} {a : V4} {x : BitVec 64} (ha : a.has x = true) (h : farS i a = false) : ¬ nv (bsub 64#64 i.im) < nv (badd x (BitVec.ofInt 64 i.of)) := by
  have h1 := V4.two_has (op := 2) (by decide) ha (V4.of_has.2 (Eq.refl (BitVec.ofInt 64 i.of)))
  have e : numN 2 x (BitVec.ofInt 64 i.of) = badd x (BitVec.ofInt 64 i.of) := by
    unfold numN
    rw [if_neg (by decide), if_pos (by decide)]
    unfold numB
    rw [if_pos rfl]
  rw [e] at h1
  have h2 := (V4.has_iff.1 h1).2.2.2
  have h3 : ¬ nv (bsub 64#64 i.im) < nv (V4.two 2 a (V4.of (BitVec.ofInt 64 i.of))).h := by
    unfold farS at h
    simpa using h
  omega
theorem farB_no {i : Ins} {n : Int} {t : St} {m : Mach} (hr : Right i n) (h : t.Has m) (h0 : trapS i t = 0) (ho : i.op = 10 ∨ i.op = 11) : farB i m = false := by
  obtain ⟨hu, h10, h11⟩ := trap_zero h0
  obtain ⟨hd, hs, _⟩ := fits_reach hr ho
  unfold farB fromN
  rw [decide_eq_false_iff_not]
  rcases ho with ho | ho
  · rw [if_neg (by omega)]
    exact far_sound (h.reg _ (reg_nat hs) (lacks_no hu _ (reg_nat hs) (use_s (by omega) (by omega) hs))).2 (h10 ho)
  · rw [if_pos ho]
    exact far_sound (has_dstV hr h hu (by omega) (by omega) (by omega) (by omega)) (h11 ho)
theorem loadL_lt : ∀ l : List (BitVec 8), l.length ≤ 8 → (loadL l).toNat < 2 ^ (8 * l.length)
  | [], _ => by simp [loadL]
  | b :: l, h => by
    have ih := loadL_lt l (by simp at h; omega)
    simp only [loadL, bor, bshl, BitVec.toNat_or, BitVec.toNat_shiftLeft, BitVec.toNat_setWidth, List.length_cons]
    have hb := b.isLt
    apply Nat.or_lt_two_pow
    · refine Nat.lt_of_le_of_lt (Nat.mod_le _ _) ?_
      rw [Nat.shiftLeft_eq, show 8 * (l.length + 1) = 8 * l.length + 8 by omega, Nat.pow_add]
      exact Nat.mul_lt_mul_of_pos_right ih (by decide)
    · refine Nat.lt_of_le_of_lt (Nat.mod_le _ _) ?_
      exact Nat.lt_of_lt_of_le hb (Nat.pow_le_pow_right (by decide) (by omega))
theorem load_has {x : BitVec 64} (hs : sizeB x = true) (s : ByteArray) (a : Nat) : (V4.bytes (nv x)).has (loadL (memL s a x.toNat)) = true := by
  apply V4.bytes_has
  refine size_elim (P := fun x => nv (loadL (memL s a x.toNat)) ≤ nv (byteTop (nv x))) hs ?_ ?_ ?_ ?_
  · have := loadL_lt (memL s a 1) (by rw [memL_length]; decide)
    rw [memL_length] at this
    show nv (loadL (memL s a 1)) ≤ 255
    unfold nv
    omega
  · have := loadL_lt (memL s a 2) (by rw [memL_length]; decide)
    rw [memL_length] at this
    show nv (loadL (memL s a 2)) ≤ 65535
    unfold nv
    omega
  · have := loadL_lt (memL s a 4) (by rw [memL_length]; decide)
    rw [memL_length] at this
    show nv (loadL (memL s a 4)) ≤ 4294967295
    unfold nv
    omega
  · exact (ends _).2
/- a machine with a number put where the state has it -/
theorem Has_wth {t : St} {m m' : Mach} {d : Nat} {a : V4} {x : BitVec 64} (hd : d < 6) (h : t.Has m) (hx : a.has x = true) (hm : machErr m' = 0) (hf : m'.fin = 0) (hs : m'.s = m.s.set d true) (hr : m'.r = m.r.set d x) : (t.wth d a).Has m' := by
  refine ⟨St.wth_Ok hd h.live (V4.has_ok hx) h.ok, h.live, hm, hf, fun j hj hsj => ?_⟩
  rw [St.wth_s hd hj] at hsj
  rw [St.wth_r hd hj, hs, hr, V6.get_set _ _ _ _ hd hj, V6.get_set _ _ _ _ hd hj]
  by_cases c : d = j
  · rw [if_pos c, if_pos c, if_pos c]; exact ⟨rfl, hx⟩
  · rw [if_neg c] at hsj
    rw [if_neg c, if_neg c, if_neg c]; exact h.reg j hj hsj
/- what is known better of a register -/
theorem Has_know {t : St} {m m' : Mach} {d : Nat} {a : V4} (hd : d < 6) (h : t.Has m) (hset : m.s.get d = true) (hx : a.has (m.r.get d) = true) (hm : machErr m' = 0) (hf : m'.fin = 0) (hs : m'.s = m.s) (hr : m'.r = m.r) : (t.wth d a).Has m' := by
  refine ⟨St.wth_Ok hd h.live (V4.has_ok hx) h.ok, h.live, hm, hf, fun j hj hsj => ?_⟩
  rw [St.wth_s hd hj] at hsj
  rw [St.wth_r hd hj, hs, hr]
  by_cases c : d = j
  · subst c; rw [if_pos rfl]; exact ⟨hset, hx⟩
  · rw [if_neg c] at hsj
    rw [if_neg c]; exact h.reg j hj hsj
theorem Has_same {t : St} {m m' : Mach} (h : t.Has m) (hm : machErr m' = 0) (hf : m'.fin = 0) (hs : m'.s = m.s) (hr : m'.r = m.r) : t.Has m' :=
  ⟨h.ok, h.live, hm, hf, fun j hj => by rw [hs, hr]; exact h.reg j hj⟩
theorem Has_left {i : Ins} {n : Int} {t : St} {m m' : Mach} {x : V4 × V4 × Bool} (hr : Right i n) (h : t.Has m) (hu : lacks (useOf i) t.s = false) (ho : i.op = 13 ∨ i.op = 14) (hx : x.2.2 = true ∧ x.1.has (m.r.get i.d.toNat) = true ∧ x.2.1.has (srcN i m) = true)
    (hm : machErr m' = 0) (hf : m'.fin = 0) (hs : m'.s = m.s) (hr' : m'.r = m.r) : (leftS i t x).Has m' := by
  have hg := right_regs hr
  have hd := reg_nat hg.1
  have hds := (h.reg _ hd (lacks_no hu _ hd (use_d (by omega) (by omega) (by omega) (by omega) hg.1 hg.2))).1
  unfold leftS
  rw [if_pos hx.1]
  have h1 := Has_know hd h hds hx.2.1 h.mach h.fin rfl rfl
  by_cases cs : i.s = -1
  · rw [if_pos cs]; exact Has_same h1 hm hf hs hr'
  · rw [if_neg cs]
    have hsr := (srcB_iff.1 hg.2).resolve_left cs
    have h2 : x.2.1.has (m.r.get i.s.toNat) = true := by
      have := hx.2.2
      unfold srcN at this
      rwa [if_neg cs] at this
    exact Has_know (reg_nat hsr) h1 (h.reg _ (reg_nat hsr) (lacks_no hu _ (reg_nat hsr) (use_s (by omega) (by omega) hsr))).1 h2 hm hf hs hr'
/- a step that doesn't trap here, of a machine that is had: it doesn't trap there; it stops, or where it comes to, it is had -/
theorem stepS_sound {i : Ins} {n : Int} {t : St} {m : Mach} (hr : Right i n) (h : t.Has m) (h0 : trapS i t = 0) :
    ((stepM i m).fin = 3 ∧ i.op = 15) ∨ ((stepM i m).fin = 0 ∧ (machErr (stepM i m) = 0 → ((stepM i m).t = m.t + 1 ∧ (goS i t).1.Has (stepM i m)) ∨ ((i.op = 12 ∨ i.op = 13 ∨ i.op = 14) ∧ (stepM i m).t = m.t + 1 + i.of ∧ (goS i t).2.Has (stepM i m)))) := by
  have hd := reg_nat (right_regs hr).1
  obtain ⟨hu, h10, h11⟩ := trap_zero h0
  have hlm := has_lacks h hu
  have hfin := h.fin
  have t1 : ∀ m' : Mach, m'.t = m.t → (m'.on 0).t = m.t + 1 := fun m' e => by show m'.t + 1 + 0 = _; rw [e]; omega
  rcases ops_of hr with c | c | c | c | c | c | c | c
  · have hf := farB_no hr h h0 (Or.inl c)
    obtain ⟨_, _, hz, _⟩ := fits_reach hr (Or.inl c)
    rw [stepM_reach hlm (Or.inl c), reachM_load hf c, goS_load c]
    exact Or.inr ⟨hfin, fun hm => Or.inl ⟨t1 _ rfl, Has_wth hd h (load_has hz _ _) hm hfin rfl rfl⟩⟩
  · have hf := farB_no hr h h0 (Or.inr c)
    rw [stepM_reach hlm (Or.inr c), reachM_store hf c, goS_store c]
    exact Or.inr ⟨hfin, fun hm => Or.inl ⟨t1 _ rfl, Has_same h hm hfin rfl rfl⟩⟩
  · rw [stepM_jump hlm c, goS_jump c]
    exact Or.inr ⟨hfin, fun hm => Or.inr ⟨Or.inl c, rfl, Has_same h hm hfin rfl rfl⟩⟩
  · have hs := has_srcV hr h hu (by omega) (by omega)
    have hdv := has_dstV hr h hu (by omega) (by omega) (by omega) (by omega)
    rw [stepM_eq hlm c, goS_eq c]
    by_cases e : eqb (m.r.get i.d.toNat) (srcN i m) = true
    · rw [if_pos e]
      have e' := (eqb_iff _ _).1 e
      refine Or.inr ⟨hfin, fun hm => Or.inr ⟨Or.inr (Or.inl c), rfl, Has_left hr h hu (Or.inl c) ?_ hm hfin rfl rfl⟩⟩
      have := V4.equal_has hdv (by rw [e']; exact hs)
      rw [← e']; exact this
    · rw [if_neg e]
      have e' : m.r.get i.d.toNat ≠ srcN i m := fun h => e ((eqb_iff _ _).2 h)
      exact Or.inr ⟨hfin, fun hm => Or.inl ⟨t1 _ rfl, Has_left hr h hu (Or.inl c) (V4.other_has hdv hs e') hm hfin rfl rfl⟩⟩
  · have hs := has_srcV hr h hu (by omega) (by omega)
    have hdv := has_dstV hr h hu (by omega) (by omega) (by omega) (by omega)
    rw [stepM_lt hlm c, goS_lt c]
    by_cases e : nv (m.r.get i.d.toNat) < nv (srcN i m)
    · rw [if_pos e]
      exact Or.inr ⟨hfin, fun hm => Or.inr ⟨Or.inr (Or.inr c), rfl, Has_left hr h hu (Or.inr c) (V4.less_has hdv hs e) hm hfin rfl rfl⟩⟩
    · rw [if_neg e]
      exact Or.inr ⟨hfin, fun hm => Or.inl ⟨t1 _ rfl, Has_left hr h hu (Or.inr c) (V4.notLess_has hdv hs (by omega)) hm hfin rfl rfl⟩⟩
  · rw [stepM_exit hlm c]
    exact Or.inl ⟨rfl, c⟩
  · have hs := has_srcV hr h hu (by omega) (by omega)
    rw [stepM_two hlm (by omega), goS_mov c, numN_mov c]
    exact Or.inr ⟨hfin, fun hm => Or.inl ⟨t1 _ rfl, Has_wth hd h hs hm hfin rfl rfl⟩⟩
  · have hs := has_srcV hr h hu (by omega) (by omega)
    have hdv := has_dstV hr h hu (by omega) (by omega) (by omega) (by omega)
    rw [stepM_two hlm (by omega), goS_two c]
    exact Or.inr ⟨hfin, fun hm => Or.inl ⟨t1 _ rfl, Has_wth hd h (V4.two_has (by omega) hdv hs) hm hfin rfl rfl⟩⟩
end Go.Proofs.Ytkigmocchaikgab

/- The contract of flow.Step, and of what it calls. -/
namespace Go.Proofs.Ytkigmocchaikgab
open Go.RowKit

/- a step and an Exit behind it, as a program -/
theorem code2 (a : Ins) : (codeErr [a, exitI] == 0) = (kindB a && (inB a 1 && bareB a)) := by
  have e1 : kindB exitI = true := rfl
  have e2 : inB exitI 0 = true := rfl
  have e3 : bareB exitI = true := rfl
  have e4 : lastOp [a, exitI] = 15 := rfl
  cases h1 : kindB a <;> cases h2 : inB a 1 <;> cases h3 : bareB a <;> simp [codeErr, List.all, inAll, h1, h2, h3, e1, e2, e3, e4]
theorem in_any {i : Ins} {n n' : Int} (h : i.op ≠ 12) (h2 : i.op ≠ 13) (h3 : i.op ≠ 14) : inB i n = inB i n' := by
  unfold inB
  by_cases c : i.op = 10 ∨ i.op = 11
  · rw [if_pos c, if_pos c]
  · have h4 : ¬ (i.op = 13 ∨ i.op = 14) := by omega
    simp only [if_neg c, if_neg h, if_neg h4]
theorem fine_off {op d s of : Int} {im : BitVec 64} (ho : op = 12 ∨ op = 13 ∨ op = 14) : fineI ⟨op, d, s, im, of⟩ = ((codeErr [⟨op, d, s, im, 0⟩, exitI] == 0) && goesB of 65) := by
  rw [code2]
  unfold fineI
  have eb : bareB ⟨op, d, s, im, of⟩ = bareB ⟨op, d, s, im, 0⟩ := by
    unfold bareB
    simp only
    rcases ho with rfl | rfl | rfl <;> rfl
  have ek : kindB ⟨op, d, s, im, of⟩ = kindB ⟨op, d, s, im, 0⟩ := rfl
  have ei : inB ⟨op, d, s, im, of⟩ 65 = (inB ⟨op, d, s, im, 0⟩ 1 && goesB of 65) := by
    have g : goesB 0 1 = true := rfl
    unfold inB
    simp only
    rcases ho with rfl | rfl | rfl
    · simp [g]
    · simp [g]
    · simp [g]
  rw [eb, ek, ei]
  cases kindB ⟨op, d, s, im, 0⟩ <;> cases inB ⟨op, d, s, im, 0⟩ 1 <;> cases bareB ⟨op, d, s, im, 0⟩ <;> cases goesB of 65 <;> rfl
theorem fis_ok (i : Ins) : Ok 44 [.ag i.cs] (.c (.b (fineI i))) := by
  have out : ∀ {b : Bool}, fineI i = b → AV.c (AC.b b) = AV.c (AC.b (fineI i)) := fun h => by rw [h]
  by_cases ho : i.op = 12 ∨ i.op = 13 ∨ i.op = 14
  · have hf := fine_off (op := i.op) (d := i.d) (s := i.s) (of := i.of) (im := i.im) ho
    have hf : fineI i = ((codeErr [⟨i.op, i.d, i.s, i.im, 0⟩, exitI] == 0) && goesB i.of 65) := hf
    have low : decide (i.of < 0) = true → fineI i = false := fun h => by
      have : i.of < 0 := of_decide_eq_true h
      rw [hf, show goesB i.of 65 = false by unfold goesB; rw [decide_eq_false (by omega)]; rfl]; simp
    have high : decide (64 < i.of) = true → fineI i = false := fun h => by
      have : 64 < i.of := of_decide_eq_true h
      rw [hf, show goesB i.of 65 = false by unfold goesB; rw [decide_eq_false (by omega : ¬ i.of < 65)]; simp]; simp
    have mid : decide (i.of < 0) = false → decide (64 < i.of) = false → fineI i = (codeErr [⟨i.op, i.d, i.s, i.im, 0⟩, exitI] == 0) := fun h k => by
      have h : ¬ i.of < 0 := of_decide_eq_false h
      have k : ¬ 64 < i.of := of_decide_eq_false k
      rw [hf, show goesB i.of 65 = true by unfold goesB; rw [decide_eq_true (by omega : 0 ≤ i.of), decide_eq_true (by omega : i.of < 65)]; rfl]; simp
    have call : ∀ K, CallOK Try.prog ⟨28, [.c (.sl K 0 2 2)], [(K, ⟨true, pcell [⟨i.op, i.d, i.s, i.im, 0⟩, exitI], 0⟩)], ⟨.c (.i (codeErr [⟨i.op, i.d, i.s, i.im, 0⟩, exitI])), [], none⟩⟩ := fun K => by
      refine p_at (check_ok [⟨i.op, i.d, i.s, i.im, 0⟩, exitI] 2) K true ?_ rfl
      show [AV.c (AC.sl (swp 0 K 0) 0 2 2)] = _
      rfl
    exact fis_all (e := codeErr [⟨i.op, i.d, i.s, i.im, 0⟩, exitI])
      (fun a b => out (low b)) (fun a b c => out (high c)) (fun a b c => ⟨call 18, out (mid b c)⟩)
      (fun _ a b => out (low b)) (fun _ a b c => out (high c)) (fun _ a b c => ⟨call 20, out (mid b c)⟩)
      (fun _ _ a b => out (low b)) (fun _ _ a b c => out (high c)) (fun _ _ a b c => ⟨call 22, out (mid b c)⟩)
      (fun a b c => absurd ho (by simp at a b c; omega))
  · have hf : fineI i = (codeErr [i, exitI] == 0) := by
      rw [code2]
      unfold fineI
      rw [in_any (n := 65) (n' := 1) (by omega) (by omega) (by omega)]
    have call : ∀ K, CallOK Try.prog ⟨28, [.c (.sl K 0 2 2)], [(K, ⟨true, pcell [i, exitI], 0⟩)], ⟨.c (.i (codeErr [i, exitI])), [], none⟩⟩ := fun K => by
      refine p_at (check_ok [i, exitI] 2) K true ?_ rfl
      show [AV.c (AC.sl (swp 0 K 0) 0 2 2)] = _
      rfl
    have no : ∀ {P : Prop}, i.op = 12 ∨ i.op = 13 ∨ i.op = 14 → P := fun h => absurd h ho
    exact fis_all (e := codeErr [i, exitI])
      (fun a b => no (Or.inl (by simpa using a))) (fun a b c => no (Or.inl (by simpa using a))) (fun a b c => no (Or.inl (by simpa using a)))
      (fun _ a b => no (Or.inr (Or.inl (by simpa using a)))) (fun _ a b c => no (Or.inr (Or.inl (by simpa using a)))) (fun _ a b c => no (Or.inr (Or.inl (by simpa using a))))
      (fun _ _ a b => no (Or.inr (Or.inr (by simpa using a)))) (fun _ _ a b c => no (Or.inr (Or.inr (by simpa using a)))) (fun _ _ a b c => no (Or.inr (Or.inr (by simpa using a))))
      (fun a b c => ⟨call 12, out hf⟩)
def farE (i : Ins) (a : V4) : Int := if farS i a then 2 else 0
theorem freach_ok {i : Ins} {a : V4} (ha : a.ok = true) : Ok 74 [.ag i.cs, .ag a.cs] (.c (.i (farE i a))) := by
  have h1 := valOf_ok (BitVec.ofInt 64 i.of)
  have h2 := calcTwo_ok (op := 2) (by decide) ha (V4.of_ok (BitVec.ofInt 64 i.of))
  refine freach_all (b := V4.of (BitVec.ofInt 64 i.of)) (c := V4.two 2 a (V4.of (BitVec.ofInt 64 i.of))) (fun h => ⟨h1, h2, ?_⟩) (fun h => ⟨h1, h2, ?_⟩)
  · unfold farE farS; rw [h]; rfl
  · unfold farE farS; rw [h]; rfl
theorem fsource_ok {i : Ins} {t : St} (h : srcB i.s = true) : Ok 81 [.ag i.cs, .ag t.cs] (.ag (srcV i t).cs) := by
  unfold srcV
  refine fsource_all (b := V4.of i.im) (fun a => ⟨valOf_ok _, ?_⟩) (fun a => ?_)
  · rw [if_pos (by simpa using a)]
  · have a : ¬ i.s = -1 := by simpa using a
    have hs := (srcB_iff.1 h).resolve_left a
    exact ⟨hs, sr_ok t hs, sr_eff t hs, by rw [if_neg a]⟩
section
variable {i : Ins} {t : St}
theorem left_z {x : V4 × V4 × Bool} (h : (!x.2.2) = true) : AV.ag St.z.cs = AV.ag (leftS i t x).cs := by
  unfold leftS; rw [if_neg (by simpa using h)]
theorem left_s {x : V4 × V4 × Bool} (h : (!x.2.2) = false) (k : (i.s != -1) = true) : AV.ag ((t.wth i.d.toNat x.1).wth i.s.toNat x.2.1).cs = AV.ag (leftS i t x).cs := by
  unfold leftS; rw [if_pos (by simpa using h), if_neg (by simpa using k)]
theorem left_c {x : V4 × V4 × Bool} (h : (!x.2.2) = false) (k : (i.s != -1) = false) : AV.ag (t.wth i.d.toNat x.1).cs = AV.ag (leftS i t x).cs := by
  unfold leftS; rw [if_pos (by simpa using h), if_pos (by simpa using k)]
theorem src_of (hs : srcB i.s = true) (k : (i.s != -1) = true) : regB i.s = true := (srcB_iff.1 hs).resolve_left (by simpa using k)
theorem fleftOt_ok (hd : regB i.d = true) (hs : srcB i.s = true) (hv : (t.r.get i.d.toNat).ok = true) (hw : (srcV i t).ok = true) : Ok 76 [.ag i.cs, .ag t.cs, .c (.f 77 [])] (.ag (leftS i t ((t.r.get i.d.toNat).other (srcV i t))).cs) :=
  fleftOt_all (b := srcV i t) (x := ((t.r.get i.d.toNat).other (srcV i t)).1) (y := ((t.r.get i.d.toNat).other (srcV i t)).2.1) (q := ((t.r.get i.d.toNat).other (srcV i t)).2.2) (t1 := t.wth i.d.toNat ((t.r.get i.d.toNat).other (srcV i t)).1) (t2 := (t.wth i.d.toNat ((t.r.get i.d.toNat).other (srcV i t)).1).wth i.s.toNat ((t.r.get i.d.toNat).other (srcV i t)).2.1)
    (fun a => ⟨hd, sr_ok t hd, sr_eff t hd, fsource_ok hs, calcOther_ok hv hw, left_z a⟩) (fun a k => ⟨hd, sr_ok t hd, sr_eff t hd, fsource_ok hs, calcOther_ok hv hw, fwith_ok _ hd, fwith_ok _ (src_of hs k), left_s a k⟩) (fun a k => ⟨hd, sr_ok t hd, sr_eff t hd, fsource_ok hs, calcOther_ok hv hw, fwith_ok _ hd, left_c a k⟩)
theorem fleftEq_ok (hd : regB i.d = true) (hs : srcB i.s = true) (hv : (t.r.get i.d.toNat).ok = true) (hw : (srcV i t).ok = true) : Ok 76 [.ag i.cs, .ag t.cs, .c (.f 78 [])] (.ag (leftS i t ((t.r.get i.d.toNat).equal (srcV i t))).cs) :=
  fleftEq_all (b := srcV i t) (x := ((t.r.get i.d.toNat).equal (srcV i t)).1) (y := ((t.r.get i.d.toNat).equal (srcV i t)).2.1) (q := ((t.r.get i.d.toNat).equal (srcV i t)).2.2) (t1 := t.wth i.d.toNat ((t.r.get i.d.toNat).equal (srcV i t)).1) (t2 := (t.wth i.d.toNat ((t.r.get i.d.toNat).equal (srcV i t)).1).wth i.s.toNat ((t.r.get i.d.toNat).equal (srcV i t)).2.1)
    (fun a => ⟨hd, sr_ok t hd, sr_eff t hd, fsource_ok hs, calcEqual_ok hv hw, left_z a⟩) (fun a k => ⟨hd, sr_ok t hd, sr_eff t hd, fsource_ok hs, calcEqual_ok hv hw, fwith_ok _ hd, fwith_ok _ (src_of hs k), left_s a k⟩) (fun a k => ⟨hd, sr_ok t hd, sr_eff t hd, fsource_ok hs, calcEqual_ok hv hw, fwith_ok _ hd, left_c a k⟩)
theorem fleftNl_ok (hd : regB i.d = true) (hs : srcB i.s = true) (hv : (t.r.get i.d.toNat).ok = true) (hw : (srcV i t).ok = true) : Ok 76 [.ag i.cs, .ag t.cs, .c (.f 79 [])] (.ag (leftS i t ((t.r.get i.d.toNat).notLess (srcV i t))).cs) :=
  fleftNl_all (b := srcV i t) (x := ((t.r.get i.d.toNat).notLess (srcV i t)).1) (y := ((t.r.get i.d.toNat).notLess (srcV i t)).2.1) (q := ((t.r.get i.d.toNat).notLess (srcV i t)).2.2) (t1 := t.wth i.d.toNat ((t.r.get i.d.toNat).notLess (srcV i t)).1) (t2 := (t.wth i.d.toNat ((t.r.get i.d.toNat).notLess (srcV i t)).1).wth i.s.toNat ((t.r.get i.d.toNat).notLess (srcV i t)).2.1)
    (fun a => ⟨hd, sr_ok t hd, sr_eff t hd, fsource_ok hs, calcNotLess_ok hv hw, left_z a⟩) (fun a k => ⟨hd, sr_ok t hd, sr_eff t hd, fsource_ok hs, calcNotLess_ok hv hw, fwith_ok _ hd, fwith_ok _ (src_of hs k), left_s a k⟩) (fun a k => ⟨hd, sr_ok t hd, sr_eff t hd, fsource_ok hs, calcNotLess_ok hv hw, fwith_ok _ hd, left_c a k⟩)
theorem fleftLe_ok (hd : regB i.d = true) (hs : srcB i.s = true) (hv : (t.r.get i.d.toNat).ok = true) (hw : (srcV i t).ok = true) : Ok 76 [.ag i.cs, .ag t.cs, .c (.f 80 [])] (.ag (leftS i t ((t.r.get i.d.toNat).less (srcV i t))).cs) :=
  fleftLe_all (b := srcV i t) (x := ((t.r.get i.d.toNat).less (srcV i t)).1) (y := ((t.r.get i.d.toNat).less (srcV i t)).2.1) (q := ((t.r.get i.d.toNat).less (srcV i t)).2.2) (t1 := t.wth i.d.toNat ((t.r.get i.d.toNat).less (srcV i t)).1) (t2 := (t.wth i.d.toNat ((t.r.get i.d.toNat).less (srcV i t)).1).wth i.s.toNat ((t.r.get i.d.toNat).less (srcV i t)).2.1)
    (fun a => ⟨hd, sr_ok t hd, sr_eff t hd, fsource_ok hs, calcLess_ok hv hw, left_z a⟩) (fun a k => ⟨hd, sr_ok t hd, sr_eff t hd, fsource_ok hs, calcLess_ok hv hw, fwith_ok _ hd, fwith_ok _ (src_of hs k), left_s a k⟩) (fun a k => ⟨hd, sr_ok t hd, sr_eff t hd, fsource_ok hs, calcLess_ok hv hw, fwith_ok _ hd, left_c a k⟩)
end
abbrev ftKn (i : Ins) (t : St) (u : V6 Bool) (j : Int) : Kn := ⟨[(2, .c (.w 0)), (3, .c (.w 1)), (8, .ag (bcs u)), (9, .c (.i j))], [(0, ⟨true, i.cs, 0⟩), (1, ⟨true, t.cs, 0⟩)], 2⟩
theorem ftLoop {i : Ins} {t : St} {u : V6 Bool} {w : World} {β : Bs} {E : Eff} : ∀ n, n ≤ 6 → (anyFrom (fun j => u.get j && !t.s.get j) n = true → ⟨.c (.i 1), [], none⟩ = E) →
    (anyFrom (fun j => u.get j && !t.s.get j) n = false → ART Try.prog 45 (cx w β 0 []) Try.f45.ntmps (cutAt Try.f45 0) (ftKn i t u 6) (REff w β E)) →
    ART Try.prog 45 (cx w β 0 []) Try.f45.ntmps (cutAt Try.f45 0) (ftKn i t u (6 - n : Nat)) (REff w β E)
  | 0, _, _, hz => hz rfl
  | n + 1, hn, hy, hz => by
    have hj := rnd_reg hn
    have ej := rnd_nat hn
    have f0 := lt_six hj
    have f1 := b_ok u hj
    have f2 : (decide (0 ≤ ((6 - (n + 1) : Nat) : Int)) && decide (((6 - (n + 1) : Nat) : Int) < 6)) = true := hj
    have f3 := ss_ok t hj
    have f4 := b_eff u hj
    have f5 := ss_eff t hj
    have yes : (u.get (5 - n) && !t.s.get (5 - n)) = true → (⟨.c (.i 1), [], none⟩ : Eff) = E := fun h => hy (by rw [anyFrom, h]; rfl)
    have next : (u.get (5 - n) && !t.s.get (5 - n)) = false → ART Try.prog 45 (cx w β 0 []) Try.f45.ntmps (cutAt Try.f45 0) (ftKn i t u (IntKind.wrap IntKind.i64 (((6 - (n + 1) : Nat) : Int) + 1))) (REff w β E) := by
      intro hb
      rw [rnd_next hn]
      refine ftLoop n (by omega) (fun h => hy ?_) (fun h => hz ?_)
      · rw [anyFrom, hb, h]; rfl
      · rw [anyFrom, hb, h]; rfl
    refine ftRound_all (by omega) (fun a b => ⟨f0, f1, f2, f3, f4, f5, yes ?_⟩) (fun a b => ⟨f0, f1, f2, f3, f4, f5, low_of rfl, next ?_⟩) (fun a => ⟨f0, f1, f4, low_of rfl, next ?_⟩)
    · rw [ej] at a b; rw [a, b]; rfl
    · rw [ej] at a b; rw [a, b]; rfl
    · rw [ej] at a; rw [a]; rfl
theorem ftrap_ok {i : Ins} {t : St} (hr : Right i 65) (ht : t.Ok) : Ok 45 [.ag i.cs, .ag t.cs] (.c (.i (trapS i t))) := by
  refine val_of Try.func45 rfl rfl rfl rfl fun w β => ?_
  have hg := right_regs hr
  refine ftTop_w0 (u := useOf i) (use_of_ok (Or.inr (Or.inr hg))) (low_of rfl) (fun _ h => absurd h (by simp [cx])) (ftLoop 6 (Nat.le_refl 6) (fun h => ?_) (fun h => ?_))
  · rw [← lacks_from] at h
    unfold trapS; rw [if_pos h]
  · rw [← lacks_from] at h
    unfold trapS
    rw [if_neg (by rw [h]; decide)]
    by_cases c1 : i.op = 10
    · obtain ⟨_, hs, _⟩ := fits_reach hr (Or.inl c1)
      have hok := ht.set _ (reg_nat hs) (lacks_no h _ (reg_nat hs) (use_s (by omega) (by omega) hs))
      rw [if_pos c1]
      exact ftEnd_all (e := farE i (t.r.get i.s.toNat)) (fun _ => ⟨hs, sr_ok t hs, sr_eff t hs, freach_ok hok, rfl⟩) (fun a _ => absurd c1 (by simpa using a)) (fun a _ => absurd c1 (by simpa using a))
    rw [if_neg c1]
    by_cases c2 : i.op = 11
    · have hok := dstV_ok hr ht h (by omega) (by omega) (by omega) c1
      rw [if_pos c2]
      exact ftEnd_all (e := farE i (t.r.get i.d.toNat)) (fun a => absurd (show i.op = 10 by simpa using a) c1) (fun _ _ => ⟨hg.1, sr_ok t hg.1, sr_eff t hg.1, freach_ok hok, rfl⟩) (fun _ a => absurd c2 (by simpa using a))
    rw [if_neg c2]
    exact ftEnd_all (e := 0) (fun a => absurd (show i.op = 10 by simpa using a) c1) (fun _ a => absurd (show i.op = 11 by simpa using a) c2) (fun _ _ => rfl)
theorem op_ne {i : Ins} {k : Int} (h : i.op ≠ k) : (!i.op == k) = true := by simpa using h
theorem op_is {i : Ins} {k : Int} (h : i.op = k) : (i.op == k) = true := by simpa using h
theorem size_of {x : BitVec 64} (h : sizeB x = true) : nv x = 1 ∨ nv x = 2 ∨ nv x = 4 ∨ nv x = 8 :=
  size_elim (P := fun x => nv x = 1 ∨ nv x = 2 ∨ nv x = 4 ∨ nv x = 8) h (Or.inl rfl) (Or.inr (Or.inl rfl)) (Or.inr (Or.inr (Or.inl rfl))) (Or.inr (Or.inr (Or.inr rfl)))
theorem fgo_ok {i : Ins} {t : St} (hr : Right i 65) (ht : t.Ok) (h0 : trapS i t = 0) : Ok 46 [.ag i.cs, .ag t.cs] (.tu [.ag (goS i t).1.cs, .ag (goS i t).2.cs]) := by
  have hg := right_regs hr
  obtain ⟨hu, _, _⟩ := trap_zero h0
  rcases ops_of hr with c | c | c | c | c | c | c | c
  · obtain ⟨_, _, hz, _⟩ := fits_reach hr (Or.inl c)
    rw [goS_load c]
    have hn := size_of hz
    exact fgoL_w0 (and_yes (op_is c) rfl) (by rw [wrapN (by omega) (by omega)]) (calcBytes_ok hn) (fwith_ok _ hg.1)
  · rw [goS_store c]
    exact fgoS_w0 (and_yes (op_ne (by omega)) (and_yes (op_is c) rfl))
  · rw [goS_jump c]
    exact fgoJ_w0 (and_yes (op_ne (by omega)) (and_yes (op_ne (by omega)) (and_yes (op_is c) rfl)))
  · have hs := srcV_ok hr ht hu (by omega) (by omega)
    have hv := dstV_ok hr ht hu (by omega) (by omega) (by omega) (by omega)
    rw [goS_eq c]
    exact fgoEq_w0 (and_yes (op_ne (by omega)) (and_yes (op_ne (by omega)) (and_yes (op_ne (by omega)) (and_yes (op_is c) rfl)))) (fleftOt_ok hg.1 hg.2 hv hs) (fleftEq_ok hg.1 hg.2 hv hs)
  · have hs := srcV_ok hr ht hu (by omega) (by omega)
    have hv := dstV_ok hr ht hu (by omega) (by omega) (by omega) (by omega)
    rw [goS_lt c]
    exact fgoLt_w0 (and_yes (op_ne (by omega)) (and_yes (op_ne (by omega)) (and_yes (op_ne (by omega)) (and_yes (op_ne (by omega)) (and_yes (op_is c) rfl))))) (fleftNl_ok hg.1 hg.2 hv hs) (fleftLe_ok hg.1 hg.2 hv hs)
  · rw [goS_exit c]
    exact fgoX_w0 (and_yes (op_ne (by omega)) (and_yes (op_ne (by omega)) (and_yes (op_ne (by omega)) (and_yes (op_ne (by omega)) (and_yes (op_ne (by omega)) (and_yes (op_is c) rfl))))))
  · rw [goS_mov c]
    exact fgoM_w0 (and_yes (op_ne (by omega)) (and_yes (op_ne (by omega)) (and_yes (op_ne (by omega)) (and_yes (op_ne (by omega)) (and_yes (op_ne (by omega)) (and_yes (op_ne (by omega)) (and_yes (op_is c) rfl))))))) (fsource_ok hg.2) (fwith_ok _ hg.1)
  · have hs := srcV_ok hr ht hu (by omega) (by omega)
    have hv := dstV_ok hr ht hu (by omega) (by omega) (by omega) (by omega)
    rw [goS_two c]
    exact fgoT_w0 (and_yes (op_ne (by omega)) (and_yes (op_ne (by omega)) (and_yes (op_ne (by omega)) (and_yes (op_ne (by omega)) (and_yes (op_ne (by omega)) (and_yes (op_ne (by omega)) (and_yes (op_ne (by omega)) (and_yes hg.1 (and_yes (sr_ok t hg.1) rfl))))))))) (sr_eff t hg.1) (fsource_ok hg.2) (calcTwo_ok (by omega) hv hs) (fwith_ok _ hg.1)
theorem fstep_ok (i : Ins) (t : St) : Ok 22 [.ag i.cs, .ag t.cs] (.tu [.ag (stepA i t).1.cs, .ag (stepA i t).2.1.cs, .c (.i (stepA i t).2.2), .c (.i (stepE i t))]) := by
  have h1 := fis_ok i
  have h2 := fcheck_ok t
  have bad : (fineI i && t.ok) = false → AV.tu [AT.ag (St.cs St.z), AT.ag (St.cs St.z), AT.c (AC.i 0), AT.c (AC.i 1)] = .tu [.ag (stepA i t).1.cs, .ag (stepA i t).2.1.cs, .c (.i (stepA i t).2.2), .c (.i (stepE i t))] := fun h => by
    unfold stepA stepE; rw [h]; rfl
  by_cases hb : (fineI i && t.ok) = true
  · have hb' := hb
    rw [Bool.and_eq_true] at hb'
    have hr := fine_right.1 hb'.1
    have ht := St.ok_iff.1 hb'.2
    have h3 := ftrap_ok hr ht
    have eA : stepA i t = stepS i t := by unfold stepA; rw [if_pos hb]
    have eE : stepE i t = 0 := by unfold stepE; rw [if_pos hb]
    rw [eA, eE]
    unfold stepS
    by_cases hl : t.live = true
    · rw [if_pos hl]
      by_cases h0 : trapS i t = 0
      · rw [if_pos h0]
        refine fstep_all (tr := trapS i t) (fun a => ?_) (fun _ a => ?_) (fun _ _ a => ?_) (fun _ _ _ a => ?_) (fun _ _ _ _ => ⟨h1, h2, h3, fgo_ok hr ht h0, rfl⟩)
        · rw [hb'.1] at a; cases a
        · rw [er_ne, hb'.2] at a; cases a
        · rw [hl] at a; cases a
        · rw [h0] at a; cases a
      · rw [if_neg h0]
        refine fstep_all (t1 := t) (t2 := t) (tr := trapS i t) (fun a => ?_) (fun _ a => ?_) (fun _ _ a => ?_) (fun _ _ _ a => ⟨h1, h2, h3, rfl⟩) (fun _ _ _ a => ?_)
        · rw [hb'.1] at a; cases a
        · rw [er_ne, hb'.2] at a; cases a
        · rw [hl] at a; cases a
        · exact absurd (by simpa using a) h0
    · rw [if_neg hl]
      refine fstep_all (t1 := t) (t2 := t) (tr := trapS i t) (fun a => ?_) (fun _ a => ?_) (fun _ _ _ => ⟨h1, h2, rfl⟩) (fun _ _ a => ?_) (fun _ _ a => ?_)
      · rw [hb'.1] at a; cases a
      · rw [er_ne, hb'.2] at a; cases a
      · exact absurd (by simpa using a) hl
      · exact absurd (by simpa using a) hl
  · have hb : (fineI i && t.ok) = false := by simpa using hb
    refine fstep_all (t1 := t) (t2 := t) (tr := 0) (fun a => ⟨h1, bad hb⟩) (fun _ a => ⟨h1, h2, bad hb⟩) (fun a b => ?_) (fun a b => ?_) (fun a b => ?_)
    all_goals
      rw [er_ne] at b
      rw [show fineI i = true by simpa using a, show t.ok = true by simpa using b] at hb
      cases hb
end Go.Proofs.Ytkigmocchaikgab

/- Verifying: each step's state has whatever machine comes to it: plain facts. -/
namespace Go.Proofs.Ytkigmocchaikgab

theorem stAt_lt {S : List St} {k : Nat} (h : S.length ≤ k) : stAt S k = St.z := by
  unfold stAt
  rw [List.getD_eq_getElem?_getD, List.getElem?_eq_none h]; rfl
theorem stAt_set {S : List St} {k j : Nat} {t : St} : stAt (S.set k t) j = if k = j ∧ k < S.length then t else stAt S j := by
  unfold stAt
  rw [List.getD_eq_getElem?_getD, List.getD_eq_getElem?_getD, List.getElem?_set]
  by_cases c : k = j
  · subst c
    by_cases c2 : k < S.length
    · simp [c2]
    · simp [c2]
  · simp [c]
theorem stAt_take {S : List St} {n j : Nat} (h : j < n) : stAt (S.take n) j = stAt S j := by
  unfold stAt
  rw [List.getD_eq_getElem?_getD, List.getD_eq_getElem?_getD, List.getElem?_take, if_pos h]
theorem addS_len (S : List St) (k : Nat) (t : St) : (addS S k t).length = S.length := by
  unfold addS; split
  · exact List.length_set
  · rfl
theorem stAt_addS {S : List St} {k j : Nat} {t : St} : stAt (addS S k t) j = if t.live = true ∧ k = j ∧ k < S.length then (stAt S j).join t else stAt S j := by
  unfold addS
  by_cases h : t.live = true
  · rw [if_pos h, stAt_set]
    by_cases c : k = j
    · subst c; simp [h]
    · simp [c]
  · rw [if_neg h, if_neg (by simp [h])]
theorem addS_ne {S : List St} {k j : Nat} {t : St} (h : k ≠ j) : stAt (addS S k t) j = stAt S j := by rw [stAt_addS, if_neg (by simp [h])]
theorem addS_Ok {S : List St} {k : Nat} {t : St} (h : ∀ j, (stAt S j).Ok) (ht : t.Ok) : ∀ j, (stAt (addS S k t) j).Ok := by
  intro j
  rw [stAt_addS]
  split
  · exact St.join_Ok (h j) ht
  · exact h j
theorem addS_keep {S : List St} {k j : Nat} {t : St} {m : Mach} (h : ∀ j, (stAt S j).Ok) (ht : t.Ok) (hm : (stAt S j).Has m) : (stAt (addS S k t) j).Has m := by
  rw [stAt_addS]
  split
  · exact St.join_Has (h j) ht (Or.inl hm)
  · exact hm
theorem addS_new {S : List St} {k : Nat} {t : St} {m : Mach} (h : ∀ j, (stAt S j).Ok) (ht : t.Ok) (hk : k < S.length) (hm : t.Has m) : (stAt (addS S k t) k).Has m := by
  rw [stAt_addS, if_pos ⟨hm.live, rfl, hk⟩]
  exact St.join_Has (h k) ht (Or.inr hm)
theorem firstS_len (n : Nat) : (firstS n).length = n := by simp [firstS]
theorem firstS_at {n j : Nat} (hn : 0 < n) : stAt (firstS n) j = if j = 0 then beginS else St.z := by
  unfold firstS
  rw [stAt_set]
  by_cases c : j = 0
  · subst c; simp [hn]
  · rw [if_neg (by omega), if_neg c]
    unfold stAt
    rw [List.getD_eq_getElem?_getD, List.getElem?_replicate]
    split <;> rfl
theorem firstS_Ok {n : Nat} (hn : 0 < n) : ∀ j, (stAt (firstS n) j).Ok := by
  intro j
  rw [firstS_at hn]
  split
  · exact beginS_Ok
  · exact St.z_Ok
/- where a step's states go to -/
theorem right_lt {L : List Ins} {k : Nat} (hP : RightP L) (hk : k < L.length) : Right (elt L k) ((L.length - 1 - k : Nat) : Int) := hP.step k hk
theorem last_op {L : List Ins} (hP : RightP L) : (elt L (L.length - 1)).op = 15 := hP.last
theorem go1_lt {L : List Ins} {k : Nat} {t : St} (hP : RightP L) (hk : k < L.length) (h : (stepS (elt L k) t).1.live = true) : k + 1 < L.length := by
  rcases Nat.lt_or_ge (k + 1) L.length with h1 | h1
  · exact h1
  · have e : k = L.length - 1 := by omega
    have ho := last_op hP
    rw [← e] at ho
    unfold stepS goS at h
    rw [ho] at h
    split at h
    · split at h
      · cases h
      · cases h
    · cases h
theorem go2_lt {L : List Ins} {k : Nat} {t : St} (hP : RightP L) (hk : k < L.length) (h : (stepS (elt L k) t).2.1.live = true) : 0 ≤ (elt L k).of ∧ k + 1 + (elt L k).of.toNat < L.length ∧ ((elt L k).op = 12 ∨ (elt L k).op = 13 ∨ (elt L k).op = 14) := by
  have hr := right_lt hP hk
  unfold stepS at h
  split at h
  · split at h
    · unfold goS at h
      by_cases c1 : (elt L k).op = 10
      · rw [if_pos c1] at h; cases h
      rw [if_neg c1] at h
      by_cases c2 : (elt L k).op = 11
      · rw [if_pos c2] at h; cases h
      rw [if_neg c2] at h
      by_cases c3 : (elt L k).op = 12
      · have := fits_jump hr c3
        exact ⟨this.1, by omega, Or.inl c3⟩
      rw [if_neg c3] at h
      by_cases c4 : (elt L k).op = 13
      · have := fits_branch hr (Or.inl c4)
        exact ⟨this.2.2.1, by omega, Or.inr (Or.inl c4)⟩
      rw [if_neg c4] at h
      by_cases c5 : (elt L k).op = 14
      · have := fits_branch hr (Or.inr c5)
        exact ⟨this.2.2.1, by omega, Or.inr (Or.inr c5)⟩
      rw [if_neg c5] at h
      by_cases c6 : (elt L k).op = 15
      · rw [if_pos c6] at h; cases h
      rw [if_neg c6] at h
      by_cases c7 : (elt L k).op = 1
      · rw [if_pos c7] at h; cases h
      rw [if_neg c7] at h; cases h
    · cases h
  · cases h
/- what comes of verifying from the step k on -/
structure VOut (L : List Ins) (k : Nat) (S : List St) (R : Rep) : Prop where
  ok : ∀ j, (stAt R.sts j).Ok
  same : ∀ j, j ≤ k → k < L.length → stAt R.sts j = stAt S j
  keep : ∀ j m, (stAt S j).Has m → (R.trap = 0 ∨ (j : Int) ≤ R.pos) → (stAt R.sts j).Has m
  step : ∀ j, k ≤ j → j < L.length → (R.trap = 0 ∨ (j : Int) < R.pos) → (stepS (elt L j) (stAt R.sts j)).2.2 = 0 ∧
    (∀ m, (stepS (elt L j) (stAt R.sts j)).1.Has m → (R.trap = 0 ∨ ((j + 1 : Nat) : Int) ≤ R.pos) → (stAt R.sts (j + 1)).Has m) ∧
    (∀ m, (stepS (elt L j) (stAt R.sts j)).2.1.Has m → (R.trap = 0 ∨ ((j + 1 + (elt L j).of.toNat : Nat) : Int) ≤ R.pos) → (stAt R.sts (j + 1 + (elt L j).of.toNat)).Has m)
  none : R.trap = 0 → R.pos = 0 ∧ R.sts.length = L.length
  some : R.trap ≠ 0 → ∃ p : Nat, R.pos = p ∧ k ≤ p ∧ p < L.length ∧ R.sts.length = p + 1 ∧ (stepS (elt L p) (stAt R.sts p)).2.2 = R.trap
theorem verL_out {L : List Ins} (hP : RightP L) : ∀ (n k : Nat) (S : List St), k + n = L.length → S.length = L.length → (∀ j, (stAt S j).Ok) → VOut L k S (verL L n k S)
  | 0, k, S, hk, hS, hok => ⟨hok, fun _ _ _ => rfl, fun _ _ h _ => h, fun j h1 h2 => by omega, fun _ => ⟨rfl, hS⟩, fun h => absurd rfl h⟩
  | n + 1, k, S, hk, hS, hok => by
    have hlt : k < L.length := by omega
    have hr := right_lt hP hlt
    obtain ⟨q1, q2⟩ := stepS_Ok hr (hok k)
    unfold verL
    by_cases h0 : (stepS (elt L k) (stAt S k)).2.2 = 0
    · rw [if_pos h0]
      have hok1 := addS_Ok (k := k + 1) hok q1
      have hok2 := addS_Ok (k := k + 1 + (elt L k).of.toNat) hok1 q2
      have ih := verL_out hP n (k + 1) (addS (addS S (k + 1) (stepS (elt L k) (stAt S k)).1) (k + 1 + (elt L k).of.toNat) (stepS (elt L k) (stAt S k)).2.1) (by omega) (by rw [addS_len, addS_len]; exact hS) hok2
      have hsame : ∀ j, j ≤ k → stAt (addS (addS S (k + 1) (stepS (elt L k) (stAt S k)).1) (k + 1 + (elt L k).of.toNat) (stepS (elt L k) (stAt S k)).2.1) j = stAt S j := by
        intro j hj
        rw [addS_ne (by omega), addS_ne (by omega)]
      have hsk : ∀ j, j ≤ k → stAt (verL L n (k + 1) (addS (addS S (k + 1) (stepS (elt L k) (stAt S k)).1) (k + 1 + (elt L k).of.toNat) (stepS (elt L k) (stAt S k)).2.1)).sts j = stAt S j := by
        intro j hj
        by_cases c : k + 1 < L.length
        · rw [ih.same j (by omega) c, hsame j hj]
        · have : n = 0 := by omega
          subst this
          exact hsame j hj
      refine ⟨ih.ok, fun j hj _ => hsk j hj, fun j m hm hb => ih.keep j m (addS_keep hok1 q2 (addS_keep hok q1 hm)) hb, fun j h1 h2 hb => ?_, ih.none, fun h => ?_⟩
      · by_cases c : j = k
        · subst c
          rw [hsk j (Nat.le_refl _)]
          refine ⟨h0, fun m hm hb => ?_, fun m hm hb => ?_⟩
          · have h3 := go1_lt hP h2 hm.live
            exact ih.keep _ m (addS_keep hok1 q2 (addS_new hok q1 (by omega) hm)) hb
          · have h3 := go2_lt hP h2 hm.live
            exact ih.keep _ m (addS_new hok1 q2 (by rw [addS_len]; omega) hm) hb
        · exact ih.step j (by omega) h2 hb
      · obtain ⟨p, h1, h2, h3⟩ := ih.some h
        exact ⟨p, h1, by omega, h3⟩
    · rw [if_neg h0]
      refine ⟨fun j => ?_, fun j hj _ => stAt_take (by omega), fun j m hm hb => ?_, fun j h1 _ hb => ?_, fun h => absurd h h0, fun _ => ⟨k, rfl, Nat.le_refl _, hlt, ?_, ?_⟩⟩
      · by_cases c : j < k + 1
        · show (stAt (S.take (k + 1)) j).Ok
          rw [stAt_take c]; exact hok j
        · show (stAt (S.take (k + 1)) j).Ok
          rw [stAt_lt (by rw [List.length_take]; omega)]; exact St.z_Ok
      · have : (j : Int) ≤ (k : Int) := hb.resolve_left h0
        show (stAt (S.take (k + 1)) j).Has m
        rw [stAt_take (by omega)]; exact hm
      · have : (j : Int) < (k : Int) := hb.resolve_left h0
        omega
      · show (S.take (k + 1)).length = k + 1
        rw [List.length_take]; omega
      · show (stepS (elt L k) (stAt (S.take (k + 1)) k)).2.2 = _
        rw [stAt_take (by omega)]
theorem verify_out {L : List Ins} (hP : RightP L) : VOut L 0 (firstS L.length) (verifyS L) :=
  verL_out hP L.length 0 _ (by omega) (firstS_len _) (firstS_Ok hP.pos)
theorem verify_first {L : List Ins} (hP : RightP L) : stAt (verifyS L).sts 0 = beginS := by
  rw [(verify_out hP).same 0 (Nat.le_refl _) hP.pos, firstS_at hP.pos, if_pos rfl]

/- machines that come to a step -/
theorem begin_Has {s : ByteArray} {x : BitVec 64} (hs : s.size = 64) : beginS.Has (startM s x) := by
  have hm : machErr (startM s x) = 0 := by
    unfold machErr
    have : headB (startM s x) = true := by simp [headB, startM, Mach.wth, hs]
    rw [this]
    rfl
  refine ⟨beginS_Ok, rfl, hm, rfl, fun j hj h => ?_⟩
  unfold beginS at h ⊢
  rw [St.wth_s (by decide) hj] at h
  rw [St.wth_r (by decide) hj]
  by_cases c : 1 = j
  · subst c
    rw [if_pos rfl]; exact ⟨rfl, V4.any_has _⟩
  · rw [if_neg c, show St.e.s = no6 from rfl, no6_get j hj] at h; cases h
theorem stepS_live {i : Ins} {t : St} (hl : t.live = true) (h : (stepS i t).2.2 = 0) : trapS i t = 0 ∧ (stepS i t).1 = (goS i t).1 ∧ (stepS i t).2.1 = (goS i t).2 := by
  unfold stepS at h ⊢
  rw [if_pos hl] at h ⊢
  by_cases c : trapS i t = 0
  · rw [if_pos c]; exact ⟨c, rfl, rfl⟩
  · rw [if_neg c] at h; exact absurd h c
/- a machine that is had where it is, ahead of the first trap, goes on so -/
theorem verify_step {L : List Ins} (hP : RightP L) {m : Mach} (h0 : 0 ≤ m.t) (h1 : m.t < L.length) (hb : (verifyS L).trap = 0 ∨ m.t < (verifyS L).pos) (hm : (stAt (verifyS L).sts m.t.toNat).Has m) :
    (stepM (insAt L m.t) m).fin = 3 ∨ ((stepM (insAt L m.t) m).fin = 0 ∧ (machErr (stepM (insAt L m.t) m) = 0 → ((verifyS L).trap = 0 ∨ (stepM (insAt L m.t) m).t ≤ (verifyS L).pos) → (stAt (verifyS L).sts (stepM (insAt L m.t) m).t.toNat).Has (stepM (insAt L m.t) m))) := by
  have hlt : m.t.toNat < L.length := by omega
  obtain ⟨g0, g1, g2⟩ := (verify_out hP).step m.t.toNat (Nat.zero_le _) hlt (by omega)
  have e : insAt L m.t = elt L m.t.toNat := rfl
  have hr := right_lt hP hlt
  rw [← e] at g0 g1 g2 hr
  obtain ⟨t0, e1, e2⟩ := stepS_live hm.live g0
  rw [e1] at g1
  rw [e2] at g2
  rcases stepS_sound hr hm t0 with ⟨h3, _⟩ | ⟨h3, h4⟩
  · exact Or.inl h3
  · refine Or.inr ⟨h3, fun hme hb' => ?_⟩
    rcases h4 hme with ⟨h5, h6⟩ | ⟨h5, h6, h7⟩
    · have := g1 _ h6 (by omega)
      rwa [show m.t.toNat + 1 = (stepM (insAt L m.t) m).t.toNat by omega] at this
    · have h8 := go2_lt hP hlt (t := stAt (verifyS L).sts m.t.toNat) (by rw [← e, e2]; exact h7.live)
      rw [← e] at h8
      have := g2 _ h7 (by omega)
      rwa [show m.t.toNat + 1 + (insAt L m.t).of.toNat = (stepM (insAt L m.t) m).t.toNat by omega] at this
end Go.Proofs.Ytkigmocchaikgab

/- Rows of things that have as many cells each. -/
namespace Go.Proofs.Ytkigmocchaikgab
open Go.RowKit

section
variable {α : Type} {f : α → List AC} {m : Nat}
theorem flat_len (hf : ∀ x, (f x).length = m) : ∀ l : List α, (l.flatMap f).length = l.length * m
  | [] => by simp
  | x :: l => by rw [List.flatMap_cons, List.length_append, hf, flat_len hf l, List.length_cons, Nat.add_mul, Nat.one_mul, Nat.add_comm]
theorem flat_drop (hf : ∀ x, (f x).length = m) : ∀ (l : List α) (k : Nat), (l.flatMap f).drop (k * m) = (l.drop k).flatMap f
  | l, 0 => by simp
  | [], k + 1 => by simp
  | x :: l, k + 1 => by
    rw [List.flatMap_cons, show (k + 1) * m = (f x).length + k * m by rw [hf, Nat.add_mul, Nat.one_mul, Nat.add_comm], ← List.drop_drop, List.drop_left, flat_drop hf l k]
    rfl
theorem flat_take (hf : ∀ x, (f x).length = m) : ∀ (l : List α) (k : Nat), (l.flatMap f).take (k * m) = (l.take k).flatMap f
  | l, 0 => by simp
  | [], k + 1 => by simp
  | x :: l, k + 1 => by
    rw [List.flatMap_cons, show (k + 1) * m = (f x).length + k * m by rw [hf, Nat.add_mul, Nat.one_mul, Nat.add_comm], List.take_append, Nat.add_sub_cancel_left, flat_take hf l k, List.take_of_length_le (by omega)]
    rfl
theorem flat_at (hf : ∀ x, (f x).length = m) {l : List α} {k : Nat} (d : α) (h : k < l.length) : ((l.flatMap f).drop (k * m)).take m = f (l.getD k d) := by
  rw [flat_drop hf, List.drop_eq_getElem_cons h, List.flatMap_cons, List.getD_eq_getElem?_getD, List.getElem?_eq_getElem h]
  rw [List.take_append_of_le_length (by rw [hf]; exact Nat.le_refl _)]
  exact List.take_of_length_le (by rw [hf]; exact Nat.le_refl _)
theorem flat_set (hf : ∀ x, (f x).length = m) {l : List α} {k : Nat} (x : α) (h : k < l.length) : (l.flatMap f).take (k * m) ++ (f x ++ (l.flatMap f).drop (k * m + (f x).length)) = (l.set k x).flatMap f := by
  rw [hf, show k * m + m = (k + 1) * m by rw [Nat.add_mul, Nat.one_mul], flat_take hf, flat_drop hf, List.set_eq_take_append_cons_drop, if_pos h, List.flatMap_append, List.flatMap_cons]
theorem flat_ks (hf : ∀ x, (f x).flatMap AC.ks = []) : ∀ l : List α, (l.flatMap f).flatMap AC.ks = []
  | [] => rfl
  | x :: l => by rw [List.flatMap_cons, List.flatMap_append, hf, flat_ks hf l]; rfl
theorem flat_rows (x : α) : ∀ n : Nat, rows n (f x) = (List.replicate n x).flatMap f
  | 0 => rfl
  | n + 1 => by
    have := flat_rows x n
    unfold rows at this ⊢
    rw [List.replicate_succ, List.flatten_cons, this, List.replicate_succ, List.flatMap_cons]
end
theorem scell_len (S : List St) : (scell S).length = S.length * 31 := flat_len (f := St.cs) (fun _ => rfl) S
theorem scell_ks (S : List St) : (scell S).flatMap AC.ks = [] := flat_ks (f := St.cs) (fun _ => rfl) S
theorem scell_at {S : List St} {k : Nat} (h : k < S.length) : List.take 31 (List.drop (k * 31) (scell S)) = (stAt S k).cs := flat_at (f := St.cs) (fun _ => rfl) St.z h
theorem scell_set {S : List St} {k : Nat} (t : St) (h : k < S.length) : splice (scell S) (k * 31) t.cs = scell (S.set k t) := flat_set (f := St.cs) (fun _ => rfl) t h
theorem scell_take (S : List St) (q : Nat) : List.take (q * 31) (scell S) = scell (S.take q) := flat_take (f := St.cs) (fun _ => rfl) S q
theorem scell_rows (n : Nat) : rows n St.z.cs = scell (List.replicate n St.z) := flat_rows (f := St.cs) St.z n
theorem pcell_set {L : List Ins} {k : Nat} (i : Ins) (h : k < L.length) : splice (pcell L) (k * 5) i.cs = pcell (L.set k i) := flat_set (f := Ins.cs) (fun _ => rfl) i h
theorem sble {S : List St} {k : Nat} (h : k < S.length) : Nat.ble (0 + k * 31 + 31) (scell S).length = true := by
  rw [scell_len, Nat.ble_eq]; omega
theorem sat_eff {S : List St} {k : Nat} (h : k < S.length) : Eff.mk (AV.ag (List.take 31 (List.drop (0 + k * 31) (scell S)))) [] none = Eff.mk (AV.ag (St.cs (stAt S k))) [] none := by
  rw [Nat.zero_add, scell_at h]
end Go.Proofs.Ytkigmocchaikgab

/- The contracts of slices.Clone, verify.add and verify.Verify. -/
namespace Go.Proofs.Ytkigmocchaikgab
open Go.RowKit

/- a call that reads a program and hands back a new block -/
theorem one_look {K : Nat} {en e : Ent} {k : Nat} (h : look [(K, en)] k = some e) : k = K ∧ e = en := by
  rw [look_cons] at h
  split at h
  · rename_i hk; injection h with h; exact ⟨hk, h.symm⟩
  · cases h
theorem rnew_of {P : Program} {f : FuncId} {fn : Func} {args : List AV} {cs : List AC} {K : Nat} {en : Ent} {v : AV} (hf : P.funcs[f]? = some fn) (hb : fn.body.isSome = true) (hN : Nat.ble args.length fn.ntmps = true) (ha : (keysOf args).all (fun k => Nat.blt k 1) = true) (hcs : cs.flatMap AC.ks = []) (hK : 1 ≤ K) (hv : v.ks = [K]) (hc : en.cells.flatMap AC.ks = [])
    (h : ∀ w β, EKeys 1 [] (some K) ⟨v, [], some (K, en)⟩ → ART P f (cx w β 1 []) fn.ntmps [.code (bodyOf fn)] (Kn.start args [(0, ⟨false, cs, 0⟩)] 1) (REff w β ⟨v, [], some (K, en)⟩)) : CallOK P ⟨f, args, [(0, ⟨false, cs, 0⟩)], ⟨v, [], some (K, en)⟩⟩ := by
  have e : EKeys 1 [] (some K) ⟨v, [], some (K, en)⟩ := by
    refine ⟨fun k hk => Or.inr ?_, fun _ _ hm => (nomatch hm), fun k en' h' => ?_, fun _ h => (nomatch h), fun k h => ⟨?_, rfl⟩⟩
    · simp only at hk; rw [hv] at hk; rw [List.mem_singleton.1 hk]
    · injection h' with h'; injection h' with _ h'; subst h'; exact hc
    · injection h with h; subst h; exact hK
  have hB : Begin args [(0, ⟨false, cs, 0⟩)] 1 := by
    refine ⟨fun v hv k hk => ?_, fun k e he => ?_⟩
    · have h2 := List.all_eq_true.1 ha k (List.mem_flatMap.2 ⟨v, hv, hk⟩)
      simpa using h2
    · obtain ⟨rfl, rfl⟩ := one_look he
      exact ⟨by decide, fun c hc j hj => (nk_of hcs hc hj).elim⟩
  refine eff_of [] (some K) hf hb hN hB (fun k hk => Or.inr ?_) (fun k en' h' => ?_) (fun k h => ⟨en, ?_⟩) e (fun _ _ hm => (nomatch hm)) (fun k en h1 h2 => ?_) fun w β _ => h w β e
  · simp only at hk; rw [hv] at hk; rw [List.mem_singleton.1 hk]
  · injection h' with h'; injection h' with h' _; rw [h']
  · injection h with h; subst h; rfl
  · obtain ⟨_, rfl⟩ := one_look h1; cases h2
theorem cloneS_ok {S : List St} {q c : Nat} (h0 : 0 < q) (h1 : q ≤ S.length) (h2 : q ≤ 64) : CallOK Try.prog ⟨47, [.c (.sl 0 0 q c)], [(0, ⟨false, scell S, 0⟩)], ⟨.c (.sx 6 q), [], some (6, ⟨true, scell (S.take q), 31⟩)⟩⟩ := by
  refine rnew_of Try.func47 rfl rfl rfl (scell_ks S) (by decide) rfl (scell_ks _) fun w β hk => cloneS_w0 ?_ ?_ hk
  · have e : Nat.ble (0 + q * 31) (scell S).length = true := by rw [scell_len, Nat.ble_eq]; omega
    rw [e, decide_eq_true (by omega : 0 + q ≤ 137438953472), decide_eq_true (by omega : 0 < 0 + q)]; rfl
  · rw [Nat.zero_add, List.drop_zero, List.drop_zero, scell_take]; rfl
theorem cloneI_ok {L : List Ins} {c : Nat} (h0 : 0 < L.length) (h2 : L.length ≤ 64) : CallOK Try.prog ⟨83, [.c (.sl 0 0 L.length c)], pH L, ⟨.c (.sx 6 L.length), [], some (6, ⟨true, pcell L, 5⟩)⟩⟩ := by
  refine rnew_of Try.func83 rfl rfl rfl (pcell_ks L) (by decide) rfl (pcell_ks _) fun w β hk => cloneI_w0 ?_ ?_ hk
  · have e : Nat.ble (0 + L.length * 5) (pcell L).length = true := by rw [pcell_length, Nat.ble_eq]; omega
    rw [e, decide_eq_true (by omega : 0 + L.length ≤ 137438953472), decide_eq_true (by omega : 0 < 0 + L.length)]; rfl
  · rw [Nat.zero_add, List.drop_zero, List.drop_zero, ← pcell_length, List.take_length]; rfl
/- a call that writes the one block that it is handed -/
theorem wr_of {P : Program} {f : FuncId} {fn : Func} {args : List AV} {cs cs' : List AC} {v : AV} (hf : P.funcs[f]? = some fn) (hb : fn.body.isSome = true) (hN : Nat.ble args.length fn.ntmps = true) (ha : (keysOf args).all (fun k => Nat.blt k 1) = true) (hcs : cs.flatMap AC.ks = []) (hne : cs ≠ []) (hv : v.ks = []) (hc : cs'.flatMap AC.ks = [])
    (h : ∀ w β, EKeys 1 [0] none ⟨v, [(0, cs')], none⟩ → ART P f (cx w β 1 [0]) fn.ntmps [.code (bodyOf fn)] (Kn.start args [(0, ⟨true, cs, 0⟩)] 1) (REff w β ⟨v, [(0, cs')], none⟩)) : CallOK P ⟨f, args, [(0, ⟨true, cs, 0⟩)], ⟨v, [(0, cs')], none⟩⟩ := by
  have e : EKeys 1 [0] none ⟨v, [(0, cs')], none⟩ := by
    refine ⟨fun k hk => ?_, fun k cs hm => ?_, fun _ _ h' => (nomatch h'), fun k h => ?_, fun _ h => (nomatch h)⟩
    · simp only at hk; rw [hv] at hk; cases hk
    · have := List.mem_singleton.1 hm; injection this with _ h2; subst h2; exact hc
    · rw [List.mem_singleton.1 h]; decide
  have hB : Begin args [(0, ⟨true, cs, 0⟩)] 1 := by
    refine ⟨fun v hv k hk => ?_, fun k e he => ?_⟩
    · have h2 := List.all_eq_true.1 ha k (List.mem_flatMap.2 ⟨v, hv, hk⟩)
      simpa using h2
    · obtain ⟨rfl, rfl⟩ := one_look he
      exact ⟨by decide, fun c hc j hj => (nk_of hcs hc hj).elim⟩
  refine eff_of [0] none hf hb hN hB (fun k hk => ?_) (fun _ _ h' => (nomatch h')) (fun _ h => (nomatch h)) e (fun k cs' hm => ?_) (fun k en h1 h2 => ?_) fun w β _ => h w β e
  · simp only at hk; rw [hv] at hk; cases hk
  · have := List.mem_singleton.1 hm; injection this with h1 h2; subst h1
    exact ⟨⟨true, cs, 0⟩, rfl, rfl, hne⟩
  · obtain ⟨rfl, _⟩ := one_look h1; exact List.mem_singleton.2 rfl
theorem scell_ne {S : List St} (h : 0 < S.length) : scell S ≠ [] := fun e => by
  have := scell_len S
  rw [e] at this
  simp at this
  omega
theorem add_ok {S : List St} {c : Nat} {k : Int} {t : St} (h0 : 0 < S.length) (hk : t.live = true → 0 ≤ k ∧ k < S.length) (ht : t.Ok) (hS : ∀ j, (stAt S j).Ok) : CallOK Try.prog ⟨48, [.c (.sl 0 0 S.length c), .c (.i k), .ag t.cs], [(0, ⟨true, scell S, 0⟩)], ⟨.tu [], [(0, scell (addS S k.toNat t))], none⟩⟩ := by
  refine wr_of Try.func48 rfl rfl rfl (scell_ks S) (scell_ne h0) rfl (scell_ks _) fun w β hkk => ?_
  refine addS_all (j1 := (stAt S k.toNat).join t) (e := 0) (fun hl => ?_) (fun hl => ?_)
  · obtain ⟨k0, k1⟩ := hk hl
    have hlt : k.toNat < S.length := by omega
    have e1 : (decide (0 ≤ k) && decide (k < (↑S.length : Int))) = true := and_yes (decide_eq_true k0) (decide_eq_true k1)
    have ea : addS S k.toNat t = S.set k.toNat ((stAt S k.toNat).join t) := by unfold addS; rw [if_pos hl]
    rw [ea] at hkk
    have hj := fjoin_ok (stAt S k.toNat) t
    have ab : ((stAt S k.toNat).ok && t.ok) = true := and_yes (St.ok_iff.2 (hS _)) (St.ok_iff.2 ht)
    unfold joinA joinE at hj
    rw [if_pos ab, if_pos ab] at hj
    refine ⟨e1, sble hlt, e1, ?_, sat_eff hlt, hj, ?_, hkk, ?_⟩
    · rw [show (St.cs ((stAt S k.toNat).join t)).length = 31 from rfl, sble hlt]; rfl
    · rw [Nat.zero_add, scell_set _ hlt]
    · rw [ea]
  · have ea : addS S k.toNat t = S := by unfold addS; rw [if_neg (by rw [hl]; decide)]
    rw [ea] at hkk ⊢
    exact ⟨hkk, rfl⟩
abbrev vKn (L : List Ins) (c : Nat) (S : List St) (j : Nat) : Kn := ⟨[(2, .c (.w 1)), (5, .c (.sl 10 0 L.length L.length)), (24, .c (.sl 0 0 L.length c)), (25, .c (.i (L.length : Int))), (26, .c (.i (j : Int)))], [(0, ⟨false, pcell L, 0⟩), (1, ⟨true, [AC.i 0, AC.i 0, nilSl], 0⟩), (10, ⟨true, scell S, 0⟩)], 11⟩
theorem v_low (L : List Ins) (c : Nat) (S : List St) (j : Nat) : Kn.Low (vKn L c S j) := low_n rfl rfl ⟨pcell_ks L, rfl, scell_ks S, trivial⟩
/- what Verify hands back -/
def okE (K : Nat) (n : Nat) (S : List St) : Eff := ⟨.tu [.ag [.i 0, .i 0, .sl K 0 n n], .c (.i 0)], [], some (K, ⟨true, scell S, 0⟩)⟩
def trapE (K : Nat) (R : Rep) : Eff := ⟨.tu [.ag [.i R.trap, .i R.pos, .sx K R.sts.length], .c (.i 0)], [], some (K, ⟨true, scell R.sts, 31⟩)⟩
def verE (n : Nat) (R : Rep) : Eff := if R.trap = 0 then okE 10 n R.sts else trapE 43 R
theorem ekeys_ok (K n : Nat) (S : List St) (hK : 1 ≤ K) : EKeys 1 [] (some K) (okE K n S) := by
  refine ⟨fun k hk => Or.inr ?_, fun _ _ hm => (nomatch hm), fun k en' h' => ?_, fun _ h => (nomatch h), fun k h => ⟨?_, rfl⟩⟩
  · have : k ∈ [K] := hk
    rw [List.mem_singleton.1 this]
  · injection h' with h'; injection h' with _ h'; subst h'; exact scell_ks S
  · injection h with h; subst h; exact hK
theorem ekeys_trap (K : Nat) (R : Rep) (hK : 1 ≤ K) : EKeys 1 [] (some K) (trapE K R) := by
  refine ⟨fun k hk => Or.inr ?_, fun _ _ hm => (nomatch hm), fun k en' h' => ?_, fun _ h => (nomatch h), fun k h => ⟨?_, rfl⟩⟩
  · have : k ∈ [K] := hk
    rw [List.mem_singleton.1 this]
  · injection h' with h'; injection h' with _ h'; subst h'; exact scell_ks R.sts
  · injection h with h; subst h; exact hK
theorem step_in {L : List Ins} {k : Nat} {t : St} (hP : RightP L) (hk : k < L.length) (ht : t.Ok) : Ok 22 [.ag (elt L k).cs, .ag t.cs] (.tu [.ag (stepS (elt L k) t).1.cs, .ag (stepS (elt L k) t).2.1.cs, .c (.i (stepS (elt L k) t).2.2), .c (.i 0)]) := by
  have h := fstep_ok (elt L k) t
  have hle := hP.le
  have hb : (fineI (elt L k) && t.ok) = true := and_yes (fine_right.2 ((right_lt hP hk).mono (by omega))) (St.ok_iff.2 ht)
  unfold stepA stepE at h
  rwa [if_pos hb, if_pos hb] at h
theorem offB {i : Ins} {n : Int} (hr : Right i n) (hn : n ≤ 64) : -64 ≤ i.of ∧ i.of ≤ 64 := by
  rcases ops_of hr with c | c | c | c | c | c | c | c
  · have := fits_reach hr (Or.inl c); omega
  · have := fits_reach hr (Or.inr c); omega
  · have := fits_jump hr c; omega
  · have := fits_branch hr (Or.inl c); omega
  · have := fits_branch hr (Or.inr c); omega
  · have := fits_exit hr c; omega
  · have := fits_two hr (by omega); omega
  · have := fits_two hr (by omega); omega
theorem verLoop {L : List Ins} {c : Nat} (hP : RightP L) {w : World} {β : Bs} : ∀ (n k : Nat) (S : List St), k + n = L.length → S.length = L.length → (∀ j, (stAt S j).Ok) →
    ART Try.prog 23 (cx w β 1 []) Try.f23.ntmps (cutAt Try.f23 0) (vKn L c S k) (REff w β (verE L.length (verL L n k S)))
  | 0, k, S, hk, hS, hok => by
    have e : verE L.length (verL L 0 k S) = okE 10 L.length S := by unfold verL verE; rw [if_pos rfl]
    rw [e]
    refine vEnd_w0 ?_ (ekeys_ok 10 L.length S (by decide))
    rw [decide_eq_false (by omega : ¬ (k : Int) < (L.length : Int))]; rfl
  | n + 1, k, S, hk, hS, hok => by
    have hlt : k < L.length := by omega
    have hltS : k < S.length := by omega
    have hle := hP.le
    have hr := right_lt hP hlt
    have hst := step_in hP hlt (hok k)
    have d0 : decide ((k : Int) < (L.length : Int)) = true := jl hlt
    have f1 : Nat.ble (0 + Int.toNat (k : Int) * 5 + 5) (pcell L).length = true := pble hlt
    have f2 : Nat.ble (0 + Int.toNat (k : Int) * 31 + 31) (scell S).length = true := sble hltS
    have f3 := elt_eff hlt
    have f4 : Eff.mk (AV.ag (List.take 31 (List.drop (0 + Int.toNat (k : Int) * 31) (scell S)))) [] none = Eff.mk (AV.ag (St.cs (stAt S k))) [] none := sat_eff hltS
    have f5 : Eff.mk (AV.c (AC.i (IntKind.wrap IntKind.i64 ((k : Int) + 1)))) [] none = Eff.mk (AV.c (AC.i ((k + 1 : Nat) : Int))) [] none := by rw [wrapS (by omega)]
    obtain ⟨q1, q2⟩ := stepS_Ok hr (hok k)
    unfold verL
    by_cases h0 : (stepS (elt L k) (stAt S k)).2.2 = 0
    · rw [if_pos h0]
      have e1 : (!(stepS (elt L k) (stAt S k)).2.2 != 0) = true := by rw [h0]; rfl
      have hok1 := addS_Ok (k := k + 1) hok q1
      have hok2 := addS_Ok (k := k + 1 + (elt L k).of.toNat) hok1 q2
      have a1 := add_ok (S := S) (c := L.length) (k := ((k + 1 : Nat) : Int)) (by omega) (fun hl => by have := go1_lt hP hlt hl; omega) q1 hok
      have len1 : (addS S (k + 1) (stepS (elt L k) (stAt S k)).1).length = L.length := by rw [addS_len]; exact hS
      have a2 := add_ok (S := addS S (k + 1) (stepS (elt L k) (stAt S k)).1) (c := L.length) (k := ((k + 1 : Nat) : Int) + (elt L k).of) (by omega) (fun hl => by have := go2_lt hP hlt hl; omega) q2 hok1
      rw [hS] at a1
      rw [len1] at a2
      have hS2 : addS (addS S (k + 1) (stepS (elt L k) (stAt S k)).1) (((k + 1 : Nat) : Int) + (elt L k).of).toNat (stepS (elt L k) (stAt S k)).2.1 = addS (addS S (k + 1) (stepS (elt L k) (stAt S k)).1) (k + 1 + (elt L k).of.toNat) (stepS (elt L k) (stAt S k)).2.1 := by
        by_cases hl : (stepS (elt L k) (stAt S k)).2.1.live = true
        · have := go2_lt hP hlt hl
          rw [show (((k + 1 : Nat) : Int) + (elt L k).of).toNat = k + 1 + (elt L k).of.toNat by omega]
        · unfold addS; rw [if_neg hl, if_neg hl]
      rw [hS2] at a2
      rw [show ((k + 1 : Nat) : Int).toNat = k + 1 from rfl] at a1
      have b1 := a1.ren (swp 0 10) (swp_inj 0 10)
      have b2 := a2.ren (swp 0 10) (swp_inj 0 10)
      unfold CallRec.ren Eff.ren renH at b1 b2
      simp only [List.map_cons, List.map_nil, Option.map_none] at b1 b2
      have hR := offB hr (by omega)
      refine vRound_w0 (S1 := addS S (k + 1) (stepS (elt L k) (stAt S k)).1) (S2 := addS (addS S (k + 1) (stepS (elt L k) (stAt S k)).1) (k + 1 + (elt L k).of.toNat) (stepS (elt L k) (stAt S k)).2.1)
        (and_yes d0 (and_yes d0 (and_yes f1 (and_yes d0 (and_yes f2 (and_yes e1 rfl)))))) f3 f4 hst f5 (b1.congr ?_) f5 ?_ (b2.congr ?_) f5 (v_low _ _ _ _) (fun _ h => Nat.lt_of_lt_of_le h (by decide)) (verLoop hP n (k + 1) _ (by omega) (by rw [addS_len, addS_len]; exact hS) hok2)
      · simp only [Ent.ren, ren_nk _ (scell_ks _)]
        rfl
      · rw [wrapN (by omega) (by omega)]
      · simp only [Ent.ren, ren_nk _ (scell_ks _)]
        rfl
    · rw [if_neg h0]
      have e1 : ((stepS (elt L k) (stAt S k)).2.2 != 0) = true := by simpa using h0
      have eE : verE L.length ⟨(stepS (elt L k) (stAt S k)).2.2, k, S.take (k + 1)⟩ = trapE 43 ⟨(stepS (elt L k) (stAt S k)).2.2, k, S.take (k + 1)⟩ := by unfold verE; rw [if_neg h0]
      have hlen : (S.take (k + 1)).length = k + 1 := by rw [List.length_take]; omega
      have hk := ekeys_trap 43 ⟨(stepS (elt L k) (stAt S k)).2.2, k, S.take (k + 1)⟩ (by decide)
      have cl := ((cloneS_ok (S := S) (q := k + 1) (c := L.length) (by omega) (by omega) (by omega)).ren (swp 6 43) (swp_inj 6 43)).ren (swp 0 10) (swp_inj 0 10)
      rw [eE]
      unfold trapE at hk ⊢
      simp only [hlen] at hk ⊢
      refine vTrap_w0 (and_yes d0 (and_yes d0 (and_yes f1 (and_yes d0 (and_yes f2 (and_yes e1 (and_yes (and_yes (decide_eq_true (by omega)) (decide_eq_true (by omega))) rfl))))))) f3 f4 hst f5 rfl ?_ hk
      refine CallOK.more (H := [(10, ⟨false, scell S, 0⟩)]) ?_ ⟨fun j en hj => ?_⟩
      · refine cl.congr ?_
        unfold CallRec.ren Eff.ren renH
        simp only [List.map_cons, List.map_nil, Option.map_some, Ent.ren, ren_nk _ (scell_ks _)]
        rfl
      · obtain ⟨rfl, rfl⟩ := one_look hj
        exact ⟨⟨true, scell S, 0⟩, rfl, rfl, fun h => (by cases h), Or.inl rfl⟩
theorem verify_err {L : List Ins} {c : Nat} (h : codeErr L ≠ 0) : CallOK Try.prog ⟨23, [.c (.sl 0 0 L.length c)], pH L, ⟨.tu [.ag [.i 0, .i 0, nilSl], .c (.i (codeErr L))], [], none⟩⟩ := by
  refine read_of Try.func23 rfl rfl (begin_p rfl) rfl ro_p fun w β => ?_
  exact vTop_w0 (and_yes (by simpa using h) rfl) (check_ok L c)
theorem verify_nil : Ok 23 [.c nilSl] (.tu [.ag [.i 0, .i 0, nilSl], .c (.i 2)]) := vNil_w0 rfl check_nil
theorem verify_ret {L : List Ins} {c : Nat} (h : codeErr L = 0) : CallOK Try.prog ⟨23, [.c (.sl 0 0 L.length c)], pH L, verE L.length (verifyS L)⟩ := by
  have hP := codeErr_zero h
  have hp := hP.pos
  have hle := hP.le
  have main : ∀ w β, ART Try.prog 23 (cx w β 1 []) Try.f23.ntmps [.code (bodyOf Try.f23)] (Kn.start [.c (.sl 0 0 L.length c)] (pH L) 1) (REff w β (verE L.length (verifyS L))) := by
    intro w β
    have hb : (scell (List.replicate L.length St.z)).length = L.length * 31 := by rw [scell_len, List.length_replicate]
    refine vTop_w1 (b := beginS) (e := codeErr L) ?_ (check_ok L c) ?_ fbegin_ok ?_ (v_low L c (firstS L.length) 0) (fun _ h => Nat.lt_of_lt_of_le h (by decide)) (verLoop hP L.length 0 (firstS L.length) (by omega) (firstS_len _) (firstS_Ok hp))
    · have e1 : (!codeErr L != 0) = true := by rw [h]; rfl
      have e2 : Nat.ble (0 + (St.cs beginS).length) (scell (List.replicate L.length St.z)).length = true := by rw [hb, st_len, Nat.ble_eq]; omega
      rw [e1, e2, decide_eq_true (by omega : (L.length : Int) ≤ (L.length : Int)), decide_eq_true (by omega : (L.length : Int) ≤ 1099511627776), decide_eq_true (by omega : (0 : Int) < (L.length : Int))]; rfl
    · rw [Int.toNat_natCast, scell_rows]
    · have := scell_set (S := List.replicate L.length St.z) (k := 0) beginS (by rw [List.length_replicate]; exact hp)
      rw [Nat.zero_mul] at this
      rw [this]
  by_cases h0 : (verifyS L).trap = 0
  · have e : verE L.length (verifyS L) = okE 10 L.length (verifyS L).sts := by unfold verE; rw [if_pos h0]
    rw [e] at main ⊢
    exact rnew_of Try.func23 rfl rfl rfl (pcell_ks L) (by decide) rfl (scell_ks _) fun w β _ => main w β
  · have e : verE L.length (verifyS L) = trapE 43 (verifyS L) := by unfold verE; rw [if_neg h0]
    rw [e] at main ⊢
    exact rnew_of Try.func23 rfl rfl rfl (pcell_ks L) (by decide) rfl (scell_ks _) fun w β _ => main w β
end Go.Proofs.Ytkigmocchaikgab

/- fold's small functions: onward, alone, branches, sets, folded, either. -/
namespace Go.Proofs.Ytkigmocchaikgab
open Go.RowKit

theorem on_ok : Ok 84 [] (.ag onI.cs) := fon_w0
theorem alone_ok (a : V4) : Ok 85 [.ag a.cs] (.c (.b (a.l == a.h))) := fal_w0
theorem branches_ok (i : Ins) : Ok 86 [.ag i.cs] (.c (.b (branchB i))) := by
  refine fbr_all (fun h => ?_) (fun h => ?_)
  · unfold branchB; rw [h]; rfl
  · unfold branchB; rw [h]; rfl
theorem sets_ok (i : Ins) : Ok 89 [.ag i.cs] (.c (.b (decide (i.op ≤ 10)))) := fse_w0
theorem st_low_ok (t : St) {j : Int} (h : regB j = true) : (AC.isU (Option.getD (St.cs t)[7 + Int.toNat j * 4 + 2]? (AC.b false)) && Nat.blt (7 + Int.toNat j * 4 + 2) (List.length (St.cs t))) = true :=
  reg_elim (P := fun j => (AC.isU (Option.getD (St.cs t)[7 + Int.toNat j * 4 + 2]? (AC.b false)) && Nat.blt (7 + Int.toNat j * 4 + 2) (List.length (St.cs t))) = true) h rfl rfl rfl rfl rfl rfl
theorem st_low_eff (t : St) {j : Int} (h : regB j = true) : Eff.mk (AV.c (AC.u (AC.asU (Option.getD (St.cs t)[7 + Int.toNat j * 4 + 2]? (AC.b false))))) [] none = Eff.mk (AV.c (AC.u (V4.l (V6.get (St.r t) (Int.toNat j))))) [] none :=
  reg_elim (P := fun j => Eff.mk (AV.c (AC.u (AC.asU (Option.getD (St.cs t)[7 + Int.toNat j * 4 + 2]? (AC.b false))))) [] none = Eff.mk (AV.c (AC.u (V4.l (V6.get (St.r t) (Int.toNat j))))) [] none) h rfl rfl rfl rfl rfl rfl
theorem folded_ok {L : List Ins} {k : Nat} {t : St} (hP : RightP L) (hk : k < L.length) (ht : t.Ok) : Ok 52 [.ag (elt L k).cs, .ag t.cs] (.ag (foldI (elt L k) t).cs) := by
  have c0 := on_ok
  have c1 := step_in hP hk ht
  have hr := hP.step k hk
  change Right (elt L k) _ at hr
  generalize elt L k = i at *
  have c2 := alone_ok ((stepS i t).1.r.get i.d.toNat)
  have c3 := branches_ok i
  have hB : decide (i.op ≤ 9) = true → regB i.d = true := fun h => (fits_two hr (of_decide_eq_true h)).1
  have q0 := fun h => sr_ok (stepS i t).1 (hB h)
  have q1 := fun h => st_low_ok (stepS i t).1 (hB h)
  have q2 := fun h => sr_eff (stepS i t).1 (hB h)
  have q3 := fun h => st_low_eff (stepS i t).1 (hB h)
  have hne : decide (i.op ≤ 9) = true → branchB i = false := fun h => by
    have := of_decide_eq_true h
    unfold branchB
    rw [Bool.or_eq_false_iff]
    constructor <;> (rw [beq_eq_false_iff_ne]; omega)
  have fin : ∀ x : Ins, foldI i t = x → (AV.ag x.cs) = AV.ag (foldI i t).cs := fun x h => by rw [h]
  refine ffd_all (fun a => ⟨c0, fin onI ?_⟩) (fun a b d => ⟨hB b, q0 b, hB b, q1 b, c1, q2 b, c2, q3 b, fin ⟨1, i.d, -1, ((stepS i t).1.r.get i.d.toNat).l, 0⟩ ?_⟩)
    (fun a b d e => absurd e (by rw [hne b]; decide)) (fun a b d e => absurd e (by rw [hne b]; decide)) (fun a b d e => absurd e (by rw [hne b]; decide)) (fun a b d e => ⟨hB b, q0 b, c1, q2 b, c2, c3, c3, fin i ?_⟩)
    (fun a b d e => ⟨c1, c3, c0, fin onI ?_⟩) (fun a b d e g => ⟨c1, c3, c3, fin ⟨12, 0, 0, 0#64, i.of⟩ ?_⟩) (fun a b d e g => ⟨c1, c3, c3, fin i ?_⟩) (fun a b d => ⟨c1, c3, c3, fin i ?_⟩)
  all_goals unfold foldI V4.alone eqb
  all_goals simp only [Bool.not_eq_eq_eq_not, Bool.not_true, Bool.not_false] at *
  all_goals simp [*]
def orF (b : V6 Bool) : Nat → V6 Bool → V6 Bool
  | 0, a => a
  | n + 1, a => orF b n (a.set (5 - n) (a.get (5 - n) || b.get (5 - n)))
abbrev feKn (a b : V6 Bool) (j : Int) : Kn := ⟨[(2, .c (.w 0)), (3, .c (.w 1)), (4, .c (.w 2)), (6, .c (.i j))], [(0, ⟨true, bcs a, 0⟩), (1, ⟨true, bcs b, 0⟩), (2, ⟨true, bcs no6, 0⟩)], 3⟩
theorem be_ok (u : V6 Bool) {j : Int} (h : regB j = true) : (AC.isB (Option.getD (bcs u)[Int.toNat j * 1]? (AC.b false)) && Nat.blt (Int.toNat j * 1) (List.length (bcs u))) = true :=
  reg_elim (P := fun j => (AC.isB (Option.getD (bcs u)[Int.toNat j * 1]? (AC.b false)) && Nat.blt (Int.toNat j * 1) (List.length (bcs u))) = true) h rfl rfl rfl rfl rfl rfl
theorem bw_ok (u : V6 Bool) {j : Int} (h : regB j = true) : Nat.ble (Int.toNat j * 1 + 1) (List.length (bcs u)) = true :=
  reg_elim (P := fun j => Nat.ble (Int.toNat j * 1 + 1) (List.length (bcs u)) = true) h rfl rfl rfl rfl rfl rfl
theorem bw_eff (u : V6 Bool) {j : Int} (x : Bool) (h : regB j = true) : splice (bcs u) (Int.toNat j * 1) [AC.b x] = bcs (V6.set u (Int.toNat j) x) :=
  reg_elim (P := fun j => splice (bcs u) (Int.toNat j * 1) [AC.b x] = bcs (V6.set u (Int.toNat j) x)) h rfl rfl rfl rfl rfl rfl
theorem feLoop {b : V6 Bool} {w : World} {β : Bs} : ∀ n, n ≤ 6 → ∀ a : V6 Bool,
    ART Try.prog 122 (cx w β 0 []) Try.f122.ntmps (cutAt Try.f122 0) (feKn a b (6 - n : Nat)) (REff w β ⟨.ag (bcs (orF b n a)), [], none⟩)
  | 0, _, a => feEnd_w0
  | n + 1, hn, a => by
    have hj := rnd_reg hn
    have ej := rnd_nat hn
    have f0 := lt_six hj
    have f2 : (decide (0 ≤ ((6 - (n + 1) : Nat) : Int)) && decide (((6 - (n + 1) : Nat) : Int) < 6)) = true := hj
    have next : ∀ a' : V6 Bool, a.set (5 - n) (a.get (5 - n) || b.get (5 - n)) = a' → ART Try.prog 122 (cx w β 0 []) Try.f122.ntmps (cutAt Try.f122 0) (feKn a' b (IntKind.wrap IntKind.i64 (((6 - (n + 1) : Nat) : Int) + 1))) (REff w β ⟨.ag (bcs (orF b (n + 1) a)), [], none⟩) := by
      intro a' ha
      rw [rnd_next hn, orF, ha]
      exact feLoop n (by omega) a'
    cases hg : a.get ((6 - (n + 1) : Nat) : Int).toNat with
    | true =>
      refine feR1_w0 (and_yes f0 (and_yes f2 (and_yes (be_ok a hj) (and_yes hg (and_yes f2 (by rw [bw_ok a hj]; rfl)))))) (b_eff a hj) (by rw [bw_eff a true hj]) (low_of rfl) (fun _ h => absurd h (Nat.not_lt_zero _)) (next _ ?_)
      rw [ej] at hg ⊢; rw [hg]; rfl
    | false =>
      refine feR0_w0 (and_yes f0 (and_yes f2 (and_yes (be_ok a hj) (and_yes (by rw [hg]; rfl) (and_yes f2 (and_yes (be_ok b hj) (and_yes f2 (by have := bw_ok a hj; rw [show List.length [AC.b (V6.get b (Int.toNat ((6 - (n + 1) : Nat) : Int)))] = 1 from rfl, this]; rfl)))))))) (b_eff a hj) (b_eff b hj) (by rw [bw_eff a _ hj]) (low_of rfl) (fun _ h => absurd h (Nat.not_lt_zero _)) (next _ ?_)
      rw [ej] at hg ⊢; rw [hg]; rfl
theorem either_ok (a b : V6 Bool) : Ok 122 [.ag (bcs a), .ag (bcs b)] (.ag (bcs (orS a b))) :=
  val_of Try.func122 rfl rfl rfl rfl fun _ _ => feTop_w0 (low_of rfl) (fun _ h => absurd h (Nat.not_lt_zero _)) (feLoop 6 (Nat.le_refl _) a)
end Go.Proofs.Ytkigmocchaikgab

/- Ways of bodies, written by a program (ways.py): what each asks for, and hands back. -/
namespace Go.Proofs.Ytkigmocchaikgab
open Go.RowKit

end Go.Proofs.Ytkigmocchaikgab

/- Contracts of verify.Verify under other keys, of a part of a row; verifyBegun. -/
namespace Go.Proofs.Ytkigmocchaikgab
open Go.RowKit

theorem CallOK.off {P : Program} {f n c o r : Nat} {b : Bool} {cs cells : List AC} {e : Eff} (h : CallOK P ⟨f, [.c (.sl 0 0 n c)], [(0, ⟨false, cs, 0⟩)], e⟩) (hwr : e.wr = []) (hv : ∀ k, k ∈ e.v.ks → k ≠ 0) (hn0 : ∀ k en, e.nw = some (k, en) → k ≠ 0) (hnk : ∀ k en, e.nw = some (k, en) → en.cells.flatMap AC.ks = [])
    (hcs : ∀ j x, cs[j]? = some x → cells[o + j]? = some x) (hks : cs.flatMap AC.ks = []) : CallOK P ⟨f, [.c (.sl 0 o n c)], [(0, ⟨b, cells, r⟩)], e⟩ := by
  have look0 : ∀ k, (∃ en, look [(0, (⟨false, cs, 0⟩ : Ent))] k = some en) → ∃ en, look [(0, (⟨b, cells, r⟩ : Ent))] k = some en := fun k ⟨en, hk⟩ => by
    obtain ⟨rfl, _⟩ := one_look hk
    exact ⟨_, rfl⟩
  refine ⟨⟨fun k hk => ext_mono look0 _ k (h.keys.v k hk), fun k x hm => (by rw [hwr] at hm; cases hm), fun k en hm x hx j hj => (nk_of (hnk k en hm) hx hj).elim⟩, fun k x hm => (by rw [hwr] at hm; cases hm), fun β w hB hI => ?_⟩
  have hb0 := hB 0 ⟨b, cells, r⟩ rfl
  have h1 := h.call (bset β 0 ((β 0).1, (β 0).2.1 + o, (β 0).2.2)) w (fun k en hk => ?_) (fun k en k' en' hk hk' hne => ?_)
  · have ha : ([AV.c (AC.sl 0 0 n c)].map (AV.g (bset β 0 ((β 0).1, (β 0).2.1 + o, (β 0).2.2)))).toArray = ([AV.c (AC.sl 0 o n c)].map (AV.g β)).toArray := by
      simp [AV.g, AC.g, ptr, bset]
    simp only at h1
    rw [ha] at h1
    refine h1.mono fun en w' ⟨β', he, hu⟩ => ?_
    have hnw := hu.nw
    have hfr : Fr (fun B => ∃ k x, (k, x) ∈ e.wr ∧ B = (β k).1) w w' := hu.frame.mono fun B ⟨k, x, hm, _⟩ => (by rw [hwr] at hm; cases hm)
    cases hn : e.nw with
    | none =>
      rw [hn] at hnw
      have hβ : β' = bset β 0 ((β 0).1, (β 0).2.1 + o, (β 0).2.2) := hnw
      refine ⟨β, ?_, ⟨hfr, fun k x hm => (by rw [hwr] at hm; cases hm), by rw [hn]; rfl⟩⟩
      rw [he, hβ, AV.g_congr e.v fun k hk => ?_]
      unfold bset
      rw [if_neg (hv k hk)]
    | some x =>
      obtain ⟨k, en'⟩ := x
      rw [hn] at hnw
      obtain ⟨b1, o1, c1, h2, h3, h4, h5⟩ := hnw
      have hk0 := hn0 k en' hn
      have hβ : ∀ j, j ≠ 0 → β' j = bset β k (b1, o1, c1) j := fun j hj => by
        rw [h4]
        unfold bset
        by_cases c : j = k
        · rw [if_pos c, if_pos c]
        · rw [if_neg c, if_neg c, if_neg hj]
      refine ⟨bset β k (b1, o1, c1), ?_, ⟨hfr, fun k x hm => (by rw [hwr] at hm; cases hm), ?_⟩⟩
      · rw [he]
        rw [AV.g_congr e.v fun j hj => hβ j (hv j hj)]
      · rw [hn]
        refine ⟨b1, o1, c1, Or.inl (h2.resolve_right fun ⟨k0, hk, _⟩ => (by rw [hwr] at hk; cases hk)), h3, rfl, ?_⟩
        exact h5.congr (hβ k hk0).symm (Nat.le_refl _) rfl fun x hx j hj => (nk_of (hnk k en' hn) hx hj).elim
  · obtain ⟨rfl, rfl⟩ := one_look hk
    refine ⟨hb0.lt, fun j x hj => ?_, (fun h => by cases h), fun h => absurd rfl h⟩
    have := hb0.cell (o + j) x (hcs j x hj)
    have e1 : ptr (bset β 0 ((β 0).1, (β 0).2.1 + o, (β 0).2.2)) 0 j = ptr β 0 (o + j) := by simp [ptr, bset, Nat.add_assoc]
    rw [e1, this, AC.g_congr x fun k hk => (nk_of hks (List.mem_of_getElem? hj) hk).elim]
  · obtain ⟨rfl, _⟩ := one_look hk
    obtain ⟨rfl, _⟩ := one_look hk'
    exact absurd rfl hne
theorem okE_ren (ρ : Nat → Nat) (K n : Nat) (S : List St) : (okE K n S).ren ρ = okE (ρ K) n S := by
  unfold okE Eff.ren
  simp only [Option.map_some, Ent.ren, ren_nk ρ (scell_ks S)]
  rfl
theorem trapE_ren (ρ : Nat → Nat) (K : Nat) (R : Rep) : (trapE K R).ren ρ = trapE (ρ K) R := by
  unfold trapE Eff.ren
  simp only [Option.map_some, Ent.ren, ren_nk ρ (scell_ks R.sts)]
  rfl
theorem p_to {P : Program} {f : Nat} {args args' : List AV} {L : List Ins} {e e' : Eff} (h : CallOK P ⟨f, args, pH L, e⟩) (K : Nat) (b : Bool) (ha : args.map (AV.ren (swp 0 K)) = args') (he : e.ren (swp 0 K) = e') : CallOK P ⟨f, args', [(K, ⟨b, pcell L, 0⟩)], e'⟩ := by
  have h1 := h.ren (swp 0 K) (swp_inj 0 K)
  unfold CallRec.ren at h1
  simp only [ha, he] at h1
  refine h1.more ⟨fun k en hk => ?_⟩
  have e1 : renH (swp 0 K) (pH L) = [(K, ⟨false, pcell L, 0⟩)] := by
    show [(swp 0 K 0, Ent.mk false ((pcell L).map (AC.ren (swp 0 K))) 0)] = _
    rw [ren_nk _ (pcell_ks L)]
    rfl
  rw [e1] at hk
  obtain ⟨rfl, rfl⟩ := one_look hk
  exact ⟨⟨b, pcell L, 0⟩, by rw [look_cons, if_pos rfl], rfl, fun h => (by cases h), Or.inl rfl⟩
theorem swp_fst (a b : Nat) : swp a b a = b := by unfold swp; rw [if_pos rfl]
theorem swp_other {a b j : Nat} (h1 : j ≠ a) (h2 : j ≠ b) : swp a b j = j := by unfold swp; rw [if_neg h1, if_neg h2]
theorem pH_ren {ρ : Nat → Nat} {L : List Ins} (h : ρ 0 = 0) : renH ρ (pH L) = pH L := by
  show [(ρ 0, Ent.mk false ((pcell L).map (AC.ren ρ)) 0)] = _
  rw [ren_nk _ (pcell_ks L), h]
theorem verify_okK {L : List Ins} {c : Nat} (h : codeErr L = 0) (h0 : (verifyS L).trap = 0) {K : Nat} (hK : K ≠ 0) : CallOK Try.prog ⟨23, [.c (.sl 0 0 L.length c)], pH L, okE K L.length (verifyS L).sts⟩ := by
  have h1 := verify_ret (c := c) h
  unfold verE at h1
  rw [if_pos h0] at h1
  have h2 := h1.ren (swp 10 K) (swp_inj 10 K)
  have e0 : swp 10 K 0 = 0 := swp_other (by decide) (Ne.symm hK)
  unfold CallRec.ren at h2
  simp only [okE_ren, swp_fst, pH_ren e0] at h2
  refine h2.congr ?_
  show CallRec.mk _ [AV.c (AC.sl 0 0 L.length c)] _ _ = CallRec.mk _ [AV.c (AC.sl (swp 10 K 0) 0 L.length c)] _ _
  rw [e0]
theorem verify_trK {L : List Ins} {c : Nat} (h : codeErr L = 0) (h0 : (verifyS L).trap ≠ 0) {K : Nat} (hK : K ≠ 0) : CallOK Try.prog ⟨23, [.c (.sl 0 0 L.length c)], pH L, trapE K (verifyS L)⟩ := by
  have h1 := verify_ret (c := c) h
  unfold verE at h1
  rw [if_neg h0] at h1
  have h2 := h1.ren (swp 43 K) (swp_inj 43 K)
  have e0 : swp 43 K 0 = 0 := swp_other (by decide) (Ne.symm hK)
  unfold CallRec.ren at h2
  simp only [trapE_ren, swp_fst, pH_ren e0] at h2
  refine h2.congr ?_
  show CallRec.mk _ [AV.c (AC.sl 0 0 L.length c)] _ _ = CallRec.mk _ [AV.c (AC.sl (swp 43 K 0) 0 L.length c)] _ _
  rw [e0]
end Go.Proofs.Ytkigmocchaikgab

/- Folding: what a folded step makes of a state is what the step makes of it; and so of a machine that is had: plain facts. -/
namespace Go.Proofs.Ytkigmocchaikgab

theorem V4.alone_of {a : V4} (h : a.ok = true) (ha : a.alone = true) : a = V4.of a.l := by
  have e : a.l = a.h := (eqb_iff _ _).1 ha
  obtain ⟨hr, h1, h2, h3, h4⟩ := val_facts h
  rw [← e, sM_self, ins_iff] at h4
  have hm : a.m = zero := by
    apply bext
    intro j hj
    have := (h4.2.2 j hj).1
    rw [bit_zero] at this ⊢
    revert this
    cases bit a.m j <;> simp
  have hv : a.v = a.l := by
    apply bext
    intro j hj
    have := ((hasB_iff _ _ _).1 h1).2 j hj
    rw [hm, bit_zero] at this
    revert this
    cases bit a.l j <;> cases bit a.v j <;> simp
  obtain ⟨v, m, l, g⟩ := a
  simp only at hm hv e
  subst hm hv e
  rfl
theorem left2_same {a b : V4} (ha : a.ok = true) (hb : b.ok = true) : left2 true a b = (a, b, true) := by
  obtain ⟨h1, h2⟩ := V4.stays ha
  obtain ⟨h3, h4⟩ := V4.stays hb
  simp only [left2, lvV, h1, h2, h3, h4, Bool.and_self, if_true]
theorem without_same {a b : V4} (ha : a.ok = true) (hb : b.ok = true) (h : ∀ x, ¬ (a.has x = true ∧ b.has x = true)) : a.without b = a := by
  have hbl := V4.low_has hb
  have n1 : eqb a.l b.l = false := by
    rw [eqb_false]
    intro e
    exact h b.l ⟨by rw [← e]; exact V4.low_has ha, hbl⟩
  have n2 : (eqb b.l b.h && (!eqb a.l b.l && eqb a.h b.l)) = false := by
    have : eqb a.h b.l = false := by
      rw [eqb_false]
      intro e
      exact h b.l ⟨by rw [← e]; exact V4.high_has ha, hbl⟩
    rw [this]; simp
  unfold V4.without woL woH
  rw [n2, n1]
  simp
theorem V4.equal_none {a b : V4} (ha : a.ok = true) (hb : b.ok = true) (h : (a.equal b).2.2 = false) : a.other b = (a, b, true) := by
  have hno : ∀ x, ¬ (a.has x = true ∧ b.has x = true) := fun x ⟨h1, h2⟩ => by
    rw [(V4.equal_has h1 h2).1] at h; cases h
  have hno' : ∀ x, ¬ (b.has x = true ∧ a.has x = true) := fun x ⟨h1, h2⟩ => hno x ⟨h2, h1⟩
  have n1 : eqb a.l b.l = false := by
    rw [eqb_false]
    intro e
    exact hno b.l ⟨by rw [← e]; exact V4.low_has ha, V4.low_has hb⟩
  unfold V4.other
  rw [without_same ha hb hno, without_same hb ha hno', n1]
  simp only [Bool.and_false, Bool.not_false]
  exact left2_same ha hb
theorem meets_self (a : V4) : a.meets a = true := by
  unfold V4.meets
  rw [eqb_iff]
  apply bext
  intro j hj
  rw [bit_andn _ _ _ hj, bit_xor, bit_zero]
  simp
theorem bor_self (x : BitVec 64) : bor x x = x := by unfold bor; exact BitVec.or_self
theorem band_self (x : BitVec 64) : band x x = x := by unfold band; exact BitVec.and_self
theorem V4.other_none {a b : V4} (ha : a.ok = true) (hb : b.ok = true) (h : (a.other b).2.2 = false) : a.equal b = (a, b, true) := by
  have hno : ∀ x y, a.has x = true → b.has y = true → x = y := fun x y h1 h2 => by
    apply Decidable.byContradiction
    intro hne
    rw [(V4.other_has h1 h2 hne).1] at h; cases h
  have e1 := hno _ _ (V4.low_has ha) (V4.low_has hb)
  have e2 := hno _ _ (V4.high_has ha) (V4.low_has hb)
  have e3 := hno _ _ (V4.low_has ha) (V4.high_has hb)
  have a1 := V4.alone_of ha ((eqb_iff _ _).2 (by rw [e1, e2]))
  have b1 := V4.alone_of hb ((eqb_iff _ _).2 (by rw [← e1, e3]))
  have e : a = b := by rw [a1, b1, e1]
  subst e
  unfold V4.equal
  rw [if_pos (meets_self a)]
  have er : a.rawEqual a = a := by
    unfold V4.rawEqual
    rw [bor_self, band_self, bmax_self, bmin_self]
  rw [er]
  exact left2_same ha ha
theorem bmax_left {x y : BitVec 64} (h : nv y ≤ nv x) : bmax x y = x := by unfold bmax; rw [if_neg (by omega)]
theorem bmin_left {x y : BitVec 64} (h : nv x ≤ nv y) : bmin x y = x := by unfold bmin; rw [if_neg (by omega)]
theorem V4.less_none {a b : V4} (ha : a.ok = true) (hb : b.ok = true) (h : (a.less b).2.2 = false) : a.notLess b = (a, b, true) := by
  have hle : nv b.h ≤ nv a.l := by
    apply Decidable.byContradiction
    intro hn
    rw [(V4.less_has (V4.low_has ha) (V4.high_has hb) (by omega)).1] at h; cases h
  have h1 := V4.le ha
  have h2 := V4.le hb
  unfold V4.notLess
  rw [bmax_left (by omega), bmin_left (by omega)]
  exact left2_same ha hb
theorem V4.notLess_none {a b : V4} (ha : a.ok = true) (hb : b.ok = true) (h : (a.notLess b).2.2 = false) : a.less b = (a, b, true) := by
  have hlt : nv a.h < nv b.l := by
    apply Decidable.byContradiction
    intro hn
    rw [(V4.notLess_has (V4.high_has ha) (V4.low_has hb) (by omega)).1] at h; cases h
  have h1 := V4.le ha
  have h2 := V4.le hb
  have n1 := nv_nonneg a.l
  have n2 := nv_lt b.h
  have z1 : eqb b.h zero = false := by
    rw [eqb_false]; intro e; rw [e, nv_zero] at h2; omega
  have z2 : eqb a.l top = false := by
    rw [eqb_false]; intro e; rw [e, nv_top] at h1; have := nv_lt b.l; omega
  unfold V4.less
  rw [z1, z2, if_neg (by decide), bmin_left (by rw [nv_sub, nv_one]; omega), bmax_left (by rw [nv_add, nv_one]; omega)]
  exact left2_same ha hb
/- what is known already, told again -/
theorem V6.set_same {α : Type} {v : V6 α} {j : Nat} (hj : j < 6) {a : α} (h : v.get j = a) : v.set j a = v :=
  V6.ext6 fun i hi => by
    rw [V6.get_set _ _ _ _ hj hi]
    by_cases c : j = i
    · subst c; rw [if_pos rfl, h]
    · rw [if_neg c]
theorem wth_same {t : St} {j : Nat} {a : V4} (hj : j < 6) (hs : t.s.get j = true) (hr : t.r.get j = a) : t.wth j a = t := by
  unfold St.wth
  rw [V6.set_same hj hs, V6.set_same hj hr]
theorem left_same {i : Ins} {n : Int} {t : St} (hr : Right i n) (hu : lacks (useOf i) t.s = false) (ho : i.op = 13 ∨ i.op = 14) : leftS i t (t.r.get i.d.toNat, srcV i t, true) = t := by
  have hg := right_regs hr
  have hd := reg_nat hg.1
  have e1 : t.wth i.d.toNat (t.r.get i.d.toNat) = t := wth_same hd (lacks_no hu _ hd (use_d (by omega) (by omega) (by omega) (by omega) hg.1 hg.2)) rfl
  unfold leftS
  rw [if_pos rfl]
  by_cases c : i.s = -1
  · rw [if_pos c]; exact e1
  · rw [if_neg c]
    have hs := (srcB_iff.1 hg.2).resolve_left c
    show (t.wth i.d.toNat (t.r.get i.d.toNat)).wth i.s.toNat (srcV i t) = t
    rw [e1]
    refine wth_same (reg_nat hs) (lacks_no hu _ (reg_nat hs) (use_s (by omega) (by omega) hs)) ?_
    unfold srcV
    rw [if_neg c]
theorem left_live {i : Ins} {t : St} {x : V4 × V4 × Bool} (hl : t.live = true) : (leftS i t x).live = x.2.2 := by
  unfold leftS
  by_cases c : x.2.2 = true
  · rw [if_pos c, c]; split <;> exact hl
  · rw [if_neg c]
    cases h : x.2.2 with
    | true => exact absurd h c
    | false => rfl
theorem branch_iff {i : Ins} : branchB i = true ↔ i.op = 13 ∨ i.op = 14 := by simp [branchB]
/- of a branch that may go on in one way alone, that way's state is as it was -/
theorem branch_one {i : Ins} {n : Int} {t : St} (hr : Right i n) (ht : t.Ok) (hl : t.live = true) (h0 : trapS i t = 0) (ho : branchB i = true) :
    ((goS i t).2.live = false → (goS i t).1 = t ∧ (goS i t).2 = St.z) ∧ ((goS i t).1.live = false → (goS i t).2 = t ∧ (goS i t).1 = St.z) := by
  have ho' := branch_iff.1 ho
  obtain ⟨hu, _, _⟩ := trap_zero h0
  have hs := srcV_ok hr ht hu (by omega) (by omega)
  have hd := dstV_ok hr ht hu (by omega) (by omega) (by omega) (by omega)
  have dead : ∀ x : V4 × V4 × Bool, x.2.2 = false → leftS i t x = St.z := fun x h => by unfold leftS; rw [h]; rfl
  rcases ho' with ho' | ho'
  · rw [goS_eq ho']
    constructor
    · intro h
      simp only at h ⊢
      rw [left_live hl] at h
      rw [V4.equal_none hd hs h, dead _ h]
      exact ⟨left_same hr hu (Or.inl ho'), rfl⟩
    · intro h
      simp only at h ⊢
      rw [left_live hl] at h
      rw [V4.other_none hd hs h, dead _ h]
      exact ⟨left_same hr hu (Or.inl ho'), rfl⟩
  · rw [goS_lt ho']
    constructor
    · intro h
      simp only at h ⊢
      rw [left_live hl] at h
      rw [V4.less_none hd hs h, dead _ h]
      exact ⟨left_same hr hu (Or.inr ho'), rfl⟩
    · intro h
      simp only at h ⊢
      rw [left_live hl] at h
      rw [V4.notLess_none hd hs h, dead _ h]
      exact ⟨left_same hr hu (Or.inr ho'), rfl⟩
/- a jump, on what may be -/
theorem jump_step {t : St} {o : Int} : stepS ⟨12, 0, 0, 0#64, o⟩ t = if t.live then (St.z, t, 0) else (St.z, St.z, 0) := by
  unfold stepS
  split
  · rename_i hl
    have : trapS ⟨12, 0, 0, 0#64, o⟩ t = 0 := by
      unfold trapS useOf
      rw [if_pos rfl, lacks_of fun j hj h => by rw [no6_get j hj] at h; cases h]
      rfl
    rw [if_pos this]; rfl
  · rfl
theorem mov_step {t : St} {d : Int} {x : BitVec 64} (hl : t.live = true) : stepS ⟨1, d, -1, x, 0⟩ t = (t.wth d.toNat (V4.of x), St.z, 0) := by
  unfold stepS
  rw [if_pos hl]
  have : trapS ⟨1, d, -1, x, 0⟩ t = 0 := by
    unfold trapS useOf
    rw [if_neg (by decide : ¬ (1 : Int) = 12), if_neg (by decide : ¬ (1 : Int) = 15), if_pos rfl, if_pos (Or.inl rfl), lacks_of fun j hj h => by rw [no6_get j hj] at h; cases h]
    rfl
  rw [if_pos this]
  rfl
theorem two_go {i : Ins} {n : Int} {t : St} (hr : Right i n) (ht : t.Ok) (h0 : trapS i t = 0) (ho : i.op ≤ 9) : ∃ a, a.ok = true ∧ goS i t = (t.wth i.d.toNat a, St.z) ∧ ∀ m, t.Has m → a.has (numN i.op (m.r.get i.d.toNat) (srcN i m)) = true := by
  have hk := kind_iff.1 hr.kind
  obtain ⟨hu, _, _⟩ := trap_zero h0
  have hs := srcV_ok hr ht hu (by omega) (by omega)
  by_cases c7 : i.op = 1
  · rw [goS_mov c7]
    refine ⟨_, hs, rfl, fun m hm => ?_⟩
    rw [numN_mov c7]
    exact has_srcV hr hm hu (by omega) (by omega)
  · rw [goS_two (by omega)]
    exact ⟨_, V4.two_ok (by omega) (dstV_ok hr ht hu (by omega) (by omega) c7 (by omega)) hs, rfl, fun m hm => V4.two_has (by omega) (has_dstV hr hm hu (by omega) (by omega) c7 (by omega)) (has_srcV hr hm hu (by omega) (by omega))⟩
/- what a folded step adds is what the step adds -/
theorem fold_adds {i : Ins} {n : Int} {t : St} (hr : Right i n) (ht : t.Ok) (h0 : (stepS i t).2.2 = 0) :
    (stepS (foldI i t) t).2.2 = 0 ∧ ∀ (S : List St) (k : Nat), addS (addS S (k + 1) (stepS (foldI i t) t).1) (k + 1 + (foldI i t).of.toNat) (stepS (foldI i t) t).2.1 = addS (addS S (k + 1) (stepS i t).1) (k + 1 + i.of.toNat) (stepS i t).2.1 := by
  have zadd : ∀ (S : List St) k, addS S k St.z = S := fun S k => by unfold addS; rfl
  unfold foldI
  by_cases hl : t.live = true
  · rw [if_pos hl]
    obtain ⟨t0, e1, e2⟩ := stepS_live hl h0
    have hd := reg_nat (right_regs hr).1
    by_cases c1 : (decide (i.op ≤ 9) && ((stepS i t).1.r.get i.d.toNat).alone) = true
    · rw [if_pos c1]
      rw [Bool.and_eq_true, decide_eq_true_eq] at c1
      obtain ⟨a, ha, hgo, _⟩ := two_go hr ht t0 c1.1
      have hal := c1.2
      rw [e1, hgo, St.wth_r hd hd, if_pos rfl] at hal
      have ea := V4.alone_of ha hal
      rw [mov_step hl, e1, e2, hgo]
      simp only
      rw [St.wth_r hd hd, if_pos rfl, ← ea]
      exact ⟨(by first | rfl | trivial), fun S k => by rw [zadd, zadd]⟩
    rw [if_neg c1]
    by_cases c2 : (branchB i && !(stepS i t).2.1.live) = true
    · rw [if_pos c2]
      rw [Bool.and_eq_true, Bool.not_eq_true', e2] at c2
      obtain ⟨e3, e4⟩ := (branch_one hr ht hl t0 c2.1).1 c2.2
      unfold onI
      rw [jump_step, if_pos hl, e1, e2, e3, e4]
      exact ⟨(by first | rfl | trivial), fun S k => by simp only; rw [zadd, zadd]; rfl⟩
    rw [if_neg c2]
    by_cases c3 : (branchB i && !(stepS i t).1.live) = true
    · rw [if_pos c3]
      rw [Bool.and_eq_true, Bool.not_eq_true', e1] at c3
      obtain ⟨e3, e4⟩ := (branch_one hr ht hl t0 c3.1).2 c3.2
      rw [jump_step, if_pos hl, e1, e2, e3, e4]
      exact ⟨(by first | rfl | trivial), fun S k => rfl⟩
    rw [if_neg c3]
    exact ⟨h0, fun S k => rfl⟩
  · rw [if_neg hl]
    unfold onI
    rw [jump_step, if_neg hl]
    unfold stepS
    rw [if_neg hl]
    exact ⟨(by first | rfl | trivial), fun S k => by simp only; rw [zadd, zadd, zadd]⟩
/- of a machine that is had, a folded step makes what the step makes -/
theorem jump_m {m : Mach} {o : Int} : stepM ⟨12, 0, 0, 0#64, o⟩ m = m.on o := by
  unfold stepM useOf
  rw [if_pos rfl, lacks_of fun j hj h => by rw [no6_get j hj] at h; cases h]
  rfl
theorem mov_m {m : Mach} {d : Int} {x : BitVec 64} : stepM ⟨1, d, -1, x, 0⟩ m = (m.wth d.toNat x).on 0 := by
  unfold stepM useOf
  rw [if_neg (by decide : ¬ (1 : Int) = 12), if_neg (by decide : ¬ (1 : Int) = 15), if_pos rfl, if_pos (Or.inl rfl), lacks_of fun j hj h => by rw [no6_get j hj] at h; cases h]
  rfl
theorem two_m {i : Ins} {n : Int} {m : Mach} (hr : Right i n) (hu : lacks (useOf i) m.s = false) (ho : i.op ≤ 9) : stepM i m = (m.wth i.d.toNat (numN i.op (m.r.get i.d.toNat) (srcN i m))).on 0 := by
  have hk := kind_iff.1 hr.kind
  exact stepM_two hu (by omega)
theorem branch_live {i : Ins} {n : Int} {t : St} {m : Mach} (hr : Right i n) (hm : t.Has m) (h0 : trapS i t = 0) (ho : branchB i = true) :
    (stepM i m = m.on i.of ∧ (goS i t).2.live = true) ∨ (stepM i m = m.on 0 ∧ (goS i t).1.live = true) := by
  have ho' := branch_iff.1 ho
  obtain ⟨hu, _, _⟩ := trap_zero h0
  have hs := has_srcV hr hm hu (by omega) (by omega)
  have hd := has_dstV hr hm hu (by omega) (by omega) (by omega) (by omega)
  have hlm := has_lacks hm hu
  rcases ho' with ho' | ho'
  · rw [stepM_eq hlm ho', goS_eq ho']
    by_cases e : eqb (m.r.get i.d.toNat) (srcN i m) = true
    · rw [if_pos e]
      refine Or.inl ⟨rfl, ?_⟩
      simp only
      rw [left_live hm.live]
      have e' := (eqb_iff _ _).1 e
      rw [← e'] at hs
      exact (V4.equal_has hd hs).1
    · rw [if_neg e]
      refine Or.inr ⟨rfl, ?_⟩
      simp only
      rw [left_live hm.live]
      exact (V4.other_has hd hs fun h => e ((eqb_iff _ _).2 h)).1
  · rw [stepM_lt hlm ho', goS_lt ho']
    by_cases e : nv (m.r.get i.d.toNat) < nv (srcN i m)
    · rw [if_pos e]
      refine Or.inl ⟨rfl, ?_⟩
      simp only
      rw [left_live hm.live]
      exact (V4.less_has hd hs e).1
    · rw [if_neg e]
      refine Or.inr ⟨rfl, ?_⟩
      simp only
      rw [left_live hm.live]
      exact (V4.notLess_has hd hs (by omega)).1
theorem fold_step {i : Ins} {n : Int} {t : St} {m : Mach} (hr : Right i n) (h0 : (stepS i t).2.2 = 0) (hm : t.Has m) : stepM (foldI i t) m = stepM i m := by
  have hl := hm.live
  have ht := hm.ok
  obtain ⟨t0, e1, e2⟩ := stepS_live hl h0
  have hd := reg_nat (right_regs hr).1
  obtain ⟨hu, _, _⟩ := trap_zero t0
  unfold foldI
  rw [if_pos hl]
  by_cases c1 : (decide (i.op ≤ 9) && ((stepS i t).1.r.get i.d.toNat).alone) = true
  · rw [if_pos c1]
    rw [Bool.and_eq_true, decide_eq_true_eq] at c1
    obtain ⟨a, ha, hgo, hn⟩ := two_go hr ht t0 c1.1
    have hal := c1.2
    rw [e1, hgo, St.wth_r hd hd, if_pos rfl] at hal
    have ea := V4.alone_of ha hal
    have hx := hn m hm
    rw [ea] at hx
    rw [e1, hgo]
    simp only
    rw [St.wth_r hd hd, if_pos rfl, mov_m, two_m hr (has_lacks hm hu) c1.1, V4.of_has.1 hx]
  rw [if_neg c1]
  by_cases c2 : (branchB i && !(stepS i t).2.1.live) = true
  · rw [if_pos c2]
    rw [Bool.and_eq_true, Bool.not_eq_true', e2] at c2
    rcases branch_live hr hm t0 c2.1 with ⟨_, h2⟩ | ⟨h1, _⟩
    · rw [c2.2] at h2; cases h2
    · rw [h1]; exact jump_m
  rw [if_neg c2]
  by_cases c3 : (branchB i && !(stepS i t).1.live) = true
  · rw [if_pos c3]
    rw [Bool.and_eq_true, Bool.not_eq_true', e1] at c3
    rcases branch_live hr hm t0 c3.1 with ⟨h1, _⟩ | ⟨_, h2⟩
    · rw [h1]; exact jump_m
    · rw [c3.2] at h2; cases h2
  rw [if_neg c3]
end Go.Proofs.Ytkigmocchaikgab
