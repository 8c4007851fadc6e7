import Derived.Test.YtkigmocchaikgabGreatGz2
import Derived.Test.YtkigmocchaikgabGreatProg
import Derived.Test.YtkigmocchaikgabGreatGz4
import Derived.Test.YtkigmocchaikgabGreatGz6
import Derived.Test.YtkigmocchaikgabGreatGz5
/- Ways of bodies, written by a program (ways.py): what each asks for, and hands back. -/
namespace Go.Proofs.YtkigmocchaikgabGreat
open Go.RowKit

theorem fwith_w0 {t : St} {d : Int} {a : V4} (h : (decide (0 ≤ d) && decide (d < 6) && (Nat.ble (1 + Int.toNat d * 1 + 1) (List.length (St.cs t)) && true && (decide (0 ≤ d) && decide (d < 6) && (Nat.ble (7 + Int.toNat d * 4 + List.length (V4.cs a)) (List.length (St.cs (St.mk (St.live t) (V6.set (St.s t) (Int.toNat d) true) (St.r t)))) && true && true)))) = true) (c0 : Eff.mk (AV.raw undef) [(0, List.set (St.cs t) (1 + Int.toNat d * 1) (AC.b true))] none = Eff.mk (AV.raw undef) [(0, St.cs (St.mk (St.live t) (V6.set (St.s t) (Int.toNat d) true) (St.r t)))] none) (c1 : Eff.mk (AV.raw undef) [(0, splice (St.cs (St.mk (St.live t) (V6.set (St.s t) (Int.toNat d) true) (St.r t))) (7 + Int.toNat d * 4) (V4.cs a))] none = Eff.mk (AV.raw undef) [(0, St.cs (St.wth t (Int.toNat d) a))] none) :
    CallOK Tryz.prog ⟨68, [AV.ag (St.cs t), AV.c (AC.i d), AV.ag (V4.cs a)], [], ⟨AV.ag [AC.b (St.live t), AC.b (V6.x0 (V6.set (St.s t) (Int.toNat d) true)), AC.b (V6.x1 (V6.set (St.s t) (Int.toNat d) true)), AC.b (V6.x2 (V6.set (St.s t) (Int.toNat d) true)), AC.b (V6.x3 (V6.set (St.s t) (Int.toNat d) true)), AC.b (V6.x4 (V6.set (St.s t) (Int.toNat d) true)), AC.b (V6.x5 (V6.set (St.s t) (Int.toNat d) true)), AC.u (V4.v (V6.x0 (V6.set (St.r t) (Int.toNat d) a))), AC.u (V4.m (V6.x0 (V6.set (St.r t) (Int.toNat d) a))), AC.u (V4.l (V6.x0 (V6.set (St.r t) (Int.toNat d) a))), AC.u (V4.h (V6.x0 (V6.set (St.r t) (Int.toNat d) a))), AC.u (V4.v (V6.x1 (V6.set (St.r t) (Int.toNat d) a))), AC.u (V4.m (V6.x1 (V6.set (St.r t) (Int.toNat d) a))), AC.u (V4.l (V6.x1 (V6.set (St.r t) (Int.toNat d) a))), AC.u (V4.h (V6.x1 (V6.set (St.r t) (Int.toNat d) a))), AC.u (V4.v (V6.x2 (V6.set (St.r t) (Int.toNat d) a))), AC.u (V4.m (V6.x2 (V6.set (St.r t) (Int.toNat d) a))), AC.u (V4.l (V6.x2 (V6.set (St.r t) (Int.toNat d) a))), AC.u (V4.h (V6.x2 (V6.set (St.r t) (Int.toNat d) a))), AC.u (V4.v (V6.x3 (V6.set (St.r t) (Int.toNat d) a))), AC.u (V4.m (V6.x3 (V6.set (St.r t) (Int.toNat d) a))), AC.u (V4.l (V6.x3 (V6.set (St.r t) (Int.toNat d) a))), AC.u (V4.h (V6.x3 (V6.set (St.r t) (Int.toNat d) a))), AC.u (V4.v (V6.x4 (V6.set (St.r t) (Int.toNat d) a))), AC.u (V4.m (V6.x4 (V6.set (St.r t) (Int.toNat d) a))), AC.u (V4.l (V6.x4 (V6.set (St.r t) (Int.toNat d) a))), AC.u (V4.h (V6.x4 (V6.set (St.r t) (Int.toNat d) a))), AC.u (V4.v (V6.x5 (V6.set (St.r t) (Int.toNat d) a))), AC.u (V4.m (V6.x5 (V6.set (St.r t) (Int.toNat d) a))), AC.u (V4.l (V6.x5 (V6.set (St.r t) (Int.toNat d) a))), AC.u (V4.h (V6.x5 (V6.set (St.r t) (Int.toNat d) a)))], [], none⟩⟩ :=
  val_run 2000 [Eff.mk (AV.raw undef) [(0, St.cs (St.mk (St.live t) (V6.set (St.s t) (Int.toNat d) true) (St.r t)))] none, Eff.mk (AV.raw undef) [(0, St.cs (St.wth t (Int.toNat d) a))] none] [] ([]) [(1, 5), (1, 8)] Tryz.func68 rfl rfl rfl rfl (by kernel_rfl) h (cr_same c0 (cr_same c1 cr_nil))
theorem fbegin_w0 {a : V4} {t : St} (c0 : CallOK Tryz.prog (CallRec.mk 24 [] [] (Eff.mk (AV.ag (V4.cs a)) [] none))) (c1 : CallOK Tryz.prog (CallRec.mk 68 [AV.ag (St.cs St.e), AV.c (AC.i 1), AV.ag (V4.cs a)] [] (Eff.mk (AV.ag (St.cs t)) [] none))) :
    CallOK Tryz.prog ⟨33, [], [], ⟨AV.ag (St.cs t), [], none⟩⟩ :=
  val_run 2000 [Eff.mk (AV.ag (V4.cs a)) [] none, Eff.mk (AV.ag (St.cs t)) [] none] [] ([]) [] Tryz.func33 rfl rfl rfl rfl (by kernel_rfl) rfl (cr_cons c0 (cr_cons c1 cr_nil))
theorem fcTop_w0 {t : St} {w : World} {β : Bs} {n : Nat} (h : (!St.live t && (!eqCs (St.cs t) (St.cs St.z) && true)) = true) :
    ART Tryz.prog 26 (cx w β n []) Tryz.f26.ntmps ([Item.code (bodyOf Tryz.f26)]) (Kn.start [AV.ag (St.cs t)] [] 0) (REff w β ⟨AV.c (AC.i 1), [], none⟩) :=
  run_eff [] (none) 2000 [] [true, true] ([true]) [] Tryz.func26 (ekeys0 rfl n) (by kernel_rfl) h cr_nil
theorem fcTop_w1 {t : St} {C : Cx} {R : Ending → World → Prop} (h : (!St.live t && (!!eqCs (St.cs t) (St.cs St.z) && true)) = true) (lo : Kn.Low ⟨[(1, AV.c (AC.w 0)), (14, AV.ag (bcs (St.s t))), (15, AV.c (AC.i 0))], [(0, Ent.mk true (St.cs t) 0)], 1⟩) (hF : ∀ k, C.F k → k < 1) (z : ART Tryz.prog 26 C Tryz.f26.ntmps (cutAt Tryz.f26 0) ⟨[(1, AV.c (AC.w 0)), (14, AV.ag (bcs (St.s t))), (15, AV.c (AC.i 0))], [(0, Ent.mk true (St.cs t) 0)], 1⟩ R) :
    ART Tryz.prog 26 C Tryz.f26.ntmps ([Item.code (bodyOf Tryz.f26)]) (Kn.start [AV.ag (St.cs t)] [] 0) R :=
  run_cut ⟨[(1, AV.c (AC.w 0)), (14, AV.ag (bcs (St.s t))), (15, AV.c (AC.i 0))], [(0, Ent.mk true (St.cs t) 0)], 1⟩ 2000 [] [true, false] ([true]) [] Tryz.func26 (by kernel_rfl) h cr_nil lo hF z
theorem fcTop_w2 {t : St} {C : Cx} {R : Ending → World → Prop} (h : (!!St.live t && true) = true) (lo : Kn.Low ⟨[(1, AV.c (AC.w 0)), (14, AV.ag (bcs (St.s t))), (15, AV.c (AC.i 0))], [(0, Ent.mk true (St.cs t) 0)], 1⟩) (hF : ∀ k, C.F k → k < 1) (z : ART Tryz.prog 26 C Tryz.f26.ntmps (cutAt Tryz.f26 0) ⟨[(1, AV.c (AC.w 0)), (14, AV.ag (bcs (St.s t))), (15, AV.c (AC.i 0))], [(0, Ent.mk true (St.cs t) 0)], 1⟩ R) :
    ART Tryz.prog 26 C Tryz.f26.ntmps ([Item.code (bodyOf Tryz.f26)]) (Kn.start [AV.ag (St.cs t)] [] 0) R :=
  run_cut ⟨[(1, AV.c (AC.w 0)), (14, AV.ag (bcs (St.s t))), (15, AV.c (AC.i 0))], [(0, Ent.mk true (St.cs t) 0)], 1⟩ 2000 [] [false, false] ([true]) [] Tryz.func26 (by kernel_rfl) h cr_nil lo hF z
theorem fcTop_all {t : St} {w : World} {β : Bs} {n : Nat} {E : Eff} (hn : n ≤ 1)
    (l0 : (!St.live t) = true → (!eqCs (St.cs t) (St.cs St.z)) = true → ((⟨AV.c (AC.i 1), [], none⟩ : Eff) = E))
    (l1 : (!St.live t) = true → (!eqCs (St.cs t) (St.cs St.z)) = false → Kn.Low ⟨[(1, AV.c (AC.w 0)), (14, AV.ag (bcs (St.s t))), (15, AV.c (AC.i 0))], [(0, Ent.mk true (St.cs t) 0)], 1⟩ ∧ ART Tryz.prog 26 (cx w β n []) Tryz.f26.ntmps (cutAt Tryz.f26 0) ⟨[(1, AV.c (AC.w 0)), (14, AV.ag (bcs (St.s t))), (15, AV.c (AC.i 0))], [(0, Ent.mk true (St.cs t) 0)], 1⟩ (REff w β E))
    (l2 : (!St.live t) = false → Kn.Low ⟨[(1, AV.c (AC.w 0)), (14, AV.ag (bcs (St.s t))), (15, AV.c (AC.i 0))], [(0, Ent.mk true (St.cs t) 0)], 1⟩ ∧ ART Tryz.prog 26 (cx w β n []) Tryz.f26.ntmps (cutAt Tryz.f26 0) ⟨[(1, AV.c (AC.w 0)), (14, AV.ag (bcs (St.s t))), (15, AV.c (AC.i 0))], [(0, Ent.mk true (St.cs t) 0)], 1⟩ (REff w β E)) :
    ART Tryz.prog 26 (cx w β n []) Tryz.f26.ntmps ([Item.code (bodyOf Tryz.f26)]) (Kn.start [AV.ag (St.cs t)] [] 0) (REff w β E) :=
  (tf (!St.live t)).elim (fun h0 => (tf (!eqCs (St.cs t) (St.cs St.z))).elim (fun h1 => (match l0 h0 h1 with | e => art_eq (fcTop_w0 (and_yes h0 (and_yes h1 rfl))) e)) (fun h1 => (match l1 h0 h1 with | ⟨lo, z⟩ => fcTop_w1 (and_yes h0 (and_yes (not_yes h1) rfl)) lo (fun _ hk => Nat.lt_of_lt_of_le hk hn) z))) (fun h0 => (match l2 h0 with | ⟨lo, z⟩ => fcTop_w2 (and_yes (not_yes h0) rfl) lo (fun _ hk => Nat.lt_of_lt_of_le hk hn) z))
theorem fcRound_w0 {t : St} {j : Int} {w : World} {β : Bs} {n : Nat} (h : (decide (j < 6) && (AC.isB (Option.getD (bcs (St.s t))[Int.toNat j * 1]? (AC.b false)) && Nat.blt (Int.toNat j * 1) (List.length (bcs (St.s t))) && (decide (0 ≤ j) && decide (j < 6)) && (V6.get (St.s t) (Int.toNat j) && (decide (0 ≤ j) && decide (j < 6) && (Nat.ble (7 + Int.toNat j * 4 + 4) (List.length (St.cs t)) && (er (V4.ok (V6.get (St.r t) (Int.toNat j))) != 0 && true)))))) = true) (c0 : Eff.mk (AV.c (AC.b (AC.asB (Option.getD (bcs (St.s t))[Int.toNat j * 1]? (AC.b false))))) [] none = Eff.mk (AV.c (AC.b (V6.get (St.s t) (Int.toNat j)))) [] none) (c1 : Eff.mk (AV.ag (List.take 4 (List.drop (7 + Int.toNat j * 4) (St.cs t)))) [] none = Eff.mk (AV.ag (V4.cs (V6.get (St.r t) (Int.toNat j)))) [] none) (c2 : CallOK Tryz.prog (CallRec.mk 23 [AV.ag (V4.cs (V6.get (St.r t) (Int.toNat j)))] [] (Eff.mk (AV.c (AC.i (er (V4.ok (V6.get (St.r t) (Int.toNat j)))))) [] none))) :
    ART Tryz.prog 26 (cx w β n []) Tryz.f26.ntmps (cutAt Tryz.f26 0) (Kn.mk [(1, AV.c (AC.w 0)), (14, AV.ag (bcs (St.s t))), (15, AV.c (AC.i j))] [(0, Ent.mk true (St.cs t) 0)] 1) (REff w β ⟨AV.c (AC.i 1), [], none⟩) :=
  run_eff [] (none) 2000 [Eff.mk (AV.c (AC.b (V6.get (St.s t) (Int.toNat j)))) [] none, Eff.mk (AV.ag (V4.cs (V6.get (St.r t) (Int.toNat j)))) [] none, Eff.mk (AV.c (AC.i (er (V4.ok (V6.get (St.r t) (Int.toNat j)))))) [] none] [true, true, true, true] ([true]) [(5, 1), (6, 5), (6, 16)] Tryz.func26 (ekeys0 rfl n) (by kernel_rfl) h (cr_same c0 (cr_same c1 (cr_cons c2 cr_nil)))
theorem fcRound_w1 {t : St} {j : Int} {C : Cx} {R : Ending → World → Prop} (h : (decide (j < 6) && (AC.isB (Option.getD (bcs (St.s t))[Int.toNat j * 1]? (AC.b false)) && Nat.blt (Int.toNat j * 1) (List.length (bcs (St.s t))) && (decide (0 ≤ j) && decide (j < 6)) && (V6.get (St.s t) (Int.toNat j) && (decide (0 ≤ j) && decide (j < 6) && (Nat.ble (7 + Int.toNat j * 4 + 4) (List.length (St.cs t)) && (!er (V4.ok (V6.get (St.r t) (Int.toNat j))) != 0 && (!!V6.get (St.s t) (Int.toNat j) && true))))))) = true) (c0 : Eff.mk (AV.c (AC.b (AC.asB (Option.getD (bcs (St.s t))[Int.toNat j * 1]? (AC.b false))))) [] none = Eff.mk (AV.c (AC.b (V6.get (St.s t) (Int.toNat j)))) [] none) (c1 : Eff.mk (AV.ag (List.take 4 (List.drop (7 + Int.toNat j * 4) (St.cs t)))) [] none = Eff.mk (AV.ag (V4.cs (V6.get (St.r t) (Int.toNat j)))) [] none) (c2 : CallOK Tryz.prog (CallRec.mk 23 [AV.ag (V4.cs (V6.get (St.r t) (Int.toNat j)))] [] (Eff.mk (AV.c (AC.i (er (V4.ok (V6.get (St.r t) (Int.toNat j)))))) [] none))) (lo : Kn.Low ⟨[(1, AV.c (AC.w 0)), (14, AV.ag (bcs (St.s t))), (15, AV.c (AC.i (IntKind.wrap IntKind.i64 (j + 1))))], [(0, Ent.mk true (St.cs t) 0)], 1⟩) (hF : ∀ k, C.F k → k < 1) (z : ART Tryz.prog 26 C Tryz.f26.ntmps (cutAt Tryz.f26 0) ⟨[(1, AV.c (AC.w 0)), (14, AV.ag (bcs (St.s t))), (15, AV.c (AC.i (IntKind.wrap IntKind.i64 (j + 1))))], [(0, Ent.mk true (St.cs t) 0)], 1⟩ R) :
    ART Tryz.prog 26 C Tryz.f26.ntmps (cutAt Tryz.f26 0) (Kn.mk [(1, AV.c (AC.w 0)), (14, AV.ag (bcs (St.s t))), (15, AV.c (AC.i j))] [(0, Ent.mk true (St.cs t) 0)] 1) R :=
  run_cut ⟨[(1, AV.c (AC.w 0)), (14, AV.ag (bcs (St.s t))), (15, AV.c (AC.i (IntKind.wrap IntKind.i64 (j + 1))))], [(0, Ent.mk true (St.cs t) 0)], 1⟩ 2000 [Eff.mk (AV.c (AC.b (V6.get (St.s t) (Int.toNat j)))) [] none, Eff.mk (AV.ag (V4.cs (V6.get (St.r t) (Int.toNat j)))) [] none, Eff.mk (AV.c (AC.i (er (V4.ok (V6.get (St.r t) (Int.toNat j)))))) [] none] [true, true, false, false, false] ([true]) [(5, 1), (6, 5), (6, 16)] Tryz.func26 (by kernel_rfl) h (cr_same c0 (cr_same c1 (cr_cons c2 cr_nil))) lo hF z
theorem fcRound_w2 {t : St} {j : Int} {w : World} {β : Bs} {n : Nat} (h : (decide (j < 6) && (AC.isB (Option.getD (bcs (St.s t))[Int.toNat j * 1]? (AC.b false)) && Nat.blt (Int.toNat j * 1) (List.length (bcs (St.s t))) && (decide (0 ≤ j) && decide (j < 6)) && (!V6.get (St.s t) (Int.toNat j) && (!V6.get (St.s t) (Int.toNat j) && (decide (0 ≤ j) && decide (j < 6) && (Nat.ble (7 + Int.toNat j * 4 + 4) (List.length (St.cs t)) && (!eqCs (V4.cs (V6.get (St.r t) (Int.toNat j))) [AC.u 0#64, AC.u 0#64, AC.u 0#64, AC.u 0#64] && true))))))) = true) (c0 : Eff.mk (AV.c (AC.b (AC.asB (Option.getD (bcs (St.s t))[Int.toNat j * 1]? (AC.b false))))) [] none = Eff.mk (AV.c (AC.b (V6.get (St.s t) (Int.toNat j)))) [] none) (c1 : Eff.mk (AV.ag (List.take 4 (List.drop (7 + Int.toNat j * 4) (St.cs t)))) [] none = Eff.mk (AV.ag (V4.cs (V6.get (St.r t) (Int.toNat j)))) [] none) :
    ART Tryz.prog 26 (cx w β n []) Tryz.f26.ntmps (cutAt Tryz.f26 0) (Kn.mk [(1, AV.c (AC.w 0)), (14, AV.ag (bcs (St.s t))), (15, AV.c (AC.i j))] [(0, Ent.mk true (St.cs t) 0)] 1) (REff w β ⟨AV.c (AC.i 1), [], none⟩) :=
  run_eff [] (none) 2000 [Eff.mk (AV.c (AC.b (V6.get (St.s t) (Int.toNat j)))) [] none, Eff.mk (AV.ag (V4.cs (V6.get (St.r t) (Int.toNat j)))) [] none] [true, false, false, true, true] ([true]) [(5, 1), (6, 5), (6, 16)] Tryz.func26 (ekeys0 rfl n) (by kernel_rfl) h (cr_same c0 (cr_same c1 cr_nil))
theorem fcRound_w3 {t : St} {j : Int} {C : Cx} {R : Ending → World → Prop} (h : (decide (j < 6) && (AC.isB (Option.getD (bcs (St.s t))[Int.toNat j * 1]? (AC.b false)) && Nat.blt (Int.toNat j * 1) (List.length (bcs (St.s t))) && (decide (0 ≤ j) && decide (j < 6)) && (!V6.get (St.s t) (Int.toNat j) && (!V6.get (St.s t) (Int.toNat j) && (decide (0 ≤ j) && decide (j < 6) && (Nat.ble (7 + Int.toNat j * 4 + 4) (List.length (St.cs t)) && (!!eqCs (V4.cs (V6.get (St.r t) (Int.toNat j))) [AC.u 0#64, AC.u 0#64, AC.u 0#64, AC.u 0#64] && true))))))) = true) (c0 : Eff.mk (AV.c (AC.b (AC.asB (Option.getD (bcs (St.s t))[Int.toNat j * 1]? (AC.b false))))) [] none = Eff.mk (AV.c (AC.b (V6.get (St.s t) (Int.toNat j)))) [] none) (c1 : Eff.mk (AV.ag (List.take 4 (List.drop (7 + Int.toNat j * 4) (St.cs t)))) [] none = Eff.mk (AV.ag (V4.cs (V6.get (St.r t) (Int.toNat j)))) [] none) (lo : Kn.Low ⟨[(1, AV.c (AC.w 0)), (14, AV.ag (bcs (St.s t))), (15, AV.c (AC.i (IntKind.wrap IntKind.i64 (j + 1))))], [(0, Ent.mk true (St.cs t) 0)], 1⟩) (hF : ∀ k, C.F k → k < 1) (z : ART Tryz.prog 26 C Tryz.f26.ntmps (cutAt Tryz.f26 0) ⟨[(1, AV.c (AC.w 0)), (14, AV.ag (bcs (St.s t))), (15, AV.c (AC.i (IntKind.wrap IntKind.i64 (j + 1))))], [(0, Ent.mk true (St.cs t) 0)], 1⟩ R) :
    ART Tryz.prog 26 C Tryz.f26.ntmps (cutAt Tryz.f26 0) (Kn.mk [(1, AV.c (AC.w 0)), (14, AV.ag (bcs (St.s t))), (15, AV.c (AC.i j))] [(0, Ent.mk true (St.cs t) 0)] 1) R :=
  run_cut ⟨[(1, AV.c (AC.w 0)), (14, AV.ag (bcs (St.s t))), (15, AV.c (AC.i (IntKind.wrap IntKind.i64 (j + 1))))], [(0, Ent.mk true (St.cs t) 0)], 1⟩ 2000 [Eff.mk (AV.c (AC.b (V6.get (St.s t) (Int.toNat j)))) [] none, Eff.mk (AV.ag (V4.cs (V6.get (St.r t) (Int.toNat j)))) [] none] [true, false, false, true, false] ([true]) [(5, 1), (6, 5), (6, 16)] Tryz.func26 (by kernel_rfl) h (cr_same c0 (cr_same c1 cr_nil)) lo hF z
theorem fcRound_all {t : St} {j : Int} {w : World} {β : Bs} {n : Nat} {E : Eff} (hn : n ≤ 1)
    (l0 : (V6.get (St.s t) (Int.toNat j)) = true → (er (V4.ok (V6.get (St.r t) (Int.toNat j))) != 0) = true → (decide (j < 6)) = true ∧ (AC.isB (Option.getD (bcs (St.s t))[Int.toNat j * 1]? (AC.b false)) && Nat.blt (Int.toNat j * 1) (List.length (bcs (St.s t))) && (decide (0 ≤ j) && decide (j < 6))) = true ∧ (decide (0 ≤ j) && decide (j < 6)) = true ∧ (Nat.ble (7 + Int.toNat j * 4 + 4) (List.length (St.cs t))) = true ∧ (Eff.mk (AV.c (AC.b (AC.asB (Option.getD (bcs (St.s t))[Int.toNat j * 1]? (AC.b false))))) [] none = Eff.mk (AV.c (AC.b (V6.get (St.s t) (Int.toNat j)))) [] none) ∧ (Eff.mk (AV.ag (List.take 4 (List.drop (7 + Int.toNat j * 4) (St.cs t)))) [] none = Eff.mk (AV.ag (V4.cs (V6.get (St.r t) (Int.toNat j)))) [] none) ∧ (CallOK Tryz.prog (CallRec.mk 23 [AV.ag (V4.cs (V6.get (St.r t) (Int.toNat j)))] [] (Eff.mk (AV.c (AC.i (er (V4.ok (V6.get (St.r t) (Int.toNat j)))))) [] none))) ∧ ((⟨AV.c (AC.i 1), [], none⟩ : Eff) = E))
    (l1 : (V6.get (St.s t) (Int.toNat j)) = true → (er (V4.ok (V6.get (St.r t) (Int.toNat j))) != 0) = false → (decide (j < 6)) = true ∧ (AC.isB (Option.getD (bcs (St.s t))[Int.toNat j * 1]? (AC.b false)) && Nat.blt (Int.toNat j * 1) (List.length (bcs (St.s t))) && (decide (0 ≤ j) && decide (j < 6))) = true ∧ (decide (0 ≤ j) && decide (j < 6)) = true ∧ (Nat.ble (7 + Int.toNat j * 4 + 4) (List.length (St.cs t))) = true ∧ (!!V6.get (St.s t) (Int.toNat j)) = true ∧ (Eff.mk (AV.c (AC.b (AC.asB (Option.getD (bcs (St.s t))[Int.toNat j * 1]? (AC.b false))))) [] none = Eff.mk (AV.c (AC.b (V6.get (St.s t) (Int.toNat j)))) [] none) ∧ (Eff.mk (AV.ag (List.take 4 (List.drop (7 + Int.toNat j * 4) (St.cs t)))) [] none = Eff.mk (AV.ag (V4.cs (V6.get (St.r t) (Int.toNat j)))) [] none) ∧ (CallOK Tryz.prog (CallRec.mk 23 [AV.ag (V4.cs (V6.get (St.r t) (Int.toNat j)))] [] (Eff.mk (AV.c (AC.i (er (V4.ok (V6.get (St.r t) (Int.toNat j)))))) [] none))) ∧ Kn.Low ⟨[(1, AV.c (AC.w 0)), (14, AV.ag (bcs (St.s t))), (15, AV.c (AC.i (IntKind.wrap IntKind.i64 (j + 1))))], [(0, Ent.mk true (St.cs t) 0)], 1⟩ ∧ ART Tryz.prog 26 (cx w β n []) Tryz.f26.ntmps (cutAt Tryz.f26 0) ⟨[(1, AV.c (AC.w 0)), (14, AV.ag (bcs (St.s t))), (15, AV.c (AC.i (IntKind.wrap IntKind.i64 (j + 1))))], [(0, Ent.mk true (St.cs t) 0)], 1⟩ (REff w β E))
    (l2 : (V6.get (St.s t) (Int.toNat j)) = false → (!eqCs (V4.cs (V6.get (St.r t) (Int.toNat j))) [AC.u 0#64, AC.u 0#64, AC.u 0#64, AC.u 0#64]) = true → (decide (j < 6)) = true ∧ (AC.isB (Option.getD (bcs (St.s t))[Int.toNat j * 1]? (AC.b false)) && Nat.blt (Int.toNat j * 1) (List.length (bcs (St.s t))) && (decide (0 ≤ j) && decide (j < 6))) = true ∧ (decide (0 ≤ j) && decide (j < 6)) = true ∧ (Nat.ble (7 + Int.toNat j * 4 + 4) (List.length (St.cs t))) = true ∧ (Eff.mk (AV.c (AC.b (AC.asB (Option.getD (bcs (St.s t))[Int.toNat j * 1]? (AC.b false))))) [] none = Eff.mk (AV.c (AC.b (V6.get (St.s t) (Int.toNat j)))) [] none) ∧ (Eff.mk (AV.ag (List.take 4 (List.drop (7 + Int.toNat j * 4) (St.cs t)))) [] none = Eff.mk (AV.ag (V4.cs (V6.get (St.r t) (Int.toNat j)))) [] none) ∧ ((⟨AV.c (AC.i 1), [], none⟩ : Eff) = E))
    (l3 : (V6.get (St.s t) (Int.toNat j)) = false → (!eqCs (V4.cs (V6.get (St.r t) (Int.toNat j))) [AC.u 0#64, AC.u 0#64, AC.u 0#64, AC.u 0#64]) = false → (decide (j < 6)) = true ∧ (AC.isB (Option.getD (bcs (St.s t))[Int.toNat j * 1]? (AC.b false)) && Nat.blt (Int.toNat j * 1) (List.length (bcs (St.s t))) && (decide (0 ≤ j) && decide (j < 6))) = true ∧ (decide (0 ≤ j) && decide (j < 6)) = true ∧ (Nat.ble (7 + Int.toNat j * 4 + 4) (List.length (St.cs t))) = true ∧ (Eff.mk (AV.c (AC.b (AC.asB (Option.getD (bcs (St.s t))[Int.toNat j * 1]? (AC.b false))))) [] none = Eff.mk (AV.c (AC.b (V6.get (St.s t) (Int.toNat j)))) [] none) ∧ (Eff.mk (AV.ag (List.take 4 (List.drop (7 + Int.toNat j * 4) (St.cs t)))) [] none = Eff.mk (AV.ag (V4.cs (V6.get (St.r t) (Int.toNat j)))) [] none) ∧ Kn.Low ⟨[(1, AV.c (AC.w 0)), (14, AV.ag (bcs (St.s t))), (15, AV.c (AC.i (IntKind.wrap IntKind.i64 (j + 1))))], [(0, Ent.mk true (St.cs t) 0)], 1⟩ ∧ ART Tryz.prog 26 (cx w β n []) Tryz.f26.ntmps (cutAt Tryz.f26 0) ⟨[(1, AV.c (AC.w 0)), (14, AV.ag (bcs (St.s t))), (15, AV.c (AC.i (IntKind.wrap IntKind.i64 (j + 1))))], [(0, Ent.mk true (St.cs t) 0)], 1⟩ (REff w β E)) :
    ART Tryz.prog 26 (cx w β n []) Tryz.f26.ntmps (cutAt Tryz.f26 0) (Kn.mk [(1, AV.c (AC.w 0)), (14, AV.ag (bcs (St.s t))), (15, AV.c (AC.i j))] [(0, Ent.mk true (St.cs t) 0)] 1) (REff w β E) :=
  (tf (V6.get (St.s t) (Int.toNat j))).elim (fun h0 => (tf (er (V4.ok (V6.get (St.r t) (Int.toNat j))) != 0)).elim (fun h1 => (match l0 h0 h1 with | ⟨o0, o1, o2, o3, c0, c1, c2, e⟩ => art_eq (fcRound_w0 (and_yes o0 (and_yes o1 (and_yes h0 (and_yes o2 (and_yes o3 (and_yes h1 rfl)))))) c0 c1 c2) e)) (fun h1 => (match l1 h0 h1 with | ⟨o0, o1, o2, o3, o4, c0, c1, c2, lo, z⟩ => fcRound_w1 (and_yes o0 (and_yes o1 (and_yes h0 (and_yes o2 (and_yes o3 (and_yes (not_yes h1) (and_yes o4 rfl))))))) c0 c1 c2 lo (fun _ hk => Nat.lt_of_lt_of_le hk hn) z))) (fun h0 => (tf (!eqCs (V4.cs (V6.get (St.r t) (Int.toNat j))) [AC.u 0#64, AC.u 0#64, AC.u 0#64, AC.u 0#64])).elim (fun h1 => (match l2 h0 h1 with | ⟨o0, o1, o2, o3, c0, c1, e⟩ => art_eq (fcRound_w2 (and_yes o0 (and_yes o1 (and_yes (not_yes h0) (and_yes (not_yes h0) (and_yes o2 (and_yes o3 (and_yes h1 rfl))))))) c0 c1) e)) (fun h1 => (match l3 h0 h1 with | ⟨o0, o1, o2, o3, c0, c1, lo, z⟩ => fcRound_w3 (and_yes o0 (and_yes o1 (and_yes (not_yes h0) (and_yes (not_yes h0) (and_yes o2 (and_yes o3 (and_yes (not_yes h1) rfl))))))) c0 c1 lo (fun _ hk => Nat.lt_of_lt_of_le hk hn) z)))
theorem fcEnd_w0 {t : St} {w : World} {β : Bs} {n : Nat} :
    ART Tryz.prog 26 (cx w β n []) Tryz.f26.ntmps (cutAt Tryz.f26 0) (Kn.mk [(1, AV.c (AC.w 0)), (14, AV.ag (bcs (St.s t))), (15, AV.c (AC.i 6))] [(0, Ent.mk true (St.cs t) 0)] 1) (REff w β ⟨AV.c (AC.i 0), [], none⟩) :=
  run_eff [] (none) 2000 [] [false] ([true]) [] Tryz.func26 (ekeys0 rfl n) (by kernel_rfl) rfl cr_nil
theorem fjTop_w0 {t : St} {u : St} {e : Int} {w : World} {β : Bs} {n : Nat} (h : (e != 0 && true) = true) (c0 : CallOK Tryz.prog (CallRec.mk 26 [AV.ag (St.cs t)] [] (Eff.mk (AV.c (AC.i e)) [] none))) :
    ART Tryz.prog 35 (cx w β n []) Tryz.f35.ntmps ([Item.code (bodyOf Tryz.f35)]) (Kn.start [AV.ag (St.cs t), AV.ag (St.cs u)] [] 0) (REff w β ⟨AV.tu [AT.ag (St.cs St.z), AT.c (AC.i 1)], [], none⟩) :=
  run_eff [] (none) 2000 [Eff.mk (AV.c (AC.i e)) [] none] [true, true] ([true]) [] Tryz.func35 (ekeys0 rfl n) (by kernel_rfl) h (cr_cons c0 cr_nil)
theorem fjTop_w1 {t : St} {u : St} {e : Int} {f : Int} {w : World} {β : Bs} {n : Nat} (h : (!e != 0 && (f != 0 && true)) = true) (c0 : CallOK Tryz.prog (CallRec.mk 26 [AV.ag (St.cs t)] [] (Eff.mk (AV.c (AC.i e)) [] none))) (c1 : CallOK Tryz.prog (CallRec.mk 26 [AV.ag (St.cs u)] [] (Eff.mk (AV.c (AC.i f)) [] none))) :
    ART Tryz.prog 35 (cx w β n []) Tryz.f35.ntmps ([Item.code (bodyOf Tryz.f35)]) (Kn.start [AV.ag (St.cs t), AV.ag (St.cs u)] [] 0) (REff w β ⟨AV.tu [AT.ag (St.cs St.z), AT.c (AC.i 1)], [], none⟩) :=
  run_eff [] (none) 2000 [Eff.mk (AV.c (AC.i e)) [] none, Eff.mk (AV.c (AC.i f)) [] none] [false, true] ([true]) [] Tryz.func35 (ekeys0 rfl n) (by kernel_rfl) h (cr_cons c0 (cr_cons c1 cr_nil))
theorem fjTop_w2 {t : St} {u : St} {e : Int} {f : Int} {w : World} {β : Bs} {n : Nat} (h : (!e != 0 && (!f != 0 && (!St.live t && true))) = true) (c0 : CallOK Tryz.prog (CallRec.mk 26 [AV.ag (St.cs t)] [] (Eff.mk (AV.c (AC.i e)) [] none))) (c1 : CallOK Tryz.prog (CallRec.mk 26 [AV.ag (St.cs u)] [] (Eff.mk (AV.c (AC.i f)) [] none))) :
    ART Tryz.prog 35 (cx w β n []) Tryz.f35.ntmps ([Item.code (bodyOf Tryz.f35)]) (Kn.start [AV.ag (St.cs t), AV.ag (St.cs u)] [] 0) (REff w β ⟨AV.tu [AT.ag (St.cs u), AT.c (AC.i 0)], [], none⟩) :=
  run_eff [] (none) 2000 [Eff.mk (AV.c (AC.i e)) [] none, Eff.mk (AV.c (AC.i f)) [] none] [false, false, true] ([true]) [] Tryz.func35 (ekeys0 rfl n) (by kernel_rfl) h (cr_cons c0 (cr_cons c1 cr_nil))
theorem fjTop_w3 {t : St} {u : St} {e : Int} {f : Int} {w : World} {β : Bs} {n : Nat} (h : (!e != 0 && (!f != 0 && (!!St.live t && (!St.live u && true)))) = true) (c0 : CallOK Tryz.prog (CallRec.mk 26 [AV.ag (St.cs t)] [] (Eff.mk (AV.c (AC.i e)) [] none))) (c1 : CallOK Tryz.prog (CallRec.mk 26 [AV.ag (St.cs u)] [] (Eff.mk (AV.c (AC.i f)) [] none))) :
    ART Tryz.prog 35 (cx w β n []) Tryz.f35.ntmps ([Item.code (bodyOf Tryz.f35)]) (Kn.start [AV.ag (St.cs t), AV.ag (St.cs u)] [] 0) (REff w β ⟨AV.tu [AT.ag (St.cs t), AT.c (AC.i 0)], [], none⟩) :=
  run_eff [] (none) 2000 [Eff.mk (AV.c (AC.i e)) [] none, Eff.mk (AV.c (AC.i f)) [] none] [false, false, false, true] ([true]) [] Tryz.func35 (ekeys0 rfl n) (by kernel_rfl) h (cr_cons c0 (cr_cons c1 cr_nil))
theorem fjTop_w4 {t : St} {u : St} {e : Int} {f : Int} {C : Cx} {R : Ending → World → Prop} (h : (!e != 0 && (!f != 0 && (!!St.live t && (!!St.live u && true)))) = true) (c0 : CallOK Tryz.prog (CallRec.mk 26 [AV.ag (St.cs t)] [] (Eff.mk (AV.c (AC.i e)) [] none))) (c1 : CallOK Tryz.prog (CallRec.mk 26 [AV.ag (St.cs u)] [] (Eff.mk (AV.c (AC.i f)) [] none))) (lo : Kn.Low ⟨[(2, AV.c (AC.w 0)), (3, AV.c (AC.w 1)), (4, AV.c (AC.w 2)), (6, AV.c (AC.w 19)), (28, AV.c (AC.i 0))], [(0, Ent.mk true (St.cs t) 0), (1, Ent.mk true (St.cs u) 0), (2, Ent.mk true (St.cs St.z) 0), (19, Ent.mk true (St.cs St.e) 0)], 20⟩) (hF : ∀ k, C.F k → k < 20) (z : ART Tryz.prog 35 C Tryz.f35.ntmps (cutAt Tryz.f35 0) ⟨[(2, AV.c (AC.w 0)), (3, AV.c (AC.w 1)), (4, AV.c (AC.w 2)), (6, AV.c (AC.w 19)), (28, AV.c (AC.i 0))], [(0, Ent.mk true (St.cs t) 0), (1, Ent.mk true (St.cs u) 0), (2, Ent.mk true (St.cs St.z) 0), (19, Ent.mk true (St.cs St.e) 0)], 20⟩ R) :
    ART Tryz.prog 35 C Tryz.f35.ntmps ([Item.code (bodyOf Tryz.f35)]) (Kn.start [AV.ag (St.cs t), AV.ag (St.cs u)] [] 0) R :=
  run_cut ⟨[(2, AV.c (AC.w 0)), (3, AV.c (AC.w 1)), (4, AV.c (AC.w 2)), (6, AV.c (AC.w 19)), (28, AV.c (AC.i 0))], [(0, Ent.mk true (St.cs t) 0), (1, Ent.mk true (St.cs u) 0), (2, Ent.mk true (St.cs St.z) 0), (19, Ent.mk true (St.cs St.e) 0)], 20⟩ 2000 [Eff.mk (AV.c (AC.i e)) [] none, Eff.mk (AV.c (AC.i f)) [] none] [false, false, false, false] ([true]) [] Tryz.func35 (by kernel_rfl) h (cr_cons c0 (cr_cons c1 cr_nil)) lo hF z
theorem fjTop_all {t : St} {u : St} {e : Int} {f : Int} {w : World} {β : Bs} {n : Nat} {E : Eff} (hn : n ≤ 20)
    (l0 : (e != 0) = true → (CallOK Tryz.prog (CallRec.mk 26 [AV.ag (St.cs t)] [] (Eff.mk (AV.c (AC.i e)) [] none))) ∧ ((⟨AV.tu [AT.ag (St.cs St.z), AT.c (AC.i 1)], [], none⟩ : Eff) = E))
    (l1 : (e != 0) = false → (f != 0) = true → (CallOK Tryz.prog (CallRec.mk 26 [AV.ag (St.cs t)] [] (Eff.mk (AV.c (AC.i e)) [] none))) ∧ (CallOK Tryz.prog (CallRec.mk 26 [AV.ag (St.cs u)] [] (Eff.mk (AV.c (AC.i f)) [] none))) ∧ ((⟨AV.tu [AT.ag (St.cs St.z), AT.c (AC.i 1)], [], none⟩ : Eff) = E))
    (l2 : (e != 0) = false → (f != 0) = false → (!St.live t) = true → (CallOK Tryz.prog (CallRec.mk 26 [AV.ag (St.cs t)] [] (Eff.mk (AV.c (AC.i e)) [] none))) ∧ (CallOK Tryz.prog (CallRec.mk 26 [AV.ag (St.cs u)] [] (Eff.mk (AV.c (AC.i f)) [] none))) ∧ ((⟨AV.tu [AT.ag (St.cs u), AT.c (AC.i 0)], [], none⟩ : Eff) = E))
    (l3 : (e != 0) = false → (f != 0) = false → (!St.live t) = false → (!St.live u) = true → (CallOK Tryz.prog (CallRec.mk 26 [AV.ag (St.cs t)] [] (Eff.mk (AV.c (AC.i e)) [] none))) ∧ (CallOK Tryz.prog (CallRec.mk 26 [AV.ag (St.cs u)] [] (Eff.mk (AV.c (AC.i f)) [] none))) ∧ ((⟨AV.tu [AT.ag (St.cs t), AT.c (AC.i 0)], [], none⟩ : Eff) = E))
    (l4 : (e != 0) = false → (f != 0) = false → (!St.live t) = false → (!St.live u) = false → (CallOK Tryz.prog (CallRec.mk 26 [AV.ag (St.cs t)] [] (Eff.mk (AV.c (AC.i e)) [] none))) ∧ (CallOK Tryz.prog (CallRec.mk 26 [AV.ag (St.cs u)] [] (Eff.mk (AV.c (AC.i f)) [] none))) ∧ Kn.Low ⟨[(2, AV.c (AC.w 0)), (3, AV.c (AC.w 1)), (4, AV.c (AC.w 2)), (6, AV.c (AC.w 19)), (28, AV.c (AC.i 0))], [(0, Ent.mk true (St.cs t) 0), (1, Ent.mk true (St.cs u) 0), (2, Ent.mk true (St.cs St.z) 0), (19, Ent.mk true (St.cs St.e) 0)], 20⟩ ∧ ART Tryz.prog 35 (cx w β n []) Tryz.f35.ntmps (cutAt Tryz.f35 0) ⟨[(2, AV.c (AC.w 0)), (3, AV.c (AC.w 1)), (4, AV.c (AC.w 2)), (6, AV.c (AC.w 19)), (28, AV.c (AC.i 0))], [(0, Ent.mk true (St.cs t) 0), (1, Ent.mk true (St.cs u) 0), (2, Ent.mk true (St.cs St.z) 0), (19, Ent.mk true (St.cs St.e) 0)], 20⟩ (REff w β E)) :
    ART Tryz.prog 35 (cx w β n []) Tryz.f35.ntmps ([Item.code (bodyOf Tryz.f35)]) (Kn.start [AV.ag (St.cs t), AV.ag (St.cs u)] [] 0) (REff w β E) :=
  (tf (e != 0)).elim (fun h0 => (match l0 h0 with | ⟨c0, e⟩ => art_eq (fjTop_w0 (and_yes h0 rfl) c0) e)) (fun h0 => (tf (f != 0)).elim (fun h1 => (match l1 h0 h1 with | ⟨c0, c1, e⟩ => art_eq (fjTop_w1 (and_yes (not_yes h0) (and_yes h1 rfl)) c0 c1) e)) (fun h1 => (tf (!St.live t)).elim (fun h2 => (match l2 h0 h1 h2 with | ⟨c0, c1, e⟩ => art_eq (fjTop_w2 (and_yes (not_yes h0) (and_yes (not_yes h1) (and_yes h2 rfl))) c0 c1) e)) (fun h2 => (tf (!St.live u)).elim (fun h3 => (match l3 h0 h1 h2 h3 with | ⟨c0, c1, e⟩ => art_eq (fjTop_w3 (and_yes (not_yes h0) (and_yes (not_yes h1) (and_yes (not_yes h2) (and_yes h3 rfl)))) c0 c1) e)) (fun h3 => (match l4 h0 h1 h2 h3 with | ⟨c0, c1, lo, z⟩ => fjTop_w4 (and_yes (not_yes h0) (and_yes (not_yes h1) (and_yes (not_yes h2) (and_yes (not_yes h3) rfl)))) c0 c1 lo (fun _ hk => Nat.lt_of_lt_of_le hk hn) z)))))
theorem fjRound_w0 {t : St} {u : St} {b : St} {b2 : St} {a : V4} {j : Int} {C : Cx} {R : Ending → World → Prop} (h : (decide (j < 6) && (decide (0 ≤ j) && decide (j < 6) && (AC.isB (Option.getD (St.cs t)[1 + Int.toNat j * 1]? (AC.b false)) && Nat.blt (1 + Int.toNat j * 1) (List.length (St.cs t)) && (V6.get (St.s t) (Int.toNat j) && (decide (0 ≤ j) && decide (j < 6) && (AC.isB (Option.getD (St.cs u)[1 + Int.toNat j * 1]? (AC.b false)) && Nat.blt (1 + Int.toNat j * 1) (List.length (St.cs u)) && (V6.get (St.s u) (Int.toNat j) && (decide (0 ≤ j) && decide (j < 6) && (Nat.ble (7 + Int.toNat j * 4 + 4) (List.length (St.cs t)) && (decide (0 ≤ j) && decide (j < 6) && (Nat.ble (7 + Int.toNat j * 4 + 4) (List.length (St.cs u)) && true))))))))))) = true) (c0 : Eff.mk (AV.c (AC.b (AC.asB (Option.getD (St.cs t)[1 + Int.toNat j * 1]? (AC.b false))))) [] none = Eff.mk (AV.c (AC.b (V6.get (St.s t) (Int.toNat j)))) [] none) (c1 : Eff.mk (AV.c (AC.b (AC.asB (Option.getD (St.cs u)[1 + Int.toNat j * 1]? (AC.b false))))) [] none = Eff.mk (AV.c (AC.b (V6.get (St.s u) (Int.toNat j)))) [] none) (c2 : Eff.mk (AV.ag (List.take 4 (List.drop (7 + Int.toNat j * 4) (St.cs t)))) [] none = Eff.mk (AV.ag (V4.cs (V6.get (St.r t) (Int.toNat j)))) [] none) (c3 : Eff.mk (AV.ag (List.take 4 (List.drop (7 + Int.toNat j * 4) (St.cs u)))) [] none = Eff.mk (AV.ag (V4.cs (V6.get (St.r u) (Int.toNat j)))) [] none) (c4 : CallOK Tryz.prog (CallRec.mk 79 [AV.ag (V4.cs (V6.get (St.r t) (Int.toNat j))), AV.ag (V4.cs (V6.get (St.r u) (Int.toNat j)))] [] (Eff.mk (AV.tu [AT.ag (V4.cs a), AT.c (AC.i 0)]) [] none))) (c5 : CallOK Tryz.prog (CallRec.mk 68 [AV.ag (St.cs b), AV.c (AC.i j), AV.ag (V4.cs a)] [] (Eff.mk (AV.ag (St.cs b2)) [] none))) (lo : Kn.Low ⟨[(2, AV.c (AC.w 0)), (3, AV.c (AC.w 1)), (4, AV.c (AC.w 2)), (6, AV.c (AC.w 19)), (28, AV.c (AC.i (IntKind.wrap IntKind.i64 (j + 1))))], [(0, Ent.mk true (St.cs t) 0), (1, Ent.mk true (St.cs u) 0), (2, Ent.mk true (St.cs St.z) 0), (19, Ent.mk true (St.cs b2) 0)], 20⟩) (hF : ∀ k, C.F k → k < 20) (z : ART Tryz.prog 35 C Tryz.f35.ntmps (cutAt Tryz.f35 0) ⟨[(2, AV.c (AC.w 0)), (3, AV.c (AC.w 1)), (4, AV.c (AC.w 2)), (6, AV.c (AC.w 19)), (28, AV.c (AC.i (IntKind.wrap IntKind.i64 (j + 1))))], [(0, Ent.mk true (St.cs t) 0), (1, Ent.mk true (St.cs u) 0), (2, Ent.mk true (St.cs St.z) 0), (19, Ent.mk true (St.cs b2) 0)], 20⟩ R) :
    ART Tryz.prog 35 C Tryz.f35.ntmps (cutAt Tryz.f35 0) (Kn.mk [(2, AV.c (AC.w 0)), (3, AV.c (AC.w 1)), (4, AV.c (AC.w 2)), (6, AV.c (AC.w 19)), (28, AV.c (AC.i j))] [(0, Ent.mk true (St.cs t) 0), (1, Ent.mk true (St.cs u) 0), (2, Ent.mk true (St.cs St.z) 0), (19, Ent.mk true (St.cs b) 0)] 20) R :=
  run_cut ⟨[(2, AV.c (AC.w 0)), (3, AV.c (AC.w 1)), (4, AV.c (AC.w 2)), (6, AV.c (AC.w 19)), (28, AV.c (AC.i (IntKind.wrap IntKind.i64 (j + 1))))], [(0, Ent.mk true (St.cs t) 0), (1, Ent.mk true (St.cs u) 0), (2, Ent.mk true (St.cs St.z) 0), (19, Ent.mk true (St.cs b2) 0)], 20⟩ 2000 [Eff.mk (AV.c (AC.b (V6.get (St.s t) (Int.toNat j)))) [] none, Eff.mk (AV.c (AC.b (V6.get (St.s u) (Int.toNat j)))) [] none, Eff.mk (AV.ag (V4.cs (V6.get (St.r t) (Int.toNat j)))) [] none, Eff.mk (AV.ag (V4.cs (V6.get (St.r u) (Int.toNat j)))) [] none, Eff.mk (AV.tu [AT.ag (V4.cs a), AT.c (AC.i 0)]) [] none, Eff.mk (AV.ag (St.cs b2)) [] none] [true, true, true] ([true]) [(11, 3), (11, 8), (12, 3), (12, 7)] Tryz.func35 (by kernel_rfl) h (cr_same c0 (cr_same c1 (cr_same c2 (cr_same c3 (cr_cons c4 (cr_cons c5 cr_nil)))))) lo hF z
theorem fjRound_w1 {t : St} {u : St} {b : St} {j : Int} {C : Cx} {R : Ending → World → Prop} (h : (decide (j < 6) && (decide (0 ≤ j) && decide (j < 6) && (AC.isB (Option.getD (St.cs t)[1 + Int.toNat j * 1]? (AC.b false)) && Nat.blt (1 + Int.toNat j * 1) (List.length (St.cs t)) && (V6.get (St.s t) (Int.toNat j) && (decide (0 ≤ j) && decide (j < 6) && (AC.isB (Option.getD (St.cs u)[1 + Int.toNat j * 1]? (AC.b false)) && Nat.blt (1 + Int.toNat j * 1) (List.length (St.cs u)) && (!V6.get (St.s u) (Int.toNat j) && true))))))) = true) (c0 : Eff.mk (AV.c (AC.b (AC.asB (Option.getD (St.cs t)[1 + Int.toNat j * 1]? (AC.b false))))) [] none = Eff.mk (AV.c (AC.b (V6.get (St.s t) (Int.toNat j)))) [] none) (c1 : Eff.mk (AV.c (AC.b (AC.asB (Option.getD (St.cs u)[1 + Int.toNat j * 1]? (AC.b false))))) [] none = Eff.mk (AV.c (AC.b (V6.get (St.s u) (Int.toNat j)))) [] none) (lo : Kn.Low ⟨[(2, AV.c (AC.w 0)), (3, AV.c (AC.w 1)), (4, AV.c (AC.w 2)), (6, AV.c (AC.w 19)), (28, AV.c (AC.i (IntKind.wrap IntKind.i64 (j + 1))))], [(0, Ent.mk true (St.cs t) 0), (1, Ent.mk true (St.cs u) 0), (2, Ent.mk true (St.cs St.z) 0), (19, Ent.mk true (St.cs b) 0)], 20⟩) (hF : ∀ k, C.F k → k < 20) (z : ART Tryz.prog 35 C Tryz.f35.ntmps (cutAt Tryz.f35 0) ⟨[(2, AV.c (AC.w 0)), (3, AV.c (AC.w 1)), (4, AV.c (AC.w 2)), (6, AV.c (AC.w 19)), (28, AV.c (AC.i (IntKind.wrap IntKind.i64 (j + 1))))], [(0, Ent.mk true (St.cs t) 0), (1, Ent.mk true (St.cs u) 0), (2, Ent.mk true (St.cs St.z) 0), (19, Ent.mk true (St.cs b) 0)], 20⟩ R) :
    ART Tryz.prog 35 C Tryz.f35.ntmps (cutAt Tryz.f35 0) (Kn.mk [(2, AV.c (AC.w 0)), (3, AV.c (AC.w 1)), (4, AV.c (AC.w 2)), (6, AV.c (AC.w 19)), (28, AV.c (AC.i j))] [(0, Ent.mk true (St.cs t) 0), (1, Ent.mk true (St.cs u) 0), (2, Ent.mk true (St.cs St.z) 0), (19, Ent.mk true (St.cs b) 0)] 20) R :=
  run_cut ⟨[(2, AV.c (AC.w 0)), (3, AV.c (AC.w 1)), (4, AV.c (AC.w 2)), (6, AV.c (AC.w 19)), (28, AV.c (AC.i (IntKind.wrap IntKind.i64 (j + 1))))], [(0, Ent.mk true (St.cs t) 0), (1, Ent.mk true (St.cs u) 0), (2, Ent.mk true (St.cs St.z) 0), (19, Ent.mk true (St.cs b) 0)], 20⟩ 2000 [Eff.mk (AV.c (AC.b (V6.get (St.s t) (Int.toNat j)))) [] none, Eff.mk (AV.c (AC.b (V6.get (St.s u) (Int.toNat j)))) [] none] [true, true, false] ([true]) [(11, 3), (11, 8), (12, 3), (12, 7)] Tryz.func35 (by kernel_rfl) h (cr_same c0 (cr_same c1 cr_nil)) lo hF z
theorem fjRound_w2 {t : St} {u : St} {b : St} {j : Int} {C : Cx} {R : Ending → World → Prop} (h : (decide (j < 6) && (decide (0 ≤ j) && decide (j < 6) && (AC.isB (Option.getD (St.cs t)[1 + Int.toNat j * 1]? (AC.b false)) && Nat.blt (1 + Int.toNat j * 1) (List.length (St.cs t)) && (!V6.get (St.s t) (Int.toNat j) && true)))) = true) (c0 : Eff.mk (AV.c (AC.b (AC.asB (Option.getD (St.cs t)[1 + Int.toNat j * 1]? (AC.b false))))) [] none = Eff.mk (AV.c (AC.b (V6.get (St.s t) (Int.toNat j)))) [] none) (lo : Kn.Low ⟨[(2, AV.c (AC.w 0)), (3, AV.c (AC.w 1)), (4, AV.c (AC.w 2)), (6, AV.c (AC.w 19)), (28, AV.c (AC.i (IntKind.wrap IntKind.i64 (j + 1))))], [(0, Ent.mk true (St.cs t) 0), (1, Ent.mk true (St.cs u) 0), (2, Ent.mk true (St.cs St.z) 0), (19, Ent.mk true (St.cs b) 0)], 20⟩) (hF : ∀ k, C.F k → k < 20) (z : ART Tryz.prog 35 C Tryz.f35.ntmps (cutAt Tryz.f35 0) ⟨[(2, AV.c (AC.w 0)), (3, AV.c (AC.w 1)), (4, AV.c (AC.w 2)), (6, AV.c (AC.w 19)), (28, AV.c (AC.i (IntKind.wrap IntKind.i64 (j + 1))))], [(0, Ent.mk true (St.cs t) 0), (1, Ent.mk true (St.cs u) 0), (2, Ent.mk true (St.cs St.z) 0), (19, Ent.mk true (St.cs b) 0)], 20⟩ R) :
    ART Tryz.prog 35 C Tryz.f35.ntmps (cutAt Tryz.f35 0) (Kn.mk [(2, AV.c (AC.w 0)), (3, AV.c (AC.w 1)), (4, AV.c (AC.w 2)), (6, AV.c (AC.w 19)), (28, AV.c (AC.i j))] [(0, Ent.mk true (St.cs t) 0), (1, Ent.mk true (St.cs u) 0), (2, Ent.mk true (St.cs St.z) 0), (19, Ent.mk true (St.cs b) 0)] 20) R :=
  run_cut ⟨[(2, AV.c (AC.w 0)), (3, AV.c (AC.w 1)), (4, AV.c (AC.w 2)), (6, AV.c (AC.w 19)), (28, AV.c (AC.i (IntKind.wrap IntKind.i64 (j + 1))))], [(0, Ent.mk true (St.cs t) 0), (1, Ent.mk true (St.cs u) 0), (2, Ent.mk true (St.cs St.z) 0), (19, Ent.mk true (St.cs b) 0)], 20⟩ 2000 [Eff.mk (AV.c (AC.b (V6.get (St.s t) (Int.toNat j)))) [] none] [true, false, false] ([true]) [(11, 3), (11, 8), (12, 3), (12, 7)] Tryz.func35 (by kernel_rfl) h (cr_same c0 cr_nil) lo hF z
theorem fjRound_all {t : St} {u : St} {b : St} {b2 : St} {a : V4} {j : Int} {w : World} {β : Bs} {n : Nat} {E : Eff} (hn : n ≤ 20)
    (l0 : (V6.get (St.s t) (Int.toNat j)) = true → (V6.get (St.s u) (Int.toNat j)) = true → (decide (j < 6)) = true ∧ (decide (0 ≤ j) && decide (j < 6)) = true ∧ (AC.isB (Option.getD (St.cs t)[1 + Int.toNat j * 1]? (AC.b false)) && Nat.blt (1 + Int.toNat j * 1) (List.length (St.cs t))) = true ∧ (decide (0 ≤ j) && decide (j < 6)) = true ∧ (AC.isB (Option.getD (St.cs u)[1 + Int.toNat j * 1]? (AC.b false)) && Nat.blt (1 + Int.toNat j * 1) (List.length (St.cs u))) = true ∧ (decide (0 ≤ j) && decide (j < 6)) = true ∧ (Nat.ble (7 + Int.toNat j * 4 + 4) (List.length (St.cs t))) = true ∧ (decide (0 ≤ j) && decide (j < 6)) = true ∧ (Nat.ble (7 + Int.toNat j * 4 + 4) (List.length (St.cs u))) = true ∧ (Eff.mk (AV.c (AC.b (AC.asB (Option.getD (St.cs t)[1 + Int.toNat j * 1]? (AC.b false))))) [] none = Eff.mk (AV.c (AC.b (V6.get (St.s t) (Int.toNat j)))) [] none) ∧ (Eff.mk (AV.c (AC.b (AC.asB (Option.getD (St.cs u)[1 + Int.toNat j * 1]? (AC.b false))))) [] none = Eff.mk (AV.c (AC.b (V6.get (St.s u) (Int.toNat j)))) [] none) ∧ (Eff.mk (AV.ag (List.take 4 (List.drop (7 + Int.toNat j * 4) (St.cs t)))) [] none = Eff.mk (AV.ag (V4.cs (V6.get (St.r t) (Int.toNat j)))) [] none) ∧ (Eff.mk (AV.ag (List.take 4 (List.drop (7 + Int.toNat j * 4) (St.cs u)))) [] none = Eff.mk (AV.ag (V4.cs (V6.get (St.r u) (Int.toNat j)))) [] none) ∧ (CallOK Tryz.prog (CallRec.mk 79 [AV.ag (V4.cs (V6.get (St.r t) (Int.toNat j))), AV.ag (V4.cs (V6.get (St.r u) (Int.toNat j)))] [] (Eff.mk (AV.tu [AT.ag (V4.cs a), AT.c (AC.i 0)]) [] none))) ∧ (CallOK Tryz.prog (CallRec.mk 68 [AV.ag (St.cs b), AV.c (AC.i j), AV.ag (V4.cs a)] [] (Eff.mk (AV.ag (St.cs b2)) [] none))) ∧ Kn.Low ⟨[(2, AV.c (AC.w 0)), (3, AV.c (AC.w 1)), (4, AV.c (AC.w 2)), (6, AV.c (AC.w 19)), (28, AV.c (AC.i (IntKind.wrap IntKind.i64 (j + 1))))], [(0, Ent.mk true (St.cs t) 0), (1, Ent.mk true (St.cs u) 0), (2, Ent.mk true (St.cs St.z) 0), (19, Ent.mk true (St.cs b2) 0)], 20⟩ ∧ ART Tryz.prog 35 (cx w β n []) Tryz.f35.ntmps (cutAt Tryz.f35 0) ⟨[(2, AV.c (AC.w 0)), (3, AV.c (AC.w 1)), (4, AV.c (AC.w 2)), (6, AV.c (AC.w 19)), (28, AV.c (AC.i (IntKind.wrap IntKind.i64 (j + 1))))], [(0, Ent.mk true (St.cs t) 0), (1, Ent.mk true (St.cs u) 0), (2, Ent.mk true (St.cs St.z) 0), (19, Ent.mk true (St.cs b2) 0)], 20⟩ (REff w β E))
    (l1 : (V6.get (St.s t) (Int.toNat j)) = true → (V6.get (St.s u) (Int.toNat j)) = false → (decide (j < 6)) = true ∧ (decide (0 ≤ j) && decide (j < 6)) = true ∧ (AC.isB (Option.getD (St.cs t)[1 + Int.toNat j * 1]? (AC.b false)) && Nat.blt (1 + Int.toNat j * 1) (List.length (St.cs t))) = true ∧ (decide (0 ≤ j) && decide (j < 6)) = true ∧ (AC.isB (Option.getD (St.cs u)[1 + Int.toNat j * 1]? (AC.b false)) && Nat.blt (1 + Int.toNat j * 1) (List.length (St.cs u))) = true ∧ (Eff.mk (AV.c (AC.b (AC.asB (Option.getD (St.cs t)[1 + Int.toNat j * 1]? (AC.b false))))) [] none = Eff.mk (AV.c (AC.b (V6.get (St.s t) (Int.toNat j)))) [] none) ∧ (Eff.mk (AV.c (AC.b (AC.asB (Option.getD (St.cs u)[1 + Int.toNat j * 1]? (AC.b false))))) [] none = Eff.mk (AV.c (AC.b (V6.get (St.s u) (Int.toNat j)))) [] none) ∧ Kn.Low ⟨[(2, AV.c (AC.w 0)), (3, AV.c (AC.w 1)), (4, AV.c (AC.w 2)), (6, AV.c (AC.w 19)), (28, AV.c (AC.i (IntKind.wrap IntKind.i64 (j + 1))))], [(0, Ent.mk true (St.cs t) 0), (1, Ent.mk true (St.cs u) 0), (2, Ent.mk true (St.cs St.z) 0), (19, Ent.mk true (St.cs b) 0)], 20⟩ ∧ ART Tryz.prog 35 (cx w β n []) Tryz.f35.ntmps (cutAt Tryz.f35 0) ⟨[(2, AV.c (AC.w 0)), (3, AV.c (AC.w 1)), (4, AV.c (AC.w 2)), (6, AV.c (AC.w 19)), (28, AV.c (AC.i (IntKind.wrap IntKind.i64 (j + 1))))], [(0, Ent.mk true (St.cs t) 0), (1, Ent.mk true (St.cs u) 0), (2, Ent.mk true (St.cs St.z) 0), (19, Ent.mk true (St.cs b) 0)], 20⟩ (REff w β E))
    (l2 : (V6.get (St.s t) (Int.toNat j)) = false → (decide (j < 6)) = true ∧ (decide (0 ≤ j) && decide (j < 6)) = true ∧ (AC.isB (Option.getD (St.cs t)[1 + Int.toNat j * 1]? (AC.b false)) && Nat.blt (1 + Int.toNat j * 1) (List.length (St.cs t))) = true ∧ (Eff.mk (AV.c (AC.b (AC.asB (Option.getD (St.cs t)[1 + Int.toNat j * 1]? (AC.b false))))) [] none = Eff.mk (AV.c (AC.b (V6.get (St.s t) (Int.toNat j)))) [] none) ∧ Kn.Low ⟨[(2, AV.c (AC.w 0)), (3, AV.c (AC.w 1)), (4, AV.c (AC.w 2)), (6, AV.c (AC.w 19)), (28, AV.c (AC.i (IntKind.wrap IntKind.i64 (j + 1))))], [(0, Ent.mk true (St.cs t) 0), (1, Ent.mk true (St.cs u) 0), (2, Ent.mk true (St.cs St.z) 0), (19, Ent.mk true (St.cs b) 0)], 20⟩ ∧ ART Tryz.prog 35 (cx w β n []) Tryz.f35.ntmps (cutAt Tryz.f35 0) ⟨[(2, AV.c (AC.w 0)), (3, AV.c (AC.w 1)), (4, AV.c (AC.w 2)), (6, AV.c (AC.w 19)), (28, AV.c (AC.i (IntKind.wrap IntKind.i64 (j + 1))))], [(0, Ent.mk true (St.cs t) 0), (1, Ent.mk true (St.cs u) 0), (2, Ent.mk true (St.cs St.z) 0), (19, Ent.mk true (St.cs b) 0)], 20⟩ (REff w β E)) :
    ART Tryz.prog 35 (cx w β n []) Tryz.f35.ntmps (cutAt Tryz.f35 0) (Kn.mk [(2, AV.c (AC.w 0)), (3, AV.c (AC.w 1)), (4, AV.c (AC.w 2)), (6, AV.c (AC.w 19)), (28, AV.c (AC.i j))] [(0, Ent.mk true (St.cs t) 0), (1, Ent.mk true (St.cs u) 0), (2, Ent.mk true (St.cs St.z) 0), (19, Ent.mk true (St.cs b) 0)] 20) (REff w β E) :=
  (tf (V6.get (St.s t) (Int.toNat j))).elim (fun h0 => (tf (V6.get (St.s u) (Int.toNat j))).elim (fun h1 => (match l0 h0 h1 with | ⟨o0, o1, o2, o3, o4, o5, o6, o7, o8, c0, c1, c2, c3, c4, c5, lo, z⟩ => fjRound_w0 (and_yes o0 (and_yes o1 (and_yes o2 (and_yes h0 (and_yes o3 (and_yes o4 (and_yes h1 (and_yes o5 (and_yes o6 (and_yes o7 (and_yes o8 rfl))))))))))) c0 c1 c2 c3 c4 c5 lo (fun _ hk => Nat.lt_of_lt_of_le hk hn) z)) (fun h1 => (match l1 h0 h1 with | ⟨o0, o1, o2, o3, o4, c0, c1, lo, z⟩ => fjRound_w1 (and_yes o0 (and_yes o1 (and_yes o2 (and_yes h0 (and_yes o3 (and_yes o4 (and_yes (not_yes h1) rfl))))))) c0 c1 lo (fun _ hk => Nat.lt_of_lt_of_le hk hn) z))) (fun h0 => (match l2 h0 with | ⟨o0, o1, o2, c0, lo, z⟩ => fjRound_w2 (and_yes o0 (and_yes o1 (and_yes o2 (and_yes (not_yes h0) rfl)))) c0 lo (fun _ hk => Nat.lt_of_lt_of_le hk hn) z))
theorem fjEnd_w0 {t : St} {u : St} {b : St} {w : World} {β : Bs} {n : Nat} :
    ART Tryz.prog 35 (cx w β n []) Tryz.f35.ntmps (cutAt Tryz.f35 0) (Kn.mk [(2, AV.c (AC.w 0)), (3, AV.c (AC.w 1)), (4, AV.c (AC.w 2)), (6, AV.c (AC.w 19)), (28, AV.c (AC.i 6))] [(0, Ent.mk true (St.cs t) 0), (1, Ent.mk true (St.cs u) 0), (2, Ent.mk true (St.cs St.z) 0), (19, Ent.mk true (St.cs b) 0)] 20) (REff w β ⟨AV.tu [AT.ag (St.cs b), AT.c (AC.i 0)], [], none⟩) :=
  run_eff [] (none) 2000 [] [false] ([true]) [] Tryz.func35 (ekeys0 rfl n) (by kernel_rfl) rfl cr_nil
end Go.Proofs.YtkigmocchaikgabGreat

/- What a value has, and what is left of two: plain facts. -/
namespace Go.Proofs.YtkigmocchaikgabGreat

theorem V4.ok_rt {a : V4} (h : a.ok = true) : RtB a.v a.m := (val_facts h).1
theorem V4.has_ok {a : V4} {x : BitVec 64} (h : a.has x = true) : a.ok = true := (has_facts h).1
theorem V4.nrm_ok {a : V4} (hr : RtB a.v a.m) (h : a.nok = true) : a.nrm.ok = true := norm_right hr h
theorem V4.nrm_has {a : V4} {x : BitVec 64} (hr : RtB a.v a.m) (hx : rawV a.v a.m a.l a.h x = true) : a.nok = true ∧ a.nrm.has x = true := raw_norm hr hx
theorem V4.has_iff {a : V4} {x : BitVec 64} : a.has x = true ↔ a.ok = true ∧ hasB a.v a.m x = true ∧ nv a.l ≤ nv x ∧ nv x ≤ nv a.h := by
  simp only [V4.has, hasV, V4.ok, Bool.and_eq_true, decide_eq_true_eq]
theorem V4.low_has {a : V4} (h : a.ok = true) : a.has a.l = true := by
  obtain ⟨_, h2, _, h4, _⟩ := val_facts h
  exact V4.has_iff.2 ⟨h, h2, Int.le_refl _, h4⟩
theorem V4.le {a : V4} (h : a.ok = true) : nv a.l ≤ nv a.h := (val_facts h).2.2.2.1
theorem V4.stays {a : V4} (h : a.ok = true) : a.nok = true ∧ a.nrm = a := by
  obtain ⟨h1, h2, h3, h4, h5⟩ := norm_stays h
  refine ⟨h1, ?_⟩
  cases a; simp only [V4.nrm] at *; rw [h2, h3, h4, h5]
theorem V4.two_has {op : Int} {a b : V4} {x y : BitVec 64} (hop : 2 ≤ op ∧ op ≤ 9) (hx : a.has x = true) (hy : b.has y = true) : (V4.two op a b).has (numN op x y) = true := by
  obtain ⟨h1, h2⟩ := rk_sound hop hx hy
  obtain ⟨h3, h4⟩ := V4.nrm_has (a := V4.raw2 op a b) h1 h2
  unfold V4.two V4.norm
  rw [if_pos h3]
  exact h4
theorem V4.two_ok {op : Int} {a b : V4} (hop : 2 ≤ op ∧ op ≤ 9) (ha : a.ok = true) (hb : b.ok = true) : (V4.two op a b).ok = true := V4.has_ok (V4.two_has hop (V4.low_has ha) (V4.low_has hb))
theorem V4.join_has {a b : V4} {x : BitVec 64} (ha : a.ok = true) (hb : b.ok = true) (h : a.has x = true ∨ b.has x = true) : (a.join b).has x = true := by
  obtain ⟨_, h2, h3⟩ := join_facts ha hb
  rcases h with h | h
  · exact insV_has h2 h
  · exact insV_has h3 h
theorem V4.join_ok {a b : V4} (ha : a.ok = true) (hb : b.ok = true) : (a.join b).ok = true := V4.has_ok (V4.join_has ha hb (Or.inl (V4.low_has ha)))
theorem insB_refl {v m : BitVec 64} (h : RtB v m) : insB v m v m = true := ins_of_all h h fun _ hx => hx
theorem hasB_of (x : BitVec 64) : hasB x zero x = true := by
  have hr : RtB x zero := fun j => by rw [bit_zero]; cases bit x j <;> rfl
  refine (hasB_iff _ _ _).2 ⟨hr, fun j hj => ?_⟩
  rw [bit_zero]; cases bit x j <;> rfl
theorem sM_self (x : BitVec 64) : sM x x = zero := by
  apply bext
  intro j hj
  rw [bit_zero]
  exact (sM_bit x x j hj).2 fun _ _ => rfl
theorem V4.of_ok (x : BitVec 64) : (V4.of x).ok = true := by
  have h := hasB_of x
  have hs : spV x x = x := by
    unfold spV
    rw [sM_self]
    apply bext
    intro j hj
    rw [bit_andn _ _ _ hj, bit_zero]; cases bit x j <;> rfl
  show valB x zero x x = true
  unfold valB
  rw [h, sM_self, hs, insB_refl ((hasB_iff _ _ _).1 h).1]
  simp
theorem sM_ends {l h : BitVec 64} {n : Nat} (hn : n < 64) (hl : l = zero) (hb : bit h n = true) : ∀ j, j ≤ n → bit (sM l h) j = true := by
  intro j hj
  cases hc : bit (sM l h) j with
  | true => rfl
  | false =>
    have := (sM_bit l h j (by omega)).1 hc n hj
    rw [hl, bit_zero, hb] at this
    cases this
theorem V4.low_ok {h : BitVec 64} (n : Nat) (hn : n ≤ 64) (hb : ∀ j, j < 64 → bit h j = decide (j < n)) (h0 : 0 < n) : V4.ok ⟨zero, h, zero, h⟩ = true ∧ ∀ x, nv x ≤ nv h → V4.has ⟨zero, h, zero, h⟩ x = true := by
  have hr : RtB zero h := zero_rt h
  have g0 : hasB zero h zero = true := (hasB_iff _ _ _).2 ⟨hr, fun j hj => by rw [bit_zero]; rfl⟩
  have g1 : hasB zero h h = true := (hasB_iff _ _ _).2 ⟨hr, fun j hj => by rw [bit_zero]; cases bit h j <;> rfl⟩
  have hle : nv zero ≤ nv h := (ends h).1
  have sm : sM zero h = h := by
    apply bext
    intro j hj
    rw [hb j hj]
    by_cases c : j < n
    · rw [sM_ends (n := n - 1) (by omega) rfl (by rw [hb _ (by omega)]; simp; omega) j (by omega)]; simp [c]
    · have : bit (sM zero h) j = false := (sM_bit _ _ _ hj).2 fun i hi => by
        by_cases c' : i < 64
        · rw [bit_zero, hb i c']; simp; omega
        · rw [bit_big _ _ (by omega), bit_big _ _ (by omega)]
      rw [this]; simp [c]
  have sp : spV zero h = zero := by
    unfold spV
    apply bext
    intro j hj
    rw [bit_andn _ _ _ hj, bit_zero]; rfl
  have ho : V4.ok ⟨zero, h, zero, h⟩ = true := by
    show valB zero h zero h = true
    unfold valB
    rw [g0, g1, sm, sp, insB_refl hr]
    simp [hle]
  refine ⟨ho, fun x hx => V4.has_iff.2 ⟨ho, (hasB_iff _ _ _).2 ⟨hr, fun j hj => ?_⟩, (ends x).1, hx⟩⟩
  -- a bit that h lacks, x lacks
  rw [bit_zero]
  have := span_has (l := zero) (h := h) (x := x) (ends x).1 hx
  rw [sm, sp] at this
  have h2 := ((hasB_iff _ _ _).1 this).2 j hj
  rw [bit_zero] at h2
  exact h2
theorem V4.any_has (x : BitVec 64) : V4.any.has x = true := (V4.low_ok (h := top) 64 (Nat.le_refl _) (fun j hj => by rw [bit_top _ hj]; simp [hj]) (by decide)).2 x (ends x).2
theorem V4.any_ok : V4.any.ok = true := V4.has_ok (V4.any_has zero)
theorem byteTop_bits (n : Int) : ∃ k, 0 < k ∧ k ≤ 64 ∧ ∀ j, j < 64 → bit (byteTop n) j = decide (j < k) := by
  have key : ∀ (k : Nat) (x : BitVec 64), (∀ j : Fin 64, x.getLsbD j.1 = decide (j.1 < k)) → ∀ j, j < 64 → bit x j = decide (j < k) := fun k x h j hj => h ⟨j, hj⟩
  unfold byteTop
  split
  · exact ⟨64, by decide, by decide, fun j hj => by rw [bit_top _ hj]; simp [hj]⟩
  · split
    · exact ⟨32, by decide, by decide, key 32 _ (by decide)⟩
    · split
      · exact ⟨16, by decide, by decide, key 16 _ (by decide)⟩
      · exact ⟨8, by decide, by decide, key 8 _ (by decide)⟩
theorem V4.bytes_has (n : Int) (x : BitVec 64) (hx : nv x ≤ nv (byteTop n)) : (V4.bytes n).has x = true := by
  obtain ⟨k, h1, h2, h3⟩ := byteTop_bits n
  exact (V4.low_ok k h2 h3 h1).2 x hx
theorem V4.bytes_ok (n : Int) : (V4.bytes n).ok = true := V4.has_ok (V4.bytes_has n zero (ends _).1)

/- what is left of two -/
theorem left2_ok {may : Bool} {x y : V4} (hx : RtB x.v x.m) (hy : RtB y.v y.m) (h : (left2 may x y).2.2 = true) : (left2 may x y).1.ok = true ∧ (left2 may x y).2.1.ok = true := by
  have h' : (may && (x.nok && y.nok)) = true := h
  simp only [left2, lvV, h', if_true]
  simp only [Bool.and_eq_true] at h'
  exact ⟨V4.nrm_ok hx h'.2.1, V4.nrm_ok hy h'.2.2⟩
theorem meet_rt {a b : V4} (ha : a.ok = true) (hb : b.ok = true) : RtB (bor a.v b.v) (band a.m b.m) := by
  have r1 := V4.ok_rt ha
  have r2 := V4.ok_rt hb
  intro j
  have h3 := r1 j; have h4 := r2 j
  rw [bit_or, bit_and']
  revert h3 h4
  cases bit a.v j <;> cases bit a.m j <;> cases bit b.v j <;> cases bit b.m j <;> simp
theorem V4.equal_ok {a b : V4} (ha : a.ok = true) (hb : b.ok = true) (h : (a.equal b).2.2 = true) : (a.equal b).1.ok = true ∧ (a.equal b).2.1.ok = true := by
  unfold V4.equal at h ⊢
  split at h
  · rename_i hm
    rw [if_pos hm]
    exact left2_ok (meet_rt ha hb) (meet_rt ha hb) h
  · cases h
theorem V4.other_ok {a b : V4} (ha : a.ok = true) (hb : b.ok = true) (h : (a.other b).2.2 = true) : (a.other b).1.ok = true ∧ (a.other b).2.1.ok = true :=
  left2_ok (show RtB a.v a.m from V4.ok_rt ha) (show RtB b.v b.m from V4.ok_rt hb) h
theorem V4.less_ok {a b : V4} (ha : a.ok = true) (hb : b.ok = true) (h : (a.less b).2.2 = true) : (a.less b).1.ok = true ∧ (a.less b).2.1.ok = true := by
  unfold V4.less at h ⊢
  split at h
  · cases h
  · rename_i hm
    rw [if_neg hm]
    exact left2_ok (show RtB a.v a.m from V4.ok_rt ha) (show RtB b.v b.m from V4.ok_rt hb) h
theorem V4.notLess_ok {a b : V4} (ha : a.ok = true) (hb : b.ok = true) (h : (a.notLess b).2.2 = true) : (a.notLess b).1.ok = true ∧ (a.notLess b).2.1.ok = true :=
  left2_ok (show RtB a.v a.m from V4.ok_rt ha) (show RtB b.v b.m from V4.ok_rt hb) h
/- cells that are the same -/
theorem V4.eq_iff {a b : V4} : eqCs a.cs b.cs = true ↔ a = b := by
  cases a; cases b
  simp [V4.cs, eqCs, eqC, eqb]
end Go.Proofs.YtkigmocchaikgabGreat

/- States: which machines they have; joins: plain facts. -/
namespace Go.Proofs.YtkigmocchaikgabGreat

theorem anyFrom_no {p : Nat → Bool} : anyFrom p 6 = false ↔ ∀ j, j < 6 → p j = false := by
  simp only [anyFrom, Bool.or_eq_false_iff]
  constructor
  · rintro ⟨h0, h1, h2, h3, h4, h5, _⟩
    exact lt6 h0 h1 h2 h3 h4 h5
  · intro h
    exact ⟨h 0 (by decide), h 1 (by decide), h 2 (by decide), h 3 (by decide), h 4 (by decide), h 5 (by decide), trivial⟩
theorem St.z_iff {t : St} : eqCs t.cs St.z.cs = true ↔ t = St.z := by
  obtain ⟨l, ⟨s0, s1, s2, s3, s4, s5⟩, ⟨⟨a0, a1, a2, a3⟩, ⟨b0, b1, b2, b3⟩, ⟨c0, c1, c2, c3⟩, ⟨d0, d1, d2, d3⟩, ⟨e0, e1, e2, e3⟩, ⟨f0, f1, f2, f3⟩⟩⟩ := t
  simp [St.cs, St.z, no6, V6.rep, V4.z, eqCs, eqC, eqb, and_assoc]
theorem V4.z_iff {a : V4} : eqCs a.cs V4.z.cs = true ↔ a = V4.z := V4.eq_iff
structure St.Ok (t : St) : Prop where
  dead : t.live = false → t = St.z
  set : ∀ j, j < 6 → t.s.get j = true → (t.r.get j).ok = true
  unset : ∀ j, j < 6 → t.s.get j = false → t.r.get j = V4.z
theorem badR_no {t : St} {j : Nat} : badR t j = false ↔ ((t.s.get j = true → (t.r.get j).ok = true) ∧ (t.s.get j = false → t.r.get j = V4.z)) := by
  unfold badR
  cases h : t.s.get j with
  | true => simp
  | false =>
    rw [← V4.z_iff]
    simp
theorem St.ok_iff {t : St} : t.ok = true ↔ t.Ok := by
  unfold St.ok
  rw [Bool.and_eq_true, Bool.or_eq_true, St.z_iff, Bool.not_eq_true', anyFrom_no]
  constructor
  · rintro ⟨h1, h2⟩
    exact ⟨fun h => h1.resolve_left (by rw [h]; decide), fun j hj => (badR_no.1 (h2 j hj)).1, fun j hj => (badR_no.1 (h2 j hj)).2⟩
  · intro h
    refine ⟨?_, fun j hj => badR_no.2 ⟨h.set j hj, h.unset j hj⟩⟩
    cases hl : t.live with
    | true => exact Or.inl rfl
    | false => exact Or.inr (h.dead hl)
theorem rep_get {α : Type} (a : α) : ∀ j, j < 6 → (V6.rep a).get j = a := lt6 rfl rfl rfl rfl rfl rfl
theorem no6_get : ∀ j, j < 6 → no6.get j = false := lt6 rfl rfl rfl rfl rfl rfl
theorem St.z_Ok : St.z.Ok := ⟨fun _ => rfl, fun j hj h => (by rw [show St.z.s = no6 from rfl, no6_get j hj] at h; cases h), fun j hj _ => rep_get _ j hj⟩
theorem St.e_Ok : St.e.Ok := ⟨fun h => (by cases h), fun j hj h => (by rw [show St.e.s = no6 from rfl, no6_get j hj] at h; cases h), fun j hj _ => rep_get _ j hj⟩
theorem St.wth_s {t : St} {d j : Nat} {a : V4} (hd : d < 6) (hj : j < 6) : (t.wth d a).s.get j = if d = j then true else t.s.get j := V6.get_set _ _ _ _ hd hj
theorem St.wth_r {t : St} {d j : Nat} {a : V4} (hd : d < 6) (hj : j < 6) : (t.wth d a).r.get j = if d = j then a else t.r.get j := V6.get_set _ _ _ _ hd hj
theorem St.wth_Ok {t : St} {d : Nat} {a : V4} (hd : d < 6) (hl : t.live = true) (ha : a.ok = true) (h : t.Ok) : (t.wth d a).Ok := by
  refine ⟨fun hn => ?_, fun j hj hs => ?_, fun j hj hs => ?_⟩
  · have : t.live = false := hn
    rw [hl] at this; cases this
  · rw [St.wth_s hd hj] at hs
    rw [St.wth_r hd hj]
    split
    · exact ha
    · rename_i hne; rw [if_neg hne] at hs; exact h.set j hj hs
  · rw [St.wth_s hd hj] at hs
    rw [St.wth_r hd hj]
    split
    · rename_i hne; rw [if_pos hne] at hs; cases hs
    · rename_i hne; rw [if_neg hne] at hs; exact h.unset j hj hs
theorem beginS_Ok : beginS.Ok := St.wth_Ok (by decide) rfl V4.any_ok St.e_Ok

/- a machine that the state has -/
structure St.Has (t : St) (m : Mach) : Prop where
  ok : t.Ok
  live : t.live = true
  mach : machErr m = 0
  fin : m.fin = 0
  reg : ∀ j, j < 6 → t.s.get j = true → m.s.get j = true ∧ (t.r.get j).has (m.r.get j) = true
theorem lackR_no {t : St} {m : Mach} {j : Nat} : lackR t m j = false ↔ (t.s.get j = true → m.s.get j = true ∧ (t.r.get j).has (m.r.get j) = true) := by
  unfold lackR
  cases t.s.get j <;> cases m.s.get j <;> cases (t.r.get j).has (m.r.get j) <;> simp
theorem St.has_iff {t : St} {m : Mach} : t.has m = true ↔ t.Has m := by
  unfold St.has
  rw [Bool.and_eq_true, Bool.and_eq_true, Bool.and_eq_true, Bool.and_eq_true, St.ok_iff, decide_eq_true_eq, decide_eq_true_eq, Bool.not_eq_true', anyFrom_no]
  constructor
  · rintro ⟨h1, h2, h3, h4, h5⟩
    exact ⟨h1, h2, h3, h4, fun j hj => lackR_no.1 (h5 j hj)⟩
  · intro h
    exact ⟨h.ok, h.live, h.mach, h.fin, fun j hj => lackR_no.2 (h.reg j hj)⟩

/- joins -/
theorem joinFrom_facts (t u : St) : ∀ n, n ≤ 6 → ∀ b : St, (joinFrom t u n b).live = b.live ∧ ∀ j, j < 6 →
    (joinFrom t u n b).s.get j = (if 6 - n ≤ j then ((t.s.get j && u.s.get j) || b.s.get j) else b.s.get j) ∧
    (joinFrom t u n b).r.get j = (if 6 - n ≤ j ∧ (t.s.get j && u.s.get j) = true then (t.r.get j).join (u.r.get j) else b.r.get j)
  | 0, _, b => ⟨rfl, fun j hj => ⟨by rw [if_neg (by omega)]; rfl, by rw [if_neg (by omega)]; rfl⟩⟩
  | n + 1, hn, b => by
    obtain ⟨h1, h2⟩ := joinFrom_facts t u n (by omega) (joinR t u (5 - n) b)
    have hk : 5 - n < 6 := by omega
    have hb : (joinR t u (5 - n) b).live = b.live ∧ ∀ j, j < 6 → (joinR t u (5 - n) b).s.get j = (if 5 - n = j then ((t.s.get j && u.s.get j) || b.s.get j) else b.s.get j) ∧
        (joinR t u (5 - n) b).r.get j = (if 5 - n = j ∧ (t.s.get j && u.s.get j) = true then (t.r.get j).join (u.r.get j) else b.r.get j) := by
      unfold joinR
      cases hc : (t.s.get (5 - n) && u.s.get (5 - n)) with
      | true =>
        rw [if_pos rfl]
        refine ⟨rfl, fun j hj => ?_⟩
        rw [St.wth_s hk hj, St.wth_r hk hj]
        by_cases hjj : 5 - n = j
        · subst hjj; simp [hc]
        · simp [hjj]
      | false =>
        rw [if_neg (by decide)]
        refine ⟨rfl, fun j hj => ?_⟩
        by_cases hjj : 5 - n = j
        · subst hjj; simp [hc]
        · simp [hjj]
    refine ⟨h1.trans hb.1, fun j hj => ?_⟩
    obtain ⟨h3, h4⟩ := h2 j hj
    obtain ⟨h5, h6⟩ := hb.2 j hj
    show (joinFrom t u n (joinR t u (5 - n) b)).s.get j = _ ∧ (joinFrom t u n (joinR t u (5 - n) b)).r.get j = _
    rw [h3, h4, h5, h6]
    have pick : ∀ {p q r : Prop} [Decidable p] [Decidable q] [Decidable r] (x y : Bool) (v w : V4), (r ↔ (p ∨ q)) → ¬ (p ∧ q) → ((if p then (x || (if q then (x || y) else y)) else (if q then (x || y) else y)) = (if r then (x || y) else y)) ∧
        ((if p ∧ x = true then v else (if q ∧ x = true then v else w)) = (if r ∧ x = true then v else w)) := by
      intro p q r _ _ _ x y v w h1 h2
      by_cases hp : p
      · have hq : ¬ q := fun hq => h2 ⟨hp, hq⟩
        have hr : r := h1.2 (Or.inl hp)
        simp [hp, hq, hr]
      · by_cases hq : q
        · have hr : r := h1.2 (Or.inr hq)
          simp [hp, hq, hr]
        · have hr : ¬ r := fun hr => (h1.1 hr).elim hp hq
          simp [hp, hq, hr]
    exact pick _ _ _ _ (by omega) (by omega)
theorem St.join_live {t u : St} (ht : t.live = true) (hu : u.live = true) : (t.join u).live = true ∧ ∀ j, j < 6 →
    (t.join u).s.get j = (t.s.get j && u.s.get j) ∧ (t.join u).r.get j = (if (t.s.get j && u.s.get j) = true then (t.r.get j).join (u.r.get j) else V4.z) := by
  unfold St.join
  rw [if_pos ht, if_pos hu]
  obtain ⟨h1, h2⟩ := joinFrom_facts t u 6 (Nat.le_refl 6) St.e
  refine ⟨h1, fun j hj => ?_⟩
  obtain ⟨h3, h4⟩ := h2 j hj
  rw [h3, h4, if_pos (by omega), show St.e.s = no6 from rfl, show St.e.r = V6.rep V4.z from rfl, no6_get j hj, rep_get _ j hj, Bool.or_false]
  exact ⟨rfl, by simp⟩
theorem St.join_Ok {t u : St} (ht : t.Ok) (hu : u.Ok) : (t.join u).Ok := by
  by_cases h1 : t.live = true
  · by_cases h2 : u.live = true
    · obtain ⟨h3, h4⟩ := St.join_live h1 h2
      refine ⟨fun h => (by rw [h3] at h; cases h), fun j hj hs => ?_, fun j hj hs => ?_⟩
      · obtain ⟨h5, h6⟩ := h4 j hj
        rw [h5] at hs
        rw [h6, if_pos hs]
        rw [Bool.and_eq_true] at hs
        exact V4.join_ok (ht.set j hj hs.1) (hu.set j hj hs.2)
      · obtain ⟨h5, h6⟩ := h4 j hj
        rw [h5] at hs
        rw [h6, if_neg (by rw [hs]; decide)]
    · unfold St.join; rw [if_pos h1, if_neg h2]; exact ht
  · unfold St.join; rw [if_neg h1]; exact hu
theorem St.join_Has {t u : St} {m : Mach} (ht : t.Ok) (hu : u.Ok) (h : t.Has m ∨ u.Has m) : (t.join u).Has m := by
  by_cases h1 : t.live = true
  · by_cases h2 : u.live = true
    · obtain ⟨h3, h4⟩ := St.join_live h1 h2
      have key : ∀ j, j < 6 → (t.join u).s.get j = true → m.s.get j = true ∧ ((t.join u).r.get j).has (m.r.get j) = true := by
        intro j hj hs
        obtain ⟨h5, h6⟩ := h4 j hj
        rw [h5] at hs
        rw [h6, if_pos hs]
        rw [Bool.and_eq_true] at hs
        rcases h with h | h
        · exact ⟨(h.reg j hj hs.1).1, V4.join_has (ht.set j hj hs.1) (hu.set j hj hs.2) (Or.inl (h.reg j hj hs.1).2)⟩
        · exact ⟨(h.reg j hj hs.2).1, V4.join_has (ht.set j hj hs.1) (hu.set j hj hs.2) (Or.inr (h.reg j hj hs.2).2)⟩
      rcases h with h | h
      · exact ⟨St.join_Ok ht hu, h3, h.mach, h.fin, key⟩
      · exact ⟨St.join_Ok ht hu, h3, h.mach, h.fin, key⟩
    · have e : t.join u = t := by unfold St.join; rw [if_pos h1, if_neg h2]
      rw [e]
      exact h.resolve_right fun h => h2 h.live
  · have e : t.join u = u := by unfold St.join; rw [if_neg h1]
    rw [e]
    exact h.resolve_left fun h => h1 h.live
end Go.Proofs.YtkigmocchaikgabGreat

/- The contracts of flow's Check, Begin, Has and Join. -/
namespace Go.Proofs.YtkigmocchaikgabGreat
open Go.RowKit

/- registers, looked up -/
section
variable {j : Int}
theorem lt_six (h : regB j = true) : decide (j < 6) = true := decide_eq_true (regB_iff.1 h).2
theorem b_ok (u : V6 Bool) (h : regB j = true) : (AC.isB (Option.getD (bcs u)[Int.toNat j * 1]? (AC.b false)) && Nat.blt (Int.toNat j * 1) (List.length (bcs u)) && (decide (0 ≤ j) && decide (j < 6))) = true :=
  reg_elim (P := fun j => (AC.isB (Option.getD (bcs u)[Int.toNat j * 1]? (AC.b false)) && Nat.blt (Int.toNat j * 1) (List.length (bcs u)) && (decide (0 ≤ j) && decide (j < 6))) = true) h rfl rfl rfl rfl rfl rfl
theorem b_eff (u : V6 Bool) (h : regB j = true) : Eff.mk (AV.c (AC.b (AC.asB (Option.getD (bcs u)[Int.toNat j * 1]? (AC.b false))))) [] none = Eff.mk (AV.c (AC.b (V6.get u (Int.toNat j)))) [] none :=
  reg_elim (P := fun j => Eff.mk (AV.c (AC.b (AC.asB (Option.getD (bcs u)[Int.toNat j * 1]? (AC.b false))))) [] none = Eff.mk (AV.c (AC.b (V6.get u (Int.toNat j)))) [] none) h rfl rfl rfl rfl rfl rfl
theorem ss_ok (t : St) (h : regB j = true) : (AC.isB (Option.getD (St.cs t)[1 + Int.toNat j * 1]? (AC.b false)) && Nat.blt (1 + Int.toNat j * 1) (List.length (St.cs t))) = true :=
  reg_elim (P := fun j => (AC.isB (Option.getD (St.cs t)[1 + Int.toNat j * 1]? (AC.b false)) && Nat.blt (1 + Int.toNat j * 1) (List.length (St.cs t))) = true) h rfl rfl rfl rfl rfl rfl
theorem ss_eff (t : St) (h : regB j = true) : Eff.mk (AV.c (AC.b (AC.asB (Option.getD (St.cs t)[1 + Int.toNat j * 1]? (AC.b false))))) [] none = Eff.mk (AV.c (AC.b (V6.get (St.s t) (Int.toNat j)))) [] none :=
  reg_elim (P := fun j => Eff.mk (AV.c (AC.b (AC.asB (Option.getD (St.cs t)[1 + Int.toNat j * 1]? (AC.b false))))) [] none = Eff.mk (AV.c (AC.b (V6.get (St.s t) (Int.toNat j)))) [] none) h rfl rfl rfl rfl rfl rfl
theorem sr_ok (t : St) (h : regB j = true) : Nat.ble (7 + Int.toNat j * 4 + 4) (List.length (St.cs t)) = true :=
  reg_elim (P := fun j => Nat.ble (7 + Int.toNat j * 4 + 4) (List.length (St.cs t)) = true) h rfl rfl rfl rfl rfl rfl
theorem sr_eff (t : St) (h : regB j = true) : Eff.mk (AV.ag (List.take 4 (List.drop (7 + Int.toNat j * 4) (St.cs t)))) [] none = Eff.mk (AV.ag (V4.cs (V6.get (St.r t) (Int.toNat j)))) [] none := by rw [st_get_r h]
end
/- the round that has n behind it -/
theorem rnd_reg {n : Nat} (hn : n + 1 ≤ 6) : regB ((6 - (n + 1) : Nat) : Int) = true := by rw [regB_iff]; omega
theorem rnd_nat {n : Nat} (hn : n + 1 ≤ 6) : ((6 - (n + 1) : Nat) : Int).toNat = 5 - n := by omega
theorem rnd_next {n : Nat} (hn : n + 1 ≤ 6) : IntKind.wrap IntKind.i64 (((6 - (n + 1) : Nat) : Int) + 1) = ((6 - n : Nat) : Int) := by rw [wrapN (by omega) (by omega)]; omega
theorem er_ne (b : Bool) : (er b != 0) = !b := by cases b <;> rfl
theorem fwith_ok {t : St} {d : Int} (a : V4) (h : regB d = true) : Ok 68 [.ag t.cs, .c (.i d), .ag a.cs] (.ag (t.wth d.toNat a).cs) := by
  have h1 := regB_iff.1 h
  have h2 := reg_nat h
  refine fwith_w0 ?_ ?_ ?_
  · simp [h1.1, h1.2, st_len, V4.cs]; omega
  · rw [st_set_s h]
  · rw [st_set_r a h]; rfl
theorem fbegin_ok : Ok 33 [] (.ag beginS.cs) := fbegin_w0 (a := V4.any) (t := beginS) valAny_ok (fwith_ok (t := St.e) (d := 1) V4.any rfl)

abbrev fcKn (t : St) (j : Int) : Kn := ⟨[(1, .c (.w 0)), (14, .ag (bcs t.s)), (15, .c (.i j))], [(0, ⟨true, t.cs, 0⟩)], 1⟩
theorem fcLoop {t : St} {w : World} {β : Bs} {E : Eff} : ∀ n, n ≤ 6 → (anyFrom (badR t) n = true → ⟨.c (.i 1), [], none⟩ = E) → (anyFrom (badR t) n = false → ⟨.c (.i 0), [], none⟩ = E) →
    ART Tryz.prog 26 (cx w β 0 []) Tryz.f26.ntmps (cutAt Tryz.f26 0) (fcKn t (6 - n : Nat)) (REff w β E)
  | 0, _, _, hz => art_eq fcEnd_w0 (hz rfl)
  | n + 1, hn, hy, hz => by
    have hj := rnd_reg hn
    have ej := rnd_nat hn
    have f0 := lt_six hj
    have f1 := b_ok t.s hj
    have f2 : (decide (0 ≤ ((6 - (n + 1) : Nat) : Int)) && decide (((6 - (n + 1) : Nat) : Int) < 6)) = true := hj
    have f3 := sr_ok t hj
    have f4 := b_eff t.s hj
    have f5 := sr_eff t hj
    have yes : badR t (5 - n) = true → (⟨.c (.i 1), [], none⟩ : Eff) = E := fun h => hy (by rw [anyFrom, h]; rfl)
    have next : badR t (5 - n) = false → ART Tryz.prog 26 (cx w β 0 []) Tryz.f26.ntmps (cutAt Tryz.f26 0) (fcKn t (IntKind.wrap IntKind.i64 (((6 - (n + 1) : Nat) : Int) + 1))) (REff w β E) := by
      intro hb
      rw [rnd_next hn]
      refine fcLoop n (by omega) (fun h => hy ?_) (fun h => hz ?_)
      · rw [anyFrom, hb, h]; rfl
      · rw [anyFrom, hb, h]; rfl
    refine fcRound_all (by omega) (fun a b => ⟨f0, f1, f2, f3, f4, f5, valCheck_ok _, yes ?_⟩) (fun a b => ⟨f0, f1, f2, f3, ?_, f4, f5, valCheck_ok _, low_of rfl, next ?_⟩) (fun a b => ⟨f0, f1, f2, f3, f4, f5, yes ?_⟩) (fun a b => ⟨f0, f1, f2, f3, f4, f5, low_of rfl, next ?_⟩)
    · rw [ej] at a b
      rw [er_ne] at b
      unfold badR; rw [a, b]; rfl
    · rw [a]; rfl
    · rw [ej] at a b
      rw [er_ne] at b
      unfold badR; rw [a, b]; rfl
    · rw [ej] at a b
      unfold badR; rw [a]; exact b
    · rw [ej] at a b
      unfold badR; rw [a]; exact b
theorem fcheck_ok (t : St) : Ok 26 [.ag t.cs] (.c (.i (er t.ok))) := by
  refine val_of Tryz.func26 rfl rfl rfl rfl fun w β => ?_
  have main : (t.live || eqCs t.cs St.z.cs) = true → ART Tryz.prog 26 (cx w β 0 []) Tryz.f26.ntmps (cutAt Tryz.f26 0) (fcKn t 0) (REff w β ⟨.c (.i (er t.ok)), [], none⟩) := by
    intro h
    refine fcLoop 6 (Nat.le_refl 6) (fun k => ?_) (fun k => ?_)
    · unfold St.ok; rw [h, k]; rfl
    · unfold St.ok; rw [h, k]; rfl
  refine fcTop_all (Nat.zero_le 1) (fun a b => ?_) (fun a b => ⟨low_of rfl, main ?_⟩) (fun a => ⟨low_of rfl, main ?_⟩)
  · have b : (!eqCs t.cs St.z.cs) = true := b
    have h : (t.live || eqCs t.cs St.z.cs) = false := by
      revert a b
      cases t.live <;> cases eqCs t.cs St.z.cs <;> decide
    unfold St.ok; rw [h]; rfl
  · have b : (!eqCs t.cs St.z.cs) = false := b
    rw [yes_not b]; cases t.live <;> rfl
  · rw [yes_not a]; rfl

abbrev fjKn (t u b : St) (j : Int) : Kn := ⟨[(2, .c (.w 0)), (3, .c (.w 1)), (4, .c (.w 2)), (6, .c (.w 19)), (28, .c (.i j))], [(0, ⟨true, t.cs, 0⟩), (1, ⟨true, u.cs, 0⟩), (2, ⟨true, St.z.cs, 0⟩), (19, ⟨true, b.cs, 0⟩)], 20⟩
theorem fjLoop {t u : St} (ht : t.Ok) (hu : u.Ok) {w : World} {β : Bs} : ∀ n, n ≤ 6 → ∀ b : St,
    ART Tryz.prog 35 (cx w β 0 []) Tryz.f35.ntmps (cutAt Tryz.f35 0) (fjKn t u b (6 - n : Nat)) (REff w β ⟨.tu [.ag (joinFrom t u n b).cs, .c (.i 0)], [], none⟩)
  | 0, _, b => fjEnd_w0
  | n + 1, hn, b => by
    have hj := rnd_reg hn
    have ej := rnd_nat hn
    have hlt : 5 - n < 6 := by omega
    have f0 := lt_six hj
    have f1 := ss_ok t hj
    have f2 : (decide (0 ≤ ((6 - (n + 1) : Nat) : Int)) && decide (((6 - (n + 1) : Nat) : Int) < 6)) = true := hj
    have f3 := ss_ok u hj
    have f4 := sr_ok t hj
    have f5 := sr_ok u hj
    have f6 := ss_eff t hj
    have f7 := ss_eff u hj
    have f8 := sr_eff t hj
    have f9 := sr_eff u hj
    have next : ∀ b' : St, joinR t u (5 - n) b = b' → ART Tryz.prog 35 (cx w β 0 []) Tryz.f35.ntmps (cutAt Tryz.f35 0) (fjKn t u b' (IntKind.wrap IntKind.i64 (((6 - (n + 1) : Nat) : Int) + 1))) (REff w β ⟨.tu [.ag (joinFrom t u (n + 1) b).cs, .c (.i 0)], [], none⟩) := by
      intro b' hb
      rw [rnd_next hn, joinFrom, hb]
      exact fjLoop ht hu n (by omega) b'
    have hJ : t.s.get ((6 - (n + 1) : Nat) : Int).toNat = true → u.s.get ((6 - (n + 1) : Nat) : Int).toNat = true → Ok 79 [.ag (t.r.get ((6 - (n + 1) : Nat) : Int).toNat).cs, .ag (u.r.get ((6 - (n + 1) : Nat) : Int).toNat).cs] (.tu [.ag ((t.r.get ((6 - (n + 1) : Nat) : Int).toNat).join (u.r.get ((6 - (n + 1) : Nat) : Int).toNat)).cs, .c (.i 0)]) := fun a d => by
      rw [ej] at a d ⊢
      exact valJoin_ok (ht.set _ hlt a) (hu.set _ hlt d)
    refine fjRound_all (a := (t.r.get ((6 - (n + 1) : Nat) : Int).toNat).join (u.r.get ((6 - (n + 1) : Nat) : Int).toNat)) (b2 := b.wth ((6 - (n + 1) : Nat) : Int).toNat ((t.r.get ((6 - (n + 1) : Nat) : Int).toNat).join (u.r.get ((6 - (n + 1) : Nat) : Int).toNat))) (by omega)
      (fun a d => ⟨f0, f2, f1, f2, f3, f2, f4, f2, f5, f6, f7, f8, f9, hJ a d, fwith_ok _ hj, low_of rfl, next _ ?_⟩) (fun a d => ⟨f0, f2, f1, f2, f3, f6, f7, low_of rfl, next _ ?_⟩) (fun a => ⟨f0, f2, f1, f6, low_of rfl, next _ ?_⟩)
    · rw [ej] at a d ⊢
      unfold joinR; rw [a, d]; rfl
    · rw [ej] at a d
      unfold joinR; rw [a, d]; rfl
    · rw [ej] at a
      unfold joinR; rw [a]; rfl
def joinE (t u : St) : Int := if t.ok && u.ok then 0 else 1
def joinA (t u : St) : St := if t.ok && u.ok then t.join u else St.z
theorem fjoin_ok (t u : St) : Ok 35 [.ag t.cs, .ag u.cs] (.tu [.ag (joinA t u).cs, .c (.i (joinE t u))]) := by
  refine val_of Tryz.func35 rfl rfl rfl rfl fun w β => ?_
  have bad : (t.ok && u.ok) = false → (⟨.tu [.ag St.z.cs, .c (.i 1)], [], none⟩ : Eff) = ⟨.tu [.ag (joinA t u).cs, .c (.i (joinE t u))], [], none⟩ := fun h => by unfold joinA joinE; rw [h]; rfl
  refine fjTop_all (e := er t.ok) (f := er u.ok) (Nat.zero_le 20) (fun a => ⟨fcheck_ok t, bad ?_⟩) (fun a b => ⟨fcheck_ok t, fcheck_ok u, bad ?_⟩) (fun a b d => ⟨fcheck_ok t, fcheck_ok u, ?_⟩) (fun a b d e => ⟨fcheck_ok t, fcheck_ok u, ?_⟩) (fun a b d e => ⟨fcheck_ok t, fcheck_ok u, low_of rfl, ?_⟩)
  · rw [er_ne] at a
    rw [show t.ok = false by simpa using a]; rfl
  · rw [er_ne] at b
    rw [show u.ok = false by simpa using b]; cases t.ok <;> rfl
  all_goals
    rw [er_ne] at a b
    have a : t.ok = true := by simpa using a
    have b : u.ok = true := by simpa using b
    have hA : joinA t u = t.join u := by unfold joinA; rw [a, b]; rfl
    have hE : joinE t u = 0 := by unfold joinE; rw [a, b]; rfl
    rw [hA, hE]
    unfold St.join
  · rw [if_neg (by simpa using d)]
  · rw [if_pos (by simpa using d), if_neg (by simpa using e)]
  · rw [if_pos (by simpa using d), if_pos (by simpa using e)]
    exact fjLoop (St.ok_iff.1 a) (St.ok_iff.1 b) 6 (Nat.le_refl 6) St.e
end Go.Proofs.YtkigmocchaikgabGreat

/- A step on what may be: it is right, and no step of a machine that is had is left out: plain facts. -/
namespace Go.Proofs.YtkigmocchaikgabGreat

theorem fine_right {i : Ins} : fineI i = true ↔ Right i 65 := by
  unfold fineI
  rw [Bool.and_eq_true, Bool.and_eq_true]
  exact ⟨fun ⟨a, b, c⟩ => ⟨a, b, c⟩, fun h => ⟨h.kind, h.fits, h.bare⟩⟩
theorem goesB_mono {o n n' : Int} (h : n ≤ n') (hg : goesB o n = true) : goesB o n' = true := by
  simp only [goesB, Bool.and_eq_true, decide_eq_true_eq] at hg ⊢
  omega
theorem Right.mono {i : Ins} {n n' : Int} (h : n ≤ n') (hr : Right i n) : Right i n' := by
  refine ⟨hr.kind, ?_, hr.bare⟩
  have := hr.fits
  unfold inB at this ⊢
  by_cases c1 : i.op = 10 ∨ i.op = 11
  · rw [if_pos c1] at this ⊢; exact this
  rw [if_neg c1] at this ⊢
  by_cases c2 : i.op = 12
  · rw [if_pos c2] at this ⊢; exact goesB_mono h this
  rw [if_neg c2] at this ⊢
  by_cases c3 : i.op = 13 ∨ i.op = 14
  · rw [if_pos c3] at this ⊢
    rw [Bool.and_eq_true] at this ⊢
    exact ⟨this.1, goesB_mono h this.2⟩
  rw [if_neg c3] at this ⊢
  exact this
theorem lacks_no {u s : V6 Bool} (h : lacks u s = false) : ∀ j, j < 6 → u.get j = true → s.get j = true := by
  rw [lacks_from, anyFrom_no] at h
  intro j hj hu
  have := h j hj
  rw [hu] at this
  simpa using this
theorem set_get {v : V6 Bool} {k j : Nat} (hk : k < 6) (hj : j < 6) : (v.set k true).get j = if k = j then true else v.get j := V6.get_set _ _ _ _ hk hj
theorem use_s {i : Ins} (h1 : i.op ≠ 12) (h2 : i.op ≠ 15) (hs : regB i.s = true) : (useOf i).get i.s.toNat = true := by
  have h3 := regB_iff.1 hs
  have h4 := reg_nat hs
  unfold useOf
  rw [if_neg h1, if_neg h2, if_neg (by omega), set_get h4 h4, if_pos rfl]
theorem use_d {i : Ins} (h1 : i.op ≠ 12) (h2 : i.op ≠ 15) (h3 : i.op ≠ 1) (h4 : i.op ≠ 10) (hd : regB i.d = true) (hs : srcB i.s = true) : (useOf i).get i.d.toNat = true := by
  have h5 := reg_nat hd
  unfold useOf
  rw [if_neg h1, if_neg h2, if_neg (by omega : ¬ (i.op = 1 ∨ i.op = 10))]
  by_cases c : i.s = -1
  · rw [if_pos c, set_get h5 h5, if_pos rfl]
  · rw [if_neg c]
    have h6 := reg_nat ((srcB_iff.1 hs).resolve_left c)
    rw [set_get h6 h5, set_get h5 h5, if_pos rfl]
    split <;> rfl
theorem srcV_ok {i : Ins} {n : Int} {t : St} (hr : Right i n) (ht : t.Ok) (hu : lacks (useOf i) t.s = false) (h1 : i.op ≠ 12) (h2 : i.op ≠ 15) : (srcV i t).ok = true := by
  have hg := right_regs hr
  unfold srcV
  by_cases c : i.s = -1
  · rw [if_pos c]; exact V4.of_ok _
  · rw [if_neg c]
    have hs := (srcB_iff.1 hg.2).resolve_left c
    exact ht.set _ (reg_nat hs) (lacks_no hu _ (reg_nat hs) (use_s h1 h2 hs))
theorem dstV_ok {i : Ins} {n : Int} {t : St} (hr : Right i n) (ht : t.Ok) (hu : lacks (useOf i) t.s = false) (h1 : i.op ≠ 12) (h2 : i.op ≠ 15) (h3 : i.op ≠ 1) (h4 : i.op ≠ 10) : (t.r.get i.d.toNat).ok = true := by
  have hg := right_regs hr
  exact ht.set _ (reg_nat hg.1) (lacks_no hu _ (reg_nat hg.1) (use_d h1 h2 h3 h4 hg.1 hg.2))
theorem trap_zero {i : Ins} {t : St} (h : trapS i t = 0) : lacks (useOf i) t.s = false ∧ (i.op = 10 → farS i (t.r.get i.s.toNat) = false) ∧ (i.op = 11 → farS i (t.r.get i.d.toNat) = false) := by
  unfold trapS at h
  by_cases c0 : lacks (useOf i) t.s = true
  · rw [if_pos c0] at h; exact absurd h (by decide)
  rw [if_neg c0] at h
  refine ⟨by simpa using c0, fun h1 => ?_, fun h1 => ?_⟩
  · rw [if_pos h1] at h
    cases hf : farS i (t.r.get i.s.toNat) with
    | false => rfl
    | true => rw [hf] at h; exact absurd h (by decide)
  · rw [if_neg (by omega), if_pos h1] at h
    cases hf : farS i (t.r.get i.d.toNat) with
    | false => rfl
    | true => rw [hf] at h; exact absurd h (by decide)
/- a step, kind by kind -/
theorem ops_of {i : Ins} {n : Int} (h : Right i n) : i.op = 10 ∨ i.op = 11 ∨ i.op = 12 ∨ i.op = 13 ∨ i.op = 14 ∨ i.op = 15 ∨ i.op = 1 ∨ (2 ≤ i.op ∧ i.op ≤ 9) := by
  have := kind_iff.1 h.kind
  omega
section
variable {i : Ins} {t : St} {m : Mach}
theorem goS_load (h : i.op = 10) : goS i t = (t.wth i.d.toNat (V4.bytes (nv i.im)), St.z) := by unfold goS; rw [if_pos h]
theorem goS_store (h : i.op = 11) : goS i t = (t, St.z) := by unfold goS; rw [if_neg (by omega), if_pos h]
theorem goS_jump (h : i.op = 12) : goS i t = (St.z, t) := by unfold goS; rw [if_neg (by omega), if_neg (by omega), if_pos h]
theorem goS_eq (h : i.op = 13) : goS i t = (leftS i t ((t.r.get i.d.toNat).other (srcV i t)), leftS i t ((t.r.get i.d.toNat).equal (srcV i t))) := by
  unfold goS; rw [if_neg (by omega), if_neg (by omega), if_neg (by omega), if_pos h]
theorem goS_lt (h : i.op = 14) : goS i t = (leftS i t ((t.r.get i.d.toNat).notLess (srcV i t)), leftS i t ((t.r.get i.d.toNat).less (srcV i t))) := by
  unfold goS; rw [if_neg (by omega), if_neg (by omega), if_neg (by omega), if_neg (by omega), if_pos h]
theorem goS_exit (h : i.op = 15) : goS i t = (St.z, St.z) := by
  unfold goS; rw [if_neg (by omega), if_neg (by omega), if_neg (by omega), if_neg (by omega), if_neg (by omega), if_pos h]
theorem goS_mov (h : i.op = 1) : goS i t = (t.wth i.d.toNat (srcV i t), St.z) := by
  unfold goS; rw [if_neg (by omega), if_neg (by omega), if_neg (by omega), if_neg (by omega), if_neg (by omega), if_neg (by omega), if_pos h]
theorem goS_two (h : 2 ≤ i.op ∧ i.op ≤ 9) : goS i t = (t.wth i.d.toNat (V4.two i.op (t.r.get i.d.toNat) (srcV i t)), St.z) := by
  unfold goS; rw [if_neg (by omega), if_neg (by omega), if_neg (by omega), if_neg (by omega), if_neg (by omega), if_neg (by omega), if_neg (by omega)]
end
theorem leftS_Ok {i : Ins} {n : Int} {t : St} {x : V4 × V4 × Bool} (hr : Right i n) (ht : t.Ok) (hl : t.live = true) (hx : x.2.2 = true → x.1.ok = true ∧ x.2.1.ok = true) : (leftS i t x).Ok := by
  have hg := right_regs hr
  unfold leftS
  by_cases c : x.2.2 = true
  · rw [if_pos c]
    have h1 := St.wth_Ok (reg_nat hg.1) hl (hx c).1 ht
    by_cases cs : i.s = -1
    · rw [if_pos cs]; exact h1
    · rw [if_neg cs]
      have hs := (srcB_iff.1 hg.2).resolve_left cs
      exact St.wth_Ok (reg_nat hs) hl (hx c).2 h1
  · rw [if_neg c]; exact St.z_Ok
theorem goS_Ok {i : Ins} {n : Int} {t : St} (hr : Right i n) (ht : t.Ok) (hl : t.live = true) (h0 : trapS i t = 0) : (goS i t).1.Ok ∧ (goS i t).2.Ok := by
  have hd := reg_nat (right_regs hr).1
  obtain ⟨hu, h10, h11⟩ := trap_zero h0
  rcases ops_of hr with c | c | c | c | c | c | c | c
  · rw [goS_load c]; exact ⟨St.wth_Ok hd hl (V4.bytes_ok _) ht, St.z_Ok⟩
  · rw [goS_store c]; exact ⟨ht, St.z_Ok⟩
  · rw [goS_jump c]; exact ⟨St.z_Ok, ht⟩
  · have hs := srcV_ok hr ht hu (by omega) (by omega)
    have hdv := dstV_ok hr ht hu (by omega) (by omega) (by omega) (by omega)
    rw [goS_eq c]; exact ⟨leftS_Ok hr ht hl (V4.other_ok hdv hs), leftS_Ok hr ht hl (V4.equal_ok hdv hs)⟩
  · have hs := srcV_ok hr ht hu (by omega) (by omega)
    have hdv := dstV_ok hr ht hu (by omega) (by omega) (by omega) (by omega)
    rw [goS_lt c]; exact ⟨leftS_Ok hr ht hl (V4.notLess_ok hdv hs), leftS_Ok hr ht hl (V4.less_ok hdv hs)⟩
  · rw [goS_exit c]; exact ⟨St.z_Ok, St.z_Ok⟩
  · rw [goS_mov c]; exact ⟨St.wth_Ok hd hl (srcV_ok hr ht hu (by omega) (by omega)) ht, St.z_Ok⟩
  · have hs := srcV_ok hr ht hu (by omega) (by omega)
    have hdv := dstV_ok hr ht hu (by omega) (by omega) (by omega) (by omega)
    rw [goS_two c]; exact ⟨St.wth_Ok hd hl (V4.two_ok (by omega) hdv hs) ht, St.z_Ok⟩
theorem stepS_Ok {i : Ins} {n : Int} {t : St} (hr : Right i n) (ht : t.Ok) : (stepS i t).1.Ok ∧ (stepS i t).2.1.Ok := by
  unfold stepS
  by_cases hl : t.live = true
  · rw [if_pos hl]
    by_cases h0 : trapS i t = 0
    · rw [if_pos h0]; exact goS_Ok hr ht hl h0
    · rw [if_neg h0]; exact ⟨St.z_Ok, St.z_Ok⟩
  · rw [if_neg hl]; exact ⟨St.z_Ok, St.z_Ok⟩

/- machines that are had -/
/- a machine with a number put where the state has it -/
/- what is known better of a register -/
/- a step that doesn't trap here, of a machine that is had: it doesn't trap there; it stops, or where it comes to, it is had -/
end Go.Proofs.YtkigmocchaikgabGreat

/- The contract of flow.Step, and of what it calls. -/
namespace Go.Proofs.YtkigmocchaikgabGreat
open Go.RowKit

/- a step and an Exit behind it, as a program -/
theorem code2 (a : Ins) : (codeErr [a, exitI] == 0) = (kindB a && (inB a 1 && bareB a)) := by
  have e1 : kindB exitI = true := rfl
  have e2 : inB exitI 0 = true := rfl
  have e3 : bareB exitI = true := rfl
  have e4 : lastOp [a, exitI] = 15 := rfl
  cases h1 : kindB a <;> cases h2 : inB a 1 <;> cases h3 : bareB a <;> simp [codeErr, List.all, inAll, h1, h2, h3, e1, e2, e3, e4]
theorem in_any {i : Ins} {n n' : Int} (h : i.op ≠ 12) (h2 : i.op ≠ 13) (h3 : i.op ≠ 14) : inB i n = inB i n' := by
  unfold inB
  by_cases c : i.op = 10 ∨ i.op = 11
  · rw [if_pos c, if_pos c]
  · have h4 : ¬ (i.op = 13 ∨ i.op = 14) := by omega
    simp only [if_neg c, if_neg h, if_neg h4]
theorem fine_off {op d s of : Int} {im : BitVec 64} (ho : op = 12 ∨ op = 13 ∨ op = 14) : fineI ⟨op, d, s, im, of⟩ = ((codeErr [⟨op, d, s, im, 0⟩, exitI] == 0) && goesB of 65) := by
  rw [code2]
  unfold fineI
  have eb : bareB ⟨op, d, s, im, of⟩ = bareB ⟨op, d, s, im, 0⟩ := by
    unfold bareB
    simp only
    rcases ho with rfl | rfl | rfl <;> rfl
  have ek : kindB ⟨op, d, s, im, of⟩ = kindB ⟨op, d, s, im, 0⟩ := rfl
  have ei : inB ⟨op, d, s, im, of⟩ 65 = (inB ⟨op, d, s, im, 0⟩ 1 && goesB of 65) := by
    have g : goesB 0 1 = true := rfl
    unfold inB
    simp only
    rcases ho with rfl | rfl | rfl
    · simp [g]
    · simp [g]
    · simp [g]
  rw [eb, ek, ei]
  cases kindB ⟨op, d, s, im, 0⟩ <;> cases inB ⟨op, d, s, im, 0⟩ 1 <;> cases bareB ⟨op, d, s, im, 0⟩ <;> cases goesB of 65 <;> rfl
theorem fis_ok (i : Ins) : Ok 25 [.ag i.cs] (.c (.b (fineI i))) := by
  have out : ∀ {b : Bool}, fineI i = b → AV.c (AC.b b) = AV.c (AC.b (fineI i)) := fun h => by rw [h]
  by_cases ho : i.op = 12 ∨ i.op = 13 ∨ i.op = 14
  · have hf := fine_off (op := i.op) (d := i.d) (s := i.s) (of := i.of) (im := i.im) ho
    have hf : fineI i = ((codeErr [⟨i.op, i.d, i.s, i.im, 0⟩, exitI] == 0) && goesB i.of 65) := hf
    have low : decide (i.of < 0) = true → fineI i = false := fun h => by
      have : i.of < 0 := of_decide_eq_true h
      rw [hf, show goesB i.of 65 = false by unfold goesB; rw [decide_eq_false (by omega)]; rfl]; simp
    have high : decide (64 < i.of) = true → fineI i = false := fun h => by
      have : 64 < i.of := of_decide_eq_true h
      rw [hf, show goesB i.of 65 = false by unfold goesB; rw [decide_eq_false (by omega : ¬ i.of < 65)]; simp]; simp
    have mid : decide (i.of < 0) = false → decide (64 < i.of) = false → fineI i = (codeErr [⟨i.op, i.d, i.s, i.im, 0⟩, exitI] == 0) := fun h k => by
      have h : ¬ i.of < 0 := of_decide_eq_false h
      have k : ¬ 64 < i.of := of_decide_eq_false k
      rw [hf, show goesB i.of 65 = true by unfold goesB; rw [decide_eq_true (by omega : 0 ≤ i.of), decide_eq_true (by omega : i.of < 65)]; rfl]; simp
    have call : ∀ K, CallOK Tryz.prog ⟨47, [.c (.sl K 0 2 2)], [(K, ⟨true, pcell [⟨i.op, i.d, i.s, i.im, 0⟩, exitI], 0⟩)], ⟨.c (.i (codeErr [⟨i.op, i.d, i.s, i.im, 0⟩, exitI])), [], none⟩⟩ := fun K => by
      refine p_at (check_ok [⟨i.op, i.d, i.s, i.im, 0⟩, exitI] 2) K true ?_ rfl
      show [AV.c (AC.sl (swp 0 K 0) 0 2 2)] = _
      rfl
    exact fis_all (e := codeErr [⟨i.op, i.d, i.s, i.im, 0⟩, exitI])
      (fun a b => out (low b)) (fun a b c => out (high c)) (fun a b c => ⟨call 18, out (mid b c)⟩)
      (fun _ a b => out (low b)) (fun _ a b c => out (high c)) (fun _ a b c => ⟨call 20, out (mid b c)⟩)
      (fun _ _ a b => out (low b)) (fun _ _ a b c => out (high c)) (fun _ _ a b c => ⟨call 22, out (mid b c)⟩)
      (fun a b c => absurd ho (by simp at a b c; omega))
  · have hf : fineI i = (codeErr [i, exitI] == 0) := by
      rw [code2]
      unfold fineI
      rw [in_any (n := 65) (n' := 1) (by omega) (by omega) (by omega)]
    have call : ∀ K, CallOK Tryz.prog ⟨47, [.c (.sl K 0 2 2)], [(K, ⟨true, pcell [i, exitI], 0⟩)], ⟨.c (.i (codeErr [i, exitI])), [], none⟩⟩ := fun K => by
      refine p_at (check_ok [i, exitI] 2) K true ?_ rfl
      show [AV.c (AC.sl (swp 0 K 0) 0 2 2)] = _
      rfl
    have no : ∀ {P : Prop}, i.op = 12 ∨ i.op = 13 ∨ i.op = 14 → P := fun h => absurd h ho
    exact fis_all (e := codeErr [i, exitI])
      (fun a b => no (Or.inl (by simpa using a))) (fun a b c => no (Or.inl (by simpa using a))) (fun a b c => no (Or.inl (by simpa using a)))
      (fun _ a b => no (Or.inr (Or.inl (by simpa using a)))) (fun _ a b c => no (Or.inr (Or.inl (by simpa using a)))) (fun _ a b c => no (Or.inr (Or.inl (by simpa using a))))
      (fun _ _ a b => no (Or.inr (Or.inr (by simpa using a)))) (fun _ _ a b c => no (Or.inr (Or.inr (by simpa using a)))) (fun _ _ a b c => no (Or.inr (Or.inr (by simpa using a))))
      (fun a b c => ⟨call 12, out hf⟩)
def farE (i : Ins) (a : V4) : Int := if farS i a then 2 else 0
theorem freach_ok {i : Ins} {a : V4} (ha : a.ok = true) : Ok 66 [.ag i.cs, .ag a.cs] (.c (.i (farE i a))) := by
  have h1 := valOf_ok (BitVec.ofInt 64 i.of)
  have h2 := calcTwo_ok (op := 2) (by decide) ha (V4.of_ok (BitVec.ofInt 64 i.of))
  refine freach_all (b := V4.of (BitVec.ofInt 64 i.of)) (c := V4.two 2 a (V4.of (BitVec.ofInt 64 i.of))) (fun h => ⟨h1, h2, ?_⟩) (fun h => ⟨h1, h2, ?_⟩)
  · unfold farE farS; rw [h]; rfl
  · unfold farE farS; rw [h]; rfl
theorem fsource_ok {i : Ins} {t : St} (h : srcB i.s = true) : Ok 74 [.ag i.cs, .ag t.cs] (.ag (srcV i t).cs) := by
  unfold srcV
  refine fsource_all (b := V4.of i.im) (fun a => ⟨valOf_ok _, ?_⟩) (fun a => ?_)
  · rw [if_pos (by simpa using a)]
  · have a : ¬ i.s = -1 := by simpa using a
    have hs := (srcB_iff.1 h).resolve_left a
    exact ⟨hs, sr_ok t hs, sr_eff t hs, by rw [if_neg a]⟩
section
variable {i : Ins} {t : St}
theorem left_z {x : V4 × V4 × Bool} (h : (!x.2.2) = true) : AV.ag St.z.cs = AV.ag (leftS i t x).cs := by
  unfold leftS; rw [if_neg (by simpa using h)]
theorem left_s {x : V4 × V4 × Bool} (h : (!x.2.2) = false) (k : (i.s != -1) = true) : AV.ag ((t.wth i.d.toNat x.1).wth i.s.toNat x.2.1).cs = AV.ag (leftS i t x).cs := by
  unfold leftS; rw [if_pos (by simpa using h), if_neg (by simpa using k)]
theorem left_c {x : V4 × V4 × Bool} (h : (!x.2.2) = false) (k : (i.s != -1) = false) : AV.ag (t.wth i.d.toNat x.1).cs = AV.ag (leftS i t x).cs := by
  unfold leftS; rw [if_pos (by simpa using h), if_pos (by simpa using k)]
theorem src_of (hs : srcB i.s = true) (k : (i.s != -1) = true) : regB i.s = true := (srcB_iff.1 hs).resolve_left (by simpa using k)
theorem fleftOt_ok (hd : regB i.d = true) (hs : srcB i.s = true) (hv : (t.r.get i.d.toNat).ok = true) (hw : (srcV i t).ok = true) : Ok 69 [.ag i.cs, .ag t.cs, .c (.f 70 [])] (.ag (leftS i t ((t.r.get i.d.toNat).other (srcV i t))).cs) :=
  fleftOt_all (b := srcV i t) (x := ((t.r.get i.d.toNat).other (srcV i t)).1) (y := ((t.r.get i.d.toNat).other (srcV i t)).2.1) (q := ((t.r.get i.d.toNat).other (srcV i t)).2.2) (t1 := t.wth i.d.toNat ((t.r.get i.d.toNat).other (srcV i t)).1) (t2 := (t.wth i.d.toNat ((t.r.get i.d.toNat).other (srcV i t)).1).wth i.s.toNat ((t.r.get i.d.toNat).other (srcV i t)).2.1)
    (fun a => ⟨hd, sr_ok t hd, sr_eff t hd, fsource_ok hs, calcOther_ok hv hw, left_z a⟩) (fun a k => ⟨hd, sr_ok t hd, sr_eff t hd, fsource_ok hs, calcOther_ok hv hw, fwith_ok _ hd, fwith_ok _ (src_of hs k), left_s a k⟩) (fun a k => ⟨hd, sr_ok t hd, sr_eff t hd, fsource_ok hs, calcOther_ok hv hw, fwith_ok _ hd, left_c a k⟩)
theorem fleftEq_ok (hd : regB i.d = true) (hs : srcB i.s = true) (hv : (t.r.get i.d.toNat).ok = true) (hw : (srcV i t).ok = true) : Ok 69 [.ag i.cs, .ag t.cs, .c (.f 71 [])] (.ag (leftS i t ((t.r.get i.d.toNat).equal (srcV i t))).cs) :=
  fleftEq_all (b := srcV i t) (x := ((t.r.get i.d.toNat).equal (srcV i t)).1) (y := ((t.r.get i.d.toNat).equal (srcV i t)).2.1) (q := ((t.r.get i.d.toNat).equal (srcV i t)).2.2) (t1 := t.wth i.d.toNat ((t.r.get i.d.toNat).equal (srcV i t)).1) (t2 := (t.wth i.d.toNat ((t.r.get i.d.toNat).equal (srcV i t)).1).wth i.s.toNat ((t.r.get i.d.toNat).equal (srcV i t)).2.1)
    (fun a => ⟨hd, sr_ok t hd, sr_eff t hd, fsource_ok hs, calcEqual_ok hv hw, left_z a⟩) (fun a k => ⟨hd, sr_ok t hd, sr_eff t hd, fsource_ok hs, calcEqual_ok hv hw, fwith_ok _ hd, fwith_ok _ (src_of hs k), left_s a k⟩) (fun a k => ⟨hd, sr_ok t hd, sr_eff t hd, fsource_ok hs, calcEqual_ok hv hw, fwith_ok _ hd, left_c a k⟩)
theorem fleftNl_ok (hd : regB i.d = true) (hs : srcB i.s = true) (hv : (t.r.get i.d.toNat).ok = true) (hw : (srcV i t).ok = true) : Ok 69 [.ag i.cs, .ag t.cs, .c (.f 72 [])] (.ag (leftS i t ((t.r.get i.d.toNat).notLess (srcV i t))).cs) :=
  fleftNl_all (b := srcV i t) (x := ((t.r.get i.d.toNat).notLess (srcV i t)).1) (y := ((t.r.get i.d.toNat).notLess (srcV i t)).2.1) (q := ((t.r.get i.d.toNat).notLess (srcV i t)).2.2) (t1 := t.wth i.d.toNat ((t.r.get i.d.toNat).notLess (srcV i t)).1) (t2 := (t.wth i.d.toNat ((t.r.get i.d.toNat).notLess (srcV i t)).1).wth i.s.toNat ((t.r.get i.d.toNat).notLess (srcV i t)).2.1)
    (fun a => ⟨hd, sr_ok t hd, sr_eff t hd, fsource_ok hs, calcNotLess_ok hv hw, left_z a⟩) (fun a k => ⟨hd, sr_ok t hd, sr_eff t hd, fsource_ok hs, calcNotLess_ok hv hw, fwith_ok _ hd, fwith_ok _ (src_of hs k), left_s a k⟩) (fun a k => ⟨hd, sr_ok t hd, sr_eff t hd, fsource_ok hs, calcNotLess_ok hv hw, fwith_ok _ hd, left_c a k⟩)
theorem fleftLe_ok (hd : regB i.d = true) (hs : srcB i.s = true) (hv : (t.r.get i.d.toNat).ok = true) (hw : (srcV i t).ok = true) : Ok 69 [.ag i.cs, .ag t.cs, .c (.f 73 [])] (.ag (leftS i t ((t.r.get i.d.toNat).less (srcV i t))).cs) :=
  fleftLe_all (b := srcV i t) (x := ((t.r.get i.d.toNat).less (srcV i t)).1) (y := ((t.r.get i.d.toNat).less (srcV i t)).2.1) (q := ((t.r.get i.d.toNat).less (srcV i t)).2.2) (t1 := t.wth i.d.toNat ((t.r.get i.d.toNat).less (srcV i t)).1) (t2 := (t.wth i.d.toNat ((t.r.get i.d.toNat).less (srcV i t)).1).wth i.s.toNat ((t.r.get i.d.toNat).less (srcV i t)).2.1)
    (fun a => ⟨hd, sr_ok t hd, sr_eff t hd, fsource_ok hs, calcLess_ok hv hw, left_z a⟩) (fun a k => ⟨hd, sr_ok t hd, sr_eff t hd, fsource_ok hs, calcLess_ok hv hw, fwith_ok _ hd, fwith_ok _ (src_of hs k), left_s a k⟩) (fun a k => ⟨hd, sr_ok t hd, sr_eff t hd, fsource_ok hs, calcLess_ok hv hw, fwith_ok _ hd, left_c a k⟩)
end
abbrev ftKn (i : Ins) (t : St) (u : V6 Bool) (j : Int) : Kn := ⟨[(2, .c (.w 0)), (3, .c (.w 1)), (8, .ag (bcs u)), (9, .c (.i j))], [(0, ⟨true, i.cs, 0⟩), (1, ⟨true, t.cs, 0⟩)], 2⟩
theorem ftLoop {i : Ins} {t : St} {u : V6 Bool} {w : World} {β : Bs} {E : Eff} : ∀ n, n ≤ 6 → (anyFrom (fun j => u.get j && !t.s.get j) n = true → ⟨.c (.i 1), [], none⟩ = E) →
    (anyFrom (fun j => u.get j && !t.s.get j) n = false → ART Tryz.prog 27 (cx w β 0 []) Tryz.f27.ntmps (cutAt Tryz.f27 0) (ftKn i t u 6) (REff w β E)) →
    ART Tryz.prog 27 (cx w β 0 []) Tryz.f27.ntmps (cutAt Tryz.f27 0) (ftKn i t u (6 - n : Nat)) (REff w β E)
  | 0, _, _, hz => hz rfl
  | n + 1, hn, hy, hz => by
    have hj := rnd_reg hn
    have ej := rnd_nat hn
    have f0 := lt_six hj
    have f1 := b_ok u hj
    have f2 : (decide (0 ≤ ((6 - (n + 1) : Nat) : Int)) && decide (((6 - (n + 1) : Nat) : Int) < 6)) = true := hj
    have f3 := ss_ok t hj
    have f4 := b_eff u hj
    have f5 := ss_eff t hj
    have yes : (u.get (5 - n) && !t.s.get (5 - n)) = true → (⟨.c (.i 1), [], none⟩ : Eff) = E := fun h => hy (by rw [anyFrom, h]; rfl)
    have next : (u.get (5 - n) && !t.s.get (5 - n)) = false → ART Tryz.prog 27 (cx w β 0 []) Tryz.f27.ntmps (cutAt Tryz.f27 0) (ftKn i t u (IntKind.wrap IntKind.i64 (((6 - (n + 1) : Nat) : Int) + 1))) (REff w β E) := by
      intro hb
      rw [rnd_next hn]
      refine ftLoop n (by omega) (fun h => hy ?_) (fun h => hz ?_)
      · rw [anyFrom, hb, h]; rfl
      · rw [anyFrom, hb, h]; rfl
    refine ftRound_all (by omega) (fun a b => ⟨f0, f1, f2, f3, f4, f5, yes ?_⟩) (fun a b => ⟨f0, f1, f2, f3, f4, f5, low_of rfl, next ?_⟩) (fun a => ⟨f0, f1, f4, low_of rfl, next ?_⟩)
    · rw [ej] at a b; rw [a, b]; rfl
    · rw [ej] at a b; rw [a, b]; rfl
    · rw [ej] at a; rw [a]; rfl
theorem ftrap_ok {i : Ins} {t : St} (hr : Right i 65) (ht : t.Ok) : Ok 27 [.ag i.cs, .ag t.cs] (.c (.i (trapS i t))) := by
  refine val_of Tryz.func27 rfl rfl rfl rfl fun w β => ?_
  have hg := right_regs hr
  refine ftTop_w0 (u := useOf i) (use_of_ok (Or.inr (Or.inr hg))) (low_of rfl) (fun _ h => absurd h (by simp [cx])) (ftLoop 6 (Nat.le_refl 6) (fun h => ?_) (fun h => ?_))
  · rw [← lacks_from] at h
    unfold trapS; rw [if_pos h]
  · rw [← lacks_from] at h
    unfold trapS
    rw [if_neg (by rw [h]; decide)]
    by_cases c1 : i.op = 10
    · obtain ⟨_, hs, _⟩ := fits_reach hr (Or.inl c1)
      have hok := ht.set _ (reg_nat hs) (lacks_no h _ (reg_nat hs) (use_s (by omega) (by omega) hs))
      rw [if_pos c1]
      exact ftEnd_all (e := farE i (t.r.get i.s.toNat)) (fun _ => ⟨hs, sr_ok t hs, sr_eff t hs, freach_ok hok, rfl⟩) (fun a _ => absurd c1 (by simpa using a)) (fun a _ => absurd c1 (by simpa using a))
    rw [if_neg c1]
    by_cases c2 : i.op = 11
    · have hok := dstV_ok hr ht h (by omega) (by omega) (by omega) c1
      rw [if_pos c2]
      exact ftEnd_all (e := farE i (t.r.get i.d.toNat)) (fun a => absurd (show i.op = 10 by simpa using a) c1) (fun _ _ => ⟨hg.1, sr_ok t hg.1, sr_eff t hg.1, freach_ok hok, rfl⟩) (fun _ a => absurd c2 (by simpa using a))
    rw [if_neg c2]
    exact ftEnd_all (e := 0) (fun a => absurd (show i.op = 10 by simpa using a) c1) (fun _ a => absurd (show i.op = 11 by simpa using a) c2) (fun _ _ => rfl)
theorem op_ne {i : Ins} {k : Int} (h : i.op ≠ k) : (!i.op == k) = true := by simpa using h
theorem op_is {i : Ins} {k : Int} (h : i.op = k) : (i.op == k) = true := by simpa using h
theorem size_of {x : BitVec 64} (h : sizeB x = true) : nv x = 1 ∨ nv x = 2 ∨ nv x = 4 ∨ nv x = 8 :=
  size_elim (P := fun x => nv x = 1 ∨ nv x = 2 ∨ nv x = 4 ∨ nv x = 8) h (Or.inl rfl) (Or.inr (Or.inl rfl)) (Or.inr (Or.inr (Or.inl rfl))) (Or.inr (Or.inr (Or.inr rfl)))
theorem fgo_ok {i : Ins} {t : St} (hr : Right i 65) (ht : t.Ok) (h0 : trapS i t = 0) : Ok 28 [.ag i.cs, .ag t.cs] (.tu [.ag (goS i t).1.cs, .ag (goS i t).2.cs]) := by
  have hg := right_regs hr
  obtain ⟨hu, _, _⟩ := trap_zero h0
  rcases ops_of hr with c | c | c | c | c | c | c | c
  · obtain ⟨_, _, hz, _⟩ := fits_reach hr (Or.inl c)
    rw [goS_load c]
    have hn := size_of hz
    exact fgoL_w0 (and_yes (op_is c) rfl) (by rw [wrapN (by omega) (by omega)]) (calcBytes_ok hn) (fwith_ok _ hg.1)
  · rw [goS_store c]
    exact fgoS_w0 (and_yes (op_ne (by omega)) (and_yes (op_is c) rfl))
  · rw [goS_jump c]
    exact fgoJ_w0 (and_yes (op_ne (by omega)) (and_yes (op_ne (by omega)) (and_yes (op_is c) rfl)))
  · have hs := srcV_ok hr ht hu (by omega) (by omega)
    have hv := dstV_ok hr ht hu (by omega) (by omega) (by omega) (by omega)
    rw [goS_eq c]
    exact fgoEq_w0 (and_yes (op_ne (by omega)) (and_yes (op_ne (by omega)) (and_yes (op_ne (by omega)) (and_yes (op_is c) rfl)))) (fleftOt_ok hg.1 hg.2 hv hs) (fleftEq_ok hg.1 hg.2 hv hs)
  · have hs := srcV_ok hr ht hu (by omega) (by omega)
    have hv := dstV_ok hr ht hu (by omega) (by omega) (by omega) (by omega)
    rw [goS_lt c]
    exact fgoLt_w0 (and_yes (op_ne (by omega)) (and_yes (op_ne (by omega)) (and_yes (op_ne (by omega)) (and_yes (op_ne (by omega)) (and_yes (op_is c) rfl))))) (fleftNl_ok hg.1 hg.2 hv hs) (fleftLe_ok hg.1 hg.2 hv hs)
  · rw [goS_exit c]
    exact fgoX_w0 (and_yes (op_ne (by omega)) (and_yes (op_ne (by omega)) (and_yes (op_ne (by omega)) (and_yes (op_ne (by omega)) (and_yes (op_ne (by omega)) (and_yes (op_is c) rfl))))))
  · rw [goS_mov c]
    exact fgoM_w0 (and_yes (op_ne (by omega)) (and_yes (op_ne (by omega)) (and_yes (op_ne (by omega)) (and_yes (op_ne (by omega)) (and_yes (op_ne (by omega)) (and_yes (op_ne (by omega)) (and_yes (op_is c) rfl))))))) (fsource_ok hg.2) (fwith_ok _ hg.1)
  · have hs := srcV_ok hr ht hu (by omega) (by omega)
    have hv := dstV_ok hr ht hu (by omega) (by omega) (by omega) (by omega)
    rw [goS_two c]
    exact fgoT_w0 (and_yes (op_ne (by omega)) (and_yes (op_ne (by omega)) (and_yes (op_ne (by omega)) (and_yes (op_ne (by omega)) (and_yes (op_ne (by omega)) (and_yes (op_ne (by omega)) (and_yes (op_ne (by omega)) (and_yes hg.1 (and_yes (sr_ok t hg.1) rfl))))))))) (sr_eff t hg.1) (fsource_ok hg.2) (calcTwo_ok (by omega) hv hs) (fwith_ok _ hg.1)
theorem fstep_ok (i : Ins) (t : St) : Ok 7 [.ag i.cs, .ag t.cs] (.tu [.ag (stepA i t).1.cs, .ag (stepA i t).2.1.cs, .c (.i (stepA i t).2.2), .c (.i (stepE i t))]) := by
  have h1 := fis_ok i
  have h2 := fcheck_ok t
  have bad : (fineI i && t.ok) = false → AV.tu [AT.ag (St.cs St.z), AT.ag (St.cs St.z), AT.c (AC.i 0), AT.c (AC.i 1)] = .tu [.ag (stepA i t).1.cs, .ag (stepA i t).2.1.cs, .c (.i (stepA i t).2.2), .c (.i (stepE i t))] := fun h => by
    unfold stepA stepE; rw [h]; rfl
  by_cases hb : (fineI i && t.ok) = true
  · have hb' := hb
    rw [Bool.and_eq_true] at hb'
    have hr := fine_right.1 hb'.1
    have ht := St.ok_iff.1 hb'.2
    have h3 := ftrap_ok hr ht
    have eA : stepA i t = stepS i t := by unfold stepA; rw [if_pos hb]
    have eE : stepE i t = 0 := by unfold stepE; rw [if_pos hb]
    rw [eA, eE]
    unfold stepS
    by_cases hl : t.live = true
    · rw [if_pos hl]
      by_cases h0 : trapS i t = 0
      · rw [if_pos h0]
        refine fstep_all (tr := trapS i t) (fun a => ?_) (fun _ a => ?_) (fun _ _ a => ?_) (fun _ _ _ a => ?_) (fun _ _ _ _ => ⟨h1, h2, h3, fgo_ok hr ht h0, rfl⟩)
        · rw [hb'.1] at a; cases a
        · rw [er_ne, hb'.2] at a; cases a
        · rw [hl] at a; cases a
        · rw [h0] at a; cases a
      · rw [if_neg h0]
        refine fstep_all (t1 := t) (t2 := t) (tr := trapS i t) (fun a => ?_) (fun _ a => ?_) (fun _ _ a => ?_) (fun _ _ _ a => ⟨h1, h2, h3, rfl⟩) (fun _ _ _ a => ?_)
        · rw [hb'.1] at a; cases a
        · rw [er_ne, hb'.2] at a; cases a
        · rw [hl] at a; cases a
        · exact absurd (by simpa using a) h0
    · rw [if_neg hl]
      refine fstep_all (t1 := t) (t2 := t) (tr := trapS i t) (fun a => ?_) (fun _ a => ?_) (fun _ _ _ => ⟨h1, h2, rfl⟩) (fun _ _ a => ?_) (fun _ _ a => ?_)
      · rw [hb'.1] at a; cases a
      · rw [er_ne, hb'.2] at a; cases a
      · exact absurd (by simpa using a) hl
      · exact absurd (by simpa using a) hl
  · have hb : (fineI i && t.ok) = false := by simpa using hb
    refine fstep_all (t1 := t) (t2 := t) (tr := 0) (fun a => ⟨h1, bad hb⟩) (fun _ a => ⟨h1, h2, bad hb⟩) (fun a b => ?_) (fun a b => ?_) (fun a b => ?_)
    all_goals
      rw [er_ne] at b
      rw [show fineI i = true by simpa using a, show t.ok = true by simpa using b] at hb
      cases hb
end Go.Proofs.YtkigmocchaikgabGreat
