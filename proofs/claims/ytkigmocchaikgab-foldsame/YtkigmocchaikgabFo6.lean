import Derived.Test.YtkigmocchaikgabFo2
import Derived.Test.YtkigmocchaikgabProg
import Derived.Test.YtkigmocchaikgabFo5
/- Ways of bodies, written by a program (ways.py): what each asks for, and hands back. -/
namespace Go.Proofs.Ytkigmocchaikgab
open Go.RowKit

theorem doTop_w0 {i : Ins} {m : Mach} {C : Cx} {R : Ending → World → Prop} (c0 : CallOK Try.prog (CallRec.mk 57 [AV.ag (Ins.cs i)] [] (Eff.mk (AV.ag (bcs (useOf i))) [] none))) (lo : Kn.Low ⟨[(2, AV.c (AC.w 0)), (3, AV.c (AC.w 1)), (4, AV.c (AC.w 2)), (8, AV.ag (bcs (useOf i))), (9, AV.c (AC.i 0))], [(0, Ent.mk true (Ins.cs i) 0), (1, Ent.mk true (Mach.cs m) 0), (2, Ent.mk true [AC.i 0, AC.u 0#64, AC.u 0#64, AC.u 0#64, AC.u 0#64, AC.u 0#64, AC.u 0#64, AC.b false, AC.b false, AC.b false, AC.b false, AC.b false, AC.b false, AC.s (ByteArray.mk #[]), AC.i 0] 0)], 3⟩) (hF : ∀ k, C.F k → k < 3) (z : ART Try.prog 29 C Try.f29.ntmps (cutAt Try.f29 0) ⟨[(2, AV.c (AC.w 0)), (3, AV.c (AC.w 1)), (4, AV.c (AC.w 2)), (8, AV.ag (bcs (useOf i))), (9, AV.c (AC.i 0))], [(0, Ent.mk true (Ins.cs i) 0), (1, Ent.mk true (Mach.cs m) 0), (2, Ent.mk true [AC.i 0, AC.u 0#64, AC.u 0#64, AC.u 0#64, AC.u 0#64, AC.u 0#64, AC.u 0#64, AC.b false, AC.b false, AC.b false, AC.b false, AC.b false, AC.b false, AC.s (ByteArray.mk #[]), AC.i 0] 0)], 3⟩ R) :
    ART Try.prog 29 C Try.f29.ntmps ([Item.code (bodyOf Try.f29)]) (Kn.start [AV.ag (Ins.cs i), AV.ag (Mach.cs m)] [] 0) R :=
  run_cut ⟨[(2, AV.c (AC.w 0)), (3, AV.c (AC.w 1)), (4, AV.c (AC.w 2)), (8, AV.ag (bcs (useOf i))), (9, AV.c (AC.i 0))], [(0, Ent.mk true (Ins.cs i) 0), (1, Ent.mk true (Mach.cs m) 0), (2, Ent.mk true [AC.i 0, AC.u 0#64, AC.u 0#64, AC.u 0#64, AC.u 0#64, AC.u 0#64, AC.u 0#64, AC.b false, AC.b false, AC.b false, AC.b false, AC.b false, AC.b false, AC.s (ByteArray.mk #[]), AC.i 0] 0)], 3⟩ 2000 [Eff.mk (AV.ag (bcs (useOf i))) [] none] [] [true] [] Try.func29 (by kernel_rfl) rfl (cr_cons c0 cr_nil) lo hF z
theorem doRound_w0 {i : Ins} {m : Mach} {u : V6 Bool} {j : Int} {w : World} {β : Bs} {n : Nat} (h : (decide (j < 6) && (AC.isB (Option.getD (bcs u)[Int.toNat j * 1]? (AC.b false)) && Nat.blt (Int.toNat j * 1) (List.length (bcs u)) && (decide (0 ≤ j) && decide (j < 6)) && (V6.get u (Int.toNat j) && (decide (0 ≤ j) && decide (j < 6) && (AC.isB (Option.getD (Mach.cs m)[7 + Int.toNat j * 1]? (AC.b false)) && Nat.blt (7 + Int.toNat j * 1) (List.length (Mach.cs m)) && (!V6.get (Mach.s m) (Int.toNat j) && true)))))) = true) (c0 : Eff.mk (AV.c (AC.b (AC.asB (Option.getD (bcs u)[Int.toNat j * 1]? (AC.b false))))) [] none = Eff.mk (AV.c (AC.b (V6.get u (Int.toNat j)))) [] none) (c1 : Eff.mk (AV.c (AC.b (AC.asB (Option.getD (Mach.cs m)[7 + Int.toNat j * 1]? (AC.b false))))) [] none = Eff.mk (AV.c (AC.b (V6.get (Mach.s m) (Int.toNat j)))) [] none) (c2 : CallOK Try.prog (CallRec.mk 58 [AV.ag (Mach.cs m), AV.c (AC.i 1)] [] (Eff.mk (AV.ag (Mach.cs (Mach.fine m 1))) [] none))) :
    ART Try.prog 29 (cx w β n []) Try.f29.ntmps (cutAt Try.f29 0) (Kn.mk [(2, AV.c (AC.w 0)), (3, AV.c (AC.w 1)), (4, AV.c (AC.w 2)), (8, AV.ag (bcs u)), (9, AV.c (AC.i j))] [(0, Ent.mk true (Ins.cs i) 0), (1, Ent.mk true (Mach.cs m) 0), (2, Ent.mk true (Mach.cs Mach.z) 0)] 3) (REff w β ⟨AV.ag [AC.i (Mach.t m), AC.u (V6.x0 (Mach.r m)), AC.u (V6.x1 (Mach.r m)), AC.u (V6.x2 (Mach.r m)), AC.u (V6.x3 (Mach.r m)), AC.u (V6.x4 (Mach.r m)), AC.u (V6.x5 (Mach.r m)), AC.b (V6.x0 (Mach.s m)), AC.b (V6.x1 (Mach.s m)), AC.b (V6.x2 (Mach.s m)), AC.b (V6.x3 (Mach.s m)), AC.b (V6.x4 (Mach.s m)), AC.b (V6.x5 (Mach.s m)), AC.s (Mach.mem m), AC.i 1], [], none⟩) :=
  run_eff [] (none) 2000 [Eff.mk (AV.c (AC.b (V6.get u (Int.toNat j)))) [] none, Eff.mk (AV.c (AC.b (V6.get (Mach.s m) (Int.toNat j)))) [] none, Eff.mk (AV.ag (Mach.cs (Mach.fine m 1))) [] none] [true, true, true] [true] [(3, 1), (4, 5)] Try.func29 (ekeys0 rfl n) (by kernel_rfl) h (cr_same c0 (cr_same c1 (cr_cons c2 cr_nil)))
theorem doRound_w1 {i : Ins} {m : Mach} {u : V6 Bool} {j : Int} {C : Cx} {R : Ending → World → Prop} (h : (decide (j < 6) && (AC.isB (Option.getD (bcs u)[Int.toNat j * 1]? (AC.b false)) && Nat.blt (Int.toNat j * 1) (List.length (bcs u)) && (decide (0 ≤ j) && decide (j < 6)) && (V6.get u (Int.toNat j) && (decide (0 ≤ j) && decide (j < 6) && (AC.isB (Option.getD (Mach.cs m)[7 + Int.toNat j * 1]? (AC.b false)) && Nat.blt (7 + Int.toNat j * 1) (List.length (Mach.cs m)) && (!!V6.get (Mach.s m) (Int.toNat j) && true)))))) = true) (c0 : Eff.mk (AV.c (AC.b (AC.asB (Option.getD (bcs u)[Int.toNat j * 1]? (AC.b false))))) [] none = Eff.mk (AV.c (AC.b (V6.get u (Int.toNat j)))) [] none) (c1 : Eff.mk (AV.c (AC.b (AC.asB (Option.getD (Mach.cs m)[7 + Int.toNat j * 1]? (AC.b false))))) [] none = Eff.mk (AV.c (AC.b (V6.get (Mach.s m) (Int.toNat j)))) [] none) (lo : Kn.Low ⟨[(2, AV.c (AC.w 0)), (3, AV.c (AC.w 1)), (4, AV.c (AC.w 2)), (8, AV.ag (bcs u)), (9, AV.c (AC.i (IntKind.wrap IntKind.i64 (j + 1))))], [(0, Ent.mk true (Ins.cs i) 0), (1, Ent.mk true (Mach.cs m) 0), (2, Ent.mk true (Mach.cs Mach.z) 0)], 3⟩) (hF : ∀ k, C.F k → k < 3) (z : ART Try.prog 29 C Try.f29.ntmps (cutAt Try.f29 0) ⟨[(2, AV.c (AC.w 0)), (3, AV.c (AC.w 1)), (4, AV.c (AC.w 2)), (8, AV.ag (bcs u)), (9, AV.c (AC.i (IntKind.wrap IntKind.i64 (j + 1))))], [(0, Ent.mk true (Ins.cs i) 0), (1, Ent.mk true (Mach.cs m) 0), (2, Ent.mk true (Mach.cs Mach.z) 0)], 3⟩ R) :
    ART Try.prog 29 C Try.f29.ntmps (cutAt Try.f29 0) (Kn.mk [(2, AV.c (AC.w 0)), (3, AV.c (AC.w 1)), (4, AV.c (AC.w 2)), (8, AV.ag (bcs u)), (9, AV.c (AC.i j))] [(0, Ent.mk true (Ins.cs i) 0), (1, Ent.mk true (Mach.cs m) 0), (2, Ent.mk true (Mach.cs Mach.z) 0)] 3) R :=
  run_cut ⟨[(2, AV.c (AC.w 0)), (3, AV.c (AC.w 1)), (4, AV.c (AC.w 2)), (8, AV.ag (bcs u)), (9, AV.c (AC.i (IntKind.wrap IntKind.i64 (j + 1))))], [(0, Ent.mk true (Ins.cs i) 0), (1, Ent.mk true (Mach.cs m) 0), (2, Ent.mk true (Mach.cs Mach.z) 0)], 3⟩ 2000 [Eff.mk (AV.c (AC.b (V6.get u (Int.toNat j)))) [] none, Eff.mk (AV.c (AC.b (V6.get (Mach.s m) (Int.toNat j)))) [] none] [true, true, false] [true] [(3, 1), (4, 5)] Try.func29 (by kernel_rfl) h (cr_same c0 (cr_same c1 cr_nil)) lo hF z
theorem doRound_w2 {i : Ins} {m : Mach} {u : V6 Bool} {j : Int} {C : Cx} {R : Ending → World → Prop} (h : (decide (j < 6) && (AC.isB (Option.getD (bcs u)[Int.toNat j * 1]? (AC.b false)) && Nat.blt (Int.toNat j * 1) (List.length (bcs u)) && (decide (0 ≤ j) && decide (j < 6)) && (!V6.get u (Int.toNat j) && true))) = true) (c0 : Eff.mk (AV.c (AC.b (AC.asB (Option.getD (bcs u)[Int.toNat j * 1]? (AC.b false))))) [] none = Eff.mk (AV.c (AC.b (V6.get u (Int.toNat j)))) [] none) (lo : Kn.Low ⟨[(2, AV.c (AC.w 0)), (3, AV.c (AC.w 1)), (4, AV.c (AC.w 2)), (8, AV.ag (bcs u)), (9, AV.c (AC.i (IntKind.wrap IntKind.i64 (j + 1))))], [(0, Ent.mk true (Ins.cs i) 0), (1, Ent.mk true (Mach.cs m) 0), (2, Ent.mk true (Mach.cs Mach.z) 0)], 3⟩) (hF : ∀ k, C.F k → k < 3) (z : ART Try.prog 29 C Try.f29.ntmps (cutAt Try.f29 0) ⟨[(2, AV.c (AC.w 0)), (3, AV.c (AC.w 1)), (4, AV.c (AC.w 2)), (8, AV.ag (bcs u)), (9, AV.c (AC.i (IntKind.wrap IntKind.i64 (j + 1))))], [(0, Ent.mk true (Ins.cs i) 0), (1, Ent.mk true (Mach.cs m) 0), (2, Ent.mk true (Mach.cs Mach.z) 0)], 3⟩ R) :
    ART Try.prog 29 C Try.f29.ntmps (cutAt Try.f29 0) (Kn.mk [(2, AV.c (AC.w 0)), (3, AV.c (AC.w 1)), (4, AV.c (AC.w 2)), (8, AV.ag (bcs u)), (9, AV.c (AC.i j))] [(0, Ent.mk true (Ins.cs i) 0), (1, Ent.mk true (Mach.cs m) 0), (2, Ent.mk true (Mach.cs Mach.z) 0)] 3) R :=
  run_cut ⟨[(2, AV.c (AC.w 0)), (3, AV.c (AC.w 1)), (4, AV.c (AC.w 2)), (8, AV.ag (bcs u)), (9, AV.c (AC.i (IntKind.wrap IntKind.i64 (j + 1))))], [(0, Ent.mk true (Ins.cs i) 0), (1, Ent.mk true (Mach.cs m) 0), (2, Ent.mk true (Mach.cs Mach.z) 0)], 3⟩ 2000 [Eff.mk (AV.c (AC.b (V6.get u (Int.toNat j)))) [] none] [true, false, false] [true] [(3, 1), (4, 5)] Try.func29 (by kernel_rfl) h (cr_same c0 cr_nil) lo hF z
theorem doRound_all {i : Ins} {m : Mach} {u : V6 Bool} {j : Int} {w : World} {β : Bs} {n : Nat} {E : Eff} (hn : n ≤ 3)
    (l0 : (V6.get u (Int.toNat j)) = true → (!V6.get (Mach.s m) (Int.toNat j)) = true → (decide (j < 6)) = true ∧ (AC.isB (Option.getD (bcs u)[Int.toNat j * 1]? (AC.b false)) && Nat.blt (Int.toNat j * 1) (List.length (bcs u)) && (decide (0 ≤ j) && decide (j < 6))) = true ∧ (decide (0 ≤ j) && decide (j < 6)) = true ∧ (AC.isB (Option.getD (Mach.cs m)[7 + Int.toNat j * 1]? (AC.b false)) && Nat.blt (7 + Int.toNat j * 1) (List.length (Mach.cs m))) = true ∧ (Eff.mk (AV.c (AC.b (AC.asB (Option.getD (bcs u)[Int.toNat j * 1]? (AC.b false))))) [] none = Eff.mk (AV.c (AC.b (V6.get u (Int.toNat j)))) [] none) ∧ (Eff.mk (AV.c (AC.b (AC.asB (Option.getD (Mach.cs m)[7 + Int.toNat j * 1]? (AC.b false))))) [] none = Eff.mk (AV.c (AC.b (V6.get (Mach.s m) (Int.toNat j)))) [] none) ∧ (CallOK Try.prog (CallRec.mk 58 [AV.ag (Mach.cs m), AV.c (AC.i 1)] [] (Eff.mk (AV.ag (Mach.cs (Mach.fine m 1))) [] none))) ∧ ((⟨AV.ag [AC.i (Mach.t m), AC.u (V6.x0 (Mach.r m)), AC.u (V6.x1 (Mach.r m)), AC.u (V6.x2 (Mach.r m)), AC.u (V6.x3 (Mach.r m)), AC.u (V6.x4 (Mach.r m)), AC.u (V6.x5 (Mach.r m)), AC.b (V6.x0 (Mach.s m)), AC.b (V6.x1 (Mach.s m)), AC.b (V6.x2 (Mach.s m)), AC.b (V6.x3 (Mach.s m)), AC.b (V6.x4 (Mach.s m)), AC.b (V6.x5 (Mach.s m)), AC.s (Mach.mem m), AC.i 1], [], none⟩ : Eff) = E))
    (l1 : (V6.get u (Int.toNat j)) = true → (!V6.get (Mach.s m) (Int.toNat j)) = false → (decide (j < 6)) = true ∧ (AC.isB (Option.getD (bcs u)[Int.toNat j * 1]? (AC.b false)) && Nat.blt (Int.toNat j * 1) (List.length (bcs u)) && (decide (0 ≤ j) && decide (j < 6))) = true ∧ (decide (0 ≤ j) && decide (j < 6)) = true ∧ (AC.isB (Option.getD (Mach.cs m)[7 + Int.toNat j * 1]? (AC.b false)) && Nat.blt (7 + Int.toNat j * 1) (List.length (Mach.cs m))) = true ∧ (Eff.mk (AV.c (AC.b (AC.asB (Option.getD (bcs u)[Int.toNat j * 1]? (AC.b false))))) [] none = Eff.mk (AV.c (AC.b (V6.get u (Int.toNat j)))) [] none) ∧ (Eff.mk (AV.c (AC.b (AC.asB (Option.getD (Mach.cs m)[7 + Int.toNat j * 1]? (AC.b false))))) [] none = Eff.mk (AV.c (AC.b (V6.get (Mach.s m) (Int.toNat j)))) [] none) ∧ Kn.Low ⟨[(2, AV.c (AC.w 0)), (3, AV.c (AC.w 1)), (4, AV.c (AC.w 2)), (8, AV.ag (bcs u)), (9, AV.c (AC.i (IntKind.wrap IntKind.i64 (j + 1))))], [(0, Ent.mk true (Ins.cs i) 0), (1, Ent.mk true (Mach.cs m) 0), (2, Ent.mk true (Mach.cs Mach.z) 0)], 3⟩ ∧ ART Try.prog 29 (cx w β n []) Try.f29.ntmps (cutAt Try.f29 0) ⟨[(2, AV.c (AC.w 0)), (3, AV.c (AC.w 1)), (4, AV.c (AC.w 2)), (8, AV.ag (bcs u)), (9, AV.c (AC.i (IntKind.wrap IntKind.i64 (j + 1))))], [(0, Ent.mk true (Ins.cs i) 0), (1, Ent.mk true (Mach.cs m) 0), (2, Ent.mk true (Mach.cs Mach.z) 0)], 3⟩ (REff w β E))
    (l2 : (V6.get u (Int.toNat j)) = false → (decide (j < 6)) = true ∧ (AC.isB (Option.getD (bcs u)[Int.toNat j * 1]? (AC.b false)) && Nat.blt (Int.toNat j * 1) (List.length (bcs u)) && (decide (0 ≤ j) && decide (j < 6))) = true ∧ (Eff.mk (AV.c (AC.b (AC.asB (Option.getD (bcs u)[Int.toNat j * 1]? (AC.b false))))) [] none = Eff.mk (AV.c (AC.b (V6.get u (Int.toNat j)))) [] none) ∧ Kn.Low ⟨[(2, AV.c (AC.w 0)), (3, AV.c (AC.w 1)), (4, AV.c (AC.w 2)), (8, AV.ag (bcs u)), (9, AV.c (AC.i (IntKind.wrap IntKind.i64 (j + 1))))], [(0, Ent.mk true (Ins.cs i) 0), (1, Ent.mk true (Mach.cs m) 0), (2, Ent.mk true (Mach.cs Mach.z) 0)], 3⟩ ∧ ART Try.prog 29 (cx w β n []) Try.f29.ntmps (cutAt Try.f29 0) ⟨[(2, AV.c (AC.w 0)), (3, AV.c (AC.w 1)), (4, AV.c (AC.w 2)), (8, AV.ag (bcs u)), (9, AV.c (AC.i (IntKind.wrap IntKind.i64 (j + 1))))], [(0, Ent.mk true (Ins.cs i) 0), (1, Ent.mk true (Mach.cs m) 0), (2, Ent.mk true (Mach.cs Mach.z) 0)], 3⟩ (REff w β E)) :
    ART Try.prog 29 (cx w β n []) Try.f29.ntmps (cutAt Try.f29 0) (Kn.mk [(2, AV.c (AC.w 0)), (3, AV.c (AC.w 1)), (4, AV.c (AC.w 2)), (8, AV.ag (bcs u)), (9, AV.c (AC.i j))] [(0, Ent.mk true (Ins.cs i) 0), (1, Ent.mk true (Mach.cs m) 0), (2, Ent.mk true (Mach.cs Mach.z) 0)] 3) (REff w β E) :=
  (tf (V6.get u (Int.toNat j))).elim (fun h0 => (tf (!V6.get (Mach.s m) (Int.toNat j))).elim (fun h1 => (match l0 h0 h1 with | ⟨o0, o1, o2, o3, c0, c1, c2, e⟩ => art_eq (doRound_w0 (and_yes o0 (and_yes o1 (and_yes h0 (and_yes o2 (and_yes o3 (and_yes h1 rfl)))))) c0 c1 c2) e)) (fun h1 => (match l1 h0 h1 with | ⟨o0, o1, o2, o3, c0, c1, lo, z⟩ => doRound_w1 (and_yes o0 (and_yes o1 (and_yes h0 (and_yes o2 (and_yes o3 (and_yes (not_yes h1) rfl)))))) c0 c1 lo (fun _ hk => Nat.lt_of_lt_of_le hk hn) z))) (fun h0 => (match l2 h0 with | ⟨o0, o1, c0, lo, z⟩ => doRound_w2 (and_yes o0 (and_yes o1 (and_yes (not_yes h0) rfl))) c0 lo (fun _ hk => Nat.lt_of_lt_of_le hk hn) z))
theorem doL_w0 {d : Int} {s : Int} {of : Int} {im : BitVec 64} {m : Mach} {u : V6 Bool} {w : World} {β : Bs} {n : Nat} (c0 : CallOK Try.prog (CallRec.mk 59 [AV.ag [AC.i 10, AC.i d, AC.i s, AC.u im, AC.i of], AV.ag (Mach.cs m)] [] (Eff.mk (AV.ag (Mach.cs (reachM (Ins.mk 10 d s im of) m))) [] none))) :
    ART Try.prog 29 (cx w β n []) Try.f29.ntmps (cutAt Try.f29 0) (Kn.mk [(2, AV.c (AC.w 0)), (3, AV.c (AC.w 1)), (4, AV.c (AC.w 2)), (8, AV.ag (bcs u)), (9, AV.c (AC.i 6))] [(0, Ent.mk true (Ins.cs (Ins.mk 10 d s im of)) 0), (1, Ent.mk true (Mach.cs m) 0), (2, Ent.mk true (Mach.cs Mach.z) 0)] 3) (REff w β ⟨AV.ag (Mach.cs (reachM (Ins.mk 10 d s im of) m)), [], none⟩) :=
  run_eff [] (none) 2000 [Eff.mk (AV.ag (Mach.cs (reachM (Ins.mk 10 d s im of) m))) [] none] [false, true, true] [true] [(14, 6), (16, 6)] Try.func29 (ekeys0 rfl n) (by kernel_rfl) rfl (cr_cons c0 cr_nil)
theorem doS_w0 {d : Int} {s : Int} {of : Int} {im : BitVec 64} {m : Mach} {u : V6 Bool} {w : World} {β : Bs} {n : Nat} (c0 : CallOK Try.prog (CallRec.mk 59 [AV.ag [AC.i 11, AC.i d, AC.i s, AC.u im, AC.i of], AV.ag (Mach.cs m)] [] (Eff.mk (AV.ag (Mach.cs (reachM (Ins.mk 11 d s im of) m))) [] none))) :
    ART Try.prog 29 (cx w β n []) Try.f29.ntmps (cutAt Try.f29 0) (Kn.mk [(2, AV.c (AC.w 0)), (3, AV.c (AC.w 1)), (4, AV.c (AC.w 2)), (8, AV.ag (bcs u)), (9, AV.c (AC.i 6))] [(0, Ent.mk true (Ins.cs (Ins.mk 11 d s im of)) 0), (1, Ent.mk true (Mach.cs m) 0), (2, Ent.mk true (Mach.cs Mach.z) 0)] 3) (REff w β ⟨AV.ag (Mach.cs (reachM (Ins.mk 11 d s im of) m)), [], none⟩) :=
  run_eff [] (none) 2000 [Eff.mk (AV.ag (Mach.cs (reachM (Ins.mk 11 d s im of) m))) [] none] [false, false, true] [true] [(14, 6), (16, 6)] Try.func29 (ekeys0 rfl n) (by kernel_rfl) rfl (cr_cons c0 cr_nil)
theorem doJ_w0 {d : Int} {s : Int} {of : Int} {im : BitVec 64} {m : Mach} {u : V6 Bool} {w : World} {β : Bs} {n : Nat} (c0 : CallOK Try.prog (CallRec.mk 60 [AV.ag (Mach.cs m), AV.c (AC.i of)] [] (Eff.mk (AV.ag (Mach.cs (Mach.on m of))) [] none))) :
    ART Try.prog 29 (cx w β n []) Try.f29.ntmps (cutAt Try.f29 0) (Kn.mk [(2, AV.c (AC.w 0)), (3, AV.c (AC.w 1)), (4, AV.c (AC.w 2)), (8, AV.ag (bcs u)), (9, AV.c (AC.i 6))] [(0, Ent.mk true (Ins.cs (Ins.mk 12 d s im of)) 0), (1, Ent.mk true (Mach.cs m) 0), (2, Ent.mk true (Mach.cs Mach.z) 0)] 3) (REff w β ⟨AV.ag [AC.i (Mach.t m + 1 + of), AC.u (V6.x0 (Mach.r m)), AC.u (V6.x1 (Mach.r m)), AC.u (V6.x2 (Mach.r m)), AC.u (V6.x3 (Mach.r m)), AC.u (V6.x4 (Mach.r m)), AC.u (V6.x5 (Mach.r m)), AC.b (V6.x0 (Mach.s m)), AC.b (V6.x1 (Mach.s m)), AC.b (V6.x2 (Mach.s m)), AC.b (V6.x3 (Mach.s m)), AC.b (V6.x4 (Mach.s m)), AC.b (V6.x5 (Mach.s m)), AC.s (Mach.mem m), AC.i (Mach.fin m)], [], none⟩) :=
  run_eff [] (none) 2000 [Eff.mk (AV.ag (Mach.cs (Mach.on m of))) [] none] [false, false, false, true] [true] [(14, 6), (16, 6)] Try.func29 (ekeys0 rfl n) (by kernel_rfl) rfl (cr_cons c0 cr_nil)
theorem doEq_w0 {d : Int} {s : Int} {of : Int} {im : BitVec 64} {m : Mach} {u : V6 Bool} {w : World} {β : Bs} {n : Nat} (h : (decide (0 ≤ d) && decide (d < 6) && (AC.isU (Option.getD (Mach.cs m)[1 + Int.toNat d * 1]? (AC.b false)) && Nat.blt (1 + Int.toNat d * 1) (List.length (Mach.cs m)) && true)) = true) (c0 : Eff.mk (AV.c (AC.u (AC.asU (Option.getD (Mach.cs m)[1 + Int.toNat d * 1]? (AC.b false))))) [] none = Eff.mk (AV.c (AC.u (V6.get (Mach.r m) (Int.toNat d)))) [] none) (c1 : CallOK Try.prog (CallRec.mk 62 [AV.ag [AC.i 13, AC.i d, AC.i s, AC.u im, AC.i of], AV.ag (Mach.cs m)] [] (Eff.mk (AV.c (AC.u (srcN (Ins.mk 13 d s im of) m))) [] none))) (c2 : CallOK Try.prog (CallRec.mk 61 [AV.ag [AC.i 13, AC.i d, AC.i s, AC.u im, AC.i of], AV.ag (Mach.cs m), AV.c (AC.b (eqb (V6.get (Mach.r m) (Int.toNat d)) (srcN (Ins.mk 13 d s im of) m)))] [] (Eff.mk (AV.ag (Mach.cs (Mach.on m (if eqb (V6.get (Mach.r m) (Int.toNat d)) (srcN (Ins.mk 13 d s im of) m) = true then of else 0)))) [] none))) :
    ART Try.prog 29 (cx w β n []) Try.f29.ntmps (cutAt Try.f29 0) (Kn.mk [(2, AV.c (AC.w 0)), (3, AV.c (AC.w 1)), (4, AV.c (AC.w 2)), (8, AV.ag (bcs u)), (9, AV.c (AC.i 6))] [(0, Ent.mk true (Ins.cs (Ins.mk 13 d s im of)) 0), (1, Ent.mk true (Mach.cs m) 0), (2, Ent.mk true (Mach.cs Mach.z) 0)] 3) (REff w β ⟨AV.ag [AC.i (Mach.t m + 1 + if eqb (V6.get (Mach.r m) (Int.toNat d)) (srcN (Ins.mk 13 d s im of) m) = true then of else 0), AC.u (V6.x0 (Mach.r m)), AC.u (V6.x1 (Mach.r m)), AC.u (V6.x2 (Mach.r m)), AC.u (V6.x3 (Mach.r m)), AC.u (V6.x4 (Mach.r m)), AC.u (V6.x5 (Mach.r m)), AC.b (V6.x0 (Mach.s m)), AC.b (V6.x1 (Mach.s m)), AC.b (V6.x2 (Mach.s m)), AC.b (V6.x3 (Mach.s m)), AC.b (V6.x4 (Mach.s m)), AC.b (V6.x5 (Mach.s m)), AC.s (Mach.mem m), AC.i (Mach.fin m)], [], none⟩) :=
  run_eff [] (none) 2000 [Eff.mk (AV.c (AC.u (V6.get (Mach.r m) (Int.toNat d)))) [] none, Eff.mk (AV.c (AC.u (srcN (Ins.mk 13 d s im of) m))) [] none, Eff.mk (AV.ag (Mach.cs (Mach.on m (if eqb (V6.get (Mach.r m) (Int.toNat d)) (srcN (Ins.mk 13 d s im of) m) = true then of else 0)))) [] none] [false, false, false, false, true] [true] [(14, 6), (16, 6)] Try.func29 (ekeys0 rfl n) (by kernel_rfl) h (cr_same c0 (cr_cons c1 (cr_cons c2 cr_nil)))
theorem doLt_w0 {d : Int} {s : Int} {of : Int} {im : BitVec 64} {m : Mach} {u : V6 Bool} {w : World} {β : Bs} {n : Nat} (h : (decide (0 ≤ d) && decide (d < 6) && (AC.isU (Option.getD (Mach.cs m)[1 + Int.toNat d * 1]? (AC.b false)) && Nat.blt (1 + Int.toNat d * 1) (List.length (Mach.cs m)) && true)) = true) (c0 : Eff.mk (AV.c (AC.u (AC.asU (Option.getD (Mach.cs m)[1 + Int.toNat d * 1]? (AC.b false))))) [] none = Eff.mk (AV.c (AC.u (V6.get (Mach.r m) (Int.toNat d)))) [] none) (c1 : CallOK Try.prog (CallRec.mk 62 [AV.ag [AC.i 14, AC.i d, AC.i s, AC.u im, AC.i of], AV.ag (Mach.cs m)] [] (Eff.mk (AV.c (AC.u (srcN (Ins.mk 14 d s im of) m))) [] none))) (c2 : CallOK Try.prog (CallRec.mk 61 [AV.ag [AC.i 14, AC.i d, AC.i s, AC.u im, AC.i of], AV.ag (Mach.cs m), AV.c (AC.b (decide (nv (V6.get (Mach.r m) (Int.toNat d)) < nv (srcN (Ins.mk 14 d s im of) m))))] [] (Eff.mk (AV.ag (Mach.cs (Mach.on m (if decide (nv (V6.get (Mach.r m) (Int.toNat d)) < nv (srcN (Ins.mk 14 d s im of) m)) = true then of else 0)))) [] none))) :
    ART Try.prog 29 (cx w β n []) Try.f29.ntmps (cutAt Try.f29 0) (Kn.mk [(2, AV.c (AC.w 0)), (3, AV.c (AC.w 1)), (4, AV.c (AC.w 2)), (8, AV.ag (bcs u)), (9, AV.c (AC.i 6))] [(0, Ent.mk true (Ins.cs (Ins.mk 14 d s im of)) 0), (1, Ent.mk true (Mach.cs m) 0), (2, Ent.mk true (Mach.cs Mach.z) 0)] 3) (REff w β ⟨AV.ag [AC.i (Mach.t m + 1 + if decide (nv (V6.get (Mach.r m) (Int.toNat d)) < nv (srcN (Ins.mk 14 d s im of) m)) = true then of else 0), AC.u (V6.x0 (Mach.r m)), AC.u (V6.x1 (Mach.r m)), AC.u (V6.x2 (Mach.r m)), AC.u (V6.x3 (Mach.r m)), AC.u (V6.x4 (Mach.r m)), AC.u (V6.x5 (Mach.r m)), AC.b (V6.x0 (Mach.s m)), AC.b (V6.x1 (Mach.s m)), AC.b (V6.x2 (Mach.s m)), AC.b (V6.x3 (Mach.s m)), AC.b (V6.x4 (Mach.s m)), AC.b (V6.x5 (Mach.s m)), AC.s (Mach.mem m), AC.i (Mach.fin m)], [], none⟩) :=
  run_eff [] (none) 2000 [Eff.mk (AV.c (AC.u (V6.get (Mach.r m) (Int.toNat d)))) [] none, Eff.mk (AV.c (AC.u (srcN (Ins.mk 14 d s im of) m))) [] none, Eff.mk (AV.ag (Mach.cs (Mach.on m (if decide (nv (V6.get (Mach.r m) (Int.toNat d)) < nv (srcN (Ins.mk 14 d s im of) m)) = true then of else 0)))) [] none] [false, false, false, false, false, true] [true] [(14, 6), (16, 6)] Try.func29 (ekeys0 rfl n) (by kernel_rfl) h (cr_same c0 (cr_cons c1 (cr_cons c2 cr_nil)))
theorem doX_w0 {d : Int} {s : Int} {of : Int} {im : BitVec 64} {m : Mach} {u : V6 Bool} {w : World} {β : Bs} {n : Nat} (c0 : CallOK Try.prog (CallRec.mk 58 [AV.ag (Mach.cs m), AV.c (AC.i 3)] [] (Eff.mk (AV.ag (Mach.cs (Mach.fine m 3))) [] none))) :
    ART Try.prog 29 (cx w β n []) Try.f29.ntmps (cutAt Try.f29 0) (Kn.mk [(2, AV.c (AC.w 0)), (3, AV.c (AC.w 1)), (4, AV.c (AC.w 2)), (8, AV.ag (bcs u)), (9, AV.c (AC.i 6))] [(0, Ent.mk true (Ins.cs (Ins.mk 15 d s im of)) 0), (1, Ent.mk true (Mach.cs m) 0), (2, Ent.mk true (Mach.cs Mach.z) 0)] 3) (REff w β ⟨AV.ag [AC.i (Mach.t m), AC.u (V6.x0 (Mach.r m)), AC.u (V6.x1 (Mach.r m)), AC.u (V6.x2 (Mach.r m)), AC.u (V6.x3 (Mach.r m)), AC.u (V6.x4 (Mach.r m)), AC.u (V6.x5 (Mach.r m)), AC.b (V6.x0 (Mach.s m)), AC.b (V6.x1 (Mach.s m)), AC.b (V6.x2 (Mach.s m)), AC.b (V6.x3 (Mach.s m)), AC.b (V6.x4 (Mach.s m)), AC.b (V6.x5 (Mach.s m)), AC.s (Mach.mem m), AC.i 3], [], none⟩) :=
  run_eff [] (none) 2000 [Eff.mk (AV.ag (Mach.cs (Mach.fine m 3))) [] none] [false, false, false, false, false, false, true] [true] [(14, 6), (16, 6)] Try.func29 (ekeys0 rfl n) (by kernel_rfl) rfl (cr_cons c0 cr_nil)
theorem doTwo_w0 {op : Int} {d : Int} {s : Int} {of : Int} {im : BitVec 64} {m : Mach} {u : V6 Bool} {w : World} {β : Bs} {n : Nat} (h : (!op == 10 && (!op == 11 && (!op == 12 && (!op == 13 && (!op == 14 && (!op == 15 && (decide (0 ≤ d) && decide (d < 6) && (AC.isU (Option.getD (Mach.cs m)[1 + Int.toNat d * 1]? (AC.b false)) && Nat.blt (1 + Int.toNat d * 1) (List.length (Mach.cs m)) && true)))))))) = true) (c0 : Eff.mk (AV.c (AC.u (AC.asU (Option.getD (Mach.cs m)[1 + Int.toNat d * 1]? (AC.b false))))) [] none = Eff.mk (AV.c (AC.u (V6.get (Mach.r m) (Int.toNat d)))) [] none) (c1 : CallOK Try.prog (CallRec.mk 62 [AV.ag [AC.i op, AC.i d, AC.i s, AC.u im, AC.i of], AV.ag (Mach.cs m)] [] (Eff.mk (AV.c (AC.u (srcN (Ins.mk op d s im of) m))) [] none))) (c2 : CallOK Try.prog (CallRec.mk 63 [AV.c (AC.i op), AV.c (AC.u (V6.get (Mach.r m) (Int.toNat d))), AV.c (AC.u (srcN (Ins.mk op d s im of) m))] [] (Eff.mk (AV.c (AC.u (numN op (V6.get (Mach.r m) (Int.toNat d)) (srcN (Ins.mk op d s im of) m)))) [] none))) (c3 : CallOK Try.prog (CallRec.mk 32 [AV.ag (Mach.cs m), AV.c (AC.i d), AV.c (AC.u (numN op (V6.get (Mach.r m) (Int.toNat d)) (srcN (Ins.mk op d s im of) m)))] [] (Eff.mk (AV.ag (Mach.cs (Mach.wth m (Int.toNat d) (numN op (V6.get (Mach.r m) (Int.toNat d)) (srcN (Ins.mk op d s im of) m))))) [] none))) (c4 : CallOK Try.prog (CallRec.mk 60 [AV.ag (Mach.cs (Mach.wth m (Int.toNat d) (numN op (V6.get (Mach.r m) (Int.toNat d)) (srcN (Ins.mk op d s im of) m)))), AV.c (AC.i 0)] [] (Eff.mk (AV.ag (Mach.cs (Mach.on (Mach.mk (Mach.t m) (V6.set (Mach.r m) (Int.toNat d) (numN op (V6.get (Mach.r m) (Int.toNat d)) (srcN (Ins.mk op d s im of) m))) (V6.set (Mach.s m) (Int.toNat d) true) (Mach.mem m) (Mach.fin m)) 0))) [] none))) :
    ART Try.prog 29 (cx w β n []) Try.f29.ntmps (cutAt Try.f29 0) (Kn.mk [(2, AV.c (AC.w 0)), (3, AV.c (AC.w 1)), (4, AV.c (AC.w 2)), (8, AV.ag (bcs u)), (9, AV.c (AC.i 6))] [(0, Ent.mk true (Ins.cs (Ins.mk op d s im of)) 0), (1, Ent.mk true (Mach.cs m) 0), (2, Ent.mk true (Mach.cs Mach.z) 0)] 3) (REff w β ⟨AV.ag [AC.i (Mach.t m + 1 + 0), AC.u (V6.x0 (V6.set (Mach.r m) (Int.toNat d) (numN op (V6.get (Mach.r m) (Int.toNat d)) (srcN (Ins.mk op d s im of) m)))), AC.u (V6.x1 (V6.set (Mach.r m) (Int.toNat d) (numN op (V6.get (Mach.r m) (Int.toNat d)) (srcN (Ins.mk op d s im of) m)))), AC.u (V6.x2 (V6.set (Mach.r m) (Int.toNat d) (numN op (V6.get (Mach.r m) (Int.toNat d)) (srcN (Ins.mk op d s im of) m)))), AC.u (V6.x3 (V6.set (Mach.r m) (Int.toNat d) (numN op (V6.get (Mach.r m) (Int.toNat d)) (srcN (Ins.mk op d s im of) m)))), AC.u (V6.x4 (V6.set (Mach.r m) (Int.toNat d) (numN op (V6.get (Mach.r m) (Int.toNat d)) (srcN (Ins.mk op d s im of) m)))), AC.u (V6.x5 (V6.set (Mach.r m) (Int.toNat d) (numN op (V6.get (Mach.r m) (Int.toNat d)) (srcN (Ins.mk op d s im of) m)))), AC.b (V6.x0 (V6.set (Mach.s m) (Int.toNat d) true)), AC.b (V6.x1 (V6.set (Mach.s m) (Int.toNat d) true)), AC.b (V6.x2 (V6.set (Mach.s m) (Int.toNat d) true)), AC.b (V6.x3 (V6.set (Mach.s m) (Int.toNat d) true)), AC.b (V6.x4 (V6.set (Mach.s m) (Int.toNat d) true)), AC.b (V6.x5 (V6.set (Mach.s m) (Int.toNat d) true)), AC.s (Mach.mem m), AC.i (Mach.fin m)], [], none⟩) :=
  run_eff [] (none) 2000 [Eff.mk (AV.c (AC.u (V6.get (Mach.r m) (Int.toNat d)))) [] none, Eff.mk (AV.c (AC.u (srcN (Ins.mk op d s im of) m))) [] none, Eff.mk (AV.c (AC.u (numN op (V6.get (Mach.r m) (Int.toNat d)) (srcN (Ins.mk op d s im of) m)))) [] none, Eff.mk (AV.ag (Mach.cs (Mach.wth m (Int.toNat d) (numN op (V6.get (Mach.r m) (Int.toNat d)) (srcN (Ins.mk op d s im of) m))))) [] none, Eff.mk (AV.ag (Mach.cs (Mach.on (Mach.mk (Mach.t m) (V6.set (Mach.r m) (Int.toNat d) (numN op (V6.get (Mach.r m) (Int.toNat d)) (srcN (Ins.mk op d s im of) m))) (V6.set (Mach.s m) (Int.toNat d) true) (Mach.mem m) (Mach.fin m)) 0))) [] none] [false, false, false, false, false, false, false] [true] [(19, 9)] Try.func29 (ekeys0 rfl n) (by kernel_rfl) h (cr_same c0 (cr_cons c1 (cr_cons c2 (cr_cons c3 (cr_cons c4 cr_nil)))))
end Go.Proofs.Ytkigmocchaikgab

/- Ways of bodies, written by a program (ways.py): what each asks for, and hands back. -/
namespace Go.Proofs.Ytkigmocchaikgab
open Go.RowKit

theorem ended_w0 {m : Mach} {e : Int} :
    CallOK Try.prog ⟨58, [AV.ag (Mach.cs m), AV.c (AC.i e)], [], ⟨AV.ag [AC.i (Mach.t m), AC.u (V6.x0 (Mach.r m)), AC.u (V6.x1 (Mach.r m)), AC.u (V6.x2 (Mach.r m)), AC.u (V6.x3 (Mach.r m)), AC.u (V6.x4 (Mach.r m)), AC.u (V6.x5 (Mach.r m)), AC.b (V6.x0 (Mach.s m)), AC.b (V6.x1 (Mach.s m)), AC.b (V6.x2 (Mach.s m)), AC.b (V6.x3 (Mach.s m)), AC.b (V6.x4 (Mach.s m)), AC.b (V6.x5 (Mach.s m)), AC.s (Mach.mem m), AC.i e], [], none⟩⟩ :=
  val_run 2000 [] [] [] [] Try.func58 rfl rfl rfl rfl (by kernel_rfl) rfl cr_nil
theorem onward_w0 {m : Mach} {o : Int} :
    CallOK Try.prog ⟨60, [AV.ag (Mach.cs m), AV.c (AC.i o)], [], ⟨AV.ag [AC.i (IntKind.wrap IntKind.i64 (Mach.t m + IntKind.wrap IntKind.i64 (1 + o))), AC.u (V6.x0 (Mach.r m)), AC.u (V6.x1 (Mach.r m)), AC.u (V6.x2 (Mach.r m)), AC.u (V6.x3 (Mach.r m)), AC.u (V6.x4 (Mach.r m)), AC.u (V6.x5 (Mach.r m)), AC.b (V6.x0 (Mach.s m)), AC.b (V6.x1 (Mach.s m)), AC.b (V6.x2 (Mach.s m)), AC.b (V6.x3 (Mach.s m)), AC.b (V6.x4 (Mach.s m)), AC.b (V6.x5 (Mach.s m)), AC.s (Mach.mem m), AC.i (Mach.fin m)], [], none⟩⟩ :=
  val_run 2000 [] [] [] [] Try.func60 rfl rfl rfl rfl (by kernel_rfl) rfl cr_nil
theorem with_w0 {m : Mach} {r : Int} {x : BitVec 64} (h : (decide (0 ≤ r) && decide (r < 6) && (Nat.ble (1 + Int.toNat r * 1 + List.length [AC.u x]) (List.length (Mach.cs m)) && true && (decide (0 ≤ r) && decide (r < 6) && (Nat.ble (7 + Int.toNat r * 1 + 1) (List.length (Mach.cs (Mach.mk (Mach.t m) (V6.set (Mach.r m) (Int.toNat r) x) (Mach.s m) (Mach.mem m) (Mach.fin m)))) && true && true)))) = true) (c0 : Eff.mk (AV.raw undef) [(0, List.set (Mach.cs m) (1 + Int.toNat r * 1) (AC.u x))] none = Eff.mk (AV.raw undef) [(0, Mach.cs (Mach.mk (Mach.t m) (V6.set (Mach.r m) (Int.toNat r) x) (Mach.s m) (Mach.mem m) (Mach.fin m)))] none) (c1 : Eff.mk (AV.raw undef) [(0, List.set (Mach.cs (Mach.mk (Mach.t m) (V6.set (Mach.r m) (Int.toNat r) x) (Mach.s m) (Mach.mem m) (Mach.fin m))) (7 + Int.toNat r * 1) (AC.b true))] none = Eff.mk (AV.raw undef) [(0, Mach.cs (Mach.wth m (Int.toNat r) x))] none) :
    CallOK Try.prog ⟨32, [AV.ag (Mach.cs m), AV.c (AC.i r), AV.c (AC.u x)], [], ⟨AV.ag [AC.i (Mach.t m), AC.u (V6.x0 (V6.set (Mach.r m) (Int.toNat r) x)), AC.u (V6.x1 (V6.set (Mach.r m) (Int.toNat r) x)), AC.u (V6.x2 (V6.set (Mach.r m) (Int.toNat r) x)), AC.u (V6.x3 (V6.set (Mach.r m) (Int.toNat r) x)), AC.u (V6.x4 (V6.set (Mach.r m) (Int.toNat r) x)), AC.u (V6.x5 (V6.set (Mach.r m) (Int.toNat r) x)), AC.b (V6.x0 (V6.set (Mach.s m) (Int.toNat r) true)), AC.b (V6.x1 (V6.set (Mach.s m) (Int.toNat r) true)), AC.b (V6.x2 (V6.set (Mach.s m) (Int.toNat r) true)), AC.b (V6.x3 (V6.set (Mach.s m) (Int.toNat r) true)), AC.b (V6.x4 (V6.set (Mach.s m) (Int.toNat r) true)), AC.b (V6.x5 (V6.set (Mach.s m) (Int.toNat r) true)), AC.s (Mach.mem m), AC.i (Mach.fin m)], [], none⟩⟩ :=
  val_run 2000 [Eff.mk (AV.raw undef) [(0, Mach.cs (Mach.mk (Mach.t m) (V6.set (Mach.r m) (Int.toNat r) x) (Mach.s m) (Mach.mem m) (Mach.fin m)))] none, Eff.mk (AV.raw undef) [(0, Mach.cs (Mach.wth m (Int.toNat r) x))] none] [] [] [(1, 5), (1, 8)] Try.func32 rfl rfl rfl rfl (by kernel_rfl) h (cr_same c0 (cr_same c1 cr_nil))
theorem useOf12_w0 {i : Ins} (h : (Ins.op i == 12 && true) = true) :
    CallOK Try.prog ⟨57, [AV.ag (Ins.cs i)], [], ⟨AV.ag [AC.b false, AC.b false, AC.b false, AC.b false, AC.b false, AC.b false], [], none⟩⟩ :=
  val_run 2000 [] [true] [] [] Try.func57 rfl rfl rfl rfl (by kernel_rfl) h cr_nil
theorem useOf15_w0 {i : Ins} (h : (!Ins.op i == 12 && (Ins.op i == 15 && true)) = true) :
    CallOK Try.prog ⟨57, [AV.ag (Ins.cs i)], [], ⟨AV.ag [AC.b true, AC.b false, AC.b false, AC.b false, AC.b false, AC.b false], [], none⟩⟩ :=
  val_run 2000 [] [false, true] [] [] Try.func57 rfl rfl rfl rfl (by kernel_rfl) h cr_nil
theorem useOfM_w0 {i : Ins} (h : (!Ins.op i == 12 && (!Ins.op i == 15 && (Ins.op i == 1 && (Ins.op i == 1 && (Ins.s i != -1 && (decide (0 ≤ Ins.s i) && decide (Ins.s i < 6) && (Nat.ble (Int.toNat (Ins.s i) * 1 + 1) 6 && true && true))))))) = true) (c0 : Eff.mk (AV.raw undef) [(2, List.set (bcs no6) (Int.toNat (Ins.s i) * 1) (AC.b true))] none = Eff.mk (AV.raw undef) [(2, (bcs (V6.set no6 (Int.toNat (Ins.s i)) true)))] none) :
    CallOK Try.prog ⟨57, [AV.ag (Ins.cs i)], [], ⟨AV.ag (bcs (V6.set no6 (Int.toNat (Ins.s i)) true)), [], none⟩⟩ :=
  val_run 2000 [Eff.mk (AV.raw undef) [(2, (bcs (V6.set no6 (Int.toNat (Ins.s i)) true)))] none] [false, false, true, true, true] [] [(12, 3)] Try.func57 rfl rfl rfl rfl (by kernel_rfl) h (cr_same c0 cr_nil)
theorem useOfM_w1 {i : Ins} (h : (!Ins.op i == 12 && (!Ins.op i == 15 && (Ins.op i == 1 && (Ins.op i == 1 && (!Ins.s i != -1 && true))))) = true) :
    CallOK Try.prog ⟨57, [AV.ag (Ins.cs i)], [], ⟨AV.ag [AC.b false, AC.b false, AC.b false, AC.b false, AC.b false, AC.b false], [], none⟩⟩ :=
  val_run 2000 [] [false, false, true, true, false] [] [(12, 3)] Try.func57 rfl rfl rfl rfl (by kernel_rfl) h cr_nil
theorem useOfL_w0 {i : Ins} (h : (!Ins.op i == 12 && (!Ins.op i == 15 && (!Ins.op i == 1 && (Ins.op i == 10 && (Ins.s i != -1 && (decide (0 ≤ Ins.s i) && decide (Ins.s i < 6) && (Nat.ble (Int.toNat (Ins.s i) * 1 + 1) 6 && true && true))))))) = true) (c0 : Eff.mk (AV.raw undef) [(2, List.set (bcs no6) (Int.toNat (Ins.s i) * 1) (AC.b true))] none = Eff.mk (AV.raw undef) [(2, (bcs (V6.set no6 (Int.toNat (Ins.s i)) true)))] none) :
    CallOK Try.prog ⟨57, [AV.ag (Ins.cs i)], [], ⟨AV.ag (bcs (V6.set no6 (Int.toNat (Ins.s i)) true)), [], none⟩⟩ :=
  val_run 2000 [Eff.mk (AV.raw undef) [(2, (bcs (V6.set no6 (Int.toNat (Ins.s i)) true)))] none] [false, false, false, true, true] [] [(12, 3)] Try.func57 rfl rfl rfl rfl (by kernel_rfl) h (cr_same c0 cr_nil)
theorem useOfL_w1 {i : Ins} (h : (!Ins.op i == 12 && (!Ins.op i == 15 && (!Ins.op i == 1 && (Ins.op i == 10 && (!Ins.s i != -1 && true))))) = true) :
    CallOK Try.prog ⟨57, [AV.ag (Ins.cs i)], [], ⟨AV.ag [AC.b false, AC.b false, AC.b false, AC.b false, AC.b false, AC.b false], [], none⟩⟩ :=
  val_run 2000 [] [false, false, false, true, false] [] [(12, 3)] Try.func57 rfl rfl rfl rfl (by kernel_rfl) h cr_nil
theorem useOfD_w0 {i : Ins} (h : (!Ins.op i == 12 && (!Ins.op i == 15 && (!Ins.op i == 1 && (!Ins.op i == 10 && (decide (0 ≤ Ins.d i) && decide (Ins.d i < 6) && (Nat.ble (Int.toNat (Ins.d i) * 1 + 1) 6 && true && (Ins.s i != -1 && (decide (0 ≤ Ins.s i) && decide (Ins.s i < 6) && (Nat.ble (Int.toNat (Ins.s i) * 1 + 1) (List.length (bcs (V6.set no6 (Int.toNat (Ins.d i)) true))) && true && true))))))))) = true) (c0 : Eff.mk (AV.raw undef) [(2, List.set (bcs no6) (Int.toNat (Ins.d i) * 1) (AC.b true))] none = Eff.mk (AV.raw undef) [(2, (bcs (V6.set no6 (Int.toNat (Ins.d i)) true)))] none) (c1 : Eff.mk (AV.raw undef) [(2, List.set (bcs (V6.set no6 (Int.toNat (Ins.d i)) true)) (Int.toNat (Ins.s i) * 1) (AC.b true))] none = Eff.mk (AV.raw undef) [(2, (bcs (V6.set (V6.set no6 (Int.toNat (Ins.d i)) true) (Int.toNat (Ins.s i)) true)))] none) :
    CallOK Try.prog ⟨57, [AV.ag (Ins.cs i)], [], ⟨AV.ag (bcs (V6.set (V6.set no6 (Int.toNat (Ins.d i)) true) (Int.toNat (Ins.s i)) true)), [], none⟩⟩ :=
  val_run 2000 [Eff.mk (AV.raw undef) [(2, (bcs (V6.set no6 (Int.toNat (Ins.d i)) true)))] none, Eff.mk (AV.raw undef) [(2, (bcs (V6.set (V6.set no6 (Int.toNat (Ins.d i)) true) (Int.toNat (Ins.s i)) true)))] none] [false, false, false, false, true] [] [(3, 3), (12, 3)] Try.func57 rfl rfl rfl rfl (by kernel_rfl) h (cr_same c0 (cr_same c1 cr_nil))
theorem useOfD_w1 {i : Ins} (h : (!Ins.op i == 12 && (!Ins.op i == 15 && (!Ins.op i == 1 && (!Ins.op i == 10 && (decide (0 ≤ Ins.d i) && decide (Ins.d i < 6) && (Nat.ble (Int.toNat (Ins.d i) * 1 + 1) 6 && true && (!Ins.s i != -1 && true))))))) = true) (c0 : Eff.mk (AV.raw undef) [(2, List.set (bcs no6) (Int.toNat (Ins.d i) * 1) (AC.b true))] none = Eff.mk (AV.raw undef) [(2, (bcs (V6.set no6 (Int.toNat (Ins.d i)) true)))] none) :
    CallOK Try.prog ⟨57, [AV.ag (Ins.cs i)], [], ⟨AV.ag (bcs (V6.set no6 (Int.toNat (Ins.d i)) true)), [], none⟩⟩ :=
  val_run 2000 [Eff.mk (AV.raw undef) [(2, (bcs (V6.set no6 (Int.toNat (Ins.d i)) true)))] none] [false, false, false, false, false] [] [(3, 3), (12, 3)] Try.func57 rfl rfl rfl rfl (by kernel_rfl) h (cr_same c0 cr_nil)
theorem source_w0 {i : Ins} {m : Mach} (h : (Ins.s i == -1 && true) = true) :
    CallOK Try.prog ⟨62, [AV.ag (Ins.cs i), AV.ag (Mach.cs m)], [], ⟨AV.c (AC.u (Ins.im i)), [], none⟩⟩ :=
  val_run 2000 [] [true] [] [(3, 4)] Try.func62 rfl rfl rfl rfl (by kernel_rfl) h cr_nil
theorem source_w1 {i : Ins} {m : Mach} (h : (!Ins.s i == -1 && (decide (0 ≤ Ins.s i) && decide (Ins.s i < 6) && (AC.isU (Option.getD (Mach.cs m)[1 + Int.toNat (Ins.s i) * 1]? (AC.b false)) && Nat.blt (1 + Int.toNat (Ins.s i) * 1) (List.length (Mach.cs m)) && true))) = true) (c0 : Eff.mk (AV.c (AC.u (AC.asU (Option.getD (Mach.cs m)[1 + Int.toNat (Ins.s i) * 1]? (AC.b false))))) [] none = Eff.mk (AV.c (AC.u (V6.get (Mach.r m) (Int.toNat (Ins.s i))))) [] none) :
    CallOK Try.prog ⟨62, [AV.ag (Ins.cs i), AV.ag (Mach.cs m)], [], ⟨AV.c (AC.u (V6.get (Mach.r m) (Int.toNat (Ins.s i)))), [], none⟩⟩ :=
  val_run 2000 [Eff.mk (AV.c (AC.u (V6.get (Mach.r m) (Int.toNat (Ins.s i))))) [] none] [false] [] [(3, 4)] Try.func62 rfl rfl rfl rfl (by kernel_rfl) h (cr_same c0 cr_nil)
theorem two_w0 {op : Int} {x : BitVec 64} {y : BitVec 64} (h : (op == 2 && true) = true) :
    CallOK Try.prog ⟨63, [AV.c (AC.i op), AV.c (AC.u x), AV.c (AC.u y)], [], ⟨AV.c (AC.u (badd x y)), [], none⟩⟩ :=
  val_run 2000 [] [true] [] [] Try.func63 rfl rfl rfl rfl (by kernel_rfl) h cr_nil
theorem two_w1 {op : Int} {x : BitVec 64} {y : BitVec 64} (h : (!op == 2 && (op == 3 && true)) = true) :
    CallOK Try.prog ⟨63, [AV.c (AC.i op), AV.c (AC.u x), AV.c (AC.u y)], [], ⟨AV.c (AC.u (bsub x y)), [], none⟩⟩ :=
  val_run 2000 [] [false, true] [] [] Try.func63 rfl rfl rfl rfl (by kernel_rfl) h cr_nil
theorem two_w2 {op : Int} {x : BitVec 64} {y : BitVec 64} (h : (!op == 2 && (!op == 3 && (op == 4 && true))) = true) :
    CallOK Try.prog ⟨63, [AV.c (AC.i op), AV.c (AC.u x), AV.c (AC.u y)], [], ⟨AV.c (AC.u (bmul x y)), [], none⟩⟩ :=
  val_run 2000 [] [false, false, true] [] [] Try.func63 rfl rfl rfl rfl (by kernel_rfl) h cr_nil
theorem two_w3 {op : Int} {x : BitVec 64} {y : BitVec 64} (h : (!op == 2 && (!op == 3 && (!op == 4 && (op == 5 && true)))) = true) :
    CallOK Try.prog ⟨63, [AV.c (AC.i op), AV.c (AC.u x), AV.c (AC.u y)], [], ⟨AV.c (AC.u (band x y)), [], none⟩⟩ :=
  val_run 2000 [] [false, false, false, true] [] [] Try.func63 rfl rfl rfl rfl (by kernel_rfl) h cr_nil
theorem two_w4 {op : Int} {x : BitVec 64} {y : BitVec 64} (h : (!op == 2 && (!op == 3 && (!op == 4 && (!op == 5 && (op == 6 && true))))) = true) :
    CallOK Try.prog ⟨63, [AV.c (AC.i op), AV.c (AC.u x), AV.c (AC.u y)], [], ⟨AV.c (AC.u (bor x y)), [], none⟩⟩ :=
  val_run 2000 [] [false, false, false, false, true] [] [] Try.func63 rfl rfl rfl rfl (by kernel_rfl) h cr_nil
theorem two_w5 {op : Int} {x : BitVec 64} {y : BitVec 64} (h : (!op == 2 && (!op == 3 && (!op == 4 && (!op == 5 && (!op == 6 && (op == 7 && true)))))) = true) :
    CallOK Try.prog ⟨63, [AV.c (AC.i op), AV.c (AC.u x), AV.c (AC.u y)], [], ⟨AV.c (AC.u (bxor x y)), [], none⟩⟩ :=
  val_run 2000 [] [false, false, false, false, false, true] [] [] Try.func63 rfl rfl rfl rfl (by kernel_rfl) h cr_nil
theorem two_w6 {op : Int} {x : BitVec 64} {y : BitVec 64} (h : (!op == 2 && (!op == 3 && (!op == 4 && (!op == 5 && (!op == 6 && (!op == 7 && (op == 8 && (decide (nv (band y 63#64) ≤ 64) && true)))))))) = true) :
    CallOK Try.prog ⟨63, [AV.c (AC.i op), AV.c (AC.u x), AV.c (AC.u y)], [], ⟨AV.c (AC.u (bshl x (Int.toNat (nv (band y 63#64))))), [], none⟩⟩ :=
  val_run 2000 [] [false, false, false, false, false, false, true] [] [] Try.func63 rfl rfl rfl rfl (by kernel_rfl) h cr_nil
theorem two_w7 {op : Int} {x : BitVec 64} {y : BitVec 64} (h : (!op == 2 && (!op == 3 && (!op == 4 && (!op == 5 && (!op == 6 && (!op == 7 && (!op == 8 && (op == 9 && (decide (nv (band y 63#64) ≤ 64) && true))))))))) = true) :
    CallOK Try.prog ⟨63, [AV.c (AC.i op), AV.c (AC.u x), AV.c (AC.u y)], [], ⟨AV.c (AC.u (bshr x (Int.toNat (nv (band y 63#64))))), [], none⟩⟩ :=
  val_run 2000 [] [false, false, false, false, false, false, false, true] [] [] Try.func63 rfl rfl rfl rfl (by kernel_rfl) h cr_nil
theorem two_w8 {op : Int} {x : BitVec 64} {y : BitVec 64} (h : (!op == 2 && (!op == 3 && (!op == 4 && (!op == 5 && (!op == 6 && (!op == 7 && (!op == 8 && (!op == 9 && true)))))))) = true) :
    CallOK Try.prog ⟨63, [AV.c (AC.i op), AV.c (AC.u x), AV.c (AC.u y)], [], ⟨AV.c (AC.u y), [], none⟩⟩ :=
  val_run 2000 [] [false, false, false, false, false, false, false, false] [] [] Try.func63 rfl rfl rfl rfl (by kernel_rfl) h cr_nil
theorem load_w0 {t : ByteArray} {C : Cx} {R : Ending → World → Prop} (hF : ∀ k, C.F k → k < 0) (z : ART Try.prog 95 C Try.f95.ntmps (cutAt Try.f95 0) ⟨[(0, AV.c (AC.s t)), (3, AV.c (AC.u 0#64)), (6, AV.c (AC.i (↑(ByteArray.size t) : Int))), (7, AV.c (AC.i 0))], [], 0⟩ R) :
    ART Try.prog 95 C Try.f95.ntmps ([Item.code (bodyOf Try.f95)]) (Kn.start [AV.c (AC.s t)] [] 0) R :=
  run_cut ⟨[(0, AV.c (AC.s t)), (3, AV.c (AC.u 0#64)), (6, AV.c (AC.i (↑(ByteArray.size t) : Int))), (7, AV.c (AC.i 0))], [], 0⟩ 2000 [] [] [true] [] Try.func95 (by kernel_rfl) rfl cr_nil (low_of rfl) hF z
theorem loadL_w0 {t : ByteArray} {x : BitVec 64} {q : Int} {j : Int} {C : Cx} {R : Ending → World → Prop} (h : (decide (j < q) && (decide (0 ≤ j) && decide (Int.toNat j < ByteArray.size t) && (decide (0 ≤ IntKind.wrap IntKind.i64 (8 * j)) && decide (IntKind.wrap IntKind.i64 (8 * j) ≤ 64) && true))) = true) (hF : ∀ k, C.F k → k < 0) (z : ART Try.prog 95 C Try.f95.ntmps (cutAt Try.f95 0) ⟨[(0, AV.c (AC.s t)), (3, AV.c (AC.u (bor x (bshl (BitVec.setWidth 64 (byteAt t (Int.toNat j))) (Int.toNat (IntKind.wrap IntKind.i64 (8 * j))))))), (6, AV.c (AC.i q)), (7, AV.c (AC.i (IntKind.wrap IntKind.i64 (j + 1))))], [], 0⟩ R) :
    ART Try.prog 95 C Try.f95.ntmps (cutAt Try.f95 0) (Kn.mk [(0, AV.c (AC.s t)), (3, AV.c (AC.u x)), (6, AV.c (AC.i q)), (7, AV.c (AC.i j))] [] 0) R :=
  run_cut ⟨[(0, AV.c (AC.s t)), (3, AV.c (AC.u (bor x (bshl (BitVec.setWidth 64 (byteAt t (Int.toNat j))) (Int.toNat (IntKind.wrap IntKind.i64 (8 * j))))))), (6, AV.c (AC.i q)), (7, AV.c (AC.i (IntKind.wrap IntKind.i64 (j + 1))))], [], 0⟩ 2000 [] [true] [true] [] Try.func95 (by kernel_rfl) h cr_nil (low_of rfl) hF z
theorem loadL_w1 {t : ByteArray} {x : BitVec 64} {q : Int} {j : Int} {w : World} {β : Bs} {n : Nat} (h : (!decide (j < q) && true) = true) :
    ART Try.prog 95 (cx w β n []) Try.f95.ntmps (cutAt Try.f95 0) (Kn.mk [(0, AV.c (AC.s t)), (3, AV.c (AC.u x)), (6, AV.c (AC.i q)), (7, AV.c (AC.i j))] [] 0) (REff w β ⟨AV.c (AC.u x), [], none⟩) :=
  run_eff [] (none) 2000 [] [false] [true] [] Try.func95 (ekeys0 rfl n) (by kernel_rfl) h cr_nil
theorem store1_w0 {x : BitVec 64} :
    CallOK Try.prog ⟨96, [AV.c (AC.u x), AV.c (AC.u 1#64)], [], ⟨AV.c (AC.s (strOf (List.take 1 (List.drop 0 (splice (rows 1 [AC.y 0#8]) 0 [AC.y (BitVec.setWidth 8 (bshr x 0))]))))), [], none⟩⟩ :=
  val_run 2000 [] [true, false] [false, false] [] Try.func96 rfl rfl rfl rfl (by kernel_rfl) rfl cr_nil
theorem store2_w0 {x : BitVec 64} :
    CallOK Try.prog ⟨96, [AV.c (AC.u x), AV.c (AC.u 2#64)], [], ⟨AV.c (AC.s (strOf (List.take 2 (List.drop 0 (splice (splice (rows 2 [AC.y 0#8]) 0 [AC.y (BitVec.setWidth 8 (bshr x 0))]) 1 [AC.y (BitVec.setWidth 8 (bshr x 8))]))))), [], none⟩⟩ :=
  val_run 2000 [] [true, true, false] [false, false, false] [] Try.func96 rfl rfl rfl rfl (by kernel_rfl) rfl cr_nil
theorem store4_w0 {x : BitVec 64} :
    CallOK Try.prog ⟨96, [AV.c (AC.u x), AV.c (AC.u 4#64)], [], ⟨AV.c (AC.s (strOf (List.take 4 (List.drop 0 (splice (splice (splice (splice (rows 4 [AC.y 0#8]) 0 [AC.y (BitVec.setWidth 8 (bshr x 0))]) 1 [AC.y (BitVec.setWidth 8 (bshr x 8))]) 2 [AC.y (BitVec.setWidth 8 (bshr x 16))]) 3 [AC.y (BitVec.setWidth 8 (bshr x 24))]))))), [], none⟩⟩ :=
  val_run 2000 [] [true, true, true, true, false] [false, false, false, false, false] [] Try.func96 rfl rfl rfl rfl (by kernel_rfl) rfl cr_nil
theorem store8_w0 {x : BitVec 64} :
    CallOK Try.prog ⟨96, [AV.c (AC.u x), AV.c (AC.u 8#64)], [], ⟨AV.c (AC.s (strOf (List.take 8 (List.drop 0 (splice (splice (splice (splice (splice (splice (splice (splice (rows 8 [AC.y 0#8]) 0 [AC.y (BitVec.setWidth 8 (bshr x 0))]) 1 [AC.y (BitVec.setWidth 8 (bshr x 8))]) 2 [AC.y (BitVec.setWidth 8 (bshr x 16))]) 3 [AC.y (BitVec.setWidth 8 (bshr x 24))]) 4 [AC.y (BitVec.setWidth 8 (bshr x 32))]) 5 [AC.y (BitVec.setWidth 8 (bshr x 40))]) 6 [AC.y (BitVec.setWidth 8 (bshr x 48))]) 7 [AC.y (BitVec.setWidth 8 (bshr x 56))]))))), [], none⟩⟩ :=
  val_run 2000 [] [true, true, true, true, true, true, true, true, false] [false, false, false, false, false, false, false, false, false] [] Try.func96 rfl rfl rfl rfl (by kernel_rfl) rfl cr_nil
end Go.Proofs.Ytkigmocchaikgab

/- Ways of bodies, written by a program (ways.py): what each asks for, and hands back. -/
namespace Go.Proofs.Ytkigmocchaikgab
open Go.RowKit

theorem isReg_w0 {d : Int} (h : (decide (0 ≤ d) && true) = true) :
    CallOK Try.prog ⟨91, [AV.c (AC.i d)], [], ⟨AV.c (AC.b (decide (d < 6))), [], none⟩⟩ :=
  val_run 2000 [] [true] [] [] Try.func91 rfl rfl rfl rfl (by kernel_rfl) h cr_nil
theorem isReg_w1 {d : Int} (h : (!decide (0 ≤ d) && true) = true) :
    CallOK Try.prog ⟨91, [AV.c (AC.i d)], [], ⟨AV.c (AC.b false), [], none⟩⟩ :=
  val_run 2000 [] [false] [] [] Try.func91 rfl rfl rfl rfl (by kernel_rfl) h cr_nil
theorem isReg_all {d : Int} {V : AV}
    (l0 : (decide (0 ≤ d)) = true → (AV.c (AC.b (decide (d < 6))) = V))
    (l1 : (decide (0 ≤ d)) = false → (AV.c (AC.b false) = V)) :
    CallOK Try.prog ⟨91, [AV.c (AC.i d)], [], ⟨V, [], none⟩⟩ :=
  (tf (decide (0 ≤ d))).elim (fun h0 => (match l0 h0 with | e => ok_eq (isReg_w0 (and_yes h0 rfl)) e)) (fun h0 => (match l1 h0 with | e => ok_eq (isReg_w1 (and_yes (not_yes h0) rfl)) e))
theorem isSource_w0 {d : Int} (h : (d == -1 && true) = true) :
    CallOK Try.prog ⟨94, [AV.c (AC.i d)], [], ⟨AV.c (AC.b true), [], none⟩⟩ :=
  val_run 2000 [] [true] [] [] Try.func94 rfl rfl rfl rfl (by kernel_rfl) h cr_nil
theorem isSource_w1 {d : Int} (h : (!d == -1 && true) = true) (c0 : CallOK Try.prog (CallRec.mk 91 [AV.c (AC.i d)] [] (Eff.mk (AV.c (AC.b (regB d))) [] none))) :
    CallOK Try.prog ⟨94, [AV.c (AC.i d)], [], ⟨AV.c (AC.b (regB d)), [], none⟩⟩ :=
  val_run 2000 [Eff.mk (AV.c (AC.b (regB d))) [] none] [false] [] [] Try.func94 rfl rfl rfl rfl (by kernel_rfl) h (cr_cons c0 cr_nil)
theorem isSource_all {d : Int} {V : AV}
    (l0 : (d == -1) = true → (AV.c (AC.b true) = V))
    (l1 : (d == -1) = false → (CallOK Try.prog (CallRec.mk 91 [AV.c (AC.i d)] [] (Eff.mk (AV.c (AC.b (regB d))) [] none))) ∧ (AV.c (AC.b (regB d)) = V)) :
    CallOK Try.prog ⟨94, [AV.c (AC.i d)], [], ⟨V, [], none⟩⟩ :=
  (tf (d == -1)).elim (fun h0 => (match l0 h0 with | e => ok_eq (isSource_w0 (and_yes h0 rfl)) e)) (fun h0 => (match l1 h0 with | ⟨c0, e⟩ => ok_eq (isSource_w1 (and_yes (not_yes h0) rfl) c0) e))
theorem isSize_w0 {d : BitVec 64} (h : (eqb d 1#64 && true) = true) :
    CallOK Try.prog ⟨92, [AV.c (AC.u d)], [], ⟨AV.c (AC.b true), [], none⟩⟩ :=
  val_run 2000 [] [true, true, true] [] [] Try.func92 rfl rfl rfl rfl (by kernel_rfl) h cr_nil
theorem isSize_w1 {d : BitVec 64} (h : (!eqb d 1#64 && (eqb d 2#64 && true)) = true) :
    CallOK Try.prog ⟨92, [AV.c (AC.u d)], [], ⟨AV.c (AC.b true), [], none⟩⟩ :=
  val_run 2000 [] [false, true, true] [] [] Try.func92 rfl rfl rfl rfl (by kernel_rfl) h cr_nil
theorem isSize_w2 {d : BitVec 64} (h : (!eqb d 1#64 && (!eqb d 2#64 && (eqb d 4#64 && true))) = true) :
    CallOK Try.prog ⟨92, [AV.c (AC.u d)], [], ⟨AV.c (AC.b true), [], none⟩⟩ :=
  val_run 2000 [] [false, false, true] [] [] Try.func92 rfl rfl rfl rfl (by kernel_rfl) h cr_nil
theorem isSize_w3 {d : BitVec 64} (h : (!eqb d 1#64 && (!eqb d 2#64 && (!eqb d 4#64 && true))) = true) :
    CallOK Try.prog ⟨92, [AV.c (AC.u d)], [], ⟨AV.c (AC.b (eqb d 8#64)), [], none⟩⟩ :=
  val_run 2000 [] [false, false, false] [] [] Try.func92 rfl rfl rfl rfl (by kernel_rfl) h cr_nil
theorem isSize_all {d : BitVec 64} {V : AV}
    (l0 : (eqb d 1#64) = true → (AV.c (AC.b true) = V))
    (l1 : (eqb d 1#64) = false → (eqb d 2#64) = true → (AV.c (AC.b true) = V))
    (l2 : (eqb d 1#64) = false → (eqb d 2#64) = false → (eqb d 4#64) = true → (AV.c (AC.b true) = V))
    (l3 : (eqb d 1#64) = false → (eqb d 2#64) = false → (eqb d 4#64) = false → (AV.c (AC.b (eqb d 8#64)) = V)) :
    CallOK Try.prog ⟨92, [AV.c (AC.u d)], [], ⟨V, [], none⟩⟩ :=
  (tf (eqb d 1#64)).elim (fun h0 => (match l0 h0 with | e => ok_eq (isSize_w0 (and_yes h0 rfl)) e)) (fun h0 => (tf (eqb d 2#64)).elim (fun h1 => (match l1 h0 h1 with | e => ok_eq (isSize_w1 (and_yes (not_yes h0) (and_yes h1 rfl))) e)) (fun h1 => (tf (eqb d 4#64)).elim (fun h2 => (match l2 h0 h1 h2 with | e => ok_eq (isSize_w2 (and_yes (not_yes h0) (and_yes (not_yes h1) (and_yes h2 rfl)))) e)) (fun h2 => (match l3 h0 h1 h2 with | e => ok_eq (isSize_w3 (and_yes (not_yes h0) (and_yes (not_yes h1) (and_yes (not_yes h2) rfl)))) e))))
theorem goesOn_w0 {d : Int} {n : Int} (h : (decide (0 ≤ d) && true) = true) :
    CallOK Try.prog ⟨93, [AV.c (AC.i d), AV.c (AC.i n)], [], ⟨AV.c (AC.b (decide (d < n))), [], none⟩⟩ :=
  val_run 2000 [] [true] [] [] Try.func93 rfl rfl rfl rfl (by kernel_rfl) h cr_nil
theorem goesOn_w1 {d : Int} {n : Int} (h : (!decide (0 ≤ d) && true) = true) :
    CallOK Try.prog ⟨93, [AV.c (AC.i d), AV.c (AC.i n)], [], ⟨AV.c (AC.b false), [], none⟩⟩ :=
  val_run 2000 [] [false] [] [] Try.func93 rfl rfl rfl rfl (by kernel_rfl) h cr_nil
theorem goesOn_all {d : Int} {n : Int} {V : AV}
    (l0 : (decide (0 ≤ d)) = true → (AV.c (AC.b (decide (d < n))) = V))
    (l1 : (decide (0 ≤ d)) = false → (AV.c (AC.b false) = V)) :
    CallOK Try.prog ⟨93, [AV.c (AC.i d), AV.c (AC.i n)], [], ⟨V, [], none⟩⟩ :=
  (tf (decide (0 ≤ d))).elim (fun h0 => (match l0 h0 with | e => ok_eq (goesOn_w0 (and_yes h0 rfl)) e)) (fun h0 => (match l1 h0 with | e => ok_eq (goesOn_w1 (and_yes (not_yes h0) rfl)) e))
theorem inBounds_w0 {i : Ins} {n : Int} (h : (Ins.op i == 10 && (Ins.op i == 10 && (regB (Ins.d i) && (regB (Ins.s i) && (sizeB (Ins.im i) && (decide (-64 ≤ Ins.of i) && true)))))) = true) (c0 : CallOK Try.prog (CallRec.mk 91 [AV.c (AC.i (Ins.d i))] [] (Eff.mk (AV.c (AC.b (regB (Ins.d i)))) [] none))) (c1 : CallOK Try.prog (CallRec.mk 91 [AV.c (AC.i (Ins.s i))] [] (Eff.mk (AV.c (AC.b (regB (Ins.s i)))) [] none))) (c2 : CallOK Try.prog (CallRec.mk 92 [AV.c (AC.u (Ins.im i))] [] (Eff.mk (AV.c (AC.b (sizeB (Ins.im i)))) [] none))) :
    CallOK Try.prog ⟨55, [AV.ag (Ins.cs i), AV.c (AC.i n)], [], ⟨AV.c (AC.b (decide (Ins.of i ≤ 64))), [], none⟩⟩ :=
  val_run 2000 [Eff.mk (AV.c (AC.b (regB (Ins.d i)))) [] none, Eff.mk (AV.c (AC.b (regB (Ins.s i)))) [] none, Eff.mk (AV.c (AC.b (sizeB (Ins.im i)))) [] none] [true, true, true, true, true, true] [] [] Try.func55 rfl rfl rfl rfl (by kernel_rfl) h (cr_cons c0 (cr_cons c1 (cr_cons c2 cr_nil)))
theorem inBounds_w1 {i : Ins} {n : Int} (h : (Ins.op i == 10 && (Ins.op i == 10 && (regB (Ins.d i) && (regB (Ins.s i) && (sizeB (Ins.im i) && (!decide (-64 ≤ Ins.of i) && true)))))) = true) (c0 : CallOK Try.prog (CallRec.mk 91 [AV.c (AC.i (Ins.d i))] [] (Eff.mk (AV.c (AC.b (regB (Ins.d i)))) [] none))) (c1 : CallOK Try.prog (CallRec.mk 91 [AV.c (AC.i (Ins.s i))] [] (Eff.mk (AV.c (AC.b (regB (Ins.s i)))) [] none))) (c2 : CallOK Try.prog (CallRec.mk 92 [AV.c (AC.u (Ins.im i))] [] (Eff.mk (AV.c (AC.b (sizeB (Ins.im i)))) [] none))) :
    CallOK Try.prog ⟨55, [AV.ag (Ins.cs i), AV.c (AC.i n)], [], ⟨AV.c (AC.b false), [], none⟩⟩ :=
  val_run 2000 [Eff.mk (AV.c (AC.b (regB (Ins.d i)))) [] none, Eff.mk (AV.c (AC.b (regB (Ins.s i)))) [] none, Eff.mk (AV.c (AC.b (sizeB (Ins.im i)))) [] none] [true, true, true, true, true, false] [] [] Try.func55 rfl rfl rfl rfl (by kernel_rfl) h (cr_cons c0 (cr_cons c1 (cr_cons c2 cr_nil)))
theorem inBounds_w2 {i : Ins} {n : Int} (h : (Ins.op i == 10 && (Ins.op i == 10 && (regB (Ins.d i) && (regB (Ins.s i) && (!sizeB (Ins.im i) && true))))) = true) (c0 : CallOK Try.prog (CallRec.mk 91 [AV.c (AC.i (Ins.d i))] [] (Eff.mk (AV.c (AC.b (regB (Ins.d i)))) [] none))) (c1 : CallOK Try.prog (CallRec.mk 91 [AV.c (AC.i (Ins.s i))] [] (Eff.mk (AV.c (AC.b (regB (Ins.s i)))) [] none))) (c2 : CallOK Try.prog (CallRec.mk 92 [AV.c (AC.u (Ins.im i))] [] (Eff.mk (AV.c (AC.b (sizeB (Ins.im i)))) [] none))) :
    CallOK Try.prog ⟨55, [AV.ag (Ins.cs i), AV.c (AC.i n)], [], ⟨AV.c (AC.b false), [], none⟩⟩ :=
  val_run 2000 [Eff.mk (AV.c (AC.b (regB (Ins.d i)))) [] none, Eff.mk (AV.c (AC.b (regB (Ins.s i)))) [] none, Eff.mk (AV.c (AC.b (sizeB (Ins.im i)))) [] none] [true, true, true, true, false, false] [] [] Try.func55 rfl rfl rfl rfl (by kernel_rfl) h (cr_cons c0 (cr_cons c1 (cr_cons c2 cr_nil)))
theorem inBounds_w3 {i : Ins} {n : Int} (h : (Ins.op i == 10 && (Ins.op i == 10 && (regB (Ins.d i) && (!regB (Ins.s i) && true)))) = true) (c0 : CallOK Try.prog (CallRec.mk 91 [AV.c (AC.i (Ins.d i))] [] (Eff.mk (AV.c (AC.b (regB (Ins.d i)))) [] none))) (c1 : CallOK Try.prog (CallRec.mk 91 [AV.c (AC.i (Ins.s i))] [] (Eff.mk (AV.c (AC.b (regB (Ins.s i)))) [] none))) :
    CallOK Try.prog ⟨55, [AV.ag (Ins.cs i), AV.c (AC.i n)], [], ⟨AV.c (AC.b false), [], none⟩⟩ :=
  val_run 2000 [Eff.mk (AV.c (AC.b (regB (Ins.d i)))) [] none, Eff.mk (AV.c (AC.b (regB (Ins.s i)))) [] none] [true, true, true, false, false, false] [] [] Try.func55 rfl rfl rfl rfl (by kernel_rfl) h (cr_cons c0 (cr_cons c1 cr_nil))
theorem inBounds_w4 {i : Ins} {n : Int} (h : (Ins.op i == 10 && (Ins.op i == 10 && (!regB (Ins.d i) && true))) = true) (c0 : CallOK Try.prog (CallRec.mk 91 [AV.c (AC.i (Ins.d i))] [] (Eff.mk (AV.c (AC.b (regB (Ins.d i)))) [] none))) :
    CallOK Try.prog ⟨55, [AV.ag (Ins.cs i), AV.c (AC.i n)], [], ⟨AV.c (AC.b false), [], none⟩⟩ :=
  val_run 2000 [Eff.mk (AV.c (AC.b (regB (Ins.d i)))) [] none] [true, true, false, false, false, false] [] [] Try.func55 rfl rfl rfl rfl (by kernel_rfl) h (cr_cons c0 cr_nil)
theorem inBounds_w5 {i : Ins} {n : Int} (h : (!Ins.op i == 10 && (Ins.op i == 11 && (regB (Ins.d i) && (regB (Ins.s i) && (sizeB (Ins.im i) && (decide (-64 ≤ Ins.of i) && true)))))) = true) (c0 : CallOK Try.prog (CallRec.mk 91 [AV.c (AC.i (Ins.d i))] [] (Eff.mk (AV.c (AC.b (regB (Ins.d i)))) [] none))) (c1 : CallOK Try.prog (CallRec.mk 91 [AV.c (AC.i (Ins.s i))] [] (Eff.mk (AV.c (AC.b (regB (Ins.s i)))) [] none))) (c2 : CallOK Try.prog (CallRec.mk 92 [AV.c (AC.u (Ins.im i))] [] (Eff.mk (AV.c (AC.b (sizeB (Ins.im i)))) [] none))) :
    CallOK Try.prog ⟨55, [AV.ag (Ins.cs i), AV.c (AC.i n)], [], ⟨AV.c (AC.b (decide (Ins.of i ≤ 64))), [], none⟩⟩ :=
  val_run 2000 [Eff.mk (AV.c (AC.b (regB (Ins.d i)))) [] none, Eff.mk (AV.c (AC.b (regB (Ins.s i)))) [] none, Eff.mk (AV.c (AC.b (sizeB (Ins.im i)))) [] none] [false, true, true, true, true, true] [] [] Try.func55 rfl rfl rfl rfl (by kernel_rfl) h (cr_cons c0 (cr_cons c1 (cr_cons c2 cr_nil)))
theorem inBounds_w6 {i : Ins} {n : Int} (h : (!Ins.op i == 10 && (Ins.op i == 11 && (regB (Ins.d i) && (regB (Ins.s i) && (sizeB (Ins.im i) && (!decide (-64 ≤ Ins.of i) && true)))))) = true) (c0 : CallOK Try.prog (CallRec.mk 91 [AV.c (AC.i (Ins.d i))] [] (Eff.mk (AV.c (AC.b (regB (Ins.d i)))) [] none))) (c1 : CallOK Try.prog (CallRec.mk 91 [AV.c (AC.i (Ins.s i))] [] (Eff.mk (AV.c (AC.b (regB (Ins.s i)))) [] none))) (c2 : CallOK Try.prog (CallRec.mk 92 [AV.c (AC.u (Ins.im i))] [] (Eff.mk (AV.c (AC.b (sizeB (Ins.im i)))) [] none))) :
    CallOK Try.prog ⟨55, [AV.ag (Ins.cs i), AV.c (AC.i n)], [], ⟨AV.c (AC.b false), [], none⟩⟩ :=
  val_run 2000 [Eff.mk (AV.c (AC.b (regB (Ins.d i)))) [] none, Eff.mk (AV.c (AC.b (regB (Ins.s i)))) [] none, Eff.mk (AV.c (AC.b (sizeB (Ins.im i)))) [] none] [false, true, true, true, true, false] [] [] Try.func55 rfl rfl rfl rfl (by kernel_rfl) h (cr_cons c0 (cr_cons c1 (cr_cons c2 cr_nil)))
theorem inBounds_w7 {i : Ins} {n : Int} (h : (!Ins.op i == 10 && (Ins.op i == 11 && (regB (Ins.d i) && (regB (Ins.s i) && (!sizeB (Ins.im i) && true))))) = true) (c0 : CallOK Try.prog (CallRec.mk 91 [AV.c (AC.i (Ins.d i))] [] (Eff.mk (AV.c (AC.b (regB (Ins.d i)))) [] none))) (c1 : CallOK Try.prog (CallRec.mk 91 [AV.c (AC.i (Ins.s i))] [] (Eff.mk (AV.c (AC.b (regB (Ins.s i)))) [] none))) (c2 : CallOK Try.prog (CallRec.mk 92 [AV.c (AC.u (Ins.im i))] [] (Eff.mk (AV.c (AC.b (sizeB (Ins.im i)))) [] none))) :
    CallOK Try.prog ⟨55, [AV.ag (Ins.cs i), AV.c (AC.i n)], [], ⟨AV.c (AC.b false), [], none⟩⟩ :=
  val_run 2000 [Eff.mk (AV.c (AC.b (regB (Ins.d i)))) [] none, Eff.mk (AV.c (AC.b (regB (Ins.s i)))) [] none, Eff.mk (AV.c (AC.b (sizeB (Ins.im i)))) [] none] [false, true, true, true, false, false] [] [] Try.func55 rfl rfl rfl rfl (by kernel_rfl) h (cr_cons c0 (cr_cons c1 (cr_cons c2 cr_nil)))
theorem inBounds_w8 {i : Ins} {n : Int} (h : (!Ins.op i == 10 && (Ins.op i == 11 && (regB (Ins.d i) && (!regB (Ins.s i) && true)))) = true) (c0 : CallOK Try.prog (CallRec.mk 91 [AV.c (AC.i (Ins.d i))] [] (Eff.mk (AV.c (AC.b (regB (Ins.d i)))) [] none))) (c1 : CallOK Try.prog (CallRec.mk 91 [AV.c (AC.i (Ins.s i))] [] (Eff.mk (AV.c (AC.b (regB (Ins.s i)))) [] none))) :
    CallOK Try.prog ⟨55, [AV.ag (Ins.cs i), AV.c (AC.i n)], [], ⟨AV.c (AC.b false), [], none⟩⟩ :=
  val_run 2000 [Eff.mk (AV.c (AC.b (regB (Ins.d i)))) [] none, Eff.mk (AV.c (AC.b (regB (Ins.s i)))) [] none] [false, true, true, false, false, false] [] [] Try.func55 rfl rfl rfl rfl (by kernel_rfl) h (cr_cons c0 (cr_cons c1 cr_nil))
theorem inBounds_w9 {i : Ins} {n : Int} (h : (!Ins.op i == 10 && (Ins.op i == 11 && (!regB (Ins.d i) && true))) = true) (c0 : CallOK Try.prog (CallRec.mk 91 [AV.c (AC.i (Ins.d i))] [] (Eff.mk (AV.c (AC.b (regB (Ins.d i)))) [] none))) :
    CallOK Try.prog ⟨55, [AV.ag (Ins.cs i), AV.c (AC.i n)], [], ⟨AV.c (AC.b false), [], none⟩⟩ :=
  val_run 2000 [Eff.mk (AV.c (AC.b (regB (Ins.d i)))) [] none] [false, true, false, false, false, false] [] [] Try.func55 rfl rfl rfl rfl (by kernel_rfl) h (cr_cons c0 cr_nil)
theorem inBounds_w10 {i : Ins} {n : Int} (h : (!Ins.op i == 10 && (!Ins.op i == 11 && (Ins.op i == 12 && true))) = true) (c0 : CallOK Try.prog (CallRec.mk 93 [AV.c (AC.i (Ins.of i)), AV.c (AC.i n)] [] (Eff.mk (AV.c (AC.b (goesB (Ins.of i) n))) [] none))) :
    CallOK Try.prog ⟨55, [AV.ag (Ins.cs i), AV.c (AC.i n)], [], ⟨AV.c (AC.b (goesB (Ins.of i) n)), [], none⟩⟩ :=
  val_run 2000 [Eff.mk (AV.c (AC.b (goesB (Ins.of i) n))) [] none] [false, false, true] [] [] Try.func55 rfl rfl rfl rfl (by kernel_rfl) h (cr_cons c0 cr_nil)
theorem inBounds_w11 {i : Ins} {n : Int} (h : (!Ins.op i == 10 && (!Ins.op i == 11 && (!Ins.op i == 12 && (Ins.op i == 13 && (Ins.op i == 13 && (regB (Ins.d i) && (srcB (Ins.s i) && true))))))) = true) (c0 : CallOK Try.prog (CallRec.mk 91 [AV.c (AC.i (Ins.d i))] [] (Eff.mk (AV.c (AC.b (regB (Ins.d i)))) [] none))) (c1 : CallOK Try.prog (CallRec.mk 94 [AV.c (AC.i (Ins.s i))] [] (Eff.mk (AV.c (AC.b (srcB (Ins.s i)))) [] none))) (c2 : CallOK Try.prog (CallRec.mk 93 [AV.c (AC.i (Ins.of i)), AV.c (AC.i n)] [] (Eff.mk (AV.c (AC.b (goesB (Ins.of i) n))) [] none))) :
    CallOK Try.prog ⟨55, [AV.ag (Ins.cs i), AV.c (AC.i n)], [], ⟨AV.c (AC.b (goesB (Ins.of i) n)), [], none⟩⟩ :=
  val_run 2000 [Eff.mk (AV.c (AC.b (regB (Ins.d i)))) [] none, Eff.mk (AV.c (AC.b (srcB (Ins.s i)))) [] none, Eff.mk (AV.c (AC.b (goesB (Ins.of i) n))) [] none] [false, false, false, true, true, true, true] [] [] Try.func55 rfl rfl rfl rfl (by kernel_rfl) h (cr_cons c0 (cr_cons c1 (cr_cons c2 cr_nil)))
theorem inBounds_w12 {i : Ins} {n : Int} (h : (!Ins.op i == 10 && (!Ins.op i == 11 && (!Ins.op i == 12 && (Ins.op i == 13 && (Ins.op i == 13 && (regB (Ins.d i) && (!srcB (Ins.s i) && true))))))) = true) (c0 : CallOK Try.prog (CallRec.mk 91 [AV.c (AC.i (Ins.d i))] [] (Eff.mk (AV.c (AC.b (regB (Ins.d i)))) [] none))) (c1 : CallOK Try.prog (CallRec.mk 94 [AV.c (AC.i (Ins.s i))] [] (Eff.mk (AV.c (AC.b (srcB (Ins.s i)))) [] none))) :
    CallOK Try.prog ⟨55, [AV.ag (Ins.cs i), AV.c (AC.i n)], [], ⟨AV.c (AC.b false), [], none⟩⟩ :=
  val_run 2000 [Eff.mk (AV.c (AC.b (regB (Ins.d i)))) [] none, Eff.mk (AV.c (AC.b (srcB (Ins.s i)))) [] none] [false, false, false, true, true, true, false] [] [] Try.func55 rfl rfl rfl rfl (by kernel_rfl) h (cr_cons c0 (cr_cons c1 cr_nil))
theorem inBounds_w13 {i : Ins} {n : Int} (h : (!Ins.op i == 10 && (!Ins.op i == 11 && (!Ins.op i == 12 && (Ins.op i == 13 && (Ins.op i == 13 && (!regB (Ins.d i) && true)))))) = true) (c0 : CallOK Try.prog (CallRec.mk 91 [AV.c (AC.i (Ins.d i))] [] (Eff.mk (AV.c (AC.b (regB (Ins.d i)))) [] none))) :
    CallOK Try.prog ⟨55, [AV.ag (Ins.cs i), AV.c (AC.i n)], [], ⟨AV.c (AC.b false), [], none⟩⟩ :=
  val_run 2000 [Eff.mk (AV.c (AC.b (regB (Ins.d i)))) [] none] [false, false, false, true, true, false, false] [] [] Try.func55 rfl rfl rfl rfl (by kernel_rfl) h (cr_cons c0 cr_nil)
theorem inBounds_w14 {i : Ins} {n : Int} (h : (!Ins.op i == 10 && (!Ins.op i == 11 && (!Ins.op i == 12 && (!Ins.op i == 13 && (Ins.op i == 14 && (regB (Ins.d i) && (srcB (Ins.s i) && true))))))) = true) (c0 : CallOK Try.prog (CallRec.mk 91 [AV.c (AC.i (Ins.d i))] [] (Eff.mk (AV.c (AC.b (regB (Ins.d i)))) [] none))) (c1 : CallOK Try.prog (CallRec.mk 94 [AV.c (AC.i (Ins.s i))] [] (Eff.mk (AV.c (AC.b (srcB (Ins.s i)))) [] none))) (c2 : CallOK Try.prog (CallRec.mk 93 [AV.c (AC.i (Ins.of i)), AV.c (AC.i n)] [] (Eff.mk (AV.c (AC.b (goesB (Ins.of i) n))) [] none))) :
    CallOK Try.prog ⟨55, [AV.ag (Ins.cs i), AV.c (AC.i n)], [], ⟨AV.c (AC.b (goesB (Ins.of i) n)), [], none⟩⟩ :=
  val_run 2000 [Eff.mk (AV.c (AC.b (regB (Ins.d i)))) [] none, Eff.mk (AV.c (AC.b (srcB (Ins.s i)))) [] none, Eff.mk (AV.c (AC.b (goesB (Ins.of i) n))) [] none] [false, false, false, false, true, true, true] [] [] Try.func55 rfl rfl rfl rfl (by kernel_rfl) h (cr_cons c0 (cr_cons c1 (cr_cons c2 cr_nil)))
theorem inBounds_w15 {i : Ins} {n : Int} (h : (!Ins.op i == 10 && (!Ins.op i == 11 && (!Ins.op i == 12 && (!Ins.op i == 13 && (Ins.op i == 14 && (regB (Ins.d i) && (!srcB (Ins.s i) && true))))))) = true) (c0 : CallOK Try.prog (CallRec.mk 91 [AV.c (AC.i (Ins.d i))] [] (Eff.mk (AV.c (AC.b (regB (Ins.d i)))) [] none))) (c1 : CallOK Try.prog (CallRec.mk 94 [AV.c (AC.i (Ins.s i))] [] (Eff.mk (AV.c (AC.b (srcB (Ins.s i)))) [] none))) :
    CallOK Try.prog ⟨55, [AV.ag (Ins.cs i), AV.c (AC.i n)], [], ⟨AV.c (AC.b false), [], none⟩⟩ :=
  val_run 2000 [Eff.mk (AV.c (AC.b (regB (Ins.d i)))) [] none, Eff.mk (AV.c (AC.b (srcB (Ins.s i)))) [] none] [false, false, false, false, true, true, false] [] [] Try.func55 rfl rfl rfl rfl (by kernel_rfl) h (cr_cons c0 (cr_cons c1 cr_nil))
theorem inBounds_w16 {i : Ins} {n : Int} (h : (!Ins.op i == 10 && (!Ins.op i == 11 && (!Ins.op i == 12 && (!Ins.op i == 13 && (Ins.op i == 14 && (!regB (Ins.d i) && true)))))) = true) (c0 : CallOK Try.prog (CallRec.mk 91 [AV.c (AC.i (Ins.d i))] [] (Eff.mk (AV.c (AC.b (regB (Ins.d i)))) [] none))) :
    CallOK Try.prog ⟨55, [AV.ag (Ins.cs i), AV.c (AC.i n)], [], ⟨AV.c (AC.b false), [], none⟩⟩ :=
  val_run 2000 [Eff.mk (AV.c (AC.b (regB (Ins.d i)))) [] none] [false, false, false, false, true, false, false] [] [] Try.func55 rfl rfl rfl rfl (by kernel_rfl) h (cr_cons c0 cr_nil)
theorem inBounds_w17 {i : Ins} {n : Int} (h : (!Ins.op i == 10 && (!Ins.op i == 11 && (!Ins.op i == 12 && (!Ins.op i == 13 && (!Ins.op i == 14 && (Ins.op i == 15 && true)))))) = true) :
    CallOK Try.prog ⟨55, [AV.ag (Ins.cs i), AV.c (AC.i n)], [], ⟨AV.c (AC.b true), [], none⟩⟩ :=
  val_run 2000 [] [false, false, false, false, false, true] [] [] Try.func55 rfl rfl rfl rfl (by kernel_rfl) h cr_nil
theorem inBounds_w18 {i : Ins} {n : Int} (h : (!Ins.op i == 10 && (!Ins.op i == 11 && (!Ins.op i == 12 && (!Ins.op i == 13 && (!Ins.op i == 14 && (!Ins.op i == 15 && (regB (Ins.d i) && true))))))) = true) (c0 : CallOK Try.prog (CallRec.mk 91 [AV.c (AC.i (Ins.d i))] [] (Eff.mk (AV.c (AC.b (regB (Ins.d i)))) [] none))) (c1 : CallOK Try.prog (CallRec.mk 94 [AV.c (AC.i (Ins.s i))] [] (Eff.mk (AV.c (AC.b (srcB (Ins.s i)))) [] none))) :
    CallOK Try.prog ⟨55, [AV.ag (Ins.cs i), AV.c (AC.i n)], [], ⟨AV.c (AC.b (srcB (Ins.s i))), [], none⟩⟩ :=
  val_run 2000 [Eff.mk (AV.c (AC.b (regB (Ins.d i)))) [] none, Eff.mk (AV.c (AC.b (srcB (Ins.s i)))) [] none] [false, false, false, false, false, false, true] [] [] Try.func55 rfl rfl rfl rfl (by kernel_rfl) h (cr_cons c0 (cr_cons c1 cr_nil))
theorem inBounds_w19 {i : Ins} {n : Int} (h : (!Ins.op i == 10 && (!Ins.op i == 11 && (!Ins.op i == 12 && (!Ins.op i == 13 && (!Ins.op i == 14 && (!Ins.op i == 15 && (!regB (Ins.d i) && true))))))) = true) (c0 : CallOK Try.prog (CallRec.mk 91 [AV.c (AC.i (Ins.d i))] [] (Eff.mk (AV.c (AC.b (regB (Ins.d i)))) [] none))) :
    CallOK Try.prog ⟨55, [AV.ag (Ins.cs i), AV.c (AC.i n)], [], ⟨AV.c (AC.b false), [], none⟩⟩ :=
  val_run 2000 [Eff.mk (AV.c (AC.b (regB (Ins.d i)))) [] none] [false, false, false, false, false, false, false] [] [] Try.func55 rfl rfl rfl rfl (by kernel_rfl) h (cr_cons c0 cr_nil)
theorem inBounds_all {i : Ins} {n : Int} {V : AV}
    (l0 : (Ins.op i == 10) = true → (regB (Ins.d i)) = true → (regB (Ins.s i)) = true → (sizeB (Ins.im i)) = true → (decide (-64 ≤ Ins.of i)) = true → (CallOK Try.prog (CallRec.mk 91 [AV.c (AC.i (Ins.d i))] [] (Eff.mk (AV.c (AC.b (regB (Ins.d i)))) [] none))) ∧ (CallOK Try.prog (CallRec.mk 91 [AV.c (AC.i (Ins.s i))] [] (Eff.mk (AV.c (AC.b (regB (Ins.s i)))) [] none))) ∧ (CallOK Try.prog (CallRec.mk 92 [AV.c (AC.u (Ins.im i))] [] (Eff.mk (AV.c (AC.b (sizeB (Ins.im i)))) [] none))) ∧ (AV.c (AC.b (decide (Ins.of i ≤ 64))) = V))
    (l1 : (Ins.op i == 10) = true → (regB (Ins.d i)) = true → (regB (Ins.s i)) = true → (sizeB (Ins.im i)) = true → (decide (-64 ≤ Ins.of i)) = false → (CallOK Try.prog (CallRec.mk 91 [AV.c (AC.i (Ins.d i))] [] (Eff.mk (AV.c (AC.b (regB (Ins.d i)))) [] none))) ∧ (CallOK Try.prog (CallRec.mk 91 [AV.c (AC.i (Ins.s i))] [] (Eff.mk (AV.c (AC.b (regB (Ins.s i)))) [] none))) ∧ (CallOK Try.prog (CallRec.mk 92 [AV.c (AC.u (Ins.im i))] [] (Eff.mk (AV.c (AC.b (sizeB (Ins.im i)))) [] none))) ∧ (AV.c (AC.b false) = V))
    (l2 : (Ins.op i == 10) = true → (regB (Ins.d i)) = true → (regB (Ins.s i)) = true → (sizeB (Ins.im i)) = false → (CallOK Try.prog (CallRec.mk 91 [AV.c (AC.i (Ins.d i))] [] (Eff.mk (AV.c (AC.b (regB (Ins.d i)))) [] none))) ∧ (CallOK Try.prog (CallRec.mk 91 [AV.c (AC.i (Ins.s i))] [] (Eff.mk (AV.c (AC.b (regB (Ins.s i)))) [] none))) ∧ (CallOK Try.prog (CallRec.mk 92 [AV.c (AC.u (Ins.im i))] [] (Eff.mk (AV.c (AC.b (sizeB (Ins.im i)))) [] none))) ∧ (AV.c (AC.b false) = V))
    (l3 : (Ins.op i == 10) = true → (regB (Ins.d i)) = true → (regB (Ins.s i)) = false → (CallOK Try.prog (CallRec.mk 91 [AV.c (AC.i (Ins.d i))] [] (Eff.mk (AV.c (AC.b (regB (Ins.d i)))) [] none))) ∧ (CallOK Try.prog (CallRec.mk 91 [AV.c (AC.i (Ins.s i))] [] (Eff.mk (AV.c (AC.b (regB (Ins.s i)))) [] none))) ∧ (AV.c (AC.b false) = V))
    (l4 : (Ins.op i == 10) = true → (regB (Ins.d i)) = false → (CallOK Try.prog (CallRec.mk 91 [AV.c (AC.i (Ins.d i))] [] (Eff.mk (AV.c (AC.b (regB (Ins.d i)))) [] none))) ∧ (AV.c (AC.b false) = V))
    (l5 : (Ins.op i == 10) = false → (Ins.op i == 11) = true → (regB (Ins.d i)) = true → (regB (Ins.s i)) = true → (sizeB (Ins.im i)) = true → (decide (-64 ≤ Ins.of i)) = true → (CallOK Try.prog (CallRec.mk 91 [AV.c (AC.i (Ins.d i))] [] (Eff.mk (AV.c (AC.b (regB (Ins.d i)))) [] none))) ∧ (CallOK Try.prog (CallRec.mk 91 [AV.c (AC.i (Ins.s i))] [] (Eff.mk (AV.c (AC.b (regB (Ins.s i)))) [] none))) ∧ (CallOK Try.prog (CallRec.mk 92 [AV.c (AC.u (Ins.im i))] [] (Eff.mk (AV.c (AC.b (sizeB (Ins.im i)))) [] none))) ∧ (AV.c (AC.b (decide (Ins.of i ≤ 64))) = V))
    (l6 : (Ins.op i == 10) = false → (Ins.op i == 11) = true → (regB (Ins.d i)) = true → (regB (Ins.s i)) = true → (sizeB (Ins.im i)) = true → (decide (-64 ≤ Ins.of i)) = false → (CallOK Try.prog (CallRec.mk 91 [AV.c (AC.i (Ins.d i))] [] (Eff.mk (AV.c (AC.b (regB (Ins.d i)))) [] none))) ∧ (CallOK Try.prog (CallRec.mk 91 [AV.c (AC.i (Ins.s i))] [] (Eff.mk (AV.c (AC.b (regB (Ins.s i)))) [] none))) ∧ (CallOK Try.prog (CallRec.mk 92 [AV.c (AC.u (Ins.im i))] [] (Eff.mk (AV.c (AC.b (sizeB (Ins.im i)))) [] none))) ∧ (AV.c (AC.b false) = V))
    (l7 : (Ins.op i == 10) = false → (Ins.op i == 11) = true → (regB (Ins.d i)) = true → (regB (Ins.s i)) = true → (sizeB (Ins.im i)) = false → (CallOK Try.prog (CallRec.mk 91 [AV.c (AC.i (Ins.d i))] [] (Eff.mk (AV.c (AC.b (regB (Ins.d i)))) [] none))) ∧ (CallOK Try.prog (CallRec.mk 91 [AV.c (AC.i (Ins.s i))] [] (Eff.mk (AV.c (AC.b (regB (Ins.s i)))) [] none))) ∧ (CallOK Try.prog (CallRec.mk 92 [AV.c (AC.u (Ins.im i))] [] (Eff.mk (AV.c (AC.b (sizeB (Ins.im i)))) [] none))) ∧ (AV.c (AC.b false) = V))
    (l8 : (Ins.op i == 10) = false → (Ins.op i == 11) = true → (regB (Ins.d i)) = true → (regB (Ins.s i)) = false → (CallOK Try.prog (CallRec.mk 91 [AV.c (AC.i (Ins.d i))] [] (Eff.mk (AV.c (AC.b (regB (Ins.d i)))) [] none))) ∧ (CallOK Try.prog (CallRec.mk 91 [AV.c (AC.i (Ins.s i))] [] (Eff.mk (AV.c (AC.b (regB (Ins.s i)))) [] none))) ∧ (AV.c (AC.b false) = V))
    (l9 : (Ins.op i == 10) = false → (Ins.op i == 11) = true → (regB (Ins.d i)) = false → (CallOK Try.prog (CallRec.mk 91 [AV.c (AC.i (Ins.d i))] [] (Eff.mk (AV.c (AC.b (regB (Ins.d i)))) [] none))) ∧ (AV.c (AC.b false) = V))
    (l10 : (Ins.op i == 10) = false → (Ins.op i == 11) = false → (Ins.op i == 12) = true → (CallOK Try.prog (CallRec.mk 93 [AV.c (AC.i (Ins.of i)), AV.c (AC.i n)] [] (Eff.mk (AV.c (AC.b (goesB (Ins.of i) n))) [] none))) ∧ (AV.c (AC.b (goesB (Ins.of i) n)) = V))
    (l11 : (Ins.op i == 10) = false → (Ins.op i == 11) = false → (Ins.op i == 12) = false → (Ins.op i == 13) = true → (regB (Ins.d i)) = true → (srcB (Ins.s i)) = true → (CallOK Try.prog (CallRec.mk 91 [AV.c (AC.i (Ins.d i))] [] (Eff.mk (AV.c (AC.b (regB (Ins.d i)))) [] none))) ∧ (CallOK Try.prog (CallRec.mk 94 [AV.c (AC.i (Ins.s i))] [] (Eff.mk (AV.c (AC.b (srcB (Ins.s i)))) [] none))) ∧ (CallOK Try.prog (CallRec.mk 93 [AV.c (AC.i (Ins.of i)), AV.c (AC.i n)] [] (Eff.mk (AV.c (AC.b (goesB (Ins.of i) n))) [] none))) ∧ (AV.c (AC.b (goesB (Ins.of i) n)) = V))
    (l12 : (Ins.op i == 10) = false → (Ins.op i == 11) = false → (Ins.op i == 12) = false → (Ins.op i == 13) = true → (regB (Ins.d i)) = true → (srcB (Ins.s i)) = false → (CallOK Try.prog (CallRec.mk 91 [AV.c (AC.i (Ins.d i))] [] (Eff.mk (AV.c (AC.b (regB (Ins.d i)))) [] none))) ∧ (CallOK Try.prog (CallRec.mk 94 [AV.c (AC.i (Ins.s i))] [] (Eff.mk (AV.c (AC.b (srcB (Ins.s i)))) [] none))) ∧ (AV.c (AC.b false) = V))
    (l13 : (Ins.op i == 10) = false → (Ins.op i == 11) = false → (Ins.op i == 12) = false → (Ins.op i == 13) = true → (regB (Ins.d i)) = false → (CallOK Try.prog (CallRec.mk 91 [AV.c (AC.i (Ins.d i))] [] (Eff.mk (AV.c (AC.b (regB (Ins.d i)))) [] none))) ∧ (AV.c (AC.b false) = V))
    (l14 : (Ins.op i == 10) = false → (Ins.op i == 11) = false → (Ins.op i == 12) = false → (Ins.op i == 13) = false → (Ins.op i == 14) = true → (regB (Ins.d i)) = true → (srcB (Ins.s i)) = true → (CallOK Try.prog (CallRec.mk 91 [AV.c (AC.i (Ins.d i))] [] (Eff.mk (AV.c (AC.b (regB (Ins.d i)))) [] none))) ∧ (CallOK Try.prog (CallRec.mk 94 [AV.c (AC.i (Ins.s i))] [] (Eff.mk (AV.c (AC.b (srcB (Ins.s i)))) [] none))) ∧ (CallOK Try.prog (CallRec.mk 93 [AV.c (AC.i (Ins.of i)), AV.c (AC.i n)] [] (Eff.mk (AV.c (AC.b (goesB (Ins.of i) n))) [] none))) ∧ (AV.c (AC.b (goesB (Ins.of i) n)) = V))
    (l15 : (Ins.op i == 10) = false → (Ins.op i == 11) = false → (Ins.op i == 12) = false → (Ins.op i == 13) = false → (Ins.op i == 14) = true → (regB (Ins.d i)) = true → (srcB (Ins.s i)) = false → (CallOK Try.prog (CallRec.mk 91 [AV.c (AC.i (Ins.d i))] [] (Eff.mk (AV.c (AC.b (regB (Ins.d i)))) [] none))) ∧ (CallOK Try.prog (CallRec.mk 94 [AV.c (AC.i (Ins.s i))] [] (Eff.mk (AV.c (AC.b (srcB (Ins.s i)))) [] none))) ∧ (AV.c (AC.b false) = V))
    (l16 : (Ins.op i == 10) = false → (Ins.op i == 11) = false → (Ins.op i == 12) = false → (Ins.op i == 13) = false → (Ins.op i == 14) = true → (regB (Ins.d i)) = false → (CallOK Try.prog (CallRec.mk 91 [AV.c (AC.i (Ins.d i))] [] (Eff.mk (AV.c (AC.b (regB (Ins.d i)))) [] none))) ∧ (AV.c (AC.b false) = V))
    (l17 : (Ins.op i == 10) = false → (Ins.op i == 11) = false → (Ins.op i == 12) = false → (Ins.op i == 13) = false → (Ins.op i == 14) = false → (Ins.op i == 15) = true → (AV.c (AC.b true) = V))
    (l18 : (Ins.op i == 10) = false → (Ins.op i == 11) = false → (Ins.op i == 12) = false → (Ins.op i == 13) = false → (Ins.op i == 14) = false → (Ins.op i == 15) = false → (regB (Ins.d i)) = true → (CallOK Try.prog (CallRec.mk 91 [AV.c (AC.i (Ins.d i))] [] (Eff.mk (AV.c (AC.b (regB (Ins.d i)))) [] none))) ∧ (CallOK Try.prog (CallRec.mk 94 [AV.c (AC.i (Ins.s i))] [] (Eff.mk (AV.c (AC.b (srcB (Ins.s i)))) [] none))) ∧ (AV.c (AC.b (srcB (Ins.s i))) = V))
    (l19 : (Ins.op i == 10) = false → (Ins.op i == 11) = false → (Ins.op i == 12) = false → (Ins.op i == 13) = false → (Ins.op i == 14) = false → (Ins.op i == 15) = false → (regB (Ins.d i)) = false → (CallOK Try.prog (CallRec.mk 91 [AV.c (AC.i (Ins.d i))] [] (Eff.mk (AV.c (AC.b (regB (Ins.d i)))) [] none))) ∧ (AV.c (AC.b false) = V)) :
    CallOK Try.prog ⟨55, [AV.ag (Ins.cs i), AV.c (AC.i n)], [], ⟨V, [], none⟩⟩ :=
  (tf (Ins.op i == 10)).elim (fun h0 => (tf (regB (Ins.d i))).elim (fun h1 => (tf (regB (Ins.s i))).elim (fun h2 => (tf (sizeB (Ins.im i))).elim (fun h3 => (tf (decide (-64 ≤ Ins.of i))).elim (fun h4 => (match l0 h0 h1 h2 h3 h4 with | ⟨c0, c1, c2, e⟩ => ok_eq (inBounds_w0 (and_yes h0 (and_yes h0 (and_yes h1 (and_yes h2 (and_yes h3 (and_yes h4 rfl)))))) c0 c1 c2) e)) (fun h4 => (match l1 h0 h1 h2 h3 h4 with | ⟨c0, c1, c2, e⟩ => ok_eq (inBounds_w1 (and_yes h0 (and_yes h0 (and_yes h1 (and_yes h2 (and_yes h3 (and_yes (not_yes h4) rfl)))))) c0 c1 c2) e))) (fun h3 => (match l2 h0 h1 h2 h3 with | ⟨c0, c1, c2, e⟩ => ok_eq (inBounds_w2 (and_yes h0 (and_yes h0 (and_yes h1 (and_yes h2 (and_yes (not_yes h3) rfl))))) c0 c1 c2) e))) (fun h2 => (match l3 h0 h1 h2 with | ⟨c0, c1, e⟩ => ok_eq (inBounds_w3 (and_yes h0 (and_yes h0 (and_yes h1 (and_yes (not_yes h2) rfl)))) c0 c1) e))) (fun h1 => (match l4 h0 h1 with | ⟨c0, e⟩ => ok_eq (inBounds_w4 (and_yes h0 (and_yes h0 (and_yes (not_yes h1) rfl))) c0) e))) (fun h0 => (tf (Ins.op i == 11)).elim (fun h1 => (tf (regB (Ins.d i))).elim (fun h2 => (tf (regB (Ins.s i))).elim (fun h3 => (tf (sizeB (Ins.im i))).elim (fun h4 => (tf (decide (-64 ≤ Ins.of i))).elim (fun h5 => (match l5 h0 h1 h2 h3 h4 h5 with | ⟨c0, c1, c2, e⟩ => ok_eq (inBounds_w5 (and_yes (not_yes h0) (and_yes h1 (and_yes h2 (and_yes h3 (and_yes h4 (and_yes h5 rfl)))))) c0 c1 c2) e)) (fun h5 => (match l6 h0 h1 h2 h3 h4 h5 with | ⟨c0, c1, c2, e⟩ => ok_eq (inBounds_w6 (and_yes (not_yes h0) (and_yes h1 (and_yes h2 (and_yes h3 (and_yes h4 (and_yes (not_yes h5) rfl)))))) c0 c1 c2) e))) (fun h4 => (match l7 h0 h1 h2 h3 h4 with | ⟨c0, c1, c2, e⟩ => ok_eq (inBounds_w7 (and_yes (not_yes h0) (and_yes h1 (and_yes h2 (and_yes h3 (and_yes (not_yes h4) rfl))))) c0 c1 c2) e))) (fun h3 => (match l8 h0 h1 h2 h3 with | ⟨c0, c1, e⟩ => ok_eq (inBounds_w8 (and_yes (not_yes h0) (and_yes h1 (and_yes h2 (and_yes (not_yes h3) rfl)))) c0 c1) e))) (fun h2 => (match l9 h0 h1 h2 with | ⟨c0, e⟩ => ok_eq (inBounds_w9 (and_yes (not_yes h0) (and_yes h1 (and_yes (not_yes h2) rfl))) c0) e))) (fun h1 => (tf (Ins.op i == 12)).elim (fun h2 => (match l10 h0 h1 h2 with | ⟨c0, e⟩ => ok_eq (inBounds_w10 (and_yes (not_yes h0) (and_yes (not_yes h1) (and_yes h2 rfl))) c0) e)) (fun h2 => (tf (Ins.op i == 13)).elim (fun h3 => (tf (regB (Ins.d i))).elim (fun h4 => (tf (srcB (Ins.s i))).elim (fun h5 => (match l11 h0 h1 h2 h3 h4 h5 with | ⟨c0, c1, c2, e⟩ => ok_eq (inBounds_w11 (and_yes (not_yes h0) (and_yes (not_yes h1) (and_yes (not_yes h2) (and_yes h3 (and_yes h3 (and_yes h4 (and_yes h5 rfl))))))) c0 c1 c2) e)) (fun h5 => (match l12 h0 h1 h2 h3 h4 h5 with | ⟨c0, c1, e⟩ => ok_eq (inBounds_w12 (and_yes (not_yes h0) (and_yes (not_yes h1) (and_yes (not_yes h2) (and_yes h3 (and_yes h3 (and_yes h4 (and_yes (not_yes h5) rfl))))))) c0 c1) e))) (fun h4 => (match l13 h0 h1 h2 h3 h4 with | ⟨c0, e⟩ => ok_eq (inBounds_w13 (and_yes (not_yes h0) (and_yes (not_yes h1) (and_yes (not_yes h2) (and_yes h3 (and_yes h3 (and_yes (not_yes h4) rfl)))))) c0) e))) (fun h3 => (tf (Ins.op i == 14)).elim (fun h4 => (tf (regB (Ins.d i))).elim (fun h5 => (tf (srcB (Ins.s i))).elim (fun h6 => (match l14 h0 h1 h2 h3 h4 h5 h6 with | ⟨c0, c1, c2, e⟩ => ok_eq (inBounds_w14 (and_yes (not_yes h0) (and_yes (not_yes h1) (and_yes (not_yes h2) (and_yes (not_yes h3) (and_yes h4 (and_yes h5 (and_yes h6 rfl))))))) c0 c1 c2) e)) (fun h6 => (match l15 h0 h1 h2 h3 h4 h5 h6 with | ⟨c0, c1, e⟩ => ok_eq (inBounds_w15 (and_yes (not_yes h0) (and_yes (not_yes h1) (and_yes (not_yes h2) (and_yes (not_yes h3) (and_yes h4 (and_yes h5 (and_yes (not_yes h6) rfl))))))) c0 c1) e))) (fun h5 => (match l16 h0 h1 h2 h3 h4 h5 with | ⟨c0, e⟩ => ok_eq (inBounds_w16 (and_yes (not_yes h0) (and_yes (not_yes h1) (and_yes (not_yes h2) (and_yes (not_yes h3) (and_yes h4 (and_yes (not_yes h5) rfl)))))) c0) e))) (fun h4 => (tf (Ins.op i == 15)).elim (fun h5 => (match l17 h0 h1 h2 h3 h4 h5 with | e => ok_eq (inBounds_w17 (and_yes (not_yes h0) (and_yes (not_yes h1) (and_yes (not_yes h2) (and_yes (not_yes h3) (and_yes (not_yes h4) (and_yes h5 rfl))))))) e)) (fun h5 => (tf (regB (Ins.d i))).elim (fun h6 => (match l18 h0 h1 h2 h3 h4 h5 h6 with | ⟨c0, c1, e⟩ => ok_eq (inBounds_w18 (and_yes (not_yes h0) (and_yes (not_yes h1) (and_yes (not_yes h2) (and_yes (not_yes h3) (and_yes (not_yes h4) (and_yes (not_yes h5) (and_yes h6 rfl))))))) c0 c1) e)) (fun h6 => (match l19 h0 h1 h2 h3 h4 h5 h6 with | ⟨c0, e⟩ => ok_eq (inBounds_w19 (and_yes (not_yes h0) (and_yes (not_yes h1) (and_yes (not_yes h2) (and_yes (not_yes h3) (and_yes (not_yes h4) (and_yes (not_yes h5) (and_yes (not_yes h6) rfl))))))) c0) e))))))))
theorem bare_w0 {i : Ins} (h : (Ins.op i == 10 && (Ins.op i == 10 && true)) = true) :
    CallOK Try.prog ⟨56, [AV.ag (Ins.cs i)], [], ⟨AV.c (AC.b true), [], none⟩⟩ :=
  val_run 2000 [] [true, true] [] [] Try.func56 rfl rfl rfl rfl (by kernel_rfl) h cr_nil
theorem bare_w1 {i : Ins} (h : (!Ins.op i == 10 && (Ins.op i == 11 && true)) = true) :
    CallOK Try.prog ⟨56, [AV.ag (Ins.cs i)], [], ⟨AV.c (AC.b true), [], none⟩⟩ :=
  val_run 2000 [] [false, true] [] [] Try.func56 rfl rfl rfl rfl (by kernel_rfl) h cr_nil
theorem bare_w2 {i : Ins} (h : (!Ins.op i == 10 && (!Ins.op i == 11 && (Ins.op i == 12 && true))) = true) :
    CallOK Try.prog ⟨56, [AV.ag (Ins.cs i)], [], ⟨AV.c (AC.b (eqCs (Ins.cs i) (splice (splice [AC.i 0, AC.i 0, AC.i 0, AC.u 0#64, AC.i 0] 0 [AC.i 12]) 4 [AC.i (Ins.of i)]))), [], none⟩⟩ :=
  val_run 2000 [] [false, false, true] [] [] Try.func56 rfl rfl rfl rfl (by kernel_rfl) h cr_nil
theorem bare_w3 {i : Ins} (h : (!Ins.op i == 10 && (!Ins.op i == 11 && (!Ins.op i == 12 && (Ins.op i == 13 && (Ins.op i == 13 && (Ins.s i == -1 && true)))))) = true) :
    CallOK Try.prog ⟨56, [AV.ag (Ins.cs i)], [], ⟨AV.c (AC.b true), [], none⟩⟩ :=
  val_run 2000 [] [false, false, false, true, true, true] [] [] Try.func56 rfl rfl rfl rfl (by kernel_rfl) h cr_nil
theorem bare_w4 {i : Ins} (h : (!Ins.op i == 10 && (!Ins.op i == 11 && (!Ins.op i == 12 && (Ins.op i == 13 && (Ins.op i == 13 && (!Ins.s i == -1 && true)))))) = true) :
    CallOK Try.prog ⟨56, [AV.ag (Ins.cs i)], [], ⟨AV.c (AC.b (eqb (Ins.im i) 0#64)), [], none⟩⟩ :=
  val_run 2000 [] [false, false, false, true, true, false] [] [] Try.func56 rfl rfl rfl rfl (by kernel_rfl) h cr_nil
theorem bare_w5 {i : Ins} (h : (!Ins.op i == 10 && (!Ins.op i == 11 && (!Ins.op i == 12 && (!Ins.op i == 13 && (Ins.op i == 14 && (Ins.s i == -1 && true)))))) = true) :
    CallOK Try.prog ⟨56, [AV.ag (Ins.cs i)], [], ⟨AV.c (AC.b true), [], none⟩⟩ :=
  val_run 2000 [] [false, false, false, false, true, true] [] [] Try.func56 rfl rfl rfl rfl (by kernel_rfl) h cr_nil
theorem bare_w6 {i : Ins} (h : (!Ins.op i == 10 && (!Ins.op i == 11 && (!Ins.op i == 12 && (!Ins.op i == 13 && (Ins.op i == 14 && (!Ins.s i == -1 && true)))))) = true) :
    CallOK Try.prog ⟨56, [AV.ag (Ins.cs i)], [], ⟨AV.c (AC.b (eqb (Ins.im i) 0#64)), [], none⟩⟩ :=
  val_run 2000 [] [false, false, false, false, true, false] [] [] Try.func56 rfl rfl rfl rfl (by kernel_rfl) h cr_nil
theorem bare_w7 {i : Ins} (h : (!Ins.op i == 10 && (!Ins.op i == 11 && (!Ins.op i == 12 && (!Ins.op i == 13 && (!Ins.op i == 14 && (Ins.op i == 15 && true)))))) = true) :
    CallOK Try.prog ⟨56, [AV.ag (Ins.cs i)], [], ⟨AV.c (AC.b (eqCs (Ins.cs i) (splice [AC.i 0, AC.i 0, AC.i 0, AC.u 0#64, AC.i 0] 0 [AC.i 15]))), [], none⟩⟩ :=
  val_run 2000 [] [false, false, false, false, false, true] [] [] Try.func56 rfl rfl rfl rfl (by kernel_rfl) h cr_nil
theorem bare_w8 {i : Ins} (h : (!Ins.op i == 10 && (!Ins.op i == 11 && (!Ins.op i == 12 && (!Ins.op i == 13 && (!Ins.op i == 14 && (!Ins.op i == 15 && (Ins.of i == 0 && (Ins.s i == -1 && true)))))))) = true) :
    CallOK Try.prog ⟨56, [AV.ag (Ins.cs i)], [], ⟨AV.c (AC.b true), [], none⟩⟩ :=
  val_run 2000 [] [false, false, false, false, false, false, true, true] [] [] Try.func56 rfl rfl rfl rfl (by kernel_rfl) h cr_nil
theorem bare_w9 {i : Ins} (h : (!Ins.op i == 10 && (!Ins.op i == 11 && (!Ins.op i == 12 && (!Ins.op i == 13 && (!Ins.op i == 14 && (!Ins.op i == 15 && (Ins.of i == 0 && (!Ins.s i == -1 && true)))))))) = true) :
    CallOK Try.prog ⟨56, [AV.ag (Ins.cs i)], [], ⟨AV.c (AC.b (eqb (Ins.im i) 0#64)), [], none⟩⟩ :=
  val_run 2000 [] [false, false, false, false, false, false, true, false] [] [] Try.func56 rfl rfl rfl rfl (by kernel_rfl) h cr_nil
theorem bare_w10 {i : Ins} (h : (!Ins.op i == 10 && (!Ins.op i == 11 && (!Ins.op i == 12 && (!Ins.op i == 13 && (!Ins.op i == 14 && (!Ins.op i == 15 && (!Ins.of i == 0 && true))))))) = true) :
    CallOK Try.prog ⟨56, [AV.ag (Ins.cs i)], [], ⟨AV.c (AC.b false), [], none⟩⟩ :=
  val_run 2000 [] [false, false, false, false, false, false, false] [] [] Try.func56 rfl rfl rfl rfl (by kernel_rfl) h cr_nil
theorem bare_all {i : Ins} {V : AV}
    (l0 : (Ins.op i == 10) = true → (AV.c (AC.b true) = V))
    (l1 : (Ins.op i == 10) = false → (Ins.op i == 11) = true → (AV.c (AC.b true) = V))
    (l2 : (Ins.op i == 10) = false → (Ins.op i == 11) = false → (Ins.op i == 12) = true → (AV.c (AC.b (eqCs (Ins.cs i) (splice (splice [AC.i 0, AC.i 0, AC.i 0, AC.u 0#64, AC.i 0] 0 [AC.i 12]) 4 [AC.i (Ins.of i)]))) = V))
    (l3 : (Ins.op i == 10) = false → (Ins.op i == 11) = false → (Ins.op i == 12) = false → (Ins.op i == 13) = true → (Ins.s i == -1) = true → (AV.c (AC.b true) = V))
    (l4 : (Ins.op i == 10) = false → (Ins.op i == 11) = false → (Ins.op i == 12) = false → (Ins.op i == 13) = true → (Ins.s i == -1) = false → (AV.c (AC.b (eqb (Ins.im i) 0#64)) = V))
    (l5 : (Ins.op i == 10) = false → (Ins.op i == 11) = false → (Ins.op i == 12) = false → (Ins.op i == 13) = false → (Ins.op i == 14) = true → (Ins.s i == -1) = true → (AV.c (AC.b true) = V))
    (l6 : (Ins.op i == 10) = false → (Ins.op i == 11) = false → (Ins.op i == 12) = false → (Ins.op i == 13) = false → (Ins.op i == 14) = true → (Ins.s i == -1) = false → (AV.c (AC.b (eqb (Ins.im i) 0#64)) = V))
    (l7 : (Ins.op i == 10) = false → (Ins.op i == 11) = false → (Ins.op i == 12) = false → (Ins.op i == 13) = false → (Ins.op i == 14) = false → (Ins.op i == 15) = true → (AV.c (AC.b (eqCs (Ins.cs i) (splice [AC.i 0, AC.i 0, AC.i 0, AC.u 0#64, AC.i 0] 0 [AC.i 15]))) = V))
    (l8 : (Ins.op i == 10) = false → (Ins.op i == 11) = false → (Ins.op i == 12) = false → (Ins.op i == 13) = false → (Ins.op i == 14) = false → (Ins.op i == 15) = false → (Ins.of i == 0) = true → (Ins.s i == -1) = true → (AV.c (AC.b true) = V))
    (l9 : (Ins.op i == 10) = false → (Ins.op i == 11) = false → (Ins.op i == 12) = false → (Ins.op i == 13) = false → (Ins.op i == 14) = false → (Ins.op i == 15) = false → (Ins.of i == 0) = true → (Ins.s i == -1) = false → (AV.c (AC.b (eqb (Ins.im i) 0#64)) = V))
    (l10 : (Ins.op i == 10) = false → (Ins.op i == 11) = false → (Ins.op i == 12) = false → (Ins.op i == 13) = false → (Ins.op i == 14) = false → (Ins.op i == 15) = false → (Ins.of i == 0) = false → (AV.c (AC.b false) = V)) :
    CallOK Try.prog ⟨56, [AV.ag (Ins.cs i)], [], ⟨V, [], none⟩⟩ :=
  (tf (Ins.op i == 10)).elim (fun h0 => (match l0 h0 with | e => ok_eq (bare_w0 (and_yes h0 (and_yes h0 rfl))) e)) (fun h0 => (tf (Ins.op i == 11)).elim (fun h1 => (match l1 h0 h1 with | e => ok_eq (bare_w1 (and_yes (not_yes h0) (and_yes h1 rfl))) e)) (fun h1 => (tf (Ins.op i == 12)).elim (fun h2 => (match l2 h0 h1 h2 with | e => ok_eq (bare_w2 (and_yes (not_yes h0) (and_yes (not_yes h1) (and_yes h2 rfl)))) e)) (fun h2 => (tf (Ins.op i == 13)).elim (fun h3 => (tf (Ins.s i == -1)).elim (fun h4 => (match l3 h0 h1 h2 h3 h4 with | e => ok_eq (bare_w3 (and_yes (not_yes h0) (and_yes (not_yes h1) (and_yes (not_yes h2) (and_yes h3 (and_yes h3 (and_yes h4 rfl))))))) e)) (fun h4 => (match l4 h0 h1 h2 h3 h4 with | e => ok_eq (bare_w4 (and_yes (not_yes h0) (and_yes (not_yes h1) (and_yes (not_yes h2) (and_yes h3 (and_yes h3 (and_yes (not_yes h4) rfl))))))) e))) (fun h3 => (tf (Ins.op i == 14)).elim (fun h4 => (tf (Ins.s i == -1)).elim (fun h5 => (match l5 h0 h1 h2 h3 h4 h5 with | e => ok_eq (bare_w5 (and_yes (not_yes h0) (and_yes (not_yes h1) (and_yes (not_yes h2) (and_yes (not_yes h3) (and_yes h4 (and_yes h5 rfl))))))) e)) (fun h5 => (match l6 h0 h1 h2 h3 h4 h5 with | e => ok_eq (bare_w6 (and_yes (not_yes h0) (and_yes (not_yes h1) (and_yes (not_yes h2) (and_yes (not_yes h3) (and_yes h4 (and_yes (not_yes h5) rfl))))))) e))) (fun h4 => (tf (Ins.op i == 15)).elim (fun h5 => (match l7 h0 h1 h2 h3 h4 h5 with | e => ok_eq (bare_w7 (and_yes (not_yes h0) (and_yes (not_yes h1) (and_yes (not_yes h2) (and_yes (not_yes h3) (and_yes (not_yes h4) (and_yes h5 rfl))))))) e)) (fun h5 => (tf (Ins.of i == 0)).elim (fun h6 => (tf (Ins.s i == -1)).elim (fun h7 => (match l8 h0 h1 h2 h3 h4 h5 h6 h7 with | e => ok_eq (bare_w8 (and_yes (not_yes h0) (and_yes (not_yes h1) (and_yes (not_yes h2) (and_yes (not_yes h3) (and_yes (not_yes h4) (and_yes (not_yes h5) (and_yes h6 (and_yes h7 rfl))))))))) e)) (fun h7 => (match l9 h0 h1 h2 h3 h4 h5 h6 h7 with | e => ok_eq (bare_w9 (and_yes (not_yes h0) (and_yes (not_yes h1) (and_yes (not_yes h2) (and_yes (not_yes h3) (and_yes (not_yes h4) (and_yes (not_yes h5) (and_yes h6 (and_yes (not_yes h7) rfl))))))))) e))) (fun h6 => (match l10 h0 h1 h2 h3 h4 h5 h6 with | e => ok_eq (bare_w10 (and_yes (not_yes h0) (and_yes (not_yes h1) (and_yes (not_yes h2) (and_yes (not_yes h3) (and_yes (not_yes h4) (and_yes (not_yes h5) (and_yes (not_yes h6) rfl)))))))) e))))))))
end Go.Proofs.Ytkigmocchaikgab

/- The contracts of code's small functions. -/
namespace Go.Proofs.Ytkigmocchaikgab
open Go.RowKit

theorem isReg_ok (d : Int) : Ok 91 [.c (.i d)] (.c (.b (regB d))) := by
  refine isReg_all ?_ ?_ <;> (intro h; rw [regB, h]; rfl)
theorem isSource_ok (d : Int) : Ok 94 [.c (.i d)] (.c (.b (srcB d))) := by
  refine isSource_all ?_ ?_
  · intro h; simp_all [srcB]
  · intro h; refine ⟨isReg_ok _, ?_⟩; simp_all [srcB]
theorem isSize_ok (d : BitVec 64) : Ok 92 [.c (.u d)] (.c (.b (sizeB d))) := by
  refine isSize_all ?_ ?_ ?_ ?_ <;> (intros; simp_all [sizeB])
theorem goesOn_ok (d n : Int) : Ok 93 [.c (.i d), .c (.i n)] (.c (.b (goesB d n))) := by
  refine goesOn_all ?_ ?_ <;> (intro h; rw [goesB, h]; rfl)
theorem inBounds_ok (i : Ins) (n : Int) : Ok 55 [.ag i.cs, .c (.i n)] (.c (.b (inB i n))) := by
  apply inBounds_all
  all_goals intros
  all_goals repeat' apply And.intro
  all_goals first
    | exact isReg_ok _
    | exact isSource_ok _
    | exact isSize_ok _
    | exact goesOn_ok _ _
    | (simp_all [inB]; try omega)
theorem bare_ok (i : Ins) : Ok 56 [.ag i.cs] (.c (.b (bareB i))) := by
  apply bare_all
  all_goals intros
  all_goals (simp_all [bareB, eqCs, eqC, splice, Ins.cs, Bool.and_assoc]; try rfl)
end Go.Proofs.Ytkigmocchaikgab

/- The contracts of run's small functions and of use.Of. -/
namespace Go.Proofs.Ytkigmocchaikgab
open Go.RowKit

theorem wrapN {n : Int} (h0 : -1099511627776 ≤ n) (h1 : n ≤ 1099511627776) : IntKind.i64.wrap n = n := by
  rw [IntKind.wrap_i64]; omega
theorem ended_ok (m : Mach) (e : Int) : Ok 58 [.ag m.cs, .c (.i e)] (.ag (m.fine e).cs) := ended_w0
theorem onward_ok {m : Mach} {o : Int} (h : 0 ≤ m.t ∧ m.t ≤ 64) (ho : 0 ≤ o ∧ o ≤ 64) : Ok 60 [.ag m.cs, .c (.i o)] (.ag (m.on o).cs) := by
  have e : IntKind.wrap IntKind.i64 (m.t + IntKind.wrap IntKind.i64 (1 + o)) = m.t + 1 + o := by
    rw [wrapN (n := 1 + o) (by omega) (by omega), wrapN (by omega) (by omega)]; omega
  have := onward_w0 (m := m) (o := o)
  rw [e] at this
  exact this
theorem mach_set_r {m : Mach} {r : Int} (x : BitVec 64) (h : regB r = true) : m.cs.set (1 + r.toNat * 1) (.u x) = (Mach.mk m.t (m.r.set r.toNat x) m.s m.mem m.fin).cs :=
  reg_elim (P := fun r => m.cs.set (1 + r.toNat * 1) (.u x) = (Mach.mk m.t (m.r.set r.toNat x) m.s m.mem m.fin).cs) h rfl rfl rfl rfl rfl rfl
theorem mach_set_s {m : Mach} {r : Int} (h : regB r = true) : m.cs.set (7 + r.toNat * 1) (.b true) = (Mach.mk m.t m.r (m.s.set r.toNat true) m.mem m.fin).cs :=
  reg_elim (P := fun r => m.cs.set (7 + r.toNat * 1) (.b true) = (Mach.mk m.t m.r (m.s.set r.toNat true) m.mem m.fin).cs) h rfl rfl rfl rfl rfl rfl
theorem mach_get_r {m : Mach} {r : Int} (h : regB r = true) : m.cs[1 + r.toNat * 1]? = some (.u (m.r.get r.toNat)) :=
  reg_elim (P := fun r => m.cs[1 + r.toNat * 1]? = some (.u (m.r.get r.toNat))) h rfl rfl rfl rfl rfl rfl
theorem mach_get_s {m : Mach} {r : Int} (h : regB r = true) : m.cs[7 + r.toNat * 1]? = some (.b (m.s.get r.toNat)) :=
  reg_elim (P := fun r => m.cs[7 + r.toNat * 1]? = some (.b (m.s.get r.toNat))) h rfl rfl rfl rfl rfl rfl
theorem bcs_set {v : V6 Bool} {r : Int} (h : regB r = true) : (bcs v).set (r.toNat * 1) (.b true) = bcs (v.set r.toNat true) :=
  reg_elim (P := fun r => (bcs v).set (r.toNat * 1) (.b true) = bcs (v.set r.toNat true)) h rfl rfl rfl rfl rfl rfl
theorem mach_len (m : Mach) : m.cs.length = 15 := rfl
theorem bcs_len (v : V6 Bool) : (bcs v).length = 6 := rfl
theorem with_ok {m : Mach} {r : Int} (x : BitVec 64) (h : regB r = true) : Ok 32 [.ag m.cs, .c (.i r), .c (.u x)] (.ag (m.wth r.toNat x).cs) := by
  have h1 := regB_iff.1 h
  have h2 := reg_nat h
  refine with_w0 ?_ ?_ ?_
  · simp [h1.1, h1.2, mach_len]; omega
  · rw [mach_set_r x h]
  · rw [mach_set_s h]; rfl
theorem use_of_ok {i : Ins} (h : i.op = 12 ∨ i.op = 15 ∨ (regB i.d = true ∧ srcB i.s = true)) : Ok 57 [.ag i.cs] (.ag (bcs (useOf i))) := by
  unfold useOf
  by_cases c1 : i.op = 12
  · rw [if_pos c1]; exact useOf12_w0 (by simp [c1])
  by_cases c2 : i.op = 15
  · rw [if_neg c1, if_pos c2]; exact useOf15_w0 (by simp [c2])
  obtain ⟨hd, hs⟩ := (h.resolve_left c1).resolve_left c2
  have d1 := regB_iff.1 hd
  have d2 := reg_nat hd
  rw [if_neg c1, if_neg c2]
  rcases srcB_iff.1 hs with e | hs
  · rw [if_pos e]
    by_cases c3 : i.op = 1
    · rw [if_pos (Or.inl c3)]; exact useOfM_w1 (by simp [c3, e])
    by_cases c4 : i.op = 10
    · rw [if_pos (Or.inr c4)]; exact useOfL_w1 (by simp [c4, e])
    rw [if_neg (by omega)]
    refine useOfD_w1 ?_ ?_
    · simp [c1, c2, c3, c4, d1.1, d1.2, e]; omega
    · rw [bcs_set hd]
  · have s1 := regB_iff.1 hs
    have s2 := reg_nat hs
    have e : ¬ i.s = -1 := by omega
    rw [if_neg e]
    by_cases c3 : i.op = 1
    · rw [if_pos (Or.inl c3)]
      refine useOfM_w0 ?_ ?_
      · simp [c3, e, s1.1, s1.2]; omega
      · rw [bcs_set hs]
    by_cases c4 : i.op = 10
    · rw [if_pos (Or.inr c4)]
      refine useOfL_w0 ?_ ?_
      · simp [c4, e, s1.1, s1.2]; omega
      · rw [bcs_set hs]
    rw [if_neg (by omega)]
    refine useOfD_w0 ?_ ?_ ?_
    · simp [c1, c2, c3, c4, d1.1, d1.2, e, s1.1, s1.2, bcs_len]; omega
    · rw [bcs_set hd]
    · rw [bcs_set hs]
theorem source_ok {i : Ins} {m : Mach} (h : srcB i.s = true) : Ok 62 [.ag i.cs, .ag m.cs] (.c (.u (srcN i m))) := by
  unfold srcN
  rcases srcB_iff.1 h with e | hs
  · rw [if_pos e]; exact source_w0 (by simp [e])
  · have s1 := regB_iff.1 hs
    have s2 := reg_nat hs
    rw [if_neg (by omega)]
    refine source_w1 ?_ ?_
    · rw [mach_get_r hs]
      simp [s1.1, s1.2, mach_len, AC.isU]; omega
    · rw [mach_get_r hs]; rfl
theorem runTwo_ok (op : Int) (x y : BitVec 64) (h : 1 ≤ op ∧ op ≤ 9) : Ok 63 [.c (.i op), .c (.u x), .c (.u y)] (.c (.u (numN op x y))) := by
  have hc : op = 1 ∨ op = 2 ∨ op = 3 ∨ op = 4 ∨ op = 5 ∨ op = 6 ∨ op = 7 ∨ op = 8 ∨ op = 9 := by omega
  have h6 := six_nv y
  have h7 := six_lt y
  have h8 : decide (nv (band y 63#64) ≤ 64) = true := by rw [h6]; simp; omega
  rcases hc with rfl | rfl | rfl | rfl | rfl | rfl | rfl | rfl | rfl
  · exact two_w8 rfl
  · exact two_w0 rfl
  · exact two_w1 rfl
  · exact two_w2 rfl
  · exact two_w3 rfl
  · exact two_w4 rfl
  · exact two_w5 rfl
  · exact two_w6 (by simp [h8])
  · exact two_w7 (by simp [h8])
theorem loadLoop {t : ByteArray} {w : World} {β : Bs} (ht : t.size ≤ 8) : ∀ k j : Nat, j + k = t.size →
    ART Try.prog 95 (cx w β 0 []) Try.f95.ntmps (cutAt Try.f95 0) ⟨[(0, .c (.s t)), (3, .c (.u (loadL (memL t 0 j)))), (6, .c (.i t.size)), (7, .c (.i j))], [], 0⟩ (REff w β ⟨.c (.u (loadL (memL t 0 t.size))), [], none⟩)
  | 0, j, h => by
    have : j = t.size := by omega
    subst this
    exact loadL_w1 (by simp)
  | k + 1, j, h => by
    have h1 : ((j : Int) < (t.size : Int)) := by omega
    have e8 : IntKind.wrap IntKind.i64 (8 * (j : Int)) = 8 * j := wrapN (by omega) (by omega)
    have e1 : IntKind.wrap IntKind.i64 ((j : Int) + 1) = ((j + 1 : Nat) : Int) := by rw [wrapN (by omega) (by omega)]; omega
    refine loadL_w0 (by simp [h1, e8]; omega) (fun k h => h) ?_
    have := loadLoop (w := w) (β := β) ht k (j + 1) (by omega)
    rw [memL_succ, loadL_snoc, memL_length] at this
    rw [e1, e8, show (8 * (j : Int)).toNat = 8 * j by omega]
    simpa using this
theorem load_ok {t : ByteArray} (ht : t.size ≤ 8) : Ok 95 [.c (.s t)] (.c (.u (loadL (memL t 0 t.size)))) :=
  val_of Try.func95 rfl rfl rfl rfl fun w β => load_w0 (fun _ h => h) (loadLoop ht t.size 0 (by omega))
theorem store_ok {x : BitVec 64} {n : BitVec 64} (h : sizeB n = true) : Ok 96 [.c (.u x), .c (.u n)] (.c (.s (strOf (storeL x n.toNat)))) := by
  refine size_elim (P := fun n => Ok 96 [.c (.u x), .c (.u n)] (.c (.s (strOf (storeL x n.toNat))))) h ?_ ?_ ?_ ?_
  · exact store1_w0
  · exact store2_w0
  · exact store4_w0
  · exact store8_w0
end Go.Proofs.Ytkigmocchaikgab

/- The contracts of run.branch, run.reach and run.do. -/
namespace Go.Proofs.Ytkigmocchaikgab
open Go.RowKit

theorem branch_ok {i : Ins} {m : Mach} {jp : Bool} (h : 0 ≤ m.t ∧ m.t ≤ 64) (ho : 0 ≤ i.of ∧ i.of ≤ 64) : Ok 61 [.ag i.cs, .ag m.cs, .c (.b jp)] (.ag (m.on (if jp then i.of else 0)).cs) := by
  cases jp with
  | true => exact branch_w0 rfl (onward_ok h ho)
  | false => exact branch_w1 rfl (onward_ok h ⟨by decide, by decide⟩)
theorem nv_toNat (x : BitVec 64) : (nv x).toNat = x.toNat := by unfold nv; omega
theorem nv_badd {x y : BitVec 64} (h : x.toNat + y.toNat ≤ 64) : nv (badd x y) = ((x.toNat + y.toNat : Nat) : Int) := by
  unfold nv badd
  rw [BitVec.toNat_add]
  omega
theorem byteAt_extract {s : ByteArray} {a b j : Nat} (hb : b ≤ s.size) (h : a + j < b) : byteAt (s.extract a b) j = byteAt s (a + j) := by
  unfold byteAt
  rw [ByteArray.data_extract]
  have : (s.data.extract a b).getD j 0 = s.data.getD (a + j) 0 := by
    have h1 : j < (s.data.extract a b).size := by
      rw [Array.size_extract]
      have : s.size = s.data.size := rfl
      omega
    have h2 : a + j < s.data.size := by
      have : s.size = s.data.size := rfl
      omega
    simp only [Array.getD_eq_getD_getElem?, Array.getElem?_eq_getElem h1, Array.getElem?_eq_getElem h2, Array.getElem_extract]
  rw [this]
theorem memL_extract {s : ByteArray} {a n : Nat} (h : a + n ≤ s.size) : memL (s.extract a (a + n)) 0 (s.extract a (a + n)).size = memL s a n := by
  have e : (s.extract a (a + n)).size = n := by rw [ByteArray.size_extract]; omega
  rw [e]
  unfold memL
  apply List.map_congr_left
  intro j hj
  rw [List.mem_range] at hj
  rw [Nat.zero_add, byteAt_extract h (by omega)]
theorem reach_ok {i : Ins} {m : Mach} {n : Int} (hi : Right i n) (ho : i.op = 10 ∨ i.op = 11) (hm : m.mem.size = 64) (ht : 0 ≤ m.t ∧ m.t ≤ 64) : Ok 59 [.ag i.cs, .ag m.cs] (.ag (reachM i m).cs) := by
  obtain ⟨hd, hs, hz, ho1, ho2⟩ := fits_reach hi ho
  have s1 := regB_iff.1 hs
  have s2 := reg_nat hs
  have d1 := regB_iff.1 hd
  have d2 := reg_nat hd
  have hlen := mach_len m
  unfold reachM
  cases hf : farB i m with
  | true =>
    rw [if_pos rfl]
    obtain ⟨op, d, s, im, of⟩ := i
    simp only at *
    rcases ho with rfl | rfl
    · refine reachL_w0 ?_ ?_ rfl rfl (ended_ok m 2)
      · rw [mach_get_r hs]; simp [s1.1, s1.2, hlen, AC.isU, hf]; omega
      · rw [mach_get_r hs]; rfl
    · refine reachS_w0 ?_ ?_ rfl rfl (ended_ok m 2)
      · rw [mach_get_r hd]; simp [d1.1, d1.2, hlen, AC.isU, hf]; omega
      · rw [mach_get_r hd]; rfl
  | false =>
    rw [if_neg (by decide)]
    have hfar := far_no hz hf
    have en := nv_badd hfar
    have e1 := nv_toNat (fromN i m)
    have e2 : nv (fromN i m) = ((fromN i m).toNat : Int) := rfl
    have him : i.im.toNat ≤ 8 := size_elim (P := fun x => x.toNat ≤ 8) hz (by decide) (by decide) (by decide) (by decide)
    obtain ⟨op, d, s, im, of⟩ := i
    simp only at *
    rcases ho with rfl | rfl
    · rw [if_pos rfl]
      refine reachL_w1 ?_ ?_ rfl rfl ?_ ?_ (load_ok ?_) (with_ok _ hd) (onward_ok (m := m.wth d.toNat _) ht ⟨by decide, by decide⟩)
      · rw [mach_get_r hs]; simp [s1.1, s1.2, hlen, AC.isU, hf, en, e2]; omega
      · rw [mach_get_r hs]; rfl
      · rw [e1, en]; rfl
      · rw [memL_extract (by omega)]
      · rw [ByteArray.size_extract]; omega
    · rw [if_neg (by decide)]
      have z1 : (m.mem.extract 0 (fromN (Ins.mk 11 d s im of) m).toNat).size ≤ 64 := by rw [ByteArray.size_extract]; omega
      have z2 : (strOf (storeL (m.r.get s.toNat) im.toNat)).size ≤ 8 := by rw [strOf_size, storeL_length]; exact him
      have z3 : (m.mem.extract ((fromN (Ins.mk 11 d s im of) m).toNat + im.toNat) m.mem.size).size ≤ 64 := by rw [ByteArray.size_extract]; omega
      refine reachS_w1 ?_ ?_ rfl rfl ?_ ?_ (store_ok hz) ?_ rfl (onward_ok (m := ⟨m.t, m.r, m.s, putMem m.mem (fromN (Ins.mk 11 d s im of) m).toNat im.toNat (m.r.get s.toNat), m.fin⟩) ht ⟨by decide, by decide⟩)
      · rw [mach_get_r hd, mach_get_r hs, en, ByteArray.size_append]
        simp only [Bool.and_eq_true, decide_eq_true_eq, AC.isU, Option.getD_some, hlen, Nat.blt_eq, hf, Bool.not_false, Bool.true_and, Bool.and_true, e2, hm]
        simp only [hm] at z3
        omega
      · rw [mach_get_r hd]; rfl
      · rw [e1]
      · rw [mach_get_r hs]; rfl
      · rw [en]; rfl

theorem bcs_get {v : V6 Bool} {r : Int} (h : regB r = true) : (bcs v)[r.toNat * 1]? = some (.b (v.get r.toNat)) :=
  reg_elim (P := fun r => (bcs v)[r.toNat * 1]? = some (.b (v.get r.toNat))) h rfl rfl rfl rfl rfl rfl
abbrev doKn (i : Ins) (m : Mach) (u : V6 Bool) (j : Int) : Kn := ⟨[(2, .c (.w 0)), (3, .c (.w 1)), (4, .c (.w 2)), (8, .ag (bcs u)), (9, .c (.i j))], [(0, ⟨true, i.cs, 0⟩), (1, ⟨true, m.cs, 0⟩), (2, ⟨true, Mach.z.cs, 0⟩)], 3⟩
theorem doLoop {i : Ins} {m : Mach} {u : V6 Bool} {w : World} {β : Bs} {E : Eff} : ∀ n, n ≤ 6 → (anyFrom (fun j => u.get j && !m.s.get j) n = true → ⟨.ag (m.fine 1).cs, [], none⟩ = E) →
    (anyFrom (fun j => u.get j && !m.s.get j) n = false → ART Try.prog 29 (cx w β 0 []) Try.f29.ntmps (cutAt Try.f29 0) (doKn i m u 6) (REff w β E)) →
    ART Try.prog 29 (cx w β 0 []) Try.f29.ntmps (cutAt Try.f29 0) (doKn i m u (6 - n : Nat)) (REff w β E)
  | 0, _, _, hz => hz rfl
  | n + 1, hn, hy, hz => by
    have hj : regB ((6 - (n + 1) : Nat) : Int) = true := by rw [regB_iff]; omega
    have ej : ((6 - (n + 1) : Nat) : Int).toNat = 5 - n := by omega
    have e1 : IntKind.wrap IntKind.i64 (((6 - (n + 1) : Nat) : Int) + 1) = ((6 - n : Nat) : Int) := by rw [wrapN (by omega) (by omega)]; omega
    have h1 := regB_iff.1 hj
    have o0 : decide (((6 - (n + 1) : Nat) : Int) < 6) = true := decide_eq_true h1.2
    have o2 : (decide (0 ≤ ((6 - (n + 1) : Nat) : Int)) && decide (((6 - (n + 1) : Nat) : Int) < 6)) = true := hj
    have o1 : (AC.isB (Option.getD (bcs u)[((6 - (n + 1) : Nat) : Int).toNat * 1]? (AC.b false)) && Nat.blt (((6 - (n + 1) : Nat) : Int).toNat * 1) (bcs u).length && (decide (0 ≤ ((6 - (n + 1) : Nat) : Int)) && decide (((6 - (n + 1) : Nat) : Int) < 6))) = true := by
      rw [bcs_get hj, o2, bcs_len]; simp [AC.isB]; omega
    have o3 : (AC.isB (Option.getD m.cs[7 + ((6 - (n + 1) : Nat) : Int).toNat * 1]? (AC.b false)) && Nat.blt (7 + ((6 - (n + 1) : Nat) : Int).toNat * 1) m.cs.length) = true := by
      rw [mach_get_s hj, mach_len]; simp [AC.isB]; omega
    have c0 : Eff.mk (AV.c (AC.b (AC.asB (Option.getD (bcs u)[((6 - (n + 1) : Nat) : Int).toNat * 1]? (AC.b false))))) [] none = Eff.mk (AV.c (AC.b (u.get ((6 - (n + 1) : Nat) : Int).toNat))) [] none := by rw [bcs_get hj]; rfl
    have c1 : Eff.mk (AV.c (AC.b (AC.asB (Option.getD m.cs[7 + ((6 - (n + 1) : Nat) : Int).toNat * 1]? (AC.b false))))) [] none = Eff.mk (AV.c (AC.b (m.s.get ((6 - (n + 1) : Nat) : Int).toNat))) [] none := by rw [mach_get_s hj]; rfl
    have next : (u.get (5 - n) && !m.s.get (5 - n)) = false → ART Try.prog 29 (cx w β 0 []) Try.f29.ntmps (cutAt Try.f29 0) (doKn i m u (IntKind.wrap IntKind.i64 (((6 - (n + 1) : Nat) : Int) + 1))) (REff w β E) := by
      intro hb
      rw [e1]
      refine doLoop n (by omega) (fun h => hy ?_) (fun h => hz ?_)
      · rw [anyFrom, hb, h]; rfl
      · rw [anyFrom, hb, h]; rfl
    refine doRound_all (by omega) (fun a b => ?_) (fun a b => ?_) (fun a => ?_)
    · refine ⟨o0, o1, o2, o3, c0, c1, ended_ok m 1, hy ?_⟩
      rw [ej] at a b
      rw [anyFrom, a, b]; rfl
    · refine ⟨o0, o1, o2, o3, c0, c1, low_of rfl, next ?_⟩
      rw [ej] at a b
      rw [a, b]; rfl
    · refine ⟨o0, o1, c0, low_of rfl, next ?_⟩
      rw [ej] at a
      rw [a]; rfl
theorem do_ok {i : Ins} {m : Mach} {n : Int} (hi : Right i n) (hn : n ≤ 64) (hm : m.mem.size = 64) (ht : 0 ≤ m.t ∧ m.t ≤ 64) : Ok 29 [.ag i.cs, .ag m.cs] (.ag (stepM i m).cs) := by
  have hk := kind_iff.1 hi.kind
  have hr := right_regs hi
  refine val_of Try.func29 rfl rfl rfl rfl fun w β => doTop_w0 (use_of_ok (Or.inr (Or.inr hr))) (low_of rfl) (fun _ h => absurd h (by simp [cx])) ?_
  refine doLoop 6 (Nat.le_refl 6) (fun h => ?_) (fun h => ?_)
  · rw [← lacks_from] at h
    unfold stepM
    rw [if_pos h]
  · rw [← lacks_from] at h
    unfold stepM
    rw [if_neg (by rw [h]; decide)]
    have d1 := regB_iff.1 hr.1
    have d2 := reg_nat hr.1
    have hlen := mach_len m
    have hg := mach_get_r (m := m) hr.1
    by_cases c1 : i.op = 10 ∨ i.op = 11
    · rw [if_pos c1]
      have hreach := reach_ok hi c1 hm ht
      obtain ⟨op, d, s, im, of⟩ := i
      simp only at c1
      rcases c1 with rfl | rfl
      · exact doL_w0 hreach
      · exact doS_w0 hreach
    rw [if_neg c1]
    by_cases c2 : i.op = 12
    · rw [if_pos c2]
      have hj := fits_jump hi c2
      obtain ⟨op, d, s, im, of⟩ := i
      simp only at *
      subst c2
      exact doJ_w0 (onward_ok ht (by omega))
    rw [if_neg c2]
    have hsrc := source_ok (m := m) hr.2
    by_cases c3 : i.op = 13
    · rw [if_pos c3]
      have hj := fits_branch hi (Or.inl c3)
      have hb := branch_ok (i := i) (m := m) (jp := eqb (m.r.get i.d.toNat) (srcN i m)) ht (by omega)
      obtain ⟨op, d, s, im, of⟩ := i
      simp only at *
      subst c3
      refine doEq_w0 ?_ ?_ hsrc hb
      · rw [hg]; simp [d1.1, d1.2, hlen, AC.isU]; omega
      · rw [hg]; rfl
    rw [if_neg c3]
    by_cases c4 : i.op = 14
    · rw [if_pos c4]
      have hj := fits_branch hi (Or.inr c4)
      have hb := branch_ok (i := i) (m := m) (jp := decide (nv (m.r.get i.d.toNat) < nv (srcN i m))) ht (by omega)
      have e : (if nv (m.r.get i.d.toNat) < nv (srcN i m) then i.of else 0) = (if decide (nv (m.r.get i.d.toNat) < nv (srcN i m)) = true then i.of else 0) := by simp
      rw [e]
      obtain ⟨op, d, s, im, of⟩ := i
      simp only at *
      subst c4
      refine doLt_w0 ?_ ?_ hsrc hb
      · rw [hg]; simp [d1.1, d1.2, hlen, AC.isU]; omega
      · rw [hg]; rfl
    rw [if_neg c4]
    by_cases c5 : i.op = 15
    · rw [if_pos c5]
      obtain ⟨op, d, s, im, of⟩ := i
      simp only at *
      subst c5
      exact doX_w0 (ended_ok m 3)
    rw [if_neg c5]
    have h2 := runTwo_ok i.op (m.r.get i.d.toNat) (srcN i m) (by omega)
    obtain ⟨op, d, s, im, of⟩ := i
    simp only at *
    refine doTwo_w0 ?_ ?_ hsrc h2 (with_ok _ hr.1) (onward_ok (m := m.wth d.toNat _) ht ⟨by decide, by decide⟩)
    · rw [hg]; simp [d1.1, d1.2, hlen, AC.isU, c2, c3, c4, c5]; omega
    · rw [hg]; rfl
end Go.Proofs.Ytkigmocchaikgab

/- Ways of bodies, written by a program (ways.py): what each asks for, and hands back. -/
namespace Go.Proofs.Ytkigmocchaikgab
open Go.RowKit

theorem ckTop_w0 {L : List Ins} {c : Nat} {w : World} {β : Bs} {n : Nat} (h : ((↑(List.length L) : Int) == 0 && true) = true) :
    ART Try.prog 28 (cx w β n []) Try.f28.ntmps ([Item.code (bodyOf Try.f28)]) (Kn.start [AV.c (AC.sl 0 0 (List.length L) c)] [(0, Ent.mk false (pcell L) 0)] 1) (REff w β ⟨AV.c (AC.i 2), [], none⟩) :=
  run_eff [] (none) 2000 [] [true, true] [true] [] Try.func28 (ekeys0 rfl n) (by kernel_rfl) h cr_nil
theorem ckTop_w1 {L : List Ins} {c : Nat} {w : World} {β : Bs} {n : Nat} (h : (!(↑(List.length L) : Int) == 0 && (decide (64 < (↑(List.length L) : Int)) && true)) = true) :
    ART Try.prog 28 (cx w β n []) Try.f28.ntmps ([Item.code (bodyOf Try.f28)]) (Kn.start [AV.c (AC.sl 0 0 (List.length L) c)] [(0, Ent.mk false (pcell L) 0)] 1) (REff w β ⟨AV.c (AC.i 2), [], none⟩) :=
  run_eff [] (none) 2000 [] [false, true] [true] [] Try.func28 (ekeys0 rfl n) (by kernel_rfl) h cr_nil
theorem ckTop_w2 {L : List Ins} {c : Nat} {C : Cx} {R : Ending → World → Prop} (h : (!(↑(List.length L) : Int) == 0 && (!decide (64 < (↑(List.length L) : Int)) && true)) = true) (lo : Kn.Low ⟨[(0, AV.c (AC.sl 0 0 (List.length L) c)), (17, AV.c (AC.sl 0 0 (List.length L) c)), (18, AV.c (AC.i (↑(List.length L) : Int))), (19, AV.c (AC.i 0))], [(0, Ent.mk false (pcell L) 0)], 1⟩) (hF : ∀ k, C.F k → k < 1) (z : ART Try.prog 28 C Try.f28.ntmps (cutAt Try.f28 0) ⟨[(0, AV.c (AC.sl 0 0 (List.length L) c)), (17, AV.c (AC.sl 0 0 (List.length L) c)), (18, AV.c (AC.i (↑(List.length L) : Int))), (19, AV.c (AC.i 0))], [(0, Ent.mk false (pcell L) 0)], 1⟩ R) :
    ART Try.prog 28 C Try.f28.ntmps ([Item.code (bodyOf Try.f28)]) (Kn.start [AV.c (AC.sl 0 0 (List.length L) c)] [(0, Ent.mk false (pcell L) 0)] 1) R :=
  run_cut ⟨[(0, AV.c (AC.sl 0 0 (List.length L) c)), (17, AV.c (AC.sl 0 0 (List.length L) c)), (18, AV.c (AC.i (↑(List.length L) : Int))), (19, AV.c (AC.i 0))], [(0, Ent.mk false (pcell L) 0)], 1⟩ 2000 [] [false, false] [true] [] Try.func28 (by kernel_rfl) h cr_nil lo hF z
theorem ckTop_all {L : List Ins} {c : Nat} {w : World} {β : Bs} {n : Nat} {E : Eff} (hn : n ≤ 1)
    (l0 : ((↑(List.length L) : Int) == 0) = true → ((⟨AV.c (AC.i 2), [], none⟩ : Eff) = E))
    (l1 : ((↑(List.length L) : Int) == 0) = false → (decide (64 < (↑(List.length L) : Int))) = true → ((⟨AV.c (AC.i 2), [], none⟩ : Eff) = E))
    (l2 : ((↑(List.length L) : Int) == 0) = false → (decide (64 < (↑(List.length L) : Int))) = false → Kn.Low ⟨[(0, AV.c (AC.sl 0 0 (List.length L) c)), (17, AV.c (AC.sl 0 0 (List.length L) c)), (18, AV.c (AC.i (↑(List.length L) : Int))), (19, AV.c (AC.i 0))], [(0, Ent.mk false (pcell L) 0)], 1⟩ ∧ ART Try.prog 28 (cx w β n []) Try.f28.ntmps (cutAt Try.f28 0) ⟨[(0, AV.c (AC.sl 0 0 (List.length L) c)), (17, AV.c (AC.sl 0 0 (List.length L) c)), (18, AV.c (AC.i (↑(List.length L) : Int))), (19, AV.c (AC.i 0))], [(0, Ent.mk false (pcell L) 0)], 1⟩ (REff w β E)) :
    ART Try.prog 28 (cx w β n []) Try.f28.ntmps ([Item.code (bodyOf Try.f28)]) (Kn.start [AV.c (AC.sl 0 0 (List.length L) c)] [(0, Ent.mk false (pcell L) 0)] 1) (REff w β E) :=
  (tf ((↑(List.length L) : Int) == 0)).elim (fun h0 => (match l0 h0 with | e => art_eq (ckTop_w0 (and_yes h0 rfl)) e)) (fun h0 => (tf (decide (64 < (↑(List.length L) : Int)))).elim (fun h1 => (match l1 h0 h1 with | e => art_eq (ckTop_w1 (and_yes (not_yes h0) (and_yes h1 rfl))) e)) (fun h1 => (match l2 h0 h1 with | ⟨lo, z⟩ => ckTop_w2 (and_yes (not_yes h0) (and_yes (not_yes h1) rfl)) lo (fun _ hk => Nat.lt_of_lt_of_le hk hn) z)))
theorem ckA_w0 {L : List Ins} {c : Nat} {j : Nat} {w : World} {β : Bs} {n : Nat} (h : (decide ((↑j : Int) < (↑(List.length L) : Int)) && (decide ((↑j : Int) < (↑(List.length L) : Int)) && (Nat.ble (0 + Int.toNat (↑j : Int) * 5 + 5) (List.length (pcell L)) && (decide (Ins.op (elt L j) < 1) && true)))) = true) (c0 : Eff.mk (AV.ag (List.take 5 (List.drop (0 + Int.toNat (↑j : Int) * 5) (pcell L)))) [] none = Eff.mk (AV.ag (Ins.cs (elt L j))) [] none) :
    ART Try.prog 28 (cx w β n []) Try.f28.ntmps (cutAt Try.f28 0) (Kn.mk [(0, AV.c (AC.sl 0 0 (List.length L) c)), (17, AV.c (AC.sl 0 0 (List.length L) c)), (18, AV.c (AC.i (↑(List.length L) : Int))), (19, AV.c (AC.i (↑j : Int)))] [(0, Ent.mk false (pcell L) 0)] 1) (REff w β ⟨AV.c (AC.i 4), [], none⟩) :=
  run_eff [] (none) 2000 [Eff.mk (AV.ag (Ins.cs (elt L j))) [] none] [true, true, true] [true] [(5, 1)] Try.func28 (ekeys0 rfl n) (by kernel_rfl) h (cr_same c0 cr_nil)
theorem ckA_w1 {L : List Ins} {c : Nat} {j : Nat} {w : World} {β : Bs} {n : Nat} (h : (decide ((↑j : Int) < (↑(List.length L) : Int)) && (decide ((↑j : Int) < (↑(List.length L) : Int)) && (Nat.ble (0 + Int.toNat (↑j : Int) * 5 + 5) (List.length (pcell L)) && (!decide (Ins.op (elt L j) < 1) && (decide (15 < Ins.op (elt L j)) && true))))) = true) (c0 : Eff.mk (AV.ag (List.take 5 (List.drop (0 + Int.toNat (↑j : Int) * 5) (pcell L)))) [] none = Eff.mk (AV.ag (Ins.cs (elt L j))) [] none) :
    ART Try.prog 28 (cx w β n []) Try.f28.ntmps (cutAt Try.f28 0) (Kn.mk [(0, AV.c (AC.sl 0 0 (List.length L) c)), (17, AV.c (AC.sl 0 0 (List.length L) c)), (18, AV.c (AC.i (↑(List.length L) : Int))), (19, AV.c (AC.i (↑j : Int)))] [(0, Ent.mk false (pcell L) 0)] 1) (REff w β ⟨AV.c (AC.i 4), [], none⟩) :=
  run_eff [] (none) 2000 [Eff.mk (AV.ag (Ins.cs (elt L j))) [] none] [true, false, true] [true] [(5, 1)] Try.func28 (ekeys0 rfl n) (by kernel_rfl) h (cr_same c0 cr_nil)
theorem ckA_w2 {L : List Ins} {c : Nat} {j : Nat} {C : Cx} {R : Ending → World → Prop} (h : (decide ((↑j : Int) < (↑(List.length L) : Int)) && (decide ((↑j : Int) < (↑(List.length L) : Int)) && (Nat.ble (0 + Int.toNat (↑j : Int) * 5 + 5) (List.length (pcell L)) && (!decide (Ins.op (elt L j) < 1) && (!decide (15 < Ins.op (elt L j)) && true))))) = true) (c0 : Eff.mk (AV.ag (List.take 5 (List.drop (0 + Int.toNat (↑j : Int) * 5) (pcell L)))) [] none = Eff.mk (AV.ag (Ins.cs (elt L j))) [] none) (lo : Kn.Low ⟨[(0, AV.c (AC.sl 0 0 (List.length L) c)), (17, AV.c (AC.sl 0 0 (List.length L) c)), (18, AV.c (AC.i (↑(List.length L) : Int))), (19, AV.c (AC.i (IntKind.wrap IntKind.i64 ((↑j : Int) + 1))))], [(0, Ent.mk false (pcell L) 0)], 1⟩) (hF : ∀ k, C.F k → k < 1) (z : ART Try.prog 28 C Try.f28.ntmps (cutAt Try.f28 0) ⟨[(0, AV.c (AC.sl 0 0 (List.length L) c)), (17, AV.c (AC.sl 0 0 (List.length L) c)), (18, AV.c (AC.i (↑(List.length L) : Int))), (19, AV.c (AC.i (IntKind.wrap IntKind.i64 ((↑j : Int) + 1))))], [(0, Ent.mk false (pcell L) 0)], 1⟩ R) :
    ART Try.prog 28 C Try.f28.ntmps (cutAt Try.f28 0) (Kn.mk [(0, AV.c (AC.sl 0 0 (List.length L) c)), (17, AV.c (AC.sl 0 0 (List.length L) c)), (18, AV.c (AC.i (↑(List.length L) : Int))), (19, AV.c (AC.i (↑j : Int)))] [(0, Ent.mk false (pcell L) 0)] 1) R :=
  run_cut ⟨[(0, AV.c (AC.sl 0 0 (List.length L) c)), (17, AV.c (AC.sl 0 0 (List.length L) c)), (18, AV.c (AC.i (↑(List.length L) : Int))), (19, AV.c (AC.i (IntKind.wrap IntKind.i64 ((↑j : Int) + 1))))], [(0, Ent.mk false (pcell L) 0)], 1⟩ 2000 [Eff.mk (AV.ag (Ins.cs (elt L j))) [] none] [true, false, false] [true] [(5, 1)] Try.func28 (by kernel_rfl) h (cr_same c0 cr_nil) lo hF z
theorem ckA_all {L : List Ins} {c : Nat} {j : Nat} {w : World} {β : Bs} {n : Nat} {E : Eff} (hn : n ≤ 1)
    (l0 : (decide (Ins.op (elt L j) < 1)) = true → (decide ((↑j : Int) < (↑(List.length L) : Int))) = true ∧ (decide ((↑j : Int) < (↑(List.length L) : Int))) = true ∧ (Nat.ble (0 + Int.toNat (↑j : Int) * 5 + 5) (List.length (pcell L))) = true ∧ (Eff.mk (AV.ag (List.take 5 (List.drop (0 + Int.toNat (↑j : Int) * 5) (pcell L)))) [] none = Eff.mk (AV.ag (Ins.cs (elt L j))) [] none) ∧ ((⟨AV.c (AC.i 4), [], none⟩ : Eff) = E))
    (l1 : (decide (Ins.op (elt L j) < 1)) = false → (decide (15 < Ins.op (elt L j))) = true → (decide ((↑j : Int) < (↑(List.length L) : Int))) = true ∧ (decide ((↑j : Int) < (↑(List.length L) : Int))) = true ∧ (Nat.ble (0 + Int.toNat (↑j : Int) * 5 + 5) (List.length (pcell L))) = true ∧ (Eff.mk (AV.ag (List.take 5 (List.drop (0 + Int.toNat (↑j : Int) * 5) (pcell L)))) [] none = Eff.mk (AV.ag (Ins.cs (elt L j))) [] none) ∧ ((⟨AV.c (AC.i 4), [], none⟩ : Eff) = E))
    (l2 : (decide (Ins.op (elt L j) < 1)) = false → (decide (15 < Ins.op (elt L j))) = false → (decide ((↑j : Int) < (↑(List.length L) : Int))) = true ∧ (decide ((↑j : Int) < (↑(List.length L) : Int))) = true ∧ (Nat.ble (0 + Int.toNat (↑j : Int) * 5 + 5) (List.length (pcell L))) = true ∧ (Eff.mk (AV.ag (List.take 5 (List.drop (0 + Int.toNat (↑j : Int) * 5) (pcell L)))) [] none = Eff.mk (AV.ag (Ins.cs (elt L j))) [] none) ∧ Kn.Low ⟨[(0, AV.c (AC.sl 0 0 (List.length L) c)), (17, AV.c (AC.sl 0 0 (List.length L) c)), (18, AV.c (AC.i (↑(List.length L) : Int))), (19, AV.c (AC.i (IntKind.wrap IntKind.i64 ((↑j : Int) + 1))))], [(0, Ent.mk false (pcell L) 0)], 1⟩ ∧ ART Try.prog 28 (cx w β n []) Try.f28.ntmps (cutAt Try.f28 0) ⟨[(0, AV.c (AC.sl 0 0 (List.length L) c)), (17, AV.c (AC.sl 0 0 (List.length L) c)), (18, AV.c (AC.i (↑(List.length L) : Int))), (19, AV.c (AC.i (IntKind.wrap IntKind.i64 ((↑j : Int) + 1))))], [(0, Ent.mk false (pcell L) 0)], 1⟩ (REff w β E)) :
    ART Try.prog 28 (cx w β n []) Try.f28.ntmps (cutAt Try.f28 0) (Kn.mk [(0, AV.c (AC.sl 0 0 (List.length L) c)), (17, AV.c (AC.sl 0 0 (List.length L) c)), (18, AV.c (AC.i (↑(List.length L) : Int))), (19, AV.c (AC.i (↑j : Int)))] [(0, Ent.mk false (pcell L) 0)] 1) (REff w β E) :=
  (tf (decide (Ins.op (elt L j) < 1))).elim (fun h0 => (match l0 h0 with | ⟨o0, o1, o2, c0, e⟩ => art_eq (ckA_w0 (and_yes o0 (and_yes o1 (and_yes o2 (and_yes h0 rfl)))) c0) e)) (fun h0 => (tf (decide (15 < Ins.op (elt L j)))).elim (fun h1 => (match l1 h0 h1 with | ⟨o0, o1, o2, c0, e⟩ => art_eq (ckA_w1 (and_yes o0 (and_yes o1 (and_yes o2 (and_yes (not_yes h0) (and_yes h1 rfl))))) c0) e)) (fun h1 => (match l2 h0 h1 with | ⟨o0, o1, o2, c0, lo, z⟩ => ckA_w2 (and_yes o0 (and_yes o1 (and_yes o2 (and_yes (not_yes h0) (and_yes (not_yes h1) rfl))))) c0 lo (fun _ hk => Nat.lt_of_lt_of_le hk hn) z)))
theorem ckAx_w0 {L : List Ins} {c : Nat} {j : Nat} {C : Cx} {R : Ending → World → Prop} (h : (!decide ((↑j : Int) < (↑(List.length L) : Int)) && true) = true) (lo : Kn.Low ⟨[(0, AV.c (AC.sl 0 0 (List.length L) c)), (32, AV.c (AC.sl 0 0 (List.length L) c)), (33, AV.c (AC.i (↑(List.length L) : Int))), (34, AV.c (AC.i 0))], [(0, Ent.mk false (pcell L) 0)], 1⟩) (hF : ∀ k, C.F k → k < 1) (z : ART Try.prog 28 C Try.f28.ntmps (cutAt Try.f28 1) ⟨[(0, AV.c (AC.sl 0 0 (List.length L) c)), (32, AV.c (AC.sl 0 0 (List.length L) c)), (33, AV.c (AC.i (↑(List.length L) : Int))), (34, AV.c (AC.i 0))], [(0, Ent.mk false (pcell L) 0)], 1⟩ R) :
    ART Try.prog 28 C Try.f28.ntmps (cutAt Try.f28 0) (Kn.mk [(0, AV.c (AC.sl 0 0 (List.length L) c)), (17, AV.c (AC.sl 0 0 (List.length L) c)), (18, AV.c (AC.i (↑(List.length L) : Int))), (19, AV.c (AC.i (↑j : Int)))] [(0, Ent.mk false (pcell L) 0)] 1) R :=
  run_cut ⟨[(0, AV.c (AC.sl 0 0 (List.length L) c)), (32, AV.c (AC.sl 0 0 (List.length L) c)), (33, AV.c (AC.i (↑(List.length L) : Int))), (34, AV.c (AC.i 0))], [(0, Ent.mk false (pcell L) 0)], 1⟩ 2000 [] [false] [true] [] Try.func28 (by kernel_rfl) h cr_nil lo hF z
theorem ckB_w0 {L : List Ins} {c : Nat} {j : Nat} {w : World} {β : Bs} {n : Nat} (h : (decide ((↑j : Int) < (↑(List.length L) : Int)) && (decide ((↑j : Int) < (↑(List.length L) : Int)) && (Nat.ble (0 + Int.toNat (↑j : Int) * 5 + 5) (List.length (pcell L)) && (!inB (elt L j) (↑(List.length L - 1 - j) : Int) && true)))) = true) (c0 : Eff.mk (AV.ag (List.take 5 (List.drop (0 + Int.toNat (↑j : Int) * 5) (pcell L)))) [] none = Eff.mk (AV.ag (Ins.cs (elt L j))) [] none) (c1 : Eff.mk (AV.c (AC.i (IntKind.wrap IntKind.i64 (IntKind.wrap IntKind.i64 ((↑(List.length L) : Int) - 1) - (↑j : Int))))) [] none = Eff.mk (AV.c (AC.i (↑(List.length L - 1 - j) : Int))) [] none) (c2 : CallOK Try.prog (CallRec.mk 55 [AV.ag (Ins.cs (elt L j)), AV.c (AC.i (↑(List.length L - 1 - j) : Int))] [] (Eff.mk (AV.c (AC.b (inB (elt L j) (↑(List.length L - 1 - j) : Int)))) [] none))) :
    ART Try.prog 28 (cx w β n []) Try.f28.ntmps (cutAt Try.f28 1) (Kn.mk [(0, AV.c (AC.sl 0 0 (List.length L) c)), (32, AV.c (AC.sl 0 0 (List.length L) c)), (33, AV.c (AC.i (↑(List.length L) : Int))), (34, AV.c (AC.i (↑j : Int)))] [(0, Ent.mk false (pcell L) 0)] 1) (REff w β ⟨AV.c (AC.i 3), [], none⟩) :=
  run_eff [] (none) 2000 [Eff.mk (AV.ag (Ins.cs (elt L j))) [] none, Eff.mk (AV.c (AC.i (↑(List.length L - 1 - j) : Int))) [] none, Eff.mk (AV.c (AC.b (inB (elt L j) (↑(List.length L - 1 - j) : Int)))) [] none] [true, true] [true] [(11, 2), (12, 5)] Try.func28 (ekeys0 rfl n) (by kernel_rfl) h (cr_same c0 (cr_same c1 (cr_cons c2 cr_nil)))
theorem ckB_w1 {L : List Ins} {c : Nat} {j : Nat} {C : Cx} {R : Ending → World → Prop} (h : (decide ((↑j : Int) < (↑(List.length L) : Int)) && (decide ((↑j : Int) < (↑(List.length L) : Int)) && (Nat.ble (0 + Int.toNat (↑j : Int) * 5 + 5) (List.length (pcell L)) && (!!inB (elt L j) (↑(List.length L - 1 - j) : Int) && true)))) = true) (c0 : Eff.mk (AV.ag (List.take 5 (List.drop (0 + Int.toNat (↑j : Int) * 5) (pcell L)))) [] none = Eff.mk (AV.ag (Ins.cs (elt L j))) [] none) (c1 : Eff.mk (AV.c (AC.i (IntKind.wrap IntKind.i64 (IntKind.wrap IntKind.i64 ((↑(List.length L) : Int) - 1) - (↑j : Int))))) [] none = Eff.mk (AV.c (AC.i (↑(List.length L - 1 - j) : Int))) [] none) (c2 : CallOK Try.prog (CallRec.mk 55 [AV.ag (Ins.cs (elt L j)), AV.c (AC.i (↑(List.length L - 1 - j) : Int))] [] (Eff.mk (AV.c (AC.b (inB (elt L j) (↑(List.length L - 1 - j) : Int)))) [] none))) (lo : Kn.Low ⟨[(0, AV.c (AC.sl 0 0 (List.length L) c)), (32, AV.c (AC.sl 0 0 (List.length L) c)), (33, AV.c (AC.i (↑(List.length L) : Int))), (34, AV.c (AC.i (IntKind.wrap IntKind.i64 ((↑j : Int) + 1))))], [(0, Ent.mk false (pcell L) 0)], 1⟩) (hF : ∀ k, C.F k → k < 1) (z : ART Try.prog 28 C Try.f28.ntmps (cutAt Try.f28 1) ⟨[(0, AV.c (AC.sl 0 0 (List.length L) c)), (32, AV.c (AC.sl 0 0 (List.length L) c)), (33, AV.c (AC.i (↑(List.length L) : Int))), (34, AV.c (AC.i (IntKind.wrap IntKind.i64 ((↑j : Int) + 1))))], [(0, Ent.mk false (pcell L) 0)], 1⟩ R) :
    ART Try.prog 28 C Try.f28.ntmps (cutAt Try.f28 1) (Kn.mk [(0, AV.c (AC.sl 0 0 (List.length L) c)), (32, AV.c (AC.sl 0 0 (List.length L) c)), (33, AV.c (AC.i (↑(List.length L) : Int))), (34, AV.c (AC.i (↑j : Int)))] [(0, Ent.mk false (pcell L) 0)] 1) R :=
  run_cut ⟨[(0, AV.c (AC.sl 0 0 (List.length L) c)), (32, AV.c (AC.sl 0 0 (List.length L) c)), (33, AV.c (AC.i (↑(List.length L) : Int))), (34, AV.c (AC.i (IntKind.wrap IntKind.i64 ((↑j : Int) + 1))))], [(0, Ent.mk false (pcell L) 0)], 1⟩ 2000 [Eff.mk (AV.ag (Ins.cs (elt L j))) [] none, Eff.mk (AV.c (AC.i (↑(List.length L - 1 - j) : Int))) [] none, Eff.mk (AV.c (AC.b (inB (elt L j) (↑(List.length L - 1 - j) : Int)))) [] none] [true, false] [true] [(11, 2), (12, 5)] Try.func28 (by kernel_rfl) h (cr_same c0 (cr_same c1 (cr_cons c2 cr_nil))) lo hF z
theorem ckB_all {L : List Ins} {c : Nat} {j : Nat} {w : World} {β : Bs} {n : Nat} {E : Eff} (hn : n ≤ 1)
    (l0 : (!inB (elt L j) (↑(List.length L - 1 - j) : Int)) = true → (decide ((↑j : Int) < (↑(List.length L) : Int))) = true ∧ (decide ((↑j : Int) < (↑(List.length L) : Int))) = true ∧ (Nat.ble (0 + Int.toNat (↑j : Int) * 5 + 5) (List.length (pcell L))) = true ∧ (Eff.mk (AV.ag (List.take 5 (List.drop (0 + Int.toNat (↑j : Int) * 5) (pcell L)))) [] none = Eff.mk (AV.ag (Ins.cs (elt L j))) [] none) ∧ (Eff.mk (AV.c (AC.i (IntKind.wrap IntKind.i64 (IntKind.wrap IntKind.i64 ((↑(List.length L) : Int) - 1) - (↑j : Int))))) [] none = Eff.mk (AV.c (AC.i (↑(List.length L - 1 - j) : Int))) [] none) ∧ (CallOK Try.prog (CallRec.mk 55 [AV.ag (Ins.cs (elt L j)), AV.c (AC.i (↑(List.length L - 1 - j) : Int))] [] (Eff.mk (AV.c (AC.b (inB (elt L j) (↑(List.length L - 1 - j) : Int)))) [] none))) ∧ ((⟨AV.c (AC.i 3), [], none⟩ : Eff) = E))
    (l1 : (!inB (elt L j) (↑(List.length L - 1 - j) : Int)) = false → (decide ((↑j : Int) < (↑(List.length L) : Int))) = true ∧ (decide ((↑j : Int) < (↑(List.length L) : Int))) = true ∧ (Nat.ble (0 + Int.toNat (↑j : Int) * 5 + 5) (List.length (pcell L))) = true ∧ (Eff.mk (AV.ag (List.take 5 (List.drop (0 + Int.toNat (↑j : Int) * 5) (pcell L)))) [] none = Eff.mk (AV.ag (Ins.cs (elt L j))) [] none) ∧ (Eff.mk (AV.c (AC.i (IntKind.wrap IntKind.i64 (IntKind.wrap IntKind.i64 ((↑(List.length L) : Int) - 1) - (↑j : Int))))) [] none = Eff.mk (AV.c (AC.i (↑(List.length L - 1 - j) : Int))) [] none) ∧ (CallOK Try.prog (CallRec.mk 55 [AV.ag (Ins.cs (elt L j)), AV.c (AC.i (↑(List.length L - 1 - j) : Int))] [] (Eff.mk (AV.c (AC.b (inB (elt L j) (↑(List.length L - 1 - j) : Int)))) [] none))) ∧ Kn.Low ⟨[(0, AV.c (AC.sl 0 0 (List.length L) c)), (32, AV.c (AC.sl 0 0 (List.length L) c)), (33, AV.c (AC.i (↑(List.length L) : Int))), (34, AV.c (AC.i (IntKind.wrap IntKind.i64 ((↑j : Int) + 1))))], [(0, Ent.mk false (pcell L) 0)], 1⟩ ∧ ART Try.prog 28 (cx w β n []) Try.f28.ntmps (cutAt Try.f28 1) ⟨[(0, AV.c (AC.sl 0 0 (List.length L) c)), (32, AV.c (AC.sl 0 0 (List.length L) c)), (33, AV.c (AC.i (↑(List.length L) : Int))), (34, AV.c (AC.i (IntKind.wrap IntKind.i64 ((↑j : Int) + 1))))], [(0, Ent.mk false (pcell L) 0)], 1⟩ (REff w β E)) :
    ART Try.prog 28 (cx w β n []) Try.f28.ntmps (cutAt Try.f28 1) (Kn.mk [(0, AV.c (AC.sl 0 0 (List.length L) c)), (32, AV.c (AC.sl 0 0 (List.length L) c)), (33, AV.c (AC.i (↑(List.length L) : Int))), (34, AV.c (AC.i (↑j : Int)))] [(0, Ent.mk false (pcell L) 0)] 1) (REff w β E) :=
  (tf (!inB (elt L j) (↑(List.length L - 1 - j) : Int))).elim (fun h0 => (match l0 h0 with | ⟨o0, o1, o2, c0, c1, c2, e⟩ => art_eq (ckB_w0 (and_yes o0 (and_yes o1 (and_yes o2 (and_yes h0 rfl)))) c0 c1 c2) e)) (fun h0 => (match l1 h0 with | ⟨o0, o1, o2, c0, c1, c2, lo, z⟩ => ckB_w1 (and_yes o0 (and_yes o1 (and_yes o2 (and_yes (not_yes h0) rfl)))) c0 c1 c2 lo (fun _ hk => Nat.lt_of_lt_of_le hk hn) z))
theorem ckBx_w0 {L : List Ins} {c : Nat} {j : Nat} {C : Cx} {R : Ending → World → Prop} (h : (!decide ((↑j : Int) < (↑(List.length L) : Int)) && true) = true) (lo : Kn.Low ⟨[(0, AV.c (AC.sl 0 0 (List.length L) c)), (48, AV.c (AC.sl 0 0 (List.length L) c)), (49, AV.c (AC.i (↑(List.length L) : Int))), (50, AV.c (AC.i 0))], [(0, Ent.mk false (pcell L) 0)], 1⟩) (hF : ∀ k, C.F k → k < 1) (z : ART Try.prog 28 C Try.f28.ntmps (cutAt Try.f28 2) ⟨[(0, AV.c (AC.sl 0 0 (List.length L) c)), (48, AV.c (AC.sl 0 0 (List.length L) c)), (49, AV.c (AC.i (↑(List.length L) : Int))), (50, AV.c (AC.i 0))], [(0, Ent.mk false (pcell L) 0)], 1⟩ R) :
    ART Try.prog 28 C Try.f28.ntmps (cutAt Try.f28 1) (Kn.mk [(0, AV.c (AC.sl 0 0 (List.length L) c)), (32, AV.c (AC.sl 0 0 (List.length L) c)), (33, AV.c (AC.i (↑(List.length L) : Int))), (34, AV.c (AC.i (↑j : Int)))] [(0, Ent.mk false (pcell L) 0)] 1) R :=
  run_cut ⟨[(0, AV.c (AC.sl 0 0 (List.length L) c)), (48, AV.c (AC.sl 0 0 (List.length L) c)), (49, AV.c (AC.i (↑(List.length L) : Int))), (50, AV.c (AC.i 0))], [(0, Ent.mk false (pcell L) 0)], 1⟩ 2000 [] [false] [true] [] Try.func28 (by kernel_rfl) h cr_nil lo hF z
theorem ckC_w0 {L : List Ins} {c : Nat} {j : Nat} {w : World} {β : Bs} {n : Nat} (h : (decide ((↑j : Int) < (↑(List.length L) : Int)) && (decide ((↑j : Int) < (↑(List.length L) : Int)) && (Nat.ble (0 + Int.toNat (↑j : Int) * 5 + 5) (List.length (pcell L)) && (!bareB (elt L j) && true)))) = true) (c0 : Eff.mk (AV.ag (List.take 5 (List.drop (0 + Int.toNat (↑j : Int) * 5) (pcell L)))) [] none = Eff.mk (AV.ag (Ins.cs (elt L j))) [] none) (c1 : CallOK Try.prog (CallRec.mk 56 [AV.ag (Ins.cs (elt L j))] [] (Eff.mk (AV.c (AC.b (bareB (elt L j)))) [] none))) :
    ART Try.prog 28 (cx w β n []) Try.f28.ntmps (cutAt Try.f28 2) (Kn.mk [(0, AV.c (AC.sl 0 0 (List.length L) c)), (48, AV.c (AC.sl 0 0 (List.length L) c)), (49, AV.c (AC.i (↑(List.length L) : Int))), (50, AV.c (AC.i (↑j : Int)))] [(0, Ent.mk false (pcell L) 0)] 1) (REff w β ⟨AV.c (AC.i 1), [], none⟩) :=
  run_eff [] (none) 2000 [Eff.mk (AV.ag (Ins.cs (elt L j))) [] none, Eff.mk (AV.c (AC.b (bareB (elt L j)))) [] none] [true, true] [true] [(17, 1)] Try.func28 (ekeys0 rfl n) (by kernel_rfl) h (cr_same c0 (cr_cons c1 cr_nil))
theorem ckC_w1 {L : List Ins} {c : Nat} {j : Nat} {C : Cx} {R : Ending → World → Prop} (h : (decide ((↑j : Int) < (↑(List.length L) : Int)) && (decide ((↑j : Int) < (↑(List.length L) : Int)) && (Nat.ble (0 + Int.toNat (↑j : Int) * 5 + 5) (List.length (pcell L)) && (!!bareB (elt L j) && true)))) = true) (c0 : Eff.mk (AV.ag (List.take 5 (List.drop (0 + Int.toNat (↑j : Int) * 5) (pcell L)))) [] none = Eff.mk (AV.ag (Ins.cs (elt L j))) [] none) (c1 : CallOK Try.prog (CallRec.mk 56 [AV.ag (Ins.cs (elt L j))] [] (Eff.mk (AV.c (AC.b (bareB (elt L j)))) [] none))) (lo : Kn.Low ⟨[(0, AV.c (AC.sl 0 0 (List.length L) c)), (48, AV.c (AC.sl 0 0 (List.length L) c)), (49, AV.c (AC.i (↑(List.length L) : Int))), (50, AV.c (AC.i (IntKind.wrap IntKind.i64 ((↑j : Int) + 1))))], [(0, Ent.mk false (pcell L) 0)], 1⟩) (hF : ∀ k, C.F k → k < 1) (z : ART Try.prog 28 C Try.f28.ntmps (cutAt Try.f28 2) ⟨[(0, AV.c (AC.sl 0 0 (List.length L) c)), (48, AV.c (AC.sl 0 0 (List.length L) c)), (49, AV.c (AC.i (↑(List.length L) : Int))), (50, AV.c (AC.i (IntKind.wrap IntKind.i64 ((↑j : Int) + 1))))], [(0, Ent.mk false (pcell L) 0)], 1⟩ R) :
    ART Try.prog 28 C Try.f28.ntmps (cutAt Try.f28 2) (Kn.mk [(0, AV.c (AC.sl 0 0 (List.length L) c)), (48, AV.c (AC.sl 0 0 (List.length L) c)), (49, AV.c (AC.i (↑(List.length L) : Int))), (50, AV.c (AC.i (↑j : Int)))] [(0, Ent.mk false (pcell L) 0)] 1) R :=
  run_cut ⟨[(0, AV.c (AC.sl 0 0 (List.length L) c)), (48, AV.c (AC.sl 0 0 (List.length L) c)), (49, AV.c (AC.i (↑(List.length L) : Int))), (50, AV.c (AC.i (IntKind.wrap IntKind.i64 ((↑j : Int) + 1))))], [(0, Ent.mk false (pcell L) 0)], 1⟩ 2000 [Eff.mk (AV.ag (Ins.cs (elt L j))) [] none, Eff.mk (AV.c (AC.b (bareB (elt L j)))) [] none] [true, false] [true] [(17, 1)] Try.func28 (by kernel_rfl) h (cr_same c0 (cr_cons c1 cr_nil)) lo hF z
theorem ckC_all {L : List Ins} {c : Nat} {j : Nat} {w : World} {β : Bs} {n : Nat} {E : Eff} (hn : n ≤ 1)
    (l0 : (!bareB (elt L j)) = true → (decide ((↑j : Int) < (↑(List.length L) : Int))) = true ∧ (decide ((↑j : Int) < (↑(List.length L) : Int))) = true ∧ (Nat.ble (0 + Int.toNat (↑j : Int) * 5 + 5) (List.length (pcell L))) = true ∧ (Eff.mk (AV.ag (List.take 5 (List.drop (0 + Int.toNat (↑j : Int) * 5) (pcell L)))) [] none = Eff.mk (AV.ag (Ins.cs (elt L j))) [] none) ∧ (CallOK Try.prog (CallRec.mk 56 [AV.ag (Ins.cs (elt L j))] [] (Eff.mk (AV.c (AC.b (bareB (elt L j)))) [] none))) ∧ ((⟨AV.c (AC.i 1), [], none⟩ : Eff) = E))
    (l1 : (!bareB (elt L j)) = false → (decide ((↑j : Int) < (↑(List.length L) : Int))) = true ∧ (decide ((↑j : Int) < (↑(List.length L) : Int))) = true ∧ (Nat.ble (0 + Int.toNat (↑j : Int) * 5 + 5) (List.length (pcell L))) = true ∧ (Eff.mk (AV.ag (List.take 5 (List.drop (0 + Int.toNat (↑j : Int) * 5) (pcell L)))) [] none = Eff.mk (AV.ag (Ins.cs (elt L j))) [] none) ∧ (CallOK Try.prog (CallRec.mk 56 [AV.ag (Ins.cs (elt L j))] [] (Eff.mk (AV.c (AC.b (bareB (elt L j)))) [] none))) ∧ Kn.Low ⟨[(0, AV.c (AC.sl 0 0 (List.length L) c)), (48, AV.c (AC.sl 0 0 (List.length L) c)), (49, AV.c (AC.i (↑(List.length L) : Int))), (50, AV.c (AC.i (IntKind.wrap IntKind.i64 ((↑j : Int) + 1))))], [(0, Ent.mk false (pcell L) 0)], 1⟩ ∧ ART Try.prog 28 (cx w β n []) Try.f28.ntmps (cutAt Try.f28 2) ⟨[(0, AV.c (AC.sl 0 0 (List.length L) c)), (48, AV.c (AC.sl 0 0 (List.length L) c)), (49, AV.c (AC.i (↑(List.length L) : Int))), (50, AV.c (AC.i (IntKind.wrap IntKind.i64 ((↑j : Int) + 1))))], [(0, Ent.mk false (pcell L) 0)], 1⟩ (REff w β E)) :
    ART Try.prog 28 (cx w β n []) Try.f28.ntmps (cutAt Try.f28 2) (Kn.mk [(0, AV.c (AC.sl 0 0 (List.length L) c)), (48, AV.c (AC.sl 0 0 (List.length L) c)), (49, AV.c (AC.i (↑(List.length L) : Int))), (50, AV.c (AC.i (↑j : Int)))] [(0, Ent.mk false (pcell L) 0)] 1) (REff w β E) :=
  (tf (!bareB (elt L j))).elim (fun h0 => (match l0 h0 with | ⟨o0, o1, o2, c0, c1, e⟩ => art_eq (ckC_w0 (and_yes o0 (and_yes o1 (and_yes o2 (and_yes h0 rfl)))) c0 c1) e)) (fun h0 => (match l1 h0 with | ⟨o0, o1, o2, c0, c1, lo, z⟩ => ckC_w1 (and_yes o0 (and_yes o1 (and_yes o2 (and_yes (not_yes h0) rfl)))) c0 c1 lo (fun _ hk => Nat.lt_of_lt_of_le hk hn) z))
theorem ckCx_w0 {L : List Ins} {c : Nat} {j : Nat} {w : World} {β : Bs} {n : Nat} (h : (!decide ((↑j : Int) < (↑(List.length L) : Int)) && (decide (0 ≤ IntKind.wrap IntKind.i64 ((↑(List.length L) : Int) - 1)) && decide (IntKind.wrap IntKind.i64 ((↑(List.length L) : Int) - 1) < (↑(List.length L) : Int)) && (AC.isI (Option.getD (pcell L)[0 + Int.toNat (IntKind.wrap IntKind.i64 ((↑(List.length L) : Int) - 1)) * 5 + 0]? (AC.b false)) && Nat.blt (0 + Int.toNat (IntKind.wrap IntKind.i64 ((↑(List.length L) : Int) - 1)) * 5 + 0) (List.length (pcell L)) && (lastOp L != 15 && true)))) = true) (c0 : Eff.mk (AV.c (AC.i (AC.asI (Option.getD (pcell L)[0 + Int.toNat (IntKind.wrap IntKind.i64 ((↑(List.length L) : Int) - 1)) * 5 + 0]? (AC.b false))))) [] none = Eff.mk (AV.c (AC.i (lastOp L))) [] none) :
    ART Try.prog 28 (cx w β n []) Try.f28.ntmps (cutAt Try.f28 2) (Kn.mk [(0, AV.c (AC.sl 0 0 (List.length L) c)), (48, AV.c (AC.sl 0 0 (List.length L) c)), (49, AV.c (AC.i (↑(List.length L) : Int))), (50, AV.c (AC.i (↑j : Int)))] [(0, Ent.mk false (pcell L) 0)] 1) (REff w β ⟨AV.c (AC.i 1), [], none⟩) :=
  run_eff [] (none) 2000 [Eff.mk (AV.c (AC.i (lastOp L))) [] none] [false, true] [true] [(21, 6)] Try.func28 (ekeys0 rfl n) (by kernel_rfl) h (cr_same c0 cr_nil)
theorem ckCx_w1 {L : List Ins} {c : Nat} {j : Nat} {w : World} {β : Bs} {n : Nat} (h : (!decide ((↑j : Int) < (↑(List.length L) : Int)) && (decide (0 ≤ IntKind.wrap IntKind.i64 ((↑(List.length L) : Int) - 1)) && decide (IntKind.wrap IntKind.i64 ((↑(List.length L) : Int) - 1) < (↑(List.length L) : Int)) && (AC.isI (Option.getD (pcell L)[0 + Int.toNat (IntKind.wrap IntKind.i64 ((↑(List.length L) : Int) - 1)) * 5 + 0]? (AC.b false)) && Nat.blt (0 + Int.toNat (IntKind.wrap IntKind.i64 ((↑(List.length L) : Int) - 1)) * 5 + 0) (List.length (pcell L)) && (!lastOp L != 15 && true)))) = true) (c0 : Eff.mk (AV.c (AC.i (AC.asI (Option.getD (pcell L)[0 + Int.toNat (IntKind.wrap IntKind.i64 ((↑(List.length L) : Int) - 1)) * 5 + 0]? (AC.b false))))) [] none = Eff.mk (AV.c (AC.i (lastOp L))) [] none) :
    ART Try.prog 28 (cx w β n []) Try.f28.ntmps (cutAt Try.f28 2) (Kn.mk [(0, AV.c (AC.sl 0 0 (List.length L) c)), (48, AV.c (AC.sl 0 0 (List.length L) c)), (49, AV.c (AC.i (↑(List.length L) : Int))), (50, AV.c (AC.i (↑j : Int)))] [(0, Ent.mk false (pcell L) 0)] 1) (REff w β ⟨AV.c (AC.i 0), [], none⟩) :=
  run_eff [] (none) 2000 [Eff.mk (AV.c (AC.i (lastOp L))) [] none] [false, false] [true] [(21, 6)] Try.func28 (ekeys0 rfl n) (by kernel_rfl) h (cr_same c0 cr_nil)
theorem ckCx_all {L : List Ins} {c : Nat} {j : Nat} {w : World} {β : Bs} {n : Nat} {E : Eff}
    (l0 : (lastOp L != 15) = true → (!decide ((↑j : Int) < (↑(List.length L) : Int))) = true ∧ (decide (0 ≤ IntKind.wrap IntKind.i64 ((↑(List.length L) : Int) - 1)) && decide (IntKind.wrap IntKind.i64 ((↑(List.length L) : Int) - 1) < (↑(List.length L) : Int))) = true ∧ (AC.isI (Option.getD (pcell L)[0 + Int.toNat (IntKind.wrap IntKind.i64 ((↑(List.length L) : Int) - 1)) * 5 + 0]? (AC.b false)) && Nat.blt (0 + Int.toNat (IntKind.wrap IntKind.i64 ((↑(List.length L) : Int) - 1)) * 5 + 0) (List.length (pcell L))) = true ∧ (Eff.mk (AV.c (AC.i (AC.asI (Option.getD (pcell L)[0 + Int.toNat (IntKind.wrap IntKind.i64 ((↑(List.length L) : Int) - 1)) * 5 + 0]? (AC.b false))))) [] none = Eff.mk (AV.c (AC.i (lastOp L))) [] none) ∧ ((⟨AV.c (AC.i 1), [], none⟩ : Eff) = E))
    (l1 : (lastOp L != 15) = false → (!decide ((↑j : Int) < (↑(List.length L) : Int))) = true ∧ (decide (0 ≤ IntKind.wrap IntKind.i64 ((↑(List.length L) : Int) - 1)) && decide (IntKind.wrap IntKind.i64 ((↑(List.length L) : Int) - 1) < (↑(List.length L) : Int))) = true ∧ (AC.isI (Option.getD (pcell L)[0 + Int.toNat (IntKind.wrap IntKind.i64 ((↑(List.length L) : Int) - 1)) * 5 + 0]? (AC.b false)) && Nat.blt (0 + Int.toNat (IntKind.wrap IntKind.i64 ((↑(List.length L) : Int) - 1)) * 5 + 0) (List.length (pcell L))) = true ∧ (Eff.mk (AV.c (AC.i (AC.asI (Option.getD (pcell L)[0 + Int.toNat (IntKind.wrap IntKind.i64 ((↑(List.length L) : Int) - 1)) * 5 + 0]? (AC.b false))))) [] none = Eff.mk (AV.c (AC.i (lastOp L))) [] none) ∧ ((⟨AV.c (AC.i 0), [], none⟩ : Eff) = E)) :
    ART Try.prog 28 (cx w β n []) Try.f28.ntmps (cutAt Try.f28 2) (Kn.mk [(0, AV.c (AC.sl 0 0 (List.length L) c)), (48, AV.c (AC.sl 0 0 (List.length L) c)), (49, AV.c (AC.i (↑(List.length L) : Int))), (50, AV.c (AC.i (↑j : Int)))] [(0, Ent.mk false (pcell L) 0)] 1) (REff w β E) :=
  (tf (lastOp L != 15)).elim (fun h0 => (match l0 h0 with | ⟨o0, o1, o2, c0, e⟩ => art_eq (ckCx_w0 (and_yes o0 (and_yes o1 (and_yes o2 (and_yes h0 rfl)))) c0) e)) (fun h0 => (match l1 h0 with | ⟨o0, o1, o2, c0, e⟩ => art_eq (ckCx_w1 (and_yes o0 (and_yes o1 (and_yes o2 (and_yes (not_yes h0) rfl)))) c0) e))
theorem ckNil_w0 :
    CallOK Try.prog ⟨28, [AV.c nilSl], [], ⟨AV.c (AC.i 2), [], none⟩⟩ :=
  val_run 2000 [] [true, true] [] [] Try.func28 rfl rfl rfl rfl (by kernel_rfl) rfl cr_nil
end Go.Proofs.Ytkigmocchaikgab

/- The contract of code.Check. -/
namespace Go.Proofs.Ytkigmocchaikgab
open Go.RowKit

section
variable {L : List Ins} {c : Nat} {w : World} {β : Bs} {E : Eff}
abbrev ckKn (L : List Ins) (c a b d : Nat) (j : Int) : Kn := ⟨[(0, .c (.sl 0 0 L.length c)), (a, .c (.sl 0 0 L.length c)), (b, .c (.i L.length)), (d, .c (.i j))], pH L, 1⟩
theorem ckA_loop (hL : L.length ≤ 64) : ∀ n j : Nat, j + n = L.length → ((L.drop j).all kindB = false → ⟨.c (.i 4), [], none⟩ = E) →
    ((L.drop j).all kindB = true → ART Try.prog 28 (cx w β 1 []) Try.f28.ntmps (cutAt Try.f28 1) (ckKn L c 32 33 34 0) (REff w β E)) →
    ART Try.prog 28 (cx w β 1 []) Try.f28.ntmps (cutAt Try.f28 0) (ckKn L c 17 18 19 j) (REff w β E)
  | 0, j, h, hy, hz => by
    refine ckAx_w0 (by rw [jn (by omega)]; rfl) (low_p rfl) (fun _ h => h) (hz ?_)
    rw [List.drop_eq_nil_of_le (by omega)]; rfl
  | n + 1, j, h, hy, hz => by
    have hj : j < L.length := by omega
    rw [drop_elt hj, List.all_cons] at hy hz
    refine ckA_all (by omega) (fun a => ⟨jl hj, jl hj, pble hj, elt_eff hj, hy ?_⟩) (fun a b => ⟨jl hj, jl hj, pble hj, elt_eff hj, hy ?_⟩) (fun a b => ⟨jl hj, jl hj, pble hj, elt_eff hj, low_p rfl, ?_⟩)
    · have : kindB (elt L j) = false := by simp at a; simp [kindB]; omega
      rw [this]; rfl
    · have : kindB (elt L j) = false := by simp at b; simp [kindB]; omega
      rw [this]; rfl
    · have : kindB (elt L j) = true := by simp at a b; simp [kindB]; omega
      rw [this] at hy hz
      rw [wrapS (by omega)]
      exact ckA_loop hL n (j + 1) (by omega) (fun h => hy h) (fun h => hz h)
theorem ckB_loop (hL : L.length ≤ 64) : ∀ n j : Nat, j + n = L.length → (inAll (L.drop j) = false → ⟨.c (.i 3), [], none⟩ = E) →
    (inAll (L.drop j) = true → ART Try.prog 28 (cx w β 1 []) Try.f28.ntmps (cutAt Try.f28 2) (ckKn L c 48 49 50 0) (REff w β E)) →
    ART Try.prog 28 (cx w β 1 []) Try.f28.ntmps (cutAt Try.f28 1) (ckKn L c 32 33 34 j) (REff w β E)
  | 0, j, h, hy, hz => by
    refine ckBx_w0 (by rw [jn (by omega)]; rfl) (low_p rfl) (fun _ h => h) (hz ?_)
    rw [List.drop_eq_nil_of_le (by omega)]; rfl
  | n + 1, j, h, hy, hz => by
    have hj : j < L.length := by omega
    have el : ((L.drop (j + 1)).length : Int) = ((L.length - 1 - j : Nat) : Int) := by rw [List.length_drop]; omega
    rw [drop_elt hj, inAll, el] at hy hz
    have ew : IntKind.wrap IntKind.i64 (IntKind.wrap IntKind.i64 ((L.length : Int) - 1) - (j : Int)) = ((L.length - 1 - j : Nat) : Int) := by
      rw [wrapN (n := (L.length : Int) - 1) (by omega) (by omega), wrapN (by omega) (by omega)]; omega
    have c1 : Eff.mk (AV.c (AC.i (IntKind.wrap IntKind.i64 (IntKind.wrap IntKind.i64 ((L.length : Int) - 1) - (j : Int))))) [] none = Eff.mk (AV.c (AC.i ((L.length - 1 - j : Nat) : Int))) [] none := by rw [ew]
    refine ckB_all (by omega) (fun a => ⟨jl hj, jl hj, pble hj, elt_eff hj, c1, inBounds_ok _ _, hy ?_⟩) (fun a => ⟨jl hj, jl hj, pble hj, elt_eff hj, c1, inBounds_ok _ _, low_p rfl, ?_⟩)
    · have : inB (elt L j) ((L.length - 1 - j : Nat) : Int) = false := by simpa using a
      rw [this]; rfl
    · have : inB (elt L j) ((L.length - 1 - j : Nat) : Int) = true := by simpa using a
      rw [this] at hy hz
      rw [wrapS (by omega)]
      exact ckB_loop hL n (j + 1) (by omega) (fun h => hy h) (fun h => hz h)
theorem lastOp_eff (h0 : 0 < L.length) (hL : L.length ≤ 64) : (pcell L)[0 + Int.toNat (IntKind.wrap IntKind.i64 ((L.length : Int) - 1)) * 5 + 0]? = some (.i (lastOp L)) := by
  rw [wrapN (by omega) (by omega), show (0 + ((L.length : Int) - 1).toNat * 5 + 0) = (L.length - 1) * 5 by omega]
  have h1 := pcell_op (L := L) (k := L.length - 1) (by omega) (.b false)
  have h2 : (L.length - 1) * 5 < (pcell L).length := by rw [pcell_length]; omega
  rw [List.getD_eq_getElem?_getD, List.getElem?_eq_getElem h2] at h1
  rw [List.getElem?_eq_getElem h2]
  refine congrArg some (h1.trans ?_)
  unfold lastOp elt
  rw [List.getLast?_eq_getElem?, List.getD_eq_getElem?_getD, List.getElem?_eq_getElem (by omega)]
  rfl
theorem ckC_loop (h0 : 0 < L.length) (hL : L.length ≤ 64) : ∀ n j : Nat, j + n = L.length → ((L.drop j).all bareB = false → ⟨.c (.i 1), [], none⟩ = E) →
    ((L.drop j).all bareB = true → ⟨.c (.i (if lastOp L ≠ 15 then 1 else 0)), [], none⟩ = E) →
    ART Try.prog 28 (cx w β 1 []) Try.f28.ntmps (cutAt Try.f28 2) (ckKn L c 48 49 50 j) (REff w β E)
  | 0, j, h, hy, hz => by
    have hz := hz (by rw [List.drop_eq_nil_of_le (by omega)]; rfl)
    have o0 : (!decide ((j : Int) < (L.length : Int))) = true := by rw [jn (by omega)]; rfl
    have o1 : (decide (0 ≤ IntKind.wrap IntKind.i64 ((L.length : Int) - 1)) && decide (IntKind.wrap IntKind.i64 ((L.length : Int) - 1) < (L.length : Int))) = true := by
      rw [wrapN (by omega) (by omega)]; simp; omega
    have o2 : (AC.isI (Option.getD (pcell L)[0 + Int.toNat (IntKind.wrap IntKind.i64 ((L.length : Int) - 1)) * 5 + 0]? (AC.b false)) && Nat.blt (0 + Int.toNat (IntKind.wrap IntKind.i64 ((L.length : Int) - 1)) * 5 + 0) (pcell L).length) = true := by
      rw [lastOp_eff h0 hL, wrapN (by omega) (by omega), pcell_length]; simp [AC.isI]; omega
    have c0 : Eff.mk (AV.c (AC.i (AC.asI (Option.getD (pcell L)[0 + Int.toNat (IntKind.wrap IntKind.i64 ((L.length : Int) - 1)) * 5 + 0]? (AC.b false))))) [] none = Eff.mk (AV.c (AC.i (lastOp L))) [] none := by rw [lastOp_eff h0 hL]; rfl
    refine ckCx_all (fun a => ⟨o0, o1, o2, c0, ?_⟩) (fun a => ⟨o0, o1, o2, c0, ?_⟩)
    · rw [← hz, if_pos (by simpa using a)]
    · rw [← hz, if_neg (by simpa using a)]
  | n + 1, j, h, hy, hz => by
    have hj : j < L.length := by omega
    rw [drop_elt hj, List.all_cons] at hy hz
    refine ckC_all (by omega) (fun a => ⟨jl hj, jl hj, pble hj, elt_eff hj, bare_ok _, hy ?_⟩) (fun a => ⟨jl hj, jl hj, pble hj, elt_eff hj, bare_ok _, low_p rfl, ?_⟩)
    · have : bareB (elt L j) = false := by simpa using a
      rw [this]; rfl
    · have : bareB (elt L j) = true := by simpa using a
      rw [this] at hy hz
      rw [wrapS (by omega)]
      exact ckC_loop h0 hL n (j + 1) (by omega) (fun h => hy h) (fun h => hz h)
end
theorem check_ok (L : List Ins) (c : Nat) : CallOK Try.prog ⟨28, [.c (.sl 0 0 L.length c)], pH L, ⟨.c (.i (codeErr L)), [], none⟩⟩ := by
  refine read_of Try.func28 rfl rfl (begin_p rfl) rfl ro_p fun w β => ?_
  refine ckTop_all (Nat.le_refl 1) (fun a => ?_) (fun a b => ?_) (fun a b => ⟨low_p rfl, ?_⟩)
  · unfold codeErr
    rw [if_pos (Or.inl (by simpa using a))]
  · unfold codeErr
    rw [if_pos (Or.inr (by simp at b; omega))]
  · have h0 : 0 < L.length := by
      have : ¬ ((L.length : Int) = 0) := by simpa using a
      omega
    have h1 : L.length ≤ 64 := by simp at b; omega
    unfold codeErr
    rw [if_neg (by omega)]
    refine ckA_loop h1 L.length 0 (by omega) (fun h => ?_) (fun h => ?_)
    · rw [if_pos (by simpa using h)]
    · rw [if_neg (by simpa using h)]
      refine ckB_loop h1 L.length 0 (by omega) (fun h => ?_) (fun h => ?_)
      · rw [if_pos (by simpa using h)]
      · rw [if_neg (by simpa using h)]
        refine ckC_loop h0 h1 L.length 0 (by omega) (fun h => ?_) (fun h => ?_)
        · rw [if_pos (by simpa using h)]
        · have e : ¬ (L.all bareB = false) := by simpa using h
          rw [if_neg e]
theorem check_nil : Ok 28 [.c nilSl] (.c (.i (codeErr []))) := ckNil_w0
end Go.Proofs.Ytkigmocchaikgab

/- The contracts of run.Check, run.Start, run.Step and run.Run. -/
namespace Go.Proofs.Ytkigmocchaikgab
open Go.RowKit

def startErr (mem : ByteArray) : Int := if mem.size ≠ 64 then 1 else 0
def startRes (mem : ByteArray) (x : BitVec 64) : Mach := if mem.size ≠ 64 then Mach.z else startM mem x
theorem start_ok (mem : ByteArray) (x : BitVec 64) : Ok 11 [.c (.s mem), .c (.u x)] (.tu [.ag (startRes mem x).cs, .c (.i (startErr mem))]) := by
  unfold startErr startRes
  refine start_all (fun a => ?_) (fun a => ⟨with_ok (m := ⟨0, V6.rep 0#64, no6, mem, 0⟩) (r := 1) x rfl, ?_⟩)
  · have h : mem.size ≠ 64 := by simp at a; omega
    rw [if_pos h, if_pos h]; rfl
  · have h : ¬ mem.size ≠ 64 := by simp at a; omega
    rw [if_neg h, if_neg h]; rfl
theorem right_at {L : List Ins} {t : Int} (h : RightP L) (h0 : 0 ≤ t) (h1 : t < L.length) : Right (insAt L t) ((L.length - 1 - t.toNat : Nat) : Int) := h.step t.toNat (by omega)
theorem insAt_eff {L : List Ins} {t : Int} (h0 : 0 ≤ t) (h1 : t < L.length) : Eff.mk (AV.ag (List.take 5 (List.drop (0 + Int.toNat t * 5) (pcell L)))) [] none = Eff.mk (AV.ag (insAt L t).cs) [] none := by
  rw [Nat.zero_add, pcell_elt (by omega)]; rfl
theorem pble_at {L : List Ins} {t : Int} (h0 : 0 ≤ t) (h1 : t < L.length) : Nat.ble (0 + Int.toNat t * 5 + 5) (pcell L).length = true := by
  rw [pcell_length, Nat.ble_eq]; omega
abbrev runKn (L : List Ins) (c : Nat) (m : Mach) (q : Int) : Kn := ⟨[(0, .c (.sl 0 0 L.length c)), (6, .c (.w 1)), (9, .c (.w 14)), (11, .c (.i q))], [(0, ⟨false, pcell L, 0⟩), (1, ⟨true, Outc.z.cs, 0⟩), (14, ⟨true, m.cs, 0⟩)], 15⟩
theorem run_low (L : List Ins) (c : Nat) (m : Mach) (q : Int) : Kn.Low (runKn L c m q) := low_n rfl rfl ⟨pcell_ks L, rfl, rfl, trivial⟩
/- where a run is -/
structure Goes (L : List Ins) (k : Nat) (m : Mach) : Prop where
  mem : m.mem.size = 64
  pos : 0 ≤ m.t
  lt : m.t < L.length
  left : L.length ≤ m.t + k
theorem goes_step {L : List Ins} {k : Nat} {m : Mach} (hP : RightP L) (h : Goes L (k + 1) m) (hf : m.fin = 0) : (stepM (insAt L m.t) m).fin = 0 → Goes L k (stepM (insAt L m.t) m) := by
  intro h0
  have hr := right_at hP h.pos h.lt
  have hp := hP.pos
  have h1 := h.pos
  have h2 := h.lt
  have h3 := h.left
  have hl : (insAt L m.t).op = 15 ∨ (0 : Int) < ((L.length - 1 - m.t.toNat : Nat) : Int) := by
    by_cases c : m.t.toNat = L.length - 1
    · left
      have := hP.last
      unfold insAt
      rw [c]; exact this
    · right; omega
  rcases stepM_at hr hl hf with h4 | ⟨_, h5, h6⟩
  · exact absurd h0 h4
  · exact ⟨stepM_mem hr h.mem, by omega, by omega, by omega⟩
theorem out3 {m : Mach} {q : Nat} (h : m.fin = 3) : outOf (m, q) = ⟨m.fin, m.t, q, m.r.x0, m.mem⟩ := by unfold outOf; rw [if_pos h]
theorem out_n {m : Mach} {q : Nat} (h : ¬ m.fin = 3) : outOf (m, q) = ⟨m.fin, m.t, q, 0#64, m.mem⟩ := by unfold outOf; rw [if_neg h]
theorem runM_end {L : List Ins} {m : Mach} (h : ¬ m.fin = 0) : ∀ (k q : Nat), runM L k m q = (m, q)
  | 0, _ => rfl
  | k + 1, q => by rw [runM, if_neg h]
theorem runM_go {L : List Ins} {m : Mach} (h : m.fin = 0) (k q : Nat) : runM L (k + 1) m q = runM L k (stepM (insAt L m.t) m) (q + 1) := by rw [runM, if_pos h]
theorem runLoop {L : List Ins} {c : Nat} (hP : RightP L) {w : World} {β : Bs} : ∀ (k : Nat) (m : Mach) (q : Nat), (m.fin = 0 → Goes L k m) → q + k ≤ 64 →
    ART Try.prog 9 (cx w β 1 []) Try.f9.ntmps (cutAt Try.f9 0) (runKn L c m q) (REff w β ⟨.tu [.ag (outOf (runM L k m q)).cs, .c (.i 0)], [], none⟩) := by
  intro k
  induction k with
  | zero =>
    intro m q hg _
    have hf : ¬ m.fin = 0 := fun h => by have := hg h; have h1 := this.lt; have h2 := this.left; omega
    refine runEnd_all (fun a => ⟨by simpa using hf, ?_⟩) (fun a => ⟨by simpa using hf, ?_⟩)
    · have a : m.fin = 3 := by simpa using a
      rw [runM_end hf, out3 a]; rfl
    · have a : ¬ m.fin = 3 := by simpa using a
      rw [runM_end hf, out_n a]; rfl
  | succ k ih =>
    intro m q hg hq
    by_cases hf : m.fin = 0
    · have g := hg hf
      have h1 := g.pos
      have h2 := g.lt
      have hr := right_at hP g.pos g.lt
      have hle := hP.le
      refine runRound_w0 ?_ (insAt_eff g.pos g.lt) (do_ok hr (by omega) g.mem (by omega)) (run_low _ _ _ _) (fun _ h => Nat.lt_of_lt_of_le h (by decide)) ?_
      · rw [pble_at g.pos g.lt]; simp [hf]; omega
      · have e : IntKind.wrap IntKind.i64 ((q : Int) + 1) = ((q + 1 : Nat) : Int) := by rw [wrapN (by omega) (by omega)]; omega
        have := ih (stepM (insAt L m.t) m) (q + 1) (goes_step hP g hf) (by omega)
        rw [e, runM_go hf]
        exact this
    · refine runEnd_all (fun a => ⟨by simpa using hf, ?_⟩) (fun a => ⟨by simpa using hf, ?_⟩)
      · have a : m.fin = 3 := by simpa using a
        rw [runM_end hf, out3 a]; rfl
      · have a : ¬ m.fin = 3 := by simpa using a
        rw [runM_end hf, out_n a]; rfl
theorem goes_start {L : List Ins} {mem : ByteArray} {x : BitVec 64} (hP : RightP L) (hm : mem.size = 64) : Goes L L.length (startM mem x) := ⟨hm, by show (0 : Int) ≤ 0; decide, by have := hP.pos; show (0 : Int) < _; omega, by show _ ≤ (0 : Int) + _; omega⟩
theorem run_ok (L : List Ins) (c : Nat) (mem : ByteArray) (x : BitVec 64) : CallOK Try.prog ⟨9, [.c (.sl 0 0 L.length c), .c (.s mem), .c (.u x)], pH L, ⟨.tu [.ag (runRes L mem x).cs, .c (.i (runErr L mem))], [], none⟩⟩ := by
  refine read_of Try.func9 rfl rfl (begin_p rfl) rfl ro_p fun w β => ?_
  have hst := start_ok mem x
  refine runTop_all (m := startRes mem x) (e := startErr mem) (by decide) (fun a => ⟨check_ok L c, ?_⟩) (fun a b => ⟨check_ok L c, hst, ?_⟩) (fun a b => ⟨check_ok L c, hst, run_low _ _ _ _, ?_⟩)
  · have a : codeErr L ≠ 0 := by simpa using a
    unfold runRes runErr
    rw [if_pos a, if_pos a]; rfl
  · have a : ¬ codeErr L ≠ 0 := by simpa using a
    have b : mem.size ≠ 64 := by
      intro h
      unfold startErr at b
      rw [if_neg (by simpa using h)] at b
      exact absurd b (by decide)
    unfold runRes runErr startErr
    rw [if_neg a, if_pos b, if_pos (by decide)]; rfl
  · have a : ¬ codeErr L ≠ 0 := by simpa using a
    have b : ¬ mem.size ≠ 64 := by
      intro h
      unfold startErr at b
      rw [if_pos h] at b
      exact absurd b (by decide)
    have hP := codeErr_zero (Decidable.not_not.1 a)
    have hE : runErr L mem = 0 := by unfold runErr; rw [if_neg a, if_neg b]
    unfold runRes startRes
    rw [hE, if_neg b, if_neg (by decide)]
    exact runLoop hP L.length _ 0 (fun _ => goes_start hP (Decidable.not_not.1 b)) (by have := hP.le; omega)
theorem run_nil (mem : ByteArray) (x : BitVec 64) : Ok 9 [.c nilSl, .c (.s mem), .c (.u x)] (.tu [.ag (runRes [] mem x).cs, .c (.i (runErr [] mem))]) := runNil_w0 check_nil
end Go.Proofs.Ytkigmocchaikgab

/- The contracts of what the laws themselves call. -/
namespace Go.Proofs.Ytkigmocchaikgab
open Go.RowKit

/- a contract that reads a program, under another key, whether it may be written or not -/
theorem p_at {P : Program} {f : Nat} {args args' : List AV} {L : List Ins} {e : Eff} (h : CallOK P ⟨f, args, pH L, e⟩) (K : Nat) (b : Bool) (ha : args.map (AV.ren (swp 0 K)) = args') (he : e.ren (swp 0 K) = e) : CallOK P ⟨f, args', [(K, ⟨b, pcell L, 0⟩)], e⟩ := by
  have h1 := h.ren (swp 0 K) (swp_inj 0 K)
  unfold CallRec.ren at h1
  simp only [ha, he] at h1
  refine h1.more ⟨fun k en hk => ?_⟩
  have e1 : renH (swp 0 K) (pH L) = [(K, ⟨false, pcell L, 0⟩)] := by
    show [(swp 0 K 0, Ent.mk false ((pcell L).map (AC.ren (swp 0 K))) 0)] = _
    rw [ren_nk _ (pcell_ks L)]
    rfl
  rw [e1, look_cons] at hk
  split at hk
  · rename_i hk'
    injection hk with hk
    subst hk hk'
    exact ⟨⟨b, pcell L, 0⟩, by rw [look_cons, if_pos rfl], rfl, fun h => (by cases h), Or.inl rfl⟩
  · cases hk
end Go.Proofs.Ytkigmocchaikgab
