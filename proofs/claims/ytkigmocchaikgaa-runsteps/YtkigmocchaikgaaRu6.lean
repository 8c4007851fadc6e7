import Derived.Test.YtkigmocchaikgaaRu2
import Derived.Test.YtkigmocchaikgaaProg
import Derived.Test.YtkigmocchaikgaaRu3
/- Ways of bodies, written by a program (ways.py): what each asks for, and hands back. -/
namespace Go.Proofs.Ytkigmocchaikgaa
open Go.RowKit

theorem branch_w0 {i : Ins} {m : Mach} {jp : Bool} (h : (jp && true) = true) (c0 : CallOK Try.prog (CallRec.mk 119 [AV.ag (Mach.cs m), AV.c (AC.i (Ins.of i))] [] (Eff.mk (AV.ag (Mach.cs (Mach.on m (Ins.of i)))) [] none))) :
    CallOK Try.prog ⟨120, [AV.ag (Ins.cs i), AV.ag (Mach.cs m), AV.c (AC.b jp)], [], ⟨AV.ag [AC.i (Mach.t m + 1 + Ins.of i), AC.u (V6.x0 (Mach.r m)), AC.u (V6.x1 (Mach.r m)), AC.u (V6.x2 (Mach.r m)), AC.u (V6.x3 (Mach.r m)), AC.u (V6.x4 (Mach.r m)), AC.u (V6.x5 (Mach.r m)), AC.b (V6.x0 (Mach.s m)), AC.b (V6.x1 (Mach.s m)), AC.b (V6.x2 (Mach.s m)), AC.b (V6.x3 (Mach.s m)), AC.b (V6.x4 (Mach.s m)), AC.b (V6.x5 (Mach.s m)), AC.s (Mach.mem m), AC.i (Mach.fin m)], [], none⟩⟩ :=
  val_run 2000 [Eff.mk (AV.ag (Mach.cs (Mach.on m (Ins.of i)))) [] none] [true] [] [] Try.func120 rfl rfl rfl rfl (by kernel_rfl) h (cr_cons c0 cr_nil)
theorem branch_w1 {i : Ins} {m : Mach} {jp : Bool} (h : (!jp && true) = true) (c0 : CallOK Try.prog (CallRec.mk 119 [AV.ag (Mach.cs m), AV.c (AC.i 0)] [] (Eff.mk (AV.ag (Mach.cs (Mach.on m 0))) [] none))) :
    CallOK Try.prog ⟨120, [AV.ag (Ins.cs i), AV.ag (Mach.cs m), AV.c (AC.b jp)], [], ⟨AV.ag [AC.i (Mach.t m + 1 + 0), AC.u (V6.x0 (Mach.r m)), AC.u (V6.x1 (Mach.r m)), AC.u (V6.x2 (Mach.r m)), AC.u (V6.x3 (Mach.r m)), AC.u (V6.x4 (Mach.r m)), AC.u (V6.x5 (Mach.r m)), AC.b (V6.x0 (Mach.s m)), AC.b (V6.x1 (Mach.s m)), AC.b (V6.x2 (Mach.s m)), AC.b (V6.x3 (Mach.s m)), AC.b (V6.x4 (Mach.s m)), AC.b (V6.x5 (Mach.s m)), AC.s (Mach.mem m), AC.i (Mach.fin m)], [], none⟩⟩ :=
  val_run 2000 [Eff.mk (AV.ag (Mach.cs (Mach.on m 0))) [] none] [false] [] [] Try.func120 rfl rfl rfl rfl (by kernel_rfl) h (cr_cons c0 cr_nil)
theorem branch_all {i : Ins} {m : Mach} {jp : Bool} {V : AV}
    (l0 : (jp) = true → (CallOK Try.prog (CallRec.mk 119 [AV.ag (Mach.cs m), AV.c (AC.i (Ins.of i))] [] (Eff.mk (AV.ag (Mach.cs (Mach.on m (Ins.of i)))) [] none))) ∧ (AV.ag [AC.i (Mach.t m + 1 + Ins.of i), AC.u (V6.x0 (Mach.r m)), AC.u (V6.x1 (Mach.r m)), AC.u (V6.x2 (Mach.r m)), AC.u (V6.x3 (Mach.r m)), AC.u (V6.x4 (Mach.r m)), AC.u (V6.x5 (Mach.r m)), AC.b (V6.x0 (Mach.s m)), AC.b (V6.x1 (Mach.s m)), AC.b (V6.x2 (Mach.s m)), AC.b (V6.x3 (Mach.s m)), AC.b (V6.x4 (Mach.s m)), AC.b (V6.x5 (Mach.s m)), AC.s (Mach.mem m), AC.i (Mach.fin m)] = V))
    (l1 : (jp) = false → (CallOK Try.prog (CallRec.mk 119 [AV.ag (Mach.cs m), AV.c (AC.i 0)] [] (Eff.mk (AV.ag (Mach.cs (Mach.on m 0))) [] none))) ∧ (AV.ag [AC.i (Mach.t m + 1 + 0), AC.u (V6.x0 (Mach.r m)), AC.u (V6.x1 (Mach.r m)), AC.u (V6.x2 (Mach.r m)), AC.u (V6.x3 (Mach.r m)), AC.u (V6.x4 (Mach.r m)), AC.u (V6.x5 (Mach.r m)), AC.b (V6.x0 (Mach.s m)), AC.b (V6.x1 (Mach.s m)), AC.b (V6.x2 (Mach.s m)), AC.b (V6.x3 (Mach.s m)), AC.b (V6.x4 (Mach.s m)), AC.b (V6.x5 (Mach.s m)), AC.s (Mach.mem m), AC.i (Mach.fin m)] = V)) :
    CallOK Try.prog ⟨120, [AV.ag (Ins.cs i), AV.ag (Mach.cs m), AV.c (AC.b jp)], [], ⟨V, [], none⟩⟩ :=
  (tf (jp)).elim (fun h0 => (match l0 h0 with | ⟨c0, e⟩ => ok_eq (branch_w0 (and_yes h0 rfl) c0) e)) (fun h0 => (match l1 h0 with | ⟨c0, e⟩ => ok_eq (branch_w1 (and_yes (not_yes h0) rfl) c0) e))
theorem reachL_w0 {d : Int} {s : Int} {of : Int} {im : BitVec 64} {m : Mach} (h : (decide (0 ≤ s) && decide (s < 6) && (AC.isU (Option.getD (Mach.cs m)[1 + Int.toNat s * 1]? (AC.b false)) && Nat.blt (1 + Int.toNat s * 1) (List.length (Mach.cs m)) && (farB (Ins.mk 10 d s im of) m && true))) = true) (c0 : Eff.mk (AV.c (AC.u (AC.asU (Option.getD (Mach.cs m)[1 + Int.toNat s * 1]? (AC.b false))))) [] none = Eff.mk (AV.c (AC.u (V6.get (Mach.r m) (Int.toNat s)))) [] none) (c1 : Eff.mk (AV.c (AC.u (badd (V6.get (Mach.r m) (Int.toNat s)) (BitVec.ofInt 64 of)))) [] none = Eff.mk (AV.c (AC.u (fromN (Ins.mk 10 d s im of) m))) [] none) (c2 : Eff.mk (AV.c (AC.b (decide (nv (bsub (64#64) im) < nv (fromN (Ins.mk 10 d s im of) m))))) [] none = Eff.mk (AV.c (AC.b (farB (Ins.mk 10 d s im of) m))) [] none) (c3 : CallOK Try.prog (CallRec.mk 117 [AV.ag (Mach.cs m), AV.c (AC.i 2)] [] (Eff.mk (AV.ag (Mach.cs (Mach.fine m 2))) [] none))) :
    CallOK Try.prog ⟨118, [AV.ag (Ins.cs (Ins.mk 10 d s im of)), AV.ag (Mach.cs m)], [], ⟨AV.ag [AC.i (Mach.t m), AC.u (V6.x0 (Mach.r m)), AC.u (V6.x1 (Mach.r m)), AC.u (V6.x2 (Mach.r m)), AC.u (V6.x3 (Mach.r m)), AC.u (V6.x4 (Mach.r m)), AC.u (V6.x5 (Mach.r m)), AC.b (V6.x0 (Mach.s m)), AC.b (V6.x1 (Mach.s m)), AC.b (V6.x2 (Mach.s m)), AC.b (V6.x3 (Mach.s m)), AC.b (V6.x4 (Mach.s m)), AC.b (V6.x5 (Mach.s m)), AC.s (Mach.mem m), AC.i 2], [], none⟩⟩ :=
  val_run 2000 [Eff.mk (AV.c (AC.u (V6.get (Mach.r m) (Int.toNat s)))) [] none, Eff.mk (AV.c (AC.u (fromN (Ins.mk 10 d s im of) m))) [] none, Eff.mk (AV.c (AC.b (farB (Ins.mk 10 d s im of) m))) [] none, Eff.mk (AV.ag (Mach.cs (Mach.fine m 2))) [] none] [false, true] [] [(4, 3), (4, 7), (5, 4), (8, 10), (8, 11)] Try.func118 rfl rfl rfl rfl (by kernel_rfl) h (cr_same c0 (cr_same c1 (cr_same c2 (cr_cons c3 cr_nil))))
theorem reachL_w1 {d : Int} {s : Int} {of : Int} {im : BitVec 64} {m : Mach} (h : (decide (0 ≤ s) && decide (s < 6) && (AC.isU (Option.getD (Mach.cs m)[1 + Int.toNat s * 1]? (AC.b false)) && Nat.blt (1 + Int.toNat s * 1) (List.length (Mach.cs m)) && (!farB (Ins.mk 10 d s im of) m && (decide ((nv (fromN (Ins.mk 10 d s im of) m)) ≤ (nv (badd (fromN (Ins.mk 10 d s im of) m) im))) && decide ((nv (badd (fromN (Ins.mk 10 d s im of) m) im)) ≤ (↑(ByteArray.size (Mach.mem m)) : Int)) && true)))) = true) (c0 : Eff.mk (AV.c (AC.u (AC.asU (Option.getD (Mach.cs m)[1 + Int.toNat s * 1]? (AC.b false))))) [] none = Eff.mk (AV.c (AC.u (V6.get (Mach.r m) (Int.toNat s)))) [] none) (c1 : Eff.mk (AV.c (AC.u (badd (V6.get (Mach.r m) (Int.toNat s)) (BitVec.ofInt 64 of)))) [] none = Eff.mk (AV.c (AC.u (fromN (Ins.mk 10 d s im of) m))) [] none) (c2 : Eff.mk (AV.c (AC.b (decide (nv (bsub (64#64) im) < nv (fromN (Ins.mk 10 d s im of) m))))) [] none = Eff.mk (AV.c (AC.b (farB (Ins.mk 10 d s im of) m))) [] none) (c3 : Eff.mk (AV.c (AC.s (ByteArray.extract (Mach.mem m) (Int.toNat ((nv (fromN (Ins.mk 10 d s im of) m)))) (Int.toNat ((nv (badd (fromN (Ins.mk 10 d s im of) m) im))))))) [] none = Eff.mk (AV.c (AC.s (ByteArray.extract (Mach.mem m) (BitVec.toNat (fromN (Ins.mk 10 d s im of) m)) (BitVec.toNat (fromN (Ins.mk 10 d s im of) m) + BitVec.toNat im)))) [] none) (c4 : Eff.mk (AV.c (AC.u (loadL (memL (ByteArray.extract (Mach.mem m) (BitVec.toNat (fromN (Ins.mk 10 d s im of) m)) (BitVec.toNat (fromN (Ins.mk 10 d s im of) m) + BitVec.toNat im)) 0 (ByteArray.size (ByteArray.extract (Mach.mem m) (BitVec.toNat (fromN (Ins.mk 10 d s im of) m)) (BitVec.toNat (fromN (Ins.mk 10 d s im of) m) + BitVec.toNat im))))))) [] none = Eff.mk (AV.c (AC.u (loadL (memL (Mach.mem m) (BitVec.toNat (fromN (Ins.mk 10 d s im of) m)) (BitVec.toNat im))))) [] none) (c5 : CallOK Try.prog (CallRec.mk 133 [AV.c (AC.s (ByteArray.extract (Mach.mem m) (BitVec.toNat (fromN (Ins.mk 10 d s im of) m)) (BitVec.toNat (fromN (Ins.mk 10 d s im of) m) + BitVec.toNat im)))] [] (Eff.mk (AV.c (AC.u (loadL (memL (ByteArray.extract (Mach.mem m) (BitVec.toNat (fromN (Ins.mk 10 d s im of) m)) (BitVec.toNat (fromN (Ins.mk 10 d s im of) m) + BitVec.toNat im)) 0 (ByteArray.size (ByteArray.extract (Mach.mem m) (BitVec.toNat (fromN (Ins.mk 10 d s im of) m)) (BitVec.toNat (fromN (Ins.mk 10 d s im of) m) + BitVec.toNat im))))))) [] none))) (c6 : CallOK Try.prog (CallRec.mk 103 [AV.ag (Mach.cs m), AV.c (AC.i d), AV.c (AC.u (loadL (memL (Mach.mem m) (BitVec.toNat (fromN (Ins.mk 10 d s im of) m)) (BitVec.toNat im))))] [] (Eff.mk (AV.ag (Mach.cs (Mach.wth m (Int.toNat d) (loadL (memL (Mach.mem m) (BitVec.toNat (fromN (Ins.mk 10 d s im of) m)) (BitVec.toNat im)))))) [] none))) (c7 : CallOK Try.prog (CallRec.mk 119 [AV.ag [AC.i (Mach.t m), AC.u (V6.x0 (V6.set (Mach.r m) (Int.toNat d) (loadL (memL (Mach.mem m) (BitVec.toNat (fromN (Ins.mk 10 d s im of) m)) (BitVec.toNat im))))), AC.u (V6.x1 (V6.set (Mach.r m) (Int.toNat d) (loadL (memL (Mach.mem m) (BitVec.toNat (fromN (Ins.mk 10 d s im of) m)) (BitVec.toNat im))))), AC.u (V6.x2 (V6.set (Mach.r m) (Int.toNat d) (loadL (memL (Mach.mem m) (BitVec.toNat (fromN (Ins.mk 10 d s im of) m)) (BitVec.toNat im))))), AC.u (V6.x3 (V6.set (Mach.r m) (Int.toNat d) (loadL (memL (Mach.mem m) (BitVec.toNat (fromN (Ins.mk 10 d s im of) m)) (BitVec.toNat im))))), AC.u (V6.x4 (V6.set (Mach.r m) (Int.toNat d) (loadL (memL (Mach.mem m) (BitVec.toNat (fromN (Ins.mk 10 d s im of) m)) (BitVec.toNat im))))), AC.u (V6.x5 (V6.set (Mach.r m) (Int.toNat d) (loadL (memL (Mach.mem m) (BitVec.toNat (fromN (Ins.mk 10 d s im of) m)) (BitVec.toNat im))))), AC.b (V6.x0 (V6.set (Mach.s m) (Int.toNat d) true)), AC.b (V6.x1 (V6.set (Mach.s m) (Int.toNat d) true)), AC.b (V6.x2 (V6.set (Mach.s m) (Int.toNat d) true)), AC.b (V6.x3 (V6.set (Mach.s m) (Int.toNat d) true)), AC.b (V6.x4 (V6.set (Mach.s m) (Int.toNat d) true)), AC.b (V6.x5 (V6.set (Mach.s m) (Int.toNat d) true)), AC.s (Mach.mem m), AC.i (Mach.fin m)], AV.c (AC.i 0)] [] (Eff.mk (AV.ag (Mach.cs (Mach.on (Mach.mk (Mach.t m) (V6.set (Mach.r m) (Int.toNat d) (loadL (memL (Mach.mem m) (BitVec.toNat (fromN (Ins.mk 10 d s im of) m)) (BitVec.toNat im)))) (V6.set (Mach.s m) (Int.toNat d) true) (Mach.mem m) (Mach.fin m)) 0))) [] none))) :
    CallOK Try.prog ⟨118, [AV.ag (Ins.cs (Ins.mk 10 d s im of)), AV.ag (Mach.cs m)], [], ⟨AV.ag [AC.i (Mach.t m + 1 + 0), AC.u (V6.x0 (V6.set (Mach.r m) (Int.toNat d) (loadL (memL (Mach.mem m) (BitVec.toNat (fromN (Ins.mk 10 d s im of) m)) (BitVec.toNat im))))), AC.u (V6.x1 (V6.set (Mach.r m) (Int.toNat d) (loadL (memL (Mach.mem m) (BitVec.toNat (fromN (Ins.mk 10 d s im of) m)) (BitVec.toNat im))))), AC.u (V6.x2 (V6.set (Mach.r m) (Int.toNat d) (loadL (memL (Mach.mem m) (BitVec.toNat (fromN (Ins.mk 10 d s im of) m)) (BitVec.toNat im))))), AC.u (V6.x3 (V6.set (Mach.r m) (Int.toNat d) (loadL (memL (Mach.mem m) (BitVec.toNat (fromN (Ins.mk 10 d s im of) m)) (BitVec.toNat im))))), AC.u (V6.x4 (V6.set (Mach.r m) (Int.toNat d) (loadL (memL (Mach.mem m) (BitVec.toNat (fromN (Ins.mk 10 d s im of) m)) (BitVec.toNat im))))), AC.u (V6.x5 (V6.set (Mach.r m) (Int.toNat d) (loadL (memL (Mach.mem m) (BitVec.toNat (fromN (Ins.mk 10 d s im of) m)) (BitVec.toNat im))))), AC.b (V6.x0 (V6.set (Mach.s m) (Int.toNat d) true)), AC.b (V6.x1 (V6.set (Mach.s m) (Int.toNat d) true)), AC.b (V6.x2 (V6.set (Mach.s m) (Int.toNat d) true)), AC.b (V6.x3 (V6.set (Mach.s m) (Int.toNat d) true)), AC.b (V6.x4 (V6.set (Mach.s m) (Int.toNat d) true)), AC.b (V6.x5 (V6.set (Mach.s m) (Int.toNat d) true)), AC.s (Mach.mem m), AC.i (Mach.fin m)], [], none⟩⟩ :=
  val_run 2000 [Eff.mk (AV.c (AC.u (V6.get (Mach.r m) (Int.toNat s)))) [] none, Eff.mk (AV.c (AC.u (fromN (Ins.mk 10 d s im of) m))) [] none, Eff.mk (AV.c (AC.b (farB (Ins.mk 10 d s im of) m))) [] none, Eff.mk (AV.c (AC.s (ByteArray.extract (Mach.mem m) (BitVec.toNat (fromN (Ins.mk 10 d s im of) m)) (BitVec.toNat (fromN (Ins.mk 10 d s im of) m) + BitVec.toNat im)))) [] none, Eff.mk (AV.c (AC.u (loadL (memL (ByteArray.extract (Mach.mem m) (BitVec.toNat (fromN (Ins.mk 10 d s im of) m)) (BitVec.toNat (fromN (Ins.mk 10 d s im of) m) + BitVec.toNat im)) 0 (ByteArray.size (ByteArray.extract (Mach.mem m) (BitVec.toNat (fromN (Ins.mk 10 d s im of) m)) (BitVec.toNat (fromN (Ins.mk 10 d s im of) m) + BitVec.toNat im))))))) [] none, Eff.mk (AV.c (AC.u (loadL (memL (Mach.mem m) (BitVec.toNat (fromN (Ins.mk 10 d s im of) m)) (BitVec.toNat im))))) [] none, Eff.mk (AV.ag (Mach.cs (Mach.wth m (Int.toNat d) (loadL (memL (Mach.mem m) (BitVec.toNat (fromN (Ins.mk 10 d s im of) m)) (BitVec.toNat im)))))) [] none, Eff.mk (AV.ag (Mach.cs (Mach.on (Mach.mk (Mach.t m) (V6.set (Mach.r m) (Int.toNat d) (loadL (memL (Mach.mem m) (BitVec.toNat (fromN (Ins.mk 10 d s im of) m)) (BitVec.toNat im)))) (V6.set (Mach.s m) (Int.toNat d) true) (Mach.mem m) (Mach.fin m)) 0))) [] none] [false, false, true] [] [(4, 3), (4, 7), (5, 4), (8, 10), (8, 11)] Try.func118 rfl rfl rfl rfl (by kernel_rfl) h (cr_same c0 (cr_same c1 (cr_same c2 (cr_same c3 (cr_same c4 (cr_cons c5 (cr_cons c6 (cr_cons c7 cr_nil))))))))
theorem reachL_all {d : Int} {s : Int} {of : Int} {im : BitVec 64} {m : Mach} {V : AV}
    (l0 : (farB (Ins.mk 10 d s im of) m) = true → (decide (0 ≤ s) && decide (s < 6)) = true ∧ (AC.isU (Option.getD (Mach.cs m)[1 + Int.toNat s * 1]? (AC.b false)) && Nat.blt (1 + Int.toNat s * 1) (List.length (Mach.cs m))) = true ∧ (Eff.mk (AV.c (AC.u (AC.asU (Option.getD (Mach.cs m)[1 + Int.toNat s * 1]? (AC.b false))))) [] none = Eff.mk (AV.c (AC.u (V6.get (Mach.r m) (Int.toNat s)))) [] none) ∧ (Eff.mk (AV.c (AC.u (badd (V6.get (Mach.r m) (Int.toNat s)) (BitVec.ofInt 64 of)))) [] none = Eff.mk (AV.c (AC.u (fromN (Ins.mk 10 d s im of) m))) [] none) ∧ (Eff.mk (AV.c (AC.b (decide (nv (bsub (64#64) im) < nv (fromN (Ins.mk 10 d s im of) m))))) [] none = Eff.mk (AV.c (AC.b (farB (Ins.mk 10 d s im of) m))) [] none) ∧ (CallOK Try.prog (CallRec.mk 117 [AV.ag (Mach.cs m), AV.c (AC.i 2)] [] (Eff.mk (AV.ag (Mach.cs (Mach.fine m 2))) [] none))) ∧ (AV.ag [AC.i (Mach.t m), AC.u (V6.x0 (Mach.r m)), AC.u (V6.x1 (Mach.r m)), AC.u (V6.x2 (Mach.r m)), AC.u (V6.x3 (Mach.r m)), AC.u (V6.x4 (Mach.r m)), AC.u (V6.x5 (Mach.r m)), AC.b (V6.x0 (Mach.s m)), AC.b (V6.x1 (Mach.s m)), AC.b (V6.x2 (Mach.s m)), AC.b (V6.x3 (Mach.s m)), AC.b (V6.x4 (Mach.s m)), AC.b (V6.x5 (Mach.s m)), AC.s (Mach.mem m), AC.i 2] = V))
    (l1 : (farB (Ins.mk 10 d s im of) m) = false → (decide (0 ≤ s) && decide (s < 6)) = true ∧ (AC.isU (Option.getD (Mach.cs m)[1 + Int.toNat s * 1]? (AC.b false)) && Nat.blt (1 + Int.toNat s * 1) (List.length (Mach.cs m))) = true ∧ (decide ((nv (fromN (Ins.mk 10 d s im of) m)) ≤ (nv (badd (fromN (Ins.mk 10 d s im of) m) im))) && decide ((nv (badd (fromN (Ins.mk 10 d s im of) m) im)) ≤ (↑(ByteArray.size (Mach.mem m)) : Int))) = true ∧ (Eff.mk (AV.c (AC.u (AC.asU (Option.getD (Mach.cs m)[1 + Int.toNat s * 1]? (AC.b false))))) [] none = Eff.mk (AV.c (AC.u (V6.get (Mach.r m) (Int.toNat s)))) [] none) ∧ (Eff.mk (AV.c (AC.u (badd (V6.get (Mach.r m) (Int.toNat s)) (BitVec.ofInt 64 of)))) [] none = Eff.mk (AV.c (AC.u (fromN (Ins.mk 10 d s im of) m))) [] none) ∧ (Eff.mk (AV.c (AC.b (decide (nv (bsub (64#64) im) < nv (fromN (Ins.mk 10 d s im of) m))))) [] none = Eff.mk (AV.c (AC.b (farB (Ins.mk 10 d s im of) m))) [] none) ∧ (Eff.mk (AV.c (AC.s (ByteArray.extract (Mach.mem m) (Int.toNat ((nv (fromN (Ins.mk 10 d s im of) m)))) (Int.toNat ((nv (badd (fromN (Ins.mk 10 d s im of) m) im))))))) [] none = Eff.mk (AV.c (AC.s (ByteArray.extract (Mach.mem m) (BitVec.toNat (fromN (Ins.mk 10 d s im of) m)) (BitVec.toNat (fromN (Ins.mk 10 d s im of) m) + BitVec.toNat im)))) [] none) ∧ (Eff.mk (AV.c (AC.u (loadL (memL (ByteArray.extract (Mach.mem m) (BitVec.toNat (fromN (Ins.mk 10 d s im of) m)) (BitVec.toNat (fromN (Ins.mk 10 d s im of) m) + BitVec.toNat im)) 0 (ByteArray.size (ByteArray.extract (Mach.mem m) (BitVec.toNat (fromN (Ins.mk 10 d s im of) m)) (BitVec.toNat (fromN (Ins.mk 10 d s im of) m) + BitVec.toNat im))))))) [] none = Eff.mk (AV.c (AC.u (loadL (memL (Mach.mem m) (BitVec.toNat (fromN (Ins.mk 10 d s im of) m)) (BitVec.toNat im))))) [] none) ∧ (CallOK Try.prog (CallRec.mk 133 [AV.c (AC.s (ByteArray.extract (Mach.mem m) (BitVec.toNat (fromN (Ins.mk 10 d s im of) m)) (BitVec.toNat (fromN (Ins.mk 10 d s im of) m) + BitVec.toNat im)))] [] (Eff.mk (AV.c (AC.u (loadL (memL (ByteArray.extract (Mach.mem m) (BitVec.toNat (fromN (Ins.mk 10 d s im of) m)) (BitVec.toNat (fromN (Ins.mk 10 d s im of) m) + BitVec.toNat im)) 0 (ByteArray.size (ByteArray.extract (Mach.mem m) (BitVec.toNat (fromN (Ins.mk 10 d s im of) m)) (BitVec.toNat (fromN (Ins.mk 10 d s im of) m) + BitVec.toNat im))))))) [] none))) ∧ (CallOK Try.prog (CallRec.mk 103 [AV.ag (Mach.cs m), AV.c (AC.i d), AV.c (AC.u (loadL (memL (Mach.mem m) (BitVec.toNat (fromN (Ins.mk 10 d s im of) m)) (BitVec.toNat im))))] [] (Eff.mk (AV.ag (Mach.cs (Mach.wth m (Int.toNat d) (loadL (memL (Mach.mem m) (BitVec.toNat (fromN (Ins.mk 10 d s im of) m)) (BitVec.toNat im)))))) [] none))) ∧ (CallOK Try.prog (CallRec.mk 119 [AV.ag [AC.i (Mach.t m), AC.u (V6.x0 (V6.set (Mach.r m) (Int.toNat d) (loadL (memL (Mach.mem m) (BitVec.toNat (fromN (Ins.mk 10 d s im of) m)) (BitVec.toNat im))))), AC.u (V6.x1 (V6.set (Mach.r m) (Int.toNat d) (loadL (memL (Mach.mem m) (BitVec.toNat (fromN (Ins.mk 10 d s im of) m)) (BitVec.toNat im))))), AC.u (V6.x2 (V6.set (Mach.r m) (Int.toNat d) (loadL (memL (Mach.mem m) (BitVec.toNat (fromN (Ins.mk 10 d s im of) m)) (BitVec.toNat im))))), AC.u (V6.x3 (V6.set (Mach.r m) (Int.toNat d) (loadL (memL (Mach.mem m) (BitVec.toNat (fromN (Ins.mk 10 d s im of) m)) (BitVec.toNat im))))), AC.u (V6.x4 (V6.set (Mach.r m) (Int.toNat d) (loadL (memL (Mach.mem m) (BitVec.toNat (fromN (Ins.mk 10 d s im of) m)) (BitVec.toNat im))))), AC.u (V6.x5 (V6.set (Mach.r m) (Int.toNat d) (loadL (memL (Mach.mem m) (BitVec.toNat (fromN (Ins.mk 10 d s im of) m)) (BitVec.toNat im))))), AC.b (V6.x0 (V6.set (Mach.s m) (Int.toNat d) true)), AC.b (V6.x1 (V6.set (Mach.s m) (Int.toNat d) true)), AC.b (V6.x2 (V6.set (Mach.s m) (Int.toNat d) true)), AC.b (V6.x3 (V6.set (Mach.s m) (Int.toNat d) true)), AC.b (V6.x4 (V6.set (Mach.s m) (Int.toNat d) true)), AC.b (V6.x5 (V6.set (Mach.s m) (Int.toNat d) true)), AC.s (Mach.mem m), AC.i (Mach.fin m)], AV.c (AC.i 0)] [] (Eff.mk (AV.ag (Mach.cs (Mach.on (Mach.mk (Mach.t m) (V6.set (Mach.r m) (Int.toNat d) (loadL (memL (Mach.mem m) (BitVec.toNat (fromN (Ins.mk 10 d s im of) m)) (BitVec.toNat im)))) (V6.set (Mach.s m) (Int.toNat d) true) (Mach.mem m) (Mach.fin m)) 0))) [] none))) ∧ (AV.ag [AC.i (Mach.t m + 1 + 0), AC.u (V6.x0 (V6.set (Mach.r m) (Int.toNat d) (loadL (memL (Mach.mem m) (BitVec.toNat (fromN (Ins.mk 10 d s im of) m)) (BitVec.toNat im))))), AC.u (V6.x1 (V6.set (Mach.r m) (Int.toNat d) (loadL (memL (Mach.mem m) (BitVec.toNat (fromN (Ins.mk 10 d s im of) m)) (BitVec.toNat im))))), AC.u (V6.x2 (V6.set (Mach.r m) (Int.toNat d) (loadL (memL (Mach.mem m) (BitVec.toNat (fromN (Ins.mk 10 d s im of) m)) (BitVec.toNat im))))), AC.u (V6.x3 (V6.set (Mach.r m) (Int.toNat d) (loadL (memL (Mach.mem m) (BitVec.toNat (fromN (Ins.mk 10 d s im of) m)) (BitVec.toNat im))))), AC.u (V6.x4 (V6.set (Mach.r m) (Int.toNat d) (loadL (memL (Mach.mem m) (BitVec.toNat (fromN (Ins.mk 10 d s im of) m)) (BitVec.toNat im))))), AC.u (V6.x5 (V6.set (Mach.r m) (Int.toNat d) (loadL (memL (Mach.mem m) (BitVec.toNat (fromN (Ins.mk 10 d s im of) m)) (BitVec.toNat im))))), AC.b (V6.x0 (V6.set (Mach.s m) (Int.toNat d) true)), AC.b (V6.x1 (V6.set (Mach.s m) (Int.toNat d) true)), AC.b (V6.x2 (V6.set (Mach.s m) (Int.toNat d) true)), AC.b (V6.x3 (V6.set (Mach.s m) (Int.toNat d) true)), AC.b (V6.x4 (V6.set (Mach.s m) (Int.toNat d) true)), AC.b (V6.x5 (V6.set (Mach.s m) (Int.toNat d) true)), AC.s (Mach.mem m), AC.i (Mach.fin m)] = V)) :
    CallOK Try.prog ⟨118, [AV.ag (Ins.cs (Ins.mk 10 d s im of)), AV.ag (Mach.cs m)], [], ⟨V, [], none⟩⟩ :=
  (tf (farB (Ins.mk 10 d s im of) m)).elim (fun h0 => (match l0 h0 with | ⟨o0, o1, c0, c1, c2, c3, e⟩ => ok_eq (reachL_w0 (and_yes o0 (and_yes o1 (and_yes h0 rfl))) c0 c1 c2 c3) e)) (fun h0 => (match l1 h0 with | ⟨o0, o1, o2, c0, c1, c2, c3, c4, c5, c6, c7, e⟩ => ok_eq (reachL_w1 (and_yes o0 (and_yes o1 (and_yes (not_yes h0) (and_yes o2 rfl)))) c0 c1 c2 c3 c4 c5 c6 c7) e))
theorem reachS_w0 {d : Int} {s : Int} {of : Int} {im : BitVec 64} {m : Mach} (h : (decide (0 ≤ d) && decide (d < 6) && (AC.isU (Option.getD (Mach.cs m)[1 + Int.toNat d * 1]? (AC.b false)) && Nat.blt (1 + Int.toNat d * 1) (List.length (Mach.cs m)) && (farB (Ins.mk 11 d s im of) m && true))) = true) (c0 : Eff.mk (AV.c (AC.u (AC.asU (Option.getD (Mach.cs m)[1 + Int.toNat d * 1]? (AC.b false))))) [] none = Eff.mk (AV.c (AC.u (V6.get (Mach.r m) (Int.toNat d)))) [] none) (c1 : Eff.mk (AV.c (AC.u (badd (V6.get (Mach.r m) (Int.toNat d)) (BitVec.ofInt 64 of)))) [] none = Eff.mk (AV.c (AC.u (fromN (Ins.mk 11 d s im of) m))) [] none) (c2 : Eff.mk (AV.c (AC.b (decide (nv (bsub (64#64) im) < nv (fromN (Ins.mk 11 d s im of) m))))) [] none = Eff.mk (AV.c (AC.b (farB (Ins.mk 11 d s im of) m))) [] none) (c3 : CallOK Try.prog (CallRec.mk 117 [AV.ag (Mach.cs m), AV.c (AC.i 2)] [] (Eff.mk (AV.ag (Mach.cs (Mach.fine m 2))) [] none))) :
    CallOK Try.prog ⟨118, [AV.ag (Ins.cs (Ins.mk 11 d s im of)), AV.ag (Mach.cs m)], [], ⟨AV.ag [AC.i (Mach.t m), AC.u (V6.x0 (Mach.r m)), AC.u (V6.x1 (Mach.r m)), AC.u (V6.x2 (Mach.r m)), AC.u (V6.x3 (Mach.r m)), AC.u (V6.x4 (Mach.r m)), AC.u (V6.x5 (Mach.r m)), AC.b (V6.x0 (Mach.s m)), AC.b (V6.x1 (Mach.s m)), AC.b (V6.x2 (Mach.s m)), AC.b (V6.x3 (Mach.s m)), AC.b (V6.x4 (Mach.s m)), AC.b (V6.x5 (Mach.s m)), AC.s (Mach.mem m), AC.i 2], [], none⟩⟩ :=
  val_run 2000 [Eff.mk (AV.c (AC.u (V6.get (Mach.r m) (Int.toNat d)))) [] none, Eff.mk (AV.c (AC.u (fromN (Ins.mk 11 d s im of) m))) [] none, Eff.mk (AV.c (AC.b (farB (Ins.mk 11 d s im of) m))) [] none, Eff.mk (AV.ag (Mach.cs (Mach.fine m 2))) [] none] [true, true] [] [(4, 3), (4, 7), (5, 4), (9, 3), (9, 8), (9, 19), (9, 20)] Try.func118 rfl rfl rfl rfl (by kernel_rfl) h (cr_same c0 (cr_same c1 (cr_same c2 (cr_cons c3 cr_nil))))
theorem reachS_w1 {d : Int} {s : Int} {of : Int} {im : BitVec 64} {m : Mach} (h : (decide (0 ≤ d) && decide (d < 6) && (AC.isU (Option.getD (Mach.cs m)[1 + Int.toNat d * 1]? (AC.b false)) && Nat.blt (1 + Int.toNat d * 1) (List.length (Mach.cs m)) && (!farB (Ins.mk 11 d s im of) m && (decide ((nv (fromN (Ins.mk 11 d s im of) m)) ≤ (↑(ByteArray.size (Mach.mem m)) : Int)) && (decide (0 ≤ s) && decide (s < 6) && (AC.isU (Option.getD (Mach.cs m)[1 + Int.toNat s * 1]? (AC.b false)) && Nat.blt (1 + Int.toNat s * 1) (List.length (Mach.cs m)) && (decide (ByteArray.size (ByteArray.extract (Mach.mem m) 0 (BitVec.toNat (fromN (Ins.mk 11 d s im of) m))) + ByteArray.size (strOf (storeL (V6.get (Mach.r m) (Int.toNat s)) (BitVec.toNat im))) ≤ 9223372036854775807) && (decide ((nv (badd (fromN (Ins.mk 11 d s im of) m) im)) ≤ (↑(ByteArray.size (Mach.mem m)) : Int)) && decide ((↑(ByteArray.size (Mach.mem m)) : Int) ≤ (↑(ByteArray.size (Mach.mem m)) : Int)) && (decide (ByteArray.size (ByteArray.extract (Mach.mem m) 0 (BitVec.toNat (fromN (Ins.mk 11 d s im of) m)) ++ strOf (storeL (V6.get (Mach.r m) (Int.toNat s)) (BitVec.toNat im))) + ByteArray.size (ByteArray.extract (Mach.mem m) (BitVec.toNat (fromN (Ins.mk 11 d s im of) m) + BitVec.toNat im) (ByteArray.size (Mach.mem m))) ≤ 9223372036854775807) && true))))))))) = true) (c0 : Eff.mk (AV.c (AC.u (AC.asU (Option.getD (Mach.cs m)[1 + Int.toNat d * 1]? (AC.b false))))) [] none = Eff.mk (AV.c (AC.u (V6.get (Mach.r m) (Int.toNat d)))) [] none) (c1 : Eff.mk (AV.c (AC.u (badd (V6.get (Mach.r m) (Int.toNat d)) (BitVec.ofInt 64 of)))) [] none = Eff.mk (AV.c (AC.u (fromN (Ins.mk 11 d s im of) m))) [] none) (c2 : Eff.mk (AV.c (AC.b (decide (nv (bsub (64#64) im) < nv (fromN (Ins.mk 11 d s im of) m))))) [] none = Eff.mk (AV.c (AC.b (farB (Ins.mk 11 d s im of) m))) [] none) (c3 : Eff.mk (AV.c (AC.s (ByteArray.extract (Mach.mem m) 0 (Int.toNat ((nv (fromN (Ins.mk 11 d s im of) m))))))) [] none = Eff.mk (AV.c (AC.s (ByteArray.extract (Mach.mem m) 0 (BitVec.toNat (fromN (Ins.mk 11 d s im of) m))))) [] none) (c4 : Eff.mk (AV.c (AC.u (AC.asU (Option.getD (Mach.cs m)[1 + Int.toNat s * 1]? (AC.b false))))) [] none = Eff.mk (AV.c (AC.u (V6.get (Mach.r m) (Int.toNat s)))) [] none) (c5 : CallOK Try.prog (CallRec.mk 134 [AV.c (AC.u (V6.get (Mach.r m) (Int.toNat s))), AV.c (AC.u im)] [] (Eff.mk (AV.c (AC.s (strOf (storeL (V6.get (Mach.r m) (Int.toNat s)) (BitVec.toNat im))))) [] none))) (c6 : Eff.mk (AV.c (AC.s (ByteArray.extract (Mach.mem m) (Int.toNat ((nv (badd (fromN (Ins.mk 11 d s im of) m) im)))) (Int.toNat ((↑(ByteArray.size (Mach.mem m)) : Int)))))) [] none = Eff.mk (AV.c (AC.s (ByteArray.extract (Mach.mem m) (BitVec.toNat (fromN (Ins.mk 11 d s im of) m) + BitVec.toNat im) (ByteArray.size (Mach.mem m))))) [] none) (c7 : Eff.mk (AV.c (AC.s (ByteArray.extract (Mach.mem m) 0 (BitVec.toNat (fromN (Ins.mk 11 d s im of) m)) ++ strOf (storeL (V6.get (Mach.r m) (Int.toNat s)) (BitVec.toNat im)) ++ ByteArray.extract (Mach.mem m) (BitVec.toNat (fromN (Ins.mk 11 d s im of) m) + BitVec.toNat im) (ByteArray.size (Mach.mem m))))) [] none = Eff.mk (AV.c (AC.s (putMem (Mach.mem m) (BitVec.toNat (fromN (Ins.mk 11 d s im of) m)) (BitVec.toNat im) (V6.get (Mach.r m) (Int.toNat s))))) [] none) (c8 : CallOK Try.prog (CallRec.mk 119 [AV.ag [AC.i (Mach.t m), AC.u (V6.x0 (Mach.r m)), AC.u (V6.x1 (Mach.r m)), AC.u (V6.x2 (Mach.r m)), AC.u (V6.x3 (Mach.r m)), AC.u (V6.x4 (Mach.r m)), AC.u (V6.x5 (Mach.r m)), AC.b (V6.x0 (Mach.s m)), AC.b (V6.x1 (Mach.s m)), AC.b (V6.x2 (Mach.s m)), AC.b (V6.x3 (Mach.s m)), AC.b (V6.x4 (Mach.s m)), AC.b (V6.x5 (Mach.s m)), AC.s (putMem (Mach.mem m) (BitVec.toNat (fromN (Ins.mk 11 d s im of) m)) (BitVec.toNat im) (V6.get (Mach.r m) (Int.toNat s))), AC.i (Mach.fin m)], AV.c (AC.i 0)] [] (Eff.mk (AV.ag (Mach.cs (Mach.on (Mach.mk (Mach.t m) (Mach.r m) (Mach.s m) (putMem (Mach.mem m) (BitVec.toNat (fromN (Ins.mk 11 d s im of) m)) (BitVec.toNat im) (V6.get (Mach.r m) (Int.toNat s))) (Mach.fin m)) 0))) [] none))) :
    CallOK Try.prog ⟨118, [AV.ag (Ins.cs (Ins.mk 11 d s im of)), AV.ag (Mach.cs m)], [], ⟨AV.ag [AC.i (Mach.t m + 1 + 0), AC.u (V6.x0 (Mach.r m)), AC.u (V6.x1 (Mach.r m)), AC.u (V6.x2 (Mach.r m)), AC.u (V6.x3 (Mach.r m)), AC.u (V6.x4 (Mach.r m)), AC.u (V6.x5 (Mach.r m)), AC.b (V6.x0 (Mach.s m)), AC.b (V6.x1 (Mach.s m)), AC.b (V6.x2 (Mach.s m)), AC.b (V6.x3 (Mach.s m)), AC.b (V6.x4 (Mach.s m)), AC.b (V6.x5 (Mach.s m)), AC.s (putMem (Mach.mem m) (BitVec.toNat (fromN (Ins.mk 11 d s im of) m)) (BitVec.toNat im) (V6.get (Mach.r m) (Int.toNat s))), AC.i (Mach.fin m)], [], none⟩⟩ :=
  val_run 2000 [Eff.mk (AV.c (AC.u (V6.get (Mach.r m) (Int.toNat d)))) [] none, Eff.mk (AV.c (AC.u (fromN (Ins.mk 11 d s im of) m))) [] none, Eff.mk (AV.c (AC.b (farB (Ins.mk 11 d s im of) m))) [] none, Eff.mk (AV.c (AC.s (ByteArray.extract (Mach.mem m) 0 (BitVec.toNat (fromN (Ins.mk 11 d s im of) m))))) [] none, Eff.mk (AV.c (AC.u (V6.get (Mach.r m) (Int.toNat s)))) [] none, Eff.mk (AV.c (AC.s (strOf (storeL (V6.get (Mach.r m) (Int.toNat s)) (BitVec.toNat im))))) [] none, Eff.mk (AV.c (AC.s (ByteArray.extract (Mach.mem m) (BitVec.toNat (fromN (Ins.mk 11 d s im of) m) + BitVec.toNat im) (ByteArray.size (Mach.mem m))))) [] none, Eff.mk (AV.c (AC.s (putMem (Mach.mem m) (BitVec.toNat (fromN (Ins.mk 11 d s im of) m)) (BitVec.toNat im) (V6.get (Mach.r m) (Int.toNat s))))) [] none, Eff.mk (AV.ag (Mach.cs (Mach.on (Mach.mk (Mach.t m) (Mach.r m) (Mach.s m) (putMem (Mach.mem m) (BitVec.toNat (fromN (Ins.mk 11 d s im of) m)) (BitVec.toNat im) (V6.get (Mach.r m) (Int.toNat s))) (Mach.fin m)) 0))) [] none] [true, false, false] [] [(4, 3), (4, 7), (5, 4), (9, 3), (9, 8), (9, 19), (9, 20)] Try.func118 rfl rfl rfl rfl (by kernel_rfl) h (cr_same c0 (cr_same c1 (cr_same c2 (cr_same c3 (cr_same c4 (cr_cons c5 (cr_same c6 (cr_same c7 (cr_cons c8 cr_nil)))))))))
theorem reachS_all {d : Int} {s : Int} {of : Int} {im : BitVec 64} {m : Mach} {V : AV}
    (l0 : (farB (Ins.mk 11 d s im of) m) = true → (decide (0 ≤ d) && decide (d < 6)) = true ∧ (AC.isU (Option.getD (Mach.cs m)[1 + Int.toNat d * 1]? (AC.b false)) && Nat.blt (1 + Int.toNat d * 1) (List.length (Mach.cs m))) = true ∧ (Eff.mk (AV.c (AC.u (AC.asU (Option.getD (Mach.cs m)[1 + Int.toNat d * 1]? (AC.b false))))) [] none = Eff.mk (AV.c (AC.u (V6.get (Mach.r m) (Int.toNat d)))) [] none) ∧ (Eff.mk (AV.c (AC.u (badd (V6.get (Mach.r m) (Int.toNat d)) (BitVec.ofInt 64 of)))) [] none = Eff.mk (AV.c (AC.u (fromN (Ins.mk 11 d s im of) m))) [] none) ∧ (Eff.mk (AV.c (AC.b (decide (nv (bsub (64#64) im) < nv (fromN (Ins.mk 11 d s im of) m))))) [] none = Eff.mk (AV.c (AC.b (farB (Ins.mk 11 d s im of) m))) [] none) ∧ (CallOK Try.prog (CallRec.mk 117 [AV.ag (Mach.cs m), AV.c (AC.i 2)] [] (Eff.mk (AV.ag (Mach.cs (Mach.fine m 2))) [] none))) ∧ (AV.ag [AC.i (Mach.t m), AC.u (V6.x0 (Mach.r m)), AC.u (V6.x1 (Mach.r m)), AC.u (V6.x2 (Mach.r m)), AC.u (V6.x3 (Mach.r m)), AC.u (V6.x4 (Mach.r m)), AC.u (V6.x5 (Mach.r m)), AC.b (V6.x0 (Mach.s m)), AC.b (V6.x1 (Mach.s m)), AC.b (V6.x2 (Mach.s m)), AC.b (V6.x3 (Mach.s m)), AC.b (V6.x4 (Mach.s m)), AC.b (V6.x5 (Mach.s m)), AC.s (Mach.mem m), AC.i 2] = V))
    (l1 : (farB (Ins.mk 11 d s im of) m) = false → (decide (0 ≤ d) && decide (d < 6)) = true ∧ (AC.isU (Option.getD (Mach.cs m)[1 + Int.toNat d * 1]? (AC.b false)) && Nat.blt (1 + Int.toNat d * 1) (List.length (Mach.cs m))) = true ∧ (decide ((nv (fromN (Ins.mk 11 d s im of) m)) ≤ (↑(ByteArray.size (Mach.mem m)) : Int))) = true ∧ (decide (0 ≤ s) && decide (s < 6)) = true ∧ (AC.isU (Option.getD (Mach.cs m)[1 + Int.toNat s * 1]? (AC.b false)) && Nat.blt (1 + Int.toNat s * 1) (List.length (Mach.cs m))) = true ∧ (decide (ByteArray.size (ByteArray.extract (Mach.mem m) 0 (BitVec.toNat (fromN (Ins.mk 11 d s im of) m))) + ByteArray.size (strOf (storeL (V6.get (Mach.r m) (Int.toNat s)) (BitVec.toNat im))) ≤ 9223372036854775807)) = true ∧ (decide ((nv (badd (fromN (Ins.mk 11 d s im of) m) im)) ≤ (↑(ByteArray.size (Mach.mem m)) : Int)) && decide ((↑(ByteArray.size (Mach.mem m)) : Int) ≤ (↑(ByteArray.size (Mach.mem m)) : Int))) = true ∧ (decide (ByteArray.size (ByteArray.extract (Mach.mem m) 0 (BitVec.toNat (fromN (Ins.mk 11 d s im of) m)) ++ strOf (storeL (V6.get (Mach.r m) (Int.toNat s)) (BitVec.toNat im))) + ByteArray.size (ByteArray.extract (Mach.mem m) (BitVec.toNat (fromN (Ins.mk 11 d s im of) m) + BitVec.toNat im) (ByteArray.size (Mach.mem m))) ≤ 9223372036854775807)) = true ∧ (Eff.mk (AV.c (AC.u (AC.asU (Option.getD (Mach.cs m)[1 + Int.toNat d * 1]? (AC.b false))))) [] none = Eff.mk (AV.c (AC.u (V6.get (Mach.r m) (Int.toNat d)))) [] none) ∧ (Eff.mk (AV.c (AC.u (badd (V6.get (Mach.r m) (Int.toNat d)) (BitVec.ofInt 64 of)))) [] none = Eff.mk (AV.c (AC.u (fromN (Ins.mk 11 d s im of) m))) [] none) ∧ (Eff.mk (AV.c (AC.b (decide (nv (bsub (64#64) im) < nv (fromN (Ins.mk 11 d s im of) m))))) [] none = Eff.mk (AV.c (AC.b (farB (Ins.mk 11 d s im of) m))) [] none) ∧ (Eff.mk (AV.c (AC.s (ByteArray.extract (Mach.mem m) 0 (Int.toNat ((nv (fromN (Ins.mk 11 d s im of) m))))))) [] none = Eff.mk (AV.c (AC.s (ByteArray.extract (Mach.mem m) 0 (BitVec.toNat (fromN (Ins.mk 11 d s im of) m))))) [] none) ∧ (Eff.mk (AV.c (AC.u (AC.asU (Option.getD (Mach.cs m)[1 + Int.toNat s * 1]? (AC.b false))))) [] none = Eff.mk (AV.c (AC.u (V6.get (Mach.r m) (Int.toNat s)))) [] none) ∧ (CallOK Try.prog (CallRec.mk 134 [AV.c (AC.u (V6.get (Mach.r m) (Int.toNat s))), AV.c (AC.u im)] [] (Eff.mk (AV.c (AC.s (strOf (storeL (V6.get (Mach.r m) (Int.toNat s)) (BitVec.toNat im))))) [] none))) ∧ (Eff.mk (AV.c (AC.s (ByteArray.extract (Mach.mem m) (Int.toNat ((nv (badd (fromN (Ins.mk 11 d s im of) m) im)))) (Int.toNat ((↑(ByteArray.size (Mach.mem m)) : Int)))))) [] none = Eff.mk (AV.c (AC.s (ByteArray.extract (Mach.mem m) (BitVec.toNat (fromN (Ins.mk 11 d s im of) m) + BitVec.toNat im) (ByteArray.size (Mach.mem m))))) [] none) ∧ (Eff.mk (AV.c (AC.s (ByteArray.extract (Mach.mem m) 0 (BitVec.toNat (fromN (Ins.mk 11 d s im of) m)) ++ strOf (storeL (V6.get (Mach.r m) (Int.toNat s)) (BitVec.toNat im)) ++ ByteArray.extract (Mach.mem m) (BitVec.toNat (fromN (Ins.mk 11 d s im of) m) + BitVec.toNat im) (ByteArray.size (Mach.mem m))))) [] none = Eff.mk (AV.c (AC.s (putMem (Mach.mem m) (BitVec.toNat (fromN (Ins.mk 11 d s im of) m)) (BitVec.toNat im) (V6.get (Mach.r m) (Int.toNat s))))) [] none) ∧ (CallOK Try.prog (CallRec.mk 119 [AV.ag [AC.i (Mach.t m), AC.u (V6.x0 (Mach.r m)), AC.u (V6.x1 (Mach.r m)), AC.u (V6.x2 (Mach.r m)), AC.u (V6.x3 (Mach.r m)), AC.u (V6.x4 (Mach.r m)), AC.u (V6.x5 (Mach.r m)), AC.b (V6.x0 (Mach.s m)), AC.b (V6.x1 (Mach.s m)), AC.b (V6.x2 (Mach.s m)), AC.b (V6.x3 (Mach.s m)), AC.b (V6.x4 (Mach.s m)), AC.b (V6.x5 (Mach.s m)), AC.s (putMem (Mach.mem m) (BitVec.toNat (fromN (Ins.mk 11 d s im of) m)) (BitVec.toNat im) (V6.get (Mach.r m) (Int.toNat s))), AC.i (Mach.fin m)], AV.c (AC.i 0)] [] (Eff.mk (AV.ag (Mach.cs (Mach.on (Mach.mk (Mach.t m) (Mach.r m) (Mach.s m) (putMem (Mach.mem m) (BitVec.toNat (fromN (Ins.mk 11 d s im of) m)) (BitVec.toNat im) (V6.get (Mach.r m) (Int.toNat s))) (Mach.fin m)) 0))) [] none))) ∧ (AV.ag [AC.i (Mach.t m + 1 + 0), AC.u (V6.x0 (Mach.r m)), AC.u (V6.x1 (Mach.r m)), AC.u (V6.x2 (Mach.r m)), AC.u (V6.x3 (Mach.r m)), AC.u (V6.x4 (Mach.r m)), AC.u (V6.x5 (Mach.r m)), AC.b (V6.x0 (Mach.s m)), AC.b (V6.x1 (Mach.s m)), AC.b (V6.x2 (Mach.s m)), AC.b (V6.x3 (Mach.s m)), AC.b (V6.x4 (Mach.s m)), AC.b (V6.x5 (Mach.s m)), AC.s (putMem (Mach.mem m) (BitVec.toNat (fromN (Ins.mk 11 d s im of) m)) (BitVec.toNat im) (V6.get (Mach.r m) (Int.toNat s))), AC.i (Mach.fin m)] = V)) :
    CallOK Try.prog ⟨118, [AV.ag (Ins.cs (Ins.mk 11 d s im of)), AV.ag (Mach.cs m)], [], ⟨V, [], none⟩⟩ :=
  (tf (farB (Ins.mk 11 d s im of) m)).elim (fun h0 => (match l0 h0 with | ⟨o0, o1, c0, c1, c2, c3, e⟩ => ok_eq (reachS_w0 (and_yes o0 (and_yes o1 (and_yes h0 rfl))) c0 c1 c2 c3) e)) (fun h0 => (match l1 h0 with | ⟨o0, o1, o2, o3, o4, o5, o6, o7, c0, c1, c2, c3, c4, c5, c6, c7, c8, e⟩ => ok_eq (reachS_w1 (and_yes o0 (and_yes o1 (and_yes (not_yes h0) (and_yes o2 (and_yes o3 (and_yes o4 (and_yes o5 (and_yes o6 (and_yes o7 rfl))))))))) c0 c1 c2 c3 c4 c5 c6 c7 c8) e))
end Go.Proofs.Ytkigmocchaikgaa

/- Ways of bodies, written by a program (ways.py): what each asks for, and hands back. -/
namespace Go.Proofs.Ytkigmocchaikgaa
open Go.RowKit

theorem doTop_w0 {i : Ins} {m : Mach} {C : Cx} {R : Ending → World → Prop} (c0 : CallOK Try.prog (CallRec.mk 116 [AV.ag (Ins.cs i)] [] (Eff.mk (AV.ag (bcs (useOf i))) [] none))) (lo : Kn.Low ⟨[(2, AV.c (AC.w 0)), (3, AV.c (AC.w 1)), (4, AV.c (AC.w 2)), (8, AV.ag (bcs (useOf i))), (9, AV.c (AC.i 0))], [(0, Ent.mk true (Ins.cs i) 0), (1, Ent.mk true (Mach.cs m) 0), (2, Ent.mk true [AC.i 0, AC.u 0#64, AC.u 0#64, AC.u 0#64, AC.u 0#64, AC.u 0#64, AC.u 0#64, AC.b false, AC.b false, AC.b false, AC.b false, AC.b false, AC.b false, AC.s (ByteArray.mk #[]), AC.i 0] 0)], 3⟩) (hF : ∀ k, C.F k → k < 3) (z : ART Try.prog 102 C Try.f102.ntmps (cutAt Try.f102 0) ⟨[(2, AV.c (AC.w 0)), (3, AV.c (AC.w 1)), (4, AV.c (AC.w 2)), (8, AV.ag (bcs (useOf i))), (9, AV.c (AC.i 0))], [(0, Ent.mk true (Ins.cs i) 0), (1, Ent.mk true (Mach.cs m) 0), (2, Ent.mk true [AC.i 0, AC.u 0#64, AC.u 0#64, AC.u 0#64, AC.u 0#64, AC.u 0#64, AC.u 0#64, AC.b false, AC.b false, AC.b false, AC.b false, AC.b false, AC.b false, AC.s (ByteArray.mk #[]), AC.i 0] 0)], 3⟩ R) :
    ART Try.prog 102 C Try.f102.ntmps ([Item.code (bodyOf Try.f102)]) (Kn.start [AV.ag (Ins.cs i), AV.ag (Mach.cs m)] [] 0) R :=
  run_cut ⟨[(2, AV.c (AC.w 0)), (3, AV.c (AC.w 1)), (4, AV.c (AC.w 2)), (8, AV.ag (bcs (useOf i))), (9, AV.c (AC.i 0))], [(0, Ent.mk true (Ins.cs i) 0), (1, Ent.mk true (Mach.cs m) 0), (2, Ent.mk true [AC.i 0, AC.u 0#64, AC.u 0#64, AC.u 0#64, AC.u 0#64, AC.u 0#64, AC.u 0#64, AC.b false, AC.b false, AC.b false, AC.b false, AC.b false, AC.b false, AC.s (ByteArray.mk #[]), AC.i 0] 0)], 3⟩ 2000 [Eff.mk (AV.ag (bcs (useOf i))) [] none] [] [true] [] Try.func102 (by kernel_rfl) rfl (cr_cons c0 cr_nil) lo hF z
theorem doRound_w0 {i : Ins} {m : Mach} {u : V6 Bool} {j : Int} {w : World} {β : Bs} {n : Nat} (h : (decide (j < 6) && (AC.isB (Option.getD (bcs u)[Int.toNat j * 1]? (AC.b false)) && Nat.blt (Int.toNat j * 1) (List.length (bcs u)) && (decide (0 ≤ j) && decide (j < 6)) && (V6.get u (Int.toNat j) && (decide (0 ≤ j) && decide (j < 6) && (AC.isB (Option.getD (Mach.cs m)[7 + Int.toNat j * 1]? (AC.b false)) && Nat.blt (7 + Int.toNat j * 1) (List.length (Mach.cs m)) && (!V6.get (Mach.s m) (Int.toNat j) && true)))))) = true) (c0 : Eff.mk (AV.c (AC.b (AC.asB (Option.getD (bcs u)[Int.toNat j * 1]? (AC.b false))))) [] none = Eff.mk (AV.c (AC.b (V6.get u (Int.toNat j)))) [] none) (c1 : Eff.mk (AV.c (AC.b (AC.asB (Option.getD (Mach.cs m)[7 + Int.toNat j * 1]? (AC.b false))))) [] none = Eff.mk (AV.c (AC.b (V6.get (Mach.s m) (Int.toNat j)))) [] none) (c2 : CallOK Try.prog (CallRec.mk 117 [AV.ag (Mach.cs m), AV.c (AC.i 1)] [] (Eff.mk (AV.ag (Mach.cs (Mach.fine m 1))) [] none))) :
    ART Try.prog 102 (cx w β n []) Try.f102.ntmps (cutAt Try.f102 0) (Kn.mk [(2, AV.c (AC.w 0)), (3, AV.c (AC.w 1)), (4, AV.c (AC.w 2)), (8, AV.ag (bcs u)), (9, AV.c (AC.i j))] [(0, Ent.mk true (Ins.cs i) 0), (1, Ent.mk true (Mach.cs m) 0), (2, Ent.mk true (Mach.cs Mach.z) 0)] 3) (REff w β ⟨AV.ag [AC.i (Mach.t m), AC.u (V6.x0 (Mach.r m)), AC.u (V6.x1 (Mach.r m)), AC.u (V6.x2 (Mach.r m)), AC.u (V6.x3 (Mach.r m)), AC.u (V6.x4 (Mach.r m)), AC.u (V6.x5 (Mach.r m)), AC.b (V6.x0 (Mach.s m)), AC.b (V6.x1 (Mach.s m)), AC.b (V6.x2 (Mach.s m)), AC.b (V6.x3 (Mach.s m)), AC.b (V6.x4 (Mach.s m)), AC.b (V6.x5 (Mach.s m)), AC.s (Mach.mem m), AC.i 1], [], none⟩) :=
  run_eff [] (none) 2000 [Eff.mk (AV.c (AC.b (V6.get u (Int.toNat j)))) [] none, Eff.mk (AV.c (AC.b (V6.get (Mach.s m) (Int.toNat j)))) [] none, Eff.mk (AV.ag (Mach.cs (Mach.fine m 1))) [] none] [true, true, true] [true] [(3, 1), (4, 5)] Try.func102 (ekeys0 rfl n) (by kernel_rfl) h (cr_same c0 (cr_same c1 (cr_cons c2 cr_nil)))
theorem doRound_w1 {i : Ins} {m : Mach} {u : V6 Bool} {j : Int} {C : Cx} {R : Ending → World → Prop} (h : (decide (j < 6) && (AC.isB (Option.getD (bcs u)[Int.toNat j * 1]? (AC.b false)) && Nat.blt (Int.toNat j * 1) (List.length (bcs u)) && (decide (0 ≤ j) && decide (j < 6)) && (V6.get u (Int.toNat j) && (decide (0 ≤ j) && decide (j < 6) && (AC.isB (Option.getD (Mach.cs m)[7 + Int.toNat j * 1]? (AC.b false)) && Nat.blt (7 + Int.toNat j * 1) (List.length (Mach.cs m)) && (!!V6.get (Mach.s m) (Int.toNat j) && true)))))) = true) (c0 : Eff.mk (AV.c (AC.b (AC.asB (Option.getD (bcs u)[Int.toNat j * 1]? (AC.b false))))) [] none = Eff.mk (AV.c (AC.b (V6.get u (Int.toNat j)))) [] none) (c1 : Eff.mk (AV.c (AC.b (AC.asB (Option.getD (Mach.cs m)[7 + Int.toNat j * 1]? (AC.b false))))) [] none = Eff.mk (AV.c (AC.b (V6.get (Mach.s m) (Int.toNat j)))) [] none) (lo : Kn.Low ⟨[(2, AV.c (AC.w 0)), (3, AV.c (AC.w 1)), (4, AV.c (AC.w 2)), (8, AV.ag (bcs u)), (9, AV.c (AC.i (IntKind.wrap IntKind.i64 (j + 1))))], [(0, Ent.mk true (Ins.cs i) 0), (1, Ent.mk true (Mach.cs m) 0), (2, Ent.mk true (Mach.cs Mach.z) 0)], 3⟩) (hF : ∀ k, C.F k → k < 3) (z : ART Try.prog 102 C Try.f102.ntmps (cutAt Try.f102 0) ⟨[(2, AV.c (AC.w 0)), (3, AV.c (AC.w 1)), (4, AV.c (AC.w 2)), (8, AV.ag (bcs u)), (9, AV.c (AC.i (IntKind.wrap IntKind.i64 (j + 1))))], [(0, Ent.mk true (Ins.cs i) 0), (1, Ent.mk true (Mach.cs m) 0), (2, Ent.mk true (Mach.cs Mach.z) 0)], 3⟩ R) :
    ART Try.prog 102 C Try.f102.ntmps (cutAt Try.f102 0) (Kn.mk [(2, AV.c (AC.w 0)), (3, AV.c (AC.w 1)), (4, AV.c (AC.w 2)), (8, AV.ag (bcs u)), (9, AV.c (AC.i j))] [(0, Ent.mk true (Ins.cs i) 0), (1, Ent.mk true (Mach.cs m) 0), (2, Ent.mk true (Mach.cs Mach.z) 0)] 3) R :=
  run_cut ⟨[(2, AV.c (AC.w 0)), (3, AV.c (AC.w 1)), (4, AV.c (AC.w 2)), (8, AV.ag (bcs u)), (9, AV.c (AC.i (IntKind.wrap IntKind.i64 (j + 1))))], [(0, Ent.mk true (Ins.cs i) 0), (1, Ent.mk true (Mach.cs m) 0), (2, Ent.mk true (Mach.cs Mach.z) 0)], 3⟩ 2000 [Eff.mk (AV.c (AC.b (V6.get u (Int.toNat j)))) [] none, Eff.mk (AV.c (AC.b (V6.get (Mach.s m) (Int.toNat j)))) [] none] [true, true, false] [true] [(3, 1), (4, 5)] Try.func102 (by kernel_rfl) h (cr_same c0 (cr_same c1 cr_nil)) lo hF z
theorem doRound_w2 {i : Ins} {m : Mach} {u : V6 Bool} {j : Int} {C : Cx} {R : Ending → World → Prop} (h : (decide (j < 6) && (AC.isB (Option.getD (bcs u)[Int.toNat j * 1]? (AC.b false)) && Nat.blt (Int.toNat j * 1) (List.length (bcs u)) && (decide (0 ≤ j) && decide (j < 6)) && (!V6.get u (Int.toNat j) && true))) = true) (c0 : Eff.mk (AV.c (AC.b (AC.asB (Option.getD (bcs u)[Int.toNat j * 1]? (AC.b false))))) [] none = Eff.mk (AV.c (AC.b (V6.get u (Int.toNat j)))) [] none) (lo : Kn.Low ⟨[(2, AV.c (AC.w 0)), (3, AV.c (AC.w 1)), (4, AV.c (AC.w 2)), (8, AV.ag (bcs u)), (9, AV.c (AC.i (IntKind.wrap IntKind.i64 (j + 1))))], [(0, Ent.mk true (Ins.cs i) 0), (1, Ent.mk true (Mach.cs m) 0), (2, Ent.mk true (Mach.cs Mach.z) 0)], 3⟩) (hF : ∀ k, C.F k → k < 3) (z : ART Try.prog 102 C Try.f102.ntmps (cutAt Try.f102 0) ⟨[(2, AV.c (AC.w 0)), (3, AV.c (AC.w 1)), (4, AV.c (AC.w 2)), (8, AV.ag (bcs u)), (9, AV.c (AC.i (IntKind.wrap IntKind.i64 (j + 1))))], [(0, Ent.mk true (Ins.cs i) 0), (1, Ent.mk true (Mach.cs m) 0), (2, Ent.mk true (Mach.cs Mach.z) 0)], 3⟩ R) :
    ART Try.prog 102 C Try.f102.ntmps (cutAt Try.f102 0) (Kn.mk [(2, AV.c (AC.w 0)), (3, AV.c (AC.w 1)), (4, AV.c (AC.w 2)), (8, AV.ag (bcs u)), (9, AV.c (AC.i j))] [(0, Ent.mk true (Ins.cs i) 0), (1, Ent.mk true (Mach.cs m) 0), (2, Ent.mk true (Mach.cs Mach.z) 0)] 3) R :=
  run_cut ⟨[(2, AV.c (AC.w 0)), (3, AV.c (AC.w 1)), (4, AV.c (AC.w 2)), (8, AV.ag (bcs u)), (9, AV.c (AC.i (IntKind.wrap IntKind.i64 (j + 1))))], [(0, Ent.mk true (Ins.cs i) 0), (1, Ent.mk true (Mach.cs m) 0), (2, Ent.mk true (Mach.cs Mach.z) 0)], 3⟩ 2000 [Eff.mk (AV.c (AC.b (V6.get u (Int.toNat j)))) [] none] [true, false, false] [true] [(3, 1), (4, 5)] Try.func102 (by kernel_rfl) h (cr_same c0 cr_nil) lo hF z
theorem doRound_all {i : Ins} {m : Mach} {u : V6 Bool} {j : Int} {w : World} {β : Bs} {n : Nat} {E : Eff} (hn : n ≤ 3)
    (l0 : (V6.get u (Int.toNat j)) = true → (!V6.get (Mach.s m) (Int.toNat j)) = true → (decide (j < 6)) = true ∧ (AC.isB (Option.getD (bcs u)[Int.toNat j * 1]? (AC.b false)) && Nat.blt (Int.toNat j * 1) (List.length (bcs u)) && (decide (0 ≤ j) && decide (j < 6))) = true ∧ (decide (0 ≤ j) && decide (j < 6)) = true ∧ (AC.isB (Option.getD (Mach.cs m)[7 + Int.toNat j * 1]? (AC.b false)) && Nat.blt (7 + Int.toNat j * 1) (List.length (Mach.cs m))) = true ∧ (Eff.mk (AV.c (AC.b (AC.asB (Option.getD (bcs u)[Int.toNat j * 1]? (AC.b false))))) [] none = Eff.mk (AV.c (AC.b (V6.get u (Int.toNat j)))) [] none) ∧ (Eff.mk (AV.c (AC.b (AC.asB (Option.getD (Mach.cs m)[7 + Int.toNat j * 1]? (AC.b false))))) [] none = Eff.mk (AV.c (AC.b (V6.get (Mach.s m) (Int.toNat j)))) [] none) ∧ (CallOK Try.prog (CallRec.mk 117 [AV.ag (Mach.cs m), AV.c (AC.i 1)] [] (Eff.mk (AV.ag (Mach.cs (Mach.fine m 1))) [] none))) ∧ ((⟨AV.ag [AC.i (Mach.t m), AC.u (V6.x0 (Mach.r m)), AC.u (V6.x1 (Mach.r m)), AC.u (V6.x2 (Mach.r m)), AC.u (V6.x3 (Mach.r m)), AC.u (V6.x4 (Mach.r m)), AC.u (V6.x5 (Mach.r m)), AC.b (V6.x0 (Mach.s m)), AC.b (V6.x1 (Mach.s m)), AC.b (V6.x2 (Mach.s m)), AC.b (V6.x3 (Mach.s m)), AC.b (V6.x4 (Mach.s m)), AC.b (V6.x5 (Mach.s m)), AC.s (Mach.mem m), AC.i 1], [], none⟩ : Eff) = E))
    (l1 : (V6.get u (Int.toNat j)) = true → (!V6.get (Mach.s m) (Int.toNat j)) = false → (decide (j < 6)) = true ∧ (AC.isB (Option.getD (bcs u)[Int.toNat j * 1]? (AC.b false)) && Nat.blt (Int.toNat j * 1) (List.length (bcs u)) && (decide (0 ≤ j) && decide (j < 6))) = true ∧ (decide (0 ≤ j) && decide (j < 6)) = true ∧ (AC.isB (Option.getD (Mach.cs m)[7 + Int.toNat j * 1]? (AC.b false)) && Nat.blt (7 + Int.toNat j * 1) (List.length (Mach.cs m))) = true ∧ (Eff.mk (AV.c (AC.b (AC.asB (Option.getD (bcs u)[Int.toNat j * 1]? (AC.b false))))) [] none = Eff.mk (AV.c (AC.b (V6.get u (Int.toNat j)))) [] none) ∧ (Eff.mk (AV.c (AC.b (AC.asB (Option.getD (Mach.cs m)[7 + Int.toNat j * 1]? (AC.b false))))) [] none = Eff.mk (AV.c (AC.b (V6.get (Mach.s m) (Int.toNat j)))) [] none) ∧ Kn.Low ⟨[(2, AV.c (AC.w 0)), (3, AV.c (AC.w 1)), (4, AV.c (AC.w 2)), (8, AV.ag (bcs u)), (9, AV.c (AC.i (IntKind.wrap IntKind.i64 (j + 1))))], [(0, Ent.mk true (Ins.cs i) 0), (1, Ent.mk true (Mach.cs m) 0), (2, Ent.mk true (Mach.cs Mach.z) 0)], 3⟩ ∧ ART Try.prog 102 (cx w β n []) Try.f102.ntmps (cutAt Try.f102 0) ⟨[(2, AV.c (AC.w 0)), (3, AV.c (AC.w 1)), (4, AV.c (AC.w 2)), (8, AV.ag (bcs u)), (9, AV.c (AC.i (IntKind.wrap IntKind.i64 (j + 1))))], [(0, Ent.mk true (Ins.cs i) 0), (1, Ent.mk true (Mach.cs m) 0), (2, Ent.mk true (Mach.cs Mach.z) 0)], 3⟩ (REff w β E))
    (l2 : (V6.get u (Int.toNat j)) = false → (decide (j < 6)) = true ∧ (AC.isB (Option.getD (bcs u)[Int.toNat j * 1]? (AC.b false)) && Nat.blt (Int.toNat j * 1) (List.length (bcs u)) && (decide (0 ≤ j) && decide (j < 6))) = true ∧ (Eff.mk (AV.c (AC.b (AC.asB (Option.getD (bcs u)[Int.toNat j * 1]? (AC.b false))))) [] none = Eff.mk (AV.c (AC.b (V6.get u (Int.toNat j)))) [] none) ∧ Kn.Low ⟨[(2, AV.c (AC.w 0)), (3, AV.c (AC.w 1)), (4, AV.c (AC.w 2)), (8, AV.ag (bcs u)), (9, AV.c (AC.i (IntKind.wrap IntKind.i64 (j + 1))))], [(0, Ent.mk true (Ins.cs i) 0), (1, Ent.mk true (Mach.cs m) 0), (2, Ent.mk true (Mach.cs Mach.z) 0)], 3⟩ ∧ ART Try.prog 102 (cx w β n []) Try.f102.ntmps (cutAt Try.f102 0) ⟨[(2, AV.c (AC.w 0)), (3, AV.c (AC.w 1)), (4, AV.c (AC.w 2)), (8, AV.ag (bcs u)), (9, AV.c (AC.i (IntKind.wrap IntKind.i64 (j + 1))))], [(0, Ent.mk true (Ins.cs i) 0), (1, Ent.mk true (Mach.cs m) 0), (2, Ent.mk true (Mach.cs Mach.z) 0)], 3⟩ (REff w β E)) :
    ART Try.prog 102 (cx w β n []) Try.f102.ntmps (cutAt Try.f102 0) (Kn.mk [(2, AV.c (AC.w 0)), (3, AV.c (AC.w 1)), (4, AV.c (AC.w 2)), (8, AV.ag (bcs u)), (9, AV.c (AC.i j))] [(0, Ent.mk true (Ins.cs i) 0), (1, Ent.mk true (Mach.cs m) 0), (2, Ent.mk true (Mach.cs Mach.z) 0)] 3) (REff w β E) :=
  (tf (V6.get u (Int.toNat j))).elim (fun h0 => (tf (!V6.get (Mach.s m) (Int.toNat j))).elim (fun h1 => (match l0 h0 h1 with | ⟨o0, o1, o2, o3, c0, c1, c2, e⟩ => art_eq (doRound_w0 (and_yes o0 (and_yes o1 (and_yes h0 (and_yes o2 (and_yes o3 (and_yes h1 rfl)))))) c0 c1 c2) e)) (fun h1 => (match l1 h0 h1 with | ⟨o0, o1, o2, o3, c0, c1, lo, z⟩ => doRound_w1 (and_yes o0 (and_yes o1 (and_yes h0 (and_yes o2 (and_yes o3 (and_yes (not_yes h1) rfl)))))) c0 c1 lo (fun _ hk => Nat.lt_of_lt_of_le hk hn) z))) (fun h0 => (match l2 h0 with | ⟨o0, o1, c0, lo, z⟩ => doRound_w2 (and_yes o0 (and_yes o1 (and_yes (not_yes h0) rfl))) c0 lo (fun _ hk => Nat.lt_of_lt_of_le hk hn) z))
theorem doL_w0 {d : Int} {s : Int} {of : Int} {im : BitVec 64} {m : Mach} {u : V6 Bool} {w : World} {β : Bs} {n : Nat} (c0 : CallOK Try.prog (CallRec.mk 118 [AV.ag [AC.i 10, AC.i d, AC.i s, AC.u im, AC.i of], AV.ag (Mach.cs m)] [] (Eff.mk (AV.ag (Mach.cs (reachM (Ins.mk 10 d s im of) m))) [] none))) :
    ART Try.prog 102 (cx w β n []) Try.f102.ntmps (cutAt Try.f102 0) (Kn.mk [(2, AV.c (AC.w 0)), (3, AV.c (AC.w 1)), (4, AV.c (AC.w 2)), (8, AV.ag (bcs u)), (9, AV.c (AC.i 6))] [(0, Ent.mk true (Ins.cs (Ins.mk 10 d s im of)) 0), (1, Ent.mk true (Mach.cs m) 0), (2, Ent.mk true (Mach.cs Mach.z) 0)] 3) (REff w β ⟨AV.ag (Mach.cs (reachM (Ins.mk 10 d s im of) m)), [], none⟩) :=
  run_eff [] (none) 2000 [Eff.mk (AV.ag (Mach.cs (reachM (Ins.mk 10 d s im of) m))) [] none] [false, true, true] [true] [(14, 6), (16, 6)] Try.func102 (ekeys0 rfl n) (by kernel_rfl) rfl (cr_cons c0 cr_nil)
theorem doS_w0 {d : Int} {s : Int} {of : Int} {im : BitVec 64} {m : Mach} {u : V6 Bool} {w : World} {β : Bs} {n : Nat} (c0 : CallOK Try.prog (CallRec.mk 118 [AV.ag [AC.i 11, AC.i d, AC.i s, AC.u im, AC.i of], AV.ag (Mach.cs m)] [] (Eff.mk (AV.ag (Mach.cs (reachM (Ins.mk 11 d s im of) m))) [] none))) :
    ART Try.prog 102 (cx w β n []) Try.f102.ntmps (cutAt Try.f102 0) (Kn.mk [(2, AV.c (AC.w 0)), (3, AV.c (AC.w 1)), (4, AV.c (AC.w 2)), (8, AV.ag (bcs u)), (9, AV.c (AC.i 6))] [(0, Ent.mk true (Ins.cs (Ins.mk 11 d s im of)) 0), (1, Ent.mk true (Mach.cs m) 0), (2, Ent.mk true (Mach.cs Mach.z) 0)] 3) (REff w β ⟨AV.ag (Mach.cs (reachM (Ins.mk 11 d s im of) m)), [], none⟩) :=
  run_eff [] (none) 2000 [Eff.mk (AV.ag (Mach.cs (reachM (Ins.mk 11 d s im of) m))) [] none] [false, false, true] [true] [(14, 6), (16, 6)] Try.func102 (ekeys0 rfl n) (by kernel_rfl) rfl (cr_cons c0 cr_nil)
theorem doJ_w0 {d : Int} {s : Int} {of : Int} {im : BitVec 64} {m : Mach} {u : V6 Bool} {w : World} {β : Bs} {n : Nat} (c0 : CallOK Try.prog (CallRec.mk 119 [AV.ag (Mach.cs m), AV.c (AC.i of)] [] (Eff.mk (AV.ag (Mach.cs (Mach.on m of))) [] none))) :
    ART Try.prog 102 (cx w β n []) Try.f102.ntmps (cutAt Try.f102 0) (Kn.mk [(2, AV.c (AC.w 0)), (3, AV.c (AC.w 1)), (4, AV.c (AC.w 2)), (8, AV.ag (bcs u)), (9, AV.c (AC.i 6))] [(0, Ent.mk true (Ins.cs (Ins.mk 12 d s im of)) 0), (1, Ent.mk true (Mach.cs m) 0), (2, Ent.mk true (Mach.cs Mach.z) 0)] 3) (REff w β ⟨AV.ag [AC.i (Mach.t m + 1 + of), AC.u (V6.x0 (Mach.r m)), AC.u (V6.x1 (Mach.r m)), AC.u (V6.x2 (Mach.r m)), AC.u (V6.x3 (Mach.r m)), AC.u (V6.x4 (Mach.r m)), AC.u (V6.x5 (Mach.r m)), AC.b (V6.x0 (Mach.s m)), AC.b (V6.x1 (Mach.s m)), AC.b (V6.x2 (Mach.s m)), AC.b (V6.x3 (Mach.s m)), AC.b (V6.x4 (Mach.s m)), AC.b (V6.x5 (Mach.s m)), AC.s (Mach.mem m), AC.i (Mach.fin m)], [], none⟩) :=
  run_eff [] (none) 2000 [Eff.mk (AV.ag (Mach.cs (Mach.on m of))) [] none] [false, false, false, true] [true] [(14, 6), (16, 6)] Try.func102 (ekeys0 rfl n) (by kernel_rfl) rfl (cr_cons c0 cr_nil)
theorem doEq_w0 {d : Int} {s : Int} {of : Int} {im : BitVec 64} {m : Mach} {u : V6 Bool} {w : World} {β : Bs} {n : Nat} (h : (decide (0 ≤ d) && decide (d < 6) && (AC.isU (Option.getD (Mach.cs m)[1 + Int.toNat d * 1]? (AC.b false)) && Nat.blt (1 + Int.toNat d * 1) (List.length (Mach.cs m)) && true)) = true) (c0 : Eff.mk (AV.c (AC.u (AC.asU (Option.getD (Mach.cs m)[1 + Int.toNat d * 1]? (AC.b false))))) [] none = Eff.mk (AV.c (AC.u (V6.get (Mach.r m) (Int.toNat d)))) [] none) (c1 : CallOK Try.prog (CallRec.mk 121 [AV.ag [AC.i 13, AC.i d, AC.i s, AC.u im, AC.i of], AV.ag (Mach.cs m)] [] (Eff.mk (AV.c (AC.u (srcN (Ins.mk 13 d s im of) m))) [] none))) (c2 : CallOK Try.prog (CallRec.mk 120 [AV.ag [AC.i 13, AC.i d, AC.i s, AC.u im, AC.i of], AV.ag (Mach.cs m), AV.c (AC.b (eqb (V6.get (Mach.r m) (Int.toNat d)) (srcN (Ins.mk 13 d s im of) m)))] [] (Eff.mk (AV.ag (Mach.cs (Mach.on m (if eqb (V6.get (Mach.r m) (Int.toNat d)) (srcN (Ins.mk 13 d s im of) m) = true then of else 0)))) [] none))) :
    ART Try.prog 102 (cx w β n []) Try.f102.ntmps (cutAt Try.f102 0) (Kn.mk [(2, AV.c (AC.w 0)), (3, AV.c (AC.w 1)), (4, AV.c (AC.w 2)), (8, AV.ag (bcs u)), (9, AV.c (AC.i 6))] [(0, Ent.mk true (Ins.cs (Ins.mk 13 d s im of)) 0), (1, Ent.mk true (Mach.cs m) 0), (2, Ent.mk true (Mach.cs Mach.z) 0)] 3) (REff w β ⟨AV.ag [AC.i (Mach.t m + 1 + if eqb (V6.get (Mach.r m) (Int.toNat d)) (srcN (Ins.mk 13 d s im of) m) = true then of else 0), AC.u (V6.x0 (Mach.r m)), AC.u (V6.x1 (Mach.r m)), AC.u (V6.x2 (Mach.r m)), AC.u (V6.x3 (Mach.r m)), AC.u (V6.x4 (Mach.r m)), AC.u (V6.x5 (Mach.r m)), AC.b (V6.x0 (Mach.s m)), AC.b (V6.x1 (Mach.s m)), AC.b (V6.x2 (Mach.s m)), AC.b (V6.x3 (Mach.s m)), AC.b (V6.x4 (Mach.s m)), AC.b (V6.x5 (Mach.s m)), AC.s (Mach.mem m), AC.i (Mach.fin m)], [], none⟩) :=
  run_eff [] (none) 2000 [Eff.mk (AV.c (AC.u (V6.get (Mach.r m) (Int.toNat d)))) [] none, Eff.mk (AV.c (AC.u (srcN (Ins.mk 13 d s im of) m))) [] none, Eff.mk (AV.ag (Mach.cs (Mach.on m (if eqb (V6.get (Mach.r m) (Int.toNat d)) (srcN (Ins.mk 13 d s im of) m) = true then of else 0)))) [] none] [false, false, false, false, true] [true] [(14, 6), (16, 6)] Try.func102 (ekeys0 rfl n) (by kernel_rfl) h (cr_same c0 (cr_cons c1 (cr_cons c2 cr_nil)))
theorem doLt_w0 {d : Int} {s : Int} {of : Int} {im : BitVec 64} {m : Mach} {u : V6 Bool} {w : World} {β : Bs} {n : Nat} (h : (decide (0 ≤ d) && decide (d < 6) && (AC.isU (Option.getD (Mach.cs m)[1 + Int.toNat d * 1]? (AC.b false)) && Nat.blt (1 + Int.toNat d * 1) (List.length (Mach.cs m)) && true)) = true) (c0 : Eff.mk (AV.c (AC.u (AC.asU (Option.getD (Mach.cs m)[1 + Int.toNat d * 1]? (AC.b false))))) [] none = Eff.mk (AV.c (AC.u (V6.get (Mach.r m) (Int.toNat d)))) [] none) (c1 : CallOK Try.prog (CallRec.mk 121 [AV.ag [AC.i 14, AC.i d, AC.i s, AC.u im, AC.i of], AV.ag (Mach.cs m)] [] (Eff.mk (AV.c (AC.u (srcN (Ins.mk 14 d s im of) m))) [] none))) (c2 : CallOK Try.prog (CallRec.mk 120 [AV.ag [AC.i 14, AC.i d, AC.i s, AC.u im, AC.i of], AV.ag (Mach.cs m), AV.c (AC.b (decide (nv (V6.get (Mach.r m) (Int.toNat d)) < nv (srcN (Ins.mk 14 d s im of) m))))] [] (Eff.mk (AV.ag (Mach.cs (Mach.on m (if decide (nv (V6.get (Mach.r m) (Int.toNat d)) < nv (srcN (Ins.mk 14 d s im of) m)) = true then of else 0)))) [] none))) :
    ART Try.prog 102 (cx w β n []) Try.f102.ntmps (cutAt Try.f102 0) (Kn.mk [(2, AV.c (AC.w 0)), (3, AV.c (AC.w 1)), (4, AV.c (AC.w 2)), (8, AV.ag (bcs u)), (9, AV.c (AC.i 6))] [(0, Ent.mk true (Ins.cs (Ins.mk 14 d s im of)) 0), (1, Ent.mk true (Mach.cs m) 0), (2, Ent.mk true (Mach.cs Mach.z) 0)] 3) (REff w β ⟨AV.ag [AC.i (Mach.t m + 1 + if decide (nv (V6.get (Mach.r m) (Int.toNat d)) < nv (srcN (Ins.mk 14 d s im of) m)) = true then of else 0), AC.u (V6.x0 (Mach.r m)), AC.u (V6.x1 (Mach.r m)), AC.u (V6.x2 (Mach.r m)), AC.u (V6.x3 (Mach.r m)), AC.u (V6.x4 (Mach.r m)), AC.u (V6.x5 (Mach.r m)), AC.b (V6.x0 (Mach.s m)), AC.b (V6.x1 (Mach.s m)), AC.b (V6.x2 (Mach.s m)), AC.b (V6.x3 (Mach.s m)), AC.b (V6.x4 (Mach.s m)), AC.b (V6.x5 (Mach.s m)), AC.s (Mach.mem m), AC.i (Mach.fin m)], [], none⟩) :=
  run_eff [] (none) 2000 [Eff.mk (AV.c (AC.u (V6.get (Mach.r m) (Int.toNat d)))) [] none, Eff.mk (AV.c (AC.u (srcN (Ins.mk 14 d s im of) m))) [] none, Eff.mk (AV.ag (Mach.cs (Mach.on m (if decide (nv (V6.get (Mach.r m) (Int.toNat d)) < nv (srcN (Ins.mk 14 d s im of) m)) = true then of else 0)))) [] none] [false, false, false, false, false, true] [true] [(14, 6), (16, 6)] Try.func102 (ekeys0 rfl n) (by kernel_rfl) h (cr_same c0 (cr_cons c1 (cr_cons c2 cr_nil)))
theorem doX_w0 {d : Int} {s : Int} {of : Int} {im : BitVec 64} {m : Mach} {u : V6 Bool} {w : World} {β : Bs} {n : Nat} (c0 : CallOK Try.prog (CallRec.mk 117 [AV.ag (Mach.cs m), AV.c (AC.i 3)] [] (Eff.mk (AV.ag (Mach.cs (Mach.fine m 3))) [] none))) :
    ART Try.prog 102 (cx w β n []) Try.f102.ntmps (cutAt Try.f102 0) (Kn.mk [(2, AV.c (AC.w 0)), (3, AV.c (AC.w 1)), (4, AV.c (AC.w 2)), (8, AV.ag (bcs u)), (9, AV.c (AC.i 6))] [(0, Ent.mk true (Ins.cs (Ins.mk 15 d s im of)) 0), (1, Ent.mk true (Mach.cs m) 0), (2, Ent.mk true (Mach.cs Mach.z) 0)] 3) (REff w β ⟨AV.ag [AC.i (Mach.t m), AC.u (V6.x0 (Mach.r m)), AC.u (V6.x1 (Mach.r m)), AC.u (V6.x2 (Mach.r m)), AC.u (V6.x3 (Mach.r m)), AC.u (V6.x4 (Mach.r m)), AC.u (V6.x5 (Mach.r m)), AC.b (V6.x0 (Mach.s m)), AC.b (V6.x1 (Mach.s m)), AC.b (V6.x2 (Mach.s m)), AC.b (V6.x3 (Mach.s m)), AC.b (V6.x4 (Mach.s m)), AC.b (V6.x5 (Mach.s m)), AC.s (Mach.mem m), AC.i 3], [], none⟩) :=
  run_eff [] (none) 2000 [Eff.mk (AV.ag (Mach.cs (Mach.fine m 3))) [] none] [false, false, false, false, false, false, true] [true] [(14, 6), (16, 6)] Try.func102 (ekeys0 rfl n) (by kernel_rfl) rfl (cr_cons c0 cr_nil)
theorem doTwo_w0 {op : Int} {d : Int} {s : Int} {of : Int} {im : BitVec 64} {m : Mach} {u : V6 Bool} {w : World} {β : Bs} {n : Nat} (h : (!op == 10 && (!op == 11 && (!op == 12 && (!op == 13 && (!op == 14 && (!op == 15 && (decide (0 ≤ d) && decide (d < 6) && (AC.isU (Option.getD (Mach.cs m)[1 + Int.toNat d * 1]? (AC.b false)) && Nat.blt (1 + Int.toNat d * 1) (List.length (Mach.cs m)) && true)))))))) = true) (c0 : Eff.mk (AV.c (AC.u (AC.asU (Option.getD (Mach.cs m)[1 + Int.toNat d * 1]? (AC.b false))))) [] none = Eff.mk (AV.c (AC.u (V6.get (Mach.r m) (Int.toNat d)))) [] none) (c1 : CallOK Try.prog (CallRec.mk 121 [AV.ag [AC.i op, AC.i d, AC.i s, AC.u im, AC.i of], AV.ag (Mach.cs m)] [] (Eff.mk (AV.c (AC.u (srcN (Ins.mk op d s im of) m))) [] none))) (c2 : CallOK Try.prog (CallRec.mk 122 [AV.c (AC.i op), AV.c (AC.u (V6.get (Mach.r m) (Int.toNat d))), AV.c (AC.u (srcN (Ins.mk op d s im of) m))] [] (Eff.mk (AV.c (AC.u (numN op (V6.get (Mach.r m) (Int.toNat d)) (srcN (Ins.mk op d s im of) m)))) [] none))) (c3 : CallOK Try.prog (CallRec.mk 103 [AV.ag (Mach.cs m), AV.c (AC.i d), AV.c (AC.u (numN op (V6.get (Mach.r m) (Int.toNat d)) (srcN (Ins.mk op d s im of) m)))] [] (Eff.mk (AV.ag (Mach.cs (Mach.wth m (Int.toNat d) (numN op (V6.get (Mach.r m) (Int.toNat d)) (srcN (Ins.mk op d s im of) m))))) [] none))) (c4 : CallOK Try.prog (CallRec.mk 119 [AV.ag (Mach.cs (Mach.wth m (Int.toNat d) (numN op (V6.get (Mach.r m) (Int.toNat d)) (srcN (Ins.mk op d s im of) m)))), AV.c (AC.i 0)] [] (Eff.mk (AV.ag (Mach.cs (Mach.on (Mach.mk (Mach.t m) (V6.set (Mach.r m) (Int.toNat d) (numN op (V6.get (Mach.r m) (Int.toNat d)) (srcN (Ins.mk op d s im of) m))) (V6.set (Mach.s m) (Int.toNat d) true) (Mach.mem m) (Mach.fin m)) 0))) [] none))) :
    ART Try.prog 102 (cx w β n []) Try.f102.ntmps (cutAt Try.f102 0) (Kn.mk [(2, AV.c (AC.w 0)), (3, AV.c (AC.w 1)), (4, AV.c (AC.w 2)), (8, AV.ag (bcs u)), (9, AV.c (AC.i 6))] [(0, Ent.mk true (Ins.cs (Ins.mk op d s im of)) 0), (1, Ent.mk true (Mach.cs m) 0), (2, Ent.mk true (Mach.cs Mach.z) 0)] 3) (REff w β ⟨AV.ag [AC.i (Mach.t m + 1 + 0), AC.u (V6.x0 (V6.set (Mach.r m) (Int.toNat d) (numN op (V6.get (Mach.r m) (Int.toNat d)) (srcN (Ins.mk op d s im of) m)))), AC.u (V6.x1 (V6.set (Mach.r m) (Int.toNat d) (numN op (V6.get (Mach.r m) (Int.toNat d)) (srcN (Ins.mk op d s im of) m)))), AC.u (V6.x2 (V6.set (Mach.r m) (Int.toNat d) (numN op (V6.get (Mach.r m) (Int.toNat d)) (srcN (Ins.mk op d s im of) m)))), AC.u (V6.x3 (V6.set (Mach.r m) (Int.toNat d) (numN op (V6.get (Mach.r m) (Int.toNat d)) (srcN (Ins.mk op d s im of) m)))), AC.u (V6.x4 (V6.set (Mach.r m) (Int.toNat d) (numN op (V6.get (Mach.r m) (Int.toNat d)) (srcN (Ins.mk op d s im of) m)))), AC.u (V6.x5 (V6.set (Mach.r m) (Int.toNat d) (numN op (V6.get (Mach.r m) (Int.toNat d)) (srcN (Ins.mk op d s im of) m)))), AC.b (V6.x0 (V6.set (Mach.s m) (Int.toNat d) true)), AC.b (V6.x1 (V6.set (Mach.s m) (Int.toNat d) true)), AC.b (V6.x2 (V6.set (Mach.s m) (Int.toNat d) true)), AC.b (V6.x3 (V6.set (Mach.s m) (Int.toNat d) true)), AC.b (V6.x4 (V6.set (Mach.s m) (Int.toNat d) true)), AC.b (V6.x5 (V6.set (Mach.s m) (Int.toNat d) true)), AC.s (Mach.mem m), AC.i (Mach.fin m)], [], none⟩) :=
  run_eff [] (none) 2000 [Eff.mk (AV.c (AC.u (V6.get (Mach.r m) (Int.toNat d)))) [] none, Eff.mk (AV.c (AC.u (srcN (Ins.mk op d s im of) m))) [] none, Eff.mk (AV.c (AC.u (numN op (V6.get (Mach.r m) (Int.toNat d)) (srcN (Ins.mk op d s im of) m)))) [] none, Eff.mk (AV.ag (Mach.cs (Mach.wth m (Int.toNat d) (numN op (V6.get (Mach.r m) (Int.toNat d)) (srcN (Ins.mk op d s im of) m))))) [] none, Eff.mk (AV.ag (Mach.cs (Mach.on (Mach.mk (Mach.t m) (V6.set (Mach.r m) (Int.toNat d) (numN op (V6.get (Mach.r m) (Int.toNat d)) (srcN (Ins.mk op d s im of) m))) (V6.set (Mach.s m) (Int.toNat d) true) (Mach.mem m) (Mach.fin m)) 0))) [] none] [false, false, false, false, false, false, false] [true] [(19, 9)] Try.func102 (ekeys0 rfl n) (by kernel_rfl) h (cr_same c0 (cr_cons c1 (cr_cons c2 (cr_cons c3 (cr_cons c4 cr_nil)))))
end Go.Proofs.Ytkigmocchaikgaa

/- Ways of bodies, written by a program (ways.py): what each asks for, and hands back. -/
namespace Go.Proofs.Ytkigmocchaikgaa
open Go.RowKit

theorem ended_w0 {m : Mach} {e : Int} :
    CallOK Try.prog ⟨117, [AV.ag (Mach.cs m), AV.c (AC.i e)], [], ⟨AV.ag [AC.i (Mach.t m), AC.u (V6.x0 (Mach.r m)), AC.u (V6.x1 (Mach.r m)), AC.u (V6.x2 (Mach.r m)), AC.u (V6.x3 (Mach.r m)), AC.u (V6.x4 (Mach.r m)), AC.u (V6.x5 (Mach.r m)), AC.b (V6.x0 (Mach.s m)), AC.b (V6.x1 (Mach.s m)), AC.b (V6.x2 (Mach.s m)), AC.b (V6.x3 (Mach.s m)), AC.b (V6.x4 (Mach.s m)), AC.b (V6.x5 (Mach.s m)), AC.s (Mach.mem m), AC.i e], [], none⟩⟩ :=
  val_run 2000 [] [] [] [] Try.func117 rfl rfl rfl rfl (by kernel_rfl) rfl cr_nil
theorem onward_w0 {m : Mach} {o : Int} :
    CallOK Try.prog ⟨119, [AV.ag (Mach.cs m), AV.c (AC.i o)], [], ⟨AV.ag [AC.i (IntKind.wrap IntKind.i64 (Mach.t m + IntKind.wrap IntKind.i64 (1 + o))), AC.u (V6.x0 (Mach.r m)), AC.u (V6.x1 (Mach.r m)), AC.u (V6.x2 (Mach.r m)), AC.u (V6.x3 (Mach.r m)), AC.u (V6.x4 (Mach.r m)), AC.u (V6.x5 (Mach.r m)), AC.b (V6.x0 (Mach.s m)), AC.b (V6.x1 (Mach.s m)), AC.b (V6.x2 (Mach.s m)), AC.b (V6.x3 (Mach.s m)), AC.b (V6.x4 (Mach.s m)), AC.b (V6.x5 (Mach.s m)), AC.s (Mach.mem m), AC.i (Mach.fin m)], [], none⟩⟩ :=
  val_run 2000 [] [] [] [] Try.func119 rfl rfl rfl rfl (by kernel_rfl) rfl cr_nil
theorem with_w0 {m : Mach} {r : Int} {x : BitVec 64} (h : (decide (0 ≤ r) && decide (r < 6) && (Nat.ble (1 + Int.toNat r * 1 + List.length [AC.u x]) (List.length (Mach.cs m)) && true && (decide (0 ≤ r) && decide (r < 6) && (Nat.ble (7 + Int.toNat r * 1 + 1) (List.length (Mach.cs (Mach.mk (Mach.t m) (V6.set (Mach.r m) (Int.toNat r) x) (Mach.s m) (Mach.mem m) (Mach.fin m)))) && true && true)))) = true) (c0 : Eff.mk (AV.raw undef) [(0, List.set (Mach.cs m) (1 + Int.toNat r * 1) (AC.u x))] none = Eff.mk (AV.raw undef) [(0, Mach.cs (Mach.mk (Mach.t m) (V6.set (Mach.r m) (Int.toNat r) x) (Mach.s m) (Mach.mem m) (Mach.fin m)))] none) (c1 : Eff.mk (AV.raw undef) [(0, List.set (Mach.cs (Mach.mk (Mach.t m) (V6.set (Mach.r m) (Int.toNat r) x) (Mach.s m) (Mach.mem m) (Mach.fin m))) (7 + Int.toNat r * 1) (AC.b true))] none = Eff.mk (AV.raw undef) [(0, Mach.cs (Mach.wth m (Int.toNat r) x))] none) :
    CallOK Try.prog ⟨103, [AV.ag (Mach.cs m), AV.c (AC.i r), AV.c (AC.u x)], [], ⟨AV.ag [AC.i (Mach.t m), AC.u (V6.x0 (V6.set (Mach.r m) (Int.toNat r) x)), AC.u (V6.x1 (V6.set (Mach.r m) (Int.toNat r) x)), AC.u (V6.x2 (V6.set (Mach.r m) (Int.toNat r) x)), AC.u (V6.x3 (V6.set (Mach.r m) (Int.toNat r) x)), AC.u (V6.x4 (V6.set (Mach.r m) (Int.toNat r) x)), AC.u (V6.x5 (V6.set (Mach.r m) (Int.toNat r) x)), AC.b (V6.x0 (V6.set (Mach.s m) (Int.toNat r) true)), AC.b (V6.x1 (V6.set (Mach.s m) (Int.toNat r) true)), AC.b (V6.x2 (V6.set (Mach.s m) (Int.toNat r) true)), AC.b (V6.x3 (V6.set (Mach.s m) (Int.toNat r) true)), AC.b (V6.x4 (V6.set (Mach.s m) (Int.toNat r) true)), AC.b (V6.x5 (V6.set (Mach.s m) (Int.toNat r) true)), AC.s (Mach.mem m), AC.i (Mach.fin m)], [], none⟩⟩ :=
  val_run 2000 [Eff.mk (AV.raw undef) [(0, Mach.cs (Mach.mk (Mach.t m) (V6.set (Mach.r m) (Int.toNat r) x) (Mach.s m) (Mach.mem m) (Mach.fin m)))] none, Eff.mk (AV.raw undef) [(0, Mach.cs (Mach.wth m (Int.toNat r) x))] none] [] [] [(1, 5), (1, 8)] Try.func103 rfl rfl rfl rfl (by kernel_rfl) h (cr_same c0 (cr_same c1 cr_nil))
theorem useOf12_w0 {i : Ins} (h : (Ins.op i == 12 && true) = true) :
    CallOK Try.prog ⟨116, [AV.ag (Ins.cs i)], [], ⟨AV.ag [AC.b false, AC.b false, AC.b false, AC.b false, AC.b false, AC.b false], [], none⟩⟩ :=
  val_run 2000 [] [true] [] [] Try.func116 rfl rfl rfl rfl (by kernel_rfl) h cr_nil
theorem useOf15_w0 {i : Ins} (h : (!Ins.op i == 12 && (Ins.op i == 15 && true)) = true) :
    CallOK Try.prog ⟨116, [AV.ag (Ins.cs i)], [], ⟨AV.ag [AC.b true, AC.b false, AC.b false, AC.b false, AC.b false, AC.b false], [], none⟩⟩ :=
  val_run 2000 [] [false, true] [] [] Try.func116 rfl rfl rfl rfl (by kernel_rfl) h cr_nil
theorem useOfM_w0 {i : Ins} (h : (!Ins.op i == 12 && (!Ins.op i == 15 && (Ins.op i == 1 && (Ins.op i == 1 && (Ins.s i != -1 && (decide (0 ≤ Ins.s i) && decide (Ins.s i < 6) && (Nat.ble (Int.toNat (Ins.s i) * 1 + 1) 6 && true && true))))))) = true) (c0 : Eff.mk (AV.raw undef) [(2, List.set (bcs no6) (Int.toNat (Ins.s i) * 1) (AC.b true))] none = Eff.mk (AV.raw undef) [(2, (bcs (V6.set no6 (Int.toNat (Ins.s i)) true)))] none) :
    CallOK Try.prog ⟨116, [AV.ag (Ins.cs i)], [], ⟨AV.ag (bcs (V6.set no6 (Int.toNat (Ins.s i)) true)), [], none⟩⟩ :=
  val_run 2000 [Eff.mk (AV.raw undef) [(2, (bcs (V6.set no6 (Int.toNat (Ins.s i)) true)))] none] [false, false, true, true, true] [] [(12, 3)] Try.func116 rfl rfl rfl rfl (by kernel_rfl) h (cr_same c0 cr_nil)
theorem useOfM_w1 {i : Ins} (h : (!Ins.op i == 12 && (!Ins.op i == 15 && (Ins.op i == 1 && (Ins.op i == 1 && (!Ins.s i != -1 && true))))) = true) :
    CallOK Try.prog ⟨116, [AV.ag (Ins.cs i)], [], ⟨AV.ag [AC.b false, AC.b false, AC.b false, AC.b false, AC.b false, AC.b false], [], none⟩⟩ :=
  val_run 2000 [] [false, false, true, true, false] [] [(12, 3)] Try.func116 rfl rfl rfl rfl (by kernel_rfl) h cr_nil
theorem useOfM_all {i : Ins} {V : AV}
    (l0 : (Ins.s i != -1) = true → (!Ins.op i == 12) = true ∧ (!Ins.op i == 15) = true ∧ (Ins.op i == 1) = true ∧ (Ins.op i == 1) = true ∧ (decide (0 ≤ Ins.s i) && decide (Ins.s i < 6)) = true ∧ (Nat.ble (Int.toNat (Ins.s i) * 1 + 1) 6 && true) = true ∧ (Eff.mk (AV.raw undef) [(2, List.set (bcs no6) (Int.toNat (Ins.s i) * 1) (AC.b true))] none = Eff.mk (AV.raw undef) [(2, (bcs (V6.set no6 (Int.toNat (Ins.s i)) true)))] none) ∧ (AV.ag (bcs (V6.set no6 (Int.toNat (Ins.s i)) true)) = V))
    (l1 : (Ins.s i != -1) = false → (!Ins.op i == 12) = true ∧ (!Ins.op i == 15) = true ∧ (Ins.op i == 1) = true ∧ (Ins.op i == 1) = true ∧ (AV.ag [AC.b false, AC.b false, AC.b false, AC.b false, AC.b false, AC.b false] = V)) :
    CallOK Try.prog ⟨116, [AV.ag (Ins.cs i)], [], ⟨V, [], none⟩⟩ :=
  (tf (Ins.s i != -1)).elim (fun h0 => (match l0 h0 with | ⟨o0, o1, o2, o3, o4, o5, c0, e⟩ => ok_eq (useOfM_w0 (and_yes o0 (and_yes o1 (and_yes o2 (and_yes o3 (and_yes h0 (and_yes o4 (and_yes o5 rfl))))))) c0) e)) (fun h0 => (match l1 h0 with | ⟨o0, o1, o2, o3, e⟩ => ok_eq (useOfM_w1 (and_yes o0 (and_yes o1 (and_yes o2 (and_yes o3 (and_yes (not_yes h0) rfl)))))) e))
theorem useOfL_w0 {i : Ins} (h : (!Ins.op i == 12 && (!Ins.op i == 15 && (!Ins.op i == 1 && (Ins.op i == 10 && (Ins.s i != -1 && (decide (0 ≤ Ins.s i) && decide (Ins.s i < 6) && (Nat.ble (Int.toNat (Ins.s i) * 1 + 1) 6 && true && true))))))) = true) (c0 : Eff.mk (AV.raw undef) [(2, List.set (bcs no6) (Int.toNat (Ins.s i) * 1) (AC.b true))] none = Eff.mk (AV.raw undef) [(2, (bcs (V6.set no6 (Int.toNat (Ins.s i)) true)))] none) :
    CallOK Try.prog ⟨116, [AV.ag (Ins.cs i)], [], ⟨AV.ag (bcs (V6.set no6 (Int.toNat (Ins.s i)) true)), [], none⟩⟩ :=
  val_run 2000 [Eff.mk (AV.raw undef) [(2, (bcs (V6.set no6 (Int.toNat (Ins.s i)) true)))] none] [false, false, false, true, true] [] [(12, 3)] Try.func116 rfl rfl rfl rfl (by kernel_rfl) h (cr_same c0 cr_nil)
theorem useOfL_w1 {i : Ins} (h : (!Ins.op i == 12 && (!Ins.op i == 15 && (!Ins.op i == 1 && (Ins.op i == 10 && (!Ins.s i != -1 && true))))) = true) :
    CallOK Try.prog ⟨116, [AV.ag (Ins.cs i)], [], ⟨AV.ag [AC.b false, AC.b false, AC.b false, AC.b false, AC.b false, AC.b false], [], none⟩⟩ :=
  val_run 2000 [] [false, false, false, true, false] [] [(12, 3)] Try.func116 rfl rfl rfl rfl (by kernel_rfl) h cr_nil
theorem useOfL_all {i : Ins} {V : AV}
    (l0 : (Ins.s i != -1) = true → (!Ins.op i == 12) = true ∧ (!Ins.op i == 15) = true ∧ (!Ins.op i == 1) = true ∧ (Ins.op i == 10) = true ∧ (decide (0 ≤ Ins.s i) && decide (Ins.s i < 6)) = true ∧ (Nat.ble (Int.toNat (Ins.s i) * 1 + 1) 6 && true) = true ∧ (Eff.mk (AV.raw undef) [(2, List.set (bcs no6) (Int.toNat (Ins.s i) * 1) (AC.b true))] none = Eff.mk (AV.raw undef) [(2, (bcs (V6.set no6 (Int.toNat (Ins.s i)) true)))] none) ∧ (AV.ag (bcs (V6.set no6 (Int.toNat (Ins.s i)) true)) = V))
    (l1 : (Ins.s i != -1) = false → (!Ins.op i == 12) = true ∧ (!Ins.op i == 15) = true ∧ (!Ins.op i == 1) = true ∧ (Ins.op i == 10) = true ∧ (AV.ag [AC.b false, AC.b false, AC.b false, AC.b false, AC.b false, AC.b false] = V)) :
    CallOK Try.prog ⟨116, [AV.ag (Ins.cs i)], [], ⟨V, [], none⟩⟩ :=
  (tf (Ins.s i != -1)).elim (fun h0 => (match l0 h0 with | ⟨o0, o1, o2, o3, o4, o5, c0, e⟩ => ok_eq (useOfL_w0 (and_yes o0 (and_yes o1 (and_yes o2 (and_yes o3 (and_yes h0 (and_yes o4 (and_yes o5 rfl))))))) c0) e)) (fun h0 => (match l1 h0 with | ⟨o0, o1, o2, o3, e⟩ => ok_eq (useOfL_w1 (and_yes o0 (and_yes o1 (and_yes o2 (and_yes o3 (and_yes (not_yes h0) rfl)))))) e))
theorem useOfD_w0 {i : Ins} (h : (!Ins.op i == 12 && (!Ins.op i == 15 && (!Ins.op i == 1 && (!Ins.op i == 10 && (decide (0 ≤ Ins.d i) && decide (Ins.d i < 6) && (Nat.ble (Int.toNat (Ins.d i) * 1 + 1) 6 && true && (Ins.s i != -1 && (decide (0 ≤ Ins.s i) && decide (Ins.s i < 6) && (Nat.ble (Int.toNat (Ins.s i) * 1 + 1) (List.length (bcs (V6.set no6 (Int.toNat (Ins.d i)) true))) && true && true))))))))) = true) (c0 : Eff.mk (AV.raw undef) [(2, List.set (bcs no6) (Int.toNat (Ins.d i) * 1) (AC.b true))] none = Eff.mk (AV.raw undef) [(2, (bcs (V6.set no6 (Int.toNat (Ins.d i)) true)))] none) (c1 : Eff.mk (AV.raw undef) [(2, List.set (bcs (V6.set no6 (Int.toNat (Ins.d i)) true)) (Int.toNat (Ins.s i) * 1) (AC.b true))] none = Eff.mk (AV.raw undef) [(2, (bcs (V6.set (V6.set no6 (Int.toNat (Ins.d i)) true) (Int.toNat (Ins.s i)) true)))] none) :
    CallOK Try.prog ⟨116, [AV.ag (Ins.cs i)], [], ⟨AV.ag (bcs (V6.set (V6.set no6 (Int.toNat (Ins.d i)) true) (Int.toNat (Ins.s i)) true)), [], none⟩⟩ :=
  val_run 2000 [Eff.mk (AV.raw undef) [(2, (bcs (V6.set no6 (Int.toNat (Ins.d i)) true)))] none, Eff.mk (AV.raw undef) [(2, (bcs (V6.set (V6.set no6 (Int.toNat (Ins.d i)) true) (Int.toNat (Ins.s i)) true)))] none] [false, false, false, false, true] [] [(3, 3), (12, 3)] Try.func116 rfl rfl rfl rfl (by kernel_rfl) h (cr_same c0 (cr_same c1 cr_nil))
theorem useOfD_w1 {i : Ins} (h : (!Ins.op i == 12 && (!Ins.op i == 15 && (!Ins.op i == 1 && (!Ins.op i == 10 && (decide (0 ≤ Ins.d i) && decide (Ins.d i < 6) && (Nat.ble (Int.toNat (Ins.d i) * 1 + 1) 6 && true && (!Ins.s i != -1 && true))))))) = true) (c0 : Eff.mk (AV.raw undef) [(2, List.set (bcs no6) (Int.toNat (Ins.d i) * 1) (AC.b true))] none = Eff.mk (AV.raw undef) [(2, (bcs (V6.set no6 (Int.toNat (Ins.d i)) true)))] none) :
    CallOK Try.prog ⟨116, [AV.ag (Ins.cs i)], [], ⟨AV.ag (bcs (V6.set no6 (Int.toNat (Ins.d i)) true)), [], none⟩⟩ :=
  val_run 2000 [Eff.mk (AV.raw undef) [(2, (bcs (V6.set no6 (Int.toNat (Ins.d i)) true)))] none] [false, false, false, false, false] [] [(3, 3), (12, 3)] Try.func116 rfl rfl rfl rfl (by kernel_rfl) h (cr_same c0 cr_nil)
theorem useOfD_all {i : Ins} {V : AV}
    (l0 : (Ins.s i != -1) = true → (!Ins.op i == 12) = true ∧ (!Ins.op i == 15) = true ∧ (!Ins.op i == 1) = true ∧ (!Ins.op i == 10) = true ∧ (decide (0 ≤ Ins.d i) && decide (Ins.d i < 6)) = true ∧ (Nat.ble (Int.toNat (Ins.d i) * 1 + 1) 6 && true) = true ∧ (decide (0 ≤ Ins.s i) && decide (Ins.s i < 6)) = true ∧ (Nat.ble (Int.toNat (Ins.s i) * 1 + 1) (List.length (bcs (V6.set no6 (Int.toNat (Ins.d i)) true))) && true) = true ∧ (Eff.mk (AV.raw undef) [(2, List.set (bcs no6) (Int.toNat (Ins.d i) * 1) (AC.b true))] none = Eff.mk (AV.raw undef) [(2, (bcs (V6.set no6 (Int.toNat (Ins.d i)) true)))] none) ∧ (Eff.mk (AV.raw undef) [(2, List.set (bcs (V6.set no6 (Int.toNat (Ins.d i)) true)) (Int.toNat (Ins.s i) * 1) (AC.b true))] none = Eff.mk (AV.raw undef) [(2, (bcs (V6.set (V6.set no6 (Int.toNat (Ins.d i)) true) (Int.toNat (Ins.s i)) true)))] none) ∧ (AV.ag (bcs (V6.set (V6.set no6 (Int.toNat (Ins.d i)) true) (Int.toNat (Ins.s i)) true)) = V))
    (l1 : (Ins.s i != -1) = false → (!Ins.op i == 12) = true ∧ (!Ins.op i == 15) = true ∧ (!Ins.op i == 1) = true ∧ (!Ins.op i == 10) = true ∧ (decide (0 ≤ Ins.d i) && decide (Ins.d i < 6)) = true ∧ (Nat.ble (Int.toNat (Ins.d i) * 1 + 1) 6 && true) = true ∧ (Eff.mk (AV.raw undef) [(2, List.set (bcs no6) (Int.toNat (Ins.d i) * 1) (AC.b true))] none = Eff.mk (AV.raw undef) [(2, (bcs (V6.set no6 (Int.toNat (Ins.d i)) true)))] none) ∧ (AV.ag (bcs (V6.set no6 (Int.toNat (Ins.d i)) true)) = V)) :
    CallOK Try.prog ⟨116, [AV.ag (Ins.cs i)], [], ⟨V, [], none⟩⟩ :=
  (tf (Ins.s i != -1)).elim (fun h0 => (match l0 h0 with | ⟨o0, o1, o2, o3, o4, o5, o6, o7, c0, c1, e⟩ => ok_eq (useOfD_w0 (and_yes o0 (and_yes o1 (and_yes o2 (and_yes o3 (and_yes o4 (and_yes o5 (and_yes h0 (and_yes o6 (and_yes o7 rfl))))))))) c0 c1) e)) (fun h0 => (match l1 h0 with | ⟨o0, o1, o2, o3, o4, o5, c0, e⟩ => ok_eq (useOfD_w1 (and_yes o0 (and_yes o1 (and_yes o2 (and_yes o3 (and_yes o4 (and_yes o5 (and_yes (not_yes h0) rfl))))))) c0) e))
theorem source_w0 {i : Ins} {m : Mach} (h : (Ins.s i == -1 && true) = true) :
    CallOK Try.prog ⟨121, [AV.ag (Ins.cs i), AV.ag (Mach.cs m)], [], ⟨AV.c (AC.u (Ins.im i)), [], none⟩⟩ :=
  val_run 2000 [] [true] [] [(3, 4)] Try.func121 rfl rfl rfl rfl (by kernel_rfl) h cr_nil
theorem source_w1 {i : Ins} {m : Mach} (h : (!Ins.s i == -1 && (decide (0 ≤ Ins.s i) && decide (Ins.s i < 6) && (AC.isU (Option.getD (Mach.cs m)[1 + Int.toNat (Ins.s i) * 1]? (AC.b false)) && Nat.blt (1 + Int.toNat (Ins.s i) * 1) (List.length (Mach.cs m)) && true))) = true) (c0 : Eff.mk (AV.c (AC.u (AC.asU (Option.getD (Mach.cs m)[1 + Int.toNat (Ins.s i) * 1]? (AC.b false))))) [] none = Eff.mk (AV.c (AC.u (V6.get (Mach.r m) (Int.toNat (Ins.s i))))) [] none) :
    CallOK Try.prog ⟨121, [AV.ag (Ins.cs i), AV.ag (Mach.cs m)], [], ⟨AV.c (AC.u (V6.get (Mach.r m) (Int.toNat (Ins.s i)))), [], none⟩⟩ :=
  val_run 2000 [Eff.mk (AV.c (AC.u (V6.get (Mach.r m) (Int.toNat (Ins.s i))))) [] none] [false] [] [(3, 4)] Try.func121 rfl rfl rfl rfl (by kernel_rfl) h (cr_same c0 cr_nil)
theorem source_all {i : Ins} {m : Mach} {V : AV}
    (l0 : (Ins.s i == -1) = true → (AV.c (AC.u (Ins.im i)) = V))
    (l1 : (Ins.s i == -1) = false → (decide (0 ≤ Ins.s i) && decide (Ins.s i < 6)) = true ∧ (AC.isU (Option.getD (Mach.cs m)[1 + Int.toNat (Ins.s i) * 1]? (AC.b false)) && Nat.blt (1 + Int.toNat (Ins.s i) * 1) (List.length (Mach.cs m))) = true ∧ (Eff.mk (AV.c (AC.u (AC.asU (Option.getD (Mach.cs m)[1 + Int.toNat (Ins.s i) * 1]? (AC.b false))))) [] none = Eff.mk (AV.c (AC.u (V6.get (Mach.r m) (Int.toNat (Ins.s i))))) [] none) ∧ (AV.c (AC.u (V6.get (Mach.r m) (Int.toNat (Ins.s i)))) = V)) :
    CallOK Try.prog ⟨121, [AV.ag (Ins.cs i), AV.ag (Mach.cs m)], [], ⟨V, [], none⟩⟩ :=
  (tf (Ins.s i == -1)).elim (fun h0 => (match l0 h0 with | e => ok_eq (source_w0 (and_yes h0 rfl)) e)) (fun h0 => (match l1 h0 with | ⟨o0, o1, c0, e⟩ => ok_eq (source_w1 (and_yes (not_yes h0) (and_yes o0 (and_yes o1 rfl))) c0) e))
theorem two_w0 {op : Int} {x : BitVec 64} {y : BitVec 64} (h : (op == 2 && true) = true) :
    CallOK Try.prog ⟨122, [AV.c (AC.i op), AV.c (AC.u x), AV.c (AC.u y)], [], ⟨AV.c (AC.u (badd x y)), [], none⟩⟩ :=
  val_run 2000 [] [true] [] [] Try.func122 rfl rfl rfl rfl (by kernel_rfl) h cr_nil
theorem two_w1 {op : Int} {x : BitVec 64} {y : BitVec 64} (h : (!op == 2 && (op == 3 && true)) = true) :
    CallOK Try.prog ⟨122, [AV.c (AC.i op), AV.c (AC.u x), AV.c (AC.u y)], [], ⟨AV.c (AC.u (bsub x y)), [], none⟩⟩ :=
  val_run 2000 [] [false, true] [] [] Try.func122 rfl rfl rfl rfl (by kernel_rfl) h cr_nil
theorem two_w2 {op : Int} {x : BitVec 64} {y : BitVec 64} (h : (!op == 2 && (!op == 3 && (op == 4 && true))) = true) :
    CallOK Try.prog ⟨122, [AV.c (AC.i op), AV.c (AC.u x), AV.c (AC.u y)], [], ⟨AV.c (AC.u (bmul x y)), [], none⟩⟩ :=
  val_run 2000 [] [false, false, true] [] [] Try.func122 rfl rfl rfl rfl (by kernel_rfl) h cr_nil
theorem two_w3 {op : Int} {x : BitVec 64} {y : BitVec 64} (h : (!op == 2 && (!op == 3 && (!op == 4 && (op == 5 && true)))) = true) :
    CallOK Try.prog ⟨122, [AV.c (AC.i op), AV.c (AC.u x), AV.c (AC.u y)], [], ⟨AV.c (AC.u (band x y)), [], none⟩⟩ :=
  val_run 2000 [] [false, false, false, true] [] [] Try.func122 rfl rfl rfl rfl (by kernel_rfl) h cr_nil
theorem two_w4 {op : Int} {x : BitVec 64} {y : BitVec 64} (h : (!op == 2 && (!op == 3 && (!op == 4 && (!op == 5 && (op == 6 && true))))) = true) :
    CallOK Try.prog ⟨122, [AV.c (AC.i op), AV.c (AC.u x), AV.c (AC.u y)], [], ⟨AV.c (AC.u (bor x y)), [], none⟩⟩ :=
  val_run 2000 [] [false, false, false, false, true] [] [] Try.func122 rfl rfl rfl rfl (by kernel_rfl) h cr_nil
theorem two_w5 {op : Int} {x : BitVec 64} {y : BitVec 64} (h : (!op == 2 && (!op == 3 && (!op == 4 && (!op == 5 && (!op == 6 && (op == 7 && true)))))) = true) :
    CallOK Try.prog ⟨122, [AV.c (AC.i op), AV.c (AC.u x), AV.c (AC.u y)], [], ⟨AV.c (AC.u (bxor x y)), [], none⟩⟩ :=
  val_run 2000 [] [false, false, false, false, false, true] [] [] Try.func122 rfl rfl rfl rfl (by kernel_rfl) h cr_nil
theorem two_w6 {op : Int} {x : BitVec 64} {y : BitVec 64} (h : (!op == 2 && (!op == 3 && (!op == 4 && (!op == 5 && (!op == 6 && (!op == 7 && (op == 8 && (decide (nv (band y 63#64) ≤ 64) && true)))))))) = true) :
    CallOK Try.prog ⟨122, [AV.c (AC.i op), AV.c (AC.u x), AV.c (AC.u y)], [], ⟨AV.c (AC.u (bshl x (Int.toNat (nv (band y 63#64))))), [], none⟩⟩ :=
  val_run 2000 [] [false, false, false, false, false, false, true] [] [] Try.func122 rfl rfl rfl rfl (by kernel_rfl) h cr_nil
theorem two_w7 {op : Int} {x : BitVec 64} {y : BitVec 64} (h : (!op == 2 && (!op == 3 && (!op == 4 && (!op == 5 && (!op == 6 && (!op == 7 && (!op == 8 && (op == 9 && (decide (nv (band y 63#64) ≤ 64) && true))))))))) = true) :
    CallOK Try.prog ⟨122, [AV.c (AC.i op), AV.c (AC.u x), AV.c (AC.u y)], [], ⟨AV.c (AC.u (bshr x (Int.toNat (nv (band y 63#64))))), [], none⟩⟩ :=
  val_run 2000 [] [false, false, false, false, false, false, false, true] [] [] Try.func122 rfl rfl rfl rfl (by kernel_rfl) h cr_nil
theorem two_w8 {op : Int} {x : BitVec 64} {y : BitVec 64} (h : (!op == 2 && (!op == 3 && (!op == 4 && (!op == 5 && (!op == 6 && (!op == 7 && (!op == 8 && (!op == 9 && true)))))))) = true) :
    CallOK Try.prog ⟨122, [AV.c (AC.i op), AV.c (AC.u x), AV.c (AC.u y)], [], ⟨AV.c (AC.u y), [], none⟩⟩ :=
  val_run 2000 [] [false, false, false, false, false, false, false, false] [] [] Try.func122 rfl rfl rfl rfl (by kernel_rfl) h cr_nil
theorem two_all {op : Int} {x : BitVec 64} {y : BitVec 64} {V : AV}
    (l0 : (op == 2) = true → (AV.c (AC.u (badd x y)) = V))
    (l1 : (op == 2) = false → (op == 3) = true → (AV.c (AC.u (bsub x y)) = V))
    (l2 : (op == 2) = false → (op == 3) = false → (op == 4) = true → (AV.c (AC.u (bmul x y)) = V))
    (l3 : (op == 2) = false → (op == 3) = false → (op == 4) = false → (op == 5) = true → (AV.c (AC.u (band x y)) = V))
    (l4 : (op == 2) = false → (op == 3) = false → (op == 4) = false → (op == 5) = false → (op == 6) = true → (AV.c (AC.u (bor x y)) = V))
    (l5 : (op == 2) = false → (op == 3) = false → (op == 4) = false → (op == 5) = false → (op == 6) = false → (op == 7) = true → (AV.c (AC.u (bxor x y)) = V))
    (l6 : (op == 2) = false → (op == 3) = false → (op == 4) = false → (op == 5) = false → (op == 6) = false → (op == 7) = false → (op == 8) = true → (decide (nv (band y 63#64) ≤ 64)) = true ∧ (AV.c (AC.u (bshl x (Int.toNat (nv (band y 63#64))))) = V))
    (l7 : (op == 2) = false → (op == 3) = false → (op == 4) = false → (op == 5) = false → (op == 6) = false → (op == 7) = false → (op == 8) = false → (op == 9) = true → (decide (nv (band y 63#64) ≤ 64)) = true ∧ (AV.c (AC.u (bshr x (Int.toNat (nv (band y 63#64))))) = V))
    (l8 : (op == 2) = false → (op == 3) = false → (op == 4) = false → (op == 5) = false → (op == 6) = false → (op == 7) = false → (op == 8) = false → (op == 9) = false → (AV.c (AC.u y) = V)) :
    CallOK Try.prog ⟨122, [AV.c (AC.i op), AV.c (AC.u x), AV.c (AC.u y)], [], ⟨V, [], none⟩⟩ :=
  (tf (op == 2)).elim (fun h0 => (match l0 h0 with | e => ok_eq (two_w0 (and_yes h0 rfl)) e)) (fun h0 => (tf (op == 3)).elim (fun h1 => (match l1 h0 h1 with | e => ok_eq (two_w1 (and_yes (not_yes h0) (and_yes h1 rfl))) e)) (fun h1 => (tf (op == 4)).elim (fun h2 => (match l2 h0 h1 h2 with | e => ok_eq (two_w2 (and_yes (not_yes h0) (and_yes (not_yes h1) (and_yes h2 rfl)))) e)) (fun h2 => (tf (op == 5)).elim (fun h3 => (match l3 h0 h1 h2 h3 with | e => ok_eq (two_w3 (and_yes (not_yes h0) (and_yes (not_yes h1) (and_yes (not_yes h2) (and_yes h3 rfl))))) e)) (fun h3 => (tf (op == 6)).elim (fun h4 => (match l4 h0 h1 h2 h3 h4 with | e => ok_eq (two_w4 (and_yes (not_yes h0) (and_yes (not_yes h1) (and_yes (not_yes h2) (and_yes (not_yes h3) (and_yes h4 rfl)))))) e)) (fun h4 => (tf (op == 7)).elim (fun h5 => (match l5 h0 h1 h2 h3 h4 h5 with | e => ok_eq (two_w5 (and_yes (not_yes h0) (and_yes (not_yes h1) (and_yes (not_yes h2) (and_yes (not_yes h3) (and_yes (not_yes h4) (and_yes h5 rfl))))))) e)) (fun h5 => (tf (op == 8)).elim (fun h6 => (match l6 h0 h1 h2 h3 h4 h5 h6 with | ⟨o0, e⟩ => ok_eq (two_w6 (and_yes (not_yes h0) (and_yes (not_yes h1) (and_yes (not_yes h2) (and_yes (not_yes h3) (and_yes (not_yes h4) (and_yes (not_yes h5) (and_yes h6 (and_yes o0 rfl))))))))) e)) (fun h6 => (tf (op == 9)).elim (fun h7 => (match l7 h0 h1 h2 h3 h4 h5 h6 h7 with | ⟨o0, e⟩ => ok_eq (two_w7 (and_yes (not_yes h0) (and_yes (not_yes h1) (and_yes (not_yes h2) (and_yes (not_yes h3) (and_yes (not_yes h4) (and_yes (not_yes h5) (and_yes (not_yes h6) (and_yes h7 (and_yes o0 rfl)))))))))) e)) (fun h7 => (match l8 h0 h1 h2 h3 h4 h5 h6 h7 with | e => ok_eq (two_w8 (and_yes (not_yes h0) (and_yes (not_yes h1) (and_yes (not_yes h2) (and_yes (not_yes h3) (and_yes (not_yes h4) (and_yes (not_yes h5) (and_yes (not_yes h6) (and_yes (not_yes h7) rfl))))))))) e)))))))))
theorem load_w0 {t : ByteArray} {C : Cx} {R : Ending → World → Prop} (hF : ∀ k, C.F k → k < 0) (z : ART Try.prog 133 C Try.f133.ntmps (cutAt Try.f133 0) ⟨[(0, AV.c (AC.s t)), (3, AV.c (AC.u 0#64)), (6, AV.c (AC.i (↑(ByteArray.size t) : Int))), (7, AV.c (AC.i 0))], [], 0⟩ R) :
    ART Try.prog 133 C Try.f133.ntmps ([Item.code (bodyOf Try.f133)]) (Kn.start [AV.c (AC.s t)] [] 0) R :=
  run_cut ⟨[(0, AV.c (AC.s t)), (3, AV.c (AC.u 0#64)), (6, AV.c (AC.i (↑(ByteArray.size t) : Int))), (7, AV.c (AC.i 0))], [], 0⟩ 2000 [] [] [true] [] Try.func133 (by kernel_rfl) rfl cr_nil (low_of rfl) hF z
theorem loadL_w0 {t : ByteArray} {x : BitVec 64} {q : Int} {j : Int} {C : Cx} {R : Ending → World → Prop} (h : (decide (j < q) && (decide (0 ≤ j) && decide (Int.toNat j < ByteArray.size t) && (decide (0 ≤ IntKind.wrap IntKind.i64 (8 * j)) && decide (IntKind.wrap IntKind.i64 (8 * j) ≤ 64) && true))) = true) (hF : ∀ k, C.F k → k < 0) (z : ART Try.prog 133 C Try.f133.ntmps (cutAt Try.f133 0) ⟨[(0, AV.c (AC.s t)), (3, AV.c (AC.u (bor x (bshl (BitVec.setWidth 64 (byteAt t (Int.toNat j))) (Int.toNat (IntKind.wrap IntKind.i64 (8 * j))))))), (6, AV.c (AC.i q)), (7, AV.c (AC.i (IntKind.wrap IntKind.i64 (j + 1))))], [], 0⟩ R) :
    ART Try.prog 133 C Try.f133.ntmps (cutAt Try.f133 0) (Kn.mk [(0, AV.c (AC.s t)), (3, AV.c (AC.u x)), (6, AV.c (AC.i q)), (7, AV.c (AC.i j))] [] 0) R :=
  run_cut ⟨[(0, AV.c (AC.s t)), (3, AV.c (AC.u (bor x (bshl (BitVec.setWidth 64 (byteAt t (Int.toNat j))) (Int.toNat (IntKind.wrap IntKind.i64 (8 * j))))))), (6, AV.c (AC.i q)), (7, AV.c (AC.i (IntKind.wrap IntKind.i64 (j + 1))))], [], 0⟩ 2000 [] [true] [true] [] Try.func133 (by kernel_rfl) h cr_nil (low_of rfl) hF z
theorem loadL_w1 {t : ByteArray} {x : BitVec 64} {q : Int} {j : Int} {w : World} {β : Bs} {n : Nat} (h : (!decide (j < q) && true) = true) :
    ART Try.prog 133 (cx w β n []) Try.f133.ntmps (cutAt Try.f133 0) (Kn.mk [(0, AV.c (AC.s t)), (3, AV.c (AC.u x)), (6, AV.c (AC.i q)), (7, AV.c (AC.i j))] [] 0) (REff w β ⟨AV.c (AC.u x), [], none⟩) :=
  run_eff [] (none) 2000 [] [false] [true] [] Try.func133 (ekeys0 rfl n) (by kernel_rfl) h cr_nil
theorem loadL_all {t : ByteArray} {x : BitVec 64} {q : Int} {j : Int} {w : World} {β : Bs} {n : Nat} {E : Eff} (hn : n ≤ 0)
    (l0 : (decide (j < q)) = true → (decide (0 ≤ j) && decide (Int.toNat j < ByteArray.size t)) = true ∧ (decide (0 ≤ IntKind.wrap IntKind.i64 (8 * j)) && decide (IntKind.wrap IntKind.i64 (8 * j) ≤ 64)) = true ∧ ART Try.prog 133 (cx w β n []) Try.f133.ntmps (cutAt Try.f133 0) ⟨[(0, AV.c (AC.s t)), (3, AV.c (AC.u (bor x (bshl (BitVec.setWidth 64 (byteAt t (Int.toNat j))) (Int.toNat (IntKind.wrap IntKind.i64 (8 * j))))))), (6, AV.c (AC.i q)), (7, AV.c (AC.i (IntKind.wrap IntKind.i64 (j + 1))))], [], 0⟩ (REff w β E))
    (l1 : (decide (j < q)) = false → ((⟨AV.c (AC.u x), [], none⟩ : Eff) = E)) :
    ART Try.prog 133 (cx w β n []) Try.f133.ntmps (cutAt Try.f133 0) (Kn.mk [(0, AV.c (AC.s t)), (3, AV.c (AC.u x)), (6, AV.c (AC.i q)), (7, AV.c (AC.i j))] [] 0) (REff w β E) :=
  (tf (decide (j < q))).elim (fun h0 => (match l0 h0 with | ⟨o0, o1, z⟩ => loadL_w0 (and_yes h0 (and_yes o0 (and_yes o1 rfl))) (fun _ hk => Nat.lt_of_lt_of_le hk hn) z)) (fun h0 => (match l1 h0 with | e => art_eq (loadL_w1 (and_yes (not_yes h0) rfl)) e))
theorem store1_w0 {x : BitVec 64} :
    CallOK Try.prog ⟨134, [AV.c (AC.u x), AV.c (AC.u 1#64)], [], ⟨AV.c (AC.s (strOf (List.take 1 (List.drop 0 (splice (rows 1 [AC.y 0#8]) 0 [AC.y (BitVec.setWidth 8 (bshr x 0))]))))), [], none⟩⟩ :=
  val_run 2000 [] [true, false] [false, false] [] Try.func134 rfl rfl rfl rfl (by kernel_rfl) rfl cr_nil
theorem store2_w0 {x : BitVec 64} :
    CallOK Try.prog ⟨134, [AV.c (AC.u x), AV.c (AC.u 2#64)], [], ⟨AV.c (AC.s (strOf (List.take 2 (List.drop 0 (splice (splice (rows 2 [AC.y 0#8]) 0 [AC.y (BitVec.setWidth 8 (bshr x 0))]) 1 [AC.y (BitVec.setWidth 8 (bshr x 8))]))))), [], none⟩⟩ :=
  val_run 2000 [] [true, true, false] [false, false, false] [] Try.func134 rfl rfl rfl rfl (by kernel_rfl) rfl cr_nil
theorem store4_w0 {x : BitVec 64} :
    CallOK Try.prog ⟨134, [AV.c (AC.u x), AV.c (AC.u 4#64)], [], ⟨AV.c (AC.s (strOf (List.take 4 (List.drop 0 (splice (splice (splice (splice (rows 4 [AC.y 0#8]) 0 [AC.y (BitVec.setWidth 8 (bshr x 0))]) 1 [AC.y (BitVec.setWidth 8 (bshr x 8))]) 2 [AC.y (BitVec.setWidth 8 (bshr x 16))]) 3 [AC.y (BitVec.setWidth 8 (bshr x 24))]))))), [], none⟩⟩ :=
  val_run 2000 [] [true, true, true, true, false] [false, false, false, false, false] [] Try.func134 rfl rfl rfl rfl (by kernel_rfl) rfl cr_nil
theorem store8_w0 {x : BitVec 64} :
    CallOK Try.prog ⟨134, [AV.c (AC.u x), AV.c (AC.u 8#64)], [], ⟨AV.c (AC.s (strOf (List.take 8 (List.drop 0 (splice (splice (splice (splice (splice (splice (splice (splice (rows 8 [AC.y 0#8]) 0 [AC.y (BitVec.setWidth 8 (bshr x 0))]) 1 [AC.y (BitVec.setWidth 8 (bshr x 8))]) 2 [AC.y (BitVec.setWidth 8 (bshr x 16))]) 3 [AC.y (BitVec.setWidth 8 (bshr x 24))]) 4 [AC.y (BitVec.setWidth 8 (bshr x 32))]) 5 [AC.y (BitVec.setWidth 8 (bshr x 40))]) 6 [AC.y (BitVec.setWidth 8 (bshr x 48))]) 7 [AC.y (BitVec.setWidth 8 (bshr x 56))]))))), [], none⟩⟩ :=
  val_run 2000 [] [true, true, true, true, true, true, true, true, false] [false, false, false, false, false, false, false, false, false] [] Try.func134 rfl rfl rfl rfl (by kernel_rfl) rfl cr_nil
end Go.Proofs.Ytkigmocchaikgaa

/- Ways of bodies, written by a program (ways.py): what each asks for, and hands back. -/
namespace Go.Proofs.Ytkigmocchaikgaa
open Go.RowKit

theorem isReg_w0 {d : Int} (h : (decide (0 ≤ d) && true) = true) :
    CallOK Try.prog ⟨129, [AV.c (AC.i d)], [], ⟨AV.c (AC.b (decide (d < 6))), [], none⟩⟩ :=
  val_run 2000 [] [true] [] [] Try.func129 rfl rfl rfl rfl (by kernel_rfl) h cr_nil
theorem isReg_w1 {d : Int} (h : (!decide (0 ≤ d) && true) = true) :
    CallOK Try.prog ⟨129, [AV.c (AC.i d)], [], ⟨AV.c (AC.b false), [], none⟩⟩ :=
  val_run 2000 [] [false] [] [] Try.func129 rfl rfl rfl rfl (by kernel_rfl) h cr_nil
theorem isReg_all {d : Int} {V : AV}
    (l0 : (decide (0 ≤ d)) = true → (AV.c (AC.b (decide (d < 6))) = V))
    (l1 : (decide (0 ≤ d)) = false → (AV.c (AC.b false) = V)) :
    CallOK Try.prog ⟨129, [AV.c (AC.i d)], [], ⟨V, [], none⟩⟩ :=
  (tf (decide (0 ≤ d))).elim (fun h0 => (match l0 h0 with | e => ok_eq (isReg_w0 (and_yes h0 rfl)) e)) (fun h0 => (match l1 h0 with | e => ok_eq (isReg_w1 (and_yes (not_yes h0) rfl)) e))
theorem isSource_w0 {d : Int} (h : (d == -1 && true) = true) :
    CallOK Try.prog ⟨132, [AV.c (AC.i d)], [], ⟨AV.c (AC.b true), [], none⟩⟩ :=
  val_run 2000 [] [true] [] [] Try.func132 rfl rfl rfl rfl (by kernel_rfl) h cr_nil
theorem isSource_w1 {d : Int} (h : (!d == -1 && true) = true) (c0 : CallOK Try.prog (CallRec.mk 129 [AV.c (AC.i d)] [] (Eff.mk (AV.c (AC.b (regB d))) [] none))) :
    CallOK Try.prog ⟨132, [AV.c (AC.i d)], [], ⟨AV.c (AC.b (regB d)), [], none⟩⟩ :=
  val_run 2000 [Eff.mk (AV.c (AC.b (regB d))) [] none] [false] [] [] Try.func132 rfl rfl rfl rfl (by kernel_rfl) h (cr_cons c0 cr_nil)
theorem isSource_all {d : Int} {V : AV}
    (l0 : (d == -1) = true → (AV.c (AC.b true) = V))
    (l1 : (d == -1) = false → (CallOK Try.prog (CallRec.mk 129 [AV.c (AC.i d)] [] (Eff.mk (AV.c (AC.b (regB d))) [] none))) ∧ (AV.c (AC.b (regB d)) = V)) :
    CallOK Try.prog ⟨132, [AV.c (AC.i d)], [], ⟨V, [], none⟩⟩ :=
  (tf (d == -1)).elim (fun h0 => (match l0 h0 with | e => ok_eq (isSource_w0 (and_yes h0 rfl)) e)) (fun h0 => (match l1 h0 with | ⟨c0, e⟩ => ok_eq (isSource_w1 (and_yes (not_yes h0) rfl) c0) e))
theorem isSize_w0 {d : BitVec 64} (h : (eqb d 1#64 && true) = true) :
    CallOK Try.prog ⟨130, [AV.c (AC.u d)], [], ⟨AV.c (AC.b true), [], none⟩⟩ :=
  val_run 2000 [] [true, true, true] [] [] Try.func130 rfl rfl rfl rfl (by kernel_rfl) h cr_nil
theorem isSize_w1 {d : BitVec 64} (h : (!eqb d 1#64 && (eqb d 2#64 && true)) = true) :
    CallOK Try.prog ⟨130, [AV.c (AC.u d)], [], ⟨AV.c (AC.b true), [], none⟩⟩ :=
  val_run 2000 [] [false, true, true] [] [] Try.func130 rfl rfl rfl rfl (by kernel_rfl) h cr_nil
theorem isSize_w2 {d : BitVec 64} (h : (!eqb d 1#64 && (!eqb d 2#64 && (eqb d 4#64 && true))) = true) :
    CallOK Try.prog ⟨130, [AV.c (AC.u d)], [], ⟨AV.c (AC.b true), [], none⟩⟩ :=
  val_run 2000 [] [false, false, true] [] [] Try.func130 rfl rfl rfl rfl (by kernel_rfl) h cr_nil
theorem isSize_w3 {d : BitVec 64} (h : (!eqb d 1#64 && (!eqb d 2#64 && (!eqb d 4#64 && true))) = true) :
    CallOK Try.prog ⟨130, [AV.c (AC.u d)], [], ⟨AV.c (AC.b (eqb d 8#64)), [], none⟩⟩ :=
  val_run 2000 [] [false, false, false] [] [] Try.func130 rfl rfl rfl rfl (by kernel_rfl) h cr_nil
theorem isSize_all {d : BitVec 64} {V : AV}
    (l0 : (eqb d 1#64) = true → (AV.c (AC.b true) = V))
    (l1 : (eqb d 1#64) = false → (eqb d 2#64) = true → (AV.c (AC.b true) = V))
    (l2 : (eqb d 1#64) = false → (eqb d 2#64) = false → (eqb d 4#64) = true → (AV.c (AC.b true) = V))
    (l3 : (eqb d 1#64) = false → (eqb d 2#64) = false → (eqb d 4#64) = false → (AV.c (AC.b (eqb d 8#64)) = V)) :
    CallOK Try.prog ⟨130, [AV.c (AC.u d)], [], ⟨V, [], none⟩⟩ :=
  (tf (eqb d 1#64)).elim (fun h0 => (match l0 h0 with | e => ok_eq (isSize_w0 (and_yes h0 rfl)) e)) (fun h0 => (tf (eqb d 2#64)).elim (fun h1 => (match l1 h0 h1 with | e => ok_eq (isSize_w1 (and_yes (not_yes h0) (and_yes h1 rfl))) e)) (fun h1 => (tf (eqb d 4#64)).elim (fun h2 => (match l2 h0 h1 h2 with | e => ok_eq (isSize_w2 (and_yes (not_yes h0) (and_yes (not_yes h1) (and_yes h2 rfl)))) e)) (fun h2 => (match l3 h0 h1 h2 with | e => ok_eq (isSize_w3 (and_yes (not_yes h0) (and_yes (not_yes h1) (and_yes (not_yes h2) rfl)))) e))))
theorem goesOn_w0 {d : Int} {n : Int} (h : (decide (0 ≤ d) && true) = true) :
    CallOK Try.prog ⟨131, [AV.c (AC.i d), AV.c (AC.i n)], [], ⟨AV.c (AC.b (decide (d < n))), [], none⟩⟩ :=
  val_run 2000 [] [true] [] [] Try.func131 rfl rfl rfl rfl (by kernel_rfl) h cr_nil
theorem goesOn_w1 {d : Int} {n : Int} (h : (!decide (0 ≤ d) && true) = true) :
    CallOK Try.prog ⟨131, [AV.c (AC.i d), AV.c (AC.i n)], [], ⟨AV.c (AC.b false), [], none⟩⟩ :=
  val_run 2000 [] [false] [] [] Try.func131 rfl rfl rfl rfl (by kernel_rfl) h cr_nil
theorem goesOn_all {d : Int} {n : Int} {V : AV}
    (l0 : (decide (0 ≤ d)) = true → (AV.c (AC.b (decide (d < n))) = V))
    (l1 : (decide (0 ≤ d)) = false → (AV.c (AC.b false) = V)) :
    CallOK Try.prog ⟨131, [AV.c (AC.i d), AV.c (AC.i n)], [], ⟨V, [], none⟩⟩ :=
  (tf (decide (0 ≤ d))).elim (fun h0 => (match l0 h0 with | e => ok_eq (goesOn_w0 (and_yes h0 rfl)) e)) (fun h0 => (match l1 h0 with | e => ok_eq (goesOn_w1 (and_yes (not_yes h0) rfl)) e))
theorem inBounds_w0 {i : Ins} {n : Int} (h : (Ins.op i == 10 && (Ins.op i == 10 && (regB (Ins.d i) && (regB (Ins.s i) && (sizeB (Ins.im i) && (decide (-64 ≤ Ins.of i) && true)))))) = true) (c0 : CallOK Try.prog (CallRec.mk 129 [AV.c (AC.i (Ins.d i))] [] (Eff.mk (AV.c (AC.b (regB (Ins.d i)))) [] none))) (c1 : CallOK Try.prog (CallRec.mk 129 [AV.c (AC.i (Ins.s i))] [] (Eff.mk (AV.c (AC.b (regB (Ins.s i)))) [] none))) (c2 : CallOK Try.prog (CallRec.mk 130 [AV.c (AC.u (Ins.im i))] [] (Eff.mk (AV.c (AC.b (sizeB (Ins.im i)))) [] none))) :
    CallOK Try.prog ⟨114, [AV.ag (Ins.cs i), AV.c (AC.i n)], [], ⟨AV.c (AC.b (decide (Ins.of i ≤ 64))), [], none⟩⟩ :=
  val_run 2000 [Eff.mk (AV.c (AC.b (regB (Ins.d i)))) [] none, Eff.mk (AV.c (AC.b (regB (Ins.s i)))) [] none, Eff.mk (AV.c (AC.b (sizeB (Ins.im i)))) [] none] [true, true, true, true, true, true] [] [] Try.func114 rfl rfl rfl rfl (by kernel_rfl) h (cr_cons c0 (cr_cons c1 (cr_cons c2 cr_nil)))
theorem inBounds_w1 {i : Ins} {n : Int} (h : (Ins.op i == 10 && (Ins.op i == 10 && (regB (Ins.d i) && (regB (Ins.s i) && (sizeB (Ins.im i) && (!decide (-64 ≤ Ins.of i) && true)))))) = true) (c0 : CallOK Try.prog (CallRec.mk 129 [AV.c (AC.i (Ins.d i))] [] (Eff.mk (AV.c (AC.b (regB (Ins.d i)))) [] none))) (c1 : CallOK Try.prog (CallRec.mk 129 [AV.c (AC.i (Ins.s i))] [] (Eff.mk (AV.c (AC.b (regB (Ins.s i)))) [] none))) (c2 : CallOK Try.prog (CallRec.mk 130 [AV.c (AC.u (Ins.im i))] [] (Eff.mk (AV.c (AC.b (sizeB (Ins.im i)))) [] none))) :
    CallOK Try.prog ⟨114, [AV.ag (Ins.cs i), AV.c (AC.i n)], [], ⟨AV.c (AC.b false), [], none⟩⟩ :=
  val_run 2000 [Eff.mk (AV.c (AC.b (regB (Ins.d i)))) [] none, Eff.mk (AV.c (AC.b (regB (Ins.s i)))) [] none, Eff.mk (AV.c (AC.b (sizeB (Ins.im i)))) [] none] [true, true, true, true, true, false] [] [] Try.func114 rfl rfl rfl rfl (by kernel_rfl) h (cr_cons c0 (cr_cons c1 (cr_cons c2 cr_nil)))
theorem inBounds_w2 {i : Ins} {n : Int} (h : (Ins.op i == 10 && (Ins.op i == 10 && (regB (Ins.d i) && (regB (Ins.s i) && (!sizeB (Ins.im i) && true))))) = true) (c0 : CallOK Try.prog (CallRec.mk 129 [AV.c (AC.i (Ins.d i))] [] (Eff.mk (AV.c (AC.b (regB (Ins.d i)))) [] none))) (c1 : CallOK Try.prog (CallRec.mk 129 [AV.c (AC.i (Ins.s i))] [] (Eff.mk (AV.c (AC.b (regB (Ins.s i)))) [] none))) (c2 : CallOK Try.prog (CallRec.mk 130 [AV.c (AC.u (Ins.im i))] [] (Eff.mk (AV.c (AC.b (sizeB (Ins.im i)))) [] none))) :
    CallOK Try.prog ⟨114, [AV.ag (Ins.cs i), AV.c (AC.i n)], [], ⟨AV.c (AC.b false), [], none⟩⟩ :=
  val_run 2000 [Eff.mk (AV.c (AC.b (regB (Ins.d i)))) [] none, Eff.mk (AV.c (AC.b (regB (Ins.s i)))) [] none, Eff.mk (AV.c (AC.b (sizeB (Ins.im i)))) [] none] [true, true, true, true, false, false] [] [] Try.func114 rfl rfl rfl rfl (by kernel_rfl) h (cr_cons c0 (cr_cons c1 (cr_cons c2 cr_nil)))
theorem inBounds_w3 {i : Ins} {n : Int} (h : (Ins.op i == 10 && (Ins.op i == 10 && (regB (Ins.d i) && (!regB (Ins.s i) && true)))) = true) (c0 : CallOK Try.prog (CallRec.mk 129 [AV.c (AC.i (Ins.d i))] [] (Eff.mk (AV.c (AC.b (regB (Ins.d i)))) [] none))) (c1 : CallOK Try.prog (CallRec.mk 129 [AV.c (AC.i (Ins.s i))] [] (Eff.mk (AV.c (AC.b (regB (Ins.s i)))) [] none))) :
    CallOK Try.prog ⟨114, [AV.ag (Ins.cs i), AV.c (AC.i n)], [], ⟨AV.c (AC.b false), [], none⟩⟩ :=
  val_run 2000 [Eff.mk (AV.c (AC.b (regB (Ins.d i)))) [] none, Eff.mk (AV.c (AC.b (regB (Ins.s i)))) [] none] [true, true, true, false, false, false] [] [] Try.func114 rfl rfl rfl rfl (by kernel_rfl) h (cr_cons c0 (cr_cons c1 cr_nil))
theorem inBounds_w4 {i : Ins} {n : Int} (h : (Ins.op i == 10 && (Ins.op i == 10 && (!regB (Ins.d i) && true))) = true) (c0 : CallOK Try.prog (CallRec.mk 129 [AV.c (AC.i (Ins.d i))] [] (Eff.mk (AV.c (AC.b (regB (Ins.d i)))) [] none))) :
    CallOK Try.prog ⟨114, [AV.ag (Ins.cs i), AV.c (AC.i n)], [], ⟨AV.c (AC.b false), [], none⟩⟩ :=
  val_run 2000 [Eff.mk (AV.c (AC.b (regB (Ins.d i)))) [] none] [true, true, false, false, false, false] [] [] Try.func114 rfl rfl rfl rfl (by kernel_rfl) h (cr_cons c0 cr_nil)
theorem inBounds_w5 {i : Ins} {n : Int} (h : (!Ins.op i == 10 && (Ins.op i == 11 && (regB (Ins.d i) && (regB (Ins.s i) && (sizeB (Ins.im i) && (decide (-64 ≤ Ins.of i) && true)))))) = true) (c0 : CallOK Try.prog (CallRec.mk 129 [AV.c (AC.i (Ins.d i))] [] (Eff.mk (AV.c (AC.b (regB (Ins.d i)))) [] none))) (c1 : CallOK Try.prog (CallRec.mk 129 [AV.c (AC.i (Ins.s i))] [] (Eff.mk (AV.c (AC.b (regB (Ins.s i)))) [] none))) (c2 : CallOK Try.prog (CallRec.mk 130 [AV.c (AC.u (Ins.im i))] [] (Eff.mk (AV.c (AC.b (sizeB (Ins.im i)))) [] none))) :
    CallOK Try.prog ⟨114, [AV.ag (Ins.cs i), AV.c (AC.i n)], [], ⟨AV.c (AC.b (decide (Ins.of i ≤ 64))), [], none⟩⟩ :=
  val_run 2000 [Eff.mk (AV.c (AC.b (regB (Ins.d i)))) [] none, Eff.mk (AV.c (AC.b (regB (Ins.s i)))) [] none, Eff.mk (AV.c (AC.b (sizeB (Ins.im i)))) [] none] [false, true, true, true, true, true] [] [] Try.func114 rfl rfl rfl rfl (by kernel_rfl) h (cr_cons c0 (cr_cons c1 (cr_cons c2 cr_nil)))
theorem inBounds_w6 {i : Ins} {n : Int} (h : (!Ins.op i == 10 && (Ins.op i == 11 && (regB (Ins.d i) && (regB (Ins.s i) && (sizeB (Ins.im i) && (!decide (-64 ≤ Ins.of i) && true)))))) = true) (c0 : CallOK Try.prog (CallRec.mk 129 [AV.c (AC.i (Ins.d i))] [] (Eff.mk (AV.c (AC.b (regB (Ins.d i)))) [] none))) (c1 : CallOK Try.prog (CallRec.mk 129 [AV.c (AC.i (Ins.s i))] [] (Eff.mk (AV.c (AC.b (regB (Ins.s i)))) [] none))) (c2 : CallOK Try.prog (CallRec.mk 130 [AV.c (AC.u (Ins.im i))] [] (Eff.mk (AV.c (AC.b (sizeB (Ins.im i)))) [] none))) :
    CallOK Try.prog ⟨114, [AV.ag (Ins.cs i), AV.c (AC.i n)], [], ⟨AV.c (AC.b false), [], none⟩⟩ :=
  val_run 2000 [Eff.mk (AV.c (AC.b (regB (Ins.d i)))) [] none, Eff.mk (AV.c (AC.b (regB (Ins.s i)))) [] none, Eff.mk (AV.c (AC.b (sizeB (Ins.im i)))) [] none] [false, true, true, true, true, false] [] [] Try.func114 rfl rfl rfl rfl (by kernel_rfl) h (cr_cons c0 (cr_cons c1 (cr_cons c2 cr_nil)))
theorem inBounds_w7 {i : Ins} {n : Int} (h : (!Ins.op i == 10 && (Ins.op i == 11 && (regB (Ins.d i) && (regB (Ins.s i) && (!sizeB (Ins.im i) && true))))) = true) (c0 : CallOK Try.prog (CallRec.mk 129 [AV.c (AC.i (Ins.d i))] [] (Eff.mk (AV.c (AC.b (regB (Ins.d i)))) [] none))) (c1 : CallOK Try.prog (CallRec.mk 129 [AV.c (AC.i (Ins.s i))] [] (Eff.mk (AV.c (AC.b (regB (Ins.s i)))) [] none))) (c2 : CallOK Try.prog (CallRec.mk 130 [AV.c (AC.u (Ins.im i))] [] (Eff.mk (AV.c (AC.b (sizeB (Ins.im i)))) [] none))) :
    CallOK Try.prog ⟨114, [AV.ag (Ins.cs i), AV.c (AC.i n)], [], ⟨AV.c (AC.b false), [], none⟩⟩ :=
  val_run 2000 [Eff.mk (AV.c (AC.b (regB (Ins.d i)))) [] none, Eff.mk (AV.c (AC.b (regB (Ins.s i)))) [] none, Eff.mk (AV.c (AC.b (sizeB (Ins.im i)))) [] none] [false, true, true, true, false, false] [] [] Try.func114 rfl rfl rfl rfl (by kernel_rfl) h (cr_cons c0 (cr_cons c1 (cr_cons c2 cr_nil)))
theorem inBounds_w8 {i : Ins} {n : Int} (h : (!Ins.op i == 10 && (Ins.op i == 11 && (regB (Ins.d i) && (!regB (Ins.s i) && true)))) = true) (c0 : CallOK Try.prog (CallRec.mk 129 [AV.c (AC.i (Ins.d i))] [] (Eff.mk (AV.c (AC.b (regB (Ins.d i)))) [] none))) (c1 : CallOK Try.prog (CallRec.mk 129 [AV.c (AC.i (Ins.s i))] [] (Eff.mk (AV.c (AC.b (regB (Ins.s i)))) [] none))) :
    CallOK Try.prog ⟨114, [AV.ag (Ins.cs i), AV.c (AC.i n)], [], ⟨AV.c (AC.b false), [], none⟩⟩ :=
  val_run 2000 [Eff.mk (AV.c (AC.b (regB (Ins.d i)))) [] none, Eff.mk (AV.c (AC.b (regB (Ins.s i)))) [] none] [false, true, true, false, false, false] [] [] Try.func114 rfl rfl rfl rfl (by kernel_rfl) h (cr_cons c0 (cr_cons c1 cr_nil))
theorem inBounds_w9 {i : Ins} {n : Int} (h : (!Ins.op i == 10 && (Ins.op i == 11 && (!regB (Ins.d i) && true))) = true) (c0 : CallOK Try.prog (CallRec.mk 129 [AV.c (AC.i (Ins.d i))] [] (Eff.mk (AV.c (AC.b (regB (Ins.d i)))) [] none))) :
    CallOK Try.prog ⟨114, [AV.ag (Ins.cs i), AV.c (AC.i n)], [], ⟨AV.c (AC.b false), [], none⟩⟩ :=
  val_run 2000 [Eff.mk (AV.c (AC.b (regB (Ins.d i)))) [] none] [false, true, false, false, false, false] [] [] Try.func114 rfl rfl rfl rfl (by kernel_rfl) h (cr_cons c0 cr_nil)
theorem inBounds_w10 {i : Ins} {n : Int} (h : (!Ins.op i == 10 && (!Ins.op i == 11 && (Ins.op i == 12 && true))) = true) (c0 : CallOK Try.prog (CallRec.mk 131 [AV.c (AC.i (Ins.of i)), AV.c (AC.i n)] [] (Eff.mk (AV.c (AC.b (goesB (Ins.of i) n))) [] none))) :
    CallOK Try.prog ⟨114, [AV.ag (Ins.cs i), AV.c (AC.i n)], [], ⟨AV.c (AC.b (goesB (Ins.of i) n)), [], none⟩⟩ :=
  val_run 2000 [Eff.mk (AV.c (AC.b (goesB (Ins.of i) n))) [] none] [false, false, true] [] [] Try.func114 rfl rfl rfl rfl (by kernel_rfl) h (cr_cons c0 cr_nil)
theorem inBounds_w11 {i : Ins} {n : Int} (h : (!Ins.op i == 10 && (!Ins.op i == 11 && (!Ins.op i == 12 && (Ins.op i == 13 && (Ins.op i == 13 && (regB (Ins.d i) && (srcB (Ins.s i) && true))))))) = true) (c0 : CallOK Try.prog (CallRec.mk 129 [AV.c (AC.i (Ins.d i))] [] (Eff.mk (AV.c (AC.b (regB (Ins.d i)))) [] none))) (c1 : CallOK Try.prog (CallRec.mk 132 [AV.c (AC.i (Ins.s i))] [] (Eff.mk (AV.c (AC.b (srcB (Ins.s i)))) [] none))) (c2 : CallOK Try.prog (CallRec.mk 131 [AV.c (AC.i (Ins.of i)), AV.c (AC.i n)] [] (Eff.mk (AV.c (AC.b (goesB (Ins.of i) n))) [] none))) :
    CallOK Try.prog ⟨114, [AV.ag (Ins.cs i), AV.c (AC.i n)], [], ⟨AV.c (AC.b (goesB (Ins.of i) n)), [], none⟩⟩ :=
  val_run 2000 [Eff.mk (AV.c (AC.b (regB (Ins.d i)))) [] none, Eff.mk (AV.c (AC.b (srcB (Ins.s i)))) [] none, Eff.mk (AV.c (AC.b (goesB (Ins.of i) n))) [] none] [false, false, false, true, true, true, true] [] [] Try.func114 rfl rfl rfl rfl (by kernel_rfl) h (cr_cons c0 (cr_cons c1 (cr_cons c2 cr_nil)))
theorem inBounds_w12 {i : Ins} {n : Int} (h : (!Ins.op i == 10 && (!Ins.op i == 11 && (!Ins.op i == 12 && (Ins.op i == 13 && (Ins.op i == 13 && (regB (Ins.d i) && (!srcB (Ins.s i) && true))))))) = true) (c0 : CallOK Try.prog (CallRec.mk 129 [AV.c (AC.i (Ins.d i))] [] (Eff.mk (AV.c (AC.b (regB (Ins.d i)))) [] none))) (c1 : CallOK Try.prog (CallRec.mk 132 [AV.c (AC.i (Ins.s i))] [] (Eff.mk (AV.c (AC.b (srcB (Ins.s i)))) [] none))) :
    CallOK Try.prog ⟨114, [AV.ag (Ins.cs i), AV.c (AC.i n)], [], ⟨AV.c (AC.b false), [], none⟩⟩ :=
  val_run 2000 [Eff.mk (AV.c (AC.b (regB (Ins.d i)))) [] none, Eff.mk (AV.c (AC.b (srcB (Ins.s i)))) [] none] [false, false, false, true, true, true, false] [] [] Try.func114 rfl rfl rfl rfl (by kernel_rfl) h (cr_cons c0 (cr_cons c1 cr_nil))
theorem inBounds_w13 {i : Ins} {n : Int} (h : (!Ins.op i == 10 && (!Ins.op i == 11 && (!Ins.op i == 12 && (Ins.op i == 13 && (Ins.op i == 13 && (!regB (Ins.d i) && true)))))) = true) (c0 : CallOK Try.prog (CallRec.mk 129 [AV.c (AC.i (Ins.d i))] [] (Eff.mk (AV.c (AC.b (regB (Ins.d i)))) [] none))) :
    CallOK Try.prog ⟨114, [AV.ag (Ins.cs i), AV.c (AC.i n)], [], ⟨AV.c (AC.b false), [], none⟩⟩ :=
  val_run 2000 [Eff.mk (AV.c (AC.b (regB (Ins.d i)))) [] none] [false, false, false, true, true, false, false] [] [] Try.func114 rfl rfl rfl rfl (by kernel_rfl) h (cr_cons c0 cr_nil)
theorem inBounds_w14 {i : Ins} {n : Int} (h : (!Ins.op i == 10 && (!Ins.op i == 11 && (!Ins.op i == 12 && (!Ins.op i == 13 && (Ins.op i == 14 && (regB (Ins.d i) && (srcB (Ins.s i) && true))))))) = true) (c0 : CallOK Try.prog (CallRec.mk 129 [AV.c (AC.i (Ins.d i))] [] (Eff.mk (AV.c (AC.b (regB (Ins.d i)))) [] none))) (c1 : CallOK Try.prog (CallRec.mk 132 [AV.c (AC.i (Ins.s i))] [] (Eff.mk (AV.c (AC.b (srcB (Ins.s i)))) [] none))) (c2 : CallOK Try.prog (CallRec.mk 131 [AV.c (AC.i (Ins.of i)), AV.c (AC.i n)] [] (Eff.mk (AV.c (AC.b (goesB (Ins.of i) n))) [] none))) :
    CallOK Try.prog ⟨114, [AV.ag (Ins.cs i), AV.c (AC.i n)], [], ⟨AV.c (AC.b (goesB (Ins.of i) n)), [], none⟩⟩ :=
  val_run 2000 [Eff.mk (AV.c (AC.b (regB (Ins.d i)))) [] none, Eff.mk (AV.c (AC.b (srcB (Ins.s i)))) [] none, Eff.mk (AV.c (AC.b (goesB (Ins.of i) n))) [] none] [false, false, false, false, true, true, true] [] [] Try.func114 rfl rfl rfl rfl (by kernel_rfl) h (cr_cons c0 (cr_cons c1 (cr_cons c2 cr_nil)))
theorem inBounds_w15 {i : Ins} {n : Int} (h : (!Ins.op i == 10 && (!Ins.op i == 11 && (!Ins.op i == 12 && (!Ins.op i == 13 && (Ins.op i == 14 && (regB (Ins.d i) && (!srcB (Ins.s i) && true))))))) = true) (c0 : CallOK Try.prog (CallRec.mk 129 [AV.c (AC.i (Ins.d i))] [] (Eff.mk (AV.c (AC.b (regB (Ins.d i)))) [] none))) (c1 : CallOK Try.prog (CallRec.mk 132 [AV.c (AC.i (Ins.s i))] [] (Eff.mk (AV.c (AC.b (srcB (Ins.s i)))) [] none))) :
    CallOK Try.prog ⟨114, [AV.ag (Ins.cs i), AV.c (AC.i n)], [], ⟨AV.c (AC.b false), [], none⟩⟩ :=
  val_run 2000 [Eff.mk (AV.c (AC.b (regB (Ins.d i)))) [] none, Eff.mk (AV.c (AC.b (srcB (Ins.s i)))) [] none] [false, false, false, false, true, true, false] [] [] Try.func114 rfl rfl rfl rfl (by kernel_rfl) h (cr_cons c0 (cr_cons c1 cr_nil))
theorem inBounds_w16 {i : Ins} {n : Int} (h : (!Ins.op i == 10 && (!Ins.op i == 11 && (!Ins.op i == 12 && (!Ins.op i == 13 && (Ins.op i == 14 && (!regB (Ins.d i) && true)))))) = true) (c0 : CallOK Try.prog (CallRec.mk 129 [AV.c (AC.i (Ins.d i))] [] (Eff.mk (AV.c (AC.b (regB (Ins.d i)))) [] none))) :
    CallOK Try.prog ⟨114, [AV.ag (Ins.cs i), AV.c (AC.i n)], [], ⟨AV.c (AC.b false), [], none⟩⟩ :=
  val_run 2000 [Eff.mk (AV.c (AC.b (regB (Ins.d i)))) [] none] [false, false, false, false, true, false, false] [] [] Try.func114 rfl rfl rfl rfl (by kernel_rfl) h (cr_cons c0 cr_nil)
theorem inBounds_w17 {i : Ins} {n : Int} (h : (!Ins.op i == 10 && (!Ins.op i == 11 && (!Ins.op i == 12 && (!Ins.op i == 13 && (!Ins.op i == 14 && (Ins.op i == 15 && true)))))) = true) :
    CallOK Try.prog ⟨114, [AV.ag (Ins.cs i), AV.c (AC.i n)], [], ⟨AV.c (AC.b true), [], none⟩⟩ :=
  val_run 2000 [] [false, false, false, false, false, true] [] [] Try.func114 rfl rfl rfl rfl (by kernel_rfl) h cr_nil
theorem inBounds_w18 {i : Ins} {n : Int} (h : (!Ins.op i == 10 && (!Ins.op i == 11 && (!Ins.op i == 12 && (!Ins.op i == 13 && (!Ins.op i == 14 && (!Ins.op i == 15 && (regB (Ins.d i) && true))))))) = true) (c0 : CallOK Try.prog (CallRec.mk 129 [AV.c (AC.i (Ins.d i))] [] (Eff.mk (AV.c (AC.b (regB (Ins.d i)))) [] none))) (c1 : CallOK Try.prog (CallRec.mk 132 [AV.c (AC.i (Ins.s i))] [] (Eff.mk (AV.c (AC.b (srcB (Ins.s i)))) [] none))) :
    CallOK Try.prog ⟨114, [AV.ag (Ins.cs i), AV.c (AC.i n)], [], ⟨AV.c (AC.b (srcB (Ins.s i))), [], none⟩⟩ :=
  val_run 2000 [Eff.mk (AV.c (AC.b (regB (Ins.d i)))) [] none, Eff.mk (AV.c (AC.b (srcB (Ins.s i)))) [] none] [false, false, false, false, false, false, true] [] [] Try.func114 rfl rfl rfl rfl (by kernel_rfl) h (cr_cons c0 (cr_cons c1 cr_nil))
theorem inBounds_w19 {i : Ins} {n : Int} (h : (!Ins.op i == 10 && (!Ins.op i == 11 && (!Ins.op i == 12 && (!Ins.op i == 13 && (!Ins.op i == 14 && (!Ins.op i == 15 && (!regB (Ins.d i) && true))))))) = true) (c0 : CallOK Try.prog (CallRec.mk 129 [AV.c (AC.i (Ins.d i))] [] (Eff.mk (AV.c (AC.b (regB (Ins.d i)))) [] none))) :
    CallOK Try.prog ⟨114, [AV.ag (Ins.cs i), AV.c (AC.i n)], [], ⟨AV.c (AC.b false), [], none⟩⟩ :=
  val_run 2000 [Eff.mk (AV.c (AC.b (regB (Ins.d i)))) [] none] [false, false, false, false, false, false, false] [] [] Try.func114 rfl rfl rfl rfl (by kernel_rfl) h (cr_cons c0 cr_nil)
theorem inBounds_all {i : Ins} {n : Int} {V : AV}
    (l0 : (Ins.op i == 10) = true → (regB (Ins.d i)) = true → (regB (Ins.s i)) = true → (sizeB (Ins.im i)) = true → (decide (-64 ≤ Ins.of i)) = true → (CallOK Try.prog (CallRec.mk 129 [AV.c (AC.i (Ins.d i))] [] (Eff.mk (AV.c (AC.b (regB (Ins.d i)))) [] none))) ∧ (CallOK Try.prog (CallRec.mk 129 [AV.c (AC.i (Ins.s i))] [] (Eff.mk (AV.c (AC.b (regB (Ins.s i)))) [] none))) ∧ (CallOK Try.prog (CallRec.mk 130 [AV.c (AC.u (Ins.im i))] [] (Eff.mk (AV.c (AC.b (sizeB (Ins.im i)))) [] none))) ∧ (AV.c (AC.b (decide (Ins.of i ≤ 64))) = V))
    (l1 : (Ins.op i == 10) = true → (regB (Ins.d i)) = true → (regB (Ins.s i)) = true → (sizeB (Ins.im i)) = true → (decide (-64 ≤ Ins.of i)) = false → (CallOK Try.prog (CallRec.mk 129 [AV.c (AC.i (Ins.d i))] [] (Eff.mk (AV.c (AC.b (regB (Ins.d i)))) [] none))) ∧ (CallOK Try.prog (CallRec.mk 129 [AV.c (AC.i (Ins.s i))] [] (Eff.mk (AV.c (AC.b (regB (Ins.s i)))) [] none))) ∧ (CallOK Try.prog (CallRec.mk 130 [AV.c (AC.u (Ins.im i))] [] (Eff.mk (AV.c (AC.b (sizeB (Ins.im i)))) [] none))) ∧ (AV.c (AC.b false) = V))
    (l2 : (Ins.op i == 10) = true → (regB (Ins.d i)) = true → (regB (Ins.s i)) = true → (sizeB (Ins.im i)) = false → (CallOK Try.prog (CallRec.mk 129 [AV.c (AC.i (Ins.d i))] [] (Eff.mk (AV.c (AC.b (regB (Ins.d i)))) [] none))) ∧ (CallOK Try.prog (CallRec.mk 129 [AV.c (AC.i (Ins.s i))] [] (Eff.mk (AV.c (AC.b (regB (Ins.s i)))) [] none))) ∧ (CallOK Try.prog (CallRec.mk 130 [AV.c (AC.u (Ins.im i))] [] (Eff.mk (AV.c (AC.b (sizeB (Ins.im i)))) [] none))) ∧ (AV.c (AC.b false) = V))
    (l3 : (Ins.op i == 10) = true → (regB (Ins.d i)) = true → (regB (Ins.s i)) = false → (CallOK Try.prog (CallRec.mk 129 [AV.c (AC.i (Ins.d i))] [] (Eff.mk (AV.c (AC.b (regB (Ins.d i)))) [] none))) ∧ (CallOK Try.prog (CallRec.mk 129 [AV.c (AC.i (Ins.s i))] [] (Eff.mk (AV.c (AC.b (regB (Ins.s i)))) [] none))) ∧ (AV.c (AC.b false) = V))
    (l4 : (Ins.op i == 10) = true → (regB (Ins.d i)) = false → (CallOK Try.prog (CallRec.mk 129 [AV.c (AC.i (Ins.d i))] [] (Eff.mk (AV.c (AC.b (regB (Ins.d i)))) [] none))) ∧ (AV.c (AC.b false) = V))
    (l5 : (Ins.op i == 10) = false → (Ins.op i == 11) = true → (regB (Ins.d i)) = true → (regB (Ins.s i)) = true → (sizeB (Ins.im i)) = true → (decide (-64 ≤ Ins.of i)) = true → (CallOK Try.prog (CallRec.mk 129 [AV.c (AC.i (Ins.d i))] [] (Eff.mk (AV.c (AC.b (regB (Ins.d i)))) [] none))) ∧ (CallOK Try.prog (CallRec.mk 129 [AV.c (AC.i (Ins.s i))] [] (Eff.mk (AV.c (AC.b (regB (Ins.s i)))) [] none))) ∧ (CallOK Try.prog (CallRec.mk 130 [AV.c (AC.u (Ins.im i))] [] (Eff.mk (AV.c (AC.b (sizeB (Ins.im i)))) [] none))) ∧ (AV.c (AC.b (decide (Ins.of i ≤ 64))) = V))
    (l6 : (Ins.op i == 10) = false → (Ins.op i == 11) = true → (regB (Ins.d i)) = true → (regB (Ins.s i)) = true → (sizeB (Ins.im i)) = true → (decide (-64 ≤ Ins.of i)) = false → (CallOK Try.prog (CallRec.mk 129 [AV.c (AC.i (Ins.d i))] [] (Eff.mk (AV.c (AC.b (regB (Ins.d i)))) [] none))) ∧ (CallOK Try.prog (CallRec.mk 129 [AV.c (AC.i (Ins.s i))] [] (Eff.mk (AV.c (AC.b (regB (Ins.s i)))) [] none))) ∧ (CallOK Try.prog (CallRec.mk 130 [AV.c (AC.u (Ins.im i))] [] (Eff.mk (AV.c (AC.b (sizeB (Ins.im i)))) [] none))) ∧ (AV.c (AC.b false) = V))
    (l7 : (Ins.op i == 10) = false → (Ins.op i == 11) = true → (regB (Ins.d i)) = true → (regB (Ins.s i)) = true → (sizeB (Ins.im i)) = false → (CallOK Try.prog (CallRec.mk 129 [AV.c (AC.i (Ins.d i))] [] (Eff.mk (AV.c (AC.b (regB (Ins.d i)))) [] none))) ∧ (CallOK Try.prog (CallRec.mk 129 [AV.c (AC.i (Ins.s i))] [] (Eff.mk (AV.c (AC.b (regB (Ins.s i)))) [] none))) ∧ (CallOK Try.prog (CallRec.mk 130 [AV.c (AC.u (Ins.im i))] [] (Eff.mk (AV.c (AC.b (sizeB (Ins.im i)))) [] none))) ∧ (AV.c (AC.b false) = V))
    (l8 : (Ins.op i == 10) = false → (Ins.op i == 11) = true → (regB (Ins.d i)) = true → (regB (Ins.s i)) = false → (CallOK Try.prog (CallRec.mk 129 [AV.c (AC.i (Ins.d i))] [] (Eff.mk (AV.c (AC.b (regB (Ins.d i)))) [] none))) ∧ (CallOK Try.prog (CallRec.mk 129 [AV.c (AC.i (Ins.s i))] [] (Eff.mk (AV.c (AC.b (regB (Ins.s i)))) [] none))) ∧ (AV.c (AC.b false) = V))
    (l9 : (Ins.op i == 10) = false → (Ins.op i == 11) = true → (regB (Ins.d i)) = false → (CallOK Try.prog (CallRec.mk 129 [AV.c (AC.i (Ins.d i))] [] (Eff.mk (AV.c (AC.b (regB (Ins.d i)))) [] none))) ∧ (AV.c (AC.b false) = V))
    (l10 : (Ins.op i == 10) = false → (Ins.op i == 11) = false → (Ins.op i == 12) = true → (CallOK Try.prog (CallRec.mk 131 [AV.c (AC.i (Ins.of i)), AV.c (AC.i n)] [] (Eff.mk (AV.c (AC.b (goesB (Ins.of i) n))) [] none))) ∧ (AV.c (AC.b (goesB (Ins.of i) n)) = V))
    (l11 : (Ins.op i == 10) = false → (Ins.op i == 11) = false → (Ins.op i == 12) = false → (Ins.op i == 13) = true → (regB (Ins.d i)) = true → (srcB (Ins.s i)) = true → (CallOK Try.prog (CallRec.mk 129 [AV.c (AC.i (Ins.d i))] [] (Eff.mk (AV.c (AC.b (regB (Ins.d i)))) [] none))) ∧ (CallOK Try.prog (CallRec.mk 132 [AV.c (AC.i (Ins.s i))] [] (Eff.mk (AV.c (AC.b (srcB (Ins.s i)))) [] none))) ∧ (CallOK Try.prog (CallRec.mk 131 [AV.c (AC.i (Ins.of i)), AV.c (AC.i n)] [] (Eff.mk (AV.c (AC.b (goesB (Ins.of i) n))) [] none))) ∧ (AV.c (AC.b (goesB (Ins.of i) n)) = V))
    (l12 : (Ins.op i == 10) = false → (Ins.op i == 11) = false → (Ins.op i == 12) = false → (Ins.op i == 13) = true → (regB (Ins.d i)) = true → (srcB (Ins.s i)) = false → (CallOK Try.prog (CallRec.mk 129 [AV.c (AC.i (Ins.d i))] [] (Eff.mk (AV.c (AC.b (regB (Ins.d i)))) [] none))) ∧ (CallOK Try.prog (CallRec.mk 132 [AV.c (AC.i (Ins.s i))] [] (Eff.mk (AV.c (AC.b (srcB (Ins.s i)))) [] none))) ∧ (AV.c (AC.b false) = V))
    (l13 : (Ins.op i == 10) = false → (Ins.op i == 11) = false → (Ins.op i == 12) = false → (Ins.op i == 13) = true → (regB (Ins.d i)) = false → (CallOK Try.prog (CallRec.mk 129 [AV.c (AC.i (Ins.d i))] [] (Eff.mk (AV.c (AC.b (regB (Ins.d i)))) [] none))) ∧ (AV.c (AC.b false) = V))
    (l14 : (Ins.op i == 10) = false → (Ins.op i == 11) = false → (Ins.op i == 12) = false → (Ins.op i == 13) = false → (Ins.op i == 14) = true → (regB (Ins.d i)) = true → (srcB (Ins.s i)) = true → (CallOK Try.prog (CallRec.mk 129 [AV.c (AC.i (Ins.d i))] [] (Eff.mk (AV.c (AC.b (regB (Ins.d i)))) [] none))) ∧ (CallOK Try.prog (CallRec.mk 132 [AV.c (AC.i (Ins.s i))] [] (Eff.mk (AV.c (AC.b (srcB (Ins.s i)))) [] none))) ∧ (CallOK Try.prog (CallRec.mk 131 [AV.c (AC.i (Ins.of i)), AV.c (AC.i n)] [] (Eff.mk (AV.c (AC.b (goesB (Ins.of i) n))) [] none))) ∧ (AV.c (AC.b (goesB (Ins.of i) n)) = V))
    (l15 : (Ins.op i == 10) = false → (Ins.op i == 11) = false → (Ins.op i == 12) = false → (Ins.op i == 13) = false → (Ins.op i == 14) = true → (regB (Ins.d i)) = true → (srcB (Ins.s i)) = false → (CallOK Try.prog (CallRec.mk 129 [AV.c (AC.i (Ins.d i))] [] (Eff.mk (AV.c (AC.b (regB (Ins.d i)))) [] none))) ∧ (CallOK Try.prog (CallRec.mk 132 [AV.c (AC.i (Ins.s i))] [] (Eff.mk (AV.c (AC.b (srcB (Ins.s i)))) [] none))) ∧ (AV.c (AC.b false) = V))
    (l16 : (Ins.op i == 10) = false → (Ins.op i == 11) = false → (Ins.op i == 12) = false → (Ins.op i == 13) = false → (Ins.op i == 14) = true → (regB (Ins.d i)) = false → (CallOK Try.prog (CallRec.mk 129 [AV.c (AC.i (Ins.d i))] [] (Eff.mk (AV.c (AC.b (regB (Ins.d i)))) [] none))) ∧ (AV.c (AC.b false) = V))
    (l17 : (Ins.op i == 10) = false → (Ins.op i == 11) = false → (Ins.op i == 12) = false → (Ins.op i == 13) = false → (Ins.op i == 14) = false → (Ins.op i == 15) = true → (AV.c (AC.b true) = V))
    (l18 : (Ins.op i == 10) = false → (Ins.op i == 11) = false → (Ins.op i == 12) = false → (Ins.op i == 13) = false → (Ins.op i == 14) = false → (Ins.op i == 15) = false → (regB (Ins.d i)) = true → (CallOK Try.prog (CallRec.mk 129 [AV.c (AC.i (Ins.d i))] [] (Eff.mk (AV.c (AC.b (regB (Ins.d i)))) [] none))) ∧ (CallOK Try.prog (CallRec.mk 132 [AV.c (AC.i (Ins.s i))] [] (Eff.mk (AV.c (AC.b (srcB (Ins.s i)))) [] none))) ∧ (AV.c (AC.b (srcB (Ins.s i))) = V))
    (l19 : (Ins.op i == 10) = false → (Ins.op i == 11) = false → (Ins.op i == 12) = false → (Ins.op i == 13) = false → (Ins.op i == 14) = false → (Ins.op i == 15) = false → (regB (Ins.d i)) = false → (CallOK Try.prog (CallRec.mk 129 [AV.c (AC.i (Ins.d i))] [] (Eff.mk (AV.c (AC.b (regB (Ins.d i)))) [] none))) ∧ (AV.c (AC.b false) = V)) :
    CallOK Try.prog ⟨114, [AV.ag (Ins.cs i), AV.c (AC.i n)], [], ⟨V, [], none⟩⟩ :=
  (tf (Ins.op i == 10)).elim (fun h0 => (tf (regB (Ins.d i))).elim (fun h1 => (tf (regB (Ins.s i))).elim (fun h2 => (tf (sizeB (Ins.im i))).elim (fun h3 => (tf (decide (-64 ≤ Ins.of i))).elim (fun h4 => (match l0 h0 h1 h2 h3 h4 with | ⟨c0, c1, c2, e⟩ => ok_eq (inBounds_w0 (and_yes h0 (and_yes h0 (and_yes h1 (and_yes h2 (and_yes h3 (and_yes h4 rfl)))))) c0 c1 c2) e)) (fun h4 => (match l1 h0 h1 h2 h3 h4 with | ⟨c0, c1, c2, e⟩ => ok_eq (inBounds_w1 (and_yes h0 (and_yes h0 (and_yes h1 (and_yes h2 (and_yes h3 (and_yes (not_yes h4) rfl)))))) c0 c1 c2) e))) (fun h3 => (match l2 h0 h1 h2 h3 with | ⟨c0, c1, c2, e⟩ => ok_eq (inBounds_w2 (and_yes h0 (and_yes h0 (and_yes h1 (and_yes h2 (and_yes (not_yes h3) rfl))))) c0 c1 c2) e))) (fun h2 => (match l3 h0 h1 h2 with | ⟨c0, c1, e⟩ => ok_eq (inBounds_w3 (and_yes h0 (and_yes h0 (and_yes h1 (and_yes (not_yes h2) rfl)))) c0 c1) e))) (fun h1 => (match l4 h0 h1 with | ⟨c0, e⟩ => ok_eq (inBounds_w4 (and_yes h0 (and_yes h0 (and_yes (not_yes h1) rfl))) c0) e))) (fun h0 => (tf (Ins.op i == 11)).elim (fun h1 => (tf (regB (Ins.d i))).elim (fun h2 => (tf (regB (Ins.s i))).elim (fun h3 => (tf (sizeB (Ins.im i))).elim (fun h4 => (tf (decide (-64 ≤ Ins.of i))).elim (fun h5 => (match l5 h0 h1 h2 h3 h4 h5 with | ⟨c0, c1, c2, e⟩ => ok_eq (inBounds_w5 (and_yes (not_yes h0) (and_yes h1 (and_yes h2 (and_yes h3 (and_yes h4 (and_yes h5 rfl)))))) c0 c1 c2) e)) (fun h5 => (match l6 h0 h1 h2 h3 h4 h5 with | ⟨c0, c1, c2, e⟩ => ok_eq (inBounds_w6 (and_yes (not_yes h0) (and_yes h1 (and_yes h2 (and_yes h3 (and_yes h4 (and_yes (not_yes h5) rfl)))))) c0 c1 c2) e))) (fun h4 => (match l7 h0 h1 h2 h3 h4 with | ⟨c0, c1, c2, e⟩ => ok_eq (inBounds_w7 (and_yes (not_yes h0) (and_yes h1 (and_yes h2 (and_yes h3 (and_yes (not_yes h4) rfl))))) c0 c1 c2) e))) (fun h3 => (match l8 h0 h1 h2 h3 with | ⟨c0, c1, e⟩ => ok_eq (inBounds_w8 (and_yes (not_yes h0) (and_yes h1 (and_yes h2 (and_yes (not_yes h3) rfl)))) c0 c1) e))) (fun h2 => (match l9 h0 h1 h2 with | ⟨c0, e⟩ => ok_eq (inBounds_w9 (and_yes (not_yes h0) (and_yes h1 (and_yes (not_yes h2) rfl))) c0) e))) (fun h1 => (tf (Ins.op i == 12)).elim (fun h2 => (match l10 h0 h1 h2 with | ⟨c0, e⟩ => ok_eq (inBounds_w10 (and_yes (not_yes h0) (and_yes (not_yes h1) (and_yes h2 rfl))) c0) e)) (fun h2 => (tf (Ins.op i == 13)).elim (fun h3 => (tf (regB (Ins.d i))).elim (fun h4 => (tf (srcB (Ins.s i))).elim (fun h5 => (match l11 h0 h1 h2 h3 h4 h5 with | ⟨c0, c1, c2, e⟩ => ok_eq (inBounds_w11 (and_yes (not_yes h0) (and_yes (not_yes h1) (and_yes (not_yes h2) (and_yes h3 (and_yes h3 (and_yes h4 (and_yes h5 rfl))))))) c0 c1 c2) e)) (fun h5 => (match l12 h0 h1 h2 h3 h4 h5 with | ⟨c0, c1, e⟩ => ok_eq (inBounds_w12 (and_yes (not_yes h0) (and_yes (not_yes h1) (and_yes (not_yes h2) (and_yes h3 (and_yes h3 (and_yes h4 (and_yes (not_yes h5) rfl))))))) c0 c1) e))) (fun h4 => (match l13 h0 h1 h2 h3 h4 with | ⟨c0, e⟩ => ok_eq (inBounds_w13 (and_yes (not_yes h0) (and_yes (not_yes h1) (and_yes (not_yes h2) (and_yes h3 (and_yes h3 (and_yes (not_yes h4) rfl)))))) c0) e))) (fun h3 => (tf (Ins.op i == 14)).elim (fun h4 => (tf (regB (Ins.d i))).elim (fun h5 => (tf (srcB (Ins.s i))).elim (fun h6 => (match l14 h0 h1 h2 h3 h4 h5 h6 with | ⟨c0, c1, c2, e⟩ => ok_eq (inBounds_w14 (and_yes (not_yes h0) (and_yes (not_yes h1) (and_yes (not_yes h2) (and_yes (not_yes h3) (and_yes h4 (and_yes h5 (and_yes h6 rfl))))))) c0 c1 c2) e)) (fun h6 => (match l15 h0 h1 h2 h3 h4 h5 h6 with | ⟨c0, c1, e⟩ => ok_eq (inBounds_w15 (and_yes (not_yes h0) (and_yes (not_yes h1) (and_yes (not_yes h2) (and_yes (not_yes h3) (and_yes h4 (and_yes h5 (and_yes (not_yes h6) rfl))))))) c0 c1) e))) (fun h5 => (match l16 h0 h1 h2 h3 h4 h5 with | ⟨c0, e⟩ => ok_eq (inBounds_w16 (and_yes (not_yes h0) (and_yes (not_yes h1) (and_yes (not_yes h2) (and_yes (not_yes h3) (and_yes h4 (and_yes (not_yes h5) rfl)))))) c0) e))) (fun h4 => (tf (Ins.op i == 15)).elim (fun h5 => (match l17 h0 h1 h2 h3 h4 h5 with | e => ok_eq (inBounds_w17 (and_yes (not_yes h0) (and_yes (not_yes h1) (and_yes (not_yes h2) (and_yes (not_yes h3) (and_yes (not_yes h4) (and_yes h5 rfl))))))) e)) (fun h5 => (tf (regB (Ins.d i))).elim (fun h6 => (match l18 h0 h1 h2 h3 h4 h5 h6 with | ⟨c0, c1, e⟩ => ok_eq (inBounds_w18 (and_yes (not_yes h0) (and_yes (not_yes h1) (and_yes (not_yes h2) (and_yes (not_yes h3) (and_yes (not_yes h4) (and_yes (not_yes h5) (and_yes h6 rfl))))))) c0 c1) e)) (fun h6 => (match l19 h0 h1 h2 h3 h4 h5 h6 with | ⟨c0, e⟩ => ok_eq (inBounds_w19 (and_yes (not_yes h0) (and_yes (not_yes h1) (and_yes (not_yes h2) (and_yes (not_yes h3) (and_yes (not_yes h4) (and_yes (not_yes h5) (and_yes (not_yes h6) rfl))))))) c0) e))))))))
theorem bare_w0 {i : Ins} (h : (Ins.op i == 10 && (Ins.op i == 10 && true)) = true) :
    CallOK Try.prog ⟨115, [AV.ag (Ins.cs i)], [], ⟨AV.c (AC.b true), [], none⟩⟩ :=
  val_run 2000 [] [true, true] [] [] Try.func115 rfl rfl rfl rfl (by kernel_rfl) h cr_nil
theorem bare_w1 {i : Ins} (h : (!Ins.op i == 10 && (Ins.op i == 11 && true)) = true) :
    CallOK Try.prog ⟨115, [AV.ag (Ins.cs i)], [], ⟨AV.c (AC.b true), [], none⟩⟩ :=
  val_run 2000 [] [false, true] [] [] Try.func115 rfl rfl rfl rfl (by kernel_rfl) h cr_nil
theorem bare_w2 {i : Ins} (h : (!Ins.op i == 10 && (!Ins.op i == 11 && (Ins.op i == 12 && true))) = true) :
    CallOK Try.prog ⟨115, [AV.ag (Ins.cs i)], [], ⟨AV.c (AC.b (eqCs (Ins.cs i) (splice (splice [AC.i 0, AC.i 0, AC.i 0, AC.u 0#64, AC.i 0] 0 [AC.i 12]) 4 [AC.i (Ins.of i)]))), [], none⟩⟩ :=
  val_run 2000 [] [false, false, true] [] [] Try.func115 rfl rfl rfl rfl (by kernel_rfl) h cr_nil
theorem bare_w3 {i : Ins} (h : (!Ins.op i == 10 && (!Ins.op i == 11 && (!Ins.op i == 12 && (Ins.op i == 13 && (Ins.op i == 13 && (Ins.s i == -1 && true)))))) = true) :
    CallOK Try.prog ⟨115, [AV.ag (Ins.cs i)], [], ⟨AV.c (AC.b true), [], none⟩⟩ :=
  val_run 2000 [] [false, false, false, true, true, true] [] [] Try.func115 rfl rfl rfl rfl (by kernel_rfl) h cr_nil
theorem bare_w4 {i : Ins} (h : (!Ins.op i == 10 && (!Ins.op i == 11 && (!Ins.op i == 12 && (Ins.op i == 13 && (Ins.op i == 13 && (!Ins.s i == -1 && true)))))) = true) :
    CallOK Try.prog ⟨115, [AV.ag (Ins.cs i)], [], ⟨AV.c (AC.b (eqb (Ins.im i) 0#64)), [], none⟩⟩ :=
  val_run 2000 [] [false, false, false, true, true, false] [] [] Try.func115 rfl rfl rfl rfl (by kernel_rfl) h cr_nil
theorem bare_w5 {i : Ins} (h : (!Ins.op i == 10 && (!Ins.op i == 11 && (!Ins.op i == 12 && (!Ins.op i == 13 && (Ins.op i == 14 && (Ins.s i == -1 && true)))))) = true) :
    CallOK Try.prog ⟨115, [AV.ag (Ins.cs i)], [], ⟨AV.c (AC.b true), [], none⟩⟩ :=
  val_run 2000 [] [false, false, false, false, true, true] [] [] Try.func115 rfl rfl rfl rfl (by kernel_rfl) h cr_nil
theorem bare_w6 {i : Ins} (h : (!Ins.op i == 10 && (!Ins.op i == 11 && (!Ins.op i == 12 && (!Ins.op i == 13 && (Ins.op i == 14 && (!Ins.s i == -1 && true)))))) = true) :
    CallOK Try.prog ⟨115, [AV.ag (Ins.cs i)], [], ⟨AV.c (AC.b (eqb (Ins.im i) 0#64)), [], none⟩⟩ :=
  val_run 2000 [] [false, false, false, false, true, false] [] [] Try.func115 rfl rfl rfl rfl (by kernel_rfl) h cr_nil
theorem bare_w7 {i : Ins} (h : (!Ins.op i == 10 && (!Ins.op i == 11 && (!Ins.op i == 12 && (!Ins.op i == 13 && (!Ins.op i == 14 && (Ins.op i == 15 && true)))))) = true) :
    CallOK Try.prog ⟨115, [AV.ag (Ins.cs i)], [], ⟨AV.c (AC.b (eqCs (Ins.cs i) (splice [AC.i 0, AC.i 0, AC.i 0, AC.u 0#64, AC.i 0] 0 [AC.i 15]))), [], none⟩⟩ :=
  val_run 2000 [] [false, false, false, false, false, true] [] [] Try.func115 rfl rfl rfl rfl (by kernel_rfl) h cr_nil
theorem bare_w8 {i : Ins} (h : (!Ins.op i == 10 && (!Ins.op i == 11 && (!Ins.op i == 12 && (!Ins.op i == 13 && (!Ins.op i == 14 && (!Ins.op i == 15 && (Ins.of i == 0 && (Ins.s i == -1 && true)))))))) = true) :
    CallOK Try.prog ⟨115, [AV.ag (Ins.cs i)], [], ⟨AV.c (AC.b true), [], none⟩⟩ :=
  val_run 2000 [] [false, false, false, false, false, false, true, true] [] [] Try.func115 rfl rfl rfl rfl (by kernel_rfl) h cr_nil
theorem bare_w9 {i : Ins} (h : (!Ins.op i == 10 && (!Ins.op i == 11 && (!Ins.op i == 12 && (!Ins.op i == 13 && (!Ins.op i == 14 && (!Ins.op i == 15 && (Ins.of i == 0 && (!Ins.s i == -1 && true)))))))) = true) :
    CallOK Try.prog ⟨115, [AV.ag (Ins.cs i)], [], ⟨AV.c (AC.b (eqb (Ins.im i) 0#64)), [], none⟩⟩ :=
  val_run 2000 [] [false, false, false, false, false, false, true, false] [] [] Try.func115 rfl rfl rfl rfl (by kernel_rfl) h cr_nil
theorem bare_w10 {i : Ins} (h : (!Ins.op i == 10 && (!Ins.op i == 11 && (!Ins.op i == 12 && (!Ins.op i == 13 && (!Ins.op i == 14 && (!Ins.op i == 15 && (!Ins.of i == 0 && true))))))) = true) :
    CallOK Try.prog ⟨115, [AV.ag (Ins.cs i)], [], ⟨AV.c (AC.b false), [], none⟩⟩ :=
  val_run 2000 [] [false, false, false, false, false, false, false] [] [] Try.func115 rfl rfl rfl rfl (by kernel_rfl) h cr_nil
theorem bare_all {i : Ins} {V : AV}
    (l0 : (Ins.op i == 10) = true → (AV.c (AC.b true) = V))
    (l1 : (Ins.op i == 10) = false → (Ins.op i == 11) = true → (AV.c (AC.b true) = V))
    (l2 : (Ins.op i == 10) = false → (Ins.op i == 11) = false → (Ins.op i == 12) = true → (AV.c (AC.b (eqCs (Ins.cs i) (splice (splice [AC.i 0, AC.i 0, AC.i 0, AC.u 0#64, AC.i 0] 0 [AC.i 12]) 4 [AC.i (Ins.of i)]))) = V))
    (l3 : (Ins.op i == 10) = false → (Ins.op i == 11) = false → (Ins.op i == 12) = false → (Ins.op i == 13) = true → (Ins.s i == -1) = true → (AV.c (AC.b true) = V))
    (l4 : (Ins.op i == 10) = false → (Ins.op i == 11) = false → (Ins.op i == 12) = false → (Ins.op i == 13) = true → (Ins.s i == -1) = false → (AV.c (AC.b (eqb (Ins.im i) 0#64)) = V))
    (l5 : (Ins.op i == 10) = false → (Ins.op i == 11) = false → (Ins.op i == 12) = false → (Ins.op i == 13) = false → (Ins.op i == 14) = true → (Ins.s i == -1) = true → (AV.c (AC.b true) = V))
    (l6 : (Ins.op i == 10) = false → (Ins.op i == 11) = false → (Ins.op i == 12) = false → (Ins.op i == 13) = false → (Ins.op i == 14) = true → (Ins.s i == -1) = false → (AV.c (AC.b (eqb (Ins.im i) 0#64)) = V))
    (l7 : (Ins.op i == 10) = false → (Ins.op i == 11) = false → (Ins.op i == 12) = false → (Ins.op i == 13) = false → (Ins.op i == 14) = false → (Ins.op i == 15) = true → (AV.c (AC.b (eqCs (Ins.cs i) (splice [AC.i 0, AC.i 0, AC.i 0, AC.u 0#64, AC.i 0] 0 [AC.i 15]))) = V))
    (l8 : (Ins.op i == 10) = false → (Ins.op i == 11) = false → (Ins.op i == 12) = false → (Ins.op i == 13) = false → (Ins.op i == 14) = false → (Ins.op i == 15) = false → (Ins.of i == 0) = true → (Ins.s i == -1) = true → (AV.c (AC.b true) = V))
    (l9 : (Ins.op i == 10) = false → (Ins.op i == 11) = false → (Ins.op i == 12) = false → (Ins.op i == 13) = false → (Ins.op i == 14) = false → (Ins.op i == 15) = false → (Ins.of i == 0) = true → (Ins.s i == -1) = false → (AV.c (AC.b (eqb (Ins.im i) 0#64)) = V))
    (l10 : (Ins.op i == 10) = false → (Ins.op i == 11) = false → (Ins.op i == 12) = false → (Ins.op i == 13) = false → (Ins.op i == 14) = false → (Ins.op i == 15) = false → (Ins.of i == 0) = false → (AV.c (AC.b false) = V)) :
    CallOK Try.prog ⟨115, [AV.ag (Ins.cs i)], [], ⟨V, [], none⟩⟩ :=
  (tf (Ins.op i == 10)).elim (fun h0 => (match l0 h0 with | e => ok_eq (bare_w0 (and_yes h0 (and_yes h0 rfl))) e)) (fun h0 => (tf (Ins.op i == 11)).elim (fun h1 => (match l1 h0 h1 with | e => ok_eq (bare_w1 (and_yes (not_yes h0) (and_yes h1 rfl))) e)) (fun h1 => (tf (Ins.op i == 12)).elim (fun h2 => (match l2 h0 h1 h2 with | e => ok_eq (bare_w2 (and_yes (not_yes h0) (and_yes (not_yes h1) (and_yes h2 rfl)))) e)) (fun h2 => (tf (Ins.op i == 13)).elim (fun h3 => (tf (Ins.s i == -1)).elim (fun h4 => (match l3 h0 h1 h2 h3 h4 with | e => ok_eq (bare_w3 (and_yes (not_yes h0) (and_yes (not_yes h1) (and_yes (not_yes h2) (and_yes h3 (and_yes h3 (and_yes h4 rfl))))))) e)) (fun h4 => (match l4 h0 h1 h2 h3 h4 with | e => ok_eq (bare_w4 (and_yes (not_yes h0) (and_yes (not_yes h1) (and_yes (not_yes h2) (and_yes h3 (and_yes h3 (and_yes (not_yes h4) rfl))))))) e))) (fun h3 => (tf (Ins.op i == 14)).elim (fun h4 => (tf (Ins.s i == -1)).elim (fun h5 => (match l5 h0 h1 h2 h3 h4 h5 with | e => ok_eq (bare_w5 (and_yes (not_yes h0) (and_yes (not_yes h1) (and_yes (not_yes h2) (and_yes (not_yes h3) (and_yes h4 (and_yes h5 rfl))))))) e)) (fun h5 => (match l6 h0 h1 h2 h3 h4 h5 with | e => ok_eq (bare_w6 (and_yes (not_yes h0) (and_yes (not_yes h1) (and_yes (not_yes h2) (and_yes (not_yes h3) (and_yes h4 (and_yes (not_yes h5) rfl))))))) e))) (fun h4 => (tf (Ins.op i == 15)).elim (fun h5 => (match l7 h0 h1 h2 h3 h4 h5 with | e => ok_eq (bare_w7 (and_yes (not_yes h0) (and_yes (not_yes h1) (and_yes (not_yes h2) (and_yes (not_yes h3) (and_yes (not_yes h4) (and_yes h5 rfl))))))) e)) (fun h5 => (tf (Ins.of i == 0)).elim (fun h6 => (tf (Ins.s i == -1)).elim (fun h7 => (match l8 h0 h1 h2 h3 h4 h5 h6 h7 with | e => ok_eq (bare_w8 (and_yes (not_yes h0) (and_yes (not_yes h1) (and_yes (not_yes h2) (and_yes (not_yes h3) (and_yes (not_yes h4) (and_yes (not_yes h5) (and_yes h6 (and_yes h7 rfl))))))))) e)) (fun h7 => (match l9 h0 h1 h2 h3 h4 h5 h6 h7 with | e => ok_eq (bare_w9 (and_yes (not_yes h0) (and_yes (not_yes h1) (and_yes (not_yes h2) (and_yes (not_yes h3) (and_yes (not_yes h4) (and_yes (not_yes h5) (and_yes h6 (and_yes (not_yes h7) rfl))))))))) e))) (fun h6 => (match l10 h0 h1 h2 h3 h4 h5 h6 with | e => ok_eq (bare_w10 (and_yes (not_yes h0) (and_yes (not_yes h1) (and_yes (not_yes h2) (and_yes (not_yes h3) (and_yes (not_yes h4) (and_yes (not_yes h5) (and_yes (not_yes h6) rfl)))))))) e))))))))
end Go.Proofs.Ytkigmocchaikgaa

/- The contracts of code's small functions. -/
namespace Go.Proofs.Ytkigmocchaikgaa
open Go.RowKit

theorem isReg_ok (d : Int) : Ok 129 [.c (.i d)] (.c (.b (regB d))) := by
  refine isReg_all ?_ ?_ <;> (intro h; rw [regB, h]; rfl)
theorem isSource_ok (d : Int) : Ok 132 [.c (.i d)] (.c (.b (srcB d))) := by
  refine isSource_all ?_ ?_
  · intro h; simp_all [srcB]
  · intro h; refine ⟨isReg_ok _, ?_⟩; simp_all [srcB]
theorem isSize_ok (d : BitVec 64) : Ok 130 [.c (.u d)] (.c (.b (sizeB d))) := by
  refine isSize_all ?_ ?_ ?_ ?_ <;> (intros; simp_all [sizeB])
theorem goesOn_ok (d n : Int) : Ok 131 [.c (.i d), .c (.i n)] (.c (.b (goesB d n))) := by
  refine goesOn_all ?_ ?_ <;> (intro h; rw [goesB, h]; rfl)
theorem inBounds_ok (i : Ins) (n : Int) : Ok 114 [.ag i.cs, .c (.i n)] (.c (.b (inB i n))) := by
  apply inBounds_all
  all_goals intros
  all_goals repeat' apply And.intro
  all_goals first
    | exact isReg_ok _
    | exact isSource_ok _
    | exact isSize_ok _
    | exact goesOn_ok _ _
    | (simp_all [inB]; try omega)
theorem bare_ok (i : Ins) : Ok 115 [.ag i.cs] (.c (.b (bareB i))) := by
  apply bare_all
  all_goals intros
  all_goals (simp_all [bareB, eqCs, eqC, splice, Ins.cs, Bool.and_assoc]; try rfl)
end Go.Proofs.Ytkigmocchaikgaa

/- The contracts of run's small functions and of use.Of. -/
namespace Go.Proofs.Ytkigmocchaikgaa
open Go.RowKit

theorem wrapN {n : Int} (h0 : -1099511627776 ≤ n) (h1 : n ≤ 1099511627776) : IntKind.i64.wrap n = n := by
  rw [IntKind.wrap_i64]; omega
theorem ended_ok (m : Mach) (e : Int) : Ok 117 [.ag m.cs, .c (.i e)] (.ag (m.fine e).cs) := ended_w0
theorem onward_ok {m : Mach} {o : Int} (h : 0 ≤ m.t ∧ m.t ≤ 64) (ho : 0 ≤ o ∧ o ≤ 64) : Ok 119 [.ag m.cs, .c (.i o)] (.ag (m.on o).cs) := by
  have e : IntKind.wrap IntKind.i64 (m.t + IntKind.wrap IntKind.i64 (1 + o)) = m.t + 1 + o := by
    rw [wrapN (n := 1 + o) (by omega) (by omega), wrapN (by omega) (by omega)]; omega
  have := onward_w0 (m := m) (o := o)
  rw [e] at this
  exact this
theorem mach_set_r {m : Mach} {r : Int} (x : BitVec 64) (h : regB r = true) : m.cs.set (1 + r.toNat * 1) (.u x) = (Mach.mk m.t (m.r.set r.toNat x) m.s m.mem m.fin).cs :=
  reg_elim (P := fun r => m.cs.set (1 + r.toNat * 1) (.u x) = (Mach.mk m.t (m.r.set r.toNat x) m.s m.mem m.fin).cs) h rfl rfl rfl rfl rfl rfl
theorem mach_set_s {m : Mach} {r : Int} (h : regB r = true) : m.cs.set (7 + r.toNat * 1) (.b true) = (Mach.mk m.t m.r (m.s.set r.toNat true) m.mem m.fin).cs :=
  reg_elim (P := fun r => m.cs.set (7 + r.toNat * 1) (.b true) = (Mach.mk m.t m.r (m.s.set r.toNat true) m.mem m.fin).cs) h rfl rfl rfl rfl rfl rfl
theorem mach_get_r {m : Mach} {r : Int} (h : regB r = true) : m.cs[1 + r.toNat * 1]? = some (.u (m.r.get r.toNat)) :=
  reg_elim (P := fun r => m.cs[1 + r.toNat * 1]? = some (.u (m.r.get r.toNat))) h rfl rfl rfl rfl rfl rfl
theorem mach_get_s {m : Mach} {r : Int} (h : regB r = true) : m.cs[7 + r.toNat * 1]? = some (.b (m.s.get r.toNat)) :=
  reg_elim (P := fun r => m.cs[7 + r.toNat * 1]? = some (.b (m.s.get r.toNat))) h rfl rfl rfl rfl rfl rfl
theorem bcs_set {v : V6 Bool} {r : Int} (h : regB r = true) : (bcs v).set (r.toNat * 1) (.b true) = bcs (v.set r.toNat true) :=
  reg_elim (P := fun r => (bcs v).set (r.toNat * 1) (.b true) = bcs (v.set r.toNat true)) h rfl rfl rfl rfl rfl rfl
theorem mach_len (m : Mach) : m.cs.length = 15 := rfl
theorem bcs_len (v : V6 Bool) : (bcs v).length = 6 := rfl
theorem with_ok {m : Mach} {r : Int} (x : BitVec 64) (h : regB r = true) : Ok 103 [.ag m.cs, .c (.i r), .c (.u x)] (.ag (m.wth r.toNat x).cs) := by
  have h1 := regB_iff.1 h
  have h2 := reg_nat h
  refine with_w0 ?_ ?_ ?_
  · simp [h1.1, h1.2, mach_len]; omega
  · rw [mach_set_r x h]
  · rw [mach_set_s h]; rfl
theorem use_of_ok {i : Ins} (h : i.op = 12 ∨ i.op = 15 ∨ (regB i.d = true ∧ srcB i.s = true)) : Ok 116 [.ag i.cs] (.ag (bcs (useOf i))) := by
  unfold useOf
  by_cases c1 : i.op = 12
  · rw [if_pos c1]; exact useOf12_w0 (by simp [c1])
  by_cases c2 : i.op = 15
  · rw [if_neg c1, if_pos c2]; exact useOf15_w0 (by simp [c2])
  obtain ⟨hd, hs⟩ := (h.resolve_left c1).resolve_left c2
  have d1 := regB_iff.1 hd
  have d2 := reg_nat hd
  rw [if_neg c1, if_neg c2]
  rcases srcB_iff.1 hs with e | hs
  · rw [if_pos e]
    by_cases c3 : i.op = 1
    · rw [if_pos (Or.inl c3)]; exact useOfM_w1 (by simp [c3, e])
    by_cases c4 : i.op = 10
    · rw [if_pos (Or.inr c4)]; exact useOfL_w1 (by simp [c4, e])
    rw [if_neg (by omega)]
    refine useOfD_w1 ?_ ?_
    · simp [c1, c2, c3, c4, d1.1, d1.2, e]; omega
    · rw [bcs_set hd]
  · have s1 := regB_iff.1 hs
    have s2 := reg_nat hs
    have e : ¬ i.s = -1 := by omega
    rw [if_neg e]
    by_cases c3 : i.op = 1
    · rw [if_pos (Or.inl c3)]
      refine useOfM_w0 ?_ ?_
      · simp [c3, e, s1.1, s1.2]; omega
      · rw [bcs_set hs]
    by_cases c4 : i.op = 10
    · rw [if_pos (Or.inr c4)]
      refine useOfL_w0 ?_ ?_
      · simp [c4, e, s1.1, s1.2]; omega
      · rw [bcs_set hs]
    rw [if_neg (by omega)]
    refine useOfD_w0 ?_ ?_ ?_
    · simp [c1, c2, c3, c4, d1.1, d1.2, e, s1.1, s1.2, bcs_len]; omega
    · rw [bcs_set hd]
    · rw [bcs_set hs]
theorem source_ok {i : Ins} {m : Mach} (h : srcB i.s = true) : Ok 121 [.ag i.cs, .ag m.cs] (.c (.u (srcN i m))) := by
  unfold srcN
  rcases srcB_iff.1 h with e | hs
  · rw [if_pos e]; exact source_w0 (by simp [e])
  · have s1 := regB_iff.1 hs
    have s2 := reg_nat hs
    rw [if_neg (by omega)]
    refine source_w1 ?_ ?_
    · rw [mach_get_r hs]
      simp [s1.1, s1.2, mach_len, AC.isU]; omega
    · rw [mach_get_r hs]; rfl
theorem runTwo_ok (op : Int) (x y : BitVec 64) (h : 1 ≤ op ∧ op ≤ 9) : Ok 122 [.c (.i op), .c (.u x), .c (.u y)] (.c (.u (numN op x y))) := by
  have hc : op = 1 ∨ op = 2 ∨ op = 3 ∨ op = 4 ∨ op = 5 ∨ op = 6 ∨ op = 7 ∨ op = 8 ∨ op = 9 := by omega
  have h6 := six_nv y
  have h7 := six_lt y
  have h8 : decide (nv (band y 63#64) ≤ 64) = true := by rw [h6]; simp; omega
  rcases hc with rfl | rfl | rfl | rfl | rfl | rfl | rfl | rfl | rfl
  · exact two_w8 rfl
  · exact two_w0 rfl
  · exact two_w1 rfl
  · exact two_w2 rfl
  · exact two_w3 rfl
  · exact two_w4 rfl
  · exact two_w5 rfl
  · exact two_w6 (by simp [h8])
  · exact two_w7 (by simp [h8])
theorem loadLoop {t : ByteArray} {w : World} {β : Bs} (ht : t.size ≤ 8) : ∀ k j : Nat, j + k = t.size →
    ART Try.prog 133 (cx w β 0 []) Try.f133.ntmps (cutAt Try.f133 0) ⟨[(0, .c (.s t)), (3, .c (.u (loadL (memL t 0 j)))), (6, .c (.i t.size)), (7, .c (.i j))], [], 0⟩ (REff w β ⟨.c (.u (loadL (memL t 0 t.size))), [], none⟩)
  | 0, j, h => by
    have : j = t.size := by omega
    subst this
    exact loadL_w1 (by simp)
  | k + 1, j, h => by
    have h1 : ((j : Int) < (t.size : Int)) := by omega
    have e8 : IntKind.wrap IntKind.i64 (8 * (j : Int)) = 8 * j := wrapN (by omega) (by omega)
    have e1 : IntKind.wrap IntKind.i64 ((j : Int) + 1) = ((j + 1 : Nat) : Int) := by rw [wrapN (by omega) (by omega)]; omega
    refine loadL_w0 (by simp [h1, e8]; omega) (fun k h => h) ?_
    have := loadLoop (w := w) (β := β) ht k (j + 1) (by omega)
    rw [memL_succ, loadL_snoc, memL_length] at this
    rw [e1, e8, show (8 * (j : Int)).toNat = 8 * j by omega]
    simpa using this
theorem load_ok {t : ByteArray} (ht : t.size ≤ 8) : Ok 133 [.c (.s t)] (.c (.u (loadL (memL t 0 t.size)))) :=
  val_of Try.func133 rfl rfl rfl rfl fun w β => load_w0 (fun _ h => h) (loadLoop ht t.size 0 (by omega))
theorem store_ok {x : BitVec 64} {n : BitVec 64} (h : sizeB n = true) : Ok 134 [.c (.u x), .c (.u n)] (.c (.s (strOf (storeL x n.toNat)))) := by
  refine size_elim (P := fun n => Ok 134 [.c (.u x), .c (.u n)] (.c (.s (strOf (storeL x n.toNat))))) h ?_ ?_ ?_ ?_
  · exact store1_w0
  · exact store2_w0
  · exact store4_w0
  · exact store8_w0
end Go.Proofs.Ytkigmocchaikgaa

/- The contracts of run.branch, run.reach and run.do. -/
namespace Go.Proofs.Ytkigmocchaikgaa
open Go.RowKit

theorem branch_ok {i : Ins} {m : Mach} {jp : Bool} (h : 0 ≤ m.t ∧ m.t ≤ 64) (ho : 0 ≤ i.of ∧ i.of ≤ 64) : Ok 120 [.ag i.cs, .ag m.cs, .c (.b jp)] (.ag (m.on (if jp then i.of else 0)).cs) := by
  cases jp with
  | true => exact branch_w0 rfl (onward_ok h ho)
  | false => exact branch_w1 rfl (onward_ok h ⟨by decide, by decide⟩)
theorem nv_toNat (x : BitVec 64) : (nv x).toNat = x.toNat := by unfold nv; omega
theorem nv_badd {x y : BitVec 64} (h : x.toNat + y.toNat ≤ 64) : nv (badd x y) = ((x.toNat + y.toNat : Nat) : Int) := by
  unfold nv badd
  rw [BitVec.toNat_add]
  omega
theorem byteAt_extract {s : ByteArray} {a b j : Nat} (hb : b ≤ s.size) (h : a + j < b) : byteAt (s.extract a b) j = byteAt s (a + j) := by
  unfold byteAt
  rw [ByteArray.data_extract]
  have : (s.data.extract a b).getD j 0 = s.data.getD (a + j) 0 := by
    have h1 : j < (s.data.extract a b).size := by
      rw [Array.size_extract]
      have : s.size = s.data.size := rfl
      omega
    have h2 : a + j < s.data.size := by
      have : s.size = s.data.size := rfl
      omega
    simp only [Array.getD_eq_getD_getElem?, Array.getElem?_eq_getElem h1, Array.getElem?_eq_getElem h2, Array.getElem_extract]
  rw [this]
theorem memL_extract {s : ByteArray} {a n : Nat} (h : a + n ≤ s.size) : memL (s.extract a (a + n)) 0 (s.extract a (a + n)).size = memL s a n := by
  have e : (s.extract a (a + n)).size = n := by rw [ByteArray.size_extract]; omega
  rw [e]
  unfold memL
  apply List.map_congr_left
  intro j hj
  rw [List.mem_range] at hj
  rw [Nat.zero_add, byteAt_extract h (by omega)]
theorem reach_ok {i : Ins} {m : Mach} {n : Int} (hi : Right i n) (ho : i.op = 10 ∨ i.op = 11) (hm : m.mem.size = 64) (ht : 0 ≤ m.t ∧ m.t ≤ 64) : Ok 118 [.ag i.cs, .ag m.cs] (.ag (reachM i m).cs) := by
  obtain ⟨hd, hs, hz, ho1, ho2⟩ := fits_reach hi ho
  have s1 := regB_iff.1 hs
  have s2 := reg_nat hs
  have d1 := regB_iff.1 hd
  have d2 := reg_nat hd
  have hlen := mach_len m
  unfold reachM
  cases hf : farB i m with
  | true =>
    rw [if_pos rfl]
    obtain ⟨op, d, s, im, of⟩ := i
    simp only at *
    rcases ho with rfl | rfl
    · refine reachL_w0 ?_ ?_ rfl rfl (ended_ok m 2)
      · rw [mach_get_r hs]; simp [s1.1, s1.2, hlen, AC.isU, hf]; omega
      · rw [mach_get_r hs]; rfl
    · refine reachS_w0 ?_ ?_ rfl rfl (ended_ok m 2)
      · rw [mach_get_r hd]; simp [d1.1, d1.2, hlen, AC.isU, hf]; omega
      · rw [mach_get_r hd]; rfl
  | false =>
    rw [if_neg (by decide)]
    have hfar := far_no hz hf
    have en := nv_badd hfar
    have e1 := nv_toNat (fromN i m)
    have e2 : nv (fromN i m) = ((fromN i m).toNat : Int) := rfl
    have him : i.im.toNat ≤ 8 := size_elim (P := fun x => x.toNat ≤ 8) hz (by decide) (by decide) (by decide) (by decide)
    obtain ⟨op, d, s, im, of⟩ := i
    simp only at *
    rcases ho with rfl | rfl
    · rw [if_pos rfl]
      refine reachL_w1 ?_ ?_ rfl rfl ?_ ?_ (load_ok ?_) (with_ok _ hd) (onward_ok (m := m.wth d.toNat _) ht ⟨by decide, by decide⟩)
      · rw [mach_get_r hs]; simp [s1.1, s1.2, hlen, AC.isU, hf, en, e2]; omega
      · rw [mach_get_r hs]; rfl
      · rw [e1, en]; rfl
      · rw [memL_extract (by omega)]
      · rw [ByteArray.size_extract]; omega
    · rw [if_neg (by decide)]
      have z1 : (m.mem.extract 0 (fromN (Ins.mk 11 d s im of) m).toNat).size ≤ 64 := by rw [ByteArray.size_extract]; omega
      have z2 : (strOf (storeL (m.r.get s.toNat) im.toNat)).size ≤ 8 := by rw [strOf_size, storeL_length]; exact him
      have z3 : (m.mem.extract ((fromN (Ins.mk 11 d s im of) m).toNat + im.toNat) m.mem.size).size ≤ 64 := by rw [ByteArray.size_extract]; omega
      refine reachS_w1 ?_ ?_ rfl rfl ?_ ?_ (store_ok hz) ?_ rfl (onward_ok (m := ⟨m.t, m.r, m.s, putMem m.mem (fromN (Ins.mk 11 d s im of) m).toNat im.toNat (m.r.get s.toNat), m.fin⟩) ht ⟨by decide, by decide⟩)
      · rw [mach_get_r hd, mach_get_r hs, en, ByteArray.size_append]
        simp only [Bool.and_eq_true, decide_eq_true_eq, AC.isU, Option.getD_some, hlen, Nat.blt_eq, hf, Bool.not_false, Bool.true_and, Bool.and_true, e2, hm]
        simp only [hm] at z3
        omega
      · rw [mach_get_r hd]; rfl
      · rw [e1]
      · rw [mach_get_r hs]; rfl
      · rw [en]; rfl

theorem bcs_get {v : V6 Bool} {r : Int} (h : regB r = true) : (bcs v)[r.toNat * 1]? = some (.b (v.get r.toNat)) :=
  reg_elim (P := fun r => (bcs v)[r.toNat * 1]? = some (.b (v.get r.toNat))) h rfl rfl rfl rfl rfl rfl
abbrev doKn (i : Ins) (m : Mach) (u : V6 Bool) (j : Int) : Kn := ⟨[(2, .c (.w 0)), (3, .c (.w 1)), (4, .c (.w 2)), (8, .ag (bcs u)), (9, .c (.i j))], [(0, ⟨true, i.cs, 0⟩), (1, ⟨true, m.cs, 0⟩), (2, ⟨true, Mach.z.cs, 0⟩)], 3⟩
theorem doLoop {i : Ins} {m : Mach} {u : V6 Bool} {w : World} {β : Bs} {E : Eff} : ∀ n, n ≤ 6 → (anyFrom (fun j => u.get j && !m.s.get j) n = true → ⟨.ag (m.fine 1).cs, [], none⟩ = E) →
    (anyFrom (fun j => u.get j && !m.s.get j) n = false → ART Try.prog 102 (cx w β 0 []) Try.f102.ntmps (cutAt Try.f102 0) (doKn i m u 6) (REff w β E)) →
    ART Try.prog 102 (cx w β 0 []) Try.f102.ntmps (cutAt Try.f102 0) (doKn i m u (6 - n : Nat)) (REff w β E)
  | 0, _, _, hz => hz rfl
  | n + 1, hn, hy, hz => by
    have hj : regB ((6 - (n + 1) : Nat) : Int) = true := by rw [regB_iff]; omega
    have ej : ((6 - (n + 1) : Nat) : Int).toNat = 5 - n := by omega
    have e1 : IntKind.wrap IntKind.i64 (((6 - (n + 1) : Nat) : Int) + 1) = ((6 - n : Nat) : Int) := by rw [wrapN (by omega) (by omega)]; omega
    have h1 := regB_iff.1 hj
    have o0 : decide (((6 - (n + 1) : Nat) : Int) < 6) = true := decide_eq_true h1.2
    have o2 : (decide (0 ≤ ((6 - (n + 1) : Nat) : Int)) && decide (((6 - (n + 1) : Nat) : Int) < 6)) = true := hj
    have o1 : (AC.isB (Option.getD (bcs u)[((6 - (n + 1) : Nat) : Int).toNat * 1]? (AC.b false)) && Nat.blt (((6 - (n + 1) : Nat) : Int).toNat * 1) (bcs u).length && (decide (0 ≤ ((6 - (n + 1) : Nat) : Int)) && decide (((6 - (n + 1) : Nat) : Int) < 6))) = true := by
      rw [bcs_get hj, o2, bcs_len]; simp [AC.isB]; omega
    have o3 : (AC.isB (Option.getD m.cs[7 + ((6 - (n + 1) : Nat) : Int).toNat * 1]? (AC.b false)) && Nat.blt (7 + ((6 - (n + 1) : Nat) : Int).toNat * 1) m.cs.length) = true := by
      rw [mach_get_s hj, mach_len]; simp [AC.isB]; omega
    have c0 : Eff.mk (AV.c (AC.b (AC.asB (Option.getD (bcs u)[((6 - (n + 1) : Nat) : Int).toNat * 1]? (AC.b false))))) [] none = Eff.mk (AV.c (AC.b (u.get ((6 - (n + 1) : Nat) : Int).toNat))) [] none := by rw [bcs_get hj]; rfl
    have c1 : Eff.mk (AV.c (AC.b (AC.asB (Option.getD m.cs[7 + ((6 - (n + 1) : Nat) : Int).toNat * 1]? (AC.b false))))) [] none = Eff.mk (AV.c (AC.b (m.s.get ((6 - (n + 1) : Nat) : Int).toNat))) [] none := by rw [mach_get_s hj]; rfl
    have next : (u.get (5 - n) && !m.s.get (5 - n)) = false → ART Try.prog 102 (cx w β 0 []) Try.f102.ntmps (cutAt Try.f102 0) (doKn i m u (IntKind.wrap IntKind.i64 (((6 - (n + 1) : Nat) : Int) + 1))) (REff w β E) := by
      intro hb
      rw [e1]
      refine doLoop n (by omega) (fun h => hy ?_) (fun h => hz ?_)
      · rw [anyFrom, hb, h]; rfl
      · rw [anyFrom, hb, h]; rfl
    refine doRound_all (by omega) (fun a b => ?_) (fun a b => ?_) (fun a => ?_)
    · refine ⟨o0, o1, o2, o3, c0, c1, ended_ok m 1, hy ?_⟩
      rw [ej] at a b
      rw [anyFrom, a, b]; rfl
    · refine ⟨o0, o1, o2, o3, c0, c1, low_of rfl, next ?_⟩
      rw [ej] at a b
      rw [a, b]; rfl
    · refine ⟨o0, o1, c0, low_of rfl, next ?_⟩
      rw [ej] at a
      rw [a]; rfl
theorem do_ok {i : Ins} {m : Mach} {n : Int} (hi : Right i n) (hn : n ≤ 64) (hm : m.mem.size = 64) (ht : 0 ≤ m.t ∧ m.t ≤ 64) : Ok 102 [.ag i.cs, .ag m.cs] (.ag (stepM i m).cs) := by
  have hk := kind_iff.1 hi.kind
  have hr := right_regs hi
  refine val_of Try.func102 rfl rfl rfl rfl fun w β => doTop_w0 (use_of_ok (Or.inr (Or.inr hr))) (low_of rfl) (fun _ h => absurd h (by simp [cx])) ?_
  refine doLoop 6 (Nat.le_refl 6) (fun h => ?_) (fun h => ?_)
  · rw [← lacks_from] at h
    unfold stepM
    rw [if_pos h]
  · rw [← lacks_from] at h
    unfold stepM
    rw [if_neg (by rw [h]; decide)]
    have d1 := regB_iff.1 hr.1
    have d2 := reg_nat hr.1
    have hlen := mach_len m
    have hg := mach_get_r (m := m) hr.1
    by_cases c1 : i.op = 10 ∨ i.op = 11
    · rw [if_pos c1]
      have hreach := reach_ok hi c1 hm ht
      obtain ⟨op, d, s, im, of⟩ := i
      simp only at c1
      rcases c1 with rfl | rfl
      · exact doL_w0 hreach
      · exact doS_w0 hreach
    rw [if_neg c1]
    by_cases c2 : i.op = 12
    · rw [if_pos c2]
      have hj := fits_jump hi c2
      obtain ⟨op, d, s, im, of⟩ := i
      simp only at *
      subst c2
      exact doJ_w0 (onward_ok ht (by omega))
    rw [if_neg c2]
    have hsrc := source_ok (m := m) hr.2
    by_cases c3 : i.op = 13
    · rw [if_pos c3]
      have hj := fits_branch hi (Or.inl c3)
      have hb := branch_ok (i := i) (m := m) (jp := eqb (m.r.get i.d.toNat) (srcN i m)) ht (by omega)
      obtain ⟨op, d, s, im, of⟩ := i
      simp only at *
      subst c3
      refine doEq_w0 ?_ ?_ hsrc hb
      · rw [hg]; simp [d1.1, d1.2, hlen, AC.isU]; omega
      · rw [hg]; rfl
    rw [if_neg c3]
    by_cases c4 : i.op = 14
    · rw [if_pos c4]
      have hj := fits_branch hi (Or.inr c4)
      have hb := branch_ok (i := i) (m := m) (jp := decide (nv (m.r.get i.d.toNat) < nv (srcN i m))) ht (by omega)
      have e : (if nv (m.r.get i.d.toNat) < nv (srcN i m) then i.of else 0) = (if decide (nv (m.r.get i.d.toNat) < nv (srcN i m)) = true then i.of else 0) := by simp
      rw [e]
      obtain ⟨op, d, s, im, of⟩ := i
      simp only at *
      subst c4
      refine doLt_w0 ?_ ?_ hsrc hb
      · rw [hg]; simp [d1.1, d1.2, hlen, AC.isU]; omega
      · rw [hg]; rfl
    rw [if_neg c4]
    by_cases c5 : i.op = 15
    · rw [if_pos c5]
      obtain ⟨op, d, s, im, of⟩ := i
      simp only at *
      subst c5
      exact doX_w0 (ended_ok m 3)
    rw [if_neg c5]
    have h2 := runTwo_ok i.op (m.r.get i.d.toNat) (srcN i m) (by omega)
    obtain ⟨op, d, s, im, of⟩ := i
    simp only at *
    refine doTwo_w0 ?_ ?_ hsrc h2 (with_ok _ hr.1) (onward_ok (m := m.wth d.toNat _) ht ⟨by decide, by decide⟩)
    · rw [hg]; simp [d1.1, d1.2, hlen, AC.isU, c2, c3, c4, c5]; omega
    · rw [hg]; rfl
end Go.Proofs.Ytkigmocchaikgaa
