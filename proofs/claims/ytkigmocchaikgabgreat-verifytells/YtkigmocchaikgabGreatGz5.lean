import Derived.Test.YtkigmocchaikgabGreatGz2
import Derived.Test.YtkigmocchaikgabGreatProg
import Derived.Test.YtkigmocchaikgabGreatGz4
import Derived.BigRegion
import Derived.Deep.CutBlock
import Derived.Deep.DeepCutAuto
import Derived.Deep.RegionHeld3
import Derived.Test.YtkigmocchaikgabGreatGz3
/- Ways of bodies, written by a program (ways.py): what each asks for, and hands back. -/
namespace Go.Proofs.YtkigmocchaikgabGreat
open Go.RowKit

theorem fis_w0 {i : Ins} (h : (Ins.op i == 12 && (Ins.op i == 12 && (decide (Ins.of i < 0) && true))) = true) :
    CallOK Tryz.prog ⟨25, [AV.ag (Ins.cs i)], [], ⟨AV.c (AC.b false), [], none⟩⟩ :=
  val_run 2000 [] [true, true, true, true] ([]) [] Tryz.func25 rfl rfl rfl rfl (by kernel_rfl) h cr_nil
theorem fis_w1 {i : Ins} (h : (Ins.op i == 12 && (Ins.op i == 12 && (!decide (Ins.of i < 0) && (decide (64 < Ins.of i) && true)))) = true) :
    CallOK Tryz.prog ⟨25, [AV.ag (Ins.cs i)], [], ⟨AV.c (AC.b false), [], none⟩⟩ :=
  val_run 2000 [] [true, true, false, true] ([]) [] Tryz.func25 rfl rfl rfl rfl (by kernel_rfl) h cr_nil
theorem fis_w2 {i : Ins} {e : Int} (h : (Ins.op i == 12 && (Ins.op i == 12 && (!decide (Ins.of i < 0) && (!decide (64 < Ins.of i) && true)))) = true) (c0 : CallOK Tryz.prog (CallRec.mk 47 [AV.c (AC.sl 18 0 2 2)] [(18, Ent.mk true [AC.i (Ins.op i), AC.i (Ins.d i), AC.i (Ins.s i), AC.u (Ins.im i), AC.i 0, AC.i 15, AC.i 0, AC.i 0, AC.u 0#64, AC.i 0] 0)] (Eff.mk (AV.c (AC.i e)) [] none))) :
    CallOK Tryz.prog ⟨25, [AV.ag (Ins.cs i)], [], ⟨AV.c (AC.b (e == 0)), [], none⟩⟩ :=
  val_run 2000 [Eff.mk (AV.c (AC.i e)) [] none] [true, true, false, false] ([]) [] Tryz.func25 rfl rfl rfl rfl (by kernel_rfl) h (cr_cons c0 cr_nil)
theorem fis_w3 {i : Ins} (h : (!Ins.op i == 12 && (Ins.op i == 13 && (Ins.op i == 13 && (decide (Ins.of i < 0) && true)))) = true) :
    CallOK Tryz.prog ⟨25, [AV.ag (Ins.cs i)], [], ⟨AV.c (AC.b false), [], none⟩⟩ :=
  val_run 2000 [] [false, true, true, true, true] ([]) [] Tryz.func25 rfl rfl rfl rfl (by kernel_rfl) h cr_nil
theorem fis_w4 {i : Ins} (h : (!Ins.op i == 12 && (Ins.op i == 13 && (Ins.op i == 13 && (!decide (Ins.of i < 0) && (decide (64 < Ins.of i) && true))))) = true) :
    CallOK Tryz.prog ⟨25, [AV.ag (Ins.cs i)], [], ⟨AV.c (AC.b false), [], none⟩⟩ :=
  val_run 2000 [] [false, true, true, false, true] ([]) [] Tryz.func25 rfl rfl rfl rfl (by kernel_rfl) h cr_nil
theorem fis_w5 {i : Ins} {e : Int} (h : (!Ins.op i == 12 && (Ins.op i == 13 && (Ins.op i == 13 && (!decide (Ins.of i < 0) && (!decide (64 < Ins.of i) && true))))) = true) (c0 : CallOK Tryz.prog (CallRec.mk 47 [AV.c (AC.sl 20 0 2 2)] [(20, Ent.mk true [AC.i (Ins.op i), AC.i (Ins.d i), AC.i (Ins.s i), AC.u (Ins.im i), AC.i 0, AC.i 15, AC.i 0, AC.i 0, AC.u 0#64, AC.i 0] 0)] (Eff.mk (AV.c (AC.i e)) [] none))) :
    CallOK Tryz.prog ⟨25, [AV.ag (Ins.cs i)], [], ⟨AV.c (AC.b (e == 0)), [], none⟩⟩ :=
  val_run 2000 [Eff.mk (AV.c (AC.i e)) [] none] [false, true, true, false, false] ([]) [] Tryz.func25 rfl rfl rfl rfl (by kernel_rfl) h (cr_cons c0 cr_nil)
theorem fis_w6 {i : Ins} (h : (!Ins.op i == 12 && (!Ins.op i == 13 && (Ins.op i == 14 && (decide (Ins.of i < 0) && true)))) = true) :
    CallOK Tryz.prog ⟨25, [AV.ag (Ins.cs i)], [], ⟨AV.c (AC.b false), [], none⟩⟩ :=
  val_run 2000 [] [false, false, true, true, true] ([]) [] Tryz.func25 rfl rfl rfl rfl (by kernel_rfl) h cr_nil
theorem fis_w7 {i : Ins} (h : (!Ins.op i == 12 && (!Ins.op i == 13 && (Ins.op i == 14 && (!decide (Ins.of i < 0) && (decide (64 < Ins.of i) && true))))) = true) :
    CallOK Tryz.prog ⟨25, [AV.ag (Ins.cs i)], [], ⟨AV.c (AC.b false), [], none⟩⟩ :=
  val_run 2000 [] [false, false, true, false, true] ([]) [] Tryz.func25 rfl rfl rfl rfl (by kernel_rfl) h cr_nil
theorem fis_w8 {i : Ins} {e : Int} (h : (!Ins.op i == 12 && (!Ins.op i == 13 && (Ins.op i == 14 && (!decide (Ins.of i < 0) && (!decide (64 < Ins.of i) && true))))) = true) (c0 : CallOK Tryz.prog (CallRec.mk 47 [AV.c (AC.sl 22 0 2 2)] [(22, Ent.mk true [AC.i (Ins.op i), AC.i (Ins.d i), AC.i (Ins.s i), AC.u (Ins.im i), AC.i 0, AC.i 15, AC.i 0, AC.i 0, AC.u 0#64, AC.i 0] 0)] (Eff.mk (AV.c (AC.i e)) [] none))) :
    CallOK Tryz.prog ⟨25, [AV.ag (Ins.cs i)], [], ⟨AV.c (AC.b (e == 0)), [], none⟩⟩ :=
  val_run 2000 [Eff.mk (AV.c (AC.i e)) [] none] [false, false, true, false, false] ([]) [] Tryz.func25 rfl rfl rfl rfl (by kernel_rfl) h (cr_cons c0 cr_nil)
theorem fis_w9 {i : Ins} {e : Int} (h : (!Ins.op i == 12 && (!Ins.op i == 13 && (!Ins.op i == 14 && true))) = true) (c0 : CallOK Tryz.prog (CallRec.mk 47 [AV.c (AC.sl 12 0 2 2)] [(12, Ent.mk true [AC.i (Ins.op i), AC.i (Ins.d i), AC.i (Ins.s i), AC.u (Ins.im i), AC.i (Ins.of i), AC.i 15, AC.i 0, AC.i 0, AC.u 0#64, AC.i 0] 0)] (Eff.mk (AV.c (AC.i e)) [] none))) :
    CallOK Tryz.prog ⟨25, [AV.ag (Ins.cs i)], [], ⟨AV.c (AC.b (e == 0)), [], none⟩⟩ :=
  val_run 2000 [Eff.mk (AV.c (AC.i e)) [] none] [false, false, false] ([]) [] Tryz.func25 rfl rfl rfl rfl (by kernel_rfl) h (cr_cons c0 cr_nil)
theorem fis_all {i : Ins} {e : Int} {V : AV}
    (l0 : (Ins.op i == 12) = true → (decide (Ins.of i < 0)) = true → (AV.c (AC.b false) = V))
    (l1 : (Ins.op i == 12) = true → (decide (Ins.of i < 0)) = false → (decide (64 < Ins.of i)) = true → (AV.c (AC.b false) = V))
    (l2 : (Ins.op i == 12) = true → (decide (Ins.of i < 0)) = false → (decide (64 < Ins.of i)) = false → (CallOK Tryz.prog (CallRec.mk 47 [AV.c (AC.sl 18 0 2 2)] [(18, Ent.mk true [AC.i (Ins.op i), AC.i (Ins.d i), AC.i (Ins.s i), AC.u (Ins.im i), AC.i 0, AC.i 15, AC.i 0, AC.i 0, AC.u 0#64, AC.i 0] 0)] (Eff.mk (AV.c (AC.i e)) [] none))) ∧ (AV.c (AC.b (e == 0)) = V))
    (l3 : (Ins.op i == 12) = false → (Ins.op i == 13) = true → (decide (Ins.of i < 0)) = true → (AV.c (AC.b false) = V))
    (l4 : (Ins.op i == 12) = false → (Ins.op i == 13) = true → (decide (Ins.of i < 0)) = false → (decide (64 < Ins.of i)) = true → (AV.c (AC.b false) = V))
    (l5 : (Ins.op i == 12) = false → (Ins.op i == 13) = true → (decide (Ins.of i < 0)) = false → (decide (64 < Ins.of i)) = false → (CallOK Tryz.prog (CallRec.mk 47 [AV.c (AC.sl 20 0 2 2)] [(20, Ent.mk true [AC.i (Ins.op i), AC.i (Ins.d i), AC.i (Ins.s i), AC.u (Ins.im i), AC.i 0, AC.i 15, AC.i 0, AC.i 0, AC.u 0#64, AC.i 0] 0)] (Eff.mk (AV.c (AC.i e)) [] none))) ∧ (AV.c (AC.b (e == 0)) = V))
    (l6 : (Ins.op i == 12) = false → (Ins.op i == 13) = false → (Ins.op i == 14) = true → (decide (Ins.of i < 0)) = true → (AV.c (AC.b false) = V))
    (l7 : (Ins.op i == 12) = false → (Ins.op i == 13) = false → (Ins.op i == 14) = true → (decide (Ins.of i < 0)) = false → (decide (64 < Ins.of i)) = true → (AV.c (AC.b false) = V))
    (l8 : (Ins.op i == 12) = false → (Ins.op i == 13) = false → (Ins.op i == 14) = true → (decide (Ins.of i < 0)) = false → (decide (64 < Ins.of i)) = false → (CallOK Tryz.prog (CallRec.mk 47 [AV.c (AC.sl 22 0 2 2)] [(22, Ent.mk true [AC.i (Ins.op i), AC.i (Ins.d i), AC.i (Ins.s i), AC.u (Ins.im i), AC.i 0, AC.i 15, AC.i 0, AC.i 0, AC.u 0#64, AC.i 0] 0)] (Eff.mk (AV.c (AC.i e)) [] none))) ∧ (AV.c (AC.b (e == 0)) = V))
    (l9 : (Ins.op i == 12) = false → (Ins.op i == 13) = false → (Ins.op i == 14) = false → (CallOK Tryz.prog (CallRec.mk 47 [AV.c (AC.sl 12 0 2 2)] [(12, Ent.mk true [AC.i (Ins.op i), AC.i (Ins.d i), AC.i (Ins.s i), AC.u (Ins.im i), AC.i (Ins.of i), AC.i 15, AC.i 0, AC.i 0, AC.u 0#64, AC.i 0] 0)] (Eff.mk (AV.c (AC.i e)) [] none))) ∧ (AV.c (AC.b (e == 0)) = V)) :
    CallOK Tryz.prog ⟨25, [AV.ag (Ins.cs i)], [], ⟨V, [], none⟩⟩ :=
  (tf (Ins.op i == 12)).elim (fun h0 => (tf (decide (Ins.of i < 0))).elim (fun h1 => (match l0 h0 h1 with | e => ok_eq (fis_w0 (and_yes h0 (and_yes h0 (and_yes h1 rfl)))) e)) (fun h1 => (tf (decide (64 < Ins.of i))).elim (fun h2 => (match l1 h0 h1 h2 with | e => ok_eq (fis_w1 (and_yes h0 (and_yes h0 (and_yes (not_yes h1) (and_yes h2 rfl))))) e)) (fun h2 => (match l2 h0 h1 h2 with | ⟨c0, e⟩ => ok_eq (fis_w2 (and_yes h0 (and_yes h0 (and_yes (not_yes h1) (and_yes (not_yes h2) rfl)))) c0) e)))) (fun h0 => (tf (Ins.op i == 13)).elim (fun h1 => (tf (decide (Ins.of i < 0))).elim (fun h2 => (match l3 h0 h1 h2 with | e => ok_eq (fis_w3 (and_yes (not_yes h0) (and_yes h1 (and_yes h1 (and_yes h2 rfl))))) e)) (fun h2 => (tf (decide (64 < Ins.of i))).elim (fun h3 => (match l4 h0 h1 h2 h3 with | e => ok_eq (fis_w4 (and_yes (not_yes h0) (and_yes h1 (and_yes h1 (and_yes (not_yes h2) (and_yes h3 rfl)))))) e)) (fun h3 => (match l5 h0 h1 h2 h3 with | ⟨c0, e⟩ => ok_eq (fis_w5 (and_yes (not_yes h0) (and_yes h1 (and_yes h1 (and_yes (not_yes h2) (and_yes (not_yes h3) rfl))))) c0) e)))) (fun h1 => (tf (Ins.op i == 14)).elim (fun h2 => (tf (decide (Ins.of i < 0))).elim (fun h3 => (match l6 h0 h1 h2 h3 with | e => ok_eq (fis_w6 (and_yes (not_yes h0) (and_yes (not_yes h1) (and_yes h2 (and_yes h3 rfl))))) e)) (fun h3 => (tf (decide (64 < Ins.of i))).elim (fun h4 => (match l7 h0 h1 h2 h3 h4 with | e => ok_eq (fis_w7 (and_yes (not_yes h0) (and_yes (not_yes h1) (and_yes h2 (and_yes (not_yes h3) (and_yes h4 rfl)))))) e)) (fun h4 => (match l8 h0 h1 h2 h3 h4 with | ⟨c0, e⟩ => ok_eq (fis_w8 (and_yes (not_yes h0) (and_yes (not_yes h1) (and_yes h2 (and_yes (not_yes h3) (and_yes (not_yes h4) rfl))))) c0) e)))) (fun h2 => (match l9 h0 h1 h2 with | ⟨c0, e⟩ => ok_eq (fis_w9 (and_yes (not_yes h0) (and_yes (not_yes h1) (and_yes (not_yes h2) rfl))) c0) e))))
theorem freach_w0 {i : Ins} {a : V4} {b : V4} {c : V4} (h : (decide (nv (bsub (64#64) (Ins.im i)) < nv (V4.h c)) && true) = true) (c0 : CallOK Tryz.prog (CallRec.mk 101 [AV.c (AC.u (BitVec.ofInt 64 (Ins.of i)))] [] (Eff.mk (AV.ag (V4.cs b)) [] none))) (c1 : CallOK Tryz.prog (CallRec.mk 75 [AV.c (AC.i 2), AV.ag (V4.cs a), AV.ag (V4.cs b)] [] (Eff.mk (AV.tu [AT.ag (V4.cs c), AT.c (AC.i 0)]) [] none))) :
    CallOK Tryz.prog ⟨66, [AV.ag (Ins.cs i), AV.ag (V4.cs a)], [], ⟨AV.c (AC.i 2), [], none⟩⟩ :=
  val_run 2000 [Eff.mk (AV.ag (V4.cs b)) [] none, Eff.mk (AV.tu [AT.ag (V4.cs c), AT.c (AC.i 0)]) [] none] [true] ([]) [] Tryz.func66 rfl rfl rfl rfl (by kernel_rfl) h (cr_cons c0 (cr_cons c1 cr_nil))
theorem freach_w1 {i : Ins} {a : V4} {b : V4} {c : V4} (h : (!decide (nv (bsub (64#64) (Ins.im i)) < nv (V4.h c)) && true) = true) (c0 : CallOK Tryz.prog (CallRec.mk 101 [AV.c (AC.u (BitVec.ofInt 64 (Ins.of i)))] [] (Eff.mk (AV.ag (V4.cs b)) [] none))) (c1 : CallOK Tryz.prog (CallRec.mk 75 [AV.c (AC.i 2), AV.ag (V4.cs a), AV.ag (V4.cs b)] [] (Eff.mk (AV.tu [AT.ag (V4.cs c), AT.c (AC.i 0)]) [] none))) :
    CallOK Tryz.prog ⟨66, [AV.ag (Ins.cs i), AV.ag (V4.cs a)], [], ⟨AV.c (AC.i 0), [], none⟩⟩ :=
  val_run 2000 [Eff.mk (AV.ag (V4.cs b)) [] none, Eff.mk (AV.tu [AT.ag (V4.cs c), AT.c (AC.i 0)]) [] none] [false] ([]) [] Tryz.func66 rfl rfl rfl rfl (by kernel_rfl) h (cr_cons c0 (cr_cons c1 cr_nil))
theorem freach_all {i : Ins} {a : V4} {b : V4} {c : V4} {V : AV}
    (l0 : (decide (nv (bsub (64#64) (Ins.im i)) < nv (V4.h c))) = true → (CallOK Tryz.prog (CallRec.mk 101 [AV.c (AC.u (BitVec.ofInt 64 (Ins.of i)))] [] (Eff.mk (AV.ag (V4.cs b)) [] none))) ∧ (CallOK Tryz.prog (CallRec.mk 75 [AV.c (AC.i 2), AV.ag (V4.cs a), AV.ag (V4.cs b)] [] (Eff.mk (AV.tu [AT.ag (V4.cs c), AT.c (AC.i 0)]) [] none))) ∧ (AV.c (AC.i 2) = V))
    (l1 : (decide (nv (bsub (64#64) (Ins.im i)) < nv (V4.h c))) = false → (CallOK Tryz.prog (CallRec.mk 101 [AV.c (AC.u (BitVec.ofInt 64 (Ins.of i)))] [] (Eff.mk (AV.ag (V4.cs b)) [] none))) ∧ (CallOK Tryz.prog (CallRec.mk 75 [AV.c (AC.i 2), AV.ag (V4.cs a), AV.ag (V4.cs b)] [] (Eff.mk (AV.tu [AT.ag (V4.cs c), AT.c (AC.i 0)]) [] none))) ∧ (AV.c (AC.i 0) = V)) :
    CallOK Tryz.prog ⟨66, [AV.ag (Ins.cs i), AV.ag (V4.cs a)], [], ⟨V, [], none⟩⟩ :=
  (tf (decide (nv (bsub (64#64) (Ins.im i)) < nv (V4.h c)))).elim (fun h0 => (match l0 h0 with | ⟨c0, c1, e⟩ => ok_eq (freach_w0 (and_yes h0 rfl) c0 c1) e)) (fun h0 => (match l1 h0 with | ⟨c0, c1, e⟩ => ok_eq (freach_w1 (and_yes (not_yes h0) rfl) c0 c1) e))
theorem fsource_w0 {i : Ins} {t : St} {b : V4} (h : (Ins.s i == -1 && true) = true) (c0 : CallOK Tryz.prog (CallRec.mk 101 [AV.c (AC.u (Ins.im i))] [] (Eff.mk (AV.ag (V4.cs b)) [] none))) :
    CallOK Tryz.prog ⟨74, [AV.ag (Ins.cs i), AV.ag (St.cs t)], [], ⟨AV.ag (V4.cs b), [], none⟩⟩ :=
  val_run 2000 [Eff.mk (AV.ag (V4.cs b)) [] none] [true] ([]) [(3, 4)] Tryz.func74 rfl rfl rfl rfl (by kernel_rfl) h (cr_cons c0 cr_nil)
theorem fsource_w1 {i : Ins} {t : St} (h : (!Ins.s i == -1 && (decide (0 ≤ Ins.s i) && decide (Ins.s i < 6) && (Nat.ble (7 + Int.toNat (Ins.s i) * 4 + 4) (List.length (St.cs t)) && true))) = true) (c0 : Eff.mk (AV.ag (List.take 4 (List.drop (7 + Int.toNat (Ins.s i) * 4) (St.cs t)))) [] none = Eff.mk (AV.ag (V4.cs (V6.get (St.r t) (Int.toNat (Ins.s i))))) [] none) :
    CallOK Tryz.prog ⟨74, [AV.ag (Ins.cs i), AV.ag (St.cs t)], [], ⟨AV.ag (V4.cs (V6.get (St.r t) (Int.toNat (Ins.s i)))), [], none⟩⟩ :=
  val_run 2000 [Eff.mk (AV.ag (V4.cs (V6.get (St.r t) (Int.toNat (Ins.s i))))) [] none] [false] ([]) [(3, 4)] Tryz.func74 rfl rfl rfl rfl (by kernel_rfl) h (cr_same c0 cr_nil)
theorem fsource_all {i : Ins} {t : St} {b : V4} {V : AV}
    (l0 : (Ins.s i == -1) = true → (CallOK Tryz.prog (CallRec.mk 101 [AV.c (AC.u (Ins.im i))] [] (Eff.mk (AV.ag (V4.cs b)) [] none))) ∧ (AV.ag (V4.cs b) = V))
    (l1 : (Ins.s i == -1) = false → (decide (0 ≤ Ins.s i) && decide (Ins.s i < 6)) = true ∧ (Nat.ble (7 + Int.toNat (Ins.s i) * 4 + 4) (List.length (St.cs t))) = true ∧ (Eff.mk (AV.ag (List.take 4 (List.drop (7 + Int.toNat (Ins.s i) * 4) (St.cs t)))) [] none = Eff.mk (AV.ag (V4.cs (V6.get (St.r t) (Int.toNat (Ins.s i))))) [] none) ∧ (AV.ag (V4.cs (V6.get (St.r t) (Int.toNat (Ins.s i)))) = V)) :
    CallOK Tryz.prog ⟨74, [AV.ag (Ins.cs i), AV.ag (St.cs t)], [], ⟨V, [], none⟩⟩ :=
  (tf (Ins.s i == -1)).elim (fun h0 => (match l0 h0 with | ⟨c0, e⟩ => ok_eq (fsource_w0 (and_yes h0 rfl) c0) e)) (fun h0 => (match l1 h0 with | ⟨o0, o1, c0, e⟩ => ok_eq (fsource_w1 (and_yes (not_yes h0) (and_yes o0 (and_yes o1 rfl))) c0) e))
theorem fleftOt_w0 {i : Ins} {t : St} {b : V4} {x : V4} {y : V4} {q : Bool} (h : (decide (0 ≤ Ins.d i) && decide (Ins.d i < 6) && (Nat.ble (7 + Int.toNat (Ins.d i) * 4 + 4) (List.length (St.cs t)) && (!q && true))) = true) (c0 : Eff.mk (AV.ag (List.take 4 (List.drop (7 + Int.toNat (Ins.d i) * 4) (St.cs t)))) [] none = Eff.mk (AV.ag (V4.cs (V6.get (St.r t) (Int.toNat (Ins.d i))))) [] none) (c1 : CallOK Tryz.prog (CallRec.mk 74 [AV.ag (Ins.cs i), AV.ag (St.cs t)] [] (Eff.mk (AV.ag (V4.cs b)) [] none))) (c2 : CallOK Tryz.prog (CallRec.mk 70 [AV.ag (V4.cs (V6.get (St.r t) (Int.toNat (Ins.d i)))), AV.ag (V4.cs b)] [] (Eff.mk (AV.tu [AT.ag (V4.cs x), AT.ag (V4.cs y), AT.c (AC.b q), AT.c (AC.i 0)]) [] none))) :
    CallOK Tryz.prog ⟨69, [AV.ag (Ins.cs i), AV.ag (St.cs t), AV.c (AC.f 70 [])], [], ⟨AV.ag (St.cs St.z), [], none⟩⟩ :=
  val_run 2000 [Eff.mk (AV.ag (V4.cs (V6.get (St.r t) (Int.toNat (Ins.d i))))) [] none, Eff.mk (AV.ag (V4.cs b)) [] none, Eff.mk (AV.tu [AT.ag (V4.cs x), AT.ag (V4.cs y), AT.c (AC.b q), AT.c (AC.i 0)]) [] none] [true] ([]) [(1, 5)] Tryz.func69 rfl rfl rfl rfl (by kernel_rfl) h (cr_same c0 (cr_cons c1 (cr_cons c2 cr_nil)))
theorem fleftOt_w1 {i : Ins} {t : St} {t1 : St} {t2 : St} {b : V4} {x : V4} {y : V4} {q : Bool} (h : (decide (0 ≤ Ins.d i) && decide (Ins.d i < 6) && (Nat.ble (7 + Int.toNat (Ins.d i) * 4 + 4) (List.length (St.cs t)) && (!!q && (Ins.s i != -1 && true)))) = true) (c0 : Eff.mk (AV.ag (List.take 4 (List.drop (7 + Int.toNat (Ins.d i) * 4) (St.cs t)))) [] none = Eff.mk (AV.ag (V4.cs (V6.get (St.r t) (Int.toNat (Ins.d i))))) [] none) (c1 : CallOK Tryz.prog (CallRec.mk 74 [AV.ag (Ins.cs i), AV.ag (St.cs t)] [] (Eff.mk (AV.ag (V4.cs b)) [] none))) (c2 : CallOK Tryz.prog (CallRec.mk 70 [AV.ag (V4.cs (V6.get (St.r t) (Int.toNat (Ins.d i)))), AV.ag (V4.cs b)] [] (Eff.mk (AV.tu [AT.ag (V4.cs x), AT.ag (V4.cs y), AT.c (AC.b q), AT.c (AC.i 0)]) [] none))) (c3 : CallOK Tryz.prog (CallRec.mk 68 [AV.ag (St.cs t), AV.c (AC.i (Ins.d i)), AV.ag (V4.cs x)] [] (Eff.mk (AV.ag (St.cs t1)) [] none))) (c4 : CallOK Tryz.prog (CallRec.mk 68 [AV.ag (St.cs t1), AV.c (AC.i (Ins.s i)), AV.ag (V4.cs y)] [] (Eff.mk (AV.ag (St.cs t2)) [] none))) :
    CallOK Tryz.prog ⟨69, [AV.ag (Ins.cs i), AV.ag (St.cs t), AV.c (AC.f 70 [])], [], ⟨AV.ag (St.cs t2), [], none⟩⟩ :=
  val_run 2000 [Eff.mk (AV.ag (V4.cs (V6.get (St.r t) (Int.toNat (Ins.d i))))) [] none, Eff.mk (AV.ag (V4.cs b)) [] none, Eff.mk (AV.tu [AT.ag (V4.cs x), AT.ag (V4.cs y), AT.c (AC.b q), AT.c (AC.i 0)]) [] none, Eff.mk (AV.ag (St.cs t1)) [] none, Eff.mk (AV.ag (St.cs t2)) [] none] [false, true] ([]) [(1, 5)] Tryz.func69 rfl rfl rfl rfl (by kernel_rfl) h (cr_same c0 (cr_cons c1 (cr_cons c2 (cr_cons c3 (cr_cons c4 cr_nil)))))
theorem fleftOt_w2 {i : Ins} {t : St} {t1 : St} {b : V4} {x : V4} {y : V4} {q : Bool} (h : (decide (0 ≤ Ins.d i) && decide (Ins.d i < 6) && (Nat.ble (7 + Int.toNat (Ins.d i) * 4 + 4) (List.length (St.cs t)) && (!!q && (!Ins.s i != -1 && true)))) = true) (c0 : Eff.mk (AV.ag (List.take 4 (List.drop (7 + Int.toNat (Ins.d i) * 4) (St.cs t)))) [] none = Eff.mk (AV.ag (V4.cs (V6.get (St.r t) (Int.toNat (Ins.d i))))) [] none) (c1 : CallOK Tryz.prog (CallRec.mk 74 [AV.ag (Ins.cs i), AV.ag (St.cs t)] [] (Eff.mk (AV.ag (V4.cs b)) [] none))) (c2 : CallOK Tryz.prog (CallRec.mk 70 [AV.ag (V4.cs (V6.get (St.r t) (Int.toNat (Ins.d i)))), AV.ag (V4.cs b)] [] (Eff.mk (AV.tu [AT.ag (V4.cs x), AT.ag (V4.cs y), AT.c (AC.b q), AT.c (AC.i 0)]) [] none))) (c3 : CallOK Tryz.prog (CallRec.mk 68 [AV.ag (St.cs t), AV.c (AC.i (Ins.d i)), AV.ag (V4.cs x)] [] (Eff.mk (AV.ag (St.cs t1)) [] none))) :
    CallOK Tryz.prog ⟨69, [AV.ag (Ins.cs i), AV.ag (St.cs t), AV.c (AC.f 70 [])], [], ⟨AV.ag (St.cs t1), [], none⟩⟩ :=
  val_run 2000 [Eff.mk (AV.ag (V4.cs (V6.get (St.r t) (Int.toNat (Ins.d i))))) [] none, Eff.mk (AV.ag (V4.cs b)) [] none, Eff.mk (AV.tu [AT.ag (V4.cs x), AT.ag (V4.cs y), AT.c (AC.b q), AT.c (AC.i 0)]) [] none, Eff.mk (AV.ag (St.cs t1)) [] none] [false, false] ([]) [(1, 5)] Tryz.func69 rfl rfl rfl rfl (by kernel_rfl) h (cr_same c0 (cr_cons c1 (cr_cons c2 (cr_cons c3 cr_nil))))
theorem fleftOt_all {i : Ins} {t : St} {t1 : St} {t2 : St} {b : V4} {x : V4} {y : V4} {q : Bool} {V : AV}
    (l0 : (!q) = true → (decide (0 ≤ Ins.d i) && decide (Ins.d i < 6)) = true ∧ (Nat.ble (7 + Int.toNat (Ins.d i) * 4 + 4) (List.length (St.cs t))) = true ∧ (Eff.mk (AV.ag (List.take 4 (List.drop (7 + Int.toNat (Ins.d i) * 4) (St.cs t)))) [] none = Eff.mk (AV.ag (V4.cs (V6.get (St.r t) (Int.toNat (Ins.d i))))) [] none) ∧ (CallOK Tryz.prog (CallRec.mk 74 [AV.ag (Ins.cs i), AV.ag (St.cs t)] [] (Eff.mk (AV.ag (V4.cs b)) [] none))) ∧ (CallOK Tryz.prog (CallRec.mk 70 [AV.ag (V4.cs (V6.get (St.r t) (Int.toNat (Ins.d i)))), AV.ag (V4.cs b)] [] (Eff.mk (AV.tu [AT.ag (V4.cs x), AT.ag (V4.cs y), AT.c (AC.b q), AT.c (AC.i 0)]) [] none))) ∧ (AV.ag (St.cs St.z) = V))
    (l1 : (!q) = false → (Ins.s i != -1) = true → (decide (0 ≤ Ins.d i) && decide (Ins.d i < 6)) = true ∧ (Nat.ble (7 + Int.toNat (Ins.d i) * 4 + 4) (List.length (St.cs t))) = true ∧ (Eff.mk (AV.ag (List.take 4 (List.drop (7 + Int.toNat (Ins.d i) * 4) (St.cs t)))) [] none = Eff.mk (AV.ag (V4.cs (V6.get (St.r t) (Int.toNat (Ins.d i))))) [] none) ∧ (CallOK Tryz.prog (CallRec.mk 74 [AV.ag (Ins.cs i), AV.ag (St.cs t)] [] (Eff.mk (AV.ag (V4.cs b)) [] none))) ∧ (CallOK Tryz.prog (CallRec.mk 70 [AV.ag (V4.cs (V6.get (St.r t) (Int.toNat (Ins.d i)))), AV.ag (V4.cs b)] [] (Eff.mk (AV.tu [AT.ag (V4.cs x), AT.ag (V4.cs y), AT.c (AC.b q), AT.c (AC.i 0)]) [] none))) ∧ (CallOK Tryz.prog (CallRec.mk 68 [AV.ag (St.cs t), AV.c (AC.i (Ins.d i)), AV.ag (V4.cs x)] [] (Eff.mk (AV.ag (St.cs t1)) [] none))) ∧ (CallOK Tryz.prog (CallRec.mk 68 [AV.ag (St.cs t1), AV.c (AC.i (Ins.s i)), AV.ag (V4.cs y)] [] (Eff.mk (AV.ag (St.cs t2)) [] none))) ∧ (AV.ag (St.cs t2) = V))
    (l2 : (!q) = false → (Ins.s i != -1) = false → (decide (0 ≤ Ins.d i) && decide (Ins.d i < 6)) = true ∧ (Nat.ble (7 + Int.toNat (Ins.d i) * 4 + 4) (List.length (St.cs t))) = true ∧ (Eff.mk (AV.ag (List.take 4 (List.drop (7 + Int.toNat (Ins.d i) * 4) (St.cs t)))) [] none = Eff.mk (AV.ag (V4.cs (V6.get (St.r t) (Int.toNat (Ins.d i))))) [] none) ∧ (CallOK Tryz.prog (CallRec.mk 74 [AV.ag (Ins.cs i), AV.ag (St.cs t)] [] (Eff.mk (AV.ag (V4.cs b)) [] none))) ∧ (CallOK Tryz.prog (CallRec.mk 70 [AV.ag (V4.cs (V6.get (St.r t) (Int.toNat (Ins.d i)))), AV.ag (V4.cs b)] [] (Eff.mk (AV.tu [AT.ag (V4.cs x), AT.ag (V4.cs y), AT.c (AC.b q), AT.c (AC.i 0)]) [] none))) ∧ (CallOK Tryz.prog (CallRec.mk 68 [AV.ag (St.cs t), AV.c (AC.i (Ins.d i)), AV.ag (V4.cs x)] [] (Eff.mk (AV.ag (St.cs t1)) [] none))) ∧ (AV.ag (St.cs t1) = V)) :
    CallOK Tryz.prog ⟨69, [AV.ag (Ins.cs i), AV.ag (St.cs t), AV.c (AC.f 70 [])], [], ⟨V, [], none⟩⟩ :=
  (tf (!q)).elim (fun h0 => (match l0 h0 with | ⟨o0, o1, c0, c1, c2, e⟩ => ok_eq (fleftOt_w0 (and_yes o0 (and_yes o1 (and_yes h0 rfl))) c0 c1 c2) e)) (fun h0 => (tf (Ins.s i != -1)).elim (fun h1 => (match l1 h0 h1 with | ⟨o0, o1, c0, c1, c2, c3, c4, e⟩ => ok_eq (fleftOt_w1 (and_yes o0 (and_yes o1 (and_yes (not_yes h0) (and_yes h1 rfl)))) c0 c1 c2 c3 c4) e)) (fun h1 => (match l2 h0 h1 with | ⟨o0, o1, c0, c1, c2, c3, e⟩ => ok_eq (fleftOt_w2 (and_yes o0 (and_yes o1 (and_yes (not_yes h0) (and_yes (not_yes h1) rfl)))) c0 c1 c2 c3) e)))
theorem fleftEq_w0 {i : Ins} {t : St} {b : V4} {x : V4} {y : V4} {q : Bool} (h : (decide (0 ≤ Ins.d i) && decide (Ins.d i < 6) && (Nat.ble (7 + Int.toNat (Ins.d i) * 4 + 4) (List.length (St.cs t)) && (!q && true))) = true) (c0 : Eff.mk (AV.ag (List.take 4 (List.drop (7 + Int.toNat (Ins.d i) * 4) (St.cs t)))) [] none = Eff.mk (AV.ag (V4.cs (V6.get (St.r t) (Int.toNat (Ins.d i))))) [] none) (c1 : CallOK Tryz.prog (CallRec.mk 74 [AV.ag (Ins.cs i), AV.ag (St.cs t)] [] (Eff.mk (AV.ag (V4.cs b)) [] none))) (c2 : CallOK Tryz.prog (CallRec.mk 71 [AV.ag (V4.cs (V6.get (St.r t) (Int.toNat (Ins.d i)))), AV.ag (V4.cs b)] [] (Eff.mk (AV.tu [AT.ag (V4.cs x), AT.ag (V4.cs y), AT.c (AC.b q), AT.c (AC.i 0)]) [] none))) :
    CallOK Tryz.prog ⟨69, [AV.ag (Ins.cs i), AV.ag (St.cs t), AV.c (AC.f 71 [])], [], ⟨AV.ag (St.cs St.z), [], none⟩⟩ :=
  val_run 2000 [Eff.mk (AV.ag (V4.cs (V6.get (St.r t) (Int.toNat (Ins.d i))))) [] none, Eff.mk (AV.ag (V4.cs b)) [] none, Eff.mk (AV.tu [AT.ag (V4.cs x), AT.ag (V4.cs y), AT.c (AC.b q), AT.c (AC.i 0)]) [] none] [true] ([]) [(1, 5)] Tryz.func69 rfl rfl rfl rfl (by kernel_rfl) h (cr_same c0 (cr_cons c1 (cr_cons c2 cr_nil)))
theorem fleftEq_w1 {i : Ins} {t : St} {t1 : St} {t2 : St} {b : V4} {x : V4} {y : V4} {q : Bool} (h : (decide (0 ≤ Ins.d i) && decide (Ins.d i < 6) && (Nat.ble (7 + Int.toNat (Ins.d i) * 4 + 4) (List.length (St.cs t)) && (!!q && (Ins.s i != -1 && true)))) = true) (c0 : Eff.mk (AV.ag (List.take 4 (List.drop (7 + Int.toNat (Ins.d i) * 4) (St.cs t)))) [] none = Eff.mk (AV.ag (V4.cs (V6.get (St.r t) (Int.toNat (Ins.d i))))) [] none) (c1 : CallOK Tryz.prog (CallRec.mk 74 [AV.ag (Ins.cs i), AV.ag (St.cs t)] [] (Eff.mk (AV.ag (V4.cs b)) [] none))) (c2 : CallOK Tryz.prog (CallRec.mk 71 [AV.ag (V4.cs (V6.get (St.r t) (Int.toNat (Ins.d i)))), AV.ag (V4.cs b)] [] (Eff.mk (AV.tu [AT.ag (V4.cs x), AT.ag (V4.cs y), AT.c (AC.b q), AT.c (AC.i 0)]) [] none))) (c3 : CallOK Tryz.prog (CallRec.mk 68 [AV.ag (St.cs t), AV.c (AC.i (Ins.d i)), AV.ag (V4.cs x)] [] (Eff.mk (AV.ag (St.cs t1)) [] none))) (c4 : CallOK Tryz.prog (CallRec.mk 68 [AV.ag (St.cs t1), AV.c (AC.i (Ins.s i)), AV.ag (V4.cs y)] [] (Eff.mk (AV.ag (St.cs t2)) [] none))) :
    CallOK Tryz.prog ⟨69, [AV.ag (Ins.cs i), AV.ag (St.cs t), AV.c (AC.f 71 [])], [], ⟨AV.ag (St.cs t2), [], none⟩⟩ :=
  val_run 2000 [Eff.mk (AV.ag (V4.cs (V6.get (St.r t) (Int.toNat (Ins.d i))))) [] none, Eff.mk (AV.ag (V4.cs b)) [] none, Eff.mk (AV.tu [AT.ag (V4.cs x), AT.ag (V4.cs y), AT.c (AC.b q), AT.c (AC.i 0)]) [] none, Eff.mk (AV.ag (St.cs t1)) [] none, Eff.mk (AV.ag (St.cs t2)) [] none] [false, true] ([]) [(1, 5)] Tryz.func69 rfl rfl rfl rfl (by kernel_rfl) h (cr_same c0 (cr_cons c1 (cr_cons c2 (cr_cons c3 (cr_cons c4 cr_nil)))))
theorem fleftEq_w2 {i : Ins} {t : St} {t1 : St} {b : V4} {x : V4} {y : V4} {q : Bool} (h : (decide (0 ≤ Ins.d i) && decide (Ins.d i < 6) && (Nat.ble (7 + Int.toNat (Ins.d i) * 4 + 4) (List.length (St.cs t)) && (!!q && (!Ins.s i != -1 && true)))) = true) (c0 : Eff.mk (AV.ag (List.take 4 (List.drop (7 + Int.toNat (Ins.d i) * 4) (St.cs t)))) [] none = Eff.mk (AV.ag (V4.cs (V6.get (St.r t) (Int.toNat (Ins.d i))))) [] none) (c1 : CallOK Tryz.prog (CallRec.mk 74 [AV.ag (Ins.cs i), AV.ag (St.cs t)] [] (Eff.mk (AV.ag (V4.cs b)) [] none))) (c2 : CallOK Tryz.prog (CallRec.mk 71 [AV.ag (V4.cs (V6.get (St.r t) (Int.toNat (Ins.d i)))), AV.ag (V4.cs b)] [] (Eff.mk (AV.tu [AT.ag (V4.cs x), AT.ag (V4.cs y), AT.c (AC.b q), AT.c (AC.i 0)]) [] none))) (c3 : CallOK Tryz.prog (CallRec.mk 68 [AV.ag (St.cs t), AV.c (AC.i (Ins.d i)), AV.ag (V4.cs x)] [] (Eff.mk (AV.ag (St.cs t1)) [] none))) :
    CallOK Tryz.prog ⟨69, [AV.ag (Ins.cs i), AV.ag (St.cs t), AV.c (AC.f 71 [])], [], ⟨AV.ag (St.cs t1), [], none⟩⟩ :=
  val_run 2000 [Eff.mk (AV.ag (V4.cs (V6.get (St.r t) (Int.toNat (Ins.d i))))) [] none, Eff.mk (AV.ag (V4.cs b)) [] none, Eff.mk (AV.tu [AT.ag (V4.cs x), AT.ag (V4.cs y), AT.c (AC.b q), AT.c (AC.i 0)]) [] none, Eff.mk (AV.ag (St.cs t1)) [] none] [false, false] ([]) [(1, 5)] Tryz.func69 rfl rfl rfl rfl (by kernel_rfl) h (cr_same c0 (cr_cons c1 (cr_cons c2 (cr_cons c3 cr_nil))))
theorem fleftEq_all {i : Ins} {t : St} {t1 : St} {t2 : St} {b : V4} {x : V4} {y : V4} {q : Bool} {V : AV}
    (l0 : (!q) = true → (decide (0 ≤ Ins.d i) && decide (Ins.d i < 6)) = true ∧ (Nat.ble (7 + Int.toNat (Ins.d i) * 4 + 4) (List.length (St.cs t))) = true ∧ (Eff.mk (AV.ag (List.take 4 (List.drop (7 + Int.toNat (Ins.d i) * 4) (St.cs t)))) [] none = Eff.mk (AV.ag (V4.cs (V6.get (St.r t) (Int.toNat (Ins.d i))))) [] none) ∧ (CallOK Tryz.prog (CallRec.mk 74 [AV.ag (Ins.cs i), AV.ag (St.cs t)] [] (Eff.mk (AV.ag (V4.cs b)) [] none))) ∧ (CallOK Tryz.prog (CallRec.mk 71 [AV.ag (V4.cs (V6.get (St.r t) (Int.toNat (Ins.d i)))), AV.ag (V4.cs b)] [] (Eff.mk (AV.tu [AT.ag (V4.cs x), AT.ag (V4.cs y), AT.c (AC.b q), AT.c (AC.i 0)]) [] none))) ∧ (AV.ag (St.cs St.z) = V))
    (l1 : (!q) = false → (Ins.s i != -1) = true → (decide (0 ≤ Ins.d i) && decide (Ins.d i < 6)) = true ∧ (Nat.ble (7 + Int.toNat (Ins.d i) * 4 + 4) (List.length (St.cs t))) = true ∧ (Eff.mk (AV.ag (List.take 4 (List.drop (7 + Int.toNat (Ins.d i) * 4) (St.cs t)))) [] none = Eff.mk (AV.ag (V4.cs (V6.get (St.r t) (Int.toNat (Ins.d i))))) [] none) ∧ (CallOK Tryz.prog (CallRec.mk 74 [AV.ag (Ins.cs i), AV.ag (St.cs t)] [] (Eff.mk (AV.ag (V4.cs b)) [] none))) ∧ (CallOK Tryz.prog (CallRec.mk 71 [AV.ag (V4.cs (V6.get (St.r t) (Int.toNat (Ins.d i)))), AV.ag (V4.cs b)] [] (Eff.mk (AV.tu [AT.ag (V4.cs x), AT.ag (V4.cs y), AT.c (AC.b q), AT.c (AC.i 0)]) [] none))) ∧ (CallOK Tryz.prog (CallRec.mk 68 [AV.ag (St.cs t), AV.c (AC.i (Ins.d i)), AV.ag (V4.cs x)] [] (Eff.mk (AV.ag (St.cs t1)) [] none))) ∧ (CallOK Tryz.prog (CallRec.mk 68 [AV.ag (St.cs t1), AV.c (AC.i (Ins.s i)), AV.ag (V4.cs y)] [] (Eff.mk (AV.ag (St.cs t2)) [] none))) ∧ (AV.ag (St.cs t2) = V))
    (l2 : (!q) = false → (Ins.s i != -1) = false → (decide (0 ≤ Ins.d i) && decide (Ins.d i < 6)) = true ∧ (Nat.ble (7 + Int.toNat (Ins.d i) * 4 + 4) (List.length (St.cs t))) = true ∧ (Eff.mk (AV.ag (List.take 4 (List.drop (7 + Int.toNat (Ins.d i) * 4) (St.cs t)))) [] none = Eff.mk (AV.ag (V4.cs (V6.get (St.r t) (Int.toNat (Ins.d i))))) [] none) ∧ (CallOK Tryz.prog (CallRec.mk 74 [AV.ag (Ins.cs i), AV.ag (St.cs t)] [] (Eff.mk (AV.ag (V4.cs b)) [] none))) ∧ (CallOK Tryz.prog (CallRec.mk 71 [AV.ag (V4.cs (V6.get (St.r t) (Int.toNat (Ins.d i)))), AV.ag (V4.cs b)] [] (Eff.mk (AV.tu [AT.ag (V4.cs x), AT.ag (V4.cs y), AT.c (AC.b q), AT.c (AC.i 0)]) [] none))) ∧ (CallOK Tryz.prog (CallRec.mk 68 [AV.ag (St.cs t), AV.c (AC.i (Ins.d i)), AV.ag (V4.cs x)] [] (Eff.mk (AV.ag (St.cs t1)) [] none))) ∧ (AV.ag (St.cs t1) = V)) :
    CallOK Tryz.prog ⟨69, [AV.ag (Ins.cs i), AV.ag (St.cs t), AV.c (AC.f 71 [])], [], ⟨V, [], none⟩⟩ :=
  (tf (!q)).elim (fun h0 => (match l0 h0 with | ⟨o0, o1, c0, c1, c2, e⟩ => ok_eq (fleftEq_w0 (and_yes o0 (and_yes o1 (and_yes h0 rfl))) c0 c1 c2) e)) (fun h0 => (tf (Ins.s i != -1)).elim (fun h1 => (match l1 h0 h1 with | ⟨o0, o1, c0, c1, c2, c3, c4, e⟩ => ok_eq (fleftEq_w1 (and_yes o0 (and_yes o1 (and_yes (not_yes h0) (and_yes h1 rfl)))) c0 c1 c2 c3 c4) e)) (fun h1 => (match l2 h0 h1 with | ⟨o0, o1, c0, c1, c2, c3, e⟩ => ok_eq (fleftEq_w2 (and_yes o0 (and_yes o1 (and_yes (not_yes h0) (and_yes (not_yes h1) rfl)))) c0 c1 c2 c3) e)))
theorem fleftNl_w0 {i : Ins} {t : St} {b : V4} {x : V4} {y : V4} {q : Bool} (h : (decide (0 ≤ Ins.d i) && decide (Ins.d i < 6) && (Nat.ble (7 + Int.toNat (Ins.d i) * 4 + 4) (List.length (St.cs t)) && (!q && true))) = true) (c0 : Eff.mk (AV.ag (List.take 4 (List.drop (7 + Int.toNat (Ins.d i) * 4) (St.cs t)))) [] none = Eff.mk (AV.ag (V4.cs (V6.get (St.r t) (Int.toNat (Ins.d i))))) [] none) (c1 : CallOK Tryz.prog (CallRec.mk 74 [AV.ag (Ins.cs i), AV.ag (St.cs t)] [] (Eff.mk (AV.ag (V4.cs b)) [] none))) (c2 : CallOK Tryz.prog (CallRec.mk 72 [AV.ag (V4.cs (V6.get (St.r t) (Int.toNat (Ins.d i)))), AV.ag (V4.cs b)] [] (Eff.mk (AV.tu [AT.ag (V4.cs x), AT.ag (V4.cs y), AT.c (AC.b q), AT.c (AC.i 0)]) [] none))) :
    CallOK Tryz.prog ⟨69, [AV.ag (Ins.cs i), AV.ag (St.cs t), AV.c (AC.f 72 [])], [], ⟨AV.ag (St.cs St.z), [], none⟩⟩ :=
  val_run 2000 [Eff.mk (AV.ag (V4.cs (V6.get (St.r t) (Int.toNat (Ins.d i))))) [] none, Eff.mk (AV.ag (V4.cs b)) [] none, Eff.mk (AV.tu [AT.ag (V4.cs x), AT.ag (V4.cs y), AT.c (AC.b q), AT.c (AC.i 0)]) [] none] [true] ([]) [(1, 5)] Tryz.func69 rfl rfl rfl rfl (by kernel_rfl) h (cr_same c0 (cr_cons c1 (cr_cons c2 cr_nil)))
theorem fleftNl_w1 {i : Ins} {t : St} {t1 : St} {t2 : St} {b : V4} {x : V4} {y : V4} {q : Bool} (h : (decide (0 ≤ Ins.d i) && decide (Ins.d i < 6) && (Nat.ble (7 + Int.toNat (Ins.d i) * 4 + 4) (List.length (St.cs t)) && (!!q && (Ins.s i != -1 && true)))) = true) (c0 : Eff.mk (AV.ag (List.take 4 (List.drop (7 + Int.toNat (Ins.d i) * 4) (St.cs t)))) [] none = Eff.mk (AV.ag (V4.cs (V6.get (St.r t) (Int.toNat (Ins.d i))))) [] none) (c1 : CallOK Tryz.prog (CallRec.mk 74 [AV.ag (Ins.cs i), AV.ag (St.cs t)] [] (Eff.mk (AV.ag (V4.cs b)) [] none))) (c2 : CallOK Tryz.prog (CallRec.mk 72 [AV.ag (V4.cs (V6.get (St.r t) (Int.toNat (Ins.d i)))), AV.ag (V4.cs b)] [] (Eff.mk (AV.tu [AT.ag (V4.cs x), AT.ag (V4.cs y), AT.c (AC.b q), AT.c (AC.i 0)]) [] none))) (c3 : CallOK Tryz.prog (CallRec.mk 68 [AV.ag (St.cs t), AV.c (AC.i (Ins.d i)), AV.ag (V4.cs x)] [] (Eff.mk (AV.ag (St.cs t1)) [] none))) (c4 : CallOK Tryz.prog (CallRec.mk 68 [AV.ag (St.cs t1), AV.c (AC.i (Ins.s i)), AV.ag (V4.cs y)] [] (Eff.mk (AV.ag (St.cs t2)) [] none))) :
    CallOK Tryz.prog ⟨69, [AV.ag (Ins.cs i), AV.ag (St.cs t), AV.c (AC.f 72 [])], [], ⟨AV.ag (St.cs t2), [], none⟩⟩ :=
  val_run 2000 [Eff.mk (AV.ag (V4.cs (V6.get (St.r t) (Int.toNat (Ins.d i))))) [] none, Eff.mk (AV.ag (V4.cs b)) [] none, Eff.mk (AV.tu [AT.ag (V4.cs x), AT.ag (V4.cs y), AT.c (AC.b q), AT.c (AC.i 0)]) [] none, Eff.mk (AV.ag (St.cs t1)) [] none, Eff.mk (AV.ag (St.cs t2)) [] none] [false, true] ([]) [(1, 5)] Tryz.func69 rfl rfl rfl rfl (by kernel_rfl) h (cr_same c0 (cr_cons c1 (cr_cons c2 (cr_cons c3 (cr_cons c4 cr_nil)))))
theorem fleftNl_w2 {i : Ins} {t : St} {t1 : St} {b : V4} {x : V4} {y : V4} {q : Bool} (h : (decide (0 ≤ Ins.d i) && decide (Ins.d i < 6) && (Nat.ble (7 + Int.toNat (Ins.d i) * 4 + 4) (List.length (St.cs t)) && (!!q && (!Ins.s i != -1 && true)))) = true) (c0 : Eff.mk (AV.ag (List.take 4 (List.drop (7 + Int.toNat (Ins.d i) * 4) (St.cs t)))) [] none = Eff.mk (AV.ag (V4.cs (V6.get (St.r t) (Int.toNat (Ins.d i))))) [] none) (c1 : CallOK Tryz.prog (CallRec.mk 74 [AV.ag (Ins.cs i), AV.ag (St.cs t)] [] (Eff.mk (AV.ag (V4.cs b)) [] none))) (c2 : CallOK Tryz.prog (CallRec.mk 72 [AV.ag (V4.cs (V6.get (St.r t) (Int.toNat (Ins.d i)))), AV.ag (V4.cs b)] [] (Eff.mk (AV.tu [AT.ag (V4.cs x), AT.ag (V4.cs y), AT.c (AC.b q), AT.c (AC.i 0)]) [] none))) (c3 : CallOK Tryz.prog (CallRec.mk 68 [AV.ag (St.cs t), AV.c (AC.i (Ins.d i)), AV.ag (V4.cs x)] [] (Eff.mk (AV.ag (St.cs t1)) [] none))) :
    CallOK Tryz.prog ⟨69, [AV.ag (Ins.cs i), AV.ag (St.cs t), AV.c (AC.f 72 [])], [], ⟨AV.ag (St.cs t1), [], none⟩⟩ :=
  val_run 2000 [Eff.mk (AV.ag (V4.cs (V6.get (St.r t) (Int.toNat (Ins.d i))))) [] none, Eff.mk (AV.ag (V4.cs b)) [] none, Eff.mk (AV.tu [AT.ag (V4.cs x), AT.ag (V4.cs y), AT.c (AC.b q), AT.c (AC.i 0)]) [] none, Eff.mk (AV.ag (St.cs t1)) [] none] [false, false] ([]) [(1, 5)] Tryz.func69 rfl rfl rfl rfl (by kernel_rfl) h (cr_same c0 (cr_cons c1 (cr_cons c2 (cr_cons c3 cr_nil))))
theorem fleftNl_all {i : Ins} {t : St} {t1 : St} {t2 : St} {b : V4} {x : V4} {y : V4} {q : Bool} {V : AV}
    (l0 : (!q) = true → (decide (0 ≤ Ins.d i) && decide (Ins.d i < 6)) = true ∧ (Nat.ble (7 + Int.toNat (Ins.d i) * 4 + 4) (List.length (St.cs t))) = true ∧ (Eff.mk (AV.ag (List.take 4 (List.drop (7 + Int.toNat (Ins.d i) * 4) (St.cs t)))) [] none = Eff.mk (AV.ag (V4.cs (V6.get (St.r t) (Int.toNat (Ins.d i))))) [] none) ∧ (CallOK Tryz.prog (CallRec.mk 74 [AV.ag (Ins.cs i), AV.ag (St.cs t)] [] (Eff.mk (AV.ag (V4.cs b)) [] none))) ∧ (CallOK Tryz.prog (CallRec.mk 72 [AV.ag (V4.cs (V6.get (St.r t) (Int.toNat (Ins.d i)))), AV.ag (V4.cs b)] [] (Eff.mk (AV.tu [AT.ag (V4.cs x), AT.ag (V4.cs y), AT.c (AC.b q), AT.c (AC.i 0)]) [] none))) ∧ (AV.ag (St.cs St.z) = V))
    (l1 : (!q) = false → (Ins.s i != -1) = true → (decide (0 ≤ Ins.d i) && decide (Ins.d i < 6)) = true ∧ (Nat.ble (7 + Int.toNat (Ins.d i) * 4 + 4) (List.length (St.cs t))) = true ∧ (Eff.mk (AV.ag (List.take 4 (List.drop (7 + Int.toNat (Ins.d i) * 4) (St.cs t)))) [] none = Eff.mk (AV.ag (V4.cs (V6.get (St.r t) (Int.toNat (Ins.d i))))) [] none) ∧ (CallOK Tryz.prog (CallRec.mk 74 [AV.ag (Ins.cs i), AV.ag (St.cs t)] [] (Eff.mk (AV.ag (V4.cs b)) [] none))) ∧ (CallOK Tryz.prog (CallRec.mk 72 [AV.ag (V4.cs (V6.get (St.r t) (Int.toNat (Ins.d i)))), AV.ag (V4.cs b)] [] (Eff.mk (AV.tu [AT.ag (V4.cs x), AT.ag (V4.cs y), AT.c (AC.b q), AT.c (AC.i 0)]) [] none))) ∧ (CallOK Tryz.prog (CallRec.mk 68 [AV.ag (St.cs t), AV.c (AC.i (Ins.d i)), AV.ag (V4.cs x)] [] (Eff.mk (AV.ag (St.cs t1)) [] none))) ∧ (CallOK Tryz.prog (CallRec.mk 68 [AV.ag (St.cs t1), AV.c (AC.i (Ins.s i)), AV.ag (V4.cs y)] [] (Eff.mk (AV.ag (St.cs t2)) [] none))) ∧ (AV.ag (St.cs t2) = V))
    (l2 : (!q) = false → (Ins.s i != -1) = false → (decide (0 ≤ Ins.d i) && decide (Ins.d i < 6)) = true ∧ (Nat.ble (7 + Int.toNat (Ins.d i) * 4 + 4) (List.length (St.cs t))) = true ∧ (Eff.mk (AV.ag (List.take 4 (List.drop (7 + Int.toNat (Ins.d i) * 4) (St.cs t)))) [] none = Eff.mk (AV.ag (V4.cs (V6.get (St.r t) (Int.toNat (Ins.d i))))) [] none) ∧ (CallOK Tryz.prog (CallRec.mk 74 [AV.ag (Ins.cs i), AV.ag (St.cs t)] [] (Eff.mk (AV.ag (V4.cs b)) [] none))) ∧ (CallOK Tryz.prog (CallRec.mk 72 [AV.ag (V4.cs (V6.get (St.r t) (Int.toNat (Ins.d i)))), AV.ag (V4.cs b)] [] (Eff.mk (AV.tu [AT.ag (V4.cs x), AT.ag (V4.cs y), AT.c (AC.b q), AT.c (AC.i 0)]) [] none))) ∧ (CallOK Tryz.prog (CallRec.mk 68 [AV.ag (St.cs t), AV.c (AC.i (Ins.d i)), AV.ag (V4.cs x)] [] (Eff.mk (AV.ag (St.cs t1)) [] none))) ∧ (AV.ag (St.cs t1) = V)) :
    CallOK Tryz.prog ⟨69, [AV.ag (Ins.cs i), AV.ag (St.cs t), AV.c (AC.f 72 [])], [], ⟨V, [], none⟩⟩ :=
  (tf (!q)).elim (fun h0 => (match l0 h0 with | ⟨o0, o1, c0, c1, c2, e⟩ => ok_eq (fleftNl_w0 (and_yes o0 (and_yes o1 (and_yes h0 rfl))) c0 c1 c2) e)) (fun h0 => (tf (Ins.s i != -1)).elim (fun h1 => (match l1 h0 h1 with | ⟨o0, o1, c0, c1, c2, c3, c4, e⟩ => ok_eq (fleftNl_w1 (and_yes o0 (and_yes o1 (and_yes (not_yes h0) (and_yes h1 rfl)))) c0 c1 c2 c3 c4) e)) (fun h1 => (match l2 h0 h1 with | ⟨o0, o1, c0, c1, c2, c3, e⟩ => ok_eq (fleftNl_w2 (and_yes o0 (and_yes o1 (and_yes (not_yes h0) (and_yes (not_yes h1) rfl)))) c0 c1 c2 c3) e)))
theorem fleftLe_w0 {i : Ins} {t : St} {b : V4} {x : V4} {y : V4} {q : Bool} (h : (decide (0 ≤ Ins.d i) && decide (Ins.d i < 6) && (Nat.ble (7 + Int.toNat (Ins.d i) * 4 + 4) (List.length (St.cs t)) && (!q && true))) = true) (c0 : Eff.mk (AV.ag (List.take 4 (List.drop (7 + Int.toNat (Ins.d i) * 4) (St.cs t)))) [] none = Eff.mk (AV.ag (V4.cs (V6.get (St.r t) (Int.toNat (Ins.d i))))) [] none) (c1 : CallOK Tryz.prog (CallRec.mk 74 [AV.ag (Ins.cs i), AV.ag (St.cs t)] [] (Eff.mk (AV.ag (V4.cs b)) [] none))) (c2 : CallOK Tryz.prog (CallRec.mk 73 [AV.ag (V4.cs (V6.get (St.r t) (Int.toNat (Ins.d i)))), AV.ag (V4.cs b)] [] (Eff.mk (AV.tu [AT.ag (V4.cs x), AT.ag (V4.cs y), AT.c (AC.b q), AT.c (AC.i 0)]) [] none))) :
    CallOK Tryz.prog ⟨69, [AV.ag (Ins.cs i), AV.ag (St.cs t), AV.c (AC.f 73 [])], [], ⟨AV.ag (St.cs St.z), [], none⟩⟩ :=
  val_run 2000 [Eff.mk (AV.ag (V4.cs (V6.get (St.r t) (Int.toNat (Ins.d i))))) [] none, Eff.mk (AV.ag (V4.cs b)) [] none, Eff.mk (AV.tu [AT.ag (V4.cs x), AT.ag (V4.cs y), AT.c (AC.b q), AT.c (AC.i 0)]) [] none] [true] ([]) [(1, 5)] Tryz.func69 rfl rfl rfl rfl (by kernel_rfl) h (cr_same c0 (cr_cons c1 (cr_cons c2 cr_nil)))
theorem fleftLe_w1 {i : Ins} {t : St} {t1 : St} {t2 : St} {b : V4} {x : V4} {y : V4} {q : Bool} (h : (decide (0 ≤ Ins.d i) && decide (Ins.d i < 6) && (Nat.ble (7 + Int.toNat (Ins.d i) * 4 + 4) (List.length (St.cs t)) && (!!q && (Ins.s i != -1 && true)))) = true) (c0 : Eff.mk (AV.ag (List.take 4 (List.drop (7 + Int.toNat (Ins.d i) * 4) (St.cs t)))) [] none = Eff.mk (AV.ag (V4.cs (V6.get (St.r t) (Int.toNat (Ins.d i))))) [] none) (c1 : CallOK Tryz.prog (CallRec.mk 74 [AV.ag (Ins.cs i), AV.ag (St.cs t)] [] (Eff.mk (AV.ag (V4.cs b)) [] none))) (c2 : CallOK Tryz.prog (CallRec.mk 73 [AV.ag (V4.cs (V6.get (St.r t) (Int.toNat (Ins.d i)))), AV.ag (V4.cs b)] [] (Eff.mk (AV.tu [AT.ag (V4.cs x), AT.ag (V4.cs y), AT.c (AC.b q), AT.c (AC.i 0)]) [] none))) (c3 : CallOK Tryz.prog (CallRec.mk 68 [AV.ag (St.cs t), AV.c (AC.i (Ins.d i)), AV.ag (V4.cs x)] [] (Eff.mk (AV.ag (St.cs t1)) [] none))) (c4 : CallOK Tryz.prog (CallRec.mk 68 [AV.ag (St.cs t1), AV.c (AC.i (Ins.s i)), AV.ag (V4.cs y)] [] (Eff.mk (AV.ag (St.cs t2)) [] none))) :
    CallOK Tryz.prog ⟨69, [AV.ag (Ins.cs i), AV.ag (St.cs t), AV.c (AC.f 73 [])], [], ⟨AV.ag (St.cs t2), [], none⟩⟩ :=
  val_run 2000 [Eff.mk (AV.ag (V4.cs (V6.get (St.r t) (Int.toNat (Ins.d i))))) [] none, Eff.mk (AV.ag (V4.cs b)) [] none, Eff.mk (AV.tu [AT.ag (V4.cs x), AT.ag (V4.cs y), AT.c (AC.b q), AT.c (AC.i 0)]) [] none, Eff.mk (AV.ag (St.cs t1)) [] none, Eff.mk (AV.ag (St.cs t2)) [] none] [false, true] ([]) [(1, 5)] Tryz.func69 rfl rfl rfl rfl (by kernel_rfl) h (cr_same c0 (cr_cons c1 (cr_cons c2 (cr_cons c3 (cr_cons c4 cr_nil)))))
theorem fleftLe_w2 {i : Ins} {t : St} {t1 : St} {b : V4} {x : V4} {y : V4} {q : Bool} (h : (decide (0 ≤ Ins.d i) && decide (Ins.d i < 6) && (Nat.ble (7 + Int.toNat (Ins.d i) * 4 + 4) (List.length (St.cs t)) && (!!q && (!Ins.s i != -1 && true)))) = true) (c0 : Eff.mk (AV.ag (List.take 4 (List.drop (7 + Int.toNat (Ins.d i) * 4) (St.cs t)))) [] none = Eff.mk (AV.ag (V4.cs (V6.get (St.r t) (Int.toNat (Ins.d i))))) [] none) (c1 : CallOK Tryz.prog (CallRec.mk 74 [AV.ag (Ins.cs i), AV.ag (St.cs t)] [] (Eff.mk (AV.ag (V4.cs b)) [] none))) (c2 : CallOK Tryz.prog (CallRec.mk 73 [AV.ag (V4.cs (V6.get (St.r t) (Int.toNat (Ins.d i)))), AV.ag (V4.cs b)] [] (Eff.mk (AV.tu [AT.ag (V4.cs x), AT.ag (V4.cs y), AT.c (AC.b q), AT.c (AC.i 0)]) [] none))) (c3 : CallOK Tryz.prog (CallRec.mk 68 [AV.ag (St.cs t), AV.c (AC.i (Ins.d i)), AV.ag (V4.cs x)] [] (Eff.mk (AV.ag (St.cs t1)) [] none))) :
    CallOK Tryz.prog ⟨69, [AV.ag (Ins.cs i), AV.ag (St.cs t), AV.c (AC.f 73 [])], [], ⟨AV.ag (St.cs t1), [], none⟩⟩ :=
  val_run 2000 [Eff.mk (AV.ag (V4.cs (V6.get (St.r t) (Int.toNat (Ins.d i))))) [] none, Eff.mk (AV.ag (V4.cs b)) [] none, Eff.mk (AV.tu [AT.ag (V4.cs x), AT.ag (V4.cs y), AT.c (AC.b q), AT.c (AC.i 0)]) [] none, Eff.mk (AV.ag (St.cs t1)) [] none] [false, false] ([]) [(1, 5)] Tryz.func69 rfl rfl rfl rfl (by kernel_rfl) h (cr_same c0 (cr_cons c1 (cr_cons c2 (cr_cons c3 cr_nil))))
theorem fleftLe_all {i : Ins} {t : St} {t1 : St} {t2 : St} {b : V4} {x : V4} {y : V4} {q : Bool} {V : AV}
    (l0 : (!q) = true → (decide (0 ≤ Ins.d i) && decide (Ins.d i < 6)) = true ∧ (Nat.ble (7 + Int.toNat (Ins.d i) * 4 + 4) (List.length (St.cs t))) = true ∧ (Eff.mk (AV.ag (List.take 4 (List.drop (7 + Int.toNat (Ins.d i) * 4) (St.cs t)))) [] none = Eff.mk (AV.ag (V4.cs (V6.get (St.r t) (Int.toNat (Ins.d i))))) [] none) ∧ (CallOK Tryz.prog (CallRec.mk 74 [AV.ag (Ins.cs i), AV.ag (St.cs t)] [] (Eff.mk (AV.ag (V4.cs b)) [] none))) ∧ (CallOK Tryz.prog (CallRec.mk 73 [AV.ag (V4.cs (V6.get (St.r t) (Int.toNat (Ins.d i)))), AV.ag (V4.cs b)] [] (Eff.mk (AV.tu [AT.ag (V4.cs x), AT.ag (V4.cs y), AT.c (AC.b q), AT.c (AC.i 0)]) [] none))) ∧ (AV.ag (St.cs St.z) = V))
    (l1 : (!q) = false → (Ins.s i != -1) = true → (decide (0 ≤ Ins.d i) && decide (Ins.d i < 6)) = true ∧ (Nat.ble (7 + Int.toNat (Ins.d i) * 4 + 4) (List.length (St.cs t))) = true ∧ (Eff.mk (AV.ag (List.take 4 (List.drop (7 + Int.toNat (Ins.d i) * 4) (St.cs t)))) [] none = Eff.mk (AV.ag (V4.cs (V6.get (St.r t) (Int.toNat (Ins.d i))))) [] none) ∧ (CallOK Tryz.prog (CallRec.mk 74 [AV.ag (Ins.cs i), AV.ag (St.cs t)] [] (Eff.mk (AV.ag (V4.cs b)) [] none))) ∧ (CallOK Tryz.prog (CallRec.mk 73 [AV.ag (V4.cs (V6.get (St.r t) (Int.toNat (Ins.d i)))), AV.ag (V4.cs b)] [] (Eff.mk (AV.tu [AT.ag (V4.cs x), AT.ag (V4.cs y), AT.c (AC.b q), AT.c (AC.i 0)]) [] none))) ∧ (CallOK Tryz.prog (CallRec.mk 68 [AV.ag (St.cs t), AV.c (AC.i (Ins.d i)), AV.ag (V4.cs x)] [] (Eff.mk (AV.ag (St.cs t1)) [] none))) ∧ (CallOK Tryz.prog (CallRec.mk 68 [AV.ag (St.cs t1), AV.c (AC.i (Ins.s i)), AV.ag (V4.cs y)] [] (Eff.mk (AV.ag (St.cs t2)) [] none))) ∧ (AV.ag (St.cs t2) = V))
    (l2 : (!q) = false → (Ins.s i != -1) = false → (decide (0 ≤ Ins.d i) && decide (Ins.d i < 6)) = true ∧ (Nat.ble (7 + Int.toNat (Ins.d i) * 4 + 4) (List.length (St.cs t))) = true ∧ (Eff.mk (AV.ag (List.take 4 (List.drop (7 + Int.toNat (Ins.d i) * 4) (St.cs t)))) [] none = Eff.mk (AV.ag (V4.cs (V6.get (St.r t) (Int.toNat (Ins.d i))))) [] none) ∧ (CallOK Tryz.prog (CallRec.mk 74 [AV.ag (Ins.cs i), AV.ag (St.cs t)] [] (Eff.mk (AV.ag (V4.cs b)) [] none))) ∧ (CallOK Tryz.prog (CallRec.mk 73 [AV.ag (V4.cs (V6.get (St.r t) (Int.toNat (Ins.d i)))), AV.ag (V4.cs b)] [] (Eff.mk (AV.tu [AT.ag (V4.cs x), AT.ag (V4.cs y), AT.c (AC.b q), AT.c (AC.i 0)]) [] none))) ∧ (CallOK Tryz.prog (CallRec.mk 68 [AV.ag (St.cs t), AV.c (AC.i (Ins.d i)), AV.ag (V4.cs x)] [] (Eff.mk (AV.ag (St.cs t1)) [] none))) ∧ (AV.ag (St.cs t1) = V)) :
    CallOK Tryz.prog ⟨69, [AV.ag (Ins.cs i), AV.ag (St.cs t), AV.c (AC.f 73 [])], [], ⟨V, [], none⟩⟩ :=
  (tf (!q)).elim (fun h0 => (match l0 h0 with | ⟨o0, o1, c0, c1, c2, e⟩ => ok_eq (fleftLe_w0 (and_yes o0 (and_yes o1 (and_yes h0 rfl))) c0 c1 c2) e)) (fun h0 => (tf (Ins.s i != -1)).elim (fun h1 => (match l1 h0 h1 with | ⟨o0, o1, c0, c1, c2, c3, c4, e⟩ => ok_eq (fleftLe_w1 (and_yes o0 (and_yes o1 (and_yes (not_yes h0) (and_yes h1 rfl)))) c0 c1 c2 c3 c4) e)) (fun h1 => (match l2 h0 h1 with | ⟨o0, o1, c0, c1, c2, c3, e⟩ => ok_eq (fleftLe_w2 (and_yes o0 (and_yes o1 (and_yes (not_yes h0) (and_yes (not_yes h1) rfl)))) c0 c1 c2 c3) e)))
theorem ftTop_w0 {i : Ins} {t : St} {u : V6 Bool} {C : Cx} {R : Ending → World → Prop} (c0 : CallOK Tryz.prog (CallRec.mk 65 [AV.ag (Ins.cs i)] [] (Eff.mk (AV.ag (bcs u)) [] none))) (lo : Kn.Low ⟨[(2, AV.c (AC.w 0)), (3, AV.c (AC.w 1)), (8, AV.ag (bcs u)), (9, AV.c (AC.i 0))], [(0, Ent.mk true (Ins.cs i) 0), (1, Ent.mk true (St.cs t) 0)], 2⟩) (hF : ∀ k, C.F k → k < 2) (z : ART Tryz.prog 27 C Tryz.f27.ntmps (cutAt Tryz.f27 0) ⟨[(2, AV.c (AC.w 0)), (3, AV.c (AC.w 1)), (8, AV.ag (bcs u)), (9, AV.c (AC.i 0))], [(0, Ent.mk true (Ins.cs i) 0), (1, Ent.mk true (St.cs t) 0)], 2⟩ R) :
    ART Tryz.prog 27 C Tryz.f27.ntmps ([Item.code (bodyOf Tryz.f27)]) (Kn.start [AV.ag (Ins.cs i), AV.ag (St.cs t)] [] 0) R :=
  run_cut ⟨[(2, AV.c (AC.w 0)), (3, AV.c (AC.w 1)), (8, AV.ag (bcs u)), (9, AV.c (AC.i 0))], [(0, Ent.mk true (Ins.cs i) 0), (1, Ent.mk true (St.cs t) 0)], 2⟩ 2000 [Eff.mk (AV.ag (bcs u)) [] none] [] ([true]) [] Tryz.func27 (by kernel_rfl) rfl (cr_cons c0 cr_nil) lo hF z
theorem ftRound_w0 {i : Ins} {t : St} {u : V6 Bool} {j : Int} {w : World} {β : Bs} {n : Nat} (h : (decide (j < 6) && (AC.isB (Option.getD (bcs u)[Int.toNat j * 1]? (AC.b false)) && Nat.blt (Int.toNat j * 1) (List.length (bcs u)) && (decide (0 ≤ j) && decide (j < 6)) && (V6.get u (Int.toNat j) && (decide (0 ≤ j) && decide (j < 6) && (AC.isB (Option.getD (St.cs t)[1 + Int.toNat j * 1]? (AC.b false)) && Nat.blt (1 + Int.toNat j * 1) (List.length (St.cs t)) && (!V6.get (St.s t) (Int.toNat j) && true)))))) = true) (c0 : Eff.mk (AV.c (AC.b (AC.asB (Option.getD (bcs u)[Int.toNat j * 1]? (AC.b false))))) [] none = Eff.mk (AV.c (AC.b (V6.get u (Int.toNat j)))) [] none) (c1 : Eff.mk (AV.c (AC.b (AC.asB (Option.getD (St.cs t)[1 + Int.toNat j * 1]? (AC.b false))))) [] none = Eff.mk (AV.c (AC.b (V6.get (St.s t) (Int.toNat j)))) [] none) :
    ART Tryz.prog 27 (cx w β n []) Tryz.f27.ntmps (cutAt Tryz.f27 0) (Kn.mk [(2, AV.c (AC.w 0)), (3, AV.c (AC.w 1)), (8, AV.ag (bcs u)), (9, AV.c (AC.i j))] [(0, Ent.mk true (Ins.cs i) 0), (1, Ent.mk true (St.cs t) 0)] 2) (REff w β ⟨AV.c (AC.i 1), [], none⟩) :=
  run_eff [] (none) 2000 [Eff.mk (AV.c (AC.b (V6.get u (Int.toNat j)))) [] none, Eff.mk (AV.c (AC.b (V6.get (St.s t) (Int.toNat j)))) [] none] [true, true, true] ([true]) [(3, 1), (4, 5)] Tryz.func27 (ekeys0 rfl n) (by kernel_rfl) h (cr_same c0 (cr_same c1 cr_nil))
theorem ftRound_w1 {i : Ins} {t : St} {u : V6 Bool} {j : Int} {C : Cx} {R : Ending → World → Prop} (h : (decide (j < 6) && (AC.isB (Option.getD (bcs u)[Int.toNat j * 1]? (AC.b false)) && Nat.blt (Int.toNat j * 1) (List.length (bcs u)) && (decide (0 ≤ j) && decide (j < 6)) && (V6.get u (Int.toNat j) && (decide (0 ≤ j) && decide (j < 6) && (AC.isB (Option.getD (St.cs t)[1 + Int.toNat j * 1]? (AC.b false)) && Nat.blt (1 + Int.toNat j * 1) (List.length (St.cs t)) && (!!V6.get (St.s t) (Int.toNat j) && true)))))) = true) (c0 : Eff.mk (AV.c (AC.b (AC.asB (Option.getD (bcs u)[Int.toNat j * 1]? (AC.b false))))) [] none = Eff.mk (AV.c (AC.b (V6.get u (Int.toNat j)))) [] none) (c1 : Eff.mk (AV.c (AC.b (AC.asB (Option.getD (St.cs t)[1 + Int.toNat j * 1]? (AC.b false))))) [] none = Eff.mk (AV.c (AC.b (V6.get (St.s t) (Int.toNat j)))) [] none) (lo : Kn.Low ⟨[(2, AV.c (AC.w 0)), (3, AV.c (AC.w 1)), (8, AV.ag (bcs u)), (9, AV.c (AC.i (IntKind.wrap IntKind.i64 (j + 1))))], [(0, Ent.mk true (Ins.cs i) 0), (1, Ent.mk true (St.cs t) 0)], 2⟩) (hF : ∀ k, C.F k → k < 2) (z : ART Tryz.prog 27 C Tryz.f27.ntmps (cutAt Tryz.f27 0) ⟨[(2, AV.c (AC.w 0)), (3, AV.c (AC.w 1)), (8, AV.ag (bcs u)), (9, AV.c (AC.i (IntKind.wrap IntKind.i64 (j + 1))))], [(0, Ent.mk true (Ins.cs i) 0), (1, Ent.mk true (St.cs t) 0)], 2⟩ R) :
    ART Tryz.prog 27 C Tryz.f27.ntmps (cutAt Tryz.f27 0) (Kn.mk [(2, AV.c (AC.w 0)), (3, AV.c (AC.w 1)), (8, AV.ag (bcs u)), (9, AV.c (AC.i j))] [(0, Ent.mk true (Ins.cs i) 0), (1, Ent.mk true (St.cs t) 0)] 2) R :=
  run_cut ⟨[(2, AV.c (AC.w 0)), (3, AV.c (AC.w 1)), (8, AV.ag (bcs u)), (9, AV.c (AC.i (IntKind.wrap IntKind.i64 (j + 1))))], [(0, Ent.mk true (Ins.cs i) 0), (1, Ent.mk true (St.cs t) 0)], 2⟩ 2000 [Eff.mk (AV.c (AC.b (V6.get u (Int.toNat j)))) [] none, Eff.mk (AV.c (AC.b (V6.get (St.s t) (Int.toNat j)))) [] none] [true, true, false] ([true]) [(3, 1), (4, 5)] Tryz.func27 (by kernel_rfl) h (cr_same c0 (cr_same c1 cr_nil)) lo hF z
theorem ftRound_w2 {i : Ins} {t : St} {u : V6 Bool} {j : Int} {C : Cx} {R : Ending → World → Prop} (h : (decide (j < 6) && (AC.isB (Option.getD (bcs u)[Int.toNat j * 1]? (AC.b false)) && Nat.blt (Int.toNat j * 1) (List.length (bcs u)) && (decide (0 ≤ j) && decide (j < 6)) && (!V6.get u (Int.toNat j) && true))) = true) (c0 : Eff.mk (AV.c (AC.b (AC.asB (Option.getD (bcs u)[Int.toNat j * 1]? (AC.b false))))) [] none = Eff.mk (AV.c (AC.b (V6.get u (Int.toNat j)))) [] none) (lo : Kn.Low ⟨[(2, AV.c (AC.w 0)), (3, AV.c (AC.w 1)), (8, AV.ag (bcs u)), (9, AV.c (AC.i (IntKind.wrap IntKind.i64 (j + 1))))], [(0, Ent.mk true (Ins.cs i) 0), (1, Ent.mk true (St.cs t) 0)], 2⟩) (hF : ∀ k, C.F k → k < 2) (z : ART Tryz.prog 27 C Tryz.f27.ntmps (cutAt Tryz.f27 0) ⟨[(2, AV.c (AC.w 0)), (3, AV.c (AC.w 1)), (8, AV.ag (bcs u)), (9, AV.c (AC.i (IntKind.wrap IntKind.i64 (j + 1))))], [(0, Ent.mk true (Ins.cs i) 0), (1, Ent.mk true (St.cs t) 0)], 2⟩ R) :
    ART Tryz.prog 27 C Tryz.f27.ntmps (cutAt Tryz.f27 0) (Kn.mk [(2, AV.c (AC.w 0)), (3, AV.c (AC.w 1)), (8, AV.ag (bcs u)), (9, AV.c (AC.i j))] [(0, Ent.mk true (Ins.cs i) 0), (1, Ent.mk true (St.cs t) 0)] 2) R :=
  run_cut ⟨[(2, AV.c (AC.w 0)), (3, AV.c (AC.w 1)), (8, AV.ag (bcs u)), (9, AV.c (AC.i (IntKind.wrap IntKind.i64 (j + 1))))], [(0, Ent.mk true (Ins.cs i) 0), (1, Ent.mk true (St.cs t) 0)], 2⟩ 2000 [Eff.mk (AV.c (AC.b (V6.get u (Int.toNat j)))) [] none] [true, false, false] ([true]) [(3, 1), (4, 5)] Tryz.func27 (by kernel_rfl) h (cr_same c0 cr_nil) lo hF z
theorem ftRound_all {i : Ins} {t : St} {u : V6 Bool} {j : Int} {w : World} {β : Bs} {n : Nat} {E : Eff} (hn : n ≤ 2)
    (l0 : (V6.get u (Int.toNat j)) = true → (!V6.get (St.s t) (Int.toNat j)) = true → (decide (j < 6)) = true ∧ (AC.isB (Option.getD (bcs u)[Int.toNat j * 1]? (AC.b false)) && Nat.blt (Int.toNat j * 1) (List.length (bcs u)) && (decide (0 ≤ j) && decide (j < 6))) = true ∧ (decide (0 ≤ j) && decide (j < 6)) = true ∧ (AC.isB (Option.getD (St.cs t)[1 + Int.toNat j * 1]? (AC.b false)) && Nat.blt (1 + Int.toNat j * 1) (List.length (St.cs t))) = true ∧ (Eff.mk (AV.c (AC.b (AC.asB (Option.getD (bcs u)[Int.toNat j * 1]? (AC.b false))))) [] none = Eff.mk (AV.c (AC.b (V6.get u (Int.toNat j)))) [] none) ∧ (Eff.mk (AV.c (AC.b (AC.asB (Option.getD (St.cs t)[1 + Int.toNat j * 1]? (AC.b false))))) [] none = Eff.mk (AV.c (AC.b (V6.get (St.s t) (Int.toNat j)))) [] none) ∧ ((⟨AV.c (AC.i 1), [], none⟩ : Eff) = E))
    (l1 : (V6.get u (Int.toNat j)) = true → (!V6.get (St.s t) (Int.toNat j)) = false → (decide (j < 6)) = true ∧ (AC.isB (Option.getD (bcs u)[Int.toNat j * 1]? (AC.b false)) && Nat.blt (Int.toNat j * 1) (List.length (bcs u)) && (decide (0 ≤ j) && decide (j < 6))) = true ∧ (decide (0 ≤ j) && decide (j < 6)) = true ∧ (AC.isB (Option.getD (St.cs t)[1 + Int.toNat j * 1]? (AC.b false)) && Nat.blt (1 + Int.toNat j * 1) (List.length (St.cs t))) = true ∧ (Eff.mk (AV.c (AC.b (AC.asB (Option.getD (bcs u)[Int.toNat j * 1]? (AC.b false))))) [] none = Eff.mk (AV.c (AC.b (V6.get u (Int.toNat j)))) [] none) ∧ (Eff.mk (AV.c (AC.b (AC.asB (Option.getD (St.cs t)[1 + Int.toNat j * 1]? (AC.b false))))) [] none = Eff.mk (AV.c (AC.b (V6.get (St.s t) (Int.toNat j)))) [] none) ∧ Kn.Low ⟨[(2, AV.c (AC.w 0)), (3, AV.c (AC.w 1)), (8, AV.ag (bcs u)), (9, AV.c (AC.i (IntKind.wrap IntKind.i64 (j + 1))))], [(0, Ent.mk true (Ins.cs i) 0), (1, Ent.mk true (St.cs t) 0)], 2⟩ ∧ ART Tryz.prog 27 (cx w β n []) Tryz.f27.ntmps (cutAt Tryz.f27 0) ⟨[(2, AV.c (AC.w 0)), (3, AV.c (AC.w 1)), (8, AV.ag (bcs u)), (9, AV.c (AC.i (IntKind.wrap IntKind.i64 (j + 1))))], [(0, Ent.mk true (Ins.cs i) 0), (1, Ent.mk true (St.cs t) 0)], 2⟩ (REff w β E))
    (l2 : (V6.get u (Int.toNat j)) = false → (decide (j < 6)) = true ∧ (AC.isB (Option.getD (bcs u)[Int.toNat j * 1]? (AC.b false)) && Nat.blt (Int.toNat j * 1) (List.length (bcs u)) && (decide (0 ≤ j) && decide (j < 6))) = true ∧ (Eff.mk (AV.c (AC.b (AC.asB (Option.getD (bcs u)[Int.toNat j * 1]? (AC.b false))))) [] none = Eff.mk (AV.c (AC.b (V6.get u (Int.toNat j)))) [] none) ∧ Kn.Low ⟨[(2, AV.c (AC.w 0)), (3, AV.c (AC.w 1)), (8, AV.ag (bcs u)), (9, AV.c (AC.i (IntKind.wrap IntKind.i64 (j + 1))))], [(0, Ent.mk true (Ins.cs i) 0), (1, Ent.mk true (St.cs t) 0)], 2⟩ ∧ ART Tryz.prog 27 (cx w β n []) Tryz.f27.ntmps (cutAt Tryz.f27 0) ⟨[(2, AV.c (AC.w 0)), (3, AV.c (AC.w 1)), (8, AV.ag (bcs u)), (9, AV.c (AC.i (IntKind.wrap IntKind.i64 (j + 1))))], [(0, Ent.mk true (Ins.cs i) 0), (1, Ent.mk true (St.cs t) 0)], 2⟩ (REff w β E)) :
    ART Tryz.prog 27 (cx w β n []) Tryz.f27.ntmps (cutAt Tryz.f27 0) (Kn.mk [(2, AV.c (AC.w 0)), (3, AV.c (AC.w 1)), (8, AV.ag (bcs u)), (9, AV.c (AC.i j))] [(0, Ent.mk true (Ins.cs i) 0), (1, Ent.mk true (St.cs t) 0)] 2) (REff w β E) :=
  (tf (V6.get u (Int.toNat j))).elim (fun h0 => (tf (!V6.get (St.s t) (Int.toNat j))).elim (fun h1 => (match l0 h0 h1 with | ⟨o0, o1, o2, o3, c0, c1, e⟩ => art_eq (ftRound_w0 (and_yes o0 (and_yes o1 (and_yes h0 (and_yes o2 (and_yes o3 (and_yes h1 rfl)))))) c0 c1) e)) (fun h1 => (match l1 h0 h1 with | ⟨o0, o1, o2, o3, c0, c1, lo, z⟩ => ftRound_w1 (and_yes o0 (and_yes o1 (and_yes h0 (and_yes o2 (and_yes o3 (and_yes (not_yes h1) rfl)))))) c0 c1 lo (fun _ hk => Nat.lt_of_lt_of_le hk hn) z))) (fun h0 => (match l2 h0 with | ⟨o0, o1, c0, lo, z⟩ => ftRound_w2 (and_yes o0 (and_yes o1 (and_yes (not_yes h0) rfl))) c0 lo (fun _ hk => Nat.lt_of_lt_of_le hk hn) z))
theorem ftEnd_w0 {i : Ins} {t : St} {u : V6 Bool} {e : Int} {w : World} {β : Bs} {n : Nat} (h : (Ins.op i == 10 && (decide (0 ≤ Ins.s i) && decide (Ins.s i < 6) && (Nat.ble (7 + Int.toNat (Ins.s i) * 4 + 4) (List.length (St.cs t)) && true))) = true) (c0 : Eff.mk (AV.ag (List.take 4 (List.drop (7 + Int.toNat (Ins.s i) * 4) (St.cs t)))) [] none = Eff.mk (AV.ag (V4.cs (V6.get (St.r t) (Int.toNat (Ins.s i))))) [] none) (c1 : CallOK Tryz.prog (CallRec.mk 66 [AV.ag (Ins.cs i), AV.ag (V4.cs (V6.get (St.r t) (Int.toNat (Ins.s i))))] [] (Eff.mk (AV.c (AC.i e)) [] none))) :
    ART Tryz.prog 27 (cx w β n []) Tryz.f27.ntmps (cutAt Tryz.f27 0) (Kn.mk [(2, AV.c (AC.w 0)), (3, AV.c (AC.w 1)), (8, AV.ag (bcs u)), (9, AV.c (AC.i 6))] [(0, Ent.mk true (Ins.cs i) 0), (1, Ent.mk true (St.cs t) 0)] 2) (REff w β ⟨AV.c (AC.i e), [], none⟩) :=
  run_eff [] (none) 2000 [Eff.mk (AV.ag (V4.cs (V6.get (St.r t) (Int.toNat (Ins.s i))))) [] none, Eff.mk (AV.c (AC.i e)) [] none] [false, true] ([true]) [(9, 5), (11, 5)] Tryz.func27 (ekeys0 rfl n) (by kernel_rfl) h (cr_same c0 (cr_cons c1 cr_nil))
theorem ftEnd_w1 {i : Ins} {t : St} {u : V6 Bool} {e : Int} {w : World} {β : Bs} {n : Nat} (h : (!Ins.op i == 10 && (Ins.op i == 11 && (decide (0 ≤ Ins.d i) && decide (Ins.d i < 6) && (Nat.ble (7 + Int.toNat (Ins.d i) * 4 + 4) (List.length (St.cs t)) && true)))) = true) (c0 : Eff.mk (AV.ag (List.take 4 (List.drop (7 + Int.toNat (Ins.d i) * 4) (St.cs t)))) [] none = Eff.mk (AV.ag (V4.cs (V6.get (St.r t) (Int.toNat (Ins.d i))))) [] none) (c1 : CallOK Tryz.prog (CallRec.mk 66 [AV.ag (Ins.cs i), AV.ag (V4.cs (V6.get (St.r t) (Int.toNat (Ins.d i))))] [] (Eff.mk (AV.c (AC.i e)) [] none))) :
    ART Tryz.prog 27 (cx w β n []) Tryz.f27.ntmps (cutAt Tryz.f27 0) (Kn.mk [(2, AV.c (AC.w 0)), (3, AV.c (AC.w 1)), (8, AV.ag (bcs u)), (9, AV.c (AC.i 6))] [(0, Ent.mk true (Ins.cs i) 0), (1, Ent.mk true (St.cs t) 0)] 2) (REff w β ⟨AV.c (AC.i e), [], none⟩) :=
  run_eff [] (none) 2000 [Eff.mk (AV.ag (V4.cs (V6.get (St.r t) (Int.toNat (Ins.d i))))) [] none, Eff.mk (AV.c (AC.i e)) [] none] [false, false, true] ([true]) [(9, 5), (11, 5)] Tryz.func27 (ekeys0 rfl n) (by kernel_rfl) h (cr_same c0 (cr_cons c1 cr_nil))
theorem ftEnd_w2 {i : Ins} {t : St} {u : V6 Bool} {w : World} {β : Bs} {n : Nat} (h : (!Ins.op i == 10 && (!Ins.op i == 11 && true)) = true) :
    ART Tryz.prog 27 (cx w β n []) Tryz.f27.ntmps (cutAt Tryz.f27 0) (Kn.mk [(2, AV.c (AC.w 0)), (3, AV.c (AC.w 1)), (8, AV.ag (bcs u)), (9, AV.c (AC.i 6))] [(0, Ent.mk true (Ins.cs i) 0), (1, Ent.mk true (St.cs t) 0)] 2) (REff w β ⟨AV.c (AC.i 0), [], none⟩) :=
  run_eff [] (none) 2000 [] [false, false, false] ([true]) [(9, 5), (11, 5)] Tryz.func27 (ekeys0 rfl n) (by kernel_rfl) h cr_nil
theorem ftEnd_all {i : Ins} {t : St} {u : V6 Bool} {e : Int} {w : World} {β : Bs} {n : Nat} {E : Eff}
    (l0 : (Ins.op i == 10) = true → (decide (0 ≤ Ins.s i) && decide (Ins.s i < 6)) = true ∧ (Nat.ble (7 + Int.toNat (Ins.s i) * 4 + 4) (List.length (St.cs t))) = true ∧ (Eff.mk (AV.ag (List.take 4 (List.drop (7 + Int.toNat (Ins.s i) * 4) (St.cs t)))) [] none = Eff.mk (AV.ag (V4.cs (V6.get (St.r t) (Int.toNat (Ins.s i))))) [] none) ∧ (CallOK Tryz.prog (CallRec.mk 66 [AV.ag (Ins.cs i), AV.ag (V4.cs (V6.get (St.r t) (Int.toNat (Ins.s i))))] [] (Eff.mk (AV.c (AC.i e)) [] none))) ∧ ((⟨AV.c (AC.i e), [], none⟩ : Eff) = E))
    (l1 : (Ins.op i == 10) = false → (Ins.op i == 11) = true → (decide (0 ≤ Ins.d i) && decide (Ins.d i < 6)) = true ∧ (Nat.ble (7 + Int.toNat (Ins.d i) * 4 + 4) (List.length (St.cs t))) = true ∧ (Eff.mk (AV.ag (List.take 4 (List.drop (7 + Int.toNat (Ins.d i) * 4) (St.cs t)))) [] none = Eff.mk (AV.ag (V4.cs (V6.get (St.r t) (Int.toNat (Ins.d i))))) [] none) ∧ (CallOK Tryz.prog (CallRec.mk 66 [AV.ag (Ins.cs i), AV.ag (V4.cs (V6.get (St.r t) (Int.toNat (Ins.d i))))] [] (Eff.mk (AV.c (AC.i e)) [] none))) ∧ ((⟨AV.c (AC.i e), [], none⟩ : Eff) = E))
    (l2 : (Ins.op i == 10) = false → (Ins.op i == 11) = false → ((⟨AV.c (AC.i 0), [], none⟩ : Eff) = E)) :
    ART Tryz.prog 27 (cx w β n []) Tryz.f27.ntmps (cutAt Tryz.f27 0) (Kn.mk [(2, AV.c (AC.w 0)), (3, AV.c (AC.w 1)), (8, AV.ag (bcs u)), (9, AV.c (AC.i 6))] [(0, Ent.mk true (Ins.cs i) 0), (1, Ent.mk true (St.cs t) 0)] 2) (REff w β E) :=
  (tf (Ins.op i == 10)).elim (fun h0 => (match l0 h0 with | ⟨o0, o1, c0, c1, e⟩ => art_eq (ftEnd_w0 (and_yes h0 (and_yes o0 (and_yes o1 rfl))) c0 c1) e)) (fun h0 => (tf (Ins.op i == 11)).elim (fun h1 => (match l1 h0 h1 with | ⟨o0, o1, c0, c1, e⟩ => art_eq (ftEnd_w1 (and_yes (not_yes h0) (and_yes h1 (and_yes o0 (and_yes o1 rfl)))) c0 c1) e)) (fun h1 => (match l2 h0 h1 with | e => art_eq (ftEnd_w2 (and_yes (not_yes h0) (and_yes (not_yes h1) rfl))) e)))
theorem fgoL_w0 {i : Ins} {t : St} {t1 : St} {a : V4} (h : (Ins.op i == 10 && true) = true) (c0 : Eff.mk (AV.c (AC.i (IntKind.wrap IntKind.i64 (nv (Ins.im i))))) [] none = Eff.mk (AV.c (AC.i (nv (Ins.im i)))) [] none) (c1 : CallOK Tryz.prog (CallRec.mk 67 [AV.c (AC.i (nv (Ins.im i)))] [] (Eff.mk (AV.tu [AT.ag (V4.cs a), AT.c (AC.i 0)]) [] none))) (c2 : CallOK Tryz.prog (CallRec.mk 68 [AV.ag (St.cs t), AV.c (AC.i (Ins.d i)), AV.ag (V4.cs a)] [] (Eff.mk (AV.ag (St.cs t1)) [] none))) :
    CallOK Tryz.prog ⟨28, [AV.ag (Ins.cs i), AV.ag (St.cs t)], [], ⟨AV.tu [AT.ag (St.cs t1), AT.ag (St.cs St.z)], [], none⟩⟩ :=
  val_run 2000 [Eff.mk (AV.c (AC.i (nv (Ins.im i)))) [] none, Eff.mk (AV.tu [AT.ag (V4.cs a), AT.c (AC.i 0)]) [] none, Eff.mk (AV.ag (St.cs t1)) [] none] [true] ([]) [(3, 2), (17, 6)] Tryz.func28 rfl rfl rfl rfl (by kernel_rfl) h (cr_same c0 (cr_cons c1 (cr_cons c2 cr_nil)))
theorem fgoS_w0 {i : Ins} {t : St} (h : (!Ins.op i == 10 && (Ins.op i == 11 && true)) = true) :
    CallOK Tryz.prog ⟨28, [AV.ag (Ins.cs i), AV.ag (St.cs t)], [], ⟨AV.tu [AT.ag (St.cs t), AT.ag (St.cs St.z)], [], none⟩⟩ :=
  val_run 2000 [] [false, true] ([]) [(3, 2), (17, 6)] Tryz.func28 rfl rfl rfl rfl (by kernel_rfl) h cr_nil
theorem fgoJ_w0 {i : Ins} {t : St} (h : (!Ins.op i == 10 && (!Ins.op i == 11 && (Ins.op i == 12 && true))) = true) :
    CallOK Tryz.prog ⟨28, [AV.ag (Ins.cs i), AV.ag (St.cs t)], [], ⟨AV.tu [AT.ag (St.cs St.z), AT.ag (St.cs t)], [], none⟩⟩ :=
  val_run 2000 [] [false, false, true] ([]) [(3, 2), (17, 6)] Tryz.func28 rfl rfl rfl rfl (by kernel_rfl) h cr_nil
theorem fgoEq_w0 {i : Ins} {t : St} {t1 : St} {t2 : St} (h : (!Ins.op i == 10 && (!Ins.op i == 11 && (!Ins.op i == 12 && (Ins.op i == 13 && true)))) = true) (c0 : CallOK Tryz.prog (CallRec.mk 69 [AV.ag (Ins.cs i), AV.ag (St.cs t), AV.c (AC.f 70 [])] [] (Eff.mk (AV.ag (St.cs t1)) [] none))) (c1 : CallOK Tryz.prog (CallRec.mk 69 [AV.ag (Ins.cs i), AV.ag (St.cs t), AV.c (AC.f 71 [])] [] (Eff.mk (AV.ag (St.cs t2)) [] none))) :
    CallOK Tryz.prog ⟨28, [AV.ag (Ins.cs i), AV.ag (St.cs t)], [], ⟨AV.tu [AT.ag (St.cs t1), AT.ag (St.cs t2)], [], none⟩⟩ :=
  val_run 2000 [Eff.mk (AV.ag (St.cs t1)) [] none, Eff.mk (AV.ag (St.cs t2)) [] none] [false, false, false, true] ([]) [(3, 2), (17, 6)] Tryz.func28 rfl rfl rfl rfl (by kernel_rfl) h (cr_cons c0 (cr_cons c1 cr_nil))
theorem fgoLt_w0 {i : Ins} {t : St} {t1 : St} {t2 : St} (h : (!Ins.op i == 10 && (!Ins.op i == 11 && (!Ins.op i == 12 && (!Ins.op i == 13 && (Ins.op i == 14 && true))))) = true) (c0 : CallOK Tryz.prog (CallRec.mk 69 [AV.ag (Ins.cs i), AV.ag (St.cs t), AV.c (AC.f 72 [])] [] (Eff.mk (AV.ag (St.cs t1)) [] none))) (c1 : CallOK Tryz.prog (CallRec.mk 69 [AV.ag (Ins.cs i), AV.ag (St.cs t), AV.c (AC.f 73 [])] [] (Eff.mk (AV.ag (St.cs t2)) [] none))) :
    CallOK Tryz.prog ⟨28, [AV.ag (Ins.cs i), AV.ag (St.cs t)], [], ⟨AV.tu [AT.ag (St.cs t1), AT.ag (St.cs t2)], [], none⟩⟩ :=
  val_run 2000 [Eff.mk (AV.ag (St.cs t1)) [] none, Eff.mk (AV.ag (St.cs t2)) [] none] [false, false, false, false, true] ([]) [(3, 2), (17, 6)] Tryz.func28 rfl rfl rfl rfl (by kernel_rfl) h (cr_cons c0 (cr_cons c1 cr_nil))
theorem fgoX_w0 {i : Ins} {t : St} (h : (!Ins.op i == 10 && (!Ins.op i == 11 && (!Ins.op i == 12 && (!Ins.op i == 13 && (!Ins.op i == 14 && (Ins.op i == 15 && true)))))) = true) :
    CallOK Tryz.prog ⟨28, [AV.ag (Ins.cs i), AV.ag (St.cs t)], [], ⟨AV.tu [AT.ag (St.cs St.z), AT.ag (St.cs St.z)], [], none⟩⟩ :=
  val_run 2000 [] [false, false, false, false, false, true] ([]) [(3, 2), (17, 6)] Tryz.func28 rfl rfl rfl rfl (by kernel_rfl) h cr_nil
theorem fgoM_w0 {i : Ins} {t : St} {t1 : St} {a : V4} (h : (!Ins.op i == 10 && (!Ins.op i == 11 && (!Ins.op i == 12 && (!Ins.op i == 13 && (!Ins.op i == 14 && (!Ins.op i == 15 && (Ins.op i == 1 && true))))))) = true) (c0 : CallOK Tryz.prog (CallRec.mk 74 [AV.ag (Ins.cs i), AV.ag (St.cs t)] [] (Eff.mk (AV.ag (V4.cs a)) [] none))) (c1 : CallOK Tryz.prog (CallRec.mk 68 [AV.ag (St.cs t), AV.c (AC.i (Ins.d i)), AV.ag (V4.cs a)] [] (Eff.mk (AV.ag (St.cs t1)) [] none))) :
    CallOK Tryz.prog ⟨28, [AV.ag (Ins.cs i), AV.ag (St.cs t)], [], ⟨AV.tu [AT.ag (St.cs t1), AT.ag (St.cs St.z)], [], none⟩⟩ :=
  val_run 2000 [Eff.mk (AV.ag (V4.cs a)) [] none, Eff.mk (AV.ag (St.cs t1)) [] none] [false, false, false, false, false, false, true] ([]) [(3, 2), (17, 6)] Tryz.func28 rfl rfl rfl rfl (by kernel_rfl) h (cr_cons c0 (cr_cons c1 cr_nil))
theorem fgoT_w0 {i : Ins} {t : St} {t1 : St} {b : V4} {c : V4} (h : (!Ins.op i == 10 && (!Ins.op i == 11 && (!Ins.op i == 12 && (!Ins.op i == 13 && (!Ins.op i == 14 && (!Ins.op i == 15 && (!Ins.op i == 1 && (decide (0 ≤ Ins.d i) && decide (Ins.d i < 6) && (Nat.ble (7 + Int.toNat (Ins.d i) * 4 + 4) (List.length (St.cs t)) && true))))))))) = true) (c0 : Eff.mk (AV.ag (List.take 4 (List.drop (7 + Int.toNat (Ins.d i) * 4) (St.cs t)))) [] none = Eff.mk (AV.ag (V4.cs (V6.get (St.r t) (Int.toNat (Ins.d i))))) [] none) (c1 : CallOK Tryz.prog (CallRec.mk 74 [AV.ag (Ins.cs i), AV.ag (St.cs t)] [] (Eff.mk (AV.ag (V4.cs b)) [] none))) (c2 : CallOK Tryz.prog (CallRec.mk 75 [AV.c (AC.i (Ins.op i)), AV.ag (V4.cs (V6.get (St.r t) (Int.toNat (Ins.d i)))), AV.ag (V4.cs b)] [] (Eff.mk (AV.tu [AT.ag (V4.cs c), AT.c (AC.i 0)]) [] none))) (c3 : CallOK Tryz.prog (CallRec.mk 68 [AV.ag (St.cs t), AV.c (AC.i (Ins.d i)), AV.ag (V4.cs c)] [] (Eff.mk (AV.ag (St.cs t1)) [] none))) :
    CallOK Tryz.prog ⟨28, [AV.ag (Ins.cs i), AV.ag (St.cs t)], [], ⟨AV.tu [AT.ag (St.cs t1), AT.ag (St.cs St.z)], [], none⟩⟩ :=
  val_run 2000 [Eff.mk (AV.ag (V4.cs (V6.get (St.r t) (Int.toNat (Ins.d i))))) [] none, Eff.mk (AV.ag (V4.cs b)) [] none, Eff.mk (AV.tu [AT.ag (V4.cs c), AT.c (AC.i 0)]) [] none, Eff.mk (AV.ag (St.cs t1)) [] none] [false, false, false, false, false, false, false] ([]) [(3, 2), (17, 6)] Tryz.func28 rfl rfl rfl rfl (by kernel_rfl) h (cr_same c0 (cr_cons c1 (cr_cons c2 (cr_cons c3 cr_nil))))
theorem fstep_w0 {i : Ins} {t : St} {fi : Bool} (h : (!fi && true) = true) (c0 : CallOK Tryz.prog (CallRec.mk 25 [AV.ag (Ins.cs i)] [] (Eff.mk (AV.c (AC.b fi)) [] none))) :
    CallOK Tryz.prog ⟨7, [AV.ag (Ins.cs i), AV.ag (St.cs t)], [], ⟨AV.tu [AT.ag (St.cs St.z), AT.ag (St.cs St.z), AT.c (AC.i 0), AT.c (AC.i 1)], [], none⟩⟩ :=
  val_run 2000 [Eff.mk (AV.c (AC.b fi)) [] none] [true, true] ([]) [] Tryz.func7 rfl rfl rfl rfl (by kernel_rfl) h (cr_cons c0 cr_nil)
theorem fstep_w1 {i : Ins} {t : St} {fi : Bool} {ce : Int} (h : (!!fi && (ce != 0 && true)) = true) (c0 : CallOK Tryz.prog (CallRec.mk 25 [AV.ag (Ins.cs i)] [] (Eff.mk (AV.c (AC.b fi)) [] none))) (c1 : CallOK Tryz.prog (CallRec.mk 26 [AV.ag (St.cs t)] [] (Eff.mk (AV.c (AC.i ce)) [] none))) :
    CallOK Tryz.prog ⟨7, [AV.ag (Ins.cs i), AV.ag (St.cs t)], [], ⟨AV.tu [AT.ag (St.cs St.z), AT.ag (St.cs St.z), AT.c (AC.i 0), AT.c (AC.i 1)], [], none⟩⟩ :=
  val_run 2000 [Eff.mk (AV.c (AC.b fi)) [] none, Eff.mk (AV.c (AC.i ce)) [] none] [false, true] ([]) [] Tryz.func7 rfl rfl rfl rfl (by kernel_rfl) h (cr_cons c0 (cr_cons c1 cr_nil))
theorem fstep_w2 {i : Ins} {t : St} {fi : Bool} {ce : Int} (h : (!!fi && (!ce != 0 && (!St.live t && true))) = true) (c0 : CallOK Tryz.prog (CallRec.mk 25 [AV.ag (Ins.cs i)] [] (Eff.mk (AV.c (AC.b fi)) [] none))) (c1 : CallOK Tryz.prog (CallRec.mk 26 [AV.ag (St.cs t)] [] (Eff.mk (AV.c (AC.i ce)) [] none))) :
    CallOK Tryz.prog ⟨7, [AV.ag (Ins.cs i), AV.ag (St.cs t)], [], ⟨AV.tu [AT.ag (St.cs St.z), AT.ag (St.cs St.z), AT.c (AC.i 0), AT.c (AC.i 0)], [], none⟩⟩ :=
  val_run 2000 [Eff.mk (AV.c (AC.b fi)) [] none, Eff.mk (AV.c (AC.i ce)) [] none] [false, false, true] ([]) [] Tryz.func7 rfl rfl rfl rfl (by kernel_rfl) h (cr_cons c0 (cr_cons c1 cr_nil))
theorem fstep_w3 {i : Ins} {t : St} {fi : Bool} {ce : Int} {tr : Int} (h : (!!fi && (!ce != 0 && (!!St.live t && (tr != 0 && true)))) = true) (c0 : CallOK Tryz.prog (CallRec.mk 25 [AV.ag (Ins.cs i)] [] (Eff.mk (AV.c (AC.b fi)) [] none))) (c1 : CallOK Tryz.prog (CallRec.mk 26 [AV.ag (St.cs t)] [] (Eff.mk (AV.c (AC.i ce)) [] none))) (c2 : CallOK Tryz.prog (CallRec.mk 27 [AV.ag (Ins.cs i), AV.ag (St.cs t)] [] (Eff.mk (AV.c (AC.i tr)) [] none))) :
    CallOK Tryz.prog ⟨7, [AV.ag (Ins.cs i), AV.ag (St.cs t)], [], ⟨AV.tu [AT.ag (St.cs St.z), AT.ag (St.cs St.z), AT.c (AC.i tr), AT.c (AC.i 0)], [], none⟩⟩ :=
  val_run 2000 [Eff.mk (AV.c (AC.b fi)) [] none, Eff.mk (AV.c (AC.i ce)) [] none, Eff.mk (AV.c (AC.i tr)) [] none] [false, false, false, true] ([]) [] Tryz.func7 rfl rfl rfl rfl (by kernel_rfl) h (cr_cons c0 (cr_cons c1 (cr_cons c2 cr_nil)))
theorem fstep_w4 {i : Ins} {t : St} {t1 : St} {t2 : St} {fi : Bool} {ce : Int} {tr : Int} (h : (!!fi && (!ce != 0 && (!!St.live t && (!tr != 0 && true)))) = true) (c0 : CallOK Tryz.prog (CallRec.mk 25 [AV.ag (Ins.cs i)] [] (Eff.mk (AV.c (AC.b fi)) [] none))) (c1 : CallOK Tryz.prog (CallRec.mk 26 [AV.ag (St.cs t)] [] (Eff.mk (AV.c (AC.i ce)) [] none))) (c2 : CallOK Tryz.prog (CallRec.mk 27 [AV.ag (Ins.cs i), AV.ag (St.cs t)] [] (Eff.mk (AV.c (AC.i tr)) [] none))) (c3 : CallOK Tryz.prog (CallRec.mk 28 [AV.ag (Ins.cs i), AV.ag (St.cs t)] [] (Eff.mk (AV.tu [AT.ag (St.cs t1), AT.ag (St.cs t2)]) [] none))) :
    CallOK Tryz.prog ⟨7, [AV.ag (Ins.cs i), AV.ag (St.cs t)], [], ⟨AV.tu [AT.ag (St.cs t1), AT.ag (St.cs t2), AT.c (AC.i 0), AT.c (AC.i 0)], [], none⟩⟩ :=
  val_run 2000 [Eff.mk (AV.c (AC.b fi)) [] none, Eff.mk (AV.c (AC.i ce)) [] none, Eff.mk (AV.c (AC.i tr)) [] none, Eff.mk (AV.tu [AT.ag (St.cs t1), AT.ag (St.cs t2)]) [] none] [false, false, false, false] ([]) [] Tryz.func7 rfl rfl rfl rfl (by kernel_rfl) h (cr_cons c0 (cr_cons c1 (cr_cons c2 (cr_cons c3 cr_nil))))
theorem fstep_all {i : Ins} {t : St} {t1 : St} {t2 : St} {fi : Bool} {ce : Int} {tr : Int} {V : AV}
    (l0 : (!fi) = true → (CallOK Tryz.prog (CallRec.mk 25 [AV.ag (Ins.cs i)] [] (Eff.mk (AV.c (AC.b fi)) [] none))) ∧ (AV.tu [AT.ag (St.cs St.z), AT.ag (St.cs St.z), AT.c (AC.i 0), AT.c (AC.i 1)] = V))
    (l1 : (!fi) = false → (ce != 0) = true → (CallOK Tryz.prog (CallRec.mk 25 [AV.ag (Ins.cs i)] [] (Eff.mk (AV.c (AC.b fi)) [] none))) ∧ (CallOK Tryz.prog (CallRec.mk 26 [AV.ag (St.cs t)] [] (Eff.mk (AV.c (AC.i ce)) [] none))) ∧ (AV.tu [AT.ag (St.cs St.z), AT.ag (St.cs St.z), AT.c (AC.i 0), AT.c (AC.i 1)] = V))
    (l2 : (!fi) = false → (ce != 0) = false → (!St.live t) = true → (CallOK Tryz.prog (CallRec.mk 25 [AV.ag (Ins.cs i)] [] (Eff.mk (AV.c (AC.b fi)) [] none))) ∧ (CallOK Tryz.prog (CallRec.mk 26 [AV.ag (St.cs t)] [] (Eff.mk (AV.c (AC.i ce)) [] none))) ∧ (AV.tu [AT.ag (St.cs St.z), AT.ag (St.cs St.z), AT.c (AC.i 0), AT.c (AC.i 0)] = V))
    (l3 : (!fi) = false → (ce != 0) = false → (!St.live t) = false → (tr != 0) = true → (CallOK Tryz.prog (CallRec.mk 25 [AV.ag (Ins.cs i)] [] (Eff.mk (AV.c (AC.b fi)) [] none))) ∧ (CallOK Tryz.prog (CallRec.mk 26 [AV.ag (St.cs t)] [] (Eff.mk (AV.c (AC.i ce)) [] none))) ∧ (CallOK Tryz.prog (CallRec.mk 27 [AV.ag (Ins.cs i), AV.ag (St.cs t)] [] (Eff.mk (AV.c (AC.i tr)) [] none))) ∧ (AV.tu [AT.ag (St.cs St.z), AT.ag (St.cs St.z), AT.c (AC.i tr), AT.c (AC.i 0)] = V))
    (l4 : (!fi) = false → (ce != 0) = false → (!St.live t) = false → (tr != 0) = false → (CallOK Tryz.prog (CallRec.mk 25 [AV.ag (Ins.cs i)] [] (Eff.mk (AV.c (AC.b fi)) [] none))) ∧ (CallOK Tryz.prog (CallRec.mk 26 [AV.ag (St.cs t)] [] (Eff.mk (AV.c (AC.i ce)) [] none))) ∧ (CallOK Tryz.prog (CallRec.mk 27 [AV.ag (Ins.cs i), AV.ag (St.cs t)] [] (Eff.mk (AV.c (AC.i tr)) [] none))) ∧ (CallOK Tryz.prog (CallRec.mk 28 [AV.ag (Ins.cs i), AV.ag (St.cs t)] [] (Eff.mk (AV.tu [AT.ag (St.cs t1), AT.ag (St.cs t2)]) [] none))) ∧ (AV.tu [AT.ag (St.cs t1), AT.ag (St.cs t2), AT.c (AC.i 0), AT.c (AC.i 0)] = V)) :
    CallOK Tryz.prog ⟨7, [AV.ag (Ins.cs i), AV.ag (St.cs t)], [], ⟨V, [], none⟩⟩ :=
  (tf (!fi)).elim (fun h0 => (match l0 h0 with | ⟨c0, e⟩ => ok_eq (fstep_w0 (and_yes h0 rfl) c0) e)) (fun h0 => (tf (ce != 0)).elim (fun h1 => (match l1 h0 h1 with | ⟨c0, c1, e⟩ => ok_eq (fstep_w1 (and_yes (not_yes h0) (and_yes h1 rfl)) c0 c1) e)) (fun h1 => (tf (!St.live t)).elim (fun h2 => (match l2 h0 h1 h2 with | ⟨c0, c1, e⟩ => ok_eq (fstep_w2 (and_yes (not_yes h0) (and_yes (not_yes h1) (and_yes h2 rfl))) c0 c1) e)) (fun h2 => (tf (tr != 0)).elim (fun h3 => (match l3 h0 h1 h2 h3 with | ⟨c0, c1, c2, e⟩ => ok_eq (fstep_w3 (and_yes (not_yes h0) (and_yes (not_yes h1) (and_yes (not_yes h2) (and_yes h3 rfl)))) c0 c1 c2) e)) (fun h3 => (match l4 h0 h1 h2 h3 with | ⟨c0, c1, c2, c3, e⟩ => ok_eq (fstep_w4 (and_yes (not_yes h0) (and_yes (not_yes h1) (and_yes (not_yes h2) (and_yes (not_yes h3) rfl)))) c0 c1 c2 c3) e)))))
end Go.Proofs.YtkigmocchaikgabGreat

/- Ways of bodies, written by a program (ways.py): what each asks for, and hands back. -/
namespace Go.Proofs.YtkigmocchaikgabGreat
open Go.RowKit

theorem refAlone_w0 {a : V4} :
    CallOK Tryz.prog ⟨59, [AV.ag (V4.cs a)], [], ⟨AV.c (AC.b (eqb (V4.l a) (V4.h a))), [], none⟩⟩ :=
  val_run 2000 [] [] ([]) [] Tryz.func59 rfl rfl rfl rfl (by kernel_rfl) rfl cr_nil
theorem refBoth_w0 {a : V4} {b : V4} {i1 : Bool} {i2 : Bool} (h : (!i1 && true) = true) :
    CallOK Tryz.prog ⟨84, [AV.ag (V4.cs a), AV.c (AC.b i1), AV.ag (V4.cs b), AV.c (AC.b i2)], [], ⟨AV.tu [AT.ag [AC.u 0#64, AC.u 0#64, AC.u 0#64, AC.u 0#64], AT.ag [AC.u 0#64, AC.u 0#64, AC.u 0#64, AC.u 0#64], AT.c (AC.b false)], [], none⟩⟩ :=
  val_run 2000 [] [true, true] ([]) [] Tryz.func84 rfl rfl rfl rfl (by kernel_rfl) h cr_nil
theorem refBoth_w1 {a : V4} {b : V4} {i1 : Bool} {i2 : Bool} (h : (!!i1 && (!i2 && true)) = true) :
    CallOK Tryz.prog ⟨84, [AV.ag (V4.cs a), AV.c (AC.b i1), AV.ag (V4.cs b), AV.c (AC.b i2)], [], ⟨AV.tu [AT.ag [AC.u 0#64, AC.u 0#64, AC.u 0#64, AC.u 0#64], AT.ag [AC.u 0#64, AC.u 0#64, AC.u 0#64, AC.u 0#64], AT.c (AC.b false)], [], none⟩⟩ :=
  val_run 2000 [] [false, true] ([]) [] Tryz.func84 rfl rfl rfl rfl (by kernel_rfl) h cr_nil
theorem refBoth_w2 {a : V4} {b : V4} {i1 : Bool} {i2 : Bool} (h : (!!i1 && (!!i2 && true)) = true) :
    CallOK Tryz.prog ⟨84, [AV.ag (V4.cs a), AV.c (AC.b i1), AV.ag (V4.cs b), AV.c (AC.b i2)], [], ⟨AV.tu [AT.ag (V4.cs a), AT.ag (V4.cs b), AT.c (AC.b true)], [], none⟩⟩ :=
  val_run 2000 [] [false, false] ([]) [] Tryz.func84 rfl rfl rfl rfl (by kernel_rfl) h cr_nil
theorem refRid_w0 {a : V4} {x : BitVec 64} {al : Bool} (h : (al && (eqb (V4.l a) x && true)) = true) (c0 : CallOK Tryz.prog (CallRec.mk 59 [AV.ag (V4.cs a)] [] (Eff.mk (AV.c (AC.b al)) [] none))) :
    CallOK Tryz.prog ⟨83, [AV.ag (V4.cs a), AV.c (AC.u x)], [], ⟨AV.tu [AT.ag [AC.u 0#64, AC.u 0#64, AC.u 0#64, AC.u 0#64], AT.c (AC.b false)], [], none⟩⟩ :=
  val_run 2000 [Eff.mk (AV.c (AC.b al)) [] none] [true, true] ([]) [] Tryz.func83 rfl rfl rfl rfl (by kernel_rfl) h (cr_cons c0 cr_nil)
theorem refRid_w1 {a : V4} {n : V4} {x : BitVec 64} {al : Bool} {i : Bool} (h : (al && (!eqb (V4.l a) x && (!eqb (V4.l a) x && (eqb (V4.h a) x && true)))) = true) (c0 : CallOK Tryz.prog (CallRec.mk 59 [AV.ag (V4.cs a)] [] (Eff.mk (AV.c (AC.b al)) [] none))) (c1 : CallOK Tryz.prog (CallRec.mk 78 [AV.ag [AC.u (V4.v a), AC.u (V4.m a), AC.u (V4.l a), AC.u (bsub (V4.h a) 1#64)]] [] (Eff.mk (AV.tu [AT.ag (V4.cs n), AT.c (AC.b i)]) [] none))) :
    CallOK Tryz.prog ⟨83, [AV.ag (V4.cs a), AV.c (AC.u x)], [], ⟨AV.tu [AT.ag (V4.cs n), AT.c (AC.b i)], [], none⟩⟩ :=
  val_run 2000 [Eff.mk (AV.c (AC.b al)) [] none, Eff.mk (AV.tu [AT.ag (V4.cs n), AT.c (AC.b i)]) [] none] [true, false, false, true] ([]) [] Tryz.func83 rfl rfl rfl rfl (by kernel_rfl) h (cr_cons c0 (cr_cons c1 cr_nil))
theorem refRid_w2 {a : V4} {n : V4} {x : BitVec 64} {al : Bool} {i : Bool} (h : (al && (!eqb (V4.l a) x && (!eqb (V4.l a) x && (!eqb (V4.h a) x && true)))) = true) (c0 : CallOK Tryz.prog (CallRec.mk 59 [AV.ag (V4.cs a)] [] (Eff.mk (AV.c (AC.b al)) [] none))) (c1 : CallOK Tryz.prog (CallRec.mk 78 [AV.ag (V4.cs a)] [] (Eff.mk (AV.tu [AT.ag (V4.cs n), AT.c (AC.b i)]) [] none))) :
    CallOK Tryz.prog ⟨83, [AV.ag (V4.cs a), AV.c (AC.u x)], [], ⟨AV.tu [AT.ag (V4.cs n), AT.c (AC.b i)], [], none⟩⟩ :=
  val_run 2000 [Eff.mk (AV.c (AC.b al)) [] none, Eff.mk (AV.tu [AT.ag (V4.cs n), AT.c (AC.b i)]) [] none] [true, false, false, false] ([]) [] Tryz.func83 rfl rfl rfl rfl (by kernel_rfl) h (cr_cons c0 (cr_cons c1 cr_nil))
theorem refRid_w3 {a : V4} {n : V4} {x : BitVec 64} {al : Bool} {i : Bool} (h : (!al && (eqb (V4.l a) x && true)) = true) (c0 : CallOK Tryz.prog (CallRec.mk 59 [AV.ag (V4.cs a)] [] (Eff.mk (AV.c (AC.b al)) [] none))) (c1 : CallOK Tryz.prog (CallRec.mk 78 [AV.ag [AC.u (V4.v a), AC.u (V4.m a), AC.u (badd (V4.l a) 1#64), AC.u (V4.h a)]] [] (Eff.mk (AV.tu [AT.ag (V4.cs n), AT.c (AC.b i)]) [] none))) :
    CallOK Tryz.prog ⟨83, [AV.ag (V4.cs a), AV.c (AC.u x)], [], ⟨AV.tu [AT.ag (V4.cs n), AT.c (AC.b i)], [], none⟩⟩ :=
  val_run 2000 [Eff.mk (AV.c (AC.b al)) [] none, Eff.mk (AV.tu [AT.ag (V4.cs n), AT.c (AC.b i)]) [] none] [false, false, true] ([]) [] Tryz.func83 rfl rfl rfl rfl (by kernel_rfl) h (cr_cons c0 (cr_cons c1 cr_nil))
theorem refRid_w4 {a : V4} {n : V4} {x : BitVec 64} {al : Bool} {i : Bool} (h : (!al && (!eqb (V4.l a) x && (eqb (V4.h a) x && true))) = true) (c0 : CallOK Tryz.prog (CallRec.mk 59 [AV.ag (V4.cs a)] [] (Eff.mk (AV.c (AC.b al)) [] none))) (c1 : CallOK Tryz.prog (CallRec.mk 78 [AV.ag [AC.u (V4.v a), AC.u (V4.m a), AC.u (V4.l a), AC.u (bsub (V4.h a) 1#64)]] [] (Eff.mk (AV.tu [AT.ag (V4.cs n), AT.c (AC.b i)]) [] none))) :
    CallOK Tryz.prog ⟨83, [AV.ag (V4.cs a), AV.c (AC.u x)], [], ⟨AV.tu [AT.ag (V4.cs n), AT.c (AC.b i)], [], none⟩⟩ :=
  val_run 2000 [Eff.mk (AV.c (AC.b al)) [] none, Eff.mk (AV.tu [AT.ag (V4.cs n), AT.c (AC.b i)]) [] none] [false, false, false, true] ([]) [] Tryz.func83 rfl rfl rfl rfl (by kernel_rfl) h (cr_cons c0 (cr_cons c1 cr_nil))
theorem refRid_w5 {a : V4} {n : V4} {x : BitVec 64} {al : Bool} {i : Bool} (h : (!al && (!eqb (V4.l a) x && (!eqb (V4.h a) x && true))) = true) (c0 : CallOK Tryz.prog (CallRec.mk 59 [AV.ag (V4.cs a)] [] (Eff.mk (AV.c (AC.b al)) [] none))) (c1 : CallOK Tryz.prog (CallRec.mk 78 [AV.ag (V4.cs a)] [] (Eff.mk (AV.tu [AT.ag (V4.cs n), AT.c (AC.b i)]) [] none))) :
    CallOK Tryz.prog ⟨83, [AV.ag (V4.cs a), AV.c (AC.u x)], [], ⟨AV.tu [AT.ag (V4.cs n), AT.c (AC.b i)], [], none⟩⟩ :=
  val_run 2000 [Eff.mk (AV.c (AC.b al)) [] none, Eff.mk (AV.tu [AT.ag (V4.cs n), AT.c (AC.b i)]) [] none] [false, false, false, false] ([]) [] Tryz.func83 rfl rfl rfl rfl (by kernel_rfl) h (cr_cons c0 (cr_cons c1 cr_nil))
theorem refEqual_w0 {a : V4} {b : V4} {kv : BitVec 64} {km : BitVec 64} {may : Bool} (h : (!may && true) = true) (c0 : CallOK Tryz.prog (CallRec.mk 85 [AV.ag [AC.u (V4.v a), AC.u (V4.m a)], AV.ag [AC.u (V4.v b), AC.u (V4.m b)]] [] (Eff.mk (AV.tu [AT.ag [AC.u kv, AC.u km], AT.c (AC.b may)]) [] none))) :
    CallOK Tryz.prog ⟨41, [AV.ag (V4.cs a), AV.ag (V4.cs b)], [], ⟨AV.tu [AT.ag [AC.u 0#64, AC.u 0#64, AC.u 0#64, AC.u 0#64], AT.ag [AC.u 0#64, AC.u 0#64, AC.u 0#64, AC.u 0#64], AT.c (AC.b false)], [], none⟩⟩ :=
  val_run 2000 [Eff.mk (AV.tu [AT.ag [AC.u kv, AC.u km], AT.c (AC.b may)]) [] none] [true] ([]) [] Tryz.func41 rfl rfl rfl rfl (by kernel_rfl) h (cr_cons c0 cr_nil)
theorem refEqual_w1 {a : V4} {b : V4} {n : V4} {p : V4} {q : V4} {kv : BitVec 64} {km : BitVec 64} {may : Bool} {i : Bool} {r : Bool} (h : (!!may && true) = true) (c0 : CallOK Tryz.prog (CallRec.mk 85 [AV.ag [AC.u (V4.v a), AC.u (V4.m a)], AV.ag [AC.u (V4.v b), AC.u (V4.m b)]] [] (Eff.mk (AV.tu [AT.ag [AC.u kv, AC.u km], AT.c (AC.b may)]) [] none))) (c1 : CallOK Tryz.prog (CallRec.mk 78 [AV.ag [AC.u kv, AC.u km, AC.u (bmax (V4.l a) (V4.l b)), AC.u (bmin (V4.h a) (V4.h b))]] [] (Eff.mk (AV.tu [AT.ag (V4.cs n), AT.c (AC.b i)]) [] none))) (c2 : CallOK Tryz.prog (CallRec.mk 84 [AV.ag (V4.cs n), AV.c (AC.b i), AV.ag (V4.cs n), AV.c (AC.b i)] [] (Eff.mk (AV.tu [AT.ag (V4.cs p), AT.ag (V4.cs q), AT.c (AC.b r)]) [] none))) :
    CallOK Tryz.prog ⟨41, [AV.ag (V4.cs a), AV.ag (V4.cs b)], [], ⟨AV.tu [AT.ag (V4.cs p), AT.ag (V4.cs q), AT.c (AC.b r)], [], none⟩⟩ :=
  val_run 2000 [Eff.mk (AV.tu [AT.ag [AC.u kv, AC.u km], AT.c (AC.b may)]) [] none, Eff.mk (AV.tu [AT.ag (V4.cs n), AT.c (AC.b i)]) [] none, Eff.mk (AV.tu [AT.ag (V4.cs p), AT.ag (V4.cs q), AT.c (AC.b r)]) [] none] [false] ([]) [] Tryz.func41 rfl rfl rfl rfl (by kernel_rfl) h (cr_cons c0 (cr_cons c1 (cr_cons c2 cr_nil)))
theorem refLess_w0 {a : V4} {b : V4} (h : (eqb (V4.h b) 0#64 && true) = true) :
    CallOK Tryz.prog ⟨44, [AV.ag (V4.cs a), AV.ag (V4.cs b)], [], ⟨AV.tu [AT.ag [AC.u 0#64, AC.u 0#64, AC.u 0#64, AC.u 0#64], AT.ag [AC.u 0#64, AC.u 0#64, AC.u 0#64, AC.u 0#64], AT.c (AC.b false)], [], none⟩⟩ :=
  val_run 2000 [] [true, true] ([]) [] Tryz.func44 rfl rfl rfl rfl (by kernel_rfl) h cr_nil
theorem refLess_w1 {a : V4} {b : V4} (h : (!eqb (V4.h b) 0#64 && (eqb (V4.l a) 18446744073709551615#64 && true)) = true) :
    CallOK Tryz.prog ⟨44, [AV.ag (V4.cs a), AV.ag (V4.cs b)], [], ⟨AV.tu [AT.ag [AC.u 0#64, AC.u 0#64, AC.u 0#64, AC.u 0#64], AT.ag [AC.u 0#64, AC.u 0#64, AC.u 0#64, AC.u 0#64], AT.c (AC.b false)], [], none⟩⟩ :=
  val_run 2000 [] [false, true] ([]) [] Tryz.func44 rfl rfl rfl rfl (by kernel_rfl) h cr_nil
theorem refLess_w2 {a : V4} {b : V4} {n : V4} {n2 : V4} {p : V4} {q : V4} {i : Bool} {i2 : Bool} {r : Bool} (h : (!eqb (V4.h b) 0#64 && (!eqb (V4.l a) 18446744073709551615#64 && true)) = true) (c0 : CallOK Tryz.prog (CallRec.mk 78 [AV.ag [AC.u (V4.v a), AC.u (V4.m a), AC.u (V4.l a), AC.u (bmin (V4.h a) (bsub (V4.h b) 1#64))]] [] (Eff.mk (AV.tu [AT.ag (V4.cs n), AT.c (AC.b i)]) [] none))) (c1 : CallOK Tryz.prog (CallRec.mk 78 [AV.ag [AC.u (V4.v b), AC.u (V4.m b), AC.u (bmax (V4.l b) (badd (V4.l a) 1#64)), AC.u (V4.h b)]] [] (Eff.mk (AV.tu [AT.ag (V4.cs n2), AT.c (AC.b i2)]) [] none))) (c2 : CallOK Tryz.prog (CallRec.mk 84 [AV.ag (V4.cs n), AV.c (AC.b i), AV.ag (V4.cs n2), AV.c (AC.b i2)] [] (Eff.mk (AV.tu [AT.ag (V4.cs p), AT.ag (V4.cs q), AT.c (AC.b r)]) [] none))) :
    CallOK Tryz.prog ⟨44, [AV.ag (V4.cs a), AV.ag (V4.cs b)], [], ⟨AV.tu [AT.ag (V4.cs p), AT.ag (V4.cs q), AT.c (AC.b r)], [], none⟩⟩ :=
  val_run 2000 [Eff.mk (AV.tu [AT.ag (V4.cs n), AT.c (AC.b i)]) [] none, Eff.mk (AV.tu [AT.ag (V4.cs n2), AT.c (AC.b i2)]) [] none, Eff.mk (AV.tu [AT.ag (V4.cs p), AT.ag (V4.cs q), AT.c (AC.b r)]) [] none] [false, false] ([]) [] Tryz.func44 rfl rfl rfl rfl (by kernel_rfl) h (cr_cons c0 (cr_cons c1 (cr_cons c2 cr_nil)))
theorem refNotLess_w0 {a : V4} {b : V4} {n : V4} {n2 : V4} {p : V4} {q : V4} {i : Bool} {i2 : Bool} {r : Bool} (c0 : CallOK Tryz.prog (CallRec.mk 78 [AV.ag [AC.u (V4.v a), AC.u (V4.m a), AC.u (bmax (V4.l a) (V4.l b)), AC.u (V4.h a)]] [] (Eff.mk (AV.tu [AT.ag (V4.cs n), AT.c (AC.b i)]) [] none))) (c1 : CallOK Tryz.prog (CallRec.mk 78 [AV.ag [AC.u (V4.v b), AC.u (V4.m b), AC.u (V4.l b), AC.u (bmin (V4.h b) (V4.h a))]] [] (Eff.mk (AV.tu [AT.ag (V4.cs n2), AT.c (AC.b i2)]) [] none))) (c2 : CallOK Tryz.prog (CallRec.mk 84 [AV.ag (V4.cs n), AV.c (AC.b i), AV.ag (V4.cs n2), AV.c (AC.b i2)] [] (Eff.mk (AV.tu [AT.ag (V4.cs p), AT.ag (V4.cs q), AT.c (AC.b r)]) [] none))) :
    CallOK Tryz.prog ⟨43, [AV.ag (V4.cs a), AV.ag (V4.cs b)], [], ⟨AV.tu [AT.ag (V4.cs p), AT.ag (V4.cs q), AT.c (AC.b r)], [], none⟩⟩ :=
  val_run 2000 [Eff.mk (AV.tu [AT.ag (V4.cs n), AT.c (AC.b i)]) [] none, Eff.mk (AV.tu [AT.ag (V4.cs n2), AT.c (AC.b i2)]) [] none, Eff.mk (AV.tu [AT.ag (V4.cs p), AT.ag (V4.cs q), AT.c (AC.b r)]) [] none] [] ([]) [] Tryz.func43 rfl rfl rfl rfl (by kernel_rfl) rfl (cr_cons c0 (cr_cons c1 (cr_cons c2 cr_nil)))
theorem refOther_w0 {a : V4} {b : V4} {n : V4} {n2 : V4} {p : V4} {q : V4} {al : Bool} {bl : Bool} {i : Bool} {i2 : Bool} {r : Bool} (h : (bl && (al && true)) = true) (c0 : CallOK Tryz.prog (CallRec.mk 59 [AV.ag (V4.cs b)] [] (Eff.mk (AV.c (AC.b bl)) [] none))) (c1 : CallOK Tryz.prog (CallRec.mk 83 [AV.ag (V4.cs a), AV.c (AC.u (V4.l b))] [] (Eff.mk (AV.tu [AT.ag (V4.cs n), AT.c (AC.b i)]) [] none))) (c2 : CallOK Tryz.prog (CallRec.mk 59 [AV.ag (V4.cs a)] [] (Eff.mk (AV.c (AC.b al)) [] none))) (c3 : CallOK Tryz.prog (CallRec.mk 83 [AV.ag (V4.cs b), AV.c (AC.u (V4.l a))] [] (Eff.mk (AV.tu [AT.ag (V4.cs n2), AT.c (AC.b i2)]) [] none))) (c4 : CallOK Tryz.prog (CallRec.mk 84 [AV.ag (V4.cs n), AV.c (AC.b i), AV.ag (V4.cs n2), AV.c (AC.b i2)] [] (Eff.mk (AV.tu [AT.ag (V4.cs p), AT.ag (V4.cs q), AT.c (AC.b r)]) [] none))) :
    CallOK Tryz.prog ⟨40, [AV.ag (V4.cs a), AV.ag (V4.cs b)], [], ⟨AV.tu [AT.ag (V4.cs p), AT.ag (V4.cs q), AT.c (AC.b r)], [], none⟩⟩ :=
  val_run 2000 [Eff.mk (AV.c (AC.b bl)) [] none, Eff.mk (AV.tu [AT.ag (V4.cs n), AT.c (AC.b i)]) [] none, Eff.mk (AV.c (AC.b al)) [] none, Eff.mk (AV.tu [AT.ag (V4.cs n2), AT.c (AC.b i2)]) [] none, Eff.mk (AV.tu [AT.ag (V4.cs p), AT.ag (V4.cs q), AT.c (AC.b r)]) [] none] [true, true] ([]) [] Tryz.func40 rfl rfl rfl rfl (by kernel_rfl) h (cr_cons c0 (cr_cons c1 (cr_cons c2 (cr_cons c3 (cr_cons c4 cr_nil)))))
theorem refOtherB_w0 {a : V4} {b : V4} {n : V4} {p : V4} {q : V4} {al : Bool} {bl : Bool} {i : Bool} {r : Bool} (h : (bl && (!al && true)) = true) (c0 : CallOK Tryz.prog (CallRec.mk 59 [AV.ag (V4.cs b)] [] (Eff.mk (AV.c (AC.b bl)) [] none))) (c1 : CallOK Tryz.prog (CallRec.mk 83 [AV.ag (V4.cs a), AV.c (AC.u (V4.l b))] [] (Eff.mk (AV.tu [AT.ag (V4.cs n), AT.c (AC.b i)]) [] none))) (c2 : CallOK Tryz.prog (CallRec.mk 59 [AV.ag (V4.cs a)] [] (Eff.mk (AV.c (AC.b al)) [] none))) (c3 : CallOK Tryz.prog (CallRec.mk 84 [AV.ag (V4.cs n), AV.c (AC.b i), AV.ag (V4.cs b), AV.c (AC.b true)] [] (Eff.mk (AV.tu [AT.ag (V4.cs p), AT.ag (V4.cs q), AT.c (AC.b r)]) [] none))) :
    CallOK Tryz.prog ⟨40, [AV.ag (V4.cs a), AV.ag (V4.cs b)], [], ⟨AV.tu [AT.ag (V4.cs p), AT.ag (V4.cs q), AT.c (AC.b r)], [], none⟩⟩ :=
  val_run 2000 [Eff.mk (AV.c (AC.b bl)) [] none, Eff.mk (AV.tu [AT.ag (V4.cs n), AT.c (AC.b i)]) [] none, Eff.mk (AV.c (AC.b al)) [] none, Eff.mk (AV.tu [AT.ag (V4.cs p), AT.ag (V4.cs q), AT.c (AC.b r)]) [] none] [true, false] ([]) [] Tryz.func40 rfl rfl rfl rfl (by kernel_rfl) h (cr_cons c0 (cr_cons c1 (cr_cons c2 (cr_cons c3 cr_nil))))
theorem refOtherA_w0 {a : V4} {b : V4} {n2 : V4} {p : V4} {q : V4} {al : Bool} {bl : Bool} {i2 : Bool} {r : Bool} (h : (!bl && (al && true)) = true) (c0 : CallOK Tryz.prog (CallRec.mk 59 [AV.ag (V4.cs b)] [] (Eff.mk (AV.c (AC.b bl)) [] none))) (c1 : CallOK Tryz.prog (CallRec.mk 59 [AV.ag (V4.cs a)] [] (Eff.mk (AV.c (AC.b al)) [] none))) (c2 : CallOK Tryz.prog (CallRec.mk 83 [AV.ag (V4.cs b), AV.c (AC.u (V4.l a))] [] (Eff.mk (AV.tu [AT.ag (V4.cs n2), AT.c (AC.b i2)]) [] none))) (c3 : CallOK Tryz.prog (CallRec.mk 84 [AV.ag (V4.cs a), AV.c (AC.b true), AV.ag (V4.cs n2), AV.c (AC.b i2)] [] (Eff.mk (AV.tu [AT.ag (V4.cs p), AT.ag (V4.cs q), AT.c (AC.b r)]) [] none))) :
    CallOK Tryz.prog ⟨40, [AV.ag (V4.cs a), AV.ag (V4.cs b)], [], ⟨AV.tu [AT.ag (V4.cs p), AT.ag (V4.cs q), AT.c (AC.b r)], [], none⟩⟩ :=
  val_run 2000 [Eff.mk (AV.c (AC.b bl)) [] none, Eff.mk (AV.c (AC.b al)) [] none, Eff.mk (AV.tu [AT.ag (V4.cs n2), AT.c (AC.b i2)]) [] none, Eff.mk (AV.tu [AT.ag (V4.cs p), AT.ag (V4.cs q), AT.c (AC.b r)]) [] none] [false, true] ([]) [] Tryz.func40 rfl rfl rfl rfl (by kernel_rfl) h (cr_cons c0 (cr_cons c1 (cr_cons c2 (cr_cons c3 cr_nil))))
theorem refOtherN_w0 {a : V4} {b : V4} {p : V4} {q : V4} {al : Bool} {bl : Bool} {r : Bool} (h : (!bl && (!al && true)) = true) (c0 : CallOK Tryz.prog (CallRec.mk 59 [AV.ag (V4.cs b)] [] (Eff.mk (AV.c (AC.b bl)) [] none))) (c1 : CallOK Tryz.prog (CallRec.mk 59 [AV.ag (V4.cs a)] [] (Eff.mk (AV.c (AC.b al)) [] none))) (c2 : CallOK Tryz.prog (CallRec.mk 84 [AV.ag (V4.cs a), AV.c (AC.b true), AV.ag (V4.cs b), AV.c (AC.b true)] [] (Eff.mk (AV.tu [AT.ag (V4.cs p), AT.ag (V4.cs q), AT.c (AC.b r)]) [] none))) :
    CallOK Tryz.prog ⟨40, [AV.ag (V4.cs a), AV.ag (V4.cs b)], [], ⟨AV.tu [AT.ag (V4.cs p), AT.ag (V4.cs q), AT.c (AC.b r)], [], none⟩⟩ :=
  val_run 2000 [Eff.mk (AV.c (AC.b bl)) [] none, Eff.mk (AV.c (AC.b al)) [] none, Eff.mk (AV.tu [AT.ag (V4.cs p), AT.ag (V4.cs q), AT.c (AC.b r)]) [] none] [false, false] ([]) [] Tryz.func40 rfl rfl rfl rfl (by kernel_rfl) h (cr_cons c0 (cr_cons c1 (cr_cons c2 cr_nil)))
theorem refBytes_w0 {n : Int} {p : V4} (h : (n == 8 && true) = true) (c0 : CallOK Tryz.prog (CallRec.mk 86 [] [] (Eff.mk (AV.ag (V4.cs p)) [] none))) :
    CallOK Tryz.prog ⟨46, [AV.c (AC.i n)], [], ⟨AV.ag (V4.cs p), [], none⟩⟩ :=
  val_run 2000 [Eff.mk (AV.ag (V4.cs p)) [] none] [true] ([]) [] Tryz.func46 rfl rfl rfl rfl (by kernel_rfl) h (cr_cons c0 cr_nil)
theorem refBytes_w1 {n : Int} (h : (!n == 8 && (decide (0 ≤ IntKind.wrap IntKind.i64 (8 * n)) && decide (IntKind.wrap IntKind.i64 (8 * n) ≤ 64) && true)) = true) :
    CallOK Tryz.prog ⟨46, [AV.c (AC.i n)], [], ⟨AV.ag [AC.u 0#64, AC.u (bsub (bshl (1#64) (Int.toNat (IntKind.wrap IntKind.i64 (8 * n)))) 1#64), AC.u 0#64, AC.u (bsub (bshl (1#64) (Int.toNat (IntKind.wrap IntKind.i64 (8 * n)))) 1#64)], [], none⟩⟩ :=
  val_run 2000 [] [false] ([]) [] Tryz.func46 rfl rfl rfl rfl (by kernel_rfl) h cr_nil
theorem calcBytes_w0 {n : Int} (h : (n == 1 && (n == 1 && (decide (nv (BitVec.ofInt 64 (IntKind.wrap IntKind.i64 (64 - IntKind.wrap IntKind.i64 (8 * n)))) ≤ 64) && true))) = true) :
    CallOK Tryz.prog ⟨67, [AV.c (AC.i n)], [], ⟨AV.tu [AT.ag [AC.u 0#64, AC.u (bshr (18446744073709551615#64) (Int.toNat (nv (BitVec.ofInt 64 (IntKind.wrap IntKind.i64 (64 - IntKind.wrap IntKind.i64 (8 * n))))))), AC.u 0#64, AC.u (bshr (18446744073709551615#64) (Int.toNat (nv (BitVec.ofInt 64 (IntKind.wrap IntKind.i64 (64 - IntKind.wrap IntKind.i64 (8 * n)))))))], AT.c (AC.i 0)], [], none⟩⟩ :=
  val_run 2000 [] [true, true] ([]) [] Tryz.func67 rfl rfl rfl rfl (by kernel_rfl) h cr_nil
theorem calcBytes_w1 {n : Int} (h : (!n == 1 && (n == 2 && (n == 2 && (decide (nv (BitVec.ofInt 64 (IntKind.wrap IntKind.i64 (64 - IntKind.wrap IntKind.i64 (8 * n)))) ≤ 64) && true)))) = true) :
    CallOK Tryz.prog ⟨67, [AV.c (AC.i n)], [], ⟨AV.tu [AT.ag [AC.u 0#64, AC.u (bshr (18446744073709551615#64) (Int.toNat (nv (BitVec.ofInt 64 (IntKind.wrap IntKind.i64 (64 - IntKind.wrap IntKind.i64 (8 * n))))))), AC.u 0#64, AC.u (bshr (18446744073709551615#64) (Int.toNat (nv (BitVec.ofInt 64 (IntKind.wrap IntKind.i64 (64 - IntKind.wrap IntKind.i64 (8 * n)))))))], AT.c (AC.i 0)], [], none⟩⟩ :=
  val_run 2000 [] [false, true, true] ([]) [] Tryz.func67 rfl rfl rfl rfl (by kernel_rfl) h cr_nil
theorem calcBytes_w2 {n : Int} (h : (!n == 1 && (!n == 2 && (n == 4 && (n == 4 && (decide (nv (BitVec.ofInt 64 (IntKind.wrap IntKind.i64 (64 - IntKind.wrap IntKind.i64 (8 * n)))) ≤ 64) && true))))) = true) :
    CallOK Tryz.prog ⟨67, [AV.c (AC.i n)], [], ⟨AV.tu [AT.ag [AC.u 0#64, AC.u (bshr (18446744073709551615#64) (Int.toNat (nv (BitVec.ofInt 64 (IntKind.wrap IntKind.i64 (64 - IntKind.wrap IntKind.i64 (8 * n))))))), AC.u 0#64, AC.u (bshr (18446744073709551615#64) (Int.toNat (nv (BitVec.ofInt 64 (IntKind.wrap IntKind.i64 (64 - IntKind.wrap IntKind.i64 (8 * n)))))))], AT.c (AC.i 0)], [], none⟩⟩ :=
  val_run 2000 [] [false, false, true, true] ([]) [] Tryz.func67 rfl rfl rfl rfl (by kernel_rfl) h cr_nil
theorem calcBytes_w3 {n : Int} (h : (!n == 1 && (!n == 2 && (!n == 4 && (n == 8 && (decide (nv (BitVec.ofInt 64 (IntKind.wrap IntKind.i64 (64 - IntKind.wrap IntKind.i64 (8 * n)))) ≤ 64) && true))))) = true) :
    CallOK Tryz.prog ⟨67, [AV.c (AC.i n)], [], ⟨AV.tu [AT.ag [AC.u 0#64, AC.u (bshr (18446744073709551615#64) (Int.toNat (nv (BitVec.ofInt 64 (IntKind.wrap IntKind.i64 (64 - IntKind.wrap IntKind.i64 (8 * n))))))), AC.u 0#64, AC.u (bshr (18446744073709551615#64) (Int.toNat (nv (BitVec.ofInt 64 (IntKind.wrap IntKind.i64 (64 - IntKind.wrap IntKind.i64 (8 * n)))))))], AT.c (AC.i 0)], [], none⟩⟩ :=
  val_run 2000 [] [false, false, false, true] ([]) [] Tryz.func67 rfl rfl rfl rfl (by kernel_rfl) h cr_nil
theorem refOver_w0 {x : BitVec 64} {y : BitVec 64} (h : (!eqb y 0#64 && (!eqb y zero && true)) = true) :
    CallOK Tryz.prog ⟨81, [AV.c (AC.u x), AV.c (AC.u y)], [], ⟨AV.c (AC.b (decide (nv (18446744073709551615#64 / y) < nv x))), [], none⟩⟩ :=
  val_run 2000 [] [true] ([]) [] Tryz.func81 rfl rfl rfl rfl (by kernel_rfl) h cr_nil
theorem refOver_w1 {x : BitVec 64} {y : BitVec 64} (h : (!!eqb y 0#64 && true) = true) :
    CallOK Tryz.prog ⟨81, [AV.c (AC.u x), AV.c (AC.u y)], [], ⟨AV.c (AC.b false), [], none⟩⟩ :=
  val_run 2000 [] [false] ([]) [] Tryz.func81 rfl rfl rfl rfl (by kernel_rfl) h cr_nil
theorem refTwo2_w0 {a : V4} {b : V4} {p : V4} {kv : BitVec 64} {km : BitVec 64} {i : Bool} (h : (decide (nv (badd (V4.l a) (V4.l b)) < nv (V4.l a)) == decide (nv (badd (V4.h a) (V4.h b)) < nv (V4.h a)) && true) = true) (c0 : CallOK Tryz.prog (CallRec.mk 80 [AV.c (AC.i 2), AV.ag [AC.u (V4.v a), AC.u (V4.m a)], AV.ag [AC.u (V4.v b), AC.u (V4.m b)]] [] (Eff.mk (AV.ag [AC.u kv, AC.u km]) [] none))) (c1 : CallOK Tryz.prog (CallRec.mk 78 [AV.ag [AC.u kv, AC.u km, AC.u (badd (V4.l a) (V4.l b)), AC.u (badd (V4.h a) (V4.h b))]] [] (Eff.mk (AV.tu [AT.ag (V4.cs p), AT.c (AC.b i)]) [] none))) :
    CallOK Tryz.prog ⟨39, [AV.c (AC.i 2), AV.ag (V4.cs a), AV.ag (V4.cs b)], [], ⟨AV.ag (V4.cs p), [], none⟩⟩ :=
  val_run 2000 [Eff.mk (AV.ag [AC.u kv, AC.u km]) [] none, Eff.mk (AV.tu [AT.ag (V4.cs p), AT.c (AC.b i)]) [] none] [true, true, true] ([]) [] Tryz.func39 rfl rfl rfl rfl (by kernel_rfl) h (cr_cons c0 (cr_cons c1 cr_nil))
theorem refTwo2_w1 {a : V4} {b : V4} {p : V4} {kv : BitVec 64} {km : BitVec 64} {i : Bool} (h : (!decide (nv (badd (V4.l a) (V4.l b)) < nv (V4.l a)) == decide (nv (badd (V4.h a) (V4.h b)) < nv (V4.h a)) && true) = true) (c0 : CallOK Tryz.prog (CallRec.mk 80 [AV.c (AC.i 2), AV.ag [AC.u (V4.v a), AC.u (V4.m a)], AV.ag [AC.u (V4.v b), AC.u (V4.m b)]] [] (Eff.mk (AV.ag [AC.u kv, AC.u km]) [] none))) (c1 : CallOK Tryz.prog (CallRec.mk 78 [AV.ag [AC.u kv, AC.u km, AC.u 0#64, AC.u 18446744073709551615#64]] [] (Eff.mk (AV.tu [AT.ag (V4.cs p), AT.c (AC.b i)]) [] none))) :
    CallOK Tryz.prog ⟨39, [AV.c (AC.i 2), AV.ag (V4.cs a), AV.ag (V4.cs b)], [], ⟨AV.ag (V4.cs p), [], none⟩⟩ :=
  val_run 2000 [Eff.mk (AV.ag [AC.u kv, AC.u km]) [] none, Eff.mk (AV.tu [AT.ag (V4.cs p), AT.c (AC.b i)]) [] none] [true, true, false] ([]) [] Tryz.func39 rfl rfl rfl rfl (by kernel_rfl) h (cr_cons c0 (cr_cons c1 cr_nil))
theorem refTwo3_w0 {a : V4} {b : V4} {p : V4} {kv : BitVec 64} {km : BitVec 64} {i : Bool} (h : (decide (nv (V4.l a) < nv (V4.h b)) == decide (nv (V4.h a) < nv (V4.l b)) && true) = true) (c0 : CallOK Tryz.prog (CallRec.mk 80 [AV.c (AC.i 3), AV.ag [AC.u (V4.v a), AC.u (V4.m a)], AV.ag [AC.u (V4.v b), AC.u (V4.m b)]] [] (Eff.mk (AV.ag [AC.u kv, AC.u km]) [] none))) (c1 : CallOK Tryz.prog (CallRec.mk 78 [AV.ag [AC.u kv, AC.u km, AC.u (bsub (V4.l a) (V4.h b)), AC.u (bsub (V4.h a) (V4.l b))]] [] (Eff.mk (AV.tu [AT.ag (V4.cs p), AT.c (AC.b i)]) [] none))) :
    CallOK Tryz.prog ⟨39, [AV.c (AC.i 3), AV.ag (V4.cs a), AV.ag (V4.cs b)], [], ⟨AV.ag (V4.cs p), [], none⟩⟩ :=
  val_run 2000 [Eff.mk (AV.ag [AC.u kv, AC.u km]) [] none, Eff.mk (AV.tu [AT.ag (V4.cs p), AT.c (AC.b i)]) [] none] [true, false, true, true] ([]) [] Tryz.func39 rfl rfl rfl rfl (by kernel_rfl) h (cr_cons c0 (cr_cons c1 cr_nil))
theorem refTwo3_w1 {a : V4} {b : V4} {p : V4} {kv : BitVec 64} {km : BitVec 64} {i : Bool} (h : (!decide (nv (V4.l a) < nv (V4.h b)) == decide (nv (V4.h a) < nv (V4.l b)) && true) = true) (c0 : CallOK Tryz.prog (CallRec.mk 80 [AV.c (AC.i 3), AV.ag [AC.u (V4.v a), AC.u (V4.m a)], AV.ag [AC.u (V4.v b), AC.u (V4.m b)]] [] (Eff.mk (AV.ag [AC.u kv, AC.u km]) [] none))) (c1 : CallOK Tryz.prog (CallRec.mk 78 [AV.ag [AC.u kv, AC.u km, AC.u 0#64, AC.u 18446744073709551615#64]] [] (Eff.mk (AV.tu [AT.ag (V4.cs p), AT.c (AC.b i)]) [] none))) :
    CallOK Tryz.prog ⟨39, [AV.c (AC.i 3), AV.ag (V4.cs a), AV.ag (V4.cs b)], [], ⟨AV.ag (V4.cs p), [], none⟩⟩ :=
  val_run 2000 [Eff.mk (AV.ag [AC.u kv, AC.u km]) [] none, Eff.mk (AV.tu [AT.ag (V4.cs p), AT.c (AC.b i)]) [] none] [true, false, true, false] ([]) [] Tryz.func39 rfl rfl rfl rfl (by kernel_rfl) h (cr_cons c0 (cr_cons c1 cr_nil))
theorem refTwo5_w0 {a : V4} {b : V4} {p : V4} {kv : BitVec 64} {km : BitVec 64} {i : Bool} (c0 : CallOK Tryz.prog (CallRec.mk 80 [AV.c (AC.i 5), AV.ag [AC.u (V4.v a), AC.u (V4.m a)], AV.ag [AC.u (V4.v b), AC.u (V4.m b)]] [] (Eff.mk (AV.ag [AC.u kv, AC.u km]) [] none))) (c1 : CallOK Tryz.prog (CallRec.mk 78 [AV.ag [AC.u kv, AC.u km, AC.u 0#64, AC.u (bmin (V4.h a) (V4.h b))]] [] (Eff.mk (AV.tu [AT.ag (V4.cs p), AT.c (AC.b i)]) [] none))) :
    CallOK Tryz.prog ⟨39, [AV.c (AC.i 5), AV.ag (V4.cs a), AV.ag (V4.cs b)], [], ⟨AV.ag (V4.cs p), [], none⟩⟩ :=
  val_run 2000 [Eff.mk (AV.ag [AC.u kv, AC.u km]) [] none, Eff.mk (AV.tu [AT.ag (V4.cs p), AT.c (AC.b i)]) [] none] [true, false, false, false, true] ([]) [] Tryz.func39 rfl rfl rfl rfl (by kernel_rfl) rfl (cr_cons c0 (cr_cons c1 cr_nil))
theorem refTwo6_w0 {a : V4} {b : V4} {p : V4} {kv : BitVec 64} {km : BitVec 64} {i : Bool} (c0 : CallOK Tryz.prog (CallRec.mk 80 [AV.c (AC.i 6), AV.ag [AC.u (V4.v a), AC.u (V4.m a)], AV.ag [AC.u (V4.v b), AC.u (V4.m b)]] [] (Eff.mk (AV.ag [AC.u kv, AC.u km]) [] none))) (c1 : CallOK Tryz.prog (CallRec.mk 78 [AV.ag [AC.u kv, AC.u km, AC.u (bmax (V4.l a) (V4.l b)), AC.u 18446744073709551615#64]] [] (Eff.mk (AV.tu [AT.ag (V4.cs p), AT.c (AC.b i)]) [] none))) :
    CallOK Tryz.prog ⟨39, [AV.c (AC.i 6), AV.ag (V4.cs a), AV.ag (V4.cs b)], [], ⟨AV.ag (V4.cs p), [], none⟩⟩ :=
  val_run 2000 [Eff.mk (AV.ag [AC.u kv, AC.u km]) [] none, Eff.mk (AV.tu [AT.ag (V4.cs p), AT.c (AC.b i)]) [] none] [true, false, false, false, false, true] ([]) [] Tryz.func39 rfl rfl rfl rfl (by kernel_rfl) rfl (cr_cons c0 (cr_cons c1 cr_nil))
theorem refTwo7_w0 {a : V4} {b : V4} {p : V4} {kv : BitVec 64} {km : BitVec 64} {i : Bool} (c0 : CallOK Tryz.prog (CallRec.mk 80 [AV.c (AC.i 7), AV.ag [AC.u (V4.v a), AC.u (V4.m a)], AV.ag [AC.u (V4.v b), AC.u (V4.m b)]] [] (Eff.mk (AV.ag [AC.u kv, AC.u km]) [] none))) (c1 : CallOK Tryz.prog (CallRec.mk 78 [AV.ag [AC.u kv, AC.u km, AC.u 0#64, AC.u 18446744073709551615#64]] [] (Eff.mk (AV.tu [AT.ag (V4.cs p), AT.c (AC.b i)]) [] none))) :
    CallOK Tryz.prog ⟨39, [AV.c (AC.i 7), AV.ag (V4.cs a), AV.ag (V4.cs b)], [], ⟨AV.ag (V4.cs p), [], none⟩⟩ :=
  val_run 2000 [Eff.mk (AV.ag [AC.u kv, AC.u km]) [] none, Eff.mk (AV.tu [AT.ag (V4.cs p), AT.c (AC.b i)]) [] none] [true, false, false, false, false, false, false, false] ([]) [] Tryz.func39 rfl rfl rfl rfl (by kernel_rfl) rfl (cr_cons c0 (cr_cons c1 cr_nil))
theorem refTwo4_w0 {a : V4} {b : V4} {p : V4} {kv : BitVec 64} {km : BitVec 64} {i : Bool} {ov : Bool} (h : (!ov && true) = true) (c0 : CallOK Tryz.prog (CallRec.mk 80 [AV.c (AC.i 4), AV.ag [AC.u (V4.v a), AC.u (V4.m a)], AV.ag [AC.u (V4.v b), AC.u (V4.m b)]] [] (Eff.mk (AV.ag [AC.u kv, AC.u km]) [] none))) (c1 : CallOK Tryz.prog (CallRec.mk 81 [AV.c (AC.u (V4.h a)), AV.c (AC.u (V4.h b))] [] (Eff.mk (AV.c (AC.b ov)) [] none))) (c2 : CallOK Tryz.prog (CallRec.mk 78 [AV.ag [AC.u kv, AC.u km, AC.u (bmul (V4.l a) (V4.l b)), AC.u (bmul (V4.h a) (V4.h b))]] [] (Eff.mk (AV.tu [AT.ag (V4.cs p), AT.c (AC.b i)]) [] none))) :
    CallOK Tryz.prog ⟨39, [AV.c (AC.i 4), AV.ag (V4.cs a), AV.ag (V4.cs b)], [], ⟨AV.ag (V4.cs p), [], none⟩⟩ :=
  val_run 2000 [Eff.mk (AV.ag [AC.u kv, AC.u km]) [] none, Eff.mk (AV.c (AC.b ov)) [] none, Eff.mk (AV.tu [AT.ag (V4.cs p), AT.c (AC.b i)]) [] none] [true, false, false, true, true] ([]) [] Tryz.func39 rfl rfl rfl rfl (by kernel_rfl) h (cr_cons c0 (cr_cons c1 (cr_cons c2 cr_nil)))
theorem refTwo4_w1 {a : V4} {b : V4} {p : V4} {kv : BitVec 64} {km : BitVec 64} {i : Bool} {ov : Bool} (h : (!!ov && true) = true) (c0 : CallOK Tryz.prog (CallRec.mk 80 [AV.c (AC.i 4), AV.ag [AC.u (V4.v a), AC.u (V4.m a)], AV.ag [AC.u (V4.v b), AC.u (V4.m b)]] [] (Eff.mk (AV.ag [AC.u kv, AC.u km]) [] none))) (c1 : CallOK Tryz.prog (CallRec.mk 81 [AV.c (AC.u (V4.h a)), AV.c (AC.u (V4.h b))] [] (Eff.mk (AV.c (AC.b ov)) [] none))) (c2 : CallOK Tryz.prog (CallRec.mk 78 [AV.ag [AC.u kv, AC.u km, AC.u 0#64, AC.u 18446744073709551615#64]] [] (Eff.mk (AV.tu [AT.ag (V4.cs p), AT.c (AC.b i)]) [] none))) :
    CallOK Tryz.prog ⟨39, [AV.c (AC.i 4), AV.ag (V4.cs a), AV.ag (V4.cs b)], [], ⟨AV.ag (V4.cs p), [], none⟩⟩ :=
  val_run 2000 [Eff.mk (AV.ag [AC.u kv, AC.u km]) [] none, Eff.mk (AV.c (AC.b ov)) [] none, Eff.mk (AV.tu [AT.ag (V4.cs p), AT.c (AC.b i)]) [] none] [true, false, false, true, false] ([]) [] Tryz.func39 rfl rfl rfl rfl (by kernel_rfl) h (cr_cons c0 (cr_cons c1 (cr_cons c2 cr_nil)))
theorem refTwo8n_w0 {a : V4} {b : V4} {p : V4} {i : Bool} {al : Bool} (h : (!al && true) = true) (c0 : CallOK Tryz.prog (CallRec.mk 59 [AV.ag (V4.cs b)] [] (Eff.mk (AV.c (AC.b al)) [] none))) (c1 : CallOK Tryz.prog (CallRec.mk 78 [AV.ag [AC.u 0#64, AC.u 18446744073709551615#64, AC.u 0#64, AC.u 18446744073709551615#64]] [] (Eff.mk (AV.tu [AT.ag (V4.cs p), AT.c (AC.b i)]) [] none))) :
    CallOK Tryz.prog ⟨39, [AV.c (AC.i 8), AV.ag (V4.cs a), AV.ag (V4.cs b)], [], ⟨AV.ag (V4.cs p), [], none⟩⟩ :=
  val_run 2000 [Eff.mk (AV.c (AC.b al)) [] none, Eff.mk (AV.tu [AT.ag (V4.cs p), AT.c (AC.b i)]) [] none] [false, false, false, false, false, false, true, false] ([]) [] Tryz.func39 rfl rfl rfl rfl (by kernel_rfl) h (cr_cons c0 (cr_cons c1 cr_nil))
theorem refTwo8y_w0 {a : V4} {b : V4} {p : V4} {kv : BitVec 64} {km : BitVec 64} {i : Bool} {al : Bool} (h : (al && (decide (0 ≤ IntKind.wrap IntKind.i64 (nv (band (V4.l b) 63#64))) && decide (IntKind.wrap IntKind.i64 (nv (band (V4.l b) 63#64)) ≤ 64) && (decide (0 ≤ IntKind.wrap IntKind.i64 (nv (band (V4.l b) 63#64))) && decide (IntKind.wrap IntKind.i64 (nv (band (V4.l b) 63#64)) ≤ 64) && (eqb (bshr (bshl (V4.h a) (Int.toNat (IntKind.wrap IntKind.i64 (nv (band (V4.l b) 63#64))))) (Int.toNat (IntKind.wrap IntKind.i64 (nv (band (V4.l b) 63#64))))) (V4.h a) && (decide (0 ≤ IntKind.wrap IntKind.i64 (nv (band (V4.l b) 63#64))) && decide (IntKind.wrap IntKind.i64 (nv (band (V4.l b) 63#64)) ≤ 64) && (decide (0 ≤ IntKind.wrap IntKind.i64 (nv (band (V4.l b) 63#64))) && decide (IntKind.wrap IntKind.i64 (nv (band (V4.l b) 63#64)) ≤ 64) && true)))))) = true) (c0 : CallOK Tryz.prog (CallRec.mk 59 [AV.ag (V4.cs b)] [] (Eff.mk (AV.c (AC.b al)) [] none))) (c1 : CallOK Tryz.prog (CallRec.mk 82 [AV.c (AC.i 8), AV.ag [AC.u (V4.v a), AC.u (V4.m a)], AV.c (AC.i (IntKind.wrap IntKind.i64 (nv (band (V4.l b) 63#64))))] [] (Eff.mk (AV.ag [AC.u kv, AC.u km]) [] none))) (c2 : CallOK Tryz.prog (CallRec.mk 78 [AV.ag [AC.u kv, AC.u km, AC.u (bshl (V4.l a) (Int.toNat (IntKind.wrap IntKind.i64 (nv (band (V4.l b) 63#64))))), AC.u (bshl (V4.h a) (Int.toNat (IntKind.wrap IntKind.i64 (nv (band (V4.l b) 63#64)))))]] [] (Eff.mk (AV.tu [AT.ag (V4.cs p), AT.c (AC.b i)]) [] none))) :
    CallOK Tryz.prog ⟨39, [AV.c (AC.i 8), AV.ag (V4.cs a), AV.ag (V4.cs b)], [], ⟨AV.ag (V4.cs p), [], none⟩⟩ :=
  val_run 2000 [Eff.mk (AV.c (AC.b al)) [] none, Eff.mk (AV.ag [AC.u kv, AC.u km]) [] none, Eff.mk (AV.tu [AT.ag (V4.cs p), AT.c (AC.b i)]) [] none] [false, false, false, false, false, false, true, true, true] ([]) [] Tryz.func39 rfl rfl rfl rfl (by kernel_rfl) h (cr_cons c0 (cr_cons c1 (cr_cons c2 cr_nil)))
theorem refTwo8y_w1 {a : V4} {b : V4} {p : V4} {kv : BitVec 64} {km : BitVec 64} {i : Bool} {al : Bool} (h : (al && (decide (0 ≤ IntKind.wrap IntKind.i64 (nv (band (V4.l b) 63#64))) && decide (IntKind.wrap IntKind.i64 (nv (band (V4.l b) 63#64)) ≤ 64) && (decide (0 ≤ IntKind.wrap IntKind.i64 (nv (band (V4.l b) 63#64))) && decide (IntKind.wrap IntKind.i64 (nv (band (V4.l b) 63#64)) ≤ 64) && (!eqb (bshr (bshl (V4.h a) (Int.toNat (IntKind.wrap IntKind.i64 (nv (band (V4.l b) 63#64))))) (Int.toNat (IntKind.wrap IntKind.i64 (nv (band (V4.l b) 63#64))))) (V4.h a) && true)))) = true) (c0 : CallOK Tryz.prog (CallRec.mk 59 [AV.ag (V4.cs b)] [] (Eff.mk (AV.c (AC.b al)) [] none))) (c1 : CallOK Tryz.prog (CallRec.mk 82 [AV.c (AC.i 8), AV.ag [AC.u (V4.v a), AC.u (V4.m a)], AV.c (AC.i (IntKind.wrap IntKind.i64 (nv (band (V4.l b) 63#64))))] [] (Eff.mk (AV.ag [AC.u kv, AC.u km]) [] none))) (c2 : CallOK Tryz.prog (CallRec.mk 78 [AV.ag [AC.u kv, AC.u km, AC.u 0#64, AC.u 18446744073709551615#64]] [] (Eff.mk (AV.tu [AT.ag (V4.cs p), AT.c (AC.b i)]) [] none))) :
    CallOK Tryz.prog ⟨39, [AV.c (AC.i 8), AV.ag (V4.cs a), AV.ag (V4.cs b)], [], ⟨AV.ag (V4.cs p), [], none⟩⟩ :=
  val_run 2000 [Eff.mk (AV.c (AC.b al)) [] none, Eff.mk (AV.ag [AC.u kv, AC.u km]) [] none, Eff.mk (AV.tu [AT.ag (V4.cs p), AT.c (AC.b i)]) [] none] [false, false, false, false, false, false, true, true, false] ([]) [] Tryz.func39 rfl rfl rfl rfl (by kernel_rfl) h (cr_cons c0 (cr_cons c1 (cr_cons c2 cr_nil)))
theorem refTwo9n_w0 {a : V4} {b : V4} {p : V4} {i : Bool} {al : Bool} (h : (!al && true) = true) (c0 : CallOK Tryz.prog (CallRec.mk 59 [AV.ag (V4.cs b)] [] (Eff.mk (AV.c (AC.b al)) [] none))) (c1 : CallOK Tryz.prog (CallRec.mk 78 [AV.ag [AC.u 0#64, AC.u 18446744073709551615#64, AC.u 0#64, AC.u (V4.h a)]] [] (Eff.mk (AV.tu [AT.ag (V4.cs p), AT.c (AC.b i)]) [] none))) :
    CallOK Tryz.prog ⟨39, [AV.c (AC.i 9), AV.ag (V4.cs a), AV.ag (V4.cs b)], [], ⟨AV.ag (V4.cs p), [], none⟩⟩ :=
  val_run 2000 [Eff.mk (AV.c (AC.b al)) [] none, Eff.mk (AV.tu [AT.ag (V4.cs p), AT.c (AC.b i)]) [] none] [false, false, false, false, false, false, false, true, false] ([]) [] Tryz.func39 rfl rfl rfl rfl (by kernel_rfl) h (cr_cons c0 (cr_cons c1 cr_nil))
theorem refTwo9y_w0 {a : V4} {b : V4} {p : V4} {kv : BitVec 64} {km : BitVec 64} {i : Bool} {al : Bool} (h : (al && (decide (0 ≤ IntKind.wrap IntKind.i64 (nv (band (V4.l b) 63#64))) && decide (IntKind.wrap IntKind.i64 (nv (band (V4.l b) 63#64)) ≤ 64) && (decide (0 ≤ IntKind.wrap IntKind.i64 (nv (band (V4.l b) 63#64))) && decide (IntKind.wrap IntKind.i64 (nv (band (V4.l b) 63#64)) ≤ 64) && true))) = true) (c0 : CallOK Tryz.prog (CallRec.mk 59 [AV.ag (V4.cs b)] [] (Eff.mk (AV.c (AC.b al)) [] none))) (c1 : CallOK Tryz.prog (CallRec.mk 82 [AV.c (AC.i 9), AV.ag [AC.u (V4.v a), AC.u (V4.m a)], AV.c (AC.i (IntKind.wrap IntKind.i64 (nv (band (V4.l b) 63#64))))] [] (Eff.mk (AV.ag [AC.u kv, AC.u km]) [] none))) (c2 : CallOK Tryz.prog (CallRec.mk 78 [AV.ag [AC.u kv, AC.u km, AC.u (bshr (V4.l a) (Int.toNat (IntKind.wrap IntKind.i64 (nv (band (V4.l b) 63#64))))), AC.u (bshr (V4.h a) (Int.toNat (IntKind.wrap IntKind.i64 (nv (band (V4.l b) 63#64)))))]] [] (Eff.mk (AV.tu [AT.ag (V4.cs p), AT.c (AC.b i)]) [] none))) :
    CallOK Tryz.prog ⟨39, [AV.c (AC.i 9), AV.ag (V4.cs a), AV.ag (V4.cs b)], [], ⟨AV.ag (V4.cs p), [], none⟩⟩ :=
  val_run 2000 [Eff.mk (AV.c (AC.b al)) [] none, Eff.mk (AV.ag [AC.u kv, AC.u km]) [] none, Eff.mk (AV.tu [AT.ag (V4.cs p), AT.c (AC.b i)]) [] none] [false, false, false, false, false, false, false, true, true] ([]) [] Tryz.func39 rfl rfl rfl rfl (by kernel_rfl) h (cr_cons c0 (cr_cons c1 (cr_cons c2 cr_nil)))
end Go.Proofs.YtkigmocchaikgabGreat

/- The contract of package calc's leave, over each of the four functions that it is handed. (Written by gen_w26.py.) -/
namespace Go.Proofs.YtkigmocchaikgabGreat
open Go.RowKit
attribute [local go_sem] w_and w_or w_xor w_andNot w_and1 w_and63 w_add w_sub w_mul w_sub1 w_add1 w_shl w_shl1 w_shr c_beq c_bne c_beq0 c_bne0 c_beq1 c_bne1 wrap_nv

abbrev PT (b : Nat) : Value := .pointer (some ⟨b, 0, none⟩)
/- what is left of both -/
def lv (p : Bool) (a : Value) : Value := if p then a else V0

set_option maxRecDepth 100000 in
set_option maxHeartbeats 4000000 in
theorem leave_Equal {p1 p2 : Value} {v m l g v' m' l' g' a b c d a' b' c' d' x y z t x' y' z' t' : BitVec 64} {may i1 i2 : Bool} {e1 e2 : Int} (hr : Hid ((valB v m l g && valB v' m' l' g') = true)) (w : World)
    (HR : Hid (∀ w', Below w.heap.size w w' → Calls Tryz.prog 106 #[p1, p2] w' fun e w'' => e = .returned (.tuple #[Vl a b c d, Vl a' b' c' d', .bool may]) ∧ Below w'.heap.size w' w''))
    (N1 : Hid (∀ w, Calls Tryz.prog 113 #[Vl a b c d] w fun e w' => e = .returned (.tuple #[Vl x y z t, .bool i1, N e1]) ∧ Below w.heap.size w w'))
    (N2 : Hid (∀ w, Calls Tryz.prog 113 #[Vl a' b' c' d'] w fun e w' => e = .returned (.tuple #[Vl x' y' z' t', .bool i2, N e2]) ∧ Below w.heap.size w w')) :
    Calls Tryz.prog 102 #[Vl v m l g, Vl v' m' l' g', .func (.func 106) #[] #[p1, p2]] w fun e w' => e = .returned (.tuple #[lv (may && (i1 && i2)) (Vl x y z t), lv (may && (i1 && i2)) (Vl x' y' z' t'), .bool (may && (i1 && i2)), N 0]) ∧ Below w.heap.size w w' := by
  obtain ⟨z1, H1⟩ : ∃ b, Hid (valB v m l g = b) := ⟨_, rfl⟩
  obtain ⟨z2, H2⟩ : ∃ b, Hid (valB v' m' l' g' = b) := ⟨_, rfl⟩
  rw [H1.out, H2.out] at hr
  obtain ⟨q, hq⟩ : ∃ q, Hid (q = (may && (i1 && i2))) := ⟨_, rfl⟩
  rw [← hq.out]
  go_enter Tryz.func102, Tryz.ntmps102
  go_wp2_with fail
  refine (vcheck2 H1 H2 (by simp) (by simp [go_sem]) (by simp [go_sem]) (by simp [go_sem]) (by simp [go_sem]) (by simp [go_sem]) (by simp [go_sem]) (by simp [go_sem]) (by simp [go_sem])).mono ?_
  rw [hr.out, er_t]
  rintro e w1 ⟨rfl, hb1⟩
  have hK := ((((((Kp.start w).add4 _ _ _ _ _).add4 _ _ _ _ _).add4 _ _ _ _ _).add4 _ _ _ _ _).keep ((Below.refl _ _).alloc (Nat.le_refl _) _)).keep hb1
  simp only [World.size_alloc] at hK
  clear hb1
  go_wp2_with fail
  refine (HR.out _ hK.bel).mono ?_
  rintro e w2 ⟨rfl, hb2⟩
  have hK2 := hK.keep hb2
  have hK3 := (hK2.set4 (x := U a) (y := U b) (z := U c) (t := U d) 3 rfl).set4 (x := U a') (y := U b') (z := U c') (t := U d') 2 rfl
  obtain ⟨s0, s1, s2, s3, s4, s5, s6, s7, s8⟩ := hK2.box.head.four
  obtain ⟨r0, r1, r2, r3, r4, r5, r6, r7, r8⟩ := hK2.box.tail.head.four
  obtain ⟨b0, b1, b2, b3, b4, b5, b6, b7, b8⟩ := hK2.box.tail.tail.head.four
  obtain ⟨a0, a1, a2, a3, a4, a5, a6, a7, a8⟩ := hK2.box.tail.tail.tail.head.four
  clear hb2 hK
  go_wp2_with fail
  refine (N1.out _).mono ?_
  rintro e w3 ⟨rfl, hb3⟩
  have hK4 := hK3.keep hb3
  have hK5 := hK4.set4 (x := U x) (y := U y) (z := U z) (t := U t) 3 rfl
  clear s0 s1 s2 s3 s4 s5 s6 s7 s8 r0 r1 r2 r3 r4 r5 r6 r7 r8 b0 b1 b2 b3 b4 b5 b6 b7 b8 a0 a1 a2 a3 a4 a5 a6 a7 a8
  obtain ⟨s0, s1, s2, s3, s4, s5, s6, s7, s8⟩ := hK4.box.head.four
  obtain ⟨r0, r1, r2, r3, r4, r5, r6, r7, r8⟩ := hK4.box.tail.head.four
  obtain ⟨b0, b1, b2, b3, b4, b5, b6, b7, b8⟩ := hK4.box.tail.tail.head.four
  obtain ⟨a0, a1, a2, a3, a4, a5, a6, a7, a8⟩ := hK4.box.tail.tail.tail.head.four
  clear hb3 hK2 hK3
  go_wp2_with fail
  refine (N2.out _).mono ?_
  rintro e w4 ⟨rfl, hb4⟩
  have hK6 := hK5.keep hb4
  have hK7 := hK6.set4 (x := U x') (y := U y') (z := U z') (t := U t') 2 rfl
  clear s0 s1 s2 s3 s4 s5 s6 s7 s8 r0 r1 r2 r3 r4 r5 r6 r7 r8 b0 b1 b2 b3 b4 b5 b6 b7 b8 a0 a1 a2 a3 a4 a5 a6 a7 a8
  obtain ⟨s0, s1, s2, s3, s4, s5, s6, s7, s8⟩ := hK6.box.head.four
  obtain ⟨r0, r1, r2, r3, r4, r5, r6, r7, r8⟩ := hK6.box.tail.head.four
  obtain ⟨b0, b1, b2, b3, b4, b5, b6, b7, b8⟩ := hK6.box.tail.tail.head.four
  obtain ⟨a0, a1, a2, a3, a4, a5, a6, a7, a8⟩ := hK6.box.tail.tail.tail.head.four
  clear hb4 hK4 hK5
  go_upto_region 7 with fail
  clear s0 s1 s2 s3 s4 s5 s6 s7 s8 r0 r1 r2 r3 r4 r5 r6 r7 r8 b0 b1 b2 b3 b4 b5 b6 b7 b8 a0 a1 a2 a3 a4 a5 a6 a7 a8
  clear hK6
  go_cut [52] (fun u wc => u = .bool (!q) ∧ Kp w wc [(w.heap.size + 1 + 1 + 1, [.int .u64 0, .int .u64 0, .int .u64 0, .int .u64 0]), (w.heap.size + 1 + 1, [.int .u64 0, .int .u64 0, .int .u64 0, .int .u64 0]), (w.heap.size + 1, [U x', U y', U z', U t']), (w.heap.size, [U x, U y, U z, U t])])
  case first =>
    cases may
    · go_wp2_with fail
      go_meet
      case rel => exact ⟨by rw [hq.out]; rfl, hK7⟩
    · cases i1
      · go_wp2_with fail
        go_meet
        case rel => exact ⟨by rw [hq.out]; rfl, hK7⟩
      · cases i2
        all_goals
          go_wp2_with fail
          go_meet
          case rel => exact ⟨by rw [hq.out]; rfl, hK7⟩
  case rest =>
    clear hK7 hq
    obtain ⟨rfl, hK8⟩ := hcut
    obtain ⟨s0, s1, s2, s3, s4, s5, s6, s7, s8⟩ := hK8.box.head.four
    obtain ⟨r0, r1, r2, r3, r4, r5, r6, r7, r8⟩ := hK8.box.tail.head.four
    obtain ⟨b0, b1, b2, b3, b4, b5, b6, b7, b8⟩ := hK8.box.tail.tail.head.four
    obtain ⟨a0, a1, a2, a3, a4, a5, a6, a7, a8⟩ := hK8.box.tail.tail.tail.head.four
    cases q
    · go_wp2_with fail
      exact bodyPost_ret (v := .tuple #[V0, V0, .bool false, N 0]) (by simp [results, Tryz.results102, go_sem, nv_zero, s0, s1, s2, s3, r0, r1, r2, r3]) rfl ⟨rfl, ((hK8.set4 1 rfl).set4 0 rfl).bel⟩
    · go_wp2_with fail
      go_region
      all_goals
        go_wp2_with fail
        exact bodyPost_ret (v := .tuple #[Vl x y z t, Vl x' y' z' t', .bool true, N 0]) (by simp [results, Tryz.results102, go_sem, s0, s1, s2, s3, r0, r1, r2, r3]) rfl ⟨rfl, Below.drew ((hK8.set4 1 rfl).set4 0 rfl).bel⟩

set_option maxRecDepth 100000 in
set_option maxHeartbeats 4000000 in
theorem leave_Other {p1 p2 : Value} {v m l g v' m' l' g' a b c d a' b' c' d' x y z t x' y' z' t' : BitVec 64} {may i1 i2 : Bool} {e1 e2 : Int} (hr : Hid ((valB v m l g && valB v' m' l' g') = true)) (w : World)
    (HR : Hid (∀ w', Below w.heap.size w w' → Calls Tryz.prog 103 #[p1, p2] w' fun e w'' => e = .returned (.tuple #[Vl a b c d, Vl a' b' c' d', .bool may]) ∧ Below w'.heap.size w' w''))
    (N1 : Hid (∀ w, Calls Tryz.prog 113 #[Vl a b c d] w fun e w' => e = .returned (.tuple #[Vl x y z t, .bool i1, N e1]) ∧ Below w.heap.size w w'))
    (N2 : Hid (∀ w, Calls Tryz.prog 113 #[Vl a' b' c' d'] w fun e w' => e = .returned (.tuple #[Vl x' y' z' t', .bool i2, N e2]) ∧ Below w.heap.size w w')) :
    Calls Tryz.prog 102 #[Vl v m l g, Vl v' m' l' g', .func (.func 103) #[] #[p1, p2]] w fun e w' => e = .returned (.tuple #[lv (may && (i1 && i2)) (Vl x y z t), lv (may && (i1 && i2)) (Vl x' y' z' t'), .bool (may && (i1 && i2)), N 0]) ∧ Below w.heap.size w w' := by
  obtain ⟨z1, H1⟩ : ∃ b, Hid (valB v m l g = b) := ⟨_, rfl⟩
  obtain ⟨z2, H2⟩ : ∃ b, Hid (valB v' m' l' g' = b) := ⟨_, rfl⟩
  rw [H1.out, H2.out] at hr
  obtain ⟨q, hq⟩ : ∃ q, Hid (q = (may && (i1 && i2))) := ⟨_, rfl⟩
  rw [← hq.out]
  go_enter Tryz.func102, Tryz.ntmps102
  go_wp2_with fail
  refine (vcheck2 H1 H2 (by simp) (by simp [go_sem]) (by simp [go_sem]) (by simp [go_sem]) (by simp [go_sem]) (by simp [go_sem]) (by simp [go_sem]) (by simp [go_sem]) (by simp [go_sem])).mono ?_
  rw [hr.out, er_t]
  rintro e w1 ⟨rfl, hb1⟩
  have hK := ((((((Kp.start w).add4 _ _ _ _ _).add4 _ _ _ _ _).add4 _ _ _ _ _).add4 _ _ _ _ _).keep ((Below.refl _ _).alloc (Nat.le_refl _) _)).keep hb1
  simp only [World.size_alloc] at hK
  clear hb1
  go_wp2_with fail
  refine (HR.out _ hK.bel).mono ?_
  rintro e w2 ⟨rfl, hb2⟩
  have hK2 := hK.keep hb2
  have hK3 := (hK2.set4 (x := U a) (y := U b) (z := U c) (t := U d) 3 rfl).set4 (x := U a') (y := U b') (z := U c') (t := U d') 2 rfl
  obtain ⟨s0, s1, s2, s3, s4, s5, s6, s7, s8⟩ := hK2.box.head.four
  obtain ⟨r0, r1, r2, r3, r4, r5, r6, r7, r8⟩ := hK2.box.tail.head.four
  obtain ⟨b0, b1, b2, b3, b4, b5, b6, b7, b8⟩ := hK2.box.tail.tail.head.four
  obtain ⟨a0, a1, a2, a3, a4, a5, a6, a7, a8⟩ := hK2.box.tail.tail.tail.head.four
  clear hb2 hK
  go_wp2_with fail
  refine (N1.out _).mono ?_
  rintro e w3 ⟨rfl, hb3⟩
  have hK4 := hK3.keep hb3
  have hK5 := hK4.set4 (x := U x) (y := U y) (z := U z) (t := U t) 3 rfl
  clear s0 s1 s2 s3 s4 s5 s6 s7 s8 r0 r1 r2 r3 r4 r5 r6 r7 r8 b0 b1 b2 b3 b4 b5 b6 b7 b8 a0 a1 a2 a3 a4 a5 a6 a7 a8
  obtain ⟨s0, s1, s2, s3, s4, s5, s6, s7, s8⟩ := hK4.box.head.four
  obtain ⟨r0, r1, r2, r3, r4, r5, r6, r7, r8⟩ := hK4.box.tail.head.four
  obtain ⟨b0, b1, b2, b3, b4, b5, b6, b7, b8⟩ := hK4.box.tail.tail.head.four
  obtain ⟨a0, a1, a2, a3, a4, a5, a6, a7, a8⟩ := hK4.box.tail.tail.tail.head.four
  clear hb3 hK2 hK3
  go_wp2_with fail
  refine (N2.out _).mono ?_
  rintro e w4 ⟨rfl, hb4⟩
  have hK6 := hK5.keep hb4
  have hK7 := hK6.set4 (x := U x') (y := U y') (z := U z') (t := U t') 2 rfl
  clear s0 s1 s2 s3 s4 s5 s6 s7 s8 r0 r1 r2 r3 r4 r5 r6 r7 r8 b0 b1 b2 b3 b4 b5 b6 b7 b8 a0 a1 a2 a3 a4 a5 a6 a7 a8
  obtain ⟨s0, s1, s2, s3, s4, s5, s6, s7, s8⟩ := hK6.box.head.four
  obtain ⟨r0, r1, r2, r3, r4, r5, r6, r7, r8⟩ := hK6.box.tail.head.four
  obtain ⟨b0, b1, b2, b3, b4, b5, b6, b7, b8⟩ := hK6.box.tail.tail.head.four
  obtain ⟨a0, a1, a2, a3, a4, a5, a6, a7, a8⟩ := hK6.box.tail.tail.tail.head.four
  clear hb4 hK4 hK5
  go_upto_region 7 with fail
  clear s0 s1 s2 s3 s4 s5 s6 s7 s8 r0 r1 r2 r3 r4 r5 r6 r7 r8 b0 b1 b2 b3 b4 b5 b6 b7 b8 a0 a1 a2 a3 a4 a5 a6 a7 a8
  clear hK6
  go_cut [52] (fun u wc => u = .bool (!q) ∧ Kp w wc [(w.heap.size + 1 + 1 + 1, [.int .u64 0, .int .u64 0, .int .u64 0, .int .u64 0]), (w.heap.size + 1 + 1, [.int .u64 0, .int .u64 0, .int .u64 0, .int .u64 0]), (w.heap.size + 1, [U x', U y', U z', U t']), (w.heap.size, [U x, U y, U z, U t])])
  case first =>
    cases may
    · go_wp2_with fail
      go_meet
      case rel => exact ⟨by rw [hq.out]; rfl, hK7⟩
    · cases i1
      · go_wp2_with fail
        go_meet
        case rel => exact ⟨by rw [hq.out]; rfl, hK7⟩
      · cases i2
        all_goals
          go_wp2_with fail
          go_meet
          case rel => exact ⟨by rw [hq.out]; rfl, hK7⟩
  case rest =>
    clear hK7 hq
    obtain ⟨rfl, hK8⟩ := hcut
    obtain ⟨s0, s1, s2, s3, s4, s5, s6, s7, s8⟩ := hK8.box.head.four
    obtain ⟨r0, r1, r2, r3, r4, r5, r6, r7, r8⟩ := hK8.box.tail.head.four
    obtain ⟨b0, b1, b2, b3, b4, b5, b6, b7, b8⟩ := hK8.box.tail.tail.head.four
    obtain ⟨a0, a1, a2, a3, a4, a5, a6, a7, a8⟩ := hK8.box.tail.tail.tail.head.four
    cases q
    · go_wp2_with fail
      exact bodyPost_ret (v := .tuple #[V0, V0, .bool false, N 0]) (by simp [results, Tryz.results102, go_sem, nv_zero, s0, s1, s2, s3, r0, r1, r2, r3]) rfl ⟨rfl, ((hK8.set4 1 rfl).set4 0 rfl).bel⟩
    · go_wp2_with fail
      go_region
      all_goals
        go_wp2_with fail
        exact bodyPost_ret (v := .tuple #[Vl x y z t, Vl x' y' z' t', .bool true, N 0]) (by simp [results, Tryz.results102, go_sem, s0, s1, s2, s3, r0, r1, r2, r3]) rfl ⟨rfl, Below.drew ((hK8.set4 1 rfl).set4 0 rfl).bel⟩

set_option maxRecDepth 100000 in
set_option maxHeartbeats 4000000 in
theorem leave_Less {p1 p2 : Value} {v m l g v' m' l' g' a b c d a' b' c' d' x y z t x' y' z' t' : BitVec 64} {may i1 i2 : Bool} {e1 e2 : Int} (hr : Hid ((valB v m l g && valB v' m' l' g') = true)) (w : World)
    (HR : Hid (∀ w', Below w.heap.size w w' → Calls Tryz.prog 110 #[p1, p2] w' fun e w'' => e = .returned (.tuple #[Vl a b c d, Vl a' b' c' d', .bool may]) ∧ Below w'.heap.size w' w''))
    (N1 : Hid (∀ w, Calls Tryz.prog 113 #[Vl a b c d] w fun e w' => e = .returned (.tuple #[Vl x y z t, .bool i1, N e1]) ∧ Below w.heap.size w w'))
    (N2 : Hid (∀ w, Calls Tryz.prog 113 #[Vl a' b' c' d'] w fun e w' => e = .returned (.tuple #[Vl x' y' z' t', .bool i2, N e2]) ∧ Below w.heap.size w w')) :
    Calls Tryz.prog 102 #[Vl v m l g, Vl v' m' l' g', .func (.func 110) #[] #[p1, p2]] w fun e w' => e = .returned (.tuple #[lv (may && (i1 && i2)) (Vl x y z t), lv (may && (i1 && i2)) (Vl x' y' z' t'), .bool (may && (i1 && i2)), N 0]) ∧ Below w.heap.size w w' := by
  obtain ⟨z1, H1⟩ : ∃ b, Hid (valB v m l g = b) := ⟨_, rfl⟩
  obtain ⟨z2, H2⟩ : ∃ b, Hid (valB v' m' l' g' = b) := ⟨_, rfl⟩
  rw [H1.out, H2.out] at hr
  obtain ⟨q, hq⟩ : ∃ q, Hid (q = (may && (i1 && i2))) := ⟨_, rfl⟩
  rw [← hq.out]
  go_enter Tryz.func102, Tryz.ntmps102
  go_wp2_with fail
  refine (vcheck2 H1 H2 (by simp) (by simp [go_sem]) (by simp [go_sem]) (by simp [go_sem]) (by simp [go_sem]) (by simp [go_sem]) (by simp [go_sem]) (by simp [go_sem]) (by simp [go_sem])).mono ?_
  rw [hr.out, er_t]
  rintro e w1 ⟨rfl, hb1⟩
  have hK := ((((((Kp.start w).add4 _ _ _ _ _).add4 _ _ _ _ _).add4 _ _ _ _ _).add4 _ _ _ _ _).keep ((Below.refl _ _).alloc (Nat.le_refl _) _)).keep hb1
  simp only [World.size_alloc] at hK
  clear hb1
  go_wp2_with fail
  refine (HR.out _ hK.bel).mono ?_
  rintro e w2 ⟨rfl, hb2⟩
  have hK2 := hK.keep hb2
  have hK3 := (hK2.set4 (x := U a) (y := U b) (z := U c) (t := U d) 3 rfl).set4 (x := U a') (y := U b') (z := U c') (t := U d') 2 rfl
  obtain ⟨s0, s1, s2, s3, s4, s5, s6, s7, s8⟩ := hK2.box.head.four
  obtain ⟨r0, r1, r2, r3, r4, r5, r6, r7, r8⟩ := hK2.box.tail.head.four
  obtain ⟨b0, b1, b2, b3, b4, b5, b6, b7, b8⟩ := hK2.box.tail.tail.head.four
  obtain ⟨a0, a1, a2, a3, a4, a5, a6, a7, a8⟩ := hK2.box.tail.tail.tail.head.four
  clear hb2 hK
  go_wp2_with fail
  refine (N1.out _).mono ?_
  rintro e w3 ⟨rfl, hb3⟩
  have hK4 := hK3.keep hb3
  have hK5 := hK4.set4 (x := U x) (y := U y) (z := U z) (t := U t) 3 rfl
  clear s0 s1 s2 s3 s4 s5 s6 s7 s8 r0 r1 r2 r3 r4 r5 r6 r7 r8 b0 b1 b2 b3 b4 b5 b6 b7 b8 a0 a1 a2 a3 a4 a5 a6 a7 a8
  obtain ⟨s0, s1, s2, s3, s4, s5, s6, s7, s8⟩ := hK4.box.head.four
  obtain ⟨r0, r1, r2, r3, r4, r5, r6, r7, r8⟩ := hK4.box.tail.head.four
  obtain ⟨b0, b1, b2, b3, b4, b5, b6, b7, b8⟩ := hK4.box.tail.tail.head.four
  obtain ⟨a0, a1, a2, a3, a4, a5, a6, a7, a8⟩ := hK4.box.tail.tail.tail.head.four
  clear hb3 hK2 hK3
  go_wp2_with fail
  refine (N2.out _).mono ?_
  rintro e w4 ⟨rfl, hb4⟩
  have hK6 := hK5.keep hb4
  have hK7 := hK6.set4 (x := U x') (y := U y') (z := U z') (t := U t') 2 rfl
  clear s0 s1 s2 s3 s4 s5 s6 s7 s8 r0 r1 r2 r3 r4 r5 r6 r7 r8 b0 b1 b2 b3 b4 b5 b6 b7 b8 a0 a1 a2 a3 a4 a5 a6 a7 a8
  obtain ⟨s0, s1, s2, s3, s4, s5, s6, s7, s8⟩ := hK6.box.head.four
  obtain ⟨r0, r1, r2, r3, r4, r5, r6, r7, r8⟩ := hK6.box.tail.head.four
  obtain ⟨b0, b1, b2, b3, b4, b5, b6, b7, b8⟩ := hK6.box.tail.tail.head.four
  obtain ⟨a0, a1, a2, a3, a4, a5, a6, a7, a8⟩ := hK6.box.tail.tail.tail.head.four
  clear hb4 hK4 hK5
  go_upto_region 7 with fail
  clear s0 s1 s2 s3 s4 s5 s6 s7 s8 r0 r1 r2 r3 r4 r5 r6 r7 r8 b0 b1 b2 b3 b4 b5 b6 b7 b8 a0 a1 a2 a3 a4 a5 a6 a7 a8
  clear hK6
  go_cut [52] (fun u wc => u = .bool (!q) ∧ Kp w wc [(w.heap.size + 1 + 1 + 1, [.int .u64 0, .int .u64 0, .int .u64 0, .int .u64 0]), (w.heap.size + 1 + 1, [.int .u64 0, .int .u64 0, .int .u64 0, .int .u64 0]), (w.heap.size + 1, [U x', U y', U z', U t']), (w.heap.size, [U x, U y, U z, U t])])
  case first =>
    cases may
    · go_wp2_with fail
      go_meet
      case rel => exact ⟨by rw [hq.out]; rfl, hK7⟩
    · cases i1
      · go_wp2_with fail
        go_meet
        case rel => exact ⟨by rw [hq.out]; rfl, hK7⟩
      · cases i2
        all_goals
          go_wp2_with fail
          go_meet
          case rel => exact ⟨by rw [hq.out]; rfl, hK7⟩
  case rest =>
    clear hK7 hq
    obtain ⟨rfl, hK8⟩ := hcut
    obtain ⟨s0, s1, s2, s3, s4, s5, s6, s7, s8⟩ := hK8.box.head.four
    obtain ⟨r0, r1, r2, r3, r4, r5, r6, r7, r8⟩ := hK8.box.tail.head.four
    obtain ⟨b0, b1, b2, b3, b4, b5, b6, b7, b8⟩ := hK8.box.tail.tail.head.four
    obtain ⟨a0, a1, a2, a3, a4, a5, a6, a7, a8⟩ := hK8.box.tail.tail.tail.head.four
    cases q
    · go_wp2_with fail
      exact bodyPost_ret (v := .tuple #[V0, V0, .bool false, N 0]) (by simp [results, Tryz.results102, go_sem, nv_zero, s0, s1, s2, s3, r0, r1, r2, r3]) rfl ⟨rfl, ((hK8.set4 1 rfl).set4 0 rfl).bel⟩
    · go_wp2_with fail
      go_region
      all_goals
        go_wp2_with fail
        exact bodyPost_ret (v := .tuple #[Vl x y z t, Vl x' y' z' t', .bool true, N 0]) (by simp [results, Tryz.results102, go_sem, s0, s1, s2, s3, r0, r1, r2, r3]) rfl ⟨rfl, Below.drew ((hK8.set4 1 rfl).set4 0 rfl).bel⟩

set_option maxRecDepth 100000 in
set_option maxHeartbeats 4000000 in
theorem leave_NotLess {p1 p2 : Value} {v m l g v' m' l' g' a b c d a' b' c' d' x y z t x' y' z' t' : BitVec 64} {may i1 i2 : Bool} {e1 e2 : Int} (hr : Hid ((valB v m l g && valB v' m' l' g') = true)) (w : World)
    (HR : Hid (∀ w', Below w.heap.size w w' → Calls Tryz.prog 108 #[p1, p2] w' fun e w'' => e = .returned (.tuple #[Vl a b c d, Vl a' b' c' d', .bool may]) ∧ Below w'.heap.size w' w''))
    (N1 : Hid (∀ w, Calls Tryz.prog 113 #[Vl a b c d] w fun e w' => e = .returned (.tuple #[Vl x y z t, .bool i1, N e1]) ∧ Below w.heap.size w w'))
    (N2 : Hid (∀ w, Calls Tryz.prog 113 #[Vl a' b' c' d'] w fun e w' => e = .returned (.tuple #[Vl x' y' z' t', .bool i2, N e2]) ∧ Below w.heap.size w w')) :
    Calls Tryz.prog 102 #[Vl v m l g, Vl v' m' l' g', .func (.func 108) #[] #[p1, p2]] w fun e w' => e = .returned (.tuple #[lv (may && (i1 && i2)) (Vl x y z t), lv (may && (i1 && i2)) (Vl x' y' z' t'), .bool (may && (i1 && i2)), N 0]) ∧ Below w.heap.size w w' := by
  obtain ⟨z1, H1⟩ : ∃ b, Hid (valB v m l g = b) := ⟨_, rfl⟩
  obtain ⟨z2, H2⟩ : ∃ b, Hid (valB v' m' l' g' = b) := ⟨_, rfl⟩
  rw [H1.out, H2.out] at hr
  obtain ⟨q, hq⟩ : ∃ q, Hid (q = (may && (i1 && i2))) := ⟨_, rfl⟩
  rw [← hq.out]
  go_enter Tryz.func102, Tryz.ntmps102
  go_wp2_with fail
  refine (vcheck2 H1 H2 (by simp) (by simp [go_sem]) (by simp [go_sem]) (by simp [go_sem]) (by simp [go_sem]) (by simp [go_sem]) (by simp [go_sem]) (by simp [go_sem]) (by simp [go_sem])).mono ?_
  rw [hr.out, er_t]
  rintro e w1 ⟨rfl, hb1⟩
  have hK := ((((((Kp.start w).add4 _ _ _ _ _).add4 _ _ _ _ _).add4 _ _ _ _ _).add4 _ _ _ _ _).keep ((Below.refl _ _).alloc (Nat.le_refl _) _)).keep hb1
  simp only [World.size_alloc] at hK
  clear hb1
  go_wp2_with fail
  refine (HR.out _ hK.bel).mono ?_
  rintro e w2 ⟨rfl, hb2⟩
  have hK2 := hK.keep hb2
  have hK3 := (hK2.set4 (x := U a) (y := U b) (z := U c) (t := U d) 3 rfl).set4 (x := U a') (y := U b') (z := U c') (t := U d') 2 rfl
  obtain ⟨s0, s1, s2, s3, s4, s5, s6, s7, s8⟩ := hK2.box.head.four
  obtain ⟨r0, r1, r2, r3, r4, r5, r6, r7, r8⟩ := hK2.box.tail.head.four
  obtain ⟨b0, b1, b2, b3, b4, b5, b6, b7, b8⟩ := hK2.box.tail.tail.head.four
  obtain ⟨a0, a1, a2, a3, a4, a5, a6, a7, a8⟩ := hK2.box.tail.tail.tail.head.four
  clear hb2 hK
  go_wp2_with fail
  refine (N1.out _).mono ?_
  rintro e w3 ⟨rfl, hb3⟩
  have hK4 := hK3.keep hb3
  have hK5 := hK4.set4 (x := U x) (y := U y) (z := U z) (t := U t) 3 rfl
  clear s0 s1 s2 s3 s4 s5 s6 s7 s8 r0 r1 r2 r3 r4 r5 r6 r7 r8 b0 b1 b2 b3 b4 b5 b6 b7 b8 a0 a1 a2 a3 a4 a5 a6 a7 a8
  obtain ⟨s0, s1, s2, s3, s4, s5, s6, s7, s8⟩ := hK4.box.head.four
  obtain ⟨r0, r1, r2, r3, r4, r5, r6, r7, r8⟩ := hK4.box.tail.head.four
  obtain ⟨b0, b1, b2, b3, b4, b5, b6, b7, b8⟩ := hK4.box.tail.tail.head.four
  obtain ⟨a0, a1, a2, a3, a4, a5, a6, a7, a8⟩ := hK4.box.tail.tail.tail.head.four
  clear hb3 hK2 hK3
  go_wp2_with fail
  refine (N2.out _).mono ?_
  rintro e w4 ⟨rfl, hb4⟩
  have hK6 := hK5.keep hb4
  have hK7 := hK6.set4 (x := U x') (y := U y') (z := U z') (t := U t') 2 rfl
  clear s0 s1 s2 s3 s4 s5 s6 s7 s8 r0 r1 r2 r3 r4 r5 r6 r7 r8 b0 b1 b2 b3 b4 b5 b6 b7 b8 a0 a1 a2 a3 a4 a5 a6 a7 a8
  obtain ⟨s0, s1, s2, s3, s4, s5, s6, s7, s8⟩ := hK6.box.head.four
  obtain ⟨r0, r1, r2, r3, r4, r5, r6, r7, r8⟩ := hK6.box.tail.head.four
  obtain ⟨b0, b1, b2, b3, b4, b5, b6, b7, b8⟩ := hK6.box.tail.tail.head.four
  obtain ⟨a0, a1, a2, a3, a4, a5, a6, a7, a8⟩ := hK6.box.tail.tail.tail.head.four
  clear hb4 hK4 hK5
  go_upto_region 7 with fail
  clear s0 s1 s2 s3 s4 s5 s6 s7 s8 r0 r1 r2 r3 r4 r5 r6 r7 r8 b0 b1 b2 b3 b4 b5 b6 b7 b8 a0 a1 a2 a3 a4 a5 a6 a7 a8
  clear hK6
  go_cut [52] (fun u wc => u = .bool (!q) ∧ Kp w wc [(w.heap.size + 1 + 1 + 1, [.int .u64 0, .int .u64 0, .int .u64 0, .int .u64 0]), (w.heap.size + 1 + 1, [.int .u64 0, .int .u64 0, .int .u64 0, .int .u64 0]), (w.heap.size + 1, [U x', U y', U z', U t']), (w.heap.size, [U x, U y, U z, U t])])
  case first =>
    cases may
    · go_wp2_with fail
      go_meet
      case rel => exact ⟨by rw [hq.out]; rfl, hK7⟩
    · cases i1
      · go_wp2_with fail
        go_meet
        case rel => exact ⟨by rw [hq.out]; rfl, hK7⟩
      · cases i2
        all_goals
          go_wp2_with fail
          go_meet
          case rel => exact ⟨by rw [hq.out]; rfl, hK7⟩
  case rest =>
    clear hK7 hq
    obtain ⟨rfl, hK8⟩ := hcut
    obtain ⟨s0, s1, s2, s3, s4, s5, s6, s7, s8⟩ := hK8.box.head.four
    obtain ⟨r0, r1, r2, r3, r4, r5, r6, r7, r8⟩ := hK8.box.tail.head.four
    obtain ⟨b0, b1, b2, b3, b4, b5, b6, b7, b8⟩ := hK8.box.tail.tail.head.four
    obtain ⟨a0, a1, a2, a3, a4, a5, a6, a7, a8⟩ := hK8.box.tail.tail.tail.head.four
    cases q
    · go_wp2_with fail
      exact bodyPost_ret (v := .tuple #[V0, V0, .bool false, N 0]) (by simp [results, Tryz.results102, go_sem, nv_zero, s0, s1, s2, s3, r0, r1, r2, r3]) rfl ⟨rfl, ((hK8.set4 1 rfl).set4 0 rfl).bel⟩
    · go_wp2_with fail
      go_region
      all_goals
        go_wp2_with fail
        exact bodyPost_ret (v := .tuple #[Vl x y z t, Vl x' y' z' t', .bool true, N 0]) (by simp [results, Tryz.results102, go_sem, s0, s1, s2, s3, r0, r1, r2, r3]) rfl ⟨rfl, Below.drew ((hK8.set4 1 rfl).set4 0 rfl).bel⟩

end Go.Proofs.YtkigmocchaikgabGreat

/- The contract of the reference's JoinVal, of right ones. -/
namespace Go.Proofs.YtkigmocchaikgabGreat
open Go.RowKit
attribute [local go_sem] w_and w_or w_xor w_andNot w_and1 w_and63 w_add w_sub w_mul w_sub1 w_add1 w_shl w_shl1 w_shr c_beq c_bne c_beq0 c_bne0 c_beq1 c_bne1 wrap_nv
theorem Kp.drop' {w0 w : World} {p : Nat × List Value} {L : List (Nat × List Value)} (h : Kp w0 w (p :: L)) : Kp w0 w L := ⟨h.bel, h.box.tail, fun q hq => h.lo q (List.mem_cons_of_mem _ hq)⟩
theorem Kp.other1 {w0 w : World} {L : List (Nat × List Value)} (h : Kp w0 w L) {b i : Nat} (v : Value) (hlo : w0.heap.size ≤ b) (hne : ∀ p, p ∈ L → p.1 ≠ b) : Kp w0 (w.setCell ⟨b, i, none⟩ v) L :=
  ⟨h.bel.setCell hlo v, h.box.other hne, h.lo⟩
theorem Kp.other4 {w0 w : World} {L : List (Nat × List Value)} (h : Kp w0 w L) {b : Nat} (x y z t : Value) (hlo : w0.heap.size ≤ b) (hne : ∀ p, p ∈ L → p.1 ≠ b) :
    Kp w0 ((((w.setCell ⟨b, 0, none⟩ x).setCell ⟨b, 1, none⟩ y).setCell ⟨b, 2, none⟩ z).setCell ⟨b, 3, none⟩ t) L :=
  (((h.other1 x hlo hne).other1 y hlo hne).other1 z hlo hne).other1 t hlo hne
end Go.Proofs.YtkigmocchaikgabGreat

/- The contracts of the functions that Equal and Less hand to leave. -/
namespace Go.Proofs.YtkigmocchaikgabGreat
open Go.RowKit
attribute [local go_sem] w_and w_or w_xor w_andNot w_and1 w_and63 w_add w_sub w_mul w_sub1 w_add1 w_shl w_shl1 w_shr c_beq c_bne c_beq0 c_bne0 c_beq1 c_bne1 wrap_nv

/- the two that are captured -/
def Cap (w : World) (b1 b2 : Nat) (v m l g v' m' l' g' : BitVec 64) : Prop :=
  b1 < w.heap.size ∧ b2 < w.heap.size ∧ w.cell? ⟨b1, 0, none⟩ = some (U v) ∧ w.cell? ⟨b1, 1, none⟩ = some (U m) ∧ w.cell? ⟨b1, 2, none⟩ = some (U l) ∧ w.cell? ⟨b1, 3, none⟩ = some (U g)
  ∧ w.cell? ⟨b2, 0, none⟩ = some (U v') ∧ w.cell? ⟨b2, 1, none⟩ = some (U m') ∧ w.cell? ⟨b2, 2, none⟩ = some (U l') ∧ w.cell? ⟨b2, 3, none⟩ = some (U g')
theorem Cap.keep {w w' : World} {b1 b2 : Nat} {v m l g v' m' l' g' : BitVec 64} (h : Cap w b1 b2 v m l g v' m' l' g') (hb : Below w.heap.size w w') : Cap w' b1 b2 v m l g v' m' l' g' := by
  obtain ⟨s1, s2, a0, a1, a2, a3, c0, c1, c2, c3⟩ := h
  exact ⟨Nat.lt_of_lt_of_le s1 hb.size, Nat.lt_of_lt_of_le s2 hb.size, (hb.cell (p := ⟨b1, 0, none⟩) s1).trans a0, (hb.cell (p := ⟨b1, 1, none⟩) s1).trans a1, (hb.cell (p := ⟨b1, 2, none⟩) s1).trans a2, (hb.cell (p := ⟨b1, 3, none⟩) s1).trans a3,
    (hb.cell (p := ⟨b2, 0, none⟩) s2).trans c0, (hb.cell (p := ⟨b2, 1, none⟩) s2).trans c1, (hb.cell (p := ⟨b2, 2, none⟩) s2).trans c2, (hb.cell (p := ⟨b2, 3, none⟩) s2).trans c3⟩

set_option maxRecDepth 100000 in
set_option maxHeartbeats 4000000 in
theorem equal1_is {b1 b2 : Nat} {v m l g v' m' l' g' kv km lo hi : BitVec 64} {may : Bool} {w : World} (hc : Hid (Cap w b1 b2 v m l g v' m' l' g'))
    (HM : Hid (∀ w, Calls Tryz.prog 107 #[Bt v m, Bt v' m'] w fun e w' => e = .returned (.tuple #[Bt kv km, .bool may, N 0]) ∧ Below w.heap.size w w'))
    (m1 : Hid (bmax l l' = lo)) (m2 : Hid (bmin g g' = hi)) :
    Calls Tryz.prog 106 #[PT b1, PT b2] w fun e w' => e = .returned (.tuple #[Vl kv km lo hi, Vl kv km lo hi, .bool may]) ∧ Below w.heap.size w w' := by
  have e1 : (if nv l < nv l' then nv l' else nv l) = nv lo := by rw [← m1.out]; unfold bmax; split <;> rfl
  have e2 : (if nv g' < nv g then nv g' else nv g) = nv hi := by rw [← m2.out]; unfold bmin; split <;> rfl
  obtain ⟨s1, s2, a0, a1, a2, a3, c0, c1, c2, c3⟩ := hc.out
  go_enter Tryz.func106, Tryz.ntmps106
  go_wp2_with fail
  refine (HM.out _).mono ?_
  rintro e w1 ⟨rfl, hb1⟩
  have hK := (((Kp.start w).add4 _ _ _ _ _).add4 _ _ _ _ _).keep hb1
  simp only [World.size_alloc] at hK
  have hcc := hc.out.keep hK.bel
  clear s1 s2 a0 a1 a2 a3 c0 c1 c2 c3
  obtain ⟨s1, s2, a0, a1, a2, a3, c0, c1, c2, c3⟩ := hcc
  obtain ⟨t0, t1, t2, t3, t4, t5, t6, t7, t8⟩ := hK.box.head.four
  obtain ⟨r0, r1, r2, r3, r4, r5, r6, r7, r8⟩ := hK.box.tail.head.four
  go_wp2_with fail
  have hK2 := (hK.add2 (U kv) (U km) 27).add4 (U kv) (U km) (U lo) (U hi) 29
  simp only [World.size_alloc] at hK2
  have n1 : w.heap.size ≠ w1.heap.size + 1 := by omega
  have n2 : w1.heap.size + 1 ≠ w.heap.size := by omega
  have n3 : w.heap.size ≠ w1.heap.size := by omega
  have n4 : w1.heap.size ≠ w.heap.size := by omega
  have n5 : w.heap.size + 1 ≠ w1.heap.size := by omega
  have n6 : w1.heap.size ≠ w.heap.size + 1 := by omega
  clear t0 t1 t2 t3 t4 t5 t6 t7 t8 r0 r1 r2 r3 r4 r5 r6 r7 r8
  obtain ⟨k0, k1, k2, k3, k4, k5, k6, k7, k8⟩ := hK2.box.head.four
  obtain ⟨t0, t1, t2, t3, t4, t5, t6, t7, t8⟩ := hK2.box.tail.tail.head.four
  obtain ⟨r0, r1, r2, r3, r4, r5, r6, r7, r8⟩ := hK2.box.tail.tail.tail.head.four
  go_region
  all_goals
    go_wp2_with fail
    refine bodyPost_ret (v := .tuple #[Vl kv km lo hi, Vl kv km lo hi, .bool may]) ?_ rfl ⟨rfl, ?_⟩
    · simp [results, Tryz.results106, go_sem, t0, t1, t2, t3, r0, r1, r2, r3]
    · exact Below.drew ((hK2.set4 3 rfl).set4 2 rfl).bel

set_option maxRecDepth 100000 in
set_option maxHeartbeats 4000000 in
theorem notLess1_is {b1 b2 : Nat} {v m l g v' m' l' g' : BitVec 64} {w : World} (hc : Hid (Cap w b1 b2 v m l g v' m' l' g')) :
    Calls Tryz.prog 108 #[PT b1, PT b2] w fun e w' => e = .returned (.tuple #[Vl v m (bmax l l') (bmin g g), Vl v' m' (bmax l' l') (bmin g' g), .bool true]) ∧ Below w.heap.size w w' := by
  obtain ⟨s1, s2, a0, a1, a2, a3, c0, c1, c2, c3⟩ := hc.out
  have hK0 := ((Kp.start w).add4 (.int .u64 0) (.int .u64 0) (.int .u64 0) (.int .u64 0) 29).add4 (.int .u64 0) (.int .u64 0) (.int .u64 0) (.int .u64 0) 29
  simp only [World.size_alloc] at hK0
  go_enter Tryz.func108, Tryz.ntmps108
  go_wp2_with fail
  have hS0 : Kp w _ [] := (hK0).drop'.drop'.keep (Below.drew (Below.refl _ _))
  have hR0 := (hK0).keep (Below.drew (Below.refl _ _))
  have HS : Hid (∀ w', Kp w w' [] → Kp w w' [] ∧ w'.cell? ⟨b1, 0, none⟩ = some (U v) ∧ w'.cell? ⟨b1, 1, none⟩ = some (U m) ∧ w'.cell? ⟨b1, 2, none⟩ = some (U l) ∧ w'.cell? ⟨b1, 3, none⟩ = some (U g) ∧ w'.cell? ⟨b2, 0, none⟩ = some (U v') ∧ w'.cell? ⟨b2, 1, none⟩ = some (U m') ∧ w'.cell? ⟨b2, 2, none⟩ = some (U l') ∧ w'.cell? ⟨b2, 3, none⟩ = some (U g')) := by
    intro w' hk
    obtain ⟨_, _, d0, d1, d2, d3, f0, f1, f2, f3⟩ := hc.out.keep hk.bel
    exact ⟨hk, d0, d1, d2, d3, f0, f1, f2, f3⟩
  go_region_held3 (fun w' => Kp w w' [] ∧ w'.cell? ⟨b1, 0, none⟩ = some (U v) ∧ w'.cell? ⟨b1, 1, none⟩ = some (U m) ∧ w'.cell? ⟨b1, 2, none⟩ = some (U l) ∧ w'.cell? ⟨b1, 3, none⟩ = some (U g) ∧ w'.cell? ⟨b2, 0, none⟩ = some (U v') ∧ w'.cell? ⟨b2, 1, none⟩ = some (U m') ∧ w'.cell? ⟨b2, 2, none⟩ = some (U l') ∧ w'.cell? ⟨b2, 3, none⟩ = some (U g'))
    ((refine HS.out _ ?_; repeat (first | refine Kp.other4 ?_ _ _ _ _ (by first | exact Nat.le_refl _ | omega) (by simp) | exact hS0 | refine Kp.keep ?_ (by assumption) | refine Kp.keep ?_ (Below.drew (Below.refl _ _)))))
    (first
      | (go_at_call 109; refine (between_any _ _ _ _ _ _ _).mono ?_; rintro e wk ⟨rfl, hb⟩; first | (have hR2 := hR1.keep hb; obtain ⟨t0, t1, t2, t3, t4, t5, t6, t7, t8⟩ := hR2.box.head.four; obtain ⟨r0, r1, r2, r3, r4, r5, r6, r7, r8⟩ := hR2.box.tail.head.four) | (have hR1 := hR0.keep hb)))
  all_goals
    go_wp2_with fail
    refine bodyPost_ret (v := .tuple #[Vl v m (bmax l l') (bmin g g), Vl v' m' (bmax l' l') (bmin g' g), .bool true]) ?_ rfl ⟨rfl, ?_⟩
    · simp [results, Tryz.results108, go_sem, t0, t1, t2, t3, r0, r1, r2, r3]
    · exact ((hR2.set4 1 rfl).set4 0 rfl).bel

end Go.Proofs.YtkigmocchaikgabGreat

/- The contracts of the functions that Less and Other hand to leave. (Written by gen_w28.py.) -/
namespace Go.Proofs.YtkigmocchaikgabGreat
open Go.RowKit
attribute [local go_sem] w_and w_or w_xor w_andNot w_and1 w_and63 w_add w_sub w_mul w_sub1 w_add1 w_shl w_shl1 w_shr c_beq c_bne c_beq0 c_bne0 c_beq1 c_bne1 wrap_nv
theorem c_beqT (x : BitVec 64) : (nv x == 18446744073709551615) = eqb x top := by rw [← nv_top]; exact c_beq x top
attribute [local go_sem] c_beqT

set_option maxRecDepth 100000 in
set_option maxHeartbeats 4000000 in
theorem less1_no {b1 b2 : Nat} {v m l g v' m' l' g' : BitVec 64} {w : World} (hc : Hid (Cap w b1 b2 v' m' l' g' v m l g)) (hn : Hid ((eqb g' zero || eqb l top) = true)) :
    Calls Tryz.prog 110 #[PT b1, PT b2] w fun e w' => e = .returned (.tuple #[Vl v m l g, Vl v' m' l' g', .bool false]) ∧ Below w.heap.size w w' := by
  obtain ⟨s1, s2, a0, a1, a2, a3, c0, c1, c2, c3⟩ := hc.out
  have hK0 := ((Kp.start w).add4 (.int .u64 0) (.int .u64 0) (.int .u64 0) (.int .u64 0) 29).add4 (.int .u64 0) (.int .u64 0) (.int .u64 0) (.int .u64 0) 29
  simp only [World.size_alloc] at hK0
  obtain ⟨t0, t1, t2, t3, t4, t5, t6, t7, t8⟩ := hK0.box.head.four
  obtain ⟨r0, r1, r2, r3, r4, r5, r6, r7, r8⟩ := hK0.box.tail.head.four
  have n1 : b1 ≠ w.heap.size := by omega
  have n2 : b2 ≠ w.heap.size := by omega
  have n3 : w.heap.size ≠ b1 := by omega
  have n4 : w.heap.size ≠ b2 := by omega
  have n5 : b1 ≠ w.heap.size + 1 := by omega
  have n6 : b2 ≠ w.heap.size + 1 := by omega
  have n7 : w.heap.size + 1 ≠ b1 := by omega
  have n8 : w.heap.size + 1 ≠ b2 := by omega
  cases z1 : eqb g' zero
  · have z2 : eqb l top = true := by have := hn.out; rw [z1] at this; simpa using this
    go_enter Tryz.func110, Tryz.ntmps110
    go_wp2_with fail
    go_region
    all_goals
      go_wp2_with fail
      refine bodyPost_ret (v := .tuple #[Vl v m l g, Vl v' m' l' g', .bool false]) ?_ rfl ⟨rfl, ?_⟩
      · simp [results, Tryz.results110, go_sem]
      · exact (by repeat (first | exact Below.refl _ _ | assumption | refine below_drewN ?_ _ | refine Below.drew ?_ | refine Below.alloc ?_ (by first | exact Nat.le_refl _ | (simp; done) | (simp; omega) | omega) _ | refine Below.setCell ?_ (by first | exact Nat.le_refl _ | (simp; done) | (simp; omega) | omega) _ | refine Below.trans ?_ (Below.mono (by assumption) (by first | exact Nat.le_refl _ | (simp; done) | (simp; omega) | omega))))
  · go_enter Tryz.func110, Tryz.ntmps110
    go_wp2_with fail
    go_region
    all_goals
      go_wp2_with fail
      refine bodyPost_ret (v := .tuple #[Vl v m l g, Vl v' m' l' g', .bool false]) ?_ rfl ⟨rfl, ?_⟩
      · simp [results, Tryz.results110, go_sem]
      · exact (by repeat (first | exact Below.refl _ _ | assumption | refine below_drewN ?_ _ | refine Below.drew ?_ | refine Below.alloc ?_ (by first | exact Nat.le_refl _ | (simp; done) | (simp; omega) | omega) _ | refine Below.setCell ?_ (by first | exact Nat.le_refl _ | (simp; done) | (simp; omega) | omega) _ | refine Below.trans ?_ (Below.mono (by assumption) (by first | exact Nat.le_refl _ | (simp; done) | (simp; omega) | omega))))
set_option maxRecDepth 100000 in
set_option maxHeartbeats 4000000 in
theorem less1_yes {b1 b2 : Nat} {v m l g v' m' l' g' : BitVec 64} {w : World} (hc : Hid (Cap w b1 b2 v' m' l' g' v m l g)) (z1 : eqb g' zero = false) (z2 : eqb l top = false) :
    Calls Tryz.prog 110 #[PT b1, PT b2] w fun e w' => e = .returned (.tuple #[Vl v m (bmax l l) (bmin g (bsub g' one)), Vl v' m' (bmax l' (badd l one)) (bmin g' g'), .bool true]) ∧ Below w.heap.size w w' := by
  obtain ⟨s1, s2, a0, a1, a2, a3, c0, c1, c2, c3⟩ := hc.out
  have hK0 := ((Kp.start w).add4 (.int .u64 0) (.int .u64 0) (.int .u64 0) (.int .u64 0) 29).add4 (.int .u64 0) (.int .u64 0) (.int .u64 0) (.int .u64 0) 29
  simp only [World.size_alloc] at hK0
  go_enter Tryz.func110, Tryz.ntmps110
  go_wp2_with fail
  go_quiet (fail)
  go_wp2_with fail
  have hS0 : Kp w _ [] := (hK0.drew nq).drop'.drop'.keep (Below.drew (Below.refl _ _))
  have hR0 := (hK0.drew nq).keep (Below.drew (Below.refl _ _))
  have HS : Hid (∀ w', Kp w w' [] → Kp w w' [] ∧ w'.cell? ⟨b1, 0, none⟩ = some (U v') ∧ w'.cell? ⟨b1, 1, none⟩ = some (U m') ∧ w'.cell? ⟨b1, 2, none⟩ = some (U l') ∧ w'.cell? ⟨b1, 3, none⟩ = some (U g') ∧ w'.cell? ⟨b2, 0, none⟩ = some (U v) ∧ w'.cell? ⟨b2, 1, none⟩ = some (U m) ∧ w'.cell? ⟨b2, 2, none⟩ = some (U l) ∧ w'.cell? ⟨b2, 3, none⟩ = some (U g)) := by
    intro w' hk
    obtain ⟨_, _, d0, d1, d2, d3, f0, f1, f2, f3⟩ := hc.out.keep hk.bel
    exact ⟨hk, d0, d1, d2, d3, f0, f1, f2, f3⟩
  go_region_held3 (fun w' => Kp w w' [] ∧ w'.cell? ⟨b1, 0, none⟩ = some (U v') ∧ w'.cell? ⟨b1, 1, none⟩ = some (U m') ∧ w'.cell? ⟨b1, 2, none⟩ = some (U l') ∧ w'.cell? ⟨b1, 3, none⟩ = some (U g') ∧ w'.cell? ⟨b2, 0, none⟩ = some (U v) ∧ w'.cell? ⟨b2, 1, none⟩ = some (U m) ∧ w'.cell? ⟨b2, 2, none⟩ = some (U l) ∧ w'.cell? ⟨b2, 3, none⟩ = some (U g))
    ((refine HS.out _ ?_; repeat (first | refine Kp.other4 ?_ _ _ _ _ (by first | exact Nat.le_refl _ | omega) (by simp) | exact hS0 | refine Kp.keep ?_ (by assumption) | refine Kp.keep ?_ (Below.drew (Below.refl _ _)))))
    (first
      | (go_at_call 109; refine (between_any _ _ _ _ _ _ _).mono ?_; rintro e wk ⟨rfl, hb⟩; first | (have hR2 := hR1.keep hb; obtain ⟨t0, t1, t2, t3, t4, t5, t6, t7, t8⟩ := hR2.box.head.four; obtain ⟨r0, r1, r2, r3, r4, r5, r6, r7, r8⟩ := hR2.box.tail.head.four) | (have hR1 := hR0.keep hb)))
  all_goals
    go_wp2_with fail
    refine bodyPost_ret (v := .tuple #[Vl v m (bmax l l) (bmin g (bsub g' one)), Vl v' m' (bmax l' (badd l one)) (bmin g' g'), .bool true]) ?_ rfl ⟨rfl, ?_⟩
    · simp [results, Tryz.results110, go_sem, t0, t1, t2, t3, r0, r1, r2, r3]
    · exact ((hR2.set4 1 rfl).set4 0 rfl).bel

set_option maxRecDepth 100000 in
set_option maxHeartbeats 4000000 in
theorem other1_is {b1 b2 : Nat} {v m l g v' m' l' g' : BitVec 64} {w : World} {q : Bool} (hc : Hid (Cap w b1 b2 v m l g v' m' l' g')) (hq : Hid (q = (eqb l g && (eqb l' g' && eqb l l')))) :
    Calls Tryz.prog 103 #[PT b1, PT b2] w fun e w' => e = .returned (.tuple #[Vl v m (woL l l' g') (woH l g l' g'), Vl v' m' (woL l' l g) (woH l' g' l g), .bool (!q)]) ∧ Below w.heap.size w w' := by
  obtain ⟨s1, s2, a0, a1, a2, a3, c0, c1, c2, c3⟩ := hc.out
  obtain ⟨y1, Y1⟩ : ∃ b, Hid (eqb l g = b) := ⟨_, rfl⟩
  obtain ⟨y2, Y2⟩ : ∃ b, Hid (eqb l' g' = b) := ⟨_, rfl⟩
  obtain ⟨y3, Y3⟩ : ∃ b, eqb l l' = b := ⟨_, rfl⟩
  rw [Y1.out, Y2.out, Y3] at hq
  have hK0 := ((Kp.start w).add4 (.int .u64 0) (.int .u64 0) (.int .u64 0) (.int .u64 0) 29).add4 (.int .u64 0) (.int .u64 0) (.int .u64 0) (.int .u64 0) 29
  simp only [World.size_alloc] at hK0
  go_enter Tryz.func103, Tryz.ntmps103
  go_upto_region 1 with fail
  go_cut [5] (fun u wc => u = .bool q ∧ Kp w wc [(w.heap.size + 1, [.int .u64 0, .int .u64 0, .int .u64 0, .int .u64 0]), (w.heap.size, [.int .u64 0, .int .u64 0, .int .u64 0, .int .u64 0])])
  case first =>
    go_wp2_with fail
    refine (alone_is Y1.out _).mono ?_
    rintro e w1 ⟨rfl, hb1⟩
    have hK1 := hK0.keep hb1
    clear s1 s2 a0 a1 a2 a3 c0 c1 c2 c3
    obtain ⟨s1, s2, a0, a1, a2, a3, c0, c1, c2, c3⟩ := hc.out.keep hK1.bel
    cases y1
    · go_wp2_with fail
      go_meet
      case rel => exact ⟨by rw [hq.out]; rfl, hK1⟩
    · go_wp2_with fail
      refine (alone_is Y2.out _).mono ?_
      rintro e w2 ⟨rfl, hb2⟩
      have hK2 := hK1.keep hb2
      clear s1 s2 a0 a1 a2 a3 c0 c1 c2 c3
      obtain ⟨s1, s2, a0, a1, a2, a3, c0, c1, c2, c3⟩ := hc.out.keep hK2.bel
      cases y2
      · go_wp2_with fail
        go_meet
        case rel => exact ⟨by rw [hq.out]; rfl, hK2⟩
      · cases y3
        all_goals
          go_wp2_with fail
          go_meet
          case rel => exact ⟨by rw [hq.out]; rfl, hK2⟩
  case rest =>
    clear hK0 hq Y1 Y2 Y3 s1 s2 a0 a1 a2 a3 c0 c1 c2 c3
    obtain ⟨rfl, hK0⟩ := hcut
    obtain ⟨s1, s2, a0, a1, a2, a3, c0, c1, c2, c3⟩ := hc.out.keep hK0.bel
    go_wp2_with fail
    have hS0 : Kp w _ [] := (hK0).drop'.drop'.keep (Below.drew (Below.refl _ _))
    have hR0 := (hK0).keep (Below.drew (Below.refl _ _))
    have HS : Hid (∀ w', Kp w w' [] → Kp w w' [] ∧ w'.cell? ⟨b1, 0, none⟩ = some (U v) ∧ w'.cell? ⟨b1, 1, none⟩ = some (U m) ∧ w'.cell? ⟨b1, 2, none⟩ = some (U l) ∧ w'.cell? ⟨b1, 3, none⟩ = some (U g) ∧ w'.cell? ⟨b2, 0, none⟩ = some (U v') ∧ w'.cell? ⟨b2, 1, none⟩ = some (U m') ∧ w'.cell? ⟨b2, 2, none⟩ = some (U l') ∧ w'.cell? ⟨b2, 3, none⟩ = some (U g')) := by
      intro w' hk
      obtain ⟨_, _, d0, d1, d2, d3, f0, f1, f2, f3⟩ := hc.out.keep hk.bel
      exact ⟨hk, d0, d1, d2, d3, f0, f1, f2, f3⟩
    go_region_held3 (fun w' => Kp w w' [] ∧ w'.cell? ⟨b1, 0, none⟩ = some (U v) ∧ w'.cell? ⟨b1, 1, none⟩ = some (U m) ∧ w'.cell? ⟨b1, 2, none⟩ = some (U l) ∧ w'.cell? ⟨b1, 3, none⟩ = some (U g) ∧ w'.cell? ⟨b2, 0, none⟩ = some (U v') ∧ w'.cell? ⟨b2, 1, none⟩ = some (U m') ∧ w'.cell? ⟨b2, 2, none⟩ = some (U l') ∧ w'.cell? ⟨b2, 3, none⟩ = some (U g'))
      ((refine HS.out _ ?_; repeat (first | refine Kp.other4 ?_ _ _ _ _ (by first | exact Nat.le_refl _ | omega) (by simp) | exact hS0 | refine Kp.keep ?_ (by assumption) | refine Kp.keep ?_ (Below.drew (Below.refl _ _)))))
      (first
        | (go_at_call 105; refine (without_is _ _ _ _ _ _ _ _ _).mono ?_; rintro e wk ⟨rfl, hb⟩; first | (have hR2 := hR1.keep hb; obtain ⟨t0, t1, t2, t3, t4, t5, t6, t7, t8⟩ := hR2.box.head.four; obtain ⟨r0, r1, r2, r3, r4, r5, r6, r7, r8⟩ := hR2.box.tail.head.four) | (have hR1 := hR0.keep hb)))
    all_goals
      go_wp2_with fail
      refine bodyPost_ret (v := .tuple #[Vl v m (woL l l' g') (woH l g l' g'), Vl v' m' (woL l' l g) (woH l' g' l g), .bool (!q)]) ?_ rfl ⟨rfl, ?_⟩
      · simp [results, Tryz.results103, go_sem, t0, t1, t2, t3, r0, r1, r2, r3]
      · exact ((hR2.set4 1 rfl).set4 0 rfl).bel

end Go.Proofs.YtkigmocchaikgabGreat

/- The contracts of package calc's Equal, Other, Less and NotLess, over what leave is handed. (Written by gen_w29.py.) -/
namespace Go.Proofs.YtkigmocchaikgabGreat
open Go.RowKit
attribute [local go_sem] w_and w_or w_xor w_andNot w_and1 w_and63 w_add w_sub w_mul w_sub1 w_add1 w_shl w_shl1 w_shr c_beq c_bne c_beq0 c_bne0 c_beq1 c_bne1 wrap_nv

set_option maxRecDepth 100000 in
set_option maxHeartbeats 4000000 in
theorem calcEqual_right {v m l g v' m' l' g' a b c d a' b' c' d' x y z t x' y' z' t' : BitVec 64} {may i1 i2 : Bool} {e1 e2 : Int} (hr : Hid ((valB v m l g && valB v' m' l' g') = true)) (w : World)
    (HR : Hid (∀ (B : Nat) w', Cap w' B (B + 1) v m l g v' m' l' g' → Calls Tryz.prog 106 #[PT B, PT (B + 1)] w' fun e w'' => e = .returned (.tuple #[Vl a b c d, Vl a' b' c' d', .bool may]) ∧ Below w'.heap.size w' w''))
    (N1 : Hid (∀ w, Calls Tryz.prog 113 #[Vl a b c d] w fun e w' => e = .returned (.tuple #[Vl x y z t, .bool i1, N e1]) ∧ Below w.heap.size w w'))
    (N2 : Hid (∀ w, Calls Tryz.prog 113 #[Vl a' b' c' d'] w fun e w' => e = .returned (.tuple #[Vl x' y' z' t', .bool i2, N e2]) ∧ Below w.heap.size w w')) :
    Calls Tryz.prog 71 #[Vl v m l g, Vl v' m' l' g'] w fun e w' => e = .returned (.tuple #[lv (may && (i1 && i2)) (Vl x y z t), lv (may && (i1 && i2)) (Vl x' y' z' t'), .bool (may && (i1 && i2)), N 0]) ∧ Below w.heap.size w w' := by
  have hK0 := ((((Kp.start w).add4 (U v) (U m) (U l) (U g) 29).add4 (U v') (U m') (U l') (U g') 29).add4 (.int .u64 0) (.int .u64 0) (.int .u64 0) (.int .u64 0) 29).add4 (.int .u64 0) (.int .u64 0) (.int .u64 0) (.int .u64 0) 29
  simp only [World.size_alloc] at hK0
  have HC : Hid (∀ w', Below ((((w.alloc (.cells #[U v, U m, U l, U g] 29)).alloc (.cells #[U v', U m', U l', U g'] 29)).alloc (.cells #[.int .u64 0, .int .u64 0, .int .u64 0, .int .u64 0] 29)).alloc (.cells #[.int .u64 0, .int .u64 0, .int .u64 0, .int .u64 0] 29)).heap.size ((((w.alloc (.cells #[U v, U m, U l, U g] 29)).alloc (.cells #[U v', U m', U l', U g'] 29)).alloc (.cells #[.int .u64 0, .int .u64 0, .int .u64 0, .int .u64 0] 29)).alloc (.cells #[.int .u64 0, .int .u64 0, .int .u64 0, .int .u64 0] 29)) w' → Cap w' w.heap.size (w.heap.size + 1) v m l g v' m' l' g') := by
    intro w' hb
    have hk := hK0.keep hb
    obtain ⟨b0, b1, b2, b3, _, _, _, _, b8⟩ := hk.box.tail.tail.head.four
    obtain ⟨a0, a1, a2, a3, _, _, _, _, a8⟩ := hk.box.tail.tail.tail.head.four
    exact ⟨a8, b8, a0, a1, a2, a3, b0, b1, b2, b3⟩
  obtain ⟨q, hq⟩ : ∃ q, Hid (q = (may && (i1 && i2))) := ⟨_, rfl⟩
  have HL : Hid (Calls Tryz.prog 102 #[Vl v m l g, Vl v' m' l' g', .func (.func 106) #[] #[PT w.heap.size, PT (w.heap.size + 1)]] ((((w.alloc (.cells #[U v, U m, U l, U g] 29)).alloc (.cells #[U v', U m', U l', U g'] 29)).alloc (.cells #[.int .u64 0, .int .u64 0, .int .u64 0, .int .u64 0] 29)).alloc (.cells #[.int .u64 0, .int .u64 0, .int .u64 0, .int .u64 0] 29)) fun e w' => e = .returned (.tuple #[lv q (Vl x y z t), lv q (Vl x' y' z' t'), .bool q, N 0]) ∧ Below ((((w.alloc (.cells #[U v, U m, U l, U g] 29)).alloc (.cells #[U v', U m', U l', U g'] 29)).alloc (.cells #[.int .u64 0, .int .u64 0, .int .u64 0, .int .u64 0] 29)).alloc (.cells #[.int .u64 0, .int .u64 0, .int .u64 0, .int .u64 0] 29)).heap.size ((((w.alloc (.cells #[U v, U m, U l, U g] 29)).alloc (.cells #[U v', U m', U l', U g'] 29)).alloc (.cells #[.int .u64 0, .int .u64 0, .int .u64 0, .int .u64 0] 29)).alloc (.cells #[.int .u64 0, .int .u64 0, .int .u64 0, .int .u64 0] 29)) w') := by
    show Calls _ _ _ _ _
    rw [hq.out]
    exact leave_Equal hr _ (hid (fun w' hb => HR.out w.heap.size w' (HC.out w' hb))) N1 N2
  rw [← hq.out]
  clear hq N1 N2 HR HC hr
  go_enter Tryz.func71, Tryz.ntmps71
  go_wp2_with fail
  refine HL.out.mono ?_
  rintro e w1 ⟨rfl, hb1⟩
  have hK := hK0.keep hb1
  clear HL
  obtain ⟨s0, s1, s2, s3, s4, s5, s6, s7, s8⟩ := hK.box.head.four
  obtain ⟨r0, r1, r2, r3, r4, r5, r6, r7, r8⟩ := hK.box.tail.head.four
  obtain ⟨b0, b1, b2, b3, b4, b5, b6, b7, b8⟩ := hK.box.tail.tail.head.four
  obtain ⟨a0, a1, a2, a3, a4, a5, a6, a7, a8⟩ := hK.box.tail.tail.tail.head.four
  cases q
  · have e0 : ∀ a, lv false a = V0 := fun a => rfl
    simp only [e0]
    go_wp2_with fail
    exact bodyPost_ret (v := .tuple #[V0, V0, .bool false, N 0]) (by simp [results, Tryz.results71, go_sem, s0, s1, s2, s3, r0, r1, r2, r3]) rfl ⟨rfl, ((hK.set4 1 rfl).set4 0 rfl).bel⟩
  · have e0 : ∀ a, lv true a = a := fun a => rfl
    simp only [e0]
    go_wp2_with fail
    exact bodyPost_ret (v := .tuple #[Vl x y z t, Vl x' y' z' t', .bool true, N 0]) (by simp [results, Tryz.results71, go_sem, s0, s1, s2, s3, r0, r1, r2, r3]) rfl ⟨rfl, ((hK.set4 1 rfl).set4 0 rfl).bel⟩

set_option maxRecDepth 100000 in
set_option maxHeartbeats 4000000 in
theorem calcOther_right {v m l g v' m' l' g' a b c d a' b' c' d' x y z t x' y' z' t' : BitVec 64} {may i1 i2 : Bool} {e1 e2 : Int} (hr : Hid ((valB v m l g && valB v' m' l' g') = true)) (w : World)
    (HR : Hid (∀ (B : Nat) w', Cap w' B (B + 1) v m l g v' m' l' g' → Calls Tryz.prog 103 #[PT B, PT (B + 1)] w' fun e w'' => e = .returned (.tuple #[Vl a b c d, Vl a' b' c' d', .bool may]) ∧ Below w'.heap.size w' w''))
    (N1 : Hid (∀ w, Calls Tryz.prog 113 #[Vl a b c d] w fun e w' => e = .returned (.tuple #[Vl x y z t, .bool i1, N e1]) ∧ Below w.heap.size w w'))
    (N2 : Hid (∀ w, Calls Tryz.prog 113 #[Vl a' b' c' d'] w fun e w' => e = .returned (.tuple #[Vl x' y' z' t', .bool i2, N e2]) ∧ Below w.heap.size w w')) :
    Calls Tryz.prog 70 #[Vl v m l g, Vl v' m' l' g'] w fun e w' => e = .returned (.tuple #[lv (may && (i1 && i2)) (Vl x y z t), lv (may && (i1 && i2)) (Vl x' y' z' t'), .bool (may && (i1 && i2)), N 0]) ∧ Below w.heap.size w w' := by
  have hK0 := ((((Kp.start w).add4 (U v) (U m) (U l) (U g) 29).add4 (U v') (U m') (U l') (U g') 29).add4 (.int .u64 0) (.int .u64 0) (.int .u64 0) (.int .u64 0) 29).add4 (.int .u64 0) (.int .u64 0) (.int .u64 0) (.int .u64 0) 29
  simp only [World.size_alloc] at hK0
  have HC : Hid (∀ w', Below ((((w.alloc (.cells #[U v, U m, U l, U g] 29)).alloc (.cells #[U v', U m', U l', U g'] 29)).alloc (.cells #[.int .u64 0, .int .u64 0, .int .u64 0, .int .u64 0] 29)).alloc (.cells #[.int .u64 0, .int .u64 0, .int .u64 0, .int .u64 0] 29)).heap.size ((((w.alloc (.cells #[U v, U m, U l, U g] 29)).alloc (.cells #[U v', U m', U l', U g'] 29)).alloc (.cells #[.int .u64 0, .int .u64 0, .int .u64 0, .int .u64 0] 29)).alloc (.cells #[.int .u64 0, .int .u64 0, .int .u64 0, .int .u64 0] 29)) w' → Cap w' w.heap.size (w.heap.size + 1) v m l g v' m' l' g') := by
    intro w' hb
    have hk := hK0.keep hb
    obtain ⟨b0, b1, b2, b3, _, _, _, _, b8⟩ := hk.box.tail.tail.head.four
    obtain ⟨a0, a1, a2, a3, _, _, _, _, a8⟩ := hk.box.tail.tail.tail.head.four
    exact ⟨a8, b8, a0, a1, a2, a3, b0, b1, b2, b3⟩
  obtain ⟨q, hq⟩ : ∃ q, Hid (q = (may && (i1 && i2))) := ⟨_, rfl⟩
  have HL : Hid (Calls Tryz.prog 102 #[Vl v m l g, Vl v' m' l' g', .func (.func 103) #[] #[PT w.heap.size, PT (w.heap.size + 1)]] ((((w.alloc (.cells #[U v, U m, U l, U g] 29)).alloc (.cells #[U v', U m', U l', U g'] 29)).alloc (.cells #[.int .u64 0, .int .u64 0, .int .u64 0, .int .u64 0] 29)).alloc (.cells #[.int .u64 0, .int .u64 0, .int .u64 0, .int .u64 0] 29)) fun e w' => e = .returned (.tuple #[lv q (Vl x y z t), lv q (Vl x' y' z' t'), .bool q, N 0]) ∧ Below ((((w.alloc (.cells #[U v, U m, U l, U g] 29)).alloc (.cells #[U v', U m', U l', U g'] 29)).alloc (.cells #[.int .u64 0, .int .u64 0, .int .u64 0, .int .u64 0] 29)).alloc (.cells #[.int .u64 0, .int .u64 0, .int .u64 0, .int .u64 0] 29)).heap.size ((((w.alloc (.cells #[U v, U m, U l, U g] 29)).alloc (.cells #[U v', U m', U l', U g'] 29)).alloc (.cells #[.int .u64 0, .int .u64 0, .int .u64 0, .int .u64 0] 29)).alloc (.cells #[.int .u64 0, .int .u64 0, .int .u64 0, .int .u64 0] 29)) w') := by
    show Calls _ _ _ _ _
    rw [hq.out]
    exact leave_Other hr _ (hid (fun w' hb => HR.out w.heap.size w' (HC.out w' hb))) N1 N2
  rw [← hq.out]
  clear hq N1 N2 HR HC hr
  go_enter Tryz.func70, Tryz.ntmps70
  go_wp2_with fail
  refine HL.out.mono ?_
  rintro e w1 ⟨rfl, hb1⟩
  have hK := hK0.keep hb1
  clear HL
  obtain ⟨s0, s1, s2, s3, s4, s5, s6, s7, s8⟩ := hK.box.head.four
  obtain ⟨r0, r1, r2, r3, r4, r5, r6, r7, r8⟩ := hK.box.tail.head.four
  obtain ⟨b0, b1, b2, b3, b4, b5, b6, b7, b8⟩ := hK.box.tail.tail.head.four
  obtain ⟨a0, a1, a2, a3, a4, a5, a6, a7, a8⟩ := hK.box.tail.tail.tail.head.four
  cases q
  · have e0 : ∀ a, lv false a = V0 := fun a => rfl
    simp only [e0]
    go_wp2_with fail
    exact bodyPost_ret (v := .tuple #[V0, V0, .bool false, N 0]) (by simp [results, Tryz.results70, go_sem, s0, s1, s2, s3, r0, r1, r2, r3]) rfl ⟨rfl, ((hK.set4 1 rfl).set4 0 rfl).bel⟩
  · have e0 : ∀ a, lv true a = a := fun a => rfl
    simp only [e0]
    go_wp2_with fail
    exact bodyPost_ret (v := .tuple #[Vl x y z t, Vl x' y' z' t', .bool true, N 0]) (by simp [results, Tryz.results70, go_sem, s0, s1, s2, s3, r0, r1, r2, r3]) rfl ⟨rfl, ((hK.set4 1 rfl).set4 0 rfl).bel⟩

set_option maxRecDepth 100000 in
set_option maxHeartbeats 4000000 in
theorem calcLess_right {v m l g v' m' l' g' a b c d a' b' c' d' x y z t x' y' z' t' : BitVec 64} {may i1 i2 : Bool} {e1 e2 : Int} (hr : Hid ((valB v m l g && valB v' m' l' g') = true)) (w : World)
    (HR : Hid (∀ (B : Nat) w', Cap w' (B + 1) B v' m' l' g' v m l g → Calls Tryz.prog 110 #[PT (B + 1), PT B] w' fun e w'' => e = .returned (.tuple #[Vl a b c d, Vl a' b' c' d', .bool may]) ∧ Below w'.heap.size w' w''))
    (N1 : Hid (∀ w, Calls Tryz.prog 113 #[Vl a b c d] w fun e w' => e = .returned (.tuple #[Vl x y z t, .bool i1, N e1]) ∧ Below w.heap.size w w'))
    (N2 : Hid (∀ w, Calls Tryz.prog 113 #[Vl a' b' c' d'] w fun e w' => e = .returned (.tuple #[Vl x' y' z' t', .bool i2, N e2]) ∧ Below w.heap.size w w')) :
    Calls Tryz.prog 73 #[Vl v m l g, Vl v' m' l' g'] w fun e w' => e = .returned (.tuple #[lv (may && (i1 && i2)) (Vl x y z t), lv (may && (i1 && i2)) (Vl x' y' z' t'), .bool (may && (i1 && i2)), N 0]) ∧ Below w.heap.size w w' := by
  have hK0 := ((((Kp.start w).add4 (U v) (U m) (U l) (U g) 29).add4 (U v') (U m') (U l') (U g') 29).add4 (.int .u64 0) (.int .u64 0) (.int .u64 0) (.int .u64 0) 29).add4 (.int .u64 0) (.int .u64 0) (.int .u64 0) (.int .u64 0) 29
  simp only [World.size_alloc] at hK0
  have HC : Hid (∀ w', Below ((((w.alloc (.cells #[U v, U m, U l, U g] 29)).alloc (.cells #[U v', U m', U l', U g'] 29)).alloc (.cells #[.int .u64 0, .int .u64 0, .int .u64 0, .int .u64 0] 29)).alloc (.cells #[.int .u64 0, .int .u64 0, .int .u64 0, .int .u64 0] 29)).heap.size ((((w.alloc (.cells #[U v, U m, U l, U g] 29)).alloc (.cells #[U v', U m', U l', U g'] 29)).alloc (.cells #[.int .u64 0, .int .u64 0, .int .u64 0, .int .u64 0] 29)).alloc (.cells #[.int .u64 0, .int .u64 0, .int .u64 0, .int .u64 0] 29)) w' → Cap w' (w.heap.size + 1) w.heap.size v' m' l' g' v m l g) := by
    intro w' hb
    have hk := hK0.keep hb
    obtain ⟨b0, b1, b2, b3, _, _, _, _, b8⟩ := hk.box.tail.tail.head.four
    obtain ⟨a0, a1, a2, a3, _, _, _, _, a8⟩ := hk.box.tail.tail.tail.head.four
    exact ⟨b8, a8, b0, b1, b2, b3, a0, a1, a2, a3⟩
  obtain ⟨q, hq⟩ : ∃ q, Hid (q = (may && (i1 && i2))) := ⟨_, rfl⟩
  have HL : Hid (Calls Tryz.prog 102 #[Vl v m l g, Vl v' m' l' g', .func (.func 110) #[] #[PT (w.heap.size + 1), PT w.heap.size]] ((((w.alloc (.cells #[U v, U m, U l, U g] 29)).alloc (.cells #[U v', U m', U l', U g'] 29)).alloc (.cells #[.int .u64 0, .int .u64 0, .int .u64 0, .int .u64 0] 29)).alloc (.cells #[.int .u64 0, .int .u64 0, .int .u64 0, .int .u64 0] 29)) fun e w' => e = .returned (.tuple #[lv q (Vl x y z t), lv q (Vl x' y' z' t'), .bool q, N 0]) ∧ Below ((((w.alloc (.cells #[U v, U m, U l, U g] 29)).alloc (.cells #[U v', U m', U l', U g'] 29)).alloc (.cells #[.int .u64 0, .int .u64 0, .int .u64 0, .int .u64 0] 29)).alloc (.cells #[.int .u64 0, .int .u64 0, .int .u64 0, .int .u64 0] 29)).heap.size ((((w.alloc (.cells #[U v, U m, U l, U g] 29)).alloc (.cells #[U v', U m', U l', U g'] 29)).alloc (.cells #[.int .u64 0, .int .u64 0, .int .u64 0, .int .u64 0] 29)).alloc (.cells #[.int .u64 0, .int .u64 0, .int .u64 0, .int .u64 0] 29)) w') := by
    show Calls _ _ _ _ _
    rw [hq.out]
    exact leave_Less hr _ (hid (fun w' hb => HR.out w.heap.size w' (HC.out w' hb))) N1 N2
  rw [← hq.out]
  clear hq N1 N2 HR HC hr
  go_enter Tryz.func73, Tryz.ntmps73
  go_wp2_with fail
  refine HL.out.mono ?_
  rintro e w1 ⟨rfl, hb1⟩
  have hK := hK0.keep hb1
  clear HL
  obtain ⟨s0, s1, s2, s3, s4, s5, s6, s7, s8⟩ := hK.box.head.four
  obtain ⟨r0, r1, r2, r3, r4, r5, r6, r7, r8⟩ := hK.box.tail.head.four
  obtain ⟨b0, b1, b2, b3, b4, b5, b6, b7, b8⟩ := hK.box.tail.tail.head.four
  obtain ⟨a0, a1, a2, a3, a4, a5, a6, a7, a8⟩ := hK.box.tail.tail.tail.head.four
  cases q
  · have e0 : ∀ a, lv false a = V0 := fun a => rfl
    simp only [e0]
    go_wp2_with fail
    exact bodyPost_ret (v := .tuple #[V0, V0, .bool false, N 0]) (by simp [results, Tryz.results73, go_sem, s0, s1, s2, s3, r0, r1, r2, r3]) rfl ⟨rfl, ((hK.set4 1 rfl).set4 0 rfl).bel⟩
  · have e0 : ∀ a, lv true a = a := fun a => rfl
    simp only [e0]
    go_wp2_with fail
    exact bodyPost_ret (v := .tuple #[Vl x y z t, Vl x' y' z' t', .bool true, N 0]) (by simp [results, Tryz.results73, go_sem, s0, s1, s2, s3, r0, r1, r2, r3]) rfl ⟨rfl, ((hK.set4 1 rfl).set4 0 rfl).bel⟩

set_option maxRecDepth 100000 in
set_option maxHeartbeats 4000000 in
theorem calcNotLess_right {v m l g v' m' l' g' a b c d a' b' c' d' x y z t x' y' z' t' : BitVec 64} {may i1 i2 : Bool} {e1 e2 : Int} (hr : Hid ((valB v m l g && valB v' m' l' g') = true)) (w : World)
    (HR : Hid (∀ (B : Nat) w', Cap w' B (B + 1) v m l g v' m' l' g' → Calls Tryz.prog 108 #[PT B, PT (B + 1)] w' fun e w'' => e = .returned (.tuple #[Vl a b c d, Vl a' b' c' d', .bool may]) ∧ Below w'.heap.size w' w''))
    (N1 : Hid (∀ w, Calls Tryz.prog 113 #[Vl a b c d] w fun e w' => e = .returned (.tuple #[Vl x y z t, .bool i1, N e1]) ∧ Below w.heap.size w w'))
    (N2 : Hid (∀ w, Calls Tryz.prog 113 #[Vl a' b' c' d'] w fun e w' => e = .returned (.tuple #[Vl x' y' z' t', .bool i2, N e2]) ∧ Below w.heap.size w w')) :
    Calls Tryz.prog 72 #[Vl v m l g, Vl v' m' l' g'] w fun e w' => e = .returned (.tuple #[lv (may && (i1 && i2)) (Vl x y z t), lv (may && (i1 && i2)) (Vl x' y' z' t'), .bool (may && (i1 && i2)), N 0]) ∧ Below w.heap.size w w' := by
  have hK0 := ((((Kp.start w).add4 (U v) (U m) (U l) (U g) 29).add4 (U v') (U m') (U l') (U g') 29).add4 (.int .u64 0) (.int .u64 0) (.int .u64 0) (.int .u64 0) 29).add4 (.int .u64 0) (.int .u64 0) (.int .u64 0) (.int .u64 0) 29
  simp only [World.size_alloc] at hK0
  have HC : Hid (∀ w', Below ((((w.alloc (.cells #[U v, U m, U l, U g] 29)).alloc (.cells #[U v', U m', U l', U g'] 29)).alloc (.cells #[.int .u64 0, .int .u64 0, .int .u64 0, .int .u64 0] 29)).alloc (.cells #[.int .u64 0, .int .u64 0, .int .u64 0, .int .u64 0] 29)).heap.size ((((w.alloc (.cells #[U v, U m, U l, U g] 29)).alloc (.cells #[U v', U m', U l', U g'] 29)).alloc (.cells #[.int .u64 0, .int .u64 0, .int .u64 0, .int .u64 0] 29)).alloc (.cells #[.int .u64 0, .int .u64 0, .int .u64 0, .int .u64 0] 29)) w' → Cap w' w.heap.size (w.heap.size + 1) v m l g v' m' l' g') := by
    intro w' hb
    have hk := hK0.keep hb
    obtain ⟨b0, b1, b2, b3, _, _, _, _, b8⟩ := hk.box.tail.tail.head.four
    obtain ⟨a0, a1, a2, a3, _, _, _, _, a8⟩ := hk.box.tail.tail.tail.head.four
    exact ⟨a8, b8, a0, a1, a2, a3, b0, b1, b2, b3⟩
  obtain ⟨q, hq⟩ : ∃ q, Hid (q = (may && (i1 && i2))) := ⟨_, rfl⟩
  have HL : Hid (Calls Tryz.prog 102 #[Vl v m l g, Vl v' m' l' g', .func (.func 108) #[] #[PT w.heap.size, PT (w.heap.size + 1)]] ((((w.alloc (.cells #[U v, U m, U l, U g] 29)).alloc (.cells #[U v', U m', U l', U g'] 29)).alloc (.cells #[.int .u64 0, .int .u64 0, .int .u64 0, .int .u64 0] 29)).alloc (.cells #[.int .u64 0, .int .u64 0, .int .u64 0, .int .u64 0] 29)) fun e w' => e = .returned (.tuple #[lv q (Vl x y z t), lv q (Vl x' y' z' t'), .bool q, N 0]) ∧ Below ((((w.alloc (.cells #[U v, U m, U l, U g] 29)).alloc (.cells #[U v', U m', U l', U g'] 29)).alloc (.cells #[.int .u64 0, .int .u64 0, .int .u64 0, .int .u64 0] 29)).alloc (.cells #[.int .u64 0, .int .u64 0, .int .u64 0, .int .u64 0] 29)).heap.size ((((w.alloc (.cells #[U v, U m, U l, U g] 29)).alloc (.cells #[U v', U m', U l', U g'] 29)).alloc (.cells #[.int .u64 0, .int .u64 0, .int .u64 0, .int .u64 0] 29)).alloc (.cells #[.int .u64 0, .int .u64 0, .int .u64 0, .int .u64 0] 29)) w') := by
    show Calls _ _ _ _ _
    rw [hq.out]
    exact leave_NotLess hr _ (hid (fun w' hb => HR.out w.heap.size w' (HC.out w' hb))) N1 N2
  rw [← hq.out]
  clear hq N1 N2 HR HC hr
  go_enter Tryz.func72, Tryz.ntmps72
  go_wp2_with fail
  refine HL.out.mono ?_
  rintro e w1 ⟨rfl, hb1⟩
  have hK := hK0.keep hb1
  clear HL
  obtain ⟨s0, s1, s2, s3, s4, s5, s6, s7, s8⟩ := hK.box.head.four
  obtain ⟨r0, r1, r2, r3, r4, r5, r6, r7, r8⟩ := hK.box.tail.head.four
  obtain ⟨b0, b1, b2, b3, b4, b5, b6, b7, b8⟩ := hK.box.tail.tail.head.four
  obtain ⟨a0, a1, a2, a3, a4, a5, a6, a7, a8⟩ := hK.box.tail.tail.tail.head.four
  cases q
  · have e0 : ∀ a, lv false a = V0 := fun a => rfl
    simp only [e0]
    go_wp2_with fail
    exact bodyPost_ret (v := .tuple #[V0, V0, .bool false, N 0]) (by simp [results, Tryz.results72, go_sem, s0, s1, s2, s3, r0, r1, r2, r3]) rfl ⟨rfl, ((hK.set4 1 rfl).set4 0 rfl).bel⟩
  · have e0 : ∀ a, lv true a = a := fun a => rfl
    simp only [e0]
    go_wp2_with fail
    exact bodyPost_ret (v := .tuple #[Vl x y z t, Vl x' y' z' t', .bool true, N 0]) (by simp [results, Tryz.results72, go_sem, s0, s1, s2, s3, r0, r1, r2, r3]) rfl ⟨rfl, ((hK.set4 1 rfl).set4 0 rfl).bel⟩

end Go.Proofs.YtkigmocchaikgabGreat

/- The contract of the reference's bitOf; what twoBits comes to, as plain functions. -/
namespace Go.Proofs.YtkigmocchaikgabGreat
open Go.RowKit
attribute [local go_sem] w_and w_or w_xor w_andNot w_and1 w_and63 w_add w_sub w_mul w_sub1 w_add1 w_shl w_shl1 w_shr c_beq c_bne c_beq0 c_bne0 c_beq1 c_bne1 wrap_nv

def bi (b : Bool) : Int := if b then 1 else 0
/- one bit of an operation, and what goes over -/
def bo (op : Int) (x y c : Bool) : Bool × Bool :=
  if op = 2 then ((x ^^ y) ^^ c, (x && y) || (c && (x || y)))
  else if op = 3 then ((x ^^ y) ^^ c, (!x && y) || (c && (!x || y)))
  else if op = 5 then (x && y, false)
  else if op = 6 then (x || y, false)
  else (x ^^ y, false)

theorem bo_else {op : Int} (h2 : op ≠ 2) (h3 : op ≠ 3) (h5 : op ≠ 5) (h6 : op ≠ 6) (x y c : Bool) : bo op x y c = (x ^^ y, false) := by
  unfold bo; rw [if_neg h2, if_neg h3, if_neg h5, if_neg h6]
set_option maxHeartbeats 4000000 in
theorem bitOf_any (op : Int) (x y c : Bool) (w : World) :
    Calls Tryz.prog 135 #[N op, N (bi x), N (bi y), N (bi c)] w fun e w' => e = .returned (.tuple #[N (bi (bo op x y c).1), N (bi (bo op x y c).2)]) ∧ w = w' := by
  by_cases hop : op = 2 ∨ op = 3 ∨ op = 5 ∨ op = 6
  · generalize h1 : bi (bo op x y c).1 = r1
    generalize h2 : bi (bo op x y c).2 = r2
    have H1 : Hid (bi (bo op x y c).1 = r1) := h1
    have H2 : Hid (bi (bo op x y c).2 = r2) := h2
    clear h1 h2
    rcases hop with rfl | rfl | rfl | rfl <;> cases x <;> cases y <;> cases c
    all_goals
      simp only [bi, if_true, if_false, Bool.false_eq_true]
      go_enter Tryz.func135, Tryz.ntmps135
      go_wp2_with fail
      go_ret2
      rw [← H1.out, ← H2.out]
      exact ⟨rfl, rfl⟩
  · have h2 : op ≠ 2 := by omega
    have h3 : op ≠ 3 := by omega
    have h5 : op ≠ 5 := by omega
    have h6 : op ≠ 6 := by omega
    generalize g1 : bi (bo op x y c).1 = r1
    generalize g2 : bi (bo op x y c).2 = r2
    rw [bo_else h2 h3 h5 h6] at g1 g2
    have H1 : Hid (bi (x ^^ y) = r1) := g1
    have H2 : Hid (bi false = r2) := g2
    clear g1 g2
    have e2 : (op == 2) = false := by simpa using h2
    have e3 : (op == 3) = false := by simpa using h3
    have e5 : (op == 5) = false := by simpa using h5
    have e6 : (op == 6) = false := by simpa using h6
    clear h2 h3 h5 h6 hop
    cases x <;> cases y <;> cases c
    all_goals
      simp only [bi, if_true, if_false, Bool.false_eq_true]
      go_enter Tryz.func135, Tryz.ntmps135
      go_wp2_with fail
      go_ret2
      rw [← H1.out, ← H2.out]
      exact ⟨rfl, rfl⟩

end Go.Proofs.YtkigmocchaikgabGreat

/- What twoBits comes to, as plain functions; one cell of a box written. -/
namespace Go.Proofs.YtkigmocchaikgabGreat
open Go.RowKit

theorem Kp.set1 {w0 w : World} {b i : Nat} {v u : Value} {vs : List Value} {L : List (Nat × List Value)} (k : Nat) (h : Kp w0 w L) (e : L[k]? = some (b, vs)) (hi : vs[i]? = some u) :
    Kp w0 (w.setCell ⟨b, i, none⟩ v) (L.set k (b, vs.set i v)) := by
  have hlo : w0.heap.size ≤ b := h.lo _ (List.mem_of_getElem? e)
  refine ⟨h.bel.setCell hlo v, Boxes.setOne k h.box e hi, fun p hp => ?_⟩
  rcases List.mem_or_eq_of_mem_set hp with h1 | h1
  · exact h.lo p h1
  · rw [h1]; exact hlo

def kx (k : Nat) : Bool := k % 2 == 1
def ky (k : Nat) : Bool := k / 2 % 2 == 1
def kc (k : Nat) : Bool := k / 4 == 1
def alw (z o u p c0 c1 : Bool) (k : Nat) : Bool := (if kx k then o else z) && (if ky k then p else u) && (if kc k then c1 else c0)
def put1 (q : Bool × Bool) (b : Bool) : Bool × Bool := if b then (q.1, true) else (true, q.2)
/- the inner loop: which results, and which that go over, the first k of the eight ways give -/
def inn (op : Int) (z o u p c0 c1 : Bool) : Nat → (Bool × Bool) × (Bool × Bool)
  | 0 => ((false, false), (false, false))
  | k + 1 => if alw z o u p c0 c1 k then (put1 (inn op z o u p c0 c1 k).1 (bo op (kx k) (ky k) (kc k)).1, put1 (inn op z o u p c0 c1 k).2 (bo op (kx k) (ky k) (kc k)).2) else inn op z o u p c0 c1 k
theorem inn_no {op : Int} {z o u p c0 c1 : Bool} {k : Nat} {s : (Bool × Bool) × (Bool × Bool)} (h : inn op z o u p c0 c1 k = s) (ha : alw z o u p c0 c1 k = false) : inn op z o u p c0 c1 (k + 1) = s := by
  simp only [inn]; rw [if_neg (by rw [ha]; decide), h]
theorem inn_yes {op : Int} {z o u p c0 c1 : Bool} {k : Nat} {s : (Bool × Bool) × (Bool × Bool)} {b1 b2 x y c : Bool} (h : inn op z o u p c0 c1 k = s) (ha : alw z o u p c0 c1 k = true)
    (hx : kx k = x) (hy : ky k = y) (hc : kc k = c) (hb : bo op x y c = (b1, b2)) : inn op z o u p c0 c1 (k + 1) = (put1 s.1 b1, put1 s.2 b2) := by
  simp only [inn]; rw [if_pos ha, h, hx, hy, hc, hb]
/- the outer loop -/
def twoC (op : Int) (av am bv bm : BitVec 64) : Nat → Bool × Bool
  | 0 => (true, false)
  | i + 1 => (inn op (mz av i) (mo av am i) (mz bv i) (mo bv bm i) (twoC op av am bv bm i).1 (twoC op av am bv bm i).2 8).2
def twoR (op : Int) (av am bv bm : BitVec 64) (i : Nat) : Bool × Bool :=
  (inn op (mz av i) (mo av am i) (mz bv i) (mo bv bm i) (twoC op av am bv bm i).1 (twoC op av am bv bm i).2 8).1
def twoV (op : Int) (av am bv bm : BitVec 64) (k : Nat) : BitVec 64 := acc (fun j => (twoR op av am bv bm j).2 && !(twoR op av am bv bm j).1) k
def twoM (op : Int) (av am bv bm : BitVec 64) (k : Nat) : BitVec 64 := acc (fun j => (twoR op av am bv bm j).2 && (twoR op av am bv bm j).1) k
theorem twoV_succ (op : Int) (av am bv bm : BitVec 64) (k : Nat) : putV (twoV op av am bv bm k) k (twoR op av am bv bm k).1 (twoR op av am bv bm k).2 = twoV op av am bv bm (k + 1) := putV_acc (fun j => (twoR op av am bv bm j).1) (fun j => (twoR op av am bv bm j).2) k
theorem twoM_succ (op : Int) (av am bv bm : BitVec 64) (k : Nat) : putM (twoM op av am bv bm k) k (twoR op av am bv bm k).1 (twoR op av am bv bm k).2 = twoM op av am bv bm (k + 1) := putM_acc (fun j => (twoR op av am bv bm j).1) (fun j => (twoR op av am bv bm j).2) k
theorem bitOf_is {op : Int} {x y c b1 b2 : Bool} (h : Hid (bo op x y c = (b1, b2))) (w : World) :
    Calls Tryz.prog 135 #[N op, N (bi x), N (bi y), N (bi c)] w fun e w' => e = .returned (.tuple #[N (bi b1), N (bi b2)]) ∧ w = w' := by
  have := bitOf_any op x y c w
  rw [h.out] at this
  exact this
theorem bo_ex (op : Int) (x y c : Bool) : ∃ b1 b2, Hid (bo op x y c = (b1, b2)) := ⟨_, _, rfl⟩

end Go.Proofs.YtkigmocchaikgabGreat
