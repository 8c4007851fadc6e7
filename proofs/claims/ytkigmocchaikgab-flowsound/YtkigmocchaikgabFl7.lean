import Derived.Test.YtkigmocchaikgabFl2
import Derived.Test.YtkigmocchaikgabProg
import Derived.Test.YtkigmocchaikgabFl4
import Derived.Test.YtkigmocchaikgabFl5
import Derived.Test.YtkigmocchaikgabFl6
/- Ways of bodies, written by a program (ways.py): what each asks for, and hands back. -/
namespace Go.Proofs.Ytkigmocchaikgab
open Go.RowKit

theorem fis_w0 {i : Ins} (h : (Ins.op i == 12 && (Ins.op i == 12 && (decide (Ins.of i < 0) && true))) = true) :
    CallOK Try.prog ⟨44, [AV.ag (Ins.cs i)], [], ⟨AV.c (AC.b false), [], none⟩⟩ :=
  val_run 2000 [] [true, true, true, true] ([]) [] Try.func44 rfl rfl rfl rfl (by kernel_rfl) h cr_nil
theorem fis_w1 {i : Ins} (h : (Ins.op i == 12 && (Ins.op i == 12 && (!decide (Ins.of i < 0) && (decide (64 < Ins.of i) && true)))) = true) :
    CallOK Try.prog ⟨44, [AV.ag (Ins.cs i)], [], ⟨AV.c (AC.b false), [], none⟩⟩ :=
  val_run 2000 [] [true, true, false, true] ([]) [] Try.func44 rfl rfl rfl rfl (by kernel_rfl) h cr_nil
theorem fis_w2 {i : Ins} {e : Int} (h : (Ins.op i == 12 && (Ins.op i == 12 && (!decide (Ins.of i < 0) && (!decide (64 < Ins.of i) && true)))) = true) (c0 : CallOK Try.prog (CallRec.mk 28 [AV.c (AC.sl 18 0 2 2)] [(18, Ent.mk true [AC.i (Ins.op i), AC.i (Ins.d i), AC.i (Ins.s i), AC.u (Ins.im i), AC.i 0, AC.i 15, AC.i 0, AC.i 0, AC.u 0#64, AC.i 0] 0)] (Eff.mk (AV.c (AC.i e)) [] none))) :
    CallOK Try.prog ⟨44, [AV.ag (Ins.cs i)], [], ⟨AV.c (AC.b (e == 0)), [], none⟩⟩ :=
  val_run 2000 [Eff.mk (AV.c (AC.i e)) [] none] [true, true, false, false] ([]) [] Try.func44 rfl rfl rfl rfl (by kernel_rfl) h (cr_cons c0 cr_nil)
theorem fis_w3 {i : Ins} (h : (!Ins.op i == 12 && (Ins.op i == 13 && (Ins.op i == 13 && (decide (Ins.of i < 0) && true)))) = true) :
    CallOK Try.prog ⟨44, [AV.ag (Ins.cs i)], [], ⟨AV.c (AC.b false), [], none⟩⟩ :=
  val_run 2000 [] [false, true, true, true, true] ([]) [] Try.func44 rfl rfl rfl rfl (by kernel_rfl) h cr_nil
theorem fis_w4 {i : Ins} (h : (!Ins.op i == 12 && (Ins.op i == 13 && (Ins.op i == 13 && (!decide (Ins.of i < 0) && (decide (64 < Ins.of i) && true))))) = true) :
    CallOK Try.prog ⟨44, [AV.ag (Ins.cs i)], [], ⟨AV.c (AC.b false), [], none⟩⟩ :=
  val_run 2000 [] [false, true, true, false, true] ([]) [] Try.func44 rfl rfl rfl rfl (by kernel_rfl) h cr_nil
theorem fis_w5 {i : Ins} {e : Int} (h : (!Ins.op i == 12 && (Ins.op i == 13 && (Ins.op i == 13 && (!decide (Ins.of i < 0) && (!decide (64 < Ins.of i) && true))))) = true) (c0 : CallOK Try.prog (CallRec.mk 28 [AV.c (AC.sl 20 0 2 2)] [(20, Ent.mk true [AC.i (Ins.op i), AC.i (Ins.d i), AC.i (Ins.s i), AC.u (Ins.im i), AC.i 0, AC.i 15, AC.i 0, AC.i 0, AC.u 0#64, AC.i 0] 0)] (Eff.mk (AV.c (AC.i e)) [] none))) :
    CallOK Try.prog ⟨44, [AV.ag (Ins.cs i)], [], ⟨AV.c (AC.b (e == 0)), [], none⟩⟩ :=
  val_run 2000 [Eff.mk (AV.c (AC.i e)) [] none] [false, true, true, false, false] ([]) [] Try.func44 rfl rfl rfl rfl (by kernel_rfl) h (cr_cons c0 cr_nil)
theorem fis_w6 {i : Ins} (h : (!Ins.op i == 12 && (!Ins.op i == 13 && (Ins.op i == 14 && (decide (Ins.of i < 0) && true)))) = true) :
    CallOK Try.prog ⟨44, [AV.ag (Ins.cs i)], [], ⟨AV.c (AC.b false), [], none⟩⟩ :=
  val_run 2000 [] [false, false, true, true, true] ([]) [] Try.func44 rfl rfl rfl rfl (by kernel_rfl) h cr_nil
theorem fis_w7 {i : Ins} (h : (!Ins.op i == 12 && (!Ins.op i == 13 && (Ins.op i == 14 && (!decide (Ins.of i < 0) && (decide (64 < Ins.of i) && true))))) = true) :
    CallOK Try.prog ⟨44, [AV.ag (Ins.cs i)], [], ⟨AV.c (AC.b false), [], none⟩⟩ :=
  val_run 2000 [] [false, false, true, false, true] ([]) [] Try.func44 rfl rfl rfl rfl (by kernel_rfl) h cr_nil
theorem fis_w8 {i : Ins} {e : Int} (h : (!Ins.op i == 12 && (!Ins.op i == 13 && (Ins.op i == 14 && (!decide (Ins.of i < 0) && (!decide (64 < Ins.of i) && true))))) = true) (c0 : CallOK Try.prog (CallRec.mk 28 [AV.c (AC.sl 22 0 2 2)] [(22, Ent.mk true [AC.i (Ins.op i), AC.i (Ins.d i), AC.i (Ins.s i), AC.u (Ins.im i), AC.i 0, AC.i 15, AC.i 0, AC.i 0, AC.u 0#64, AC.i 0] 0)] (Eff.mk (AV.c (AC.i e)) [] none))) :
    CallOK Try.prog ⟨44, [AV.ag (Ins.cs i)], [], ⟨AV.c (AC.b (e == 0)), [], none⟩⟩ :=
  val_run 2000 [Eff.mk (AV.c (AC.i e)) [] none] [false, false, true, false, false] ([]) [] Try.func44 rfl rfl rfl rfl (by kernel_rfl) h (cr_cons c0 cr_nil)
theorem fis_w9 {i : Ins} {e : Int} (h : (!Ins.op i == 12 && (!Ins.op i == 13 && (!Ins.op i == 14 && true))) = true) (c0 : CallOK Try.prog (CallRec.mk 28 [AV.c (AC.sl 12 0 2 2)] [(12, Ent.mk true [AC.i (Ins.op i), AC.i (Ins.d i), AC.i (Ins.s i), AC.u (Ins.im i), AC.i (Ins.of i), AC.i 15, AC.i 0, AC.i 0, AC.u 0#64, AC.i 0] 0)] (Eff.mk (AV.c (AC.i e)) [] none))) :
    CallOK Try.prog ⟨44, [AV.ag (Ins.cs i)], [], ⟨AV.c (AC.b (e == 0)), [], none⟩⟩ :=
  val_run 2000 [Eff.mk (AV.c (AC.i e)) [] none] [false, false, false] ([]) [] Try.func44 rfl rfl rfl rfl (by kernel_rfl) h (cr_cons c0 cr_nil)
theorem fis_all {i : Ins} {e : Int} {V : AV}
    (l0 : (Ins.op i == 12) = true → (decide (Ins.of i < 0)) = true → (AV.c (AC.b false) = V))
    (l1 : (Ins.op i == 12) = true → (decide (Ins.of i < 0)) = false → (decide (64 < Ins.of i)) = true → (AV.c (AC.b false) = V))
    (l2 : (Ins.op i == 12) = true → (decide (Ins.of i < 0)) = false → (decide (64 < Ins.of i)) = false → (CallOK Try.prog (CallRec.mk 28 [AV.c (AC.sl 18 0 2 2)] [(18, Ent.mk true [AC.i (Ins.op i), AC.i (Ins.d i), AC.i (Ins.s i), AC.u (Ins.im i), AC.i 0, AC.i 15, AC.i 0, AC.i 0, AC.u 0#64, AC.i 0] 0)] (Eff.mk (AV.c (AC.i e)) [] none))) ∧ (AV.c (AC.b (e == 0)) = V))
    (l3 : (Ins.op i == 12) = false → (Ins.op i == 13) = true → (decide (Ins.of i < 0)) = true → (AV.c (AC.b false) = V))
    (l4 : (Ins.op i == 12) = false → (Ins.op i == 13) = true → (decide (Ins.of i < 0)) = false → (decide (64 < Ins.of i)) = true → (AV.c (AC.b false) = V))
    (l5 : (Ins.op i == 12) = false → (Ins.op i == 13) = true → (decide (Ins.of i < 0)) = false → (decide (64 < Ins.of i)) = false → (CallOK Try.prog (CallRec.mk 28 [AV.c (AC.sl 20 0 2 2)] [(20, Ent.mk true [AC.i (Ins.op i), AC.i (Ins.d i), AC.i (Ins.s i), AC.u (Ins.im i), AC.i 0, AC.i 15, AC.i 0, AC.i 0, AC.u 0#64, AC.i 0] 0)] (Eff.mk (AV.c (AC.i e)) [] none))) ∧ (AV.c (AC.b (e == 0)) = V))
    (l6 : (Ins.op i == 12) = false → (Ins.op i == 13) = false → (Ins.op i == 14) = true → (decide (Ins.of i < 0)) = true → (AV.c (AC.b false) = V))
    (l7 : (Ins.op i == 12) = false → (Ins.op i == 13) = false → (Ins.op i == 14) = true → (decide (Ins.of i < 0)) = false → (decide (64 < Ins.of i)) = true → (AV.c (AC.b false) = V))
    (l8 : (Ins.op i == 12) = false → (Ins.op i == 13) = false → (Ins.op i == 14) = true → (decide (Ins.of i < 0)) = false → (decide (64 < Ins.of i)) = false → (CallOK Try.prog (CallRec.mk 28 [AV.c (AC.sl 22 0 2 2)] [(22, Ent.mk true [AC.i (Ins.op i), AC.i (Ins.d i), AC.i (Ins.s i), AC.u (Ins.im i), AC.i 0, AC.i 15, AC.i 0, AC.i 0, AC.u 0#64, AC.i 0] 0)] (Eff.mk (AV.c (AC.i e)) [] none))) ∧ (AV.c (AC.b (e == 0)) = V))
    (l9 : (Ins.op i == 12) = false → (Ins.op i == 13) = false → (Ins.op i == 14) = false → (CallOK Try.prog (CallRec.mk 28 [AV.c (AC.sl 12 0 2 2)] [(12, Ent.mk true [AC.i (Ins.op i), AC.i (Ins.d i), AC.i (Ins.s i), AC.u (Ins.im i), AC.i (Ins.of i), AC.i 15, AC.i 0, AC.i 0, AC.u 0#64, AC.i 0] 0)] (Eff.mk (AV.c (AC.i e)) [] none))) ∧ (AV.c (AC.b (e == 0)) = V)) :
    CallOK Try.prog ⟨44, [AV.ag (Ins.cs i)], [], ⟨V, [], none⟩⟩ :=
  (tf (Ins.op i == 12)).elim (fun h0 => (tf (decide (Ins.of i < 0))).elim (fun h1 => (match l0 h0 h1 with | e => ok_eq (fis_w0 (and_yes h0 (and_yes h0 (and_yes h1 rfl)))) e)) (fun h1 => (tf (decide (64 < Ins.of i))).elim (fun h2 => (match l1 h0 h1 h2 with | e => ok_eq (fis_w1 (and_yes h0 (and_yes h0 (and_yes (not_yes h1) (and_yes h2 rfl))))) e)) (fun h2 => (match l2 h0 h1 h2 with | ⟨c0, e⟩ => ok_eq (fis_w2 (and_yes h0 (and_yes h0 (and_yes (not_yes h1) (and_yes (not_yes h2) rfl)))) c0) e)))) (fun h0 => (tf (Ins.op i == 13)).elim (fun h1 => (tf (decide (Ins.of i < 0))).elim (fun h2 => (match l3 h0 h1 h2 with | e => ok_eq (fis_w3 (and_yes (not_yes h0) (and_yes h1 (and_yes h1 (and_yes h2 rfl))))) e)) (fun h2 => (tf (decide (64 < Ins.of i))).elim (fun h3 => (match l4 h0 h1 h2 h3 with | e => ok_eq (fis_w4 (and_yes (not_yes h0) (and_yes h1 (and_yes h1 (and_yes (not_yes h2) (and_yes h3 rfl)))))) e)) (fun h3 => (match l5 h0 h1 h2 h3 with | ⟨c0, e⟩ => ok_eq (fis_w5 (and_yes (not_yes h0) (and_yes h1 (and_yes h1 (and_yes (not_yes h2) (and_yes (not_yes h3) rfl))))) c0) e)))) (fun h1 => (tf (Ins.op i == 14)).elim (fun h2 => (tf (decide (Ins.of i < 0))).elim (fun h3 => (match l6 h0 h1 h2 h3 with | e => ok_eq (fis_w6 (and_yes (not_yes h0) (and_yes (not_yes h1) (and_yes h2 (and_yes h3 rfl))))) e)) (fun h3 => (tf (decide (64 < Ins.of i))).elim (fun h4 => (match l7 h0 h1 h2 h3 h4 with | e => ok_eq (fis_w7 (and_yes (not_yes h0) (and_yes (not_yes h1) (and_yes h2 (and_yes (not_yes h3) (and_yes h4 rfl)))))) e)) (fun h4 => (match l8 h0 h1 h2 h3 h4 with | ⟨c0, e⟩ => ok_eq (fis_w8 (and_yes (not_yes h0) (and_yes (not_yes h1) (and_yes h2 (and_yes (not_yes h3) (and_yes (not_yes h4) rfl))))) c0) e)))) (fun h2 => (match l9 h0 h1 h2 with | ⟨c0, e⟩ => ok_eq (fis_w9 (and_yes (not_yes h0) (and_yes (not_yes h1) (and_yes (not_yes h2) rfl))) c0) e))))
theorem freach_w0 {i : Ins} {a : V4} {b : V4} {c : V4} (h : (decide (nv (bsub (64#64) (Ins.im i)) < nv (V4.h c)) && true) = true) (c0 : CallOK Try.prog (CallRec.mk 110 [AV.c (AC.u (BitVec.ofInt 64 (Ins.of i)))] [] (Eff.mk (AV.ag (V4.cs b)) [] none))) (c1 : CallOK Try.prog (CallRec.mk 82 [AV.c (AC.i 2), AV.ag (V4.cs a), AV.ag (V4.cs b)] [] (Eff.mk (AV.tu [AT.ag (V4.cs c), AT.c (AC.i 0)]) [] none))) :
    CallOK Try.prog ⟨74, [AV.ag (Ins.cs i), AV.ag (V4.cs a)], [], ⟨AV.c (AC.i 2), [], none⟩⟩ :=
  val_run 2000 [Eff.mk (AV.ag (V4.cs b)) [] none, Eff.mk (AV.tu [AT.ag (V4.cs c), AT.c (AC.i 0)]) [] none] [true] ([]) [] Try.func74 rfl rfl rfl rfl (by kernel_rfl) h (cr_cons c0 (cr_cons c1 cr_nil))
theorem freach_w1 {i : Ins} {a : V4} {b : V4} {c : V4} (h : (!decide (nv (bsub (64#64) (Ins.im i)) < nv (V4.h c)) && true) = true) (c0 : CallOK Try.prog (CallRec.mk 110 [AV.c (AC.u (BitVec.ofInt 64 (Ins.of i)))] [] (Eff.mk (AV.ag (V4.cs b)) [] none))) (c1 : CallOK Try.prog (CallRec.mk 82 [AV.c (AC.i 2), AV.ag (V4.cs a), AV.ag (V4.cs b)] [] (Eff.mk (AV.tu [AT.ag (V4.cs c), AT.c (AC.i 0)]) [] none))) :
    CallOK Try.prog ⟨74, [AV.ag (Ins.cs i), AV.ag (V4.cs a)], [], ⟨AV.c (AC.i 0), [], none⟩⟩ :=
  val_run 2000 [Eff.mk (AV.ag (V4.cs b)) [] none, Eff.mk (AV.tu [AT.ag (V4.cs c), AT.c (AC.i 0)]) [] none] [false] ([]) [] Try.func74 rfl rfl rfl rfl (by kernel_rfl) h (cr_cons c0 (cr_cons c1 cr_nil))
theorem freach_all {i : Ins} {a : V4} {b : V4} {c : V4} {V : AV}
    (l0 : (decide (nv (bsub (64#64) (Ins.im i)) < nv (V4.h c))) = true → (CallOK Try.prog (CallRec.mk 110 [AV.c (AC.u (BitVec.ofInt 64 (Ins.of i)))] [] (Eff.mk (AV.ag (V4.cs b)) [] none))) ∧ (CallOK Try.prog (CallRec.mk 82 [AV.c (AC.i 2), AV.ag (V4.cs a), AV.ag (V4.cs b)] [] (Eff.mk (AV.tu [AT.ag (V4.cs c), AT.c (AC.i 0)]) [] none))) ∧ (AV.c (AC.i 2) = V))
    (l1 : (decide (nv (bsub (64#64) (Ins.im i)) < nv (V4.h c))) = false → (CallOK Try.prog (CallRec.mk 110 [AV.c (AC.u (BitVec.ofInt 64 (Ins.of i)))] [] (Eff.mk (AV.ag (V4.cs b)) [] none))) ∧ (CallOK Try.prog (CallRec.mk 82 [AV.c (AC.i 2), AV.ag (V4.cs a), AV.ag (V4.cs b)] [] (Eff.mk (AV.tu [AT.ag (V4.cs c), AT.c (AC.i 0)]) [] none))) ∧ (AV.c (AC.i 0) = V)) :
    CallOK Try.prog ⟨74, [AV.ag (Ins.cs i), AV.ag (V4.cs a)], [], ⟨V, [], none⟩⟩ :=
  (tf (decide (nv (bsub (64#64) (Ins.im i)) < nv (V4.h c)))).elim (fun h0 => (match l0 h0 with | ⟨c0, c1, e⟩ => ok_eq (freach_w0 (and_yes h0 rfl) c0 c1) e)) (fun h0 => (match l1 h0 with | ⟨c0, c1, e⟩ => ok_eq (freach_w1 (and_yes (not_yes h0) rfl) c0 c1) e))
theorem fsource_w0 {i : Ins} {t : St} {b : V4} (h : (Ins.s i == -1 && true) = true) (c0 : CallOK Try.prog (CallRec.mk 110 [AV.c (AC.u (Ins.im i))] [] (Eff.mk (AV.ag (V4.cs b)) [] none))) :
    CallOK Try.prog ⟨81, [AV.ag (Ins.cs i), AV.ag (St.cs t)], [], ⟨AV.ag (V4.cs b), [], none⟩⟩ :=
  val_run 2000 [Eff.mk (AV.ag (V4.cs b)) [] none] [true] ([]) [(3, 4)] Try.func81 rfl rfl rfl rfl (by kernel_rfl) h (cr_cons c0 cr_nil)
theorem fsource_w1 {i : Ins} {t : St} (h : (!Ins.s i == -1 && (decide (0 ≤ Ins.s i) && decide (Ins.s i < 6) && (Nat.ble (7 + Int.toNat (Ins.s i) * 4 + 4) (List.length (St.cs t)) && true))) = true) (c0 : Eff.mk (AV.ag (List.take 4 (List.drop (7 + Int.toNat (Ins.s i) * 4) (St.cs t)))) [] none = Eff.mk (AV.ag (V4.cs (V6.get (St.r t) (Int.toNat (Ins.s i))))) [] none) :
    CallOK Try.prog ⟨81, [AV.ag (Ins.cs i), AV.ag (St.cs t)], [], ⟨AV.ag (V4.cs (V6.get (St.r t) (Int.toNat (Ins.s i)))), [], none⟩⟩ :=
  val_run 2000 [Eff.mk (AV.ag (V4.cs (V6.get (St.r t) (Int.toNat (Ins.s i))))) [] none] [false] ([]) [(3, 4)] Try.func81 rfl rfl rfl rfl (by kernel_rfl) h (cr_same c0 cr_nil)
theorem fsource_all {i : Ins} {t : St} {b : V4} {V : AV}
    (l0 : (Ins.s i == -1) = true → (CallOK Try.prog (CallRec.mk 110 [AV.c (AC.u (Ins.im i))] [] (Eff.mk (AV.ag (V4.cs b)) [] none))) ∧ (AV.ag (V4.cs b) = V))
    (l1 : (Ins.s i == -1) = false → (decide (0 ≤ Ins.s i) && decide (Ins.s i < 6)) = true ∧ (Nat.ble (7 + Int.toNat (Ins.s i) * 4 + 4) (List.length (St.cs t))) = true ∧ (Eff.mk (AV.ag (List.take 4 (List.drop (7 + Int.toNat (Ins.s i) * 4) (St.cs t)))) [] none = Eff.mk (AV.ag (V4.cs (V6.get (St.r t) (Int.toNat (Ins.s i))))) [] none) ∧ (AV.ag (V4.cs (V6.get (St.r t) (Int.toNat (Ins.s i)))) = V)) :
    CallOK Try.prog ⟨81, [AV.ag (Ins.cs i), AV.ag (St.cs t)], [], ⟨V, [], none⟩⟩ :=
  (tf (Ins.s i == -1)).elim (fun h0 => (match l0 h0 with | ⟨c0, e⟩ => ok_eq (fsource_w0 (and_yes h0 rfl) c0) e)) (fun h0 => (match l1 h0 with | ⟨o0, o1, c0, e⟩ => ok_eq (fsource_w1 (and_yes (not_yes h0) (and_yes o0 (and_yes o1 rfl))) c0) e))
theorem fleftOt_w0 {i : Ins} {t : St} {b : V4} {x : V4} {y : V4} {q : Bool} (h : (decide (0 ≤ Ins.d i) && decide (Ins.d i < 6) && (Nat.ble (7 + Int.toNat (Ins.d i) * 4 + 4) (List.length (St.cs t)) && (!q && true))) = true) (c0 : Eff.mk (AV.ag (List.take 4 (List.drop (7 + Int.toNat (Ins.d i) * 4) (St.cs t)))) [] none = Eff.mk (AV.ag (V4.cs (V6.get (St.r t) (Int.toNat (Ins.d i))))) [] none) (c1 : CallOK Try.prog (CallRec.mk 81 [AV.ag (Ins.cs i), AV.ag (St.cs t)] [] (Eff.mk (AV.ag (V4.cs b)) [] none))) (c2 : CallOK Try.prog (CallRec.mk 77 [AV.ag (V4.cs (V6.get (St.r t) (Int.toNat (Ins.d i)))), AV.ag (V4.cs b)] [] (Eff.mk (AV.tu [AT.ag (V4.cs x), AT.ag (V4.cs y), AT.c (AC.b q), AT.c (AC.i 0)]) [] none))) :
    CallOK Try.prog ⟨76, [AV.ag (Ins.cs i), AV.ag (St.cs t), AV.c (AC.f 77 [])], [], ⟨AV.ag (St.cs St.z), [], none⟩⟩ :=
  val_run 2000 [Eff.mk (AV.ag (V4.cs (V6.get (St.r t) (Int.toNat (Ins.d i))))) [] none, Eff.mk (AV.ag (V4.cs b)) [] none, Eff.mk (AV.tu [AT.ag (V4.cs x), AT.ag (V4.cs y), AT.c (AC.b q), AT.c (AC.i 0)]) [] none] [true] ([]) [(1, 5)] Try.func76 rfl rfl rfl rfl (by kernel_rfl) h (cr_same c0 (cr_cons c1 (cr_cons c2 cr_nil)))
theorem fleftOt_w1 {i : Ins} {t : St} {t1 : St} {t2 : St} {b : V4} {x : V4} {y : V4} {q : Bool} (h : (decide (0 ≤ Ins.d i) && decide (Ins.d i < 6) && (Nat.ble (7 + Int.toNat (Ins.d i) * 4 + 4) (List.length (St.cs t)) && (!!q && (Ins.s i != -1 && true)))) = true) (c0 : Eff.mk (AV.ag (List.take 4 (List.drop (7 + Int.toNat (Ins.d i) * 4) (St.cs t)))) [] none = Eff.mk (AV.ag (V4.cs (V6.get (St.r t) (Int.toNat (Ins.d i))))) [] none) (c1 : CallOK Try.prog (CallRec.mk 81 [AV.ag (Ins.cs i), AV.ag (St.cs t)] [] (Eff.mk (AV.ag (V4.cs b)) [] none))) (c2 : CallOK Try.prog (CallRec.mk 77 [AV.ag (V4.cs (V6.get (St.r t) (Int.toNat (Ins.d i)))), AV.ag (V4.cs b)] [] (Eff.mk (AV.tu [AT.ag (V4.cs x), AT.ag (V4.cs y), AT.c (AC.b q), AT.c (AC.i 0)]) [] none))) (c3 : CallOK Try.prog (CallRec.mk 35 [AV.ag (St.cs t), AV.c (AC.i (Ins.d i)), AV.ag (V4.cs x)] [] (Eff.mk (AV.ag (St.cs t1)) [] none))) (c4 : CallOK Try.prog (CallRec.mk 35 [AV.ag (St.cs t1), AV.c (AC.i (Ins.s i)), AV.ag (V4.cs y)] [] (Eff.mk (AV.ag (St.cs t2)) [] none))) :
    CallOK Try.prog ⟨76, [AV.ag (Ins.cs i), AV.ag (St.cs t), AV.c (AC.f 77 [])], [], ⟨AV.ag (St.cs t2), [], none⟩⟩ :=
  val_run 2000 [Eff.mk (AV.ag (V4.cs (V6.get (St.r t) (Int.toNat (Ins.d i))))) [] none, Eff.mk (AV.ag (V4.cs b)) [] none, Eff.mk (AV.tu [AT.ag (V4.cs x), AT.ag (V4.cs y), AT.c (AC.b q), AT.c (AC.i 0)]) [] none, Eff.mk (AV.ag (St.cs t1)) [] none, Eff.mk (AV.ag (St.cs t2)) [] none] [false, true] ([]) [(1, 5)] Try.func76 rfl rfl rfl rfl (by kernel_rfl) h (cr_same c0 (cr_cons c1 (cr_cons c2 (cr_cons c3 (cr_cons c4 cr_nil)))))
theorem fleftOt_w2 {i : Ins} {t : St} {t1 : St} {b : V4} {x : V4} {y : V4} {q : Bool} (h : (decide (0 ≤ Ins.d i) && decide (Ins.d i < 6) && (Nat.ble (7 + Int.toNat (Ins.d i) * 4 + 4) (List.length (St.cs t)) && (!!q && (!Ins.s i != -1 && true)))) = true) (c0 : Eff.mk (AV.ag (List.take 4 (List.drop (7 + Int.toNat (Ins.d i) * 4) (St.cs t)))) [] none = Eff.mk (AV.ag (V4.cs (V6.get (St.r t) (Int.toNat (Ins.d i))))) [] none) (c1 : CallOK Try.prog (CallRec.mk 81 [AV.ag (Ins.cs i), AV.ag (St.cs t)] [] (Eff.mk (AV.ag (V4.cs b)) [] none))) (c2 : CallOK Try.prog (CallRec.mk 77 [AV.ag (V4.cs (V6.get (St.r t) (Int.toNat (Ins.d i)))), AV.ag (V4.cs b)] [] (Eff.mk (AV.tu [AT.ag (V4.cs x), AT.ag (V4.cs y), AT.c (AC.b q), AT.c (AC.i 0)]) [] none))) (c3 : CallOK Try.prog (CallRec.mk 35 [AV.ag (St.cs t), AV.c (AC.i (Ins.d i)), AV.ag (V4.cs x)] [] (Eff.mk (AV.ag (St.cs t1)) [] none))) :
    CallOK Try.prog ⟨76, [AV.ag (Ins.cs i), AV.ag (St.cs t), AV.c (AC.f 77 [])], [], ⟨AV.ag (St.cs t1), [], none⟩⟩ :=
  val_run 2000 [Eff.mk (AV.ag (V4.cs (V6.get (St.r t) (Int.toNat (Ins.d i))))) [] none, Eff.mk (AV.ag (V4.cs b)) [] none, Eff.mk (AV.tu [AT.ag (V4.cs x), AT.ag (V4.cs y), AT.c (AC.b q), AT.c (AC.i 0)]) [] none, Eff.mk (AV.ag (St.cs t1)) [] none] [false, false] ([]) [(1, 5)] Try.func76 rfl rfl rfl rfl (by kernel_rfl) h (cr_same c0 (cr_cons c1 (cr_cons c2 (cr_cons c3 cr_nil))))
theorem fleftOt_all {i : Ins} {t : St} {t1 : St} {t2 : St} {b : V4} {x : V4} {y : V4} {q : Bool} {V : AV}
    (l0 : (!q) = true → (decide (0 ≤ Ins.d i) && decide (Ins.d i < 6)) = true ∧ (Nat.ble (7 + Int.toNat (Ins.d i) * 4 + 4) (List.length (St.cs t))) = true ∧ (Eff.mk (AV.ag (List.take 4 (List.drop (7 + Int.toNat (Ins.d i) * 4) (St.cs t)))) [] none = Eff.mk (AV.ag (V4.cs (V6.get (St.r t) (Int.toNat (Ins.d i))))) [] none) ∧ (CallOK Try.prog (CallRec.mk 81 [AV.ag (Ins.cs i), AV.ag (St.cs t)] [] (Eff.mk (AV.ag (V4.cs b)) [] none))) ∧ (CallOK Try.prog (CallRec.mk 77 [AV.ag (V4.cs (V6.get (St.r t) (Int.toNat (Ins.d i)))), AV.ag (V4.cs b)] [] (Eff.mk (AV.tu [AT.ag (V4.cs x), AT.ag (V4.cs y), AT.c (AC.b q), AT.c (AC.i 0)]) [] none))) ∧ (AV.ag (St.cs St.z) = V))
    (l1 : (!q) = false → (Ins.s i != -1) = true → (decide (0 ≤ Ins.d i) && decide (Ins.d i < 6)) = true ∧ (Nat.ble (7 + Int.toNat (Ins.d i) * 4 + 4) (List.length (St.cs t))) = true ∧ (Eff.mk (AV.ag (List.take 4 (List.drop (7 + Int.toNat (Ins.d i) * 4) (St.cs t)))) [] none = Eff.mk (AV.ag (V4.cs (V6.get (St.r t) (Int.toNat (Ins.d i))))) [] none) ∧ (CallOK Try.prog (CallRec.mk 81 [AV.ag (Ins.cs i), AV.ag (St.cs t)] [] (Eff.mk (AV.ag (V4.cs b)) [] none))) ∧ (CallOK Try.prog (CallRec.mk 77 [AV.ag (V4.cs (V6.get (St.r t) (Int.toNat (Ins.d i)))), AV.ag (V4.cs b)] [] (Eff.mk (AV.tu [AT.ag (V4.cs x), AT.ag (V4.cs y), AT.c (AC.b q), AT.c (AC.i 0)]) [] none))) ∧ (CallOK Try.prog (CallRec.mk 35 [AV.ag (St.cs t), AV.c (AC.i (Ins.d i)), AV.ag (V4.cs x)] [] (Eff.mk (AV.ag (St.cs t1)) [] none))) ∧ (CallOK Try.prog (CallRec.mk 35 [AV.ag (St.cs t1), AV.c (AC.i (Ins.s i)), AV.ag (V4.cs y)] [] (Eff.mk (AV.ag (St.cs t2)) [] none))) ∧ (AV.ag (St.cs t2) = V))
    (l2 : (!q) = false → (Ins.s i != -1) = false → (decide (0 ≤ Ins.d i) && decide (Ins.d i < 6)) = true ∧ (Nat.ble (7 + Int.toNat (Ins.d i) * 4 + 4) (List.length (St.cs t))) = true ∧ (Eff.mk (AV.ag (List.take 4 (List.drop (7 + Int.toNat (Ins.d i) * 4) (St.cs t)))) [] none = Eff.mk (AV.ag (V4.cs (V6.get (St.r t) (Int.toNat (Ins.d i))))) [] none) ∧ (CallOK Try.prog (CallRec.mk 81 [AV.ag (Ins.cs i), AV.ag (St.cs t)] [] (Eff.mk (AV.ag (V4.cs b)) [] none))) ∧ (CallOK Try.prog (CallRec.mk 77 [AV.ag (V4.cs (V6.get (St.r t) (Int.toNat (Ins.d i)))), AV.ag (V4.cs b)] [] (Eff.mk (AV.tu [AT.ag (V4.cs x), AT.ag (V4.cs y), AT.c (AC.b q), AT.c (AC.i 0)]) [] none))) ∧ (CallOK Try.prog (CallRec.mk 35 [AV.ag (St.cs t), AV.c (AC.i (Ins.d i)), AV.ag (V4.cs x)] [] (Eff.mk (AV.ag (St.cs t1)) [] none))) ∧ (AV.ag (St.cs t1) = V)) :
    CallOK Try.prog ⟨76, [AV.ag (Ins.cs i), AV.ag (St.cs t), AV.c (AC.f 77 [])], [], ⟨V, [], none⟩⟩ :=
  (tf (!q)).elim (fun h0 => (match l0 h0 with | ⟨o0, o1, c0, c1, c2, e⟩ => ok_eq (fleftOt_w0 (and_yes o0 (and_yes o1 (and_yes h0 rfl))) c0 c1 c2) e)) (fun h0 => (tf (Ins.s i != -1)).elim (fun h1 => (match l1 h0 h1 with | ⟨o0, o1, c0, c1, c2, c3, c4, e⟩ => ok_eq (fleftOt_w1 (and_yes o0 (and_yes o1 (and_yes (not_yes h0) (and_yes h1 rfl)))) c0 c1 c2 c3 c4) e)) (fun h1 => (match l2 h0 h1 with | ⟨o0, o1, c0, c1, c2, c3, e⟩ => ok_eq (fleftOt_w2 (and_yes o0 (and_yes o1 (and_yes (not_yes h0) (and_yes (not_yes h1) rfl)))) c0 c1 c2 c3) e)))
theorem fleftEq_w0 {i : Ins} {t : St} {b : V4} {x : V4} {y : V4} {q : Bool} (h : (decide (0 ≤ Ins.d i) && decide (Ins.d i < 6) && (Nat.ble (7 + Int.toNat (Ins.d i) * 4 + 4) (List.length (St.cs t)) && (!q && true))) = true) (c0 : Eff.mk (AV.ag (List.take 4 (List.drop (7 + Int.toNat (Ins.d i) * 4) (St.cs t)))) [] none = Eff.mk (AV.ag (V4.cs (V6.get (St.r t) (Int.toNat (Ins.d i))))) [] none) (c1 : CallOK Try.prog (CallRec.mk 81 [AV.ag (Ins.cs i), AV.ag (St.cs t)] [] (Eff.mk (AV.ag (V4.cs b)) [] none))) (c2 : CallOK Try.prog (CallRec.mk 78 [AV.ag (V4.cs (V6.get (St.r t) (Int.toNat (Ins.d i)))), AV.ag (V4.cs b)] [] (Eff.mk (AV.tu [AT.ag (V4.cs x), AT.ag (V4.cs y), AT.c (AC.b q), AT.c (AC.i 0)]) [] none))) :
    CallOK Try.prog ⟨76, [AV.ag (Ins.cs i), AV.ag (St.cs t), AV.c (AC.f 78 [])], [], ⟨AV.ag (St.cs St.z), [], none⟩⟩ :=
  val_run 2000 [Eff.mk (AV.ag (V4.cs (V6.get (St.r t) (Int.toNat (Ins.d i))))) [] none, Eff.mk (AV.ag (V4.cs b)) [] none, Eff.mk (AV.tu [AT.ag (V4.cs x), AT.ag (V4.cs y), AT.c (AC.b q), AT.c (AC.i 0)]) [] none] [true] ([]) [(1, 5)] Try.func76 rfl rfl rfl rfl (by kernel_rfl) h (cr_same c0 (cr_cons c1 (cr_cons c2 cr_nil)))
theorem fleftEq_w1 {i : Ins} {t : St} {t1 : St} {t2 : St} {b : V4} {x : V4} {y : V4} {q : Bool} (h : (decide (0 ≤ Ins.d i) && decide (Ins.d i < 6) && (Nat.ble (7 + Int.toNat (Ins.d i) * 4 + 4) (List.length (St.cs t)) && (!!q && (Ins.s i != -1 && true)))) = true) (c0 : Eff.mk (AV.ag (List.take 4 (List.drop (7 + Int.toNat (Ins.d i) * 4) (St.cs t)))) [] none = Eff.mk (AV.ag (V4.cs (V6.get (St.r t) (Int.toNat (Ins.d i))))) [] none) (c1 : CallOK Try.prog (CallRec.mk 81 [AV.ag (Ins.cs i), AV.ag (St.cs t)] [] (Eff.mk (AV.ag (V4.cs b)) [] none))) (c2 : CallOK Try.prog (CallRec.mk 78 [AV.ag (V4.cs (V6.get (St.r t) (Int.toNat (Ins.d i)))), AV.ag (V4.cs b)] [] (Eff.mk (AV.tu [AT.ag (V4.cs x), AT.ag (V4.cs y), AT.c (AC.b q), AT.c (AC.i 0)]) [] none))) (c3 : CallOK Try.prog (CallRec.mk 35 [AV.ag (St.cs t), AV.c (AC.i (Ins.d i)), AV.ag (V4.cs x)] [] (Eff.mk (AV.ag (St.cs t1)) [] none))) (c4 : CallOK Try.prog (CallRec.mk 35 [AV.ag (St.cs t1), AV.c (AC.i (Ins.s i)), AV.ag (V4.cs y)] [] (Eff.mk (AV.ag (St.cs t2)) [] none))) :
    CallOK Try.prog ⟨76, [AV.ag (Ins.cs i), AV.ag (St.cs t), AV.c (AC.f 78 [])], [], ⟨AV.ag (St.cs t2), [], none⟩⟩ :=
  val_run 2000 [Eff.mk (AV.ag (V4.cs (V6.get (St.r t) (Int.toNat (Ins.d i))))) [] none, Eff.mk (AV.ag (V4.cs b)) [] none, Eff.mk (AV.tu [AT.ag (V4.cs x), AT.ag (V4.cs y), AT.c (AC.b q), AT.c (AC.i 0)]) [] none, Eff.mk (AV.ag (St.cs t1)) [] none, Eff.mk (AV.ag (St.cs t2)) [] none] [false, true] ([]) [(1, 5)] Try.func76 rfl rfl rfl rfl (by kernel_rfl) h (cr_same c0 (cr_cons c1 (cr_cons c2 (cr_cons c3 (cr_cons c4 cr_nil)))))
theorem fleftEq_w2 {i : Ins} {t : St} {t1 : St} {b : V4} {x : V4} {y : V4} {q : Bool} (h : (decide (0 ≤ Ins.d i) && decide (Ins.d i < 6) && (Nat.ble (7 + Int.toNat (Ins.d i) * 4 + 4) (List.length (St.cs t)) && (!!q && (!Ins.s i != -1 && true)))) = true) (c0 : Eff.mk (AV.ag (List.take 4 (List.drop (7 + Int.toNat (Ins.d i) * 4) (St.cs t)))) [] none = Eff.mk (AV.ag (V4.cs (V6.get (St.r t) (Int.toNat (Ins.d i))))) [] none) (c1 : CallOK Try.prog (CallRec.mk 81 [AV.ag (Ins.cs i), AV.ag (St.cs t)] [] (Eff.mk (AV.ag (V4.cs b)) [] none))) (c2 : CallOK Try.prog (CallRec.mk 78 [AV.ag (V4.cs (V6.get (St.r t) (Int.toNat (Ins.d i)))), AV.ag (V4.cs b)] [] (Eff.mk (AV.tu [AT.ag (V4.cs x), AT.ag (V4.cs y), AT.c (AC.b q), AT.c (AC.i 0)]) [] none))) (c3 : CallOK Try.prog (CallRec.mk 35 [AV.ag (St.cs t), AV.c (AC.i (Ins.d i)), AV.ag (V4.cs x)] [] (Eff.mk (AV.ag (St.cs t1)) [] none))) :
    CallOK Try.prog ⟨76, [AV.ag (Ins.cs i), AV.ag (St.cs t), AV.c (AC.f 78 [])], [], ⟨AV.ag (St.cs t1), [], none⟩⟩ :=
  val_run 2000 [Eff.mk (AV.ag (V4.cs (V6.get (St.r t) (Int.toNat (Ins.d i))))) [] none, Eff.mk (AV.ag (V4.cs b)) [] none, Eff.mk (AV.tu [AT.ag (V4.cs x), AT.ag (V4.cs y), AT.c (AC.b q), AT.c (AC.i 0)]) [] none, Eff.mk (AV.ag (St.cs t1)) [] none] [false, false] ([]) [(1, 5)] Try.func76 rfl rfl rfl rfl (by kernel_rfl) h (cr_same c0 (cr_cons c1 (cr_cons c2 (cr_cons c3 cr_nil))))
theorem fleftEq_all {i : Ins} {t : St} {t1 : St} {t2 : St} {b : V4} {x : V4} {y : V4} {q : Bool} {V : AV}
    (l0 : (!q) = true → (decide (0 ≤ Ins.d i) && decide (Ins.d i < 6)) = true ∧ (Nat.ble (7 + Int.toNat (Ins.d i) * 4 + 4) (List.length (St.cs t))) = true ∧ (Eff.mk (AV.ag (List.take 4 (List.drop (7 + Int.toNat (Ins.d i) * 4) (St.cs t)))) [] none = Eff.mk (AV.ag (V4.cs (V6.get (St.r t) (Int.toNat (Ins.d i))))) [] none) ∧ (CallOK Try.prog (CallRec.mk 81 [AV.ag (Ins.cs i), AV.ag (St.cs t)] [] (Eff.mk (AV.ag (V4.cs b)) [] none))) ∧ (CallOK Try.prog (CallRec.mk 78 [AV.ag (V4.cs (V6.get (St.r t) (Int.toNat (Ins.d i)))), AV.ag (V4.cs b)] [] (Eff.mk (AV.tu [AT.ag (V4.cs x), AT.ag (V4.cs y), AT.c (AC.b q), AT.c (AC.i 0)]) [] none))) ∧ (AV.ag (St.cs St.z) = V))
    (l1 : (!q) = false → (Ins.s i != -1) = true → (decide (0 ≤ Ins.d i) && decide (Ins.d i < 6)) = true ∧ (Nat.ble (7 + Int.toNat (Ins.d i) * 4 + 4) (List.length (St.cs t))) = true ∧ (Eff.mk (AV.ag (List.take 4 (List.drop (7 + Int.toNat (Ins.d i) * 4) (St.cs t)))) [] none = Eff.mk (AV.ag (V4.cs (V6.get (St.r t) (Int.toNat (Ins.d i))))) [] none) ∧ (CallOK Try.prog (CallRec.mk 81 [AV.ag (Ins.cs i), AV.ag (St.cs t)] [] (Eff.mk (AV.ag (V4.cs b)) [] none))) ∧ (CallOK Try.prog (CallRec.mk 78 [AV.ag (V4.cs (V6.get (St.r t) (Int.toNat (Ins.d i)))), AV.ag (V4.cs b)] [] (Eff.mk (AV.tu [AT.ag (V4.cs x), AT.ag (V4.cs y), AT.c (AC.b q), AT.c (AC.i 0)]) [] none))) ∧ (CallOK Try.prog (CallRec.mk 35 [AV.ag (St.cs t), AV.c (AC.i (Ins.d i)), AV.ag (V4.cs x)] [] (Eff.mk (AV.ag (St.cs t1)) [] none))) ∧ (CallOK Try.prog (CallRec.mk 35 [AV.ag (St.cs t1), AV.c (AC.i (Ins.s i)), AV.ag (V4.cs y)] [] (Eff.mk (AV.ag (St.cs t2)) [] none))) ∧ (AV.ag (St.cs t2) = V))
    (l2 : (!q) = false → (Ins.s i != -1) = false → (decide (0 ≤ Ins.d i) && decide (Ins.d i < 6)) = true ∧ (Nat.ble (7 + Int.toNat (Ins.d i) * 4 + 4) (List.length (St.cs t))) = true ∧ (Eff.mk (AV.ag (List.take 4 (List.drop (7 + Int.toNat (Ins.d i) * 4) (St.cs t)))) [] none = Eff.mk (AV.ag (V4.cs (V6.get (St.r t) (Int.toNat (Ins.d i))))) [] none) ∧ (CallOK Try.prog (CallRec.mk 81 [AV.ag (Ins.cs i), AV.ag (St.cs t)] [] (Eff.mk (AV.ag (V4.cs b)) [] none))) ∧ (CallOK Try.prog (CallRec.mk 78 [AV.ag (V4.cs (V6.get (St.r t) (Int.toNat (Ins.d i)))), AV.ag (V4.cs b)] [] (Eff.mk (AV.tu [AT.ag (V4.cs x), AT.ag (V4.cs y), AT.c (AC.b q), AT.c (AC.i 0)]) [] none))) ∧ (CallOK Try.prog (CallRec.mk 35 [AV.ag (St.cs t), AV.c (AC.i (Ins.d i)), AV.ag (V4.cs x)] [] (Eff.mk (AV.ag (St.cs t1)) [] none))) ∧ (AV.ag (St.cs t1) = V)) :
    CallOK Try.prog ⟨76, [AV.ag (Ins.cs i), AV.ag (St.cs t), AV.c (AC.f 78 [])], [], ⟨V, [], none⟩⟩ :=
  (tf (!q)).elim (fun h0 => (match l0 h0 with | ⟨o0, o1, c0, c1, c2, e⟩ => ok_eq (fleftEq_w0 (and_yes o0 (and_yes o1 (and_yes h0 rfl))) c0 c1 c2) e)) (fun h0 => (tf (Ins.s i != -1)).elim (fun h1 => (match l1 h0 h1 with | ⟨o0, o1, c0, c1, c2, c3, c4, e⟩ => ok_eq (fleftEq_w1 (and_yes o0 (and_yes o1 (and_yes (not_yes h0) (and_yes h1 rfl)))) c0 c1 c2 c3 c4) e)) (fun h1 => (match l2 h0 h1 with | ⟨o0, o1, c0, c1, c2, c3, e⟩ => ok_eq (fleftEq_w2 (and_yes o0 (and_yes o1 (and_yes (not_yes h0) (and_yes (not_yes h1) rfl)))) c0 c1 c2 c3) e)))
theorem fleftNl_w0 {i : Ins} {t : St} {b : V4} {x : V4} {y : V4} {q : Bool} (h : (decide (0 ≤ Ins.d i) && decide (Ins.d i < 6) && (Nat.ble (7 + Int.toNat (Ins.d i) * 4 + 4) (List.length (St.cs t)) && (!q && true))) = true) (c0 : Eff.mk (AV.ag (List.take 4 (List.drop (7 + Int.toNat (Ins.d i) * 4) (St.cs t)))) [] none = Eff.mk (AV.ag (V4.cs (V6.get (St.r t) (Int.toNat (Ins.d i))))) [] none) (c1 : CallOK Try.prog (CallRec.mk 81 [AV.ag (Ins.cs i), AV.ag (St.cs t)] [] (Eff.mk (AV.ag (V4.cs b)) [] none))) (c2 : CallOK Try.prog (CallRec.mk 79 [AV.ag (V4.cs (V6.get (St.r t) (Int.toNat (Ins.d i)))), AV.ag (V4.cs b)] [] (Eff.mk (AV.tu [AT.ag (V4.cs x), AT.ag (V4.cs y), AT.c (AC.b q), AT.c (AC.i 0)]) [] none))) :
    CallOK Try.prog ⟨76, [AV.ag (Ins.cs i), AV.ag (St.cs t), AV.c (AC.f 79 [])], [], ⟨AV.ag (St.cs St.z), [], none⟩⟩ :=
  val_run 2000 [Eff.mk (AV.ag (V4.cs (V6.get (St.r t) (Int.toNat (Ins.d i))))) [] none, Eff.mk (AV.ag (V4.cs b)) [] none, Eff.mk (AV.tu [AT.ag (V4.cs x), AT.ag (V4.cs y), AT.c (AC.b q), AT.c (AC.i 0)]) [] none] [true] ([]) [(1, 5)] Try.func76 rfl rfl rfl rfl (by kernel_rfl) h (cr_same c0 (cr_cons c1 (cr_cons c2 cr_nil)))
theorem fleftNl_w1 {i : Ins} {t : St} {t1 : St} {t2 : St} {b : V4} {x : V4} {y : V4} {q : Bool} (h : (decide (0 ≤ Ins.d i) && decide (Ins.d i < 6) && (Nat.ble (7 + Int.toNat (Ins.d i) * 4 + 4) (List.length (St.cs t)) && (!!q && (Ins.s i != -1 && true)))) = true) (c0 : Eff.mk (AV.ag (List.take 4 (List.drop (7 + Int.toNat (Ins.d i) * 4) (St.cs t)))) [] none = Eff.mk (AV.ag (V4.cs (V6.get (St.r t) (Int.toNat (Ins.d i))))) [] none) (c1 : CallOK Try.prog (CallRec.mk 81 [AV.ag (Ins.cs i), AV.ag (St.cs t)] [] (Eff.mk (AV.ag (V4.cs b)) [] none))) (c2 : CallOK Try.prog (CallRec.mk 79 [AV.ag (V4.cs (V6.get (St.r t) (Int.toNat (Ins.d i)))), AV.ag (V4.cs b)] [] (Eff.mk (AV.tu [AT.ag (V4.cs x), AT.ag (V4.cs y), AT.c (AC.b q), AT.c (AC.i 0)]) [] none))) (c3 : CallOK Try.prog (CallRec.mk 35 [AV.ag (St.cs t), AV.c (AC.i (Ins.d i)), AV.ag (V4.cs x)] [] (Eff.mk (AV.ag (St.cs t1)) [] none))) (c4 : CallOK Try.prog (CallRec.mk 35 [AV.ag (St.cs t1), AV.c (AC.i (Ins.s i)), AV.ag (V4.cs y)] [] (Eff.mk (AV.ag (St.cs t2)) [] none))) :
    CallOK Try.prog ⟨76, [AV.ag (Ins.cs i), AV.ag (St.cs t), AV.c (AC.f 79 [])], [], ⟨AV.ag (St.cs t2), [], none⟩⟩ :=
  val_run 2000 [Eff.mk (AV.ag (V4.cs (V6.get (St.r t) (Int.toNat (Ins.d i))))) [] none, Eff.mk (AV.ag (V4.cs b)) [] none, Eff.mk (AV.tu [AT.ag (V4.cs x), AT.ag (V4.cs y), AT.c (AC.b q), AT.c (AC.i 0)]) [] none, Eff.mk (AV.ag (St.cs t1)) [] none, Eff.mk (AV.ag (St.cs t2)) [] none] [false, true] ([]) [(1, 5)] Try.func76 rfl rfl rfl rfl (by kernel_rfl) h (cr_same c0 (cr_cons c1 (cr_cons c2 (cr_cons c3 (cr_cons c4 cr_nil)))))
theorem fleftNl_w2 {i : Ins} {t : St} {t1 : St} {b : V4} {x : V4} {y : V4} {q : Bool} (h : (decide (0 ≤ Ins.d i) && decide (Ins.d i < 6) && (Nat.ble (7 + Int.toNat (Ins.d i) * 4 + 4) (List.length (St.cs t)) && (!!q && (!Ins.s i != -1 && true)))) = true) (c0 : Eff.mk (AV.ag (List.take 4 (List.drop (7 + Int.toNat (Ins.d i) * 4) (St.cs t)))) [] none = Eff.mk (AV.ag (V4.cs (V6.get (St.r t) (Int.toNat (Ins.d i))))) [] none) (c1 : CallOK Try.prog (CallRec.mk 81 [AV.ag (Ins.cs i), AV.ag (St.cs t)] [] (Eff.mk (AV.ag (V4.cs b)) [] none))) (c2 : CallOK Try.prog (CallRec.mk 79 [AV.ag (V4.cs (V6.get (St.r t) (Int.toNat (Ins.d i)))), AV.ag (V4.cs b)] [] (Eff.mk (AV.tu [AT.ag (V4.cs x), AT.ag (V4.cs y), AT.c (AC.b q), AT.c (AC.i 0)]) [] none))) (c3 : CallOK Try.prog (CallRec.mk 35 [AV.ag (St.cs t), AV.c (AC.i (Ins.d i)), AV.ag (V4.cs x)] [] (Eff.mk (AV.ag (St.cs t1)) [] none))) :
    CallOK Try.prog ⟨76, [AV.ag (Ins.cs i), AV.ag (St.cs t), AV.c (AC.f 79 [])], [], ⟨AV.ag (St.cs t1), [], none⟩⟩ :=
  val_run 2000 [Eff.mk (AV.ag (V4.cs (V6.get (St.r t) (Int.toNat (Ins.d i))))) [] none, Eff.mk (AV.ag (V4.cs b)) [] none, Eff.mk (AV.tu [AT.ag (V4.cs x), AT.ag (V4.cs y), AT.c (AC.b q), AT.c (AC.i 0)]) [] none, Eff.mk (AV.ag (St.cs t1)) [] none] [false, false] ([]) [(1, 5)] Try.func76 rfl rfl rfl rfl (by kernel_rfl) h (cr_same c0 (cr_cons c1 (cr_cons c2 (cr_cons c3 cr_nil))))
theorem fleftNl_all {i : Ins} {t : St} {t1 : St} {t2 : St} {b : V4} {x : V4} {y : V4} {q : Bool} {V : AV}
    (l0 : (!q) = true → (decide (0 ≤ Ins.d i) && decide (Ins.d i < 6)) = true ∧ (Nat.ble (7 + Int.toNat (Ins.d i) * 4 + 4) (List.length (St.cs t))) = true ∧ (Eff.mk (AV.ag (List.take 4 (List.drop (7 + Int.toNat (Ins.d i) * 4) (St.cs t)))) [] none = Eff.mk (AV.ag (V4.cs (V6.get (St.r t) (Int.toNat (Ins.d i))))) [] none) ∧ (CallOK Try.prog (CallRec.mk 81 [AV.ag (Ins.cs i), AV.ag (St.cs t)] [] (Eff.mk (AV.ag (V4.cs b)) [] none))) ∧ (CallOK Try.prog (CallRec.mk 79 [AV.ag (V4.cs (V6.get (St.r t) (Int.toNat (Ins.d i)))), AV.ag (V4.cs b)] [] (Eff.mk (AV.tu [AT.ag (V4.cs x), AT.ag (V4.cs y), AT.c (AC.b q), AT.c (AC.i 0)]) [] none))) ∧ (AV.ag (St.cs St.z) = V))
    (l1 : (!q) = false → (Ins.s i != -1) = true → (decide (0 ≤ Ins.d i) && decide (Ins.d i < 6)) = true ∧ (Nat.ble (7 + Int.toNat (Ins.d i) * 4 + 4) (List.length (St.cs t))) = true ∧ (Eff.mk (AV.ag (List.take 4 (List.drop (7 + Int.toNat (Ins.d i) * 4) (St.cs t)))) [] none = Eff.mk (AV.ag (V4.cs (V6.get (St.r t) (Int.toNat (Ins.d i))))) [] none) ∧ (CallOK Try.prog (CallRec.mk 81 [AV.ag (Ins.cs i), AV.ag (St.cs t)] [] (Eff.mk (AV.ag (V4.cs b)) [] none))) ∧ (CallOK Try.prog (CallRec.mk 79 [AV.ag (V4.cs (V6.get (St.r t) (Int.toNat (Ins.d i)))), AV.ag (V4.cs b)] [] (Eff.mk (AV.tu [AT.ag (V4.cs x), AT.ag (V4.cs y), AT.c (AC.b q), AT.c (AC.i 0)]) [] none))) ∧ (CallOK Try.prog (CallRec.mk 35 [AV.ag (St.cs t), AV.c (AC.i (Ins.d i)), AV.ag (V4.cs x)] [] (Eff.mk (AV.ag (St.cs t1)) [] none))) ∧ (CallOK Try.prog (CallRec.mk 35 [AV.ag (St.cs t1), AV.c (AC.i (Ins.s i)), AV.ag (V4.cs y)] [] (Eff.mk (AV.ag (St.cs t2)) [] none))) ∧ (AV.ag (St.cs t2) = V))
    (l2 : (!q) = false → (Ins.s i != -1) = false → (decide (0 ≤ Ins.d i) && decide (Ins.d i < 6)) = true ∧ (Nat.ble (7 + Int.toNat (Ins.d i) * 4 + 4) (List.length (St.cs t))) = true ∧ (Eff.mk (AV.ag (List.take 4 (List.drop (7 + Int.toNat (Ins.d i) * 4) (St.cs t)))) [] none = Eff.mk (AV.ag (V4.cs (V6.get (St.r t) (Int.toNat (Ins.d i))))) [] none) ∧ (CallOK Try.prog (CallRec.mk 81 [AV.ag (Ins.cs i), AV.ag (St.cs t)] [] (Eff.mk (AV.ag (V4.cs b)) [] none))) ∧ (CallOK Try.prog (CallRec.mk 79 [AV.ag (V4.cs (V6.get (St.r t) (Int.toNat (Ins.d i)))), AV.ag (V4.cs b)] [] (Eff.mk (AV.tu [AT.ag (V4.cs x), AT.ag (V4.cs y), AT.c (AC.b q), AT.c (AC.i 0)]) [] none))) ∧ (CallOK Try.prog (CallRec.mk 35 [AV.ag (St.cs t), AV.c (AC.i (Ins.d i)), AV.ag (V4.cs x)] [] (Eff.mk (AV.ag (St.cs t1)) [] none))) ∧ (AV.ag (St.cs t1) = V)) :
    CallOK Try.prog ⟨76, [AV.ag (Ins.cs i), AV.ag (St.cs t), AV.c (AC.f 79 [])], [], ⟨V, [], none⟩⟩ :=
  (tf (!q)).elim (fun h0 => (match l0 h0 with | ⟨o0, o1, c0, c1, c2, e⟩ => ok_eq (fleftNl_w0 (and_yes o0 (and_yes o1 (and_yes h0 rfl))) c0 c1 c2) e)) (fun h0 => (tf (Ins.s i != -1)).elim (fun h1 => (match l1 h0 h1 with | ⟨o0, o1, c0, c1, c2, c3, c4, e⟩ => ok_eq (fleftNl_w1 (and_yes o0 (and_yes o1 (and_yes (not_yes h0) (and_yes h1 rfl)))) c0 c1 c2 c3 c4) e)) (fun h1 => (match l2 h0 h1 with | ⟨o0, o1, c0, c1, c2, c3, e⟩ => ok_eq (fleftNl_w2 (and_yes o0 (and_yes o1 (and_yes (not_yes h0) (and_yes (not_yes h1) rfl)))) c0 c1 c2 c3) e)))
theorem fleftLe_w0 {i : Ins} {t : St} {b : V4} {x : V4} {y : V4} {q : Bool} (h : (decide (0 ≤ Ins.d i) && decide (Ins.d i < 6) && (Nat.ble (7 + Int.toNat (Ins.d i) * 4 + 4) (List.length (St.cs t)) && (!q && true))) = true) (c0 : Eff.mk (AV.ag (List.take 4 (List.drop (7 + Int.toNat (Ins.d i) * 4) (St.cs t)))) [] none = Eff.mk (AV.ag (V4.cs (V6.get (St.r t) (Int.toNat (Ins.d i))))) [] none) (c1 : CallOK Try.prog (CallRec.mk 81 [AV.ag (Ins.cs i), AV.ag (St.cs t)] [] (Eff.mk (AV.ag (V4.cs b)) [] none))) (c2 : CallOK Try.prog (CallRec.mk 80 [AV.ag (V4.cs (V6.get (St.r t) (Int.toNat (Ins.d i)))), AV.ag (V4.cs b)] [] (Eff.mk (AV.tu [AT.ag (V4.cs x), AT.ag (V4.cs y), AT.c (AC.b q), AT.c (AC.i 0)]) [] none))) :
    CallOK Try.prog ⟨76, [AV.ag (Ins.cs i), AV.ag (St.cs t), AV.c (AC.f 80 [])], [], ⟨AV.ag (St.cs St.z), [], none⟩⟩ :=
  val_run 2000 [Eff.mk (AV.ag (V4.cs (V6.get (St.r t) (Int.toNat (Ins.d i))))) [] none, Eff.mk (AV.ag (V4.cs b)) [] none, Eff.mk (AV.tu [AT.ag (V4.cs x), AT.ag (V4.cs y), AT.c (AC.b q), AT.c (AC.i 0)]) [] none] [true] ([]) [(1, 5)] Try.func76 rfl rfl rfl rfl (by kernel_rfl) h (cr_same c0 (cr_cons c1 (cr_cons c2 cr_nil)))
theorem fleftLe_w1 {i : Ins} {t : St} {t1 : St} {t2 : St} {b : V4} {x : V4} {y : V4} {q : Bool} (h : (decide (0 ≤ Ins.d i) && decide (Ins.d i < 6) && (Nat.ble (7 + Int.toNat (Ins.d i) * 4 + 4) (List.length (St.cs t)) && (!!q && (Ins.s i != -1 && true)))) = true) (c0 : Eff.mk (AV.ag (List.take 4 (List.drop (7 + Int.toNat (Ins.d i) * 4) (St.cs t)))) [] none = Eff.mk (AV.ag (V4.cs (V6.get (St.r t) (Int.toNat (Ins.d i))))) [] none) (c1 : CallOK Try.prog (CallRec.mk 81 [AV.ag (Ins.cs i), AV.ag (St.cs t)] [] (Eff.mk (AV.ag (V4.cs b)) [] none))) (c2 : CallOK Try.prog (CallRec.mk 80 [AV.ag (V4.cs (V6.get (St.r t) (Int.toNat (Ins.d i)))), AV.ag (V4.cs b)] [] (Eff.mk (AV.tu [AT.ag (V4.cs x), AT.ag (V4.cs y), AT.c (AC.b q), AT.c (AC.i 0)]) [] none))) (c3 : CallOK Try.prog (CallRec.mk 35 [AV.ag (St.cs t), AV.c (AC.i (Ins.d i)), AV.ag (V4.cs x)] [] (Eff.mk (AV.ag (St.cs t1)) [] none))) (c4 : CallOK Try.prog (CallRec.mk 35 [AV.ag (St.cs t1), AV.c (AC.i (Ins.s i)), AV.ag (V4.cs y)] [] (Eff.mk (AV.ag (St.cs t2)) [] none))) :
    CallOK Try.prog ⟨76, [AV.ag (Ins.cs i), AV.ag (St.cs t), AV.c (AC.f 80 [])], [], ⟨AV.ag (St.cs t2), [], none⟩⟩ :=
  val_run 2000 [Eff.mk (AV.ag (V4.cs (V6.get (St.r t) (Int.toNat (Ins.d i))))) [] none, Eff.mk (AV.ag (V4.cs b)) [] none, Eff.mk (AV.tu [AT.ag (V4.cs x), AT.ag (V4.cs y), AT.c (AC.b q), AT.c (AC.i 0)]) [] none, Eff.mk (AV.ag (St.cs t1)) [] none, Eff.mk (AV.ag (St.cs t2)) [] none] [false, true] ([]) [(1, 5)] Try.func76 rfl rfl rfl rfl (by kernel_rfl) h (cr_same c0 (cr_cons c1 (cr_cons c2 (cr_cons c3 (cr_cons c4 cr_nil)))))
theorem fleftLe_w2 {i : Ins} {t : St} {t1 : St} {b : V4} {x : V4} {y : V4} {q : Bool} (h : (decide (0 ≤ Ins.d i) && decide (Ins.d i < 6) && (Nat.ble (7 + Int.toNat (Ins.d i) * 4 + 4) (List.length (St.cs t)) && (!!q && (!Ins.s i != -1 && true)))) = true) (c0 : Eff.mk (AV.ag (List.take 4 (List.drop (7 + Int.toNat (Ins.d i) * 4) (St.cs t)))) [] none = Eff.mk (AV.ag (V4.cs (V6.get (St.r t) (Int.toNat (Ins.d i))))) [] none) (c1 : CallOK Try.prog (CallRec.mk 81 [AV.ag (Ins.cs i), AV.ag (St.cs t)] [] (Eff.mk (AV.ag (V4.cs b)) [] none))) (c2 : CallOK Try.prog (CallRec.mk 80 [AV.ag (V4.cs (V6.get (St.r t) (Int.toNat (Ins.d i)))), AV.ag (V4.cs b)] [] (Eff.mk (AV.tu [AT.ag (V4.cs x), AT.ag (V4.cs y), AT.c (AC.b q), AT.c (AC.i 0)]) [] none))) (c3 : CallOK Try.prog (CallRec.mk 35 [AV.ag (St.cs t), AV.c (AC.i (Ins.d i)), AV.ag (V4.cs x)] [] (Eff.mk (AV.ag (St.cs t1)) [] none))) :
    CallOK Try.prog ⟨76, [AV.ag (Ins.cs i), AV.ag (St.cs t), AV.c (AC.f 80 [])], [], ⟨AV.ag (St.cs t1), [], none⟩⟩ :=
  val_run 2000 [Eff.mk (AV.ag (V4.cs (V6.get (St.r t) (Int.toNat (Ins.d i))))) [] none, Eff.mk (AV.ag (V4.cs b)) [] none, Eff.mk (AV.tu [AT.ag (V4.cs x), AT.ag (V4.cs y), AT.c (AC.b q), AT.c (AC.i 0)]) [] none, Eff.mk (AV.ag (St.cs t1)) [] none] [false, false] ([]) [(1, 5)] Try.func76 rfl rfl rfl rfl (by kernel_rfl) h (cr_same c0 (cr_cons c1 (cr_cons c2 (cr_cons c3 cr_nil))))
theorem fleftLe_all {i : Ins} {t : St} {t1 : St} {t2 : St} {b : V4} {x : V4} {y : V4} {q : Bool} {V : AV}
    (l0 : (!q) = true → (decide (0 ≤ Ins.d i) && decide (Ins.d i < 6)) = true ∧ (Nat.ble (7 + Int.toNat (Ins.d i) * 4 + 4) (List.length (St.cs t))) = true ∧ (Eff.mk (AV.ag (List.take 4 (List.drop (7 + Int.toNat (Ins.d i) * 4) (St.cs t)))) [] none = Eff.mk (AV.ag (V4.cs (V6.get (St.r t) (Int.toNat (Ins.d i))))) [] none) ∧ (CallOK Try.prog (CallRec.mk 81 [AV.ag (Ins.cs i), AV.ag (St.cs t)] [] (Eff.mk (AV.ag (V4.cs b)) [] none))) ∧ (CallOK Try.prog (CallRec.mk 80 [AV.ag (V4.cs (V6.get (St.r t) (Int.toNat (Ins.d i)))), AV.ag (V4.cs b)] [] (Eff.mk (AV.tu [AT.ag (V4.cs x), AT.ag (V4.cs y), AT.c (AC.b q), AT.c (AC.i 0)]) [] none))) ∧ (AV.ag (St.cs St.z) = V))
    (l1 : (!q) = false → (Ins.s i != -1) = true → (decide (0 ≤ Ins.d i) && decide (Ins.d i < 6)) = true ∧ (Nat.ble (7 + Int.toNat (Ins.d i) * 4 + 4) (List.length (St.cs t))) = true ∧ (Eff.mk (AV.ag (List.take 4 (List.drop (7 + Int.toNat (Ins.d i) * 4) (St.cs t)))) [] none = Eff.mk (AV.ag (V4.cs (V6.get (St.r t) (Int.toNat (Ins.d i))))) [] none) ∧ (CallOK Try.prog (CallRec.mk 81 [AV.ag (Ins.cs i), AV.ag (St.cs t)] [] (Eff.mk (AV.ag (V4.cs b)) [] none))) ∧ (CallOK Try.prog (CallRec.mk 80 [AV.ag (V4.cs (V6.get (St.r t) (Int.toNat (Ins.d i)))), AV.ag (V4.cs b)] [] (Eff.mk (AV.tu [AT.ag (V4.cs x), AT.ag (V4.cs y), AT.c (AC.b q), AT.c (AC.i 0)]) [] none))) ∧ (CallOK Try.prog (CallRec.mk 35 [AV.ag (St.cs t), AV.c (AC.i (Ins.d i)), AV.ag (V4.cs x)] [] (Eff.mk (AV.ag (St.cs t1)) [] none))) ∧ (CallOK Try.prog (CallRec.mk 35 [AV.ag (St.cs t1), AV.c (AC.i (Ins.s i)), AV.ag (V4.cs y)] [] (Eff.mk (AV.ag (St.cs t2)) [] none))) ∧ (AV.ag (St.cs t2) = V))
    (l2 : (!q) = false → (Ins.s i != -1) = false → (decide (0 ≤ Ins.d i) && decide (Ins.d i < 6)) = true ∧ (Nat.ble (7 + Int.toNat (Ins.d i) * 4 + 4) (List.length (St.cs t))) = true ∧ (Eff.mk (AV.ag (List.take 4 (List.drop (7 + Int.toNat (Ins.d i) * 4) (St.cs t)))) [] none = Eff.mk (AV.ag (V4.cs (V6.get (St.r t) (Int.toNat (Ins.d i))))) [] none) ∧ (CallOK Try.prog (CallRec.mk 81 [AV.ag (Ins.cs i), AV.ag (St.cs t)] [] (Eff.mk (AV.ag (V4.cs b)) [] none))) ∧ (CallOK Try.prog (CallRec.mk 80 [AV.ag (V4.cs (V6.get (St.r t) (Int.toNat (Ins.d i)))), AV.ag (V4.cs b)] [] (Eff.mk (AV.tu [AT.ag (V4.cs x), AT.ag (V4.cs y), AT.c (AC.b q), AT.c (AC.i 0)]) [] none))) ∧ (CallOK Try.prog (CallRec.mk 35 [AV.ag (St.cs t), AV.c (AC.i (Ins.d i)), AV.ag (V4.cs x)] [] (Eff.mk (AV.ag (St.cs t1)) [] none))) ∧ (AV.ag (St.cs t1) = V)) :
    CallOK Try.prog ⟨76, [AV.ag (Ins.cs i), AV.ag (St.cs t), AV.c (AC.f 80 [])], [], ⟨V, [], none⟩⟩ :=
  (tf (!q)).elim (fun h0 => (match l0 h0 with | ⟨o0, o1, c0, c1, c2, e⟩ => ok_eq (fleftLe_w0 (and_yes o0 (and_yes o1 (and_yes h0 rfl))) c0 c1 c2) e)) (fun h0 => (tf (Ins.s i != -1)).elim (fun h1 => (match l1 h0 h1 with | ⟨o0, o1, c0, c1, c2, c3, c4, e⟩ => ok_eq (fleftLe_w1 (and_yes o0 (and_yes o1 (and_yes (not_yes h0) (and_yes h1 rfl)))) c0 c1 c2 c3 c4) e)) (fun h1 => (match l2 h0 h1 with | ⟨o0, o1, c0, c1, c2, c3, e⟩ => ok_eq (fleftLe_w2 (and_yes o0 (and_yes o1 (and_yes (not_yes h0) (and_yes (not_yes h1) rfl)))) c0 c1 c2 c3) e)))
theorem ftTop_w0 {i : Ins} {t : St} {u : V6 Bool} {C : Cx} {R : Ending → World → Prop} (c0 : CallOK Try.prog (CallRec.mk 57 [AV.ag (Ins.cs i)] [] (Eff.mk (AV.ag (bcs u)) [] none))) (lo : Kn.Low ⟨[(2, AV.c (AC.w 0)), (3, AV.c (AC.w 1)), (8, AV.ag (bcs u)), (9, AV.c (AC.i 0))], [(0, Ent.mk true (Ins.cs i) 0), (1, Ent.mk true (St.cs t) 0)], 2⟩) (hF : ∀ k, C.F k → k < 2) (z : ART Try.prog 45 C Try.f45.ntmps (cutAt Try.f45 0) ⟨[(2, AV.c (AC.w 0)), (3, AV.c (AC.w 1)), (8, AV.ag (bcs u)), (9, AV.c (AC.i 0))], [(0, Ent.mk true (Ins.cs i) 0), (1, Ent.mk true (St.cs t) 0)], 2⟩ R) :
    ART Try.prog 45 C Try.f45.ntmps ([Item.code (bodyOf Try.f45)]) (Kn.start [AV.ag (Ins.cs i), AV.ag (St.cs t)] [] 0) R :=
  run_cut ⟨[(2, AV.c (AC.w 0)), (3, AV.c (AC.w 1)), (8, AV.ag (bcs u)), (9, AV.c (AC.i 0))], [(0, Ent.mk true (Ins.cs i) 0), (1, Ent.mk true (St.cs t) 0)], 2⟩ 2000 [Eff.mk (AV.ag (bcs u)) [] none] [] ([true]) [] Try.func45 (by kernel_rfl) rfl (cr_cons c0 cr_nil) lo hF z
theorem ftRound_w0 {i : Ins} {t : St} {u : V6 Bool} {j : Int} {w : World} {β : Bs} {n : Nat} (h : (decide (j < 6) && (AC.isB (Option.getD (bcs u)[Int.toNat j * 1]? (AC.b false)) && Nat.blt (Int.toNat j * 1) (List.length (bcs u)) && (decide (0 ≤ j) && decide (j < 6)) && (V6.get u (Int.toNat j) && (decide (0 ≤ j) && decide (j < 6) && (AC.isB (Option.getD (St.cs t)[1 + Int.toNat j * 1]? (AC.b false)) && Nat.blt (1 + Int.toNat j * 1) (List.length (St.cs t)) && (!V6.get (St.s t) (Int.toNat j) && true)))))) = true) (c0 : Eff.mk (AV.c (AC.b (AC.asB (Option.getD (bcs u)[Int.toNat j * 1]? (AC.b false))))) [] none = Eff.mk (AV.c (AC.b (V6.get u (Int.toNat j)))) [] none) (c1 : Eff.mk (AV.c (AC.b (AC.asB (Option.getD (St.cs t)[1 + Int.toNat j * 1]? (AC.b false))))) [] none = Eff.mk (AV.c (AC.b (V6.get (St.s t) (Int.toNat j)))) [] none) :
    ART Try.prog 45 (cx w β n []) Try.f45.ntmps (cutAt Try.f45 0) (Kn.mk [(2, AV.c (AC.w 0)), (3, AV.c (AC.w 1)), (8, AV.ag (bcs u)), (9, AV.c (AC.i j))] [(0, Ent.mk true (Ins.cs i) 0), (1, Ent.mk true (St.cs t) 0)] 2) (REff w β ⟨AV.c (AC.i 1), [], none⟩) :=
  run_eff [] (none) 2000 [Eff.mk (AV.c (AC.b (V6.get u (Int.toNat j)))) [] none, Eff.mk (AV.c (AC.b (V6.get (St.s t) (Int.toNat j)))) [] none] [true, true, true] ([true]) [(3, 1), (4, 5)] Try.func45 (ekeys0 rfl n) (by kernel_rfl) h (cr_same c0 (cr_same c1 cr_nil))
theorem ftRound_w1 {i : Ins} {t : St} {u : V6 Bool} {j : Int} {C : Cx} {R : Ending → World → Prop} (h : (decide (j < 6) && (AC.isB (Option.getD (bcs u)[Int.toNat j * 1]? (AC.b false)) && Nat.blt (Int.toNat j * 1) (List.length (bcs u)) && (decide (0 ≤ j) && decide (j < 6)) && (V6.get u (Int.toNat j) && (decide (0 ≤ j) && decide (j < 6) && (AC.isB (Option.getD (St.cs t)[1 + Int.toNat j * 1]? (AC.b false)) && Nat.blt (1 + Int.toNat j * 1) (List.length (St.cs t)) && (!!V6.get (St.s t) (Int.toNat j) && true)))))) = true) (c0 : Eff.mk (AV.c (AC.b (AC.asB (Option.getD (bcs u)[Int.toNat j * 1]? (AC.b false))))) [] none = Eff.mk (AV.c (AC.b (V6.get u (Int.toNat j)))) [] none) (c1 : Eff.mk (AV.c (AC.b (AC.asB (Option.getD (St.cs t)[1 + Int.toNat j * 1]? (AC.b false))))) [] none = Eff.mk (AV.c (AC.b (V6.get (St.s t) (Int.toNat j)))) [] none) (lo : Kn.Low ⟨[(2, AV.c (AC.w 0)), (3, AV.c (AC.w 1)), (8, AV.ag (bcs u)), (9, AV.c (AC.i (IntKind.wrap IntKind.i64 (j + 1))))], [(0, Ent.mk true (Ins.cs i) 0), (1, Ent.mk true (St.cs t) 0)], 2⟩) (hF : ∀ k, C.F k → k < 2) (z : ART Try.prog 45 C Try.f45.ntmps (cutAt Try.f45 0) ⟨[(2, AV.c (AC.w 0)), (3, AV.c (AC.w 1)), (8, AV.ag (bcs u)), (9, AV.c (AC.i (IntKind.wrap IntKind.i64 (j + 1))))], [(0, Ent.mk true (Ins.cs i) 0), (1, Ent.mk true (St.cs t) 0)], 2⟩ R) :
    ART Try.prog 45 C Try.f45.ntmps (cutAt Try.f45 0) (Kn.mk [(2, AV.c (AC.w 0)), (3, AV.c (AC.w 1)), (8, AV.ag (bcs u)), (9, AV.c (AC.i j))] [(0, Ent.mk true (Ins.cs i) 0), (1, Ent.mk true (St.cs t) 0)] 2) R :=
  run_cut ⟨[(2, AV.c (AC.w 0)), (3, AV.c (AC.w 1)), (8, AV.ag (bcs u)), (9, AV.c (AC.i (IntKind.wrap IntKind.i64 (j + 1))))], [(0, Ent.mk true (Ins.cs i) 0), (1, Ent.mk true (St.cs t) 0)], 2⟩ 2000 [Eff.mk (AV.c (AC.b (V6.get u (Int.toNat j)))) [] none, Eff.mk (AV.c (AC.b (V6.get (St.s t) (Int.toNat j)))) [] none] [true, true, false] ([true]) [(3, 1), (4, 5)] Try.func45 (by kernel_rfl) h (cr_same c0 (cr_same c1 cr_nil)) lo hF z
theorem ftRound_w2 {i : Ins} {t : St} {u : V6 Bool} {j : Int} {C : Cx} {R : Ending → World → Prop} (h : (decide (j < 6) && (AC.isB (Option.getD (bcs u)[Int.toNat j * 1]? (AC.b false)) && Nat.blt (Int.toNat j * 1) (List.length (bcs u)) && (decide (0 ≤ j) && decide (j < 6)) && (!V6.get u (Int.toNat j) && true))) = true) (c0 : Eff.mk (AV.c (AC.b (AC.asB (Option.getD (bcs u)[Int.toNat j * 1]? (AC.b false))))) [] none = Eff.mk (AV.c (AC.b (V6.get u (Int.toNat j)))) [] none) (lo : Kn.Low ⟨[(2, AV.c (AC.w 0)), (3, AV.c (AC.w 1)), (8, AV.ag (bcs u)), (9, AV.c (AC.i (IntKind.wrap IntKind.i64 (j + 1))))], [(0, Ent.mk true (Ins.cs i) 0), (1, Ent.mk true (St.cs t) 0)], 2⟩) (hF : ∀ k, C.F k → k < 2) (z : ART Try.prog 45 C Try.f45.ntmps (cutAt Try.f45 0) ⟨[(2, AV.c (AC.w 0)), (3, AV.c (AC.w 1)), (8, AV.ag (bcs u)), (9, AV.c (AC.i (IntKind.wrap IntKind.i64 (j + 1))))], [(0, Ent.mk true (Ins.cs i) 0), (1, Ent.mk true (St.cs t) 0)], 2⟩ R) :
    ART Try.prog 45 C Try.f45.ntmps (cutAt Try.f45 0) (Kn.mk [(2, AV.c (AC.w 0)), (3, AV.c (AC.w 1)), (8, AV.ag (bcs u)), (9, AV.c (AC.i j))] [(0, Ent.mk true (Ins.cs i) 0), (1, Ent.mk true (St.cs t) 0)] 2) R :=
  run_cut ⟨[(2, AV.c (AC.w 0)), (3, AV.c (AC.w 1)), (8, AV.ag (bcs u)), (9, AV.c (AC.i (IntKind.wrap IntKind.i64 (j + 1))))], [(0, Ent.mk true (Ins.cs i) 0), (1, Ent.mk true (St.cs t) 0)], 2⟩ 2000 [Eff.mk (AV.c (AC.b (V6.get u (Int.toNat j)))) [] none] [true, false, false] ([true]) [(3, 1), (4, 5)] Try.func45 (by kernel_rfl) h (cr_same c0 cr_nil) lo hF z
theorem ftRound_all {i : Ins} {t : St} {u : V6 Bool} {j : Int} {w : World} {β : Bs} {n : Nat} {E : Eff} (hn : n ≤ 2)
    (l0 : (V6.get u (Int.toNat j)) = true → (!V6.get (St.s t) (Int.toNat j)) = true → (decide (j < 6)) = true ∧ (AC.isB (Option.getD (bcs u)[Int.toNat j * 1]? (AC.b false)) && Nat.blt (Int.toNat j * 1) (List.length (bcs u)) && (decide (0 ≤ j) && decide (j < 6))) = true ∧ (decide (0 ≤ j) && decide (j < 6)) = true ∧ (AC.isB (Option.getD (St.cs t)[1 + Int.toNat j * 1]? (AC.b false)) && Nat.blt (1 + Int.toNat j * 1) (List.length (St.cs t))) = true ∧ (Eff.mk (AV.c (AC.b (AC.asB (Option.getD (bcs u)[Int.toNat j * 1]? (AC.b false))))) [] none = Eff.mk (AV.c (AC.b (V6.get u (Int.toNat j)))) [] none) ∧ (Eff.mk (AV.c (AC.b (AC.asB (Option.getD (St.cs t)[1 + Int.toNat j * 1]? (AC.b false))))) [] none = Eff.mk (AV.c (AC.b (V6.get (St.s t) (Int.toNat j)))) [] none) ∧ ((⟨AV.c (AC.i 1), [], none⟩ : Eff) = E))
    (l1 : (V6.get u (Int.toNat j)) = true → (!V6.get (St.s t) (Int.toNat j)) = false → (decide (j < 6)) = true ∧ (AC.isB (Option.getD (bcs u)[Int.toNat j * 1]? (AC.b false)) && Nat.blt (Int.toNat j * 1) (List.length (bcs u)) && (decide (0 ≤ j) && decide (j < 6))) = true ∧ (decide (0 ≤ j) && decide (j < 6)) = true ∧ (AC.isB (Option.getD (St.cs t)[1 + Int.toNat j * 1]? (AC.b false)) && Nat.blt (1 + Int.toNat j * 1) (List.length (St.cs t))) = true ∧ (Eff.mk (AV.c (AC.b (AC.asB (Option.getD (bcs u)[Int.toNat j * 1]? (AC.b false))))) [] none = Eff.mk (AV.c (AC.b (V6.get u (Int.toNat j)))) [] none) ∧ (Eff.mk (AV.c (AC.b (AC.asB (Option.getD (St.cs t)[1 + Int.toNat j * 1]? (AC.b false))))) [] none = Eff.mk (AV.c (AC.b (V6.get (St.s t) (Int.toNat j)))) [] none) ∧ Kn.Low ⟨[(2, AV.c (AC.w 0)), (3, AV.c (AC.w 1)), (8, AV.ag (bcs u)), (9, AV.c (AC.i (IntKind.wrap IntKind.i64 (j + 1))))], [(0, Ent.mk true (Ins.cs i) 0), (1, Ent.mk true (St.cs t) 0)], 2⟩ ∧ ART Try.prog 45 (cx w β n []) Try.f45.ntmps (cutAt Try.f45 0) ⟨[(2, AV.c (AC.w 0)), (3, AV.c (AC.w 1)), (8, AV.ag (bcs u)), (9, AV.c (AC.i (IntKind.wrap IntKind.i64 (j + 1))))], [(0, Ent.mk true (Ins.cs i) 0), (1, Ent.mk true (St.cs t) 0)], 2⟩ (REff w β E))
    (l2 : (V6.get u (Int.toNat j)) = false → (decide (j < 6)) = true ∧ (AC.isB (Option.getD (bcs u)[Int.toNat j * 1]? (AC.b false)) && Nat.blt (Int.toNat j * 1) (List.length (bcs u)) && (decide (0 ≤ j) && decide (j < 6))) = true ∧ (Eff.mk (AV.c (AC.b (AC.asB (Option.getD (bcs u)[Int.toNat j * 1]? (AC.b false))))) [] none = Eff.mk (AV.c (AC.b (V6.get u (Int.toNat j)))) [] none) ∧ Kn.Low ⟨[(2, AV.c (AC.w 0)), (3, AV.c (AC.w 1)), (8, AV.ag (bcs u)), (9, AV.c (AC.i (IntKind.wrap IntKind.i64 (j + 1))))], [(0, Ent.mk true (Ins.cs i) 0), (1, Ent.mk true (St.cs t) 0)], 2⟩ ∧ ART Try.prog 45 (cx w β n []) Try.f45.ntmps (cutAt Try.f45 0) ⟨[(2, AV.c (AC.w 0)), (3, AV.c (AC.w 1)), (8, AV.ag (bcs u)), (9, AV.c (AC.i (IntKind.wrap IntKind.i64 (j + 1))))], [(0, Ent.mk true (Ins.cs i) 0), (1, Ent.mk true (St.cs t) 0)], 2⟩ (REff w β E)) :
    ART Try.prog 45 (cx w β n []) Try.f45.ntmps (cutAt Try.f45 0) (Kn.mk [(2, AV.c (AC.w 0)), (3, AV.c (AC.w 1)), (8, AV.ag (bcs u)), (9, AV.c (AC.i j))] [(0, Ent.mk true (Ins.cs i) 0), (1, Ent.mk true (St.cs t) 0)] 2) (REff w β E) :=
  (tf (V6.get u (Int.toNat j))).elim (fun h0 => (tf (!V6.get (St.s t) (Int.toNat j))).elim (fun h1 => (match l0 h0 h1 with | ⟨o0, o1, o2, o3, c0, c1, e⟩ => art_eq (ftRound_w0 (and_yes o0 (and_yes o1 (and_yes h0 (and_yes o2 (and_yes o3 (and_yes h1 rfl)))))) c0 c1) e)) (fun h1 => (match l1 h0 h1 with | ⟨o0, o1, o2, o3, c0, c1, lo, z⟩ => ftRound_w1 (and_yes o0 (and_yes o1 (and_yes h0 (and_yes o2 (and_yes o3 (and_yes (not_yes h1) rfl)))))) c0 c1 lo (fun _ hk => Nat.lt_of_lt_of_le hk hn) z))) (fun h0 => (match l2 h0 with | ⟨o0, o1, c0, lo, z⟩ => ftRound_w2 (and_yes o0 (and_yes o1 (and_yes (not_yes h0) rfl))) c0 lo (fun _ hk => Nat.lt_of_lt_of_le hk hn) z))
theorem ftEnd_w0 {i : Ins} {t : St} {u : V6 Bool} {e : Int} {w : World} {β : Bs} {n : Nat} (h : (Ins.op i == 10 && (decide (0 ≤ Ins.s i) && decide (Ins.s i < 6) && (Nat.ble (7 + Int.toNat (Ins.s i) * 4 + 4) (List.length (St.cs t)) && true))) = true) (c0 : Eff.mk (AV.ag (List.take 4 (List.drop (7 + Int.toNat (Ins.s i) * 4) (St.cs t)))) [] none = Eff.mk (AV.ag (V4.cs (V6.get (St.r t) (Int.toNat (Ins.s i))))) [] none) (c1 : CallOK Try.prog (CallRec.mk 74 [AV.ag (Ins.cs i), AV.ag (V4.cs (V6.get (St.r t) (Int.toNat (Ins.s i))))] [] (Eff.mk (AV.c (AC.i e)) [] none))) :
    ART Try.prog 45 (cx w β n []) Try.f45.ntmps (cutAt Try.f45 0) (Kn.mk [(2, AV.c (AC.w 0)), (3, AV.c (AC.w 1)), (8, AV.ag (bcs u)), (9, AV.c (AC.i 6))] [(0, Ent.mk true (Ins.cs i) 0), (1, Ent.mk true (St.cs t) 0)] 2) (REff w β ⟨AV.c (AC.i e), [], none⟩) :=
  run_eff [] (none) 2000 [Eff.mk (AV.ag (V4.cs (V6.get (St.r t) (Int.toNat (Ins.s i))))) [] none, Eff.mk (AV.c (AC.i e)) [] none] [false, true] ([true]) [(9, 5), (11, 5)] Try.func45 (ekeys0 rfl n) (by kernel_rfl) h (cr_same c0 (cr_cons c1 cr_nil))
theorem ftEnd_w1 {i : Ins} {t : St} {u : V6 Bool} {e : Int} {w : World} {β : Bs} {n : Nat} (h : (!Ins.op i == 10 && (Ins.op i == 11 && (decide (0 ≤ Ins.d i) && decide (Ins.d i < 6) && (Nat.ble (7 + Int.toNat (Ins.d i) * 4 + 4) (List.length (St.cs t)) && true)))) = true) (c0 : Eff.mk (AV.ag (List.take 4 (List.drop (7 + Int.toNat (Ins.d i) * 4) (St.cs t)))) [] none = Eff.mk (AV.ag (V4.cs (V6.get (St.r t) (Int.toNat (Ins.d i))))) [] none) (c1 : CallOK Try.prog (CallRec.mk 74 [AV.ag (Ins.cs i), AV.ag (V4.cs (V6.get (St.r t) (Int.toNat (Ins.d i))))] [] (Eff.mk (AV.c (AC.i e)) [] none))) :
    ART Try.prog 45 (cx w β n []) Try.f45.ntmps (cutAt Try.f45 0) (Kn.mk [(2, AV.c (AC.w 0)), (3, AV.c (AC.w 1)), (8, AV.ag (bcs u)), (9, AV.c (AC.i 6))] [(0, Ent.mk true (Ins.cs i) 0), (1, Ent.mk true (St.cs t) 0)] 2) (REff w β ⟨AV.c (AC.i e), [], none⟩) :=
  run_eff [] (none) 2000 [Eff.mk (AV.ag (V4.cs (V6.get (St.r t) (Int.toNat (Ins.d i))))) [] none, Eff.mk (AV.c (AC.i e)) [] none] [false, false, true] ([true]) [(9, 5), (11, 5)] Try.func45 (ekeys0 rfl n) (by kernel_rfl) h (cr_same c0 (cr_cons c1 cr_nil))
theorem ftEnd_w2 {i : Ins} {t : St} {u : V6 Bool} {w : World} {β : Bs} {n : Nat} (h : (!Ins.op i == 10 && (!Ins.op i == 11 && true)) = true) :
    ART Try.prog 45 (cx w β n []) Try.f45.ntmps (cutAt Try.f45 0) (Kn.mk [(2, AV.c (AC.w 0)), (3, AV.c (AC.w 1)), (8, AV.ag (bcs u)), (9, AV.c (AC.i 6))] [(0, Ent.mk true (Ins.cs i) 0), (1, Ent.mk true (St.cs t) 0)] 2) (REff w β ⟨AV.c (AC.i 0), [], none⟩) :=
  run_eff [] (none) 2000 [] [false, false, false] ([true]) [(9, 5), (11, 5)] Try.func45 (ekeys0 rfl n) (by kernel_rfl) h cr_nil
theorem ftEnd_all {i : Ins} {t : St} {u : V6 Bool} {e : Int} {w : World} {β : Bs} {n : Nat} {E : Eff}
    (l0 : (Ins.op i == 10) = true → (decide (0 ≤ Ins.s i) && decide (Ins.s i < 6)) = true ∧ (Nat.ble (7 + Int.toNat (Ins.s i) * 4 + 4) (List.length (St.cs t))) = true ∧ (Eff.mk (AV.ag (List.take 4 (List.drop (7 + Int.toNat (Ins.s i) * 4) (St.cs t)))) [] none = Eff.mk (AV.ag (V4.cs (V6.get (St.r t) (Int.toNat (Ins.s i))))) [] none) ∧ (CallOK Try.prog (CallRec.mk 74 [AV.ag (Ins.cs i), AV.ag (V4.cs (V6.get (St.r t) (Int.toNat (Ins.s i))))] [] (Eff.mk (AV.c (AC.i e)) [] none))) ∧ ((⟨AV.c (AC.i e), [], none⟩ : Eff) = E))
    (l1 : (Ins.op i == 10) = false → (Ins.op i == 11) = true → (decide (0 ≤ Ins.d i) && decide (Ins.d i < 6)) = true ∧ (Nat.ble (7 + Int.toNat (Ins.d i) * 4 + 4) (List.length (St.cs t))) = true ∧ (Eff.mk (AV.ag (List.take 4 (List.drop (7 + Int.toNat (Ins.d i) * 4) (St.cs t)))) [] none = Eff.mk (AV.ag (V4.cs (V6.get (St.r t) (Int.toNat (Ins.d i))))) [] none) ∧ (CallOK Try.prog (CallRec.mk 74 [AV.ag (Ins.cs i), AV.ag (V4.cs (V6.get (St.r t) (Int.toNat (Ins.d i))))] [] (Eff.mk (AV.c (AC.i e)) [] none))) ∧ ((⟨AV.c (AC.i e), [], none⟩ : Eff) = E))
    (l2 : (Ins.op i == 10) = false → (Ins.op i == 11) = false → ((⟨AV.c (AC.i 0), [], none⟩ : Eff) = E)) :
    ART Try.prog 45 (cx w β n []) Try.f45.ntmps (cutAt Try.f45 0) (Kn.mk [(2, AV.c (AC.w 0)), (3, AV.c (AC.w 1)), (8, AV.ag (bcs u)), (9, AV.c (AC.i 6))] [(0, Ent.mk true (Ins.cs i) 0), (1, Ent.mk true (St.cs t) 0)] 2) (REff w β E) :=
  (tf (Ins.op i == 10)).elim (fun h0 => (match l0 h0 with | ⟨o0, o1, c0, c1, e⟩ => art_eq (ftEnd_w0 (and_yes h0 (and_yes o0 (and_yes o1 rfl))) c0 c1) e)) (fun h0 => (tf (Ins.op i == 11)).elim (fun h1 => (match l1 h0 h1 with | ⟨o0, o1, c0, c1, e⟩ => art_eq (ftEnd_w1 (and_yes (not_yes h0) (and_yes h1 (and_yes o0 (and_yes o1 rfl)))) c0 c1) e)) (fun h1 => (match l2 h0 h1 with | e => art_eq (ftEnd_w2 (and_yes (not_yes h0) (and_yes (not_yes h1) rfl))) e)))
theorem fgoL_w0 {i : Ins} {t : St} {t1 : St} {a : V4} (h : (Ins.op i == 10 && true) = true) (c0 : Eff.mk (AV.c (AC.i (IntKind.wrap IntKind.i64 (nv (Ins.im i))))) [] none = Eff.mk (AV.c (AC.i (nv (Ins.im i)))) [] none) (c1 : CallOK Try.prog (CallRec.mk 75 [AV.c (AC.i (nv (Ins.im i)))] [] (Eff.mk (AV.tu [AT.ag (V4.cs a), AT.c (AC.i 0)]) [] none))) (c2 : CallOK Try.prog (CallRec.mk 35 [AV.ag (St.cs t), AV.c (AC.i (Ins.d i)), AV.ag (V4.cs a)] [] (Eff.mk (AV.ag (St.cs t1)) [] none))) :
    CallOK Try.prog ⟨46, [AV.ag (Ins.cs i), AV.ag (St.cs t)], [], ⟨AV.tu [AT.ag (St.cs t1), AT.ag (St.cs St.z)], [], none⟩⟩ :=
  val_run 2000 [Eff.mk (AV.c (AC.i (nv (Ins.im i)))) [] none, Eff.mk (AV.tu [AT.ag (V4.cs a), AT.c (AC.i 0)]) [] none, Eff.mk (AV.ag (St.cs t1)) [] none] [true] ([]) [(3, 2), (17, 6)] Try.func46 rfl rfl rfl rfl (by kernel_rfl) h (cr_same c0 (cr_cons c1 (cr_cons c2 cr_nil)))
theorem fgoS_w0 {i : Ins} {t : St} (h : (!Ins.op i == 10 && (Ins.op i == 11 && true)) = true) :
    CallOK Try.prog ⟨46, [AV.ag (Ins.cs i), AV.ag (St.cs t)], [], ⟨AV.tu [AT.ag (St.cs t), AT.ag (St.cs St.z)], [], none⟩⟩ :=
  val_run 2000 [] [false, true] ([]) [(3, 2), (17, 6)] Try.func46 rfl rfl rfl rfl (by kernel_rfl) h cr_nil
theorem fgoJ_w0 {i : Ins} {t : St} (h : (!Ins.op i == 10 && (!Ins.op i == 11 && (Ins.op i == 12 && true))) = true) :
    CallOK Try.prog ⟨46, [AV.ag (Ins.cs i), AV.ag (St.cs t)], [], ⟨AV.tu [AT.ag (St.cs St.z), AT.ag (St.cs t)], [], none⟩⟩ :=
  val_run 2000 [] [false, false, true] ([]) [(3, 2), (17, 6)] Try.func46 rfl rfl rfl rfl (by kernel_rfl) h cr_nil
theorem fgoEq_w0 {i : Ins} {t : St} {t1 : St} {t2 : St} (h : (!Ins.op i == 10 && (!Ins.op i == 11 && (!Ins.op i == 12 && (Ins.op i == 13 && true)))) = true) (c0 : CallOK Try.prog (CallRec.mk 76 [AV.ag (Ins.cs i), AV.ag (St.cs t), AV.c (AC.f 77 [])] [] (Eff.mk (AV.ag (St.cs t1)) [] none))) (c1 : CallOK Try.prog (CallRec.mk 76 [AV.ag (Ins.cs i), AV.ag (St.cs t), AV.c (AC.f 78 [])] [] (Eff.mk (AV.ag (St.cs t2)) [] none))) :
    CallOK Try.prog ⟨46, [AV.ag (Ins.cs i), AV.ag (St.cs t)], [], ⟨AV.tu [AT.ag (St.cs t1), AT.ag (St.cs t2)], [], none⟩⟩ :=
  val_run 2000 [Eff.mk (AV.ag (St.cs t1)) [] none, Eff.mk (AV.ag (St.cs t2)) [] none] [false, false, false, true] ([]) [(3, 2), (17, 6)] Try.func46 rfl rfl rfl rfl (by kernel_rfl) h (cr_cons c0 (cr_cons c1 cr_nil))
theorem fgoLt_w0 {i : Ins} {t : St} {t1 : St} {t2 : St} (h : (!Ins.op i == 10 && (!Ins.op i == 11 && (!Ins.op i == 12 && (!Ins.op i == 13 && (Ins.op i == 14 && true))))) = true) (c0 : CallOK Try.prog (CallRec.mk 76 [AV.ag (Ins.cs i), AV.ag (St.cs t), AV.c (AC.f 79 [])] [] (Eff.mk (AV.ag (St.cs t1)) [] none))) (c1 : CallOK Try.prog (CallRec.mk 76 [AV.ag (Ins.cs i), AV.ag (St.cs t), AV.c (AC.f 80 [])] [] (Eff.mk (AV.ag (St.cs t2)) [] none))) :
    CallOK Try.prog ⟨46, [AV.ag (Ins.cs i), AV.ag (St.cs t)], [], ⟨AV.tu [AT.ag (St.cs t1), AT.ag (St.cs t2)], [], none⟩⟩ :=
  val_run 2000 [Eff.mk (AV.ag (St.cs t1)) [] none, Eff.mk (AV.ag (St.cs t2)) [] none] [false, false, false, false, true] ([]) [(3, 2), (17, 6)] Try.func46 rfl rfl rfl rfl (by kernel_rfl) h (cr_cons c0 (cr_cons c1 cr_nil))
theorem fgoX_w0 {i : Ins} {t : St} (h : (!Ins.op i == 10 && (!Ins.op i == 11 && (!Ins.op i == 12 && (!Ins.op i == 13 && (!Ins.op i == 14 && (Ins.op i == 15 && true)))))) = true) :
    CallOK Try.prog ⟨46, [AV.ag (Ins.cs i), AV.ag (St.cs t)], [], ⟨AV.tu [AT.ag (St.cs St.z), AT.ag (St.cs St.z)], [], none⟩⟩ :=
  val_run 2000 [] [false, false, false, false, false, true] ([]) [(3, 2), (17, 6)] Try.func46 rfl rfl rfl rfl (by kernel_rfl) h cr_nil
theorem fgoM_w0 {i : Ins} {t : St} {t1 : St} {a : V4} (h : (!Ins.op i == 10 && (!Ins.op i == 11 && (!Ins.op i == 12 && (!Ins.op i == 13 && (!Ins.op i == 14 && (!Ins.op i == 15 && (Ins.op i == 1 && true))))))) = true) (c0 : CallOK Try.prog (CallRec.mk 81 [AV.ag (Ins.cs i), AV.ag (St.cs t)] [] (Eff.mk (AV.ag (V4.cs a)) [] none))) (c1 : CallOK Try.prog (CallRec.mk 35 [AV.ag (St.cs t), AV.c (AC.i (Ins.d i)), AV.ag (V4.cs a)] [] (Eff.mk (AV.ag (St.cs t1)) [] none))) :
    CallOK Try.prog ⟨46, [AV.ag (Ins.cs i), AV.ag (St.cs t)], [], ⟨AV.tu [AT.ag (St.cs t1), AT.ag (St.cs St.z)], [], none⟩⟩ :=
  val_run 2000 [Eff.mk (AV.ag (V4.cs a)) [] none, Eff.mk (AV.ag (St.cs t1)) [] none] [false, false, false, false, false, false, true] ([]) [(3, 2), (17, 6)] Try.func46 rfl rfl rfl rfl (by kernel_rfl) h (cr_cons c0 (cr_cons c1 cr_nil))
theorem fgoT_w0 {i : Ins} {t : St} {t1 : St} {b : V4} {c : V4} (h : (!Ins.op i == 10 && (!Ins.op i == 11 && (!Ins.op i == 12 && (!Ins.op i == 13 && (!Ins.op i == 14 && (!Ins.op i == 15 && (!Ins.op i == 1 && (decide (0 ≤ Ins.d i) && decide (Ins.d i < 6) && (Nat.ble (7 + Int.toNat (Ins.d i) * 4 + 4) (List.length (St.cs t)) && true))))))))) = true) (c0 : Eff.mk (AV.ag (List.take 4 (List.drop (7 + Int.toNat (Ins.d i) * 4) (St.cs t)))) [] none = Eff.mk (AV.ag (V4.cs (V6.get (St.r t) (Int.toNat (Ins.d i))))) [] none) (c1 : CallOK Try.prog (CallRec.mk 81 [AV.ag (Ins.cs i), AV.ag (St.cs t)] [] (Eff.mk (AV.ag (V4.cs b)) [] none))) (c2 : CallOK Try.prog (CallRec.mk 82 [AV.c (AC.i (Ins.op i)), AV.ag (V4.cs (V6.get (St.r t) (Int.toNat (Ins.d i)))), AV.ag (V4.cs b)] [] (Eff.mk (AV.tu [AT.ag (V4.cs c), AT.c (AC.i 0)]) [] none))) (c3 : CallOK Try.prog (CallRec.mk 35 [AV.ag (St.cs t), AV.c (AC.i (Ins.d i)), AV.ag (V4.cs c)] [] (Eff.mk (AV.ag (St.cs t1)) [] none))) :
    CallOK Try.prog ⟨46, [AV.ag (Ins.cs i), AV.ag (St.cs t)], [], ⟨AV.tu [AT.ag (St.cs t1), AT.ag (St.cs St.z)], [], none⟩⟩ :=
  val_run 2000 [Eff.mk (AV.ag (V4.cs (V6.get (St.r t) (Int.toNat (Ins.d i))))) [] none, Eff.mk (AV.ag (V4.cs b)) [] none, Eff.mk (AV.tu [AT.ag (V4.cs c), AT.c (AC.i 0)]) [] none, Eff.mk (AV.ag (St.cs t1)) [] none] [false, false, false, false, false, false, false] ([]) [(3, 2), (17, 6)] Try.func46 rfl rfl rfl rfl (by kernel_rfl) h (cr_same c0 (cr_cons c1 (cr_cons c2 (cr_cons c3 cr_nil))))
theorem fstep_w0 {i : Ins} {t : St} {fi : Bool} (h : (!fi && true) = true) (c0 : CallOK Try.prog (CallRec.mk 44 [AV.ag (Ins.cs i)] [] (Eff.mk (AV.c (AC.b fi)) [] none))) :
    CallOK Try.prog ⟨22, [AV.ag (Ins.cs i), AV.ag (St.cs t)], [], ⟨AV.tu [AT.ag (St.cs St.z), AT.ag (St.cs St.z), AT.c (AC.i 0), AT.c (AC.i 1)], [], none⟩⟩ :=
  val_run 2000 [Eff.mk (AV.c (AC.b fi)) [] none] [true, true] ([]) [] Try.func22 rfl rfl rfl rfl (by kernel_rfl) h (cr_cons c0 cr_nil)
theorem fstep_w1 {i : Ins} {t : St} {fi : Bool} {ce : Int} (h : (!!fi && (ce != 0 && true)) = true) (c0 : CallOK Try.prog (CallRec.mk 44 [AV.ag (Ins.cs i)] [] (Eff.mk (AV.c (AC.b fi)) [] none))) (c1 : CallOK Try.prog (CallRec.mk 17 [AV.ag (St.cs t)] [] (Eff.mk (AV.c (AC.i ce)) [] none))) :
    CallOK Try.prog ⟨22, [AV.ag (Ins.cs i), AV.ag (St.cs t)], [], ⟨AV.tu [AT.ag (St.cs St.z), AT.ag (St.cs St.z), AT.c (AC.i 0), AT.c (AC.i 1)], [], none⟩⟩ :=
  val_run 2000 [Eff.mk (AV.c (AC.b fi)) [] none, Eff.mk (AV.c (AC.i ce)) [] none] [false, true] ([]) [] Try.func22 rfl rfl rfl rfl (by kernel_rfl) h (cr_cons c0 (cr_cons c1 cr_nil))
theorem fstep_w2 {i : Ins} {t : St} {fi : Bool} {ce : Int} (h : (!!fi && (!ce != 0 && (!St.live t && true))) = true) (c0 : CallOK Try.prog (CallRec.mk 44 [AV.ag (Ins.cs i)] [] (Eff.mk (AV.c (AC.b fi)) [] none))) (c1 : CallOK Try.prog (CallRec.mk 17 [AV.ag (St.cs t)] [] (Eff.mk (AV.c (AC.i ce)) [] none))) :
    CallOK Try.prog ⟨22, [AV.ag (Ins.cs i), AV.ag (St.cs t)], [], ⟨AV.tu [AT.ag (St.cs St.z), AT.ag (St.cs St.z), AT.c (AC.i 0), AT.c (AC.i 0)], [], none⟩⟩ :=
  val_run 2000 [Eff.mk (AV.c (AC.b fi)) [] none, Eff.mk (AV.c (AC.i ce)) [] none] [false, false, true] ([]) [] Try.func22 rfl rfl rfl rfl (by kernel_rfl) h (cr_cons c0 (cr_cons c1 cr_nil))
theorem fstep_w3 {i : Ins} {t : St} {fi : Bool} {ce : Int} {tr : Int} (h : (!!fi && (!ce != 0 && (!!St.live t && (tr != 0 && true)))) = true) (c0 : CallOK Try.prog (CallRec.mk 44 [AV.ag (Ins.cs i)] [] (Eff.mk (AV.c (AC.b fi)) [] none))) (c1 : CallOK Try.prog (CallRec.mk 17 [AV.ag (St.cs t)] [] (Eff.mk (AV.c (AC.i ce)) [] none))) (c2 : CallOK Try.prog (CallRec.mk 45 [AV.ag (Ins.cs i), AV.ag (St.cs t)] [] (Eff.mk (AV.c (AC.i tr)) [] none))) :
    CallOK Try.prog ⟨22, [AV.ag (Ins.cs i), AV.ag (St.cs t)], [], ⟨AV.tu [AT.ag (St.cs St.z), AT.ag (St.cs St.z), AT.c (AC.i tr), AT.c (AC.i 0)], [], none⟩⟩ :=
  val_run 2000 [Eff.mk (AV.c (AC.b fi)) [] none, Eff.mk (AV.c (AC.i ce)) [] none, Eff.mk (AV.c (AC.i tr)) [] none] [false, false, false, true] ([]) [] Try.func22 rfl rfl rfl rfl (by kernel_rfl) h (cr_cons c0 (cr_cons c1 (cr_cons c2 cr_nil)))
theorem fstep_w4 {i : Ins} {t : St} {t1 : St} {t2 : St} {fi : Bool} {ce : Int} {tr : Int} (h : (!!fi && (!ce != 0 && (!!St.live t && (!tr != 0 && true)))) = true) (c0 : CallOK Try.prog (CallRec.mk 44 [AV.ag (Ins.cs i)] [] (Eff.mk (AV.c (AC.b fi)) [] none))) (c1 : CallOK Try.prog (CallRec.mk 17 [AV.ag (St.cs t)] [] (Eff.mk (AV.c (AC.i ce)) [] none))) (c2 : CallOK Try.prog (CallRec.mk 45 [AV.ag (Ins.cs i), AV.ag (St.cs t)] [] (Eff.mk (AV.c (AC.i tr)) [] none))) (c3 : CallOK Try.prog (CallRec.mk 46 [AV.ag (Ins.cs i), AV.ag (St.cs t)] [] (Eff.mk (AV.tu [AT.ag (St.cs t1), AT.ag (St.cs t2)]) [] none))) :
    CallOK Try.prog ⟨22, [AV.ag (Ins.cs i), AV.ag (St.cs t)], [], ⟨AV.tu [AT.ag (St.cs t1), AT.ag (St.cs t2), AT.c (AC.i 0), AT.c (AC.i 0)], [], none⟩⟩ :=
  val_run 2000 [Eff.mk (AV.c (AC.b fi)) [] none, Eff.mk (AV.c (AC.i ce)) [] none, Eff.mk (AV.c (AC.i tr)) [] none, Eff.mk (AV.tu [AT.ag (St.cs t1), AT.ag (St.cs t2)]) [] none] [false, false, false, false] ([]) [] Try.func22 rfl rfl rfl rfl (by kernel_rfl) h (cr_cons c0 (cr_cons c1 (cr_cons c2 (cr_cons c3 cr_nil))))
theorem fstep_all {i : Ins} {t : St} {t1 : St} {t2 : St} {fi : Bool} {ce : Int} {tr : Int} {V : AV}
    (l0 : (!fi) = true → (CallOK Try.prog (CallRec.mk 44 [AV.ag (Ins.cs i)] [] (Eff.mk (AV.c (AC.b fi)) [] none))) ∧ (AV.tu [AT.ag (St.cs St.z), AT.ag (St.cs St.z), AT.c (AC.i 0), AT.c (AC.i 1)] = V))
    (l1 : (!fi) = false → (ce != 0) = true → (CallOK Try.prog (CallRec.mk 44 [AV.ag (Ins.cs i)] [] (Eff.mk (AV.c (AC.b fi)) [] none))) ∧ (CallOK Try.prog (CallRec.mk 17 [AV.ag (St.cs t)] [] (Eff.mk (AV.c (AC.i ce)) [] none))) ∧ (AV.tu [AT.ag (St.cs St.z), AT.ag (St.cs St.z), AT.c (AC.i 0), AT.c (AC.i 1)] = V))
    (l2 : (!fi) = false → (ce != 0) = false → (!St.live t) = true → (CallOK Try.prog (CallRec.mk 44 [AV.ag (Ins.cs i)] [] (Eff.mk (AV.c (AC.b fi)) [] none))) ∧ (CallOK Try.prog (CallRec.mk 17 [AV.ag (St.cs t)] [] (Eff.mk (AV.c (AC.i ce)) [] none))) ∧ (AV.tu [AT.ag (St.cs St.z), AT.ag (St.cs St.z), AT.c (AC.i 0), AT.c (AC.i 0)] = V))
    (l3 : (!fi) = false → (ce != 0) = false → (!St.live t) = false → (tr != 0) = true → (CallOK Try.prog (CallRec.mk 44 [AV.ag (Ins.cs i)] [] (Eff.mk (AV.c (AC.b fi)) [] none))) ∧ (CallOK Try.prog (CallRec.mk 17 [AV.ag (St.cs t)] [] (Eff.mk (AV.c (AC.i ce)) [] none))) ∧ (CallOK Try.prog (CallRec.mk 45 [AV.ag (Ins.cs i), AV.ag (St.cs t)] [] (Eff.mk (AV.c (AC.i tr)) [] none))) ∧ (AV.tu [AT.ag (St.cs St.z), AT.ag (St.cs St.z), AT.c (AC.i tr), AT.c (AC.i 0)] = V))
    (l4 : (!fi) = false → (ce != 0) = false → (!St.live t) = false → (tr != 0) = false → (CallOK Try.prog (CallRec.mk 44 [AV.ag (Ins.cs i)] [] (Eff.mk (AV.c (AC.b fi)) [] none))) ∧ (CallOK Try.prog (CallRec.mk 17 [AV.ag (St.cs t)] [] (Eff.mk (AV.c (AC.i ce)) [] none))) ∧ (CallOK Try.prog (CallRec.mk 45 [AV.ag (Ins.cs i), AV.ag (St.cs t)] [] (Eff.mk (AV.c (AC.i tr)) [] none))) ∧ (CallOK Try.prog (CallRec.mk 46 [AV.ag (Ins.cs i), AV.ag (St.cs t)] [] (Eff.mk (AV.tu [AT.ag (St.cs t1), AT.ag (St.cs t2)]) [] none))) ∧ (AV.tu [AT.ag (St.cs t1), AT.ag (St.cs t2), AT.c (AC.i 0), AT.c (AC.i 0)] = V)) :
    CallOK Try.prog ⟨22, [AV.ag (Ins.cs i), AV.ag (St.cs t)], [], ⟨V, [], none⟩⟩ :=
  (tf (!fi)).elim (fun h0 => (match l0 h0 with | ⟨c0, e⟩ => ok_eq (fstep_w0 (and_yes h0 rfl) c0) e)) (fun h0 => (tf (ce != 0)).elim (fun h1 => (match l1 h0 h1 with | ⟨c0, c1, e⟩ => ok_eq (fstep_w1 (and_yes (not_yes h0) (and_yes h1 rfl)) c0 c1) e)) (fun h1 => (tf (!St.live t)).elim (fun h2 => (match l2 h0 h1 h2 with | ⟨c0, c1, e⟩ => ok_eq (fstep_w2 (and_yes (not_yes h0) (and_yes (not_yes h1) (and_yes h2 rfl))) c0 c1) e)) (fun h2 => (tf (tr != 0)).elim (fun h3 => (match l3 h0 h1 h2 h3 with | ⟨c0, c1, c2, e⟩ => ok_eq (fstep_w3 (and_yes (not_yes h0) (and_yes (not_yes h1) (and_yes (not_yes h2) (and_yes h3 rfl)))) c0 c1 c2) e)) (fun h3 => (match l4 h0 h1 h2 h3 with | ⟨c0, c1, c2, c3, e⟩ => ok_eq (fstep_w4 (and_yes (not_yes h0) (and_yes (not_yes h1) (and_yes (not_yes h2) (and_yes (not_yes h3) rfl)))) c0 c1 c2 c3) e)))))
end Go.Proofs.Ytkigmocchaikgab

/- The contracts of calc's Equal, Other, Less, NotLess, and of the reference's OtherVals. -/
namespace Go.Proofs.Ytkigmocchaikgab
open Go.RowKit

/- the program's -/
theorem valNorm_c {n : V4} (hr : n.rt = true) : Hid (∀ w, Calls Try.prog 65 #[Vl n.v n.m n.l n.h] w fun e w' => e = .returned (.tuple #[Vl n.norm.v n.norm.m n.norm.l n.norm.h, .bool n.nok, N 0]) ∧ Below w.heap.size w w') := by
  intro w
  unfold V4.norm
  cases hn : n.nok
  · exact norm_none hr hn w
  · exact norm_yes hr hn w
def Four (f : Nat) (a b : V4) (r : V4 × V4 × Bool) : Prop := Ok f [.ag a.cs, .ag b.cs] (.tu [.ag r.1.cs, .ag r.2.1.cs, .c (.b r.2.2), .c (.i 0)])
theorem four_of {f : Nat} {a b x y : V4} {may : Bool} (h : ∀ w, Calls Try.prog f #[Vl a.v a.m a.l a.h, Vl b.v b.m b.l b.h] w fun e w' => e = .returned (.tuple #[lv (may && (x.nok && y.nok)) (Vl x.norm.v x.norm.m x.norm.l x.norm.h), lv (may && (x.nok && y.nok)) (Vl y.norm.v y.norm.m y.norm.l y.norm.h), .bool (may && (x.nok && y.nok)), N 0]) ∧ Below w.heap.size w w') :
    Four f a b (left2 may x y) := by
  refine okc h (fun _ => rfl) (fun _ => ?_) ?_
  · simp only [left2, V4.norm]
    cases may <;> cases x.nok <;> cases y.nok <;> rfl
  · rfl
theorem calcEqual_ok {a b : V4} (ha : a.ok = true) (hb : b.ok = true) : Four 78 a b (a.equal b) := by
  have r1 := V4.rt_of ha
  have r2 := V4.rt_of hb
  have hbb := both_ok ha hb
  unfold V4.equal
  cases hm : a.meets b with
  | false =>
    have n := valNorm_c (n := ⟨zero, zero, bmax a.l b.l, bmin a.h b.h⟩) ((rt_iff _ _).2 (zero_rt zero))
    have := four_of (f := 78) (a := a) (b := b) (may := false) fun w => calcEqual_right hbb w (hid (fun B w' hc => equal1_is hc (hid (fun w => meet_no (both_rt r1 r2) hm w)) rfl rfl)) n n
    exact this
  | true =>
    have hrt : (a.rawEqual b).rt = true := (rt_iff _ _).2 (by
      have r1 := (val_facts ha).1
      have r2 := (val_facts hb).1
      intro j
      have h3 := r1 j; have h4 := r2 j
      show (bit (bor a.v b.v) j && bit (band a.m b.m) j) = false
      rw [bit_or, bit_and']
      revert h3 h4
      cases bit a.v j <;> cases bit a.m j <;> cases bit b.v j <;> cases bit b.m j <;> simp)
    exact four_of (f := 78) (a := a) (b := b) (may := true) fun w => calcEqual_right hbb w (hid (fun B w' hc => equal1_is hc (hid (fun w => meet_ok (both_rt r1 r2) hm w)) rfl rfl)) (valNorm_c hrt) (valNorm_c hrt)
theorem calcOther_ok {a b : V4} (ha : a.ok = true) (hb : b.ok = true) : Four 77 a b (a.other b) :=
  four_of (f := 77) (a := a) (b := b) fun w => calcOther_right (both_ok ha hb) w (hid (fun _ _ hc => other1_is hc rfl)) (valNorm_c (n := a.without b) (show a.rt = true from V4.rt_of ha)) (valNorm_c (n := b.without a) (show b.rt = true from V4.rt_of hb))
theorem calcLess_ok {a b : V4} (ha : a.ok = true) (hb : b.ok = true) : Four 80 a b (a.less b) := by
  unfold V4.less
  cases hz : (eqb b.h zero || eqb a.l top) with
  | true =>
    have := four_of (f := 80) (a := a) (b := b) (may := false) fun w => calcLess_right (both_ok ha hb) w (hid (fun B w' hc => less1_no hc hz)) (valNorm_c (V4.rt_of ha)) (valNorm_c (V4.rt_of hb))
    exact this
  | false =>
    rw [Bool.or_eq_false_iff] at hz
    have n1 := valNorm_c (n := ⟨a.v, a.m, bmax a.l a.l, bmin a.h (bsub b.h one)⟩) (show a.rt = true from V4.rt_of ha)
    have n2 := valNorm_c (n := ⟨b.v, b.m, bmax b.l (badd a.l one), bmin b.h b.h⟩) (show b.rt = true from V4.rt_of hb)
    have := four_of (f := 80) (a := a) (b := b) (may := true) fun w => calcLess_right (both_ok ha hb) w (hid (fun B w' hc => less1_yes hc hz.1 hz.2)) n1 n2
    rw [bmax_self, bmin_self] at this
    exact this
theorem calcNotLess_ok {a b : V4} (ha : a.ok = true) (hb : b.ok = true) : Four 79 a b (a.notLess b) := by
  have n1 := valNorm_c (n := ⟨a.v, a.m, bmax a.l b.l, bmin a.h a.h⟩) (show a.rt = true from V4.rt_of ha)
  have n2 := valNorm_c (n := ⟨b.v, b.m, bmax b.l b.l, bmin b.h a.h⟩) (show b.rt = true from V4.rt_of hb)
  have := four_of (f := 79) (a := a) (b := b) (may := true) fun w => calcNotLess_right (both_ok ha hb) w (hid (fun B w' hc => notLess1_is hc)) n1 n2
  rw [bmax_self, bmin_self] at this
  exact this
end Go.Proofs.Ytkigmocchaikgab

/- The contracts of calc's Two and Bytes, and of the reference's TwoVals and ByteVal. -/
namespace Go.Proofs.Ytkigmocchaikgab
open Go.RowKit

theorem has_low {a : V4} (h : a.ok = true) : hasV a.v a.m a.l a.h a.l = true := by
  obtain ⟨_, h2, _, h4, _⟩ := val_facts h
  unfold hasV
  rw [show valB a.v a.m a.l a.h = true from h, h2]
  simp [h4]
theorem raw2_rt {a b : V4} {op : Int} (hop : 2 ≤ op ∧ op ≤ 9) (ha : a.ok = true) (hb : b.ok = true) : (V4.raw2 op a b).rt = true :=
  (rt_iff _ _).2 (rk_sound hop (has_low ha) (has_low hb)).1
theorem calcTwo_ok {a b : V4} {op : Int} (hop : 2 ≤ op ∧ op ≤ 9) (ha : a.ok = true) (hb : b.ok = true) : Ok 82 [.c (.i op), .ag a.cs, .ag b.cs] (.tu [.ag (V4.two op a b).cs, .c (.i 0)]) := by
  have hr := raw2_rt hop ha hb
  unfold V4.two V4.norm
  cases hn : (V4.raw2 op a b).nok
  · exact okc (calcTwo_none (both_ok ha hb) hop hr hn) (fun _ => rfl) (fun _ => rfl) rfl
  · exact okc (calcTwo_yes (both_ok ha hb) hop hr hn) (fun _ => rfl) (fun _ => rfl) rfl
theorem calcBytes_ok {n : Int} (hn : n = 1 ∨ n = 2 ∨ n = 4 ∨ n = 8) : Ok 75 [.c (.i n)] (.tu [.ag (V4.bytes n).cs, .c (.i 0)]) := by
  rcases hn with rfl | rfl | rfl | rfl
  · exact calcBytes_w0 (by decide +kernel)
  · exact calcBytes_w1 (by decide +kernel)
  · exact calcBytes_w2 (by decide +kernel)
  · exact calcBytes_w3 (by decide +kernel)
/- what is wrong -/
end Go.Proofs.Ytkigmocchaikgab

/- Ways of bodies, written by a program (ways.py): what each asks for, and hands back. -/
namespace Go.Proofs.Ytkigmocchaikgab
open Go.RowKit

theorem guarded_w0 {w : World} {β : Bs} {n : Nat} (hk : EKeys n [] (some 7) ⟨AV.c (AC.sl 7 0 6 6), [], some (7, Ent.mk true [AC.i 1, AC.i 0, AC.i (-1), AC.u 0#64, AC.i 0, AC.i 14, AC.i 1, AC.i (-1), AC.u 64#64, AC.i 1, AC.i 15, AC.i 0, AC.i 0, AC.u 0#64, AC.i 0, AC.i 10, AC.i 0, AC.i 1, AC.u 1#64, AC.i 0, AC.i 2, AC.i 0, AC.i (-1), AC.u 1#64, AC.i 0, AC.i 15, AC.i 0, AC.i 0, AC.u 0#64, AC.i 0] 0)⟩) :
    ART Try.prog 30 (cx w β n []) Try.f30.ntmps ([Item.code (bodyOf Try.f30)]) (Kn.start [] [] 0) (REff w β ⟨AV.c (AC.sl 7 0 6 6), [], some (7, Ent.mk true [AC.i 1, AC.i 0, AC.i (-1), AC.u 0#64, AC.i 0, AC.i 14, AC.i 1, AC.i (-1), AC.u 64#64, AC.i 1, AC.i 15, AC.i 0, AC.i 0, AC.u 0#64, AC.i 0, AC.i 10, AC.i 0, AC.i 1, AC.u 1#64, AC.i 0, AC.i 2, AC.i 0, AC.i (-1), AC.u 1#64, AC.i 0, AC.i 15, AC.i 0, AC.i 0, AC.u 0#64, AC.i 0] 0)⟩) :=
  run_eff [] (some 7) 2000 [] [] ([]) [] Try.func30 hk (by kernel_rfl) rfl cr_nil
end Go.Proofs.Ytkigmocchaikgab

/- The contracts of what the laws themselves call. -/
namespace Go.Proofs.Ytkigmocchaikgab
open Go.RowKit

/- a contract that reads a program, under another key, whether it may be written or not -/
theorem p_at {P : Program} {f : Nat} {args args' : List AV} {L : List Ins} {e : Eff} (h : CallOK P ⟨f, args, pH L, e⟩) (K : Nat) (b : Bool) (ha : args.map (AV.ren (swp 0 K)) = args') (he : e.ren (swp 0 K) = e) : CallOK P ⟨f, args', [(K, ⟨b, pcell L, 0⟩)], e⟩ := by
  have h1 := h.ren (swp 0 K) (swp_inj 0 K)
  unfold CallRec.ren at h1
  simp only [ha, he] at h1
  refine h1.more ⟨fun k en hk => ?_⟩
  have e1 : renH (swp 0 K) (pH L) = [(K, ⟨false, pcell L, 0⟩)] := by
    show [(swp 0 K 0, Ent.mk false ((pcell L).map (AC.ren (swp 0 K))) 0)] = _
    rw [ren_nk _ (pcell_ks L)]
    rfl
  rw [e1, look_cons] at hk
  split at hk
  · rename_i hk'
    injection hk with hk
    subst hk hk'
    exact ⟨⟨b, pcell L, 0⟩, by rw [look_cons, if_pos rfl], rfl, fun h => (by cases h), Or.inl rfl⟩
  · cases hk
theorem guarded_ok (K : Nat) : CallOK Try.prog ⟨30, [], [], ⟨.c (.sl K 0 6 6), [], some (K, ⟨true, pcell gL, 0⟩)⟩⟩ := by
  have key : CallOK Try.prog ⟨30, [], [], ⟨.c (.sl 7 0 6 6), [], some (7, ⟨true, pcell gL, 0⟩)⟩⟩ :=
    new_of Try.func30 rfl rfl rfl rfl rfl fun w β hk => guarded_w0 hk
  exact key.ren (swp 7 K) (swp_inj 7 K)
end Go.Proofs.Ytkigmocchaikgab

/- A step on what may be: it is right, and no step of a machine that is had is left out: plain facts. -/
namespace Go.Proofs.Ytkigmocchaikgab

theorem fine_right {i : Ins} : fineI i = true ↔ Right i 65 := by
  unfold fineI
  rw [Bool.and_eq_true, Bool.and_eq_true]
  exact ⟨fun ⟨a, b, c⟩ => ⟨a, b, c⟩, fun h => ⟨h.kind, h.fits, h.bare⟩⟩
theorem goesB_mono {o n n' : Int} (h : n ≤ n') (hg : goesB o n = true) : goesB o n' = true := by
  simp only [goesB, Bool.and_eq_true, decide_eq_true_eq] at hg ⊢
  omega
theorem Right.mono {i : Ins} {n n' : Int} (h : n ≤ n') (hr : Right i n) : Right i n' := by
  refine ⟨hr.kind, ?_, hr.bare⟩
  have := hr.fits
  unfold inB at this ⊢
  by_cases c1 : i.op = 10 ∨ i.op = 11
  · rw [if_pos c1] at this ⊢; exact this
  rw [if_neg c1] at this ⊢
  by_cases c2 : i.op = 12
  · rw [if_pos c2] at this ⊢; exact goesB_mono h this
  rw [if_neg c2] at this ⊢
  by_cases c3 : i.op = 13 ∨ i.op = 14
  · rw [if_pos c3] at this ⊢
    rw [Bool.and_eq_true] at this ⊢
    exact ⟨this.1, goesB_mono h this.2⟩
  rw [if_neg c3] at this ⊢
  exact this
theorem lacks_no {u s : V6 Bool} (h : lacks u s = false) : ∀ j, j < 6 → u.get j = true → s.get j = true := by
  rw [lacks_from, anyFrom_no] at h
  intro j hj hu
  have := h j hj
  rw [hu] at this
  simpa using this
theorem lacks_of {u s : V6 Bool} (h : ∀ j, j < 6 → u.get j = true → s.get j = true) : lacks u s = false := by
  rw [lacks_from, anyFrom_no]
  intro j hj
  cases hu : u.get j with
  | false => rfl
  | true => rw [h j hj hu]; rfl
theorem set_get {v : V6 Bool} {k j : Nat} (hk : k < 6) (hj : j < 6) : (v.set k true).get j = if k = j then true else v.get j := V6.get_set _ _ _ _ hk hj
theorem use_s {i : Ins} (h1 : i.op ≠ 12) (h2 : i.op ≠ 15) (hs : regB i.s = true) : (useOf i).get i.s.toNat = true := by
  have h3 := regB_iff.1 hs
  have h4 := reg_nat hs
  unfold useOf
  rw [if_neg h1, if_neg h2, if_neg (by omega), set_get h4 h4, if_pos rfl]
theorem use_d {i : Ins} (h1 : i.op ≠ 12) (h2 : i.op ≠ 15) (h3 : i.op ≠ 1) (h4 : i.op ≠ 10) (hd : regB i.d = true) (hs : srcB i.s = true) : (useOf i).get i.d.toNat = true := by
  have h5 := reg_nat hd
  unfold useOf
  rw [if_neg h1, if_neg h2, if_neg (by omega : ¬ (i.op = 1 ∨ i.op = 10))]
  by_cases c : i.s = -1
  · rw [if_pos c, set_get h5 h5, if_pos rfl]
  · rw [if_neg c]
    have h6 := reg_nat ((srcB_iff.1 hs).resolve_left c)
    rw [set_get h6 h5, set_get h5 h5, if_pos rfl]
    split <;> rfl
theorem srcV_ok {i : Ins} {n : Int} {t : St} (hr : Right i n) (ht : t.Ok) (hu : lacks (useOf i) t.s = false) (h1 : i.op ≠ 12) (h2 : i.op ≠ 15) : (srcV i t).ok = true := by
  have hg := right_regs hr
  unfold srcV
  by_cases c : i.s = -1
  · rw [if_pos c]; exact V4.of_ok _
  · rw [if_neg c]
    have hs := (srcB_iff.1 hg.2).resolve_left c
    exact ht.set _ (reg_nat hs) (lacks_no hu _ (reg_nat hs) (use_s h1 h2 hs))
theorem dstV_ok {i : Ins} {n : Int} {t : St} (hr : Right i n) (ht : t.Ok) (hu : lacks (useOf i) t.s = false) (h1 : i.op ≠ 12) (h2 : i.op ≠ 15) (h3 : i.op ≠ 1) (h4 : i.op ≠ 10) : (t.r.get i.d.toNat).ok = true := by
  have hg := right_regs hr
  exact ht.set _ (reg_nat hg.1) (lacks_no hu _ (reg_nat hg.1) (use_d h1 h2 h3 h4 hg.1 hg.2))
theorem trap_zero {i : Ins} {t : St} (h : trapS i t = 0) : lacks (useOf i) t.s = false ∧ (i.op = 10 → farS i (t.r.get i.s.toNat) = false) ∧ (i.op = 11 → farS i (t.r.get i.d.toNat) = false) := by
  unfold trapS at h
  by_cases c0 : lacks (useOf i) t.s = true
  · rw [if_pos c0] at h; exact absurd h (by decide)
  rw [if_neg c0] at h
  refine ⟨by simpa using c0, fun h1 => ?_, fun h1 => ?_⟩
  · rw [if_pos h1] at h
    cases hf : farS i (t.r.get i.s.toNat) with
    | false => rfl
    | true => rw [hf] at h; exact absurd h (by decide)
  · rw [if_neg (by omega), if_pos h1] at h
    cases hf : farS i (t.r.get i.d.toNat) with
    | false => rfl
    | true => rw [hf] at h; exact absurd h (by decide)
/- a step, kind by kind -/
theorem ops_of {i : Ins} {n : Int} (h : Right i n) : i.op = 10 ∨ i.op = 11 ∨ i.op = 12 ∨ i.op = 13 ∨ i.op = 14 ∨ i.op = 15 ∨ i.op = 1 ∨ (2 ≤ i.op ∧ i.op ≤ 9) := by
  have := kind_iff.1 h.kind
  omega
section
variable {i : Ins} {t : St} {m : Mach}
theorem goS_load (h : i.op = 10) : goS i t = (t.wth i.d.toNat (V4.bytes (nv i.im)), St.z) := by unfold goS; rw [if_pos h]
theorem goS_store (h : i.op = 11) : goS i t = (t, St.z) := by unfold goS; rw [if_neg (by omega), if_pos h]
theorem goS_jump (h : i.op = 12) : goS i t = (St.z, t) := by unfold goS; rw [if_neg (by omega), if_neg (by omega), if_pos h]
theorem goS_eq (h : i.op = 13) : goS i t = (leftS i t ((t.r.get i.d.toNat).other (srcV i t)), leftS i t ((t.r.get i.d.toNat).equal (srcV i t))) := by
  unfold goS; rw [if_neg (by omega), if_neg (by omega), if_neg (by omega), if_pos h]
theorem goS_lt (h : i.op = 14) : goS i t = (leftS i t ((t.r.get i.d.toNat).notLess (srcV i t)), leftS i t ((t.r.get i.d.toNat).less (srcV i t))) := by
  unfold goS; rw [if_neg (by omega), if_neg (by omega), if_neg (by omega), if_neg (by omega), if_pos h]
theorem goS_exit (h : i.op = 15) : goS i t = (St.z, St.z) := by
  unfold goS; rw [if_neg (by omega), if_neg (by omega), if_neg (by omega), if_neg (by omega), if_neg (by omega), if_pos h]
theorem goS_mov (h : i.op = 1) : goS i t = (t.wth i.d.toNat (srcV i t), St.z) := by
  unfold goS; rw [if_neg (by omega), if_neg (by omega), if_neg (by omega), if_neg (by omega), if_neg (by omega), if_neg (by omega), if_pos h]
theorem goS_two (h : 2 ≤ i.op ∧ i.op ≤ 9) : goS i t = (t.wth i.d.toNat (V4.two i.op (t.r.get i.d.toNat) (srcV i t)), St.z) := by
  unfold goS; rw [if_neg (by omega), if_neg (by omega), if_neg (by omega), if_neg (by omega), if_neg (by omega), if_neg (by omega), if_neg (by omega)]
theorem stepM_reach (hu : lacks (useOf i) m.s = false) (h : i.op = 10 ∨ i.op = 11) : stepM i m = reachM i m := by unfold stepM; rw [if_neg (by rw [hu]; decide), if_pos h]
theorem reachM_load (hf : farB i m = false) (h : i.op = 10) : reachM i m = (m.wth i.d.toNat (loadL (memL m.mem (fromN i m).toNat i.im.toNat))).on 0 := by
  unfold reachM; rw [if_neg (by rw [hf]; decide), if_pos h]
theorem reachM_store (hf : farB i m = false) (h : i.op = 11) : reachM i m = Mach.on ⟨m.t, m.r, m.s, putMem m.mem (fromN i m).toNat i.im.toNat (m.r.get i.s.toNat), m.fin⟩ 0 := by
  unfold reachM; rw [if_neg (by rw [hf]; decide), if_neg (by omega)]
theorem stepM_jump (hu : lacks (useOf i) m.s = false) (h : i.op = 12) : stepM i m = m.on i.of := by
  unfold stepM; rw [if_neg (by rw [hu]; decide), if_neg (by omega), if_pos h]
theorem stepM_eq (hu : lacks (useOf i) m.s = false) (h : i.op = 13) : stepM i m = m.on (if eqb (m.r.get i.d.toNat) (srcN i m) then i.of else 0) := by
  unfold stepM; rw [if_neg (by rw [hu]; decide), if_neg (by omega), if_neg (by omega), if_pos h]
theorem stepM_lt (hu : lacks (useOf i) m.s = false) (h : i.op = 14) : stepM i m = m.on (if nv (m.r.get i.d.toNat) < nv (srcN i m) then i.of else 0) := by
  unfold stepM; rw [if_neg (by rw [hu]; decide), if_neg (by omega), if_neg (by omega), if_neg (by omega), if_pos h]
theorem stepM_exit (hu : lacks (useOf i) m.s = false) (h : i.op = 15) : stepM i m = m.fine 3 := by
  unfold stepM; rw [if_neg (by rw [hu]; decide), if_neg (by omega), if_neg (by omega), if_neg (by omega), if_neg (by omega), if_pos h]
theorem stepM_two (hu : lacks (useOf i) m.s = false) (h : 1 ≤ i.op ∧ i.op ≤ 9) : stepM i m = (m.wth i.d.toNat (numN i.op (m.r.get i.d.toNat) (srcN i m))).on 0 := by
  unfold stepM; rw [if_neg (by rw [hu]; decide), if_neg (by omega), if_neg (by omega), if_neg (by omega), if_neg (by omega), if_neg (by omega)]
theorem numN_mov (h : i.op = 1) (x y : BitVec 64) : numN i.op x y = y := by unfold numN; rw [if_pos h]
end
theorem leftS_Ok {i : Ins} {n : Int} {t : St} {x : V4 × V4 × Bool} (hr : Right i n) (ht : t.Ok) (hl : t.live = true) (hx : x.2.2 = true → x.1.ok = true ∧ x.2.1.ok = true) : (leftS i t x).Ok := by
  have hg := right_regs hr
  unfold leftS
  by_cases c : x.2.2 = true
  · rw [if_pos c]
    have h1 := St.wth_Ok (reg_nat hg.1) hl (hx c).1 ht
    by_cases cs : i.s = -1
    · rw [if_pos cs]; exact h1
    · rw [if_neg cs]
      have hs := (srcB_iff.1 hg.2).resolve_left cs
      exact St.wth_Ok (reg_nat hs) hl (hx c).2 h1
  · rw [if_neg c]; exact St.z_Ok
theorem goS_Ok {i : Ins} {n : Int} {t : St} (hr : Right i n) (ht : t.Ok) (hl : t.live = true) (h0 : trapS i t = 0) : (goS i t).1.Ok ∧ (goS i t).2.Ok := by
  have hd := reg_nat (right_regs hr).1
  obtain ⟨hu, h10, h11⟩ := trap_zero h0
  rcases ops_of hr with c | c | c | c | c | c | c | c
  · rw [goS_load c]; exact ⟨St.wth_Ok hd hl (V4.bytes_ok _) ht, St.z_Ok⟩
  · rw [goS_store c]; exact ⟨ht, St.z_Ok⟩
  · rw [goS_jump c]; exact ⟨St.z_Ok, ht⟩
  · have hs := srcV_ok hr ht hu (by omega) (by omega)
    have hdv := dstV_ok hr ht hu (by omega) (by omega) (by omega) (by omega)
    rw [goS_eq c]; exact ⟨leftS_Ok hr ht hl (V4.other_ok hdv hs), leftS_Ok hr ht hl (V4.equal_ok hdv hs)⟩
  · have hs := srcV_ok hr ht hu (by omega) (by omega)
    have hdv := dstV_ok hr ht hu (by omega) (by omega) (by omega) (by omega)
    rw [goS_lt c]; exact ⟨leftS_Ok hr ht hl (V4.notLess_ok hdv hs), leftS_Ok hr ht hl (V4.less_ok hdv hs)⟩
  · rw [goS_exit c]; exact ⟨St.z_Ok, St.z_Ok⟩
  · rw [goS_mov c]; exact ⟨St.wth_Ok hd hl (srcV_ok hr ht hu (by omega) (by omega)) ht, St.z_Ok⟩
  · have hs := srcV_ok hr ht hu (by omega) (by omega)
    have hdv := dstV_ok hr ht hu (by omega) (by omega) (by omega) (by omega)
    rw [goS_two c]; exact ⟨St.wth_Ok hd hl (V4.two_ok (by omega) hdv hs) ht, St.z_Ok⟩
theorem stepS_Ok {i : Ins} {n : Int} {t : St} (hr : Right i n) (ht : t.Ok) : (stepS i t).1.Ok ∧ (stepS i t).2.1.Ok := by
  unfold stepS
  by_cases hl : t.live = true
  · rw [if_pos hl]
    by_cases h0 : trapS i t = 0
    · rw [if_pos h0]; exact goS_Ok hr ht hl h0
    · rw [if_neg h0]; exact ⟨St.z_Ok, St.z_Ok⟩
  · rw [if_neg hl]; exact ⟨St.z_Ok, St.z_Ok⟩

/- machines that are had -/
theorem has_srcV {i : Ins} {n : Int} {t : St} {m : Mach} (hr : Right i n) (h : t.Has m) (hu : lacks (useOf i) t.s = false) (h1 : i.op ≠ 12) (h2 : i.op ≠ 15) : (srcV i t).has (srcN i m) = true := by
  have hg := right_regs hr
  unfold srcV srcN
  by_cases c : i.s = -1
  · rw [if_pos c, if_pos c]; exact V4.of_has.2 rfl
  · rw [if_neg c, if_neg c]
    have hs := (srcB_iff.1 hg.2).resolve_left c
    exact (h.reg _ (reg_nat hs) (lacks_no hu _ (reg_nat hs) (use_s h1 h2 hs))).2
theorem has_dstV {i : Ins} {n : Int} {t : St} {m : Mach} (hr : Right i n) (h : t.Has m) (hu : lacks (useOf i) t.s = false) (h1 : i.op ≠ 12) (h2 : i.op ≠ 15) (h3 : i.op ≠ 1) (h4 : i.op ≠ 10) : (t.r.get i.d.toNat).has (m.r.get i.d.toNat) = true := by
  have hg := right_regs hr
  exact (h.reg _ (reg_nat hg.1) (lacks_no hu _ (reg_nat hg.1) (use_d h1 h2 h3 h4 hg.1 hg.2))).2
theorem has_lacks {u : V6 Bool} {t : St} {m : Mach} (h : t.Has m) (hu : lacks u t.s = false) : lacks u m.s = false :=
  lacks_of fun j hj hj' => (h.reg j hj (lacks_no hu j hj hj')).1
theorem far_sound {i : Ins} {a : V4} {x : BitVec 64} (ha : a.has x = true) (h : farS i a = false) : ¬ nv (bsub 64#64 i.im) < nv (badd x (BitVec.ofInt 64 i.of)) := by
  have h1 := V4.two_has (op := 2) (by decide) ha (V4.of_has.2 (Eq.refl (BitVec.ofInt 64 i.of)))
  have e : numN 2 x (BitVec.ofInt 64 i.of) = badd x (BitVec.ofInt 64 i.of) := by
    unfold numN
    rw [if_neg (by decide), if_pos (by decide)]
    unfold numB
    rw [if_pos rfl]
  rw [e] at h1
  have h2 := (V4.has_iff.1 h1).2.2.2
  have h3 : ¬ nv (bsub 64#64 i.im) < nv (V4.two 2 a (V4.of (BitVec.ofInt 64 i.of))).h := by
    unfold farS at h
    simpa using h
  omega
theorem farB_no {i : Ins} {n : Int} {t : St} {m : Mach} (hr : Right i n) (h : t.Has m) (h0 : trapS i t = 0) (ho : i.op = 10 ∨ i.op = 11) : farB i m = false := by
  obtain ⟨hu, h10, h11⟩ := trap_zero h0
  obtain ⟨hd, hs, _⟩ := fits_reach hr ho
  unfold farB fromN
  rw [decide_eq_false_iff_not]
  rcases ho with ho | ho
  · rw [if_neg (by omega)]
    exact far_sound (h.reg _ (reg_nat hs) (lacks_no hu _ (reg_nat hs) (use_s (by omega) (by omega) hs))).2 (h10 ho)
  · rw [if_pos ho]
    exact far_sound (has_dstV hr h hu (by omega) (by omega) (by omega) (by omega)) (h11 ho)
theorem loadL_lt : ∀ l : List (BitVec 8), l.length ≤ 8 → (loadL l).toNat < 2 ^ (8 * l.length)
  | [], _ => by simp [loadL]
  | b :: l, h => by
    have ih := loadL_lt l (by simp at h; omega)
    simp only [loadL, bor, bshl, BitVec.toNat_or, BitVec.toNat_shiftLeft, BitVec.toNat_setWidth, List.length_cons]
    have hb := b.isLt
    apply Nat.or_lt_two_pow
    · refine Nat.lt_of_le_of_lt (Nat.mod_le _ _) ?_
      rw [Nat.shiftLeft_eq, show 8 * (l.length + 1) = 8 * l.length + 8 by omega, Nat.pow_add]
      exact Nat.mul_lt_mul_of_pos_right ih (by decide)
    · refine Nat.lt_of_le_of_lt (Nat.mod_le _ _) ?_
      exact Nat.lt_of_lt_of_le hb (Nat.pow_le_pow_right (by decide) (by omega))
theorem load_has {x : BitVec 64} (hs : sizeB x = true) (s : ByteArray) (a : Nat) : (V4.bytes (nv x)).has (loadL (memL s a x.toNat)) = true := by
  apply V4.bytes_has
  refine size_elim (P := fun x => nv (loadL (memL s a x.toNat)) ≤ nv (byteTop (nv x))) hs ?_ ?_ ?_ ?_
  · have := loadL_lt (memL s a 1) (by rw [memL_length]; decide)
    rw [memL_length] at this
    show nv (loadL (memL s a 1)) ≤ 255
    unfold nv
    omega
  · have := loadL_lt (memL s a 2) (by rw [memL_length]; decide)
    rw [memL_length] at this
    show nv (loadL (memL s a 2)) ≤ 65535
    unfold nv
    omega
  · have := loadL_lt (memL s a 4) (by rw [memL_length]; decide)
    rw [memL_length] at this
    show nv (loadL (memL s a 4)) ≤ 4294967295
    unfold nv
    omega
  · exact (ends _).2
/- a machine with a number put where the state has it -/
theorem Has_wth {t : St} {m m' : Mach} {d : Nat} {a : V4} {x : BitVec 64} (hd : d < 6) (h : t.Has m) (hx : a.has x = true) (hm : machErr m' = 0) (hf : m'.fin = 0) (hs : m'.s = m.s.set d true) (hr : m'.r = m.r.set d x) : (t.wth d a).Has m' := by
  refine ⟨St.wth_Ok hd h.live (V4.has_ok hx) h.ok, h.live, hm, hf, fun j hj hsj => ?_⟩
  rw [St.wth_s hd hj] at hsj
  rw [St.wth_r hd hj, hs, hr, V6.get_set _ _ _ _ hd hj, V6.get_set _ _ _ _ hd hj]
  by_cases c : d = j
  · rw [if_pos c, if_pos c, if_pos c]; exact ⟨rfl, hx⟩
  · rw [if_neg c] at hsj
    rw [if_neg c, if_neg c, if_neg c]; exact h.reg j hj hsj
/- what is known better of a register -/
theorem Has_know {t : St} {m m' : Mach} {d : Nat} {a : V4} (hd : d < 6) (h : t.Has m) (hset : m.s.get d = true) (hx : a.has (m.r.get d) = true) (hm : machErr m' = 0) (hf : m'.fin = 0) (hs : m'.s = m.s) (hr : m'.r = m.r) : (t.wth d a).Has m' := by
  refine ⟨St.wth_Ok hd h.live (V4.has_ok hx) h.ok, h.live, hm, hf, fun j hj hsj => ?_⟩
  rw [St.wth_s hd hj] at hsj
  rw [St.wth_r hd hj, hs, hr]
  by_cases c : d = j
  · subst c; rw [if_pos rfl]; exact ⟨hset, hx⟩
  · rw [if_neg c] at hsj
    rw [if_neg c]; exact h.reg j hj hsj
theorem Has_same {t : St} {m m' : Mach} (h : t.Has m) (hm : machErr m' = 0) (hf : m'.fin = 0) (hs : m'.s = m.s) (hr : m'.r = m.r) : t.Has m' :=
  ⟨h.ok, h.live, hm, hf, fun j hj => by rw [hs, hr]; exact h.reg j hj⟩
theorem Has_left {i : Ins} {n : Int} {t : St} {m m' : Mach} {x : V4 × V4 × Bool} (hr : Right i n) (h : t.Has m) (hu : lacks (useOf i) t.s = false) (ho : i.op = 13 ∨ i.op = 14) (hx : x.2.2 = true ∧ x.1.has (m.r.get i.d.toNat) = true ∧ x.2.1.has (srcN i m) = true)
    (hm : machErr m' = 0) (hf : m'.fin = 0) (hs : m'.s = m.s) (hr' : m'.r = m.r) : (leftS i t x).Has m' := by
  have hg := right_regs hr
  have hd := reg_nat hg.1
  have hds := (h.reg _ hd (lacks_no hu _ hd (use_d (by omega) (by omega) (by omega) (by omega) hg.1 hg.2))).1
  unfold leftS
  rw [if_pos hx.1]
  have h1 := Has_know hd h hds hx.2.1 h.mach h.fin rfl rfl
  by_cases cs : i.s = -1
  · rw [if_pos cs]; exact Has_same h1 hm hf hs hr'
  · rw [if_neg cs]
    have hsr := (srcB_iff.1 hg.2).resolve_left cs
    have h2 : x.2.1.has (m.r.get i.s.toNat) = true := by
      have := hx.2.2
      unfold srcN at this
      rwa [if_neg cs] at this
    exact Has_know (reg_nat hsr) h1 (h.reg _ (reg_nat hsr) (lacks_no hu _ (reg_nat hsr) (use_s (by omega) (by omega) hsr))).1 h2 hm hf hs hr'
/- a step that doesn't trap here, of a machine that is had: it doesn't trap there; it stops, or where it comes to, it is had -/
theorem stepS_sound {i : Ins} {n : Int} {t : St} {m : Mach} (hr : Right i n) (h : t.Has m) (h0 : trapS i t = 0) :
    ((stepM i m).fin = 3 ∧ i.op = 15) ∨ ((stepM i m).fin = 0 ∧ (machErr (stepM i m) = 0 → ((stepM i m).t = m.t + 1 ∧ (goS i t).1.Has (stepM i m)) ∨ ((i.op = 12 ∨ i.op = 13 ∨ i.op = 14) ∧ (stepM i m).t = m.t + 1 + i.of ∧ (goS i t).2.Has (stepM i m)))) := by
  have hd := reg_nat (right_regs hr).1
  obtain ⟨hu, h10, h11⟩ := trap_zero h0
  have hlm := has_lacks h hu
  have hfin := h.fin
  have t1 : ∀ m' : Mach, m'.t = m.t → (m'.on 0).t = m.t + 1 := fun m' e => by show m'.t + 1 + 0 = _; rw [e]; omega
  rcases ops_of hr with c | c | c | c | c | c | c | c
  · have hf := farB_no hr h h0 (Or.inl c)
    obtain ⟨_, _, hz, _⟩ := fits_reach hr (Or.inl c)
    rw [stepM_reach hlm (Or.inl c), reachM_load hf c, goS_load c]
    exact Or.inr ⟨hfin, fun hm => Or.inl ⟨t1 _ rfl, Has_wth hd h (load_has hz _ _) hm hfin rfl rfl⟩⟩
  · have hf := farB_no hr h h0 (Or.inr c)
    rw [stepM_reach hlm (Or.inr c), reachM_store hf c, goS_store c]
    exact Or.inr ⟨hfin, fun hm => Or.inl ⟨t1 _ rfl, Has_same h hm hfin rfl rfl⟩⟩
  · rw [stepM_jump hlm c, goS_jump c]
    exact Or.inr ⟨hfin, fun hm => Or.inr ⟨Or.inl c, rfl, Has_same h hm hfin rfl rfl⟩⟩
  · have hs := has_srcV hr h hu (by omega) (by omega)
    have hdv := has_dstV hr h hu (by omega) (by omega) (by omega) (by omega)
    rw [stepM_eq hlm c, goS_eq c]
    by_cases e : eqb (m.r.get i.d.toNat) (srcN i m) = true
    · rw [if_pos e]
      have e' := (eqb_iff _ _).1 e
      refine Or.inr ⟨hfin, fun hm => Or.inr ⟨Or.inr (Or.inl c), rfl, Has_left hr h hu (Or.inl c) ?_ hm hfin rfl rfl⟩⟩
      have := V4.equal_has hdv (by rw [e']; exact hs)
      rw [← e']; exact this
    · rw [if_neg e]
      have e' : m.r.get i.d.toNat ≠ srcN i m := fun h => e ((eqb_iff _ _).2 h)
      exact Or.inr ⟨hfin, fun hm => Or.inl ⟨t1 _ rfl, Has_left hr h hu (Or.inl c) (V4.other_has hdv hs e') hm hfin rfl rfl⟩⟩
  · have hs := has_srcV hr h hu (by omega) (by omega)
    have hdv := has_dstV hr h hu (by omega) (by omega) (by omega) (by omega)
    rw [stepM_lt hlm c, goS_lt c]
    by_cases e : nv (m.r.get i.d.toNat) < nv (srcN i m)
    · rw [if_pos e]
      exact Or.inr ⟨hfin, fun hm => Or.inr ⟨Or.inr (Or.inr c), rfl, Has_left hr h hu (Or.inr c) (V4.less_has hdv hs e) hm hfin rfl rfl⟩⟩
    · rw [if_neg e]
      exact Or.inr ⟨hfin, fun hm => Or.inl ⟨t1 _ rfl, Has_left hr h hu (Or.inr c) (V4.notLess_has hdv hs (by omega)) hm hfin rfl rfl⟩⟩
  · rw [stepM_exit hlm c]
    exact Or.inl ⟨rfl, c⟩
  · have hs := has_srcV hr h hu (by omega) (by omega)
    rw [stepM_two hlm (by omega), goS_mov c, numN_mov c]
    exact Or.inr ⟨hfin, fun hm => Or.inl ⟨t1 _ rfl, Has_wth hd h hs hm hfin rfl rfl⟩⟩
  · have hs := has_srcV hr h hu (by omega) (by omega)
    have hdv := has_dstV hr h hu (by omega) (by omega) (by omega) (by omega)
    rw [stepM_two hlm (by omega), goS_two c]
    exact Or.inr ⟨hfin, fun hm => Or.inl ⟨t1 _ rfl, Has_wth hd h (V4.two_has (by omega) hdv hs) hm hfin rfl rfl⟩⟩
end Go.Proofs.Ytkigmocchaikgab

/- The contract of flow.Step, and of what it calls. -/
namespace Go.Proofs.Ytkigmocchaikgab
open Go.RowKit

/- a step and an Exit behind it, as a program -/
theorem code2 (a : Ins) : (codeErr [a, exitI] == 0) = (kindB a && (inB a 1 && bareB a)) := by
  have e1 : kindB exitI = true := rfl
  have e2 : inB exitI 0 = true := rfl
  have e3 : bareB exitI = true := rfl
  have e4 : lastOp [a, exitI] = 15 := rfl
  cases h1 : kindB a <;> cases h2 : inB a 1 <;> cases h3 : bareB a <;> simp [codeErr, List.all, inAll, h1, h2, h3, e1, e2, e3, e4]
theorem in_any {i : Ins} {n n' : Int} (h : i.op ≠ 12) (h2 : i.op ≠ 13) (h3 : i.op ≠ 14) : inB i n = inB i n' := by
  unfold inB
  by_cases c : i.op = 10 ∨ i.op = 11
  · rw [if_pos c, if_pos c]
  · have h4 : ¬ (i.op = 13 ∨ i.op = 14) := by omega
    simp only [if_neg c, if_neg h, if_neg h4]
theorem fine_off {op d s of : Int} {im : BitVec 64} (ho : op = 12 ∨ op = 13 ∨ op = 14) : fineI ⟨op, d, s, im, of⟩ = ((codeErr [⟨op, d, s, im, 0⟩, exitI] == 0) && goesB of 65) := by
  rw [code2]
  unfold fineI
  have eb : bareB ⟨op, d, s, im, of⟩ = bareB ⟨op, d, s, im, 0⟩ := by
    unfold bareB
    simp only
    rcases ho with rfl | rfl | rfl <;> rfl
  have ek : kindB ⟨op, d, s, im, of⟩ = kindB ⟨op, d, s, im, 0⟩ := rfl
  have ei : inB ⟨op, d, s, im, of⟩ 65 = (inB ⟨op, d, s, im, 0⟩ 1 && goesB of 65) := by
    have g : goesB 0 1 = true := rfl
    unfold inB
    simp only
    rcases ho with rfl | rfl | rfl
    · simp [g]
    · simp [g]
    · simp [g]
  rw [eb, ek, ei]
  cases kindB ⟨op, d, s, im, 0⟩ <;> cases inB ⟨op, d, s, im, 0⟩ 1 <;> cases bareB ⟨op, d, s, im, 0⟩ <;> cases goesB of 65 <;> rfl
theorem fis_ok (i : Ins) : Ok 44 [.ag i.cs] (.c (.b (fineI i))) := by
  have out : ∀ {b : Bool}, fineI i = b → AV.c (AC.b b) = AV.c (AC.b (fineI i)) := fun h => by rw [h]
  by_cases ho : i.op = 12 ∨ i.op = 13 ∨ i.op = 14
  · have hf := fine_off (op := i.op) (d := i.d) (s := i.s) (of := i.of) (im := i.im) ho
    have hf : fineI i = ((codeErr [⟨i.op, i.d, i.s, i.im, 0⟩, exitI] == 0) && goesB i.of 65) := hf
    have low : decide (i.of < 0) = true → fineI i = false := fun h => by
      have : i.of < 0 := of_decide_eq_true h
      rw [hf, show goesB i.of 65 = false by unfold goesB; rw [decide_eq_false (by omega)]; rfl]; simp
    have high : decide (64 < i.of) = true → fineI i = false := fun h => by
      have : 64 < i.of := of_decide_eq_true h
      rw [hf, show goesB i.of 65 = false by unfold goesB; rw [decide_eq_false (by omega : ¬ i.of < 65)]; simp]; simp
    have mid : decide (i.of < 0) = false → decide (64 < i.of) = false → fineI i = (codeErr [⟨i.op, i.d, i.s, i.im, 0⟩, exitI] == 0) := fun h k => by
      have h : ¬ i.of < 0 := of_decide_eq_false h
      have k : ¬ 64 < i.of := of_decide_eq_false k
      rw [hf, show goesB i.of 65 = true by unfold goesB; rw [decide_eq_true (by omega : 0 ≤ i.of), decide_eq_true (by omega : i.of < 65)]; rfl]; simp
    have call : ∀ K, CallOK Try.prog ⟨28, [.c (.sl K 0 2 2)], [(K, ⟨true, pcell [⟨i.op, i.d, i.s, i.im, 0⟩, exitI], 0⟩)], ⟨.c (.i (codeErr [⟨i.op, i.d, i.s, i.im, 0⟩, exitI])), [], none⟩⟩ := fun K => by
      refine p_at (check_ok [⟨i.op, i.d, i.s, i.im, 0⟩, exitI] 2) K true ?_ rfl
      show [AV.c (AC.sl (swp 0 K 0) 0 2 2)] = _
      rfl
    exact fis_all (e := codeErr [⟨i.op, i.d, i.s, i.im, 0⟩, exitI])
      (fun a b => out (low b)) (fun a b c => out (high c)) (fun a b c => ⟨call 18, out (mid b c)⟩)
      (fun _ a b => out (low b)) (fun _ a b c => out (high c)) (fun _ a b c => ⟨call 20, out (mid b c)⟩)
      (fun _ _ a b => out (low b)) (fun _ _ a b c => out (high c)) (fun _ _ a b c => ⟨call 22, out (mid b c)⟩)
      (fun a b c => absurd ho (by simp at a b c; omega))
  · have hf : fineI i = (codeErr [i, exitI] == 0) := by
      rw [code2]
      unfold fineI
      rw [in_any (n := 65) (n' := 1) (by omega) (by omega) (by omega)]
    have call : ∀ K, CallOK Try.prog ⟨28, [.c (.sl K 0 2 2)], [(K, ⟨true, pcell [i, exitI], 0⟩)], ⟨.c (.i (codeErr [i, exitI])), [], none⟩⟩ := fun K => by
      refine p_at (check_ok [i, exitI] 2) K true ?_ rfl
      show [AV.c (AC.sl (swp 0 K 0) 0 2 2)] = _
      rfl
    have no : ∀ {P : Prop}, i.op = 12 ∨ i.op = 13 ∨ i.op = 14 → P := fun h => absurd h ho
    exact fis_all (e := codeErr [i, exitI])
      (fun a b => no (Or.inl (by simpa using a))) (fun a b c => no (Or.inl (by simpa using a))) (fun a b c => no (Or.inl (by simpa using a)))
      (fun _ a b => no (Or.inr (Or.inl (by simpa using a)))) (fun _ a b c => no (Or.inr (Or.inl (by simpa using a)))) (fun _ a b c => no (Or.inr (Or.inl (by simpa using a))))
      (fun _ _ a b => no (Or.inr (Or.inr (by simpa using a)))) (fun _ _ a b c => no (Or.inr (Or.inr (by simpa using a)))) (fun _ _ a b c => no (Or.inr (Or.inr (by simpa using a))))
      (fun a b c => ⟨call 12, out hf⟩)
def farE (i : Ins) (a : V4) : Int := if farS i a then 2 else 0
theorem freach_ok {i : Ins} {a : V4} (ha : a.ok = true) : Ok 74 [.ag i.cs, .ag a.cs] (.c (.i (farE i a))) := by
  have h1 := valOf_ok (BitVec.ofInt 64 i.of)
  have h2 := calcTwo_ok (op := 2) (by decide) ha (V4.of_ok (BitVec.ofInt 64 i.of))
  refine freach_all (b := V4.of (BitVec.ofInt 64 i.of)) (c := V4.two 2 a (V4.of (BitVec.ofInt 64 i.of))) (fun h => ⟨h1, h2, ?_⟩) (fun h => ⟨h1, h2, ?_⟩)
  · unfold farE farS; rw [h]; rfl
  · unfold farE farS; rw [h]; rfl
theorem fsource_ok {i : Ins} {t : St} (h : srcB i.s = true) : Ok 81 [.ag i.cs, .ag t.cs] (.ag (srcV i t).cs) := by
  unfold srcV
  refine fsource_all (b := V4.of i.im) (fun a => ⟨valOf_ok _, ?_⟩) (fun a => ?_)
  · rw [if_pos (by simpa using a)]
  · have a : ¬ i.s = -1 := by simpa using a
    have hs := (srcB_iff.1 h).resolve_left a
    exact ⟨hs, sr_ok t hs, sr_eff t hs, by rw [if_neg a]⟩
section
variable {i : Ins} {t : St}
theorem left_z {x : V4 × V4 × Bool} (h : (!x.2.2) = true) : AV.ag St.z.cs = AV.ag (leftS i t x).cs := by
  unfold leftS; rw [if_neg (by simpa using h)]
theorem left_s {x : V4 × V4 × Bool} (h : (!x.2.2) = false) (k : (i.s != -1) = true) : AV.ag ((t.wth i.d.toNat x.1).wth i.s.toNat x.2.1).cs = AV.ag (leftS i t x).cs := by
  unfold leftS; rw [if_pos (by simpa using h), if_neg (by simpa using k)]
theorem left_c {x : V4 × V4 × Bool} (h : (!x.2.2) = false) (k : (i.s != -1) = false) : AV.ag (t.wth i.d.toNat x.1).cs = AV.ag (leftS i t x).cs := by
  unfold leftS; rw [if_pos (by simpa using h), if_pos (by simpa using k)]
theorem src_of (hs : srcB i.s = true) (k : (i.s != -1) = true) : regB i.s = true := (srcB_iff.1 hs).resolve_left (by simpa using k)
theorem fleftOt_ok (hd : regB i.d = true) (hs : srcB i.s = true) (hv : (t.r.get i.d.toNat).ok = true) (hw : (srcV i t).ok = true) : Ok 76 [.ag i.cs, .ag t.cs, .c (.f 77 [])] (.ag (leftS i t ((t.r.get i.d.toNat).other (srcV i t))).cs) :=
  fleftOt_all (b := srcV i t) (x := ((t.r.get i.d.toNat).other (srcV i t)).1) (y := ((t.r.get i.d.toNat).other (srcV i t)).2.1) (q := ((t.r.get i.d.toNat).other (srcV i t)).2.2) (t1 := t.wth i.d.toNat ((t.r.get i.d.toNat).other (srcV i t)).1) (t2 := (t.wth i.d.toNat ((t.r.get i.d.toNat).other (srcV i t)).1).wth i.s.toNat ((t.r.get i.d.toNat).other (srcV i t)).2.1)
    (fun a => ⟨hd, sr_ok t hd, sr_eff t hd, fsource_ok hs, calcOther_ok hv hw, left_z a⟩) (fun a k => ⟨hd, sr_ok t hd, sr_eff t hd, fsource_ok hs, calcOther_ok hv hw, fwith_ok _ hd, fwith_ok _ (src_of hs k), left_s a k⟩) (fun a k => ⟨hd, sr_ok t hd, sr_eff t hd, fsource_ok hs, calcOther_ok hv hw, fwith_ok _ hd, left_c a k⟩)
theorem fleftEq_ok (hd : regB i.d = true) (hs : srcB i.s = true) (hv : (t.r.get i.d.toNat).ok = true) (hw : (srcV i t).ok = true) : Ok 76 [.ag i.cs, .ag t.cs, .c (.f 78 [])] (.ag (leftS i t ((t.r.get i.d.toNat).equal (srcV i t))).cs) :=
  fleftEq_all (b := srcV i t) (x := ((t.r.get i.d.toNat).equal (srcV i t)).1) (y := ((t.r.get i.d.toNat).equal (srcV i t)).2.1) (q := ((t.r.get i.d.toNat).equal (srcV i t)).2.2) (t1 := t.wth i.d.toNat ((t.r.get i.d.toNat).equal (srcV i t)).1) (t2 := (t.wth i.d.toNat ((t.r.get i.d.toNat).equal (srcV i t)).1).wth i.s.toNat ((t.r.get i.d.toNat).equal (srcV i t)).2.1)
    (fun a => ⟨hd, sr_ok t hd, sr_eff t hd, fsource_ok hs, calcEqual_ok hv hw, left_z a⟩) (fun a k => ⟨hd, sr_ok t hd, sr_eff t hd, fsource_ok hs, calcEqual_ok hv hw, fwith_ok _ hd, fwith_ok _ (src_of hs k), left_s a k⟩) (fun a k => ⟨hd, sr_ok t hd, sr_eff t hd, fsource_ok hs, calcEqual_ok hv hw, fwith_ok _ hd, left_c a k⟩)
theorem fleftNl_ok (hd : regB i.d = true) (hs : srcB i.s = true) (hv : (t.r.get i.d.toNat).ok = true) (hw : (srcV i t).ok = true) : Ok 76 [.ag i.cs, .ag t.cs, .c (.f 79 [])] (.ag (leftS i t ((t.r.get i.d.toNat).notLess (srcV i t))).cs) :=
  fleftNl_all (b := srcV i t) (x := ((t.r.get i.d.toNat).notLess (srcV i t)).1) (y := ((t.r.get i.d.toNat).notLess (srcV i t)).2.1) (q := ((t.r.get i.d.toNat).notLess (srcV i t)).2.2) (t1 := t.wth i.d.toNat ((t.r.get i.d.toNat).notLess (srcV i t)).1) (t2 := (t.wth i.d.toNat ((t.r.get i.d.toNat).notLess (srcV i t)).1).wth i.s.toNat ((t.r.get i.d.toNat).notLess (srcV i t)).2.1)
    (fun a => ⟨hd, sr_ok t hd, sr_eff t hd, fsource_ok hs, calcNotLess_ok hv hw, left_z a⟩) (fun a k => ⟨hd, sr_ok t hd, sr_eff t hd, fsource_ok hs, calcNotLess_ok hv hw, fwith_ok _ hd, fwith_ok _ (src_of hs k), left_s a k⟩) (fun a k => ⟨hd, sr_ok t hd, sr_eff t hd, fsource_ok hs, calcNotLess_ok hv hw, fwith_ok _ hd, left_c a k⟩)
theorem fleftLe_ok (hd : regB i.d = true) (hs : srcB i.s = true) (hv : (t.r.get i.d.toNat).ok = true) (hw : (srcV i t).ok = true) : Ok 76 [.ag i.cs, .ag t.cs, .c (.f 80 [])] (.ag (leftS i t ((t.r.get i.d.toNat).less (srcV i t))).cs) :=
  fleftLe_all (b := srcV i t) (x := ((t.r.get i.d.toNat).less (srcV i t)).1) (y := ((t.r.get i.d.toNat).less (srcV i t)).2.1) (q := ((t.r.get i.d.toNat).less (srcV i t)).2.2) (t1 := t.wth i.d.toNat ((t.r.get i.d.toNat).less (srcV i t)).1) (t2 := (t.wth i.d.toNat ((t.r.get i.d.toNat).less (srcV i t)).1).wth i.s.toNat ((t.r.get i.d.toNat).less (srcV i t)).2.1)
    (fun a => ⟨hd, sr_ok t hd, sr_eff t hd, fsource_ok hs, calcLess_ok hv hw, left_z a⟩) (fun a k => ⟨hd, sr_ok t hd, sr_eff t hd, fsource_ok hs, calcLess_ok hv hw, fwith_ok _ hd, fwith_ok _ (src_of hs k), left_s a k⟩) (fun a k => ⟨hd, sr_ok t hd, sr_eff t hd, fsource_ok hs, calcLess_ok hv hw, fwith_ok _ hd, left_c a k⟩)
end
abbrev ftKn (i : Ins) (t : St) (u : V6 Bool) (j : Int) : Kn := ⟨[(2, .c (.w 0)), (3, .c (.w 1)), (8, .ag (bcs u)), (9, .c (.i j))], [(0, ⟨true, i.cs, 0⟩), (1, ⟨true, t.cs, 0⟩)], 2⟩
theorem ftLoop {i : Ins} {t : St} {u : V6 Bool} {w : World} {β : Bs} {E : Eff} : ∀ n, n ≤ 6 → (anyFrom (fun j => u.get j && !t.s.get j) n = true → ⟨.c (.i 1), [], none⟩ = E) →
    (anyFrom (fun j => u.get j && !t.s.get j) n = false → ART Try.prog 45 (cx w β 0 []) Try.f45.ntmps (cutAt Try.f45 0) (ftKn i t u 6) (REff w β E)) →
    ART Try.prog 45 (cx w β 0 []) Try.f45.ntmps (cutAt Try.f45 0) (ftKn i t u (6 - n : Nat)) (REff w β E)
  | 0, _, _, hz => hz rfl
  | n + 1, hn, hy, hz => by
    have hj := rnd_reg hn
    have ej := rnd_nat hn
    have f0 := lt_six hj
    have f1 := b_ok u hj
    have f2 : (decide (0 ≤ ((6 - (n + 1) : Nat) : Int)) && decide (((6 - (n + 1) : Nat) : Int) < 6)) = true := hj
    have f3 := ss_ok t hj
    have f4 := b_eff u hj
    have f5 := ss_eff t hj
    have yes : (u.get (5 - n) && !t.s.get (5 - n)) = true → (⟨.c (.i 1), [], none⟩ : Eff) = E := fun h => hy (by rw [anyFrom, h]; rfl)
    have next : (u.get (5 - n) && !t.s.get (5 - n)) = false → ART Try.prog 45 (cx w β 0 []) Try.f45.ntmps (cutAt Try.f45 0) (ftKn i t u (IntKind.wrap IntKind.i64 (((6 - (n + 1) : Nat) : Int) + 1))) (REff w β E) := by
      intro hb
      rw [rnd_next hn]
      refine ftLoop n (by omega) (fun h => hy ?_) (fun h => hz ?_)
      · rw [anyFrom, hb, h]; rfl
      · rw [anyFrom, hb, h]; rfl
    refine ftRound_all (by omega) (fun a b => ⟨f0, f1, f2, f3, f4, f5, yes ?_⟩) (fun a b => ⟨f0, f1, f2, f3, f4, f5, low_of rfl, next ?_⟩) (fun a => ⟨f0, f1, f4, low_of rfl, next ?_⟩)
    · rw [ej] at a b; rw [a, b]; rfl
    · rw [ej] at a b; rw [a, b]; rfl
    · rw [ej] at a; rw [a]; rfl
theorem ftrap_ok {i : Ins} {t : St} (hr : Right i 65) (ht : t.Ok) : Ok 45 [.ag i.cs, .ag t.cs] (.c (.i (trapS i t))) := by
  refine val_of Try.func45 rfl rfl rfl rfl fun w β => ?_
  have hg := right_regs hr
  refine ftTop_w0 (u := useOf i) (use_of_ok (Or.inr (Or.inr hg))) (low_of rfl) (fun _ h => absurd h (by simp [cx])) (ftLoop 6 (Nat.le_refl 6) (fun h => ?_) (fun h => ?_))
  · rw [← lacks_from] at h
    unfold trapS; rw [if_pos h]
  · rw [← lacks_from] at h
    unfold trapS
    rw [if_neg (by rw [h]; decide)]
    by_cases c1 : i.op = 10
    · obtain ⟨_, hs, _⟩ := fits_reach hr (Or.inl c1)
      have hok := ht.set _ (reg_nat hs) (lacks_no h _ (reg_nat hs) (use_s (by omega) (by omega) hs))
      rw [if_pos c1]
      exact ftEnd_all (e := farE i (t.r.get i.s.toNat)) (fun _ => ⟨hs, sr_ok t hs, sr_eff t hs, freach_ok hok, rfl⟩) (fun a _ => absurd c1 (by simpa using a)) (fun a _ => absurd c1 (by simpa using a))
    rw [if_neg c1]
    by_cases c2 : i.op = 11
    · have hok := dstV_ok hr ht h (by omega) (by omega) (by omega) c1
      rw [if_pos c2]
      exact ftEnd_all (e := farE i (t.r.get i.d.toNat)) (fun a => absurd (show i.op = 10 by simpa using a) c1) (fun _ _ => ⟨hg.1, sr_ok t hg.1, sr_eff t hg.1, freach_ok hok, rfl⟩) (fun _ a => absurd c2 (by simpa using a))
    rw [if_neg c2]
    exact ftEnd_all (e := 0) (fun a => absurd (show i.op = 10 by simpa using a) c1) (fun _ a => absurd (show i.op = 11 by simpa using a) c2) (fun _ _ => rfl)
theorem op_ne {i : Ins} {k : Int} (h : i.op ≠ k) : (!i.op == k) = true := by simpa using h
theorem op_is {i : Ins} {k : Int} (h : i.op = k) : (i.op == k) = true := by simpa using h
theorem size_of {x : BitVec 64} (h : sizeB x = true) : nv x = 1 ∨ nv x = 2 ∨ nv x = 4 ∨ nv x = 8 :=
  size_elim (P := fun x => nv x = 1 ∨ nv x = 2 ∨ nv x = 4 ∨ nv x = 8) h (Or.inl rfl) (Or.inr (Or.inl rfl)) (Or.inr (Or.inr (Or.inl rfl))) (Or.inr (Or.inr (Or.inr rfl)))
theorem fgo_ok {i : Ins} {t : St} (hr : Right i 65) (ht : t.Ok) (h0 : trapS i t = 0) : Ok 46 [.ag i.cs, .ag t.cs] (.tu [.ag (goS i t).1.cs, .ag (goS i t).2.cs]) := by
  have hg := right_regs hr
  obtain ⟨hu, _, _⟩ := trap_zero h0
  rcases ops_of hr with c | c | c | c | c | c | c | c
  · obtain ⟨_, _, hz, _⟩ := fits_reach hr (Or.inl c)
    rw [goS_load c]
    have hn := size_of hz
    exact fgoL_w0 (and_yes (op_is c) rfl) (by rw [wrapN (by omega) (by omega)]) (calcBytes_ok hn) (fwith_ok _ hg.1)
  · rw [goS_store c]
    exact fgoS_w0 (and_yes (op_ne (by omega)) (and_yes (op_is c) rfl))
  · rw [goS_jump c]
    exact fgoJ_w0 (and_yes (op_ne (by omega)) (and_yes (op_ne (by omega)) (and_yes (op_is c) rfl)))
  · have hs := srcV_ok hr ht hu (by omega) (by omega)
    have hv := dstV_ok hr ht hu (by omega) (by omega) (by omega) (by omega)
    rw [goS_eq c]
    exact fgoEq_w0 (and_yes (op_ne (by omega)) (and_yes (op_ne (by omega)) (and_yes (op_ne (by omega)) (and_yes (op_is c) rfl)))) (fleftOt_ok hg.1 hg.2 hv hs) (fleftEq_ok hg.1 hg.2 hv hs)
  · have hs := srcV_ok hr ht hu (by omega) (by omega)
    have hv := dstV_ok hr ht hu (by omega) (by omega) (by omega) (by omega)
    rw [goS_lt c]
    exact fgoLt_w0 (and_yes (op_ne (by omega)) (and_yes (op_ne (by omega)) (and_yes (op_ne (by omega)) (and_yes (op_ne (by omega)) (and_yes (op_is c) rfl))))) (fleftNl_ok hg.1 hg.2 hv hs) (fleftLe_ok hg.1 hg.2 hv hs)
  · rw [goS_exit c]
    exact fgoX_w0 (and_yes (op_ne (by omega)) (and_yes (op_ne (by omega)) (and_yes (op_ne (by omega)) (and_yes (op_ne (by omega)) (and_yes (op_ne (by omega)) (and_yes (op_is c) rfl))))))
  · rw [goS_mov c]
    exact fgoM_w0 (and_yes (op_ne (by omega)) (and_yes (op_ne (by omega)) (and_yes (op_ne (by omega)) (and_yes (op_ne (by omega)) (and_yes (op_ne (by omega)) (and_yes (op_ne (by omega)) (and_yes (op_is c) rfl))))))) (fsource_ok hg.2) (fwith_ok _ hg.1)
  · have hs := srcV_ok hr ht hu (by omega) (by omega)
    have hv := dstV_ok hr ht hu (by omega) (by omega) (by omega) (by omega)
    rw [goS_two c]
    exact fgoT_w0 (and_yes (op_ne (by omega)) (and_yes (op_ne (by omega)) (and_yes (op_ne (by omega)) (and_yes (op_ne (by omega)) (and_yes (op_ne (by omega)) (and_yes (op_ne (by omega)) (and_yes (op_ne (by omega)) (and_yes hg.1 (and_yes (sr_ok t hg.1) rfl))))))))) (sr_eff t hg.1) (fsource_ok hg.2) (calcTwo_ok (by omega) hv hs) (fwith_ok _ hg.1)
theorem fstep_ok (i : Ins) (t : St) : Ok 22 [.ag i.cs, .ag t.cs] (.tu [.ag (stepA i t).1.cs, .ag (stepA i t).2.1.cs, .c (.i (stepA i t).2.2), .c (.i (stepE i t))]) := by
  have h1 := fis_ok i
  have h2 := fcheck_ok t
  have bad : (fineI i && t.ok) = false → AV.tu [AT.ag (St.cs St.z), AT.ag (St.cs St.z), AT.c (AC.i 0), AT.c (AC.i 1)] = .tu [.ag (stepA i t).1.cs, .ag (stepA i t).2.1.cs, .c (.i (stepA i t).2.2), .c (.i (stepE i t))] := fun h => by
    unfold stepA stepE; rw [h]; rfl
  by_cases hb : (fineI i && t.ok) = true
  · have hb' := hb
    rw [Bool.and_eq_true] at hb'
    have hr := fine_right.1 hb'.1
    have ht := St.ok_iff.1 hb'.2
    have h3 := ftrap_ok hr ht
    have eA : stepA i t = stepS i t := by unfold stepA; rw [if_pos hb]
    have eE : stepE i t = 0 := by unfold stepE; rw [if_pos hb]
    rw [eA, eE]
    unfold stepS
    by_cases hl : t.live = true
    · rw [if_pos hl]
      by_cases h0 : trapS i t = 0
      · rw [if_pos h0]
        refine fstep_all (tr := trapS i t) (fun a => ?_) (fun _ a => ?_) (fun _ _ a => ?_) (fun _ _ _ a => ?_) (fun _ _ _ _ => ⟨h1, h2, h3, fgo_ok hr ht h0, rfl⟩)
        · rw [hb'.1] at a; cases a
        · rw [er_ne, hb'.2] at a; cases a
        · rw [hl] at a; cases a
        · rw [h0] at a; cases a
      · rw [if_neg h0]
        refine fstep_all (t1 := t) (t2 := t) (tr := trapS i t) (fun a => ?_) (fun _ a => ?_) (fun _ _ a => ?_) (fun _ _ _ a => ⟨h1, h2, h3, rfl⟩) (fun _ _ _ a => ?_)
        · rw [hb'.1] at a; cases a
        · rw [er_ne, hb'.2] at a; cases a
        · rw [hl] at a; cases a
        · exact absurd (by simpa using a) h0
    · rw [if_neg hl]
      refine fstep_all (t1 := t) (t2 := t) (tr := trapS i t) (fun a => ?_) (fun _ a => ?_) (fun _ _ _ => ⟨h1, h2, rfl⟩) (fun _ _ a => ?_) (fun _ _ a => ?_)
      · rw [hb'.1] at a; cases a
      · rw [er_ne, hb'.2] at a; cases a
      · exact absurd (by simpa using a) hl
      · exact absurd (by simpa using a) hl
  · have hb : (fineI i && t.ok) = false := by simpa using hb
    refine fstep_all (t1 := t) (t2 := t) (tr := 0) (fun a => ⟨h1, bad hb⟩) (fun _ a => ⟨h1, h2, bad hb⟩) (fun a b => ?_) (fun a b => ?_) (fun a b => ?_)
    all_goals
      rw [er_ne] at b
      rw [show fineI i = true by simpa using a, show t.ok = true by simpa using b] at hb
      cases hb
end Go.Proofs.Ytkigmocchaikgab
