import Derived.Test.YtkigmocchaikgabFo2
import Derived.Test.YtkigmocchaikgabProg
import Derived.Test.YtkigmocchaikgabFo4
import Derived.BigRegion
import Derived.Deep.CutBlock
import Derived.Deep.DeepCutAuto
import Derived.Test.YtkigmocchaikgabFo3
import Derived.Deep.RegionHeld3
/- Ways of bodies, written by a program (ways.py): what each asks for, and hands back. -/
namespace Go.Proofs.Ytkigmocchaikgab
open Go.RowKit

theorem cloneS_w0 {S : List St} {q : Nat} {c : Nat} {w : World} {β : Bs} {n : Nat} (h : (Nat.ble (0 + q * 31) (List.length (scell S)) && (decide (0 + q ≤ 137438953472) && decide (0 < 0 + q)) && true) = true) (c0 : Eff.mk (AV.c (AC.sx 6 (0 + q))) [] (some (1 + 1 + 2 + 2, Ent.mk true (List.take 0 (List.drop 0 (rows 0 (St.cs St.z))) ++ List.take (q * 31) (List.drop 0 (scell S))) 31)) = Eff.mk (AV.c (AC.sx 6 q)) [] (some (6, Ent.mk true (scell (List.take q S)) 31))) (hk : EKeys n [] (some 6) ⟨AV.c (AC.sx 6 q), [], some (6, Ent.mk true (scell (List.take q S)) 31)⟩) :
    ART Try.prog 47 (cx w β n []) Try.f47.ntmps ([Item.code (bodyOf Try.f47)]) (Kn.start [AV.c (AC.sl 0 0 q c)] [(0, Ent.mk false (scell S) 0)] 1) (REff w β ⟨AV.c (AC.sx 6 q), [], some (6, Ent.mk true (scell (List.take q S)) 31)⟩) :=
  run_eff [] (some 6) 2000 [Eff.mk (AV.c (AC.sx 6 q)) [] (some (6, Ent.mk true (scell (List.take q S)) 31))] [false] ([]) [(3, 2)] Try.func47 hk (by kernel_rfl) h (cr_same c0 cr_nil)
theorem cloneI_w0 {L : List Ins} {c : Nat} {w : World} {β : Bs} {n : Nat} (h : (Nat.ble (0 + List.length L * 5) (List.length (pcell L)) && (decide (0 + List.length L ≤ 137438953472) && decide (0 < 0 + List.length L)) && true) = true) (c0 : Eff.mk (AV.c (AC.sx 6 (0 + List.length L))) [] (some (1 + 1 + 2 + 2, Ent.mk true (List.take 0 (List.drop 0 (rows 0 [AC.i 0, AC.i 0, AC.i 0, AC.u 0#64, AC.i 0])) ++ List.take (List.length L * 5) (List.drop 0 (pcell L))) 5)) = Eff.mk (AV.c (AC.sx 6 (List.length L))) [] (some (6, Ent.mk true (pcell L) 5))) (hk : EKeys n [] (some 6) ⟨AV.c (AC.sx 6 (List.length L)), [], some (6, Ent.mk true (pcell L) 5)⟩) :
    ART Try.prog 83 (cx w β n []) Try.f83.ntmps ([Item.code (bodyOf Try.f83)]) (Kn.start [AV.c (AC.sl 0 0 (List.length L) c)] [(0, Ent.mk false (pcell L) 0)] 1) (REff w β ⟨AV.c (AC.sx 6 (List.length L)), [], some (6, Ent.mk true (pcell L) 5)⟩) :=
  run_eff [] (some 6) 2000 [Eff.mk (AV.c (AC.sx 6 (List.length L))) [] (some (6, Ent.mk true (pcell L) 5))] [false] ([]) [(3, 2)] Try.func83 hk (by kernel_rfl) h (cr_same c0 cr_nil)
end Go.Proofs.Ytkigmocchaikgab

/- Ways of bodies, written by a program (ways.py): what each asks for, and hands back. -/
namespace Go.Proofs.Ytkigmocchaikgab
open Go.RowKit

theorem fis_w0 {i : Ins} (h : (Ins.op i == 12 && (Ins.op i == 12 && (decide (Ins.of i < 0) && true))) = true) :
    CallOK Try.prog ⟨44, [AV.ag (Ins.cs i)], [], ⟨AV.c (AC.b false), [], none⟩⟩ :=
  val_run 2000 [] [true, true, true, true] ([]) [] Try.func44 rfl rfl rfl rfl (by kernel_rfl) h cr_nil
theorem fis_w1 {i : Ins} (h : (Ins.op i == 12 && (Ins.op i == 12 && (!decide (Ins.of i < 0) && (decide (64 < Ins.of i) && true)))) = true) :
    CallOK Try.prog ⟨44, [AV.ag (Ins.cs i)], [], ⟨AV.c (AC.b false), [], none⟩⟩ :=
  val_run 2000 [] [true, true, false, true] ([]) [] Try.func44 rfl rfl rfl rfl (by kernel_rfl) h cr_nil
theorem fis_w2 {i : Ins} {e : Int} (h : (Ins.op i == 12 && (Ins.op i == 12 && (!decide (Ins.of i < 0) && (!decide (64 < Ins.of i) && true)))) = true) (c0 : CallOK Try.prog (CallRec.mk 28 [AV.c (AC.sl 18 0 2 2)] [(18, Ent.mk true [AC.i (Ins.op i), AC.i (Ins.d i), AC.i (Ins.s i), AC.u (Ins.im i), AC.i 0, AC.i 15, AC.i 0, AC.i 0, AC.u 0#64, AC.i 0] 0)] (Eff.mk (AV.c (AC.i e)) [] none))) :
    CallOK Try.prog ⟨44, [AV.ag (Ins.cs i)], [], ⟨AV.c (AC.b (e == 0)), [], none⟩⟩ :=
  val_run 2000 [Eff.mk (AV.c (AC.i e)) [] none] [true, true, false, false] ([]) [] Try.func44 rfl rfl rfl rfl (by kernel_rfl) h (cr_cons c0 cr_nil)
theorem fis_w3 {i : Ins} (h : (!Ins.op i == 12 && (Ins.op i == 13 && (Ins.op i == 13 && (decide (Ins.of i < 0) && true)))) = true) :
    CallOK Try.prog ⟨44, [AV.ag (Ins.cs i)], [], ⟨AV.c (AC.b false), [], none⟩⟩ :=
  val_run 2000 [] [false, true, true, true, true] ([]) [] Try.func44 rfl rfl rfl rfl (by kernel_rfl) h cr_nil
theorem fis_w4 {i : Ins} (h : (!Ins.op i == 12 && (Ins.op i == 13 && (Ins.op i == 13 && (!decide (Ins.of i < 0) && (decide (64 < Ins.of i) && true))))) = true) :
    CallOK Try.prog ⟨44, [AV.ag (Ins.cs i)], [], ⟨AV.c (AC.b false), [], none⟩⟩ :=
  val_run 2000 [] [false, true, true, false, true] ([]) [] Try.func44 rfl rfl rfl rfl (by kernel_rfl) h cr_nil
theorem fis_w5 {i : Ins} {e : Int} (h : (!Ins.op i == 12 && (Ins.op i == 13 && (Ins.op i == 13 && (!decide (Ins.of i < 0) && (!decide (64 < Ins.of i) && true))))) = true) (c0 : CallOK Try.prog (CallRec.mk 28 [AV.c (AC.sl 20 0 2 2)] [(20, Ent.mk true [AC.i (Ins.op i), AC.i (Ins.d i), AC.i (Ins.s i), AC.u (Ins.im i), AC.i 0, AC.i 15, AC.i 0, AC.i 0, AC.u 0#64, AC.i 0] 0)] (Eff.mk (AV.c (AC.i e)) [] none))) :
    CallOK Try.prog ⟨44, [AV.ag (Ins.cs i)], [], ⟨AV.c (AC.b (e == 0)), [], none⟩⟩ :=
  val_run 2000 [Eff.mk (AV.c (AC.i e)) [] none] [false, true, true, false, false] ([]) [] Try.func44 rfl rfl rfl rfl (by kernel_rfl) h (cr_cons c0 cr_nil)
theorem fis_w6 {i : Ins} (h : (!Ins.op i == 12 && (!Ins.op i == 13 && (Ins.op i == 14 && (decide (Ins.of i < 0) && true)))) = true) :
    CallOK Try.prog ⟨44, [AV.ag (Ins.cs i)], [], ⟨AV.c (AC.b false), [], none⟩⟩ :=
  val_run 2000 [] [false, false, true, true, true] ([]) [] Try.func44 rfl rfl rfl rfl (by kernel_rfl) h cr_nil
theorem fis_w7 {i : Ins} (h : (!Ins.op i == 12 && (!Ins.op i == 13 && (Ins.op i == 14 && (!decide (Ins.of i < 0) && (decide (64 < Ins.of i) && true))))) = true) :
    CallOK Try.prog ⟨44, [AV.ag (Ins.cs i)], [], ⟨AV.c (AC.b false), [], none⟩⟩ :=
  val_run 2000 [] [false, false, true, false, true] ([]) [] Try.func44 rfl rfl rfl rfl (by kernel_rfl) h cr_nil
theorem fis_w8 {i : Ins} {e : Int} (h : (!Ins.op i == 12 && (!Ins.op i == 13 && (Ins.op i == 14 && (!decide (Ins.of i < 0) && (!decide (64 < Ins.of i) && true))))) = true) (c0 : CallOK Try.prog (CallRec.mk 28 [AV.c (AC.sl 22 0 2 2)] [(22, Ent.mk true [AC.i (Ins.op i), AC.i (Ins.d i), AC.i (Ins.s i), AC.u (Ins.im i), AC.i 0, AC.i 15, AC.i 0, AC.i 0, AC.u 0#64, AC.i 0] 0)] (Eff.mk (AV.c (AC.i e)) [] none))) :
    CallOK Try.prog ⟨44, [AV.ag (Ins.cs i)], [], ⟨AV.c (AC.b (e == 0)), [], none⟩⟩ :=
  val_run 2000 [Eff.mk (AV.c (AC.i e)) [] none] [false, false, true, false, false] ([]) [] Try.func44 rfl rfl rfl rfl (by kernel_rfl) h (cr_cons c0 cr_nil)
theorem fis_w9 {i : Ins} {e : Int} (h : (!Ins.op i == 12 && (!Ins.op i == 13 && (!Ins.op i == 14 && true))) = true) (c0 : CallOK Try.prog (CallRec.mk 28 [AV.c (AC.sl 12 0 2 2)] [(12, Ent.mk true [AC.i (Ins.op i), AC.i (Ins.d i), AC.i (Ins.s i), AC.u (Ins.im i), AC.i (Ins.of i), AC.i 15, AC.i 0, AC.i 0, AC.u 0#64, AC.i 0] 0)] (Eff.mk (AV.c (AC.i e)) [] none))) :
    CallOK Try.prog ⟨44, [AV.ag (Ins.cs i)], [], ⟨AV.c (AC.b (e == 0)), [], none⟩⟩ :=
  val_run 2000 [Eff.mk (AV.c (AC.i e)) [] none] [false, false, false] ([]) [] Try.func44 rfl rfl rfl rfl (by kernel_rfl) h (cr_cons c0 cr_nil)
theorem fis_all {i : Ins} {e : Int} {V : AV}
    (l0 : (Ins.op i == 12) = true → (decide (Ins.of i < 0)) = true → (AV.c (AC.b false) = V))
    (l1 : (Ins.op i == 12) = true → (decide (Ins.of i < 0)) = false → (decide (64 < Ins.of i)) = true → (AV.c (AC.b false) = V))
    (l2 : (Ins.op i == 12) = true → (decide (Ins.of i < 0)) = false → (decide (64 < Ins.of i)) = false → (CallOK Try.prog (CallRec.mk 28 [AV.c (AC.sl 18 0 2 2)] [(18, Ent.mk true [AC.i (Ins.op i), AC.i (Ins.d i), AC.i (Ins.s i), AC.u (Ins.im i), AC.i 0, AC.i 15, AC.i 0, AC.i 0, AC.u 0#64, AC.i 0] 0)] (Eff.mk (AV.c (AC.i e)) [] none))) ∧ (AV.c (AC.b (e == 0)) = V))
    (l3 : (Ins.op i == 12) = false → (Ins.op i == 13) = true → (decide (Ins.of i < 0)) = true → (AV.c (AC.b false) = V))
    (l4 : (Ins.op i == 12) = false → (Ins.op i == 13) = true → (decide (Ins.of i < 0)) = false → (decide (64 < Ins.of i)) = true → (AV.c (AC.b false) = V))
    (l5 : (Ins.op i == 12) = false → (Ins.op i == 13) = true → (decide (Ins.of i < 0)) = false → (decide (64 < Ins.of i)) = false → (CallOK Try.prog (CallRec.mk 28 [AV.c (AC.sl 20 0 2 2)] [(20, Ent.mk true [AC.i (Ins.op i), AC.i (Ins.d i), AC.i (Ins.s i), AC.u (Ins.im i), AC.i 0, AC.i 15, AC.i 0, AC.i 0, AC.u 0#64, AC.i 0] 0)] (Eff.mk (AV.c (AC.i e)) [] none))) ∧ (AV.c (AC.b (e == 0)) = V))
    (l6 : (Ins.op i == 12) = false → (Ins.op i == 13) = false → (Ins.op i == 14) = true → (decide (Ins.of i < 0)) = true → (AV.c (AC.b false) = V))
    (l7 : (Ins.op i == 12) = false → (Ins.op i == 13) = false → (Ins.op i == 14) = true → (decide (Ins.of i < 0)) = false → (decide (64 < Ins.of i)) = true → (AV.c (AC.b false) = V))
    (l8 : (Ins.op i == 12) = false → (Ins.op i == 13) = false → (Ins.op i == 14) = true → (decide (Ins.of i < 0)) = false → (decide (64 < Ins.of i)) = false → (CallOK Try.prog (CallRec.mk 28 [AV.c (AC.sl 22 0 2 2)] [(22, Ent.mk true [AC.i (Ins.op i), AC.i (Ins.d i), AC.i (Ins.s i), AC.u (Ins.im i), AC.i 0, AC.i 15, AC.i 0, AC.i 0, AC.u 0#64, AC.i 0] 0)] (Eff.mk (AV.c (AC.i e)) [] none))) ∧ (AV.c (AC.b (e == 0)) = V))
    (l9 : (Ins.op i == 12) = false → (Ins.op i == 13) = false → (Ins.op i == 14) = false → (CallOK Try.prog (CallRec.mk 28 [AV.c (AC.sl 12 0 2 2)] [(12, Ent.mk true [AC.i (Ins.op i), AC.i (Ins.d i), AC.i (Ins.s i), AC.u (Ins.im i), AC.i (Ins.of i), AC.i 15, AC.i 0, AC.i 0, AC.u 0#64, AC.i 0] 0)] (Eff.mk (AV.c (AC.i e)) [] none))) ∧ (AV.c (AC.b (e == 0)) = V)) :
    CallOK Try.prog ⟨44, [AV.ag (Ins.cs i)], [], ⟨V, [], none⟩⟩ :=
  (tf (Ins.op i == 12)).elim (fun h0 => (tf (decide (Ins.of i < 0))).elim (fun h1 => (match l0 h0 h1 with | e => ok_eq (fis_w0 (and_yes h0 (and_yes h0 (and_yes h1 rfl)))) e)) (fun h1 => (tf (decide (64 < Ins.of i))).elim (fun h2 => (match l1 h0 h1 h2 with | e => ok_eq (fis_w1 (and_yes h0 (and_yes h0 (and_yes (not_yes h1) (and_yes h2 rfl))))) e)) (fun h2 => (match l2 h0 h1 h2 with | ⟨c0, e⟩ => ok_eq (fis_w2 (and_yes h0 (and_yes h0 (and_yes (not_yes h1) (and_yes (not_yes h2) rfl)))) c0) e)))) (fun h0 => (tf (Ins.op i == 13)).elim (fun h1 => (tf (decide (Ins.of i < 0))).elim (fun h2 => (match l3 h0 h1 h2 with | e => ok_eq (fis_w3 (and_yes (not_yes h0) (and_yes h1 (and_yes h1 (and_yes h2 rfl))))) e)) (fun h2 => (tf (decide (64 < Ins.of i))).elim (fun h3 => (match l4 h0 h1 h2 h3 with | e => ok_eq (fis_w4 (and_yes (not_yes h0) (and_yes h1 (and_yes h1 (and_yes (not_yes h2) (and_yes h3 rfl)))))) e)) (fun h3 => (match l5 h0 h1 h2 h3 with | ⟨c0, e⟩ => ok_eq (fis_w5 (and_yes (not_yes h0) (and_yes h1 (and_yes h1 (and_yes (not_yes h2) (and_yes (not_yes h3) rfl))))) c0) e)))) (fun h1 => (tf (Ins.op i == 14)).elim (fun h2 => (tf (decide (Ins.of i < 0))).elim (fun h3 => (match l6 h0 h1 h2 h3 with | e => ok_eq (fis_w6 (and_yes (not_yes h0) (and_yes (not_yes h1) (and_yes h2 (and_yes h3 rfl))))) e)) (fun h3 => (tf (decide (64 < Ins.of i))).elim (fun h4 => (match l7 h0 h1 h2 h3 h4 with | e => ok_eq (fis_w7 (and_yes (not_yes h0) (and_yes (not_yes h1) (and_yes h2 (and_yes (not_yes h3) (and_yes h4 rfl)))))) e)) (fun h4 => (match l8 h0 h1 h2 h3 h4 with | ⟨c0, e⟩ => ok_eq (fis_w8 (and_yes (not_yes h0) (and_yes (not_yes h1) (and_yes h2 (and_yes (not_yes h3) (and_yes (not_yes h4) rfl))))) c0) e)))) (fun h2 => (match l9 h0 h1 h2 with | ⟨c0, e⟩ => ok_eq (fis_w9 (and_yes (not_yes h0) (and_yes (not_yes h1) (and_yes (not_yes h2) rfl))) c0) e))))
theorem freach_w0 {i : Ins} {a : V4} {b : V4} {c : V4} (h : (decide (nv (bsub (64#64) (Ins.im i)) < nv (V4.h c)) && true) = true) (c0 : CallOK Try.prog (CallRec.mk 110 [AV.c (AC.u (BitVec.ofInt 64 (Ins.of i)))] [] (Eff.mk (AV.ag (V4.cs b)) [] none))) (c1 : CallOK Try.prog (CallRec.mk 82 [AV.c (AC.i 2), AV.ag (V4.cs a), AV.ag (V4.cs b)] [] (Eff.mk (AV.tu [AT.ag (V4.cs c), AT.c (AC.i 0)]) [] none))) :
    CallOK Try.prog ⟨74, [AV.ag (Ins.cs i), AV.ag (V4.cs a)], [], ⟨AV.c (AC.i 2), [], none⟩⟩ :=
  val_run 2000 [Eff.mk (AV.ag (V4.cs b)) [] none, Eff.mk (AV.tu [AT.ag (V4.cs c), AT.c (AC.i 0)]) [] none] [true] ([]) [] Try.func74 rfl rfl rfl rfl (by kernel_rfl) h (cr_cons c0 (cr_cons c1 cr_nil))
theorem freach_w1 {i : Ins} {a : V4} {b : V4} {c : V4} (h : (!decide (nv (bsub (64#64) (Ins.im i)) < nv (V4.h c)) && true) = true) (c0 : CallOK Try.prog (CallRec.mk 110 [AV.c (AC.u (BitVec.ofInt 64 (Ins.of i)))] [] (Eff.mk (AV.ag (V4.cs b)) [] none))) (c1 : CallOK Try.prog (CallRec.mk 82 [AV.c (AC.i 2), AV.ag (V4.cs a), AV.ag (V4.cs b)] [] (Eff.mk (AV.tu [AT.ag (V4.cs c), AT.c (AC.i 0)]) [] none))) :
    CallOK Try.prog ⟨74, [AV.ag (Ins.cs i), AV.ag (V4.cs a)], [], ⟨AV.c (AC.i 0), [], none⟩⟩ :=
  val_run 2000 [Eff.mk (AV.ag (V4.cs b)) [] none, Eff.mk (AV.tu [AT.ag (V4.cs c), AT.c (AC.i 0)]) [] none] [false] ([]) [] Try.func74 rfl rfl rfl rfl (by kernel_rfl) h (cr_cons c0 (cr_cons c1 cr_nil))
theorem freach_all {i : Ins} {a : V4} {b : V4} {c : V4} {V : AV}
    (l0 : (decide (nv (bsub (64#64) (Ins.im i)) < nv (V4.h c))) = true → (CallOK Try.prog (CallRec.mk 110 [AV.c (AC.u (BitVec.ofInt 64 (Ins.of i)))] [] (Eff.mk (AV.ag (V4.cs b)) [] none))) ∧ (CallOK Try.prog (CallRec.mk 82 [AV.c (AC.i 2), AV.ag (V4.cs a), AV.ag (V4.cs b)] [] (Eff.mk (AV.tu [AT.ag (V4.cs c), AT.c (AC.i 0)]) [] none))) ∧ (AV.c (AC.i 2) = V))
    (l1 : (decide (nv (bsub (64#64) (Ins.im i)) < nv (V4.h c))) = false → (CallOK Try.prog (CallRec.mk 110 [AV.c (AC.u (BitVec.ofInt 64 (Ins.of i)))] [] (Eff.mk (AV.ag (V4.cs b)) [] none))) ∧ (CallOK Try.prog (CallRec.mk 82 [AV.c (AC.i 2), AV.ag (V4.cs a), AV.ag (V4.cs b)] [] (Eff.mk (AV.tu [AT.ag (V4.cs c), AT.c (AC.i 0)]) [] none))) ∧ (AV.c (AC.i 0) = V)) :
    CallOK Try.prog ⟨74, [AV.ag (Ins.cs i), AV.ag (V4.cs a)], [], ⟨V, [], none⟩⟩ :=
  (tf (decide (nv (bsub (64#64) (Ins.im i)) < nv (V4.h c)))).elim (fun h0 => (match l0 h0 with | ⟨c0, c1, e⟩ => ok_eq (freach_w0 (and_yes h0 rfl) c0 c1) e)) (fun h0 => (match l1 h0 with | ⟨c0, c1, e⟩ => ok_eq (freach_w1 (and_yes (not_yes h0) rfl) c0 c1) e))
theorem fsource_w0 {i : Ins} {t : St} {b : V4} (h : (Ins.s i == -1 && true) = true) (c0 : CallOK Try.prog (CallRec.mk 110 [AV.c (AC.u (Ins.im i))] [] (Eff.mk (AV.ag (V4.cs b)) [] none))) :
    CallOK Try.prog ⟨81, [AV.ag (Ins.cs i), AV.ag (St.cs t)], [], ⟨AV.ag (V4.cs b), [], none⟩⟩ :=
  val_run 2000 [Eff.mk (AV.ag (V4.cs b)) [] none] [true] ([]) [(3, 4)] Try.func81 rfl rfl rfl rfl (by kernel_rfl) h (cr_cons c0 cr_nil)
theorem fsource_w1 {i : Ins} {t : St} (h : (!Ins.s i == -1 && (decide (0 ≤ Ins.s i) && decide (Ins.s i < 6) && (Nat.ble (7 + Int.toNat (Ins.s i) * 4 + 4) (List.length (St.cs t)) && true))) = true) (c0 : Eff.mk (AV.ag (List.take 4 (List.drop (7 + Int.toNat (Ins.s i) * 4) (St.cs t)))) [] none = Eff.mk (AV.ag (V4.cs (V6.get (St.r t) (Int.toNat (Ins.s i))))) [] none) :
    CallOK Try.prog ⟨81, [AV.ag (Ins.cs i), AV.ag (St.cs t)], [], ⟨AV.ag (V4.cs (V6.get (St.r t) (Int.toNat (Ins.s i)))), [], none⟩⟩ :=
  val_run 2000 [Eff.mk (AV.ag (V4.cs (V6.get (St.r t) (Int.toNat (Ins.s i))))) [] none] [false] ([]) [(3, 4)] Try.func81 rfl rfl rfl rfl (by kernel_rfl) h (cr_same c0 cr_nil)
theorem fsource_all {i : Ins} {t : St} {b : V4} {V : AV}
    (l0 : (Ins.s i == -1) = true → (CallOK Try.prog (CallRec.mk 110 [AV.c (AC.u (Ins.im i))] [] (Eff.mk (AV.ag (V4.cs b)) [] none))) ∧ (AV.ag (V4.cs b) = V))
    (l1 : (Ins.s i == -1) = false → (decide (0 ≤ Ins.s i) && decide (Ins.s i < 6)) = true ∧ (Nat.ble (7 + Int.toNat (Ins.s i) * 4 + 4) (List.length (St.cs t))) = true ∧ (Eff.mk (AV.ag (List.take 4 (List.drop (7 + Int.toNat (Ins.s i) * 4) (St.cs t)))) [] none = Eff.mk (AV.ag (V4.cs (V6.get (St.r t) (Int.toNat (Ins.s i))))) [] none) ∧ (AV.ag (V4.cs (V6.get (St.r t) (Int.toNat (Ins.s i)))) = V)) :
    CallOK Try.prog ⟨81, [AV.ag (Ins.cs i), AV.ag (St.cs t)], [], ⟨V, [], none⟩⟩ :=
  (tf (Ins.s i == -1)).elim (fun h0 => (match l0 h0 with | ⟨c0, e⟩ => ok_eq (fsource_w0 (and_yes h0 rfl) c0) e)) (fun h0 => (match l1 h0 with | ⟨o0, o1, c0, e⟩ => ok_eq (fsource_w1 (and_yes (not_yes h0) (and_yes o0 (and_yes o1 rfl))) c0) e))
theorem fleftOt_w0 {i : Ins} {t : St} {b : V4} {x : V4} {y : V4} {q : Bool} (h : (decide (0 ≤ Ins.d i) && decide (Ins.d i < 6) && (Nat.ble (7 + Int.toNat (Ins.d i) * 4 + 4) (List.length (St.cs t)) && (!q && true))) = true) (c0 : Eff.mk (AV.ag (List.take 4 (List.drop (7 + Int.toNat (Ins.d i) * 4) (St.cs t)))) [] none = Eff.mk (AV.ag (V4.cs (V6.get (St.r t) (Int.toNat (Ins.d i))))) [] none) (c1 : CallOK Try.prog (CallRec.mk 81 [AV.ag (Ins.cs i), AV.ag (St.cs t)] [] (Eff.mk (AV.ag (V4.cs b)) [] none))) (c2 : CallOK Try.prog (CallRec.mk 77 [AV.ag (V4.cs (V6.get (St.r t) (Int.toNat (Ins.d i)))), AV.ag (V4.cs b)] [] (Eff.mk (AV.tu [AT.ag (V4.cs x), AT.ag (V4.cs y), AT.c (AC.b q), AT.c (AC.i 0)]) [] none))) :
    CallOK Try.prog ⟨76, [AV.ag (Ins.cs i), AV.ag (St.cs t), AV.c (AC.f 77 [])], [], ⟨AV.ag (St.cs St.z), [], none⟩⟩ :=
  val_run 2000 [Eff.mk (AV.ag (V4.cs (V6.get (St.r t) (Int.toNat (Ins.d i))))) [] none, Eff.mk (AV.ag (V4.cs b)) [] none, Eff.mk (AV.tu [AT.ag (V4.cs x), AT.ag (V4.cs y), AT.c (AC.b q), AT.c (AC.i 0)]) [] none] [true] ([]) [(1, 5)] Try.func76 rfl rfl rfl rfl (by kernel_rfl) h (cr_same c0 (cr_cons c1 (cr_cons c2 cr_nil)))
theorem fleftOt_w1 {i : Ins} {t : St} {t1 : St} {t2 : St} {b : V4} {x : V4} {y : V4} {q : Bool} (h : (decide (0 ≤ Ins.d i) && decide (Ins.d i < 6) && (Nat.ble (7 + Int.toNat (Ins.d i) * 4 + 4) (List.length (St.cs t)) && (!!q && (Ins.s i != -1 && true)))) = true) (c0 : Eff.mk (AV.ag (List.take 4 (List.drop (7 + Int.toNat (Ins.d i) * 4) (St.cs t)))) [] none = Eff.mk (AV.ag (V4.cs (V6.get (St.r t) (Int.toNat (Ins.d i))))) [] none) (c1 : CallOK Try.prog (CallRec.mk 81 [AV.ag (Ins.cs i), AV.ag (St.cs t)] [] (Eff.mk (AV.ag (V4.cs b)) [] none))) (c2 : CallOK Try.prog (CallRec.mk 77 [AV.ag (V4.cs (V6.get (St.r t) (Int.toNat (Ins.d i)))), AV.ag (V4.cs b)] [] (Eff.mk (AV.tu [AT.ag (V4.cs x), AT.ag (V4.cs y), AT.c (AC.b q), AT.c (AC.i 0)]) [] none))) (c3 : CallOK Try.prog (CallRec.mk 35 [AV.ag (St.cs t), AV.c (AC.i (Ins.d i)), AV.ag (V4.cs x)] [] (Eff.mk (AV.ag (St.cs t1)) [] none))) (c4 : CallOK Try.prog (CallRec.mk 35 [AV.ag (St.cs t1), AV.c (AC.i (Ins.s i)), AV.ag (V4.cs y)] [] (Eff.mk (AV.ag (St.cs t2)) [] none))) :
    CallOK Try.prog ⟨76, [AV.ag (Ins.cs i), AV.ag (St.cs t), AV.c (AC.f 77 [])], [], ⟨AV.ag (St.cs t2), [], none⟩⟩ :=
  val_run 2000 [Eff.mk (AV.ag (V4.cs (V6.get (St.r t) (Int.toNat (Ins.d i))))) [] none, Eff.mk (AV.ag (V4.cs b)) [] none, Eff.mk (AV.tu [AT.ag (V4.cs x), AT.ag (V4.cs y), AT.c (AC.b q), AT.c (AC.i 0)]) [] none, Eff.mk (AV.ag (St.cs t1)) [] none, Eff.mk (AV.ag (St.cs t2)) [] none] [false, true] ([]) [(1, 5)] Try.func76 rfl rfl rfl rfl (by kernel_rfl) h (cr_same c0 (cr_cons c1 (cr_cons c2 (cr_cons c3 (cr_cons c4 cr_nil)))))
theorem fleftOt_w2 {i : Ins} {t : St} {t1 : St} {b : V4} {x : V4} {y : V4} {q : Bool} (h : (decide (0 ≤ Ins.d i) && decide (Ins.d i < 6) && (Nat.ble (7 + Int.toNat (Ins.d i) * 4 + 4) (List.length (St.cs t)) && (!!q && (!Ins.s i != -1 && true)))) = true) (c0 : Eff.mk (AV.ag (List.take 4 (List.drop (7 + Int.toNat (Ins.d i) * 4) (St.cs t)))) [] none = Eff.mk (AV.ag (V4.cs (V6.get (St.r t) (Int.toNat (Ins.d i))))) [] none) (c1 : CallOK Try.prog (CallRec.mk 81 [AV.ag (Ins.cs i), AV.ag (St.cs t)] [] (Eff.mk (AV.ag (V4.cs b)) [] none))) (c2 : CallOK Try.prog (CallRec.mk 77 [AV.ag (V4.cs (V6.get (St.r t) (Int.toNat (Ins.d i)))), AV.ag (V4.cs b)] [] (Eff.mk (AV.tu [AT.ag (V4.cs x), AT.ag (V4.cs y), AT.c (AC.b q), AT.c (AC.i 0)]) [] none))) (c3 : CallOK Try.prog (CallRec.mk 35 [AV.ag (St.cs t), AV.c (AC.i (Ins.d i)), AV.ag (V4.cs x)] [] (Eff.mk (AV.ag (St.cs t1)) [] none))) :
    CallOK Try.prog ⟨76, [AV.ag (Ins.cs i), AV.ag (St.cs t), AV.c (AC.f 77 [])], [], ⟨AV.ag (St.cs t1), [], none⟩⟩ :=
  val_run 2000 [Eff.mk (AV.ag (V4.cs (V6.get (St.r t) (Int.toNat (Ins.d i))))) [] none, Eff.mk (AV.ag (V4.cs b)) [] none, Eff.mk (AV.tu [AT.ag (V4.cs x), AT.ag (V4.cs y), AT.c (AC.b q), AT.c (AC.i 0)]) [] none, Eff.mk (AV.ag (St.cs t1)) [] none] [false, false] ([]) [(1, 5)] Try.func76 rfl rfl rfl rfl (by kernel_rfl) h (cr_same c0 (cr_cons c1 (cr_cons c2 (cr_cons c3 cr_nil))))
theorem fleftOt_all {i : Ins} {t : St} {t1 : St} {t2 : St} {b : V4} {x : V4} {y : V4} {q : Bool} {V : AV}
    (l0 : (!q) = true → (decide (0 ≤ Ins.d i) && decide (Ins.d i < 6)) = true ∧ (Nat.ble (7 + Int.toNat (Ins.d i) * 4 + 4) (List.length (St.cs t))) = true ∧ (Eff.mk (AV.ag (List.take 4 (List.drop (7 + Int.toNat (Ins.d i) * 4) (St.cs t)))) [] none = Eff.mk (AV.ag (V4.cs (V6.get (St.r t) (Int.toNat (Ins.d i))))) [] none) ∧ (CallOK Try.prog (CallRec.mk 81 [AV.ag (Ins.cs i), AV.ag (St.cs t)] [] (Eff.mk (AV.ag (V4.cs b)) [] none))) ∧ (CallOK Try.prog (CallRec.mk 77 [AV.ag (V4.cs (V6.get (St.r t) (Int.toNat (Ins.d i)))), AV.ag (V4.cs b)] [] (Eff.mk (AV.tu [AT.ag (V4.cs x), AT.ag (V4.cs y), AT.c (AC.b q), AT.c (AC.i 0)]) [] none))) ∧ (AV.ag (St.cs St.z) = V))
    (l1 : (!q) = false → (Ins.s i != -1) = true → (decide (0 ≤ Ins.d i) && decide (Ins.d i < 6)) = true ∧ (Nat.ble (7 + Int.toNat (Ins.d i) * 4 + 4) (List.length (St.cs t))) = true ∧ (Eff.mk (AV.ag (List.take 4 (List.drop (7 + Int.toNat (Ins.d i) * 4) (St.cs t)))) [] none = Eff.mk (AV.ag (V4.cs (V6.get (St.r t) (Int.toNat (Ins.d i))))) [] none) ∧ (CallOK Try.prog (CallRec.mk 81 [AV.ag (Ins.cs i), AV.ag (St.cs t)] [] (Eff.mk (AV.ag (V4.cs b)) [] none))) ∧ (CallOK Try.prog (CallRec.mk 77 [AV.ag (V4.cs (V6.get (St.r t) (Int.toNat (Ins.d i)))), AV.ag (V4.cs b)] [] (Eff.mk (AV.tu [AT.ag (V4.cs x), AT.ag (V4.cs y), AT.c (AC.b q), AT.c (AC.i 0)]) [] none))) ∧ (CallOK Try.prog (CallRec.mk 35 [AV.ag (St.cs t), AV.c (AC.i (Ins.d i)), AV.ag (V4.cs x)] [] (Eff.mk (AV.ag (St.cs t1)) [] none))) ∧ (CallOK Try.prog (CallRec.mk 35 [AV.ag (St.cs t1), AV.c (AC.i (Ins.s i)), AV.ag (V4.cs y)] [] (Eff.mk (AV.ag (St.cs t2)) [] none))) ∧ (AV.ag (St.cs t2) = V))
    (l2 : (!q) = false → (Ins.s i != -1) = false → (decide (0 ≤ Ins.d i) && decide (Ins.d i < 6)) = true ∧ (Nat.ble (7 + Int.toNat (Ins.d i) * 4 + 4) (List.length (St.cs t))) = true ∧ (Eff.mk (AV.ag (List.take 4 (List.drop (7 + Int.toNat (Ins.d i) * 4) (St.cs t)))) [] none = Eff.mk (AV.ag (V4.cs (V6.get (St.r t) (Int.toNat (Ins.d i))))) [] none) ∧ (CallOK Try.prog (CallRec.mk 81 [AV.ag (Ins.cs i), AV.ag (St.cs t)] [] (Eff.mk (AV.ag (V4.cs b)) [] none))) ∧ (CallOK Try.prog (CallRec.mk 77 [AV.ag (V4.cs (V6.get (St.r t) (Int.toNat (Ins.d i)))), AV.ag (V4.cs b)] [] (Eff.mk (AV.tu [AT.ag (V4.cs x), AT.ag (V4.cs y), AT.c (AC.b q), AT.c (AC.i 0)]) [] none))) ∧ (CallOK Try.prog (CallRec.mk 35 [AV.ag (St.cs t), AV.c (AC.i (Ins.d i)), AV.ag (V4.cs x)] [] (Eff.mk (AV.ag (St.cs t1)) [] none))) ∧ (AV.ag (St.cs t1) = V)) :
    CallOK Try.prog ⟨76, [AV.ag (Ins.cs i), AV.ag (St.cs t), AV.c (AC.f 77 [])], [], ⟨V, [], none⟩⟩ :=
  (tf (!q)).elim (fun h0 => (match l0 h0 with | ⟨o0, o1, c0, c1, c2, e⟩ => ok_eq (fleftOt_w0 (and_yes o0 (and_yes o1 (and_yes h0 rfl))) c0 c1 c2) e)) (fun h0 => (tf (Ins.s i != -1)).elim (fun h1 => (match l1 h0 h1 with | ⟨o0, o1, c0, c1, c2, c3, c4, e⟩ => ok_eq (fleftOt_w1 (and_yes o0 (and_yes o1 (and_yes (not_yes h0) (and_yes h1 rfl)))) c0 c1 c2 c3 c4) e)) (fun h1 => (match l2 h0 h1 with | ⟨o0, o1, c0, c1, c2, c3, e⟩ => ok_eq (fleftOt_w2 (and_yes o0 (and_yes o1 (and_yes (not_yes h0) (and_yes (not_yes h1) rfl)))) c0 c1 c2 c3) e)))
theorem fleftEq_w0 {i : Ins} {t : St} {b : V4} {x : V4} {y : V4} {q : Bool} (h : (decide (0 ≤ Ins.d i) && decide (Ins.d i < 6) && (Nat.ble (7 + Int.toNat (Ins.d i) * 4 + 4) (List.length (St.cs t)) && (!q && true))) = true) (c0 : Eff.mk (AV.ag (List.take 4 (List.drop (7 + Int.toNat (Ins.d i) * 4) (St.cs t)))) [] none = Eff.mk (AV.ag (V4.cs (V6.get (St.r t) (Int.toNat (Ins.d i))))) [] none) (c1 : CallOK Try.prog (CallRec.mk 81 [AV.ag (Ins.cs i), AV.ag (St.cs t)] [] (Eff.mk (AV.ag (V4.cs b)) [] none))) (c2 : CallOK Try.prog (CallRec.mk 78 [AV.ag (V4.cs (V6.get (St.r t) (Int.toNat (Ins.d i)))), AV.ag (V4.cs b)] [] (Eff.mk (AV.tu [AT.ag (V4.cs x), AT.ag (V4.cs y), AT.c (AC.b q), AT.c (AC.i 0)]) [] none))) :
    CallOK Try.prog ⟨76, [AV.ag (Ins.cs i), AV.ag (St.cs t), AV.c (AC.f 78 [])], [], ⟨AV.ag (St.cs St.z), [], none⟩⟩ :=
  val_run 2000 [Eff.mk (AV.ag (V4.cs (V6.get (St.r t) (Int.toNat (Ins.d i))))) [] none, Eff.mk (AV.ag (V4.cs b)) [] none, Eff.mk (AV.tu [AT.ag (V4.cs x), AT.ag (V4.cs y), AT.c (AC.b q), AT.c (AC.i 0)]) [] none] [true] ([]) [(1, 5)] Try.func76 rfl rfl rfl rfl (by kernel_rfl) h (cr_same c0 (cr_cons c1 (cr_cons c2 cr_nil)))
theorem fleftEq_w1 {i : Ins} {t : St} {t1 : St} {t2 : St} {b : V4} {x : V4} {y : V4} {q : Bool} (h : (decide (0 ≤ Ins.d i) && decide (Ins.d i < 6) && (Nat.ble (7 + Int.toNat (Ins.d i) * 4 + 4) (List.length (St.cs t)) && (!!q && (Ins.s i != -1 && true)))) = true) (c0 : Eff.mk (AV.ag (List.take 4 (List.drop (7 + Int.toNat (Ins.d i) * 4) (St.cs t)))) [] none = Eff.mk (AV.ag (V4.cs (V6.get (St.r t) (Int.toNat (Ins.d i))))) [] none) (c1 : CallOK Try.prog (CallRec.mk 81 [AV.ag (Ins.cs i), AV.ag (St.cs t)] [] (Eff.mk (AV.ag (V4.cs b)) [] none))) (c2 : CallOK Try.prog (CallRec.mk 78 [AV.ag (V4.cs (V6.get (St.r t) (Int.toNat (Ins.d i)))), AV.ag (V4.cs b)] [] (Eff.mk (AV.tu [AT.ag (V4.cs x), AT.ag (V4.cs y), AT.c (AC.b q), AT.c (AC.i 0)]) [] none))) (c3 : CallOK Try.prog (CallRec.mk 35 [AV.ag (St.cs t), AV.c (AC.i (Ins.d i)), AV.ag (V4.cs x)] [] (Eff.mk (AV.ag (St.cs t1)) [] none))) (c4 : CallOK Try.prog (CallRec.mk 35 [AV.ag (St.cs t1), AV.c (AC.i (Ins.s i)), AV.ag (V4.cs y)] [] (Eff.mk (AV.ag (St.cs t2)) [] none))) :
    CallOK Try.prog ⟨76, [AV.ag (Ins.cs i), AV.ag (St.cs t), AV.c (AC.f 78 [])], [], ⟨AV.ag (St.cs t2), [], none⟩⟩ :=
  val_run 2000 [Eff.mk (AV.ag (V4.cs (V6.get (St.r t) (Int.toNat (Ins.d i))))) [] none, Eff.mk (AV.ag (V4.cs b)) [] none, Eff.mk (AV.tu [AT.ag (V4.cs x), AT.ag (V4.cs y), AT.c (AC.b q), AT.c (AC.i 0)]) [] none, Eff.mk (AV.ag (St.cs t1)) [] none, Eff.mk (AV.ag (St.cs t2)) [] none] [false, true] ([]) [(1, 5)] Try.func76 rfl rfl rfl rfl (by kernel_rfl) h (cr_same c0 (cr_cons c1 (cr_cons c2 (cr_cons c3 (cr_cons c4 cr_nil)))))
theorem fleftEq_w2 {i : Ins} {t : St} {t1 : St} {b : V4} {x : V4} {y : V4} {q : Bool} (h : (decide (0 ≤ Ins.d i) && decide (Ins.d i < 6) && (Nat.ble (7 + Int.toNat (Ins.d i) * 4 + 4) (List.length (St.cs t)) && (!!q && (!Ins.s i != -1 && true)))) = true) (c0 : Eff.mk (AV.ag (List.take 4 (List.drop (7 + Int.toNat (Ins.d i) * 4) (St.cs t)))) [] none = Eff.mk (AV.ag (V4.cs (V6.get (St.r t) (Int.toNat (Ins.d i))))) [] none) (c1 : CallOK Try.prog (CallRec.mk 81 [AV.ag (Ins.cs i), AV.ag (St.cs t)] [] (Eff.mk (AV.ag (V4.cs b)) [] none))) (c2 : CallOK Try.prog (CallRec.mk 78 [AV.ag (V4.cs (V6.get (St.r t) (Int.toNat (Ins.d i)))), AV.ag (V4.cs b)] [] (Eff.mk (AV.tu [AT.ag (V4.cs x), AT.ag (V4.cs y), AT.c (AC.b q), AT.c (AC.i 0)]) [] none))) (c3 : CallOK Try.prog (CallRec.mk 35 [AV.ag (St.cs t), AV.c (AC.i (Ins.d i)), AV.ag (V4.cs x)] [] (Eff.mk (AV.ag (St.cs t1)) [] none))) :
    CallOK Try.prog ⟨76, [AV.ag (Ins.cs i), AV.ag (St.cs t), AV.c (AC.f 78 [])], [], ⟨AV.ag (St.cs t1), [], none⟩⟩ :=
  val_run 2000 [Eff.mk (AV.ag (V4.cs (V6.get (St.r t) (Int.toNat (Ins.d i))))) [] none, Eff.mk (AV.ag (V4.cs b)) [] none, Eff.mk (AV.tu [AT.ag (V4.cs x), AT.ag (V4.cs y), AT.c (AC.b q), AT.c (AC.i 0)]) [] none, Eff.mk (AV.ag (St.cs t1)) [] none] [false, false] ([]) [(1, 5)] Try.func76 rfl rfl rfl rfl (by kernel_rfl) h (cr_same c0 (cr_cons c1 (cr_cons c2 (cr_cons c3 cr_nil))))
theorem fleftEq_all {i : Ins} {t : St} {t1 : St} {t2 : St} {b : V4} {x : V4} {y : V4} {q : Bool} {V : AV}
    (l0 : (!q) = true → (decide (0 ≤ Ins.d i) && decide (Ins.d i < 6)) = true ∧ (Nat.ble (7 + Int.toNat (Ins.d i) * 4 + 4) (List.length (St.cs t))) = true ∧ (Eff.mk (AV.ag (List.take 4 (List.drop (7 + Int.toNat (Ins.d i) * 4) (St.cs t)))) [] none = Eff.mk (AV.ag (V4.cs (V6.get (St.r t) (Int.toNat (Ins.d i))))) [] none) ∧ (CallOK Try.prog (CallRec.mk 81 [AV.ag (Ins.cs i), AV.ag (St.cs t)] [] (Eff.mk (AV.ag (V4.cs b)) [] none))) ∧ (CallOK Try.prog (CallRec.mk 78 [AV.ag (V4.cs (V6.get (St.r t) (Int.toNat (Ins.d i)))), AV.ag (V4.cs b)] [] (Eff.mk (AV.tu [AT.ag (V4.cs x), AT.ag (V4.cs y), AT.c (AC.b q), AT.c (AC.i 0)]) [] none))) ∧ (AV.ag (St.cs St.z) = V))
    (l1 : (!q) = false → (Ins.s i != -1) = true → (decide (0 ≤ Ins.d i) && decide (Ins.d i < 6)) = true ∧ (Nat.ble (7 + Int.toNat (Ins.d i) * 4 + 4) (List.length (St.cs t))) = true ∧ (Eff.mk (AV.ag (List.take 4 (List.drop (7 + Int.toNat (Ins.d i) * 4) (St.cs t)))) [] none = Eff.mk (AV.ag (V4.cs (V6.get (St.r t) (Int.toNat (Ins.d i))))) [] none) ∧ (CallOK Try.prog (CallRec.mk 81 [AV.ag (Ins.cs i), AV.ag (St.cs t)] [] (Eff.mk (AV.ag (V4.cs b)) [] none))) ∧ (CallOK Try.prog (CallRec.mk 78 [AV.ag (V4.cs (V6.get (St.r t) (Int.toNat (Ins.d i)))), AV.ag (V4.cs b)] [] (Eff.mk (AV.tu [AT.ag (V4.cs x), AT.ag (V4.cs y), AT.c (AC.b q), AT.c (AC.i 0)]) [] none))) ∧ (CallOK Try.prog (CallRec.mk 35 [AV.ag (St.cs t), AV.c (AC.i (Ins.d i)), AV.ag (V4.cs x)] [] (Eff.mk (AV.ag (St.cs t1)) [] none))) ∧ (CallOK Try.prog (CallRec.mk 35 [AV.ag (St.cs t1), AV.c (AC.i (Ins.s i)), AV.ag (V4.cs y)] [] (Eff.mk (AV.ag (St.cs t2)) [] none))) ∧ (AV.ag (St.cs t2) = V))
    (l2 : (!q) = false → (Ins.s i != -1) = false → (decide (0 ≤ Ins.d i) && decide (Ins.d i < 6)) = true ∧ (Nat.ble (7 + Int.toNat (Ins.d i) * 4 + 4) (List.length (St.cs t))) = true ∧ (Eff.mk (AV.ag (List.take 4 (List.drop (7 + Int.toNat (Ins.d i) * 4) (St.cs t)))) [] none = Eff.mk (AV.ag (V4.cs (V6.get (St.r t) (Int.toNat (Ins.d i))))) [] none) ∧ (CallOK Try.prog (CallRec.mk 81 [AV.ag (Ins.cs i), AV.ag (St.cs t)] [] (Eff.mk (AV.ag (V4.cs b)) [] none))) ∧ (CallOK Try.prog (CallRec.mk 78 [AV.ag (V4.cs (V6.get (St.r t) (Int.toNat (Ins.d i)))), AV.ag (V4.cs b)] [] (Eff.mk (AV.tu [AT.ag (V4.cs x), AT.ag (V4.cs y), AT.c (AC.b q), AT.c (AC.i 0)]) [] none))) ∧ (CallOK Try.prog (CallRec.mk 35 [AV.ag (St.cs t), AV.c (AC.i (Ins.d i)), AV.ag (V4.cs x)] [] (Eff.mk (AV.ag (St.cs t1)) [] none))) ∧ (AV.ag (St.cs t1) = V)) :
    CallOK Try.prog ⟨76, [AV.ag (Ins.cs i), AV.ag (St.cs t), AV.c (AC.f 78 [])], [], ⟨V, [], none⟩⟩ :=
  (tf (!q)).elim (fun h0 => (match l0 h0 with | ⟨o0, o1, c0, c1, c2, e⟩ => ok_eq (fleftEq_w0 (and_yes o0 (and_yes o1 (and_yes h0 rfl))) c0 c1 c2) e)) (fun h0 => (tf (Ins.s i != -1)).elim (fun h1 => (match l1 h0 h1 with | ⟨o0, o1, c0, c1, c2, c3, c4, e⟩ => ok_eq (fleftEq_w1 (and_yes o0 (and_yes o1 (and_yes (not_yes h0) (and_yes h1 rfl)))) c0 c1 c2 c3 c4) e)) (fun h1 => (match l2 h0 h1 with | ⟨o0, o1, c0, c1, c2, c3, e⟩ => ok_eq (fleftEq_w2 (and_yes o0 (and_yes o1 (and_yes (not_yes h0) (and_yes (not_yes h1) rfl)))) c0 c1 c2 c3) e)))
theorem fleftNl_w0 {i : Ins} {t : St} {b : V4} {x : V4} {y : V4} {q : Bool} (h : (decide (0 ≤ Ins.d i) && decide (Ins.d i < 6) && (Nat.ble (7 + Int.toNat (Ins.d i) * 4 + 4) (List.length (St.cs t)) && (!q && true))) = true) (c0 : Eff.mk (AV.ag (List.take 4 (List.drop (7 + Int.toNat (Ins.d i) * 4) (St.cs t)))) [] none = Eff.mk (AV.ag (V4.cs (V6.get (St.r t) (Int.toNat (Ins.d i))))) [] none) (c1 : CallOK Try.prog (CallRec.mk 81 [AV.ag (Ins.cs i), AV.ag (St.cs t)] [] (Eff.mk (AV.ag (V4.cs b)) [] none))) (c2 : CallOK Try.prog (CallRec.mk 79 [AV.ag (V4.cs (V6.get (St.r t) (Int.toNat (Ins.d i)))), AV.ag (V4.cs b)] [] (Eff.mk (AV.tu [AT.ag (V4.cs x), AT.ag (V4.cs y), AT.c (AC.b q), AT.c (AC.i 0)]) [] none))) :
    CallOK Try.prog ⟨76, [AV.ag (Ins.cs i), AV.ag (St.cs t), AV.c (AC.f 79 [])], [], ⟨AV.ag (St.cs St.z), [], none⟩⟩ :=
  val_run 2000 [Eff.mk (AV.ag (V4.cs (V6.get (St.r t) (Int.toNat (Ins.d i))))) [] none, Eff.mk (AV.ag (V4.cs b)) [] none, Eff.mk (AV.tu [AT.ag (V4.cs x), AT.ag (V4.cs y), AT.c (AC.b q), AT.c (AC.i 0)]) [] none] [true] ([]) [(1, 5)] Try.func76 rfl rfl rfl rfl (by kernel_rfl) h (cr_same c0 (cr_cons c1 (cr_cons c2 cr_nil)))
theorem fleftNl_w1 {i : Ins} {t : St} {t1 : St} {t2 : St} {b : V4} {x : V4} {y : V4} {q : Bool} (h : (decide (0 ≤ Ins.d i) && decide (Ins.d i < 6) && (Nat.ble (7 + Int.toNat (Ins.d i) * 4 + 4) (List.length (St.cs t)) && (!!q && (Ins.s i != -1 && true)))) = true) (c0 : Eff.mk (AV.ag (List.take 4 (List.drop (7 + Int.toNat (Ins.d i) * 4) (St.cs t)))) [] none = Eff.mk (AV.ag (V4.cs (V6.get (St.r t) (Int.toNat (Ins.d i))))) [] none) (c1 : CallOK Try.prog (CallRec.mk 81 [AV.ag (Ins.cs i), AV.ag (St.cs t)] [] (Eff.mk (AV.ag (V4.cs b)) [] none))) (c2 : CallOK Try.prog (CallRec.mk 79 [AV.ag (V4.cs (V6.get (St.r t) (Int.toNat (Ins.d i)))), AV.ag (V4.cs b)] [] (Eff.mk (AV.tu [AT.ag (V4.cs x), AT.ag (V4.cs y), AT.c (AC.b q), AT.c (AC.i 0)]) [] none))) (c3 : CallOK Try.prog (CallRec.mk 35 [AV.ag (St.cs t), AV.c (AC.i (Ins.d i)), AV.ag (V4.cs x)] [] (Eff.mk (AV.ag (St.cs t1)) [] none))) (c4 : CallOK Try.prog (CallRec.mk 35 [AV.ag (St.cs t1), AV.c (AC.i (Ins.s i)), AV.ag (V4.cs y)] [] (Eff.mk (AV.ag (St.cs t2)) [] none))) :
    CallOK Try.prog ⟨76, [AV.ag (Ins.cs i), AV.ag (St.cs t), AV.c (AC.f 79 [])], [], ⟨AV.ag (St.cs t2), [], none⟩⟩ :=
  val_run 2000 [Eff.mk (AV.ag (V4.cs (V6.get (St.r t) (Int.toNat (Ins.d i))))) [] none, Eff.mk (AV.ag (V4.cs b)) [] none, Eff.mk (AV.tu [AT.ag (V4.cs x), AT.ag (V4.cs y), AT.c (AC.b q), AT.c (AC.i 0)]) [] none, Eff.mk (AV.ag (St.cs t1)) [] none, Eff.mk (AV.ag (St.cs t2)) [] none] [false, true] ([]) [(1, 5)] Try.func76 rfl rfl rfl rfl (by kernel_rfl) h (cr_same c0 (cr_cons c1 (cr_cons c2 (cr_cons c3 (cr_cons c4 cr_nil)))))
theorem fleftNl_w2 {i : Ins} {t : St} {t1 : St} {b : V4} {x : V4} {y : V4} {q : Bool} (h : (decide (0 ≤ Ins.d i) && decide (Ins.d i < 6) && (Nat.ble (7 + Int.toNat (Ins.d i) * 4 + 4) (List.length (St.cs t)) && (!!q && (!Ins.s i != -1 && true)))) = true) (c0 : Eff.mk (AV.ag (List.take 4 (List.drop (7 + Int.toNat (Ins.d i) * 4) (St.cs t)))) [] none = Eff.mk (AV.ag (V4.cs (V6.get (St.r t) (Int.toNat (Ins.d i))))) [] none) (c1 : CallOK Try.prog (CallRec.mk 81 [AV.ag (Ins.cs i), AV.ag (St.cs t)] [] (Eff.mk (AV.ag (V4.cs b)) [] none))) (c2 : CallOK Try.prog (CallRec.mk 79 [AV.ag (V4.cs (V6.get (St.r t) (Int.toNat (Ins.d i)))), AV.ag (V4.cs b)] [] (Eff.mk (AV.tu [AT.ag (V4.cs x), AT.ag (V4.cs y), AT.c (AC.b q), AT.c (AC.i 0)]) [] none))) (c3 : CallOK Try.prog (CallRec.mk 35 [AV.ag (St.cs t), AV.c (AC.i (Ins.d i)), AV.ag (V4.cs x)] [] (Eff.mk (AV.ag (St.cs t1)) [] none))) :
    CallOK Try.prog ⟨76, [AV.ag (Ins.cs i), AV.ag (St.cs t), AV.c (AC.f 79 [])], [], ⟨AV.ag (St.cs t1), [], none⟩⟩ :=
  val_run 2000 [Eff.mk (AV.ag (V4.cs (V6.get (St.r t) (Int.toNat (Ins.d i))))) [] none, Eff.mk (AV.ag (V4.cs b)) [] none, Eff.mk (AV.tu [AT.ag (V4.cs x), AT.ag (V4.cs y), AT.c (AC.b q), AT.c (AC.i 0)]) [] none, Eff.mk (AV.ag (St.cs t1)) [] none] [false, false] ([]) [(1, 5)] Try.func76 rfl rfl rfl rfl (by kernel_rfl) h (cr_same c0 (cr_cons c1 (cr_cons c2 (cr_cons c3 cr_nil))))
theorem fleftNl_all {i : Ins} {t : St} {t1 : St} {t2 : St} {b : V4} {x : V4} {y : V4} {q : Bool} {V : AV}
    (l0 : (!q) = true → (decide (0 ≤ Ins.d i) && decide (Ins.d i < 6)) = true ∧ (Nat.ble (7 + Int.toNat (Ins.d i) * 4 + 4) (List.length (St.cs t))) = true ∧ (Eff.mk (AV.ag (List.take 4 (List.drop (7 + Int.toNat (Ins.d i) * 4) (St.cs t)))) [] none = Eff.mk (AV.ag (V4.cs (V6.get (St.r t) (Int.toNat (Ins.d i))))) [] none) ∧ (CallOK Try.prog (CallRec.mk 81 [AV.ag (Ins.cs i), AV.ag (St.cs t)] [] (Eff.mk (AV.ag (V4.cs b)) [] none))) ∧ (CallOK Try.prog (CallRec.mk 79 [AV.ag (V4.cs (V6.get (St.r t) (Int.toNat (Ins.d i)))), AV.ag (V4.cs b)] [] (Eff.mk (AV.tu [AT.ag (V4.cs x), AT.ag (V4.cs y), AT.c (AC.b q), AT.c (AC.i 0)]) [] none))) ∧ (AV.ag (St.cs St.z) = V))
    (l1 : (!q) = false → (Ins.s i != -1) = true → (decide (0 ≤ Ins.d i) && decide (Ins.d i < 6)) = true ∧ (Nat.ble (7 + Int.toNat (Ins.d i) * 4 + 4) (List.length (St.cs t))) = true ∧ (Eff.mk (AV.ag (List.take 4 (List.drop (7 + Int.toNat (Ins.d i) * 4) (St.cs t)))) [] none = Eff.mk (AV.ag (V4.cs (V6.get (St.r t) (Int.toNat (Ins.d i))))) [] none) ∧ (CallOK Try.prog (CallRec.mk 81 [AV.ag (Ins.cs i), AV.ag (St.cs t)] [] (Eff.mk (AV.ag (V4.cs b)) [] none))) ∧ (CallOK Try.prog (CallRec.mk 79 [AV.ag (V4.cs (V6.get (St.r t) (Int.toNat (Ins.d i)))), AV.ag (V4.cs b)] [] (Eff.mk (AV.tu [AT.ag (V4.cs x), AT.ag (V4.cs y), AT.c (AC.b q), AT.c (AC.i 0)]) [] none))) ∧ (CallOK Try.prog (CallRec.mk 35 [AV.ag (St.cs t), AV.c (AC.i (Ins.d i)), AV.ag (V4.cs x)] [] (Eff.mk (AV.ag (St.cs t1)) [] none))) ∧ (CallOK Try.prog (CallRec.mk 35 [AV.ag (St.cs t1), AV.c (AC.i (Ins.s i)), AV.ag (V4.cs y)] [] (Eff.mk (AV.ag (St.cs t2)) [] none))) ∧ (AV.ag (St.cs t2) = V))
    (l2 : (!q) = false → (Ins.s i != -1) = false → (decide (0 ≤ Ins.d i) && decide (Ins.d i < 6)) = true ∧ (Nat.ble (7 + Int.toNat (Ins.d i) * 4 + 4) (List.length (St.cs t))) = true ∧ (Eff.mk (AV.ag (List.take 4 (List.drop (7 + Int.toNat (Ins.d i) * 4) (St.cs t)))) [] none = Eff.mk (AV.ag (V4.cs (V6.get (St.r t) (Int.toNat (Ins.d i))))) [] none) ∧ (CallOK Try.prog (CallRec.mk 81 [AV.ag (Ins.cs i), AV.ag (St.cs t)] [] (Eff.mk (AV.ag (V4.cs b)) [] none))) ∧ (CallOK Try.prog (CallRec.mk 79 [AV.ag (V4.cs (V6.get (St.r t) (Int.toNat (Ins.d i)))), AV.ag (V4.cs b)] [] (Eff.mk (AV.tu [AT.ag (V4.cs x), AT.ag (V4.cs y), AT.c (AC.b q), AT.c (AC.i 0)]) [] none))) ∧ (CallOK Try.prog (CallRec.mk 35 [AV.ag (St.cs t), AV.c (AC.i (Ins.d i)), AV.ag (V4.cs x)] [] (Eff.mk (AV.ag (St.cs t1)) [] none))) ∧ (AV.ag (St.cs t1) = V)) :
    CallOK Try.prog ⟨76, [AV.ag (Ins.cs i), AV.ag (St.cs t), AV.c (AC.f 79 [])], [], ⟨V, [], none⟩⟩ :=
  (tf (!q)).elim (fun h0 => (match l0 h0 with | ⟨o0, o1, c0, c1, c2, e⟩ => ok_eq (fleftNl_w0 (and_yes o0 (and_yes o1 (and_yes h0 rfl))) c0 c1 c2) e)) (fun h0 => (tf (Ins.s i != -1)).elim (fun h1 => (match l1 h0 h1 with | ⟨o0, o1, c0, c1, c2, c3, c4, e⟩ => ok_eq (fleftNl_w1 (and_yes o0 (and_yes o1 (and_yes (not_yes h0) (and_yes h1 rfl)))) c0 c1 c2 c3 c4) e)) (fun h1 => (match l2 h0 h1 with | ⟨o0, o1, c0, c1, c2, c3, e⟩ => ok_eq (fleftNl_w2 (and_yes o0 (and_yes o1 (and_yes (not_yes h0) (and_yes (not_yes h1) rfl)))) c0 c1 c2 c3) e)))
theorem fleftLe_w0 {i : Ins} {t : St} {b : V4} {x : V4} {y : V4} {q : Bool} (h : (decide (0 ≤ Ins.d i) && decide (Ins.d i < 6) && (Nat.ble (7 + Int.toNat (Ins.d i) * 4 + 4) (List.length (St.cs t)) && (!q && true))) = true) (c0 : Eff.mk (AV.ag (List.take 4 (List.drop (7 + Int.toNat (Ins.d i) * 4) (St.cs t)))) [] none = Eff.mk (AV.ag (V4.cs (V6.get (St.r t) (Int.toNat (Ins.d i))))) [] none) (c1 : CallOK Try.prog (CallRec.mk 81 [AV.ag (Ins.cs i), AV.ag (St.cs t)] [] (Eff.mk (AV.ag (V4.cs b)) [] none))) (c2 : CallOK Try.prog (CallRec.mk 80 [AV.ag (V4.cs (V6.get (St.r t) (Int.toNat (Ins.d i)))), AV.ag (V4.cs b)] [] (Eff.mk (AV.tu [AT.ag (V4.cs x), AT.ag (V4.cs y), AT.c (AC.b q), AT.c (AC.i 0)]) [] none))) :
    CallOK Try.prog ⟨76, [AV.ag (Ins.cs i), AV.ag (St.cs t), AV.c (AC.f 80 [])], [], ⟨AV.ag (St.cs St.z), [], none⟩⟩ :=
  val_run 2000 [Eff.mk (AV.ag (V4.cs (V6.get (St.r t) (Int.toNat (Ins.d i))))) [] none, Eff.mk (AV.ag (V4.cs b)) [] none, Eff.mk (AV.tu [AT.ag (V4.cs x), AT.ag (V4.cs y), AT.c (AC.b q), AT.c (AC.i 0)]) [] none] [true] ([]) [(1, 5)] Try.func76 rfl rfl rfl rfl (by kernel_rfl) h (cr_same c0 (cr_cons c1 (cr_cons c2 cr_nil)))
theorem fleftLe_w1 {i : Ins} {t : St} {t1 : St} {t2 : St} {b : V4} {x : V4} {y : V4} {q : Bool} (h : (decide (0 ≤ Ins.d i) && decide (Ins.d i < 6) && (Nat.ble (7 + Int.toNat (Ins.d i) * 4 + 4) (List.length (St.cs t)) && (!!q && (Ins.s i != -1 && true)))) = true) (c0 : Eff.mk (AV.ag (List.take 4 (List.drop (7 + Int.toNat (Ins.d i) * 4) (St.cs t)))) [] none = Eff.mk (AV.ag (V4.cs (V6.get (St.r t) (Int.toNat (Ins.d i))))) [] none) (c1 : CallOK Try.prog (CallRec.mk 81 [AV.ag (Ins.cs i), AV.ag (St.cs t)] [] (Eff.mk (AV.ag (V4.cs b)) [] none))) (c2 : CallOK Try.prog (CallRec.mk 80 [AV.ag (V4.cs (V6.get (St.r t) (Int.toNat (Ins.d i)))), AV.ag (V4.cs b)] [] (Eff.mk (AV.tu [AT.ag (V4.cs x), AT.ag (V4.cs y), AT.c (AC.b q), AT.c (AC.i 0)]) [] none))) (c3 : CallOK Try.prog (CallRec.mk 35 [AV.ag (St.cs t), AV.c (AC.i (Ins.d i)), AV.ag (V4.cs x)] [] (Eff.mk (AV.ag (St.cs t1)) [] none))) (c4 : CallOK Try.prog (CallRec.mk 35 [AV.ag (St.cs t1), AV.c (AC.i (Ins.s i)), AV.ag (V4.cs y)] [] (Eff.mk (AV.ag (St.cs t2)) [] none))) :
    CallOK Try.prog ⟨76, [AV.ag (Ins.cs i), AV.ag (St.cs t), AV.c (AC.f 80 [])], [], ⟨AV.ag (St.cs t2), [], none⟩⟩ :=
  val_run 2000 [Eff.mk (AV.ag (V4.cs (V6.get (St.r t) (Int.toNat (Ins.d i))))) [] none, Eff.mk (AV.ag (V4.cs b)) [] none, Eff.mk (AV.tu [AT.ag (V4.cs x), AT.ag (V4.cs y), AT.c (AC.b q), AT.c (AC.i 0)]) [] none, Eff.mk (AV.ag (St.cs t1)) [] none, Eff.mk (AV.ag (St.cs t2)) [] none] [false, true] ([]) [(1, 5)] Try.func76 rfl rfl rfl rfl (by kernel_rfl) h (cr_same c0 (cr_cons c1 (cr_cons c2 (cr_cons c3 (cr_cons c4 cr_nil)))))
theorem fleftLe_w2 {i : Ins} {t : St} {t1 : St} {b : V4} {x : V4} {y : V4} {q : Bool} (h : (decide (0 ≤ Ins.d i) && decide (Ins.d i < 6) && (Nat.ble (7 + Int.toNat (Ins.d i) * 4 + 4) (List.length (St.cs t)) && (!!q && (!Ins.s i != -1 && true)))) = true) (c0 : Eff.mk (AV.ag (List.take 4 (List.drop (7 + Int.toNat (Ins.d i) * 4) (St.cs t)))) [] none = Eff.mk (AV.ag (V4.cs (V6.get (St.r t) (Int.toNat (Ins.d i))))) [] none) (c1 : CallOK Try.prog (CallRec.mk 81 [AV.ag (Ins.cs i), AV.ag (St.cs t)] [] (Eff.mk (AV.ag (V4.cs b)) [] none))) (c2 : CallOK Try.prog (CallRec.mk 80 [AV.ag (V4.cs (V6.get (St.r t) (Int.toNat (Ins.d i)))), AV.ag (V4.cs b)] [] (Eff.mk (AV.tu [AT.ag (V4.cs x), AT.ag (V4.cs y), AT.c (AC.b q), AT.c (AC.i 0)]) [] none))) (c3 : CallOK Try.prog (CallRec.mk 35 [AV.ag (St.cs t), AV.c (AC.i (Ins.d i)), AV.ag (V4.cs x)] [] (Eff.mk (AV.ag (St.cs t1)) [] none))) :
    CallOK Try.prog ⟨76, [AV.ag (Ins.cs i), AV.ag (St.cs t), AV.c (AC.f 80 [])], [], ⟨AV.ag (St.cs t1), [], none⟩⟩ :=
  val_run 2000 [Eff.mk (AV.ag (V4.cs (V6.get (St.r t) (Int.toNat (Ins.d i))))) [] none, Eff.mk (AV.ag (V4.cs b)) [] none, Eff.mk (AV.tu [AT.ag (V4.cs x), AT.ag (V4.cs y), AT.c (AC.b q), AT.c (AC.i 0)]) [] none, Eff.mk (AV.ag (St.cs t1)) [] none] [false, false] ([]) [(1, 5)] Try.func76 rfl rfl rfl rfl (by kernel_rfl) h (cr_same c0 (cr_cons c1 (cr_cons c2 (cr_cons c3 cr_nil))))
theorem fleftLe_all {i : Ins} {t : St} {t1 : St} {t2 : St} {b : V4} {x : V4} {y : V4} {q : Bool} {V : AV}
    (l0 : (!q) = true → (decide (0 ≤ Ins.d i) && decide (Ins.d i < 6)) = true ∧ (Nat.ble (7 + Int.toNat (Ins.d i) * 4 + 4) (List.length (St.cs t))) = true ∧ (Eff.mk (AV.ag (List.take 4 (List.drop (7 + Int.toNat (Ins.d i) * 4) (St.cs t)))) [] none = Eff.mk (AV.ag (V4.cs (V6.get (St.r t) (Int.toNat (Ins.d i))))) [] none) ∧ (CallOK Try.prog (CallRec.mk 81 [AV.ag (Ins.cs i), AV.ag (St.cs t)] [] (Eff.mk (AV.ag (V4.cs b)) [] none))) ∧ (CallOK Try.prog (CallRec.mk 80 [AV.ag (V4.cs (V6.get (St.r t) (Int.toNat (Ins.d i)))), AV.ag (V4.cs b)] [] (Eff.mk (AV.tu [AT.ag (V4.cs x), AT.ag (V4.cs y), AT.c (AC.b q), AT.c (AC.i 0)]) [] none))) ∧ (AV.ag (St.cs St.z) = V))
    (l1 : (!q) = false → (Ins.s i != -1) = true → (decide (0 ≤ Ins.d i) && decide (Ins.d i < 6)) = true ∧ (Nat.ble (7 + Int.toNat (Ins.d i) * 4 + 4) (List.length (St.cs t))) = true ∧ (Eff.mk (AV.ag (List.take 4 (List.drop (7 + Int.toNat (Ins.d i) * 4) (St.cs t)))) [] none = Eff.mk (AV.ag (V4.cs (V6.get (St.r t) (Int.toNat (Ins.d i))))) [] none) ∧ (CallOK Try.prog (CallRec.mk 81 [AV.ag (Ins.cs i), AV.ag (St.cs t)] [] (Eff.mk (AV.ag (V4.cs b)) [] none))) ∧ (CallOK Try.prog (CallRec.mk 80 [AV.ag (V4.cs (V6.get (St.r t) (Int.toNat (Ins.d i)))), AV.ag (V4.cs b)] [] (Eff.mk (AV.tu [AT.ag (V4.cs x), AT.ag (V4.cs y), AT.c (AC.b q), AT.c (AC.i 0)]) [] none))) ∧ (CallOK Try.prog (CallRec.mk 35 [AV.ag (St.cs t), AV.c (AC.i (Ins.d i)), AV.ag (V4.cs x)] [] (Eff.mk (AV.ag (St.cs t1)) [] none))) ∧ (CallOK Try.prog (CallRec.mk 35 [AV.ag (St.cs t1), AV.c (AC.i (Ins.s i)), AV.ag (V4.cs y)] [] (Eff.mk (AV.ag (St.cs t2)) [] none))) ∧ (AV.ag (St.cs t2) = V))
    (l2 : (!q) = false → (Ins.s i != -1) = false → (decide (0 ≤ Ins.d i) && decide (Ins.d i < 6)) = true ∧ (Nat.ble (7 + Int.toNat (Ins.d i) * 4 + 4) (List.length (St.cs t))) = true ∧ (Eff.mk (AV.ag (List.take 4 (List.drop (7 + Int.toNat (Ins.d i) * 4) (St.cs t)))) [] none = Eff.mk (AV.ag (V4.cs (V6.get (St.r t) (Int.toNat (Ins.d i))))) [] none) ∧ (CallOK Try.prog (CallRec.mk 81 [AV.ag (Ins.cs i), AV.ag (St.cs t)] [] (Eff.mk (AV.ag (V4.cs b)) [] none))) ∧ (CallOK Try.prog (CallRec.mk 80 [AV.ag (V4.cs (V6.get (St.r t) (Int.toNat (Ins.d i)))), AV.ag (V4.cs b)] [] (Eff.mk (AV.tu [AT.ag (V4.cs x), AT.ag (V4.cs y), AT.c (AC.b q), AT.c (AC.i 0)]) [] none))) ∧ (CallOK Try.prog (CallRec.mk 35 [AV.ag (St.cs t), AV.c (AC.i (Ins.d i)), AV.ag (V4.cs x)] [] (Eff.mk (AV.ag (St.cs t1)) [] none))) ∧ (AV.ag (St.cs t1) = V)) :
    CallOK Try.prog ⟨76, [AV.ag (Ins.cs i), AV.ag (St.cs t), AV.c (AC.f 80 [])], [], ⟨V, [], none⟩⟩ :=
  (tf (!q)).elim (fun h0 => (match l0 h0 with | ⟨o0, o1, c0, c1, c2, e⟩ => ok_eq (fleftLe_w0 (and_yes o0 (and_yes o1 (and_yes h0 rfl))) c0 c1 c2) e)) (fun h0 => (tf (Ins.s i != -1)).elim (fun h1 => (match l1 h0 h1 with | ⟨o0, o1, c0, c1, c2, c3, c4, e⟩ => ok_eq (fleftLe_w1 (and_yes o0 (and_yes o1 (and_yes (not_yes h0) (and_yes h1 rfl)))) c0 c1 c2 c3 c4) e)) (fun h1 => (match l2 h0 h1 with | ⟨o0, o1, c0, c1, c2, c3, e⟩ => ok_eq (fleftLe_w2 (and_yes o0 (and_yes o1 (and_yes (not_yes h0) (and_yes (not_yes h1) rfl)))) c0 c1 c2 c3) e)))
theorem ftTop_w0 {i : Ins} {t : St} {u : V6 Bool} {C : Cx} {R : Ending → World → Prop} (c0 : CallOK Try.prog (CallRec.mk 57 [AV.ag (Ins.cs i)] [] (Eff.mk (AV.ag (bcs u)) [] none))) (lo : Kn.Low ⟨[(2, AV.c (AC.w 0)), (3, AV.c (AC.w 1)), (8, AV.ag (bcs u)), (9, AV.c (AC.i 0))], [(0, Ent.mk true (Ins.cs i) 0), (1, Ent.mk true (St.cs t) 0)], 2⟩) (hF : ∀ k, C.F k → k < 2) (z : ART Try.prog 45 C Try.f45.ntmps (cutAt Try.f45 0) ⟨[(2, AV.c (AC.w 0)), (3, AV.c (AC.w 1)), (8, AV.ag (bcs u)), (9, AV.c (AC.i 0))], [(0, Ent.mk true (Ins.cs i) 0), (1, Ent.mk true (St.cs t) 0)], 2⟩ R) :
    ART Try.prog 45 C Try.f45.ntmps ([Item.code (bodyOf Try.f45)]) (Kn.start [AV.ag (Ins.cs i), AV.ag (St.cs t)] [] 0) R :=
  run_cut ⟨[(2, AV.c (AC.w 0)), (3, AV.c (AC.w 1)), (8, AV.ag (bcs u)), (9, AV.c (AC.i 0))], [(0, Ent.mk true (Ins.cs i) 0), (1, Ent.mk true (St.cs t) 0)], 2⟩ 2000 [Eff.mk (AV.ag (bcs u)) [] none] [] ([true]) [] Try.func45 (by kernel_rfl) rfl (cr_cons c0 cr_nil) lo hF z
theorem ftRound_w0 {i : Ins} {t : St} {u : V6 Bool} {j : Int} {w : World} {β : Bs} {n : Nat} (h : (decide (j < 6) && (AC.isB (Option.getD (bcs u)[Int.toNat j * 1]? (AC.b false)) && Nat.blt (Int.toNat j * 1) (List.length (bcs u)) && (decide (0 ≤ j) && decide (j < 6)) && (V6.get u (Int.toNat j) && (decide (0 ≤ j) && decide (j < 6) && (AC.isB (Option.getD (St.cs t)[1 + Int.toNat j * 1]? (AC.b false)) && Nat.blt (1 + Int.toNat j * 1) (List.length (St.cs t)) && (!V6.get (St.s t) (Int.toNat j) && true)))))) = true) (c0 : Eff.mk (AV.c (AC.b (AC.asB (Option.getD (bcs u)[Int.toNat j * 1]? (AC.b false))))) [] none = Eff.mk (AV.c (AC.b (V6.get u (Int.toNat j)))) [] none) (c1 : Eff.mk (AV.c (AC.b (AC.asB (Option.getD (St.cs t)[1 + Int.toNat j * 1]? (AC.b false))))) [] none = Eff.mk (AV.c (AC.b (V6.get (St.s t) (Int.toNat j)))) [] none) :
    ART Try.prog 45 (cx w β n []) Try.f45.ntmps (cutAt Try.f45 0) (Kn.mk [(2, AV.c (AC.w 0)), (3, AV.c (AC.w 1)), (8, AV.ag (bcs u)), (9, AV.c (AC.i j))] [(0, Ent.mk true (Ins.cs i) 0), (1, Ent.mk true (St.cs t) 0)] 2) (REff w β ⟨AV.c (AC.i 1), [], none⟩) :=
  run_eff [] (none) 2000 [Eff.mk (AV.c (AC.b (V6.get u (Int.toNat j)))) [] none, Eff.mk (AV.c (AC.b (V6.get (St.s t) (Int.toNat j)))) [] none] [true, true, true] ([true]) [(3, 1), (4, 5)] Try.func45 (ekeys0 rfl n) (by kernel_rfl) h (cr_same c0 (cr_same c1 cr_nil))
theorem ftRound_w1 {i : Ins} {t : St} {u : V6 Bool} {j : Int} {C : Cx} {R : Ending → World → Prop} (h : (decide (j < 6) && (AC.isB (Option.getD (bcs u)[Int.toNat j * 1]? (AC.b false)) && Nat.blt (Int.toNat j * 1) (List.length (bcs u)) && (decide (0 ≤ j) && decide (j < 6)) && (V6.get u (Int.toNat j) && (decide (0 ≤ j) && decide (j < 6) && (AC.isB (Option.getD (St.cs t)[1 + Int.toNat j * 1]? (AC.b false)) && Nat.blt (1 + Int.toNat j * 1) (List.length (St.cs t)) && (!!V6.get (St.s t) (Int.toNat j) && true)))))) = true) (c0 : Eff.mk (AV.c (AC.b (AC.asB (Option.getD (bcs u)[Int.toNat j * 1]? (AC.b false))))) [] none = Eff.mk (AV.c (AC.b (V6.get u (Int.toNat j)))) [] none) (c1 : Eff.mk (AV.c (AC.b (AC.asB (Option.getD (St.cs t)[1 + Int.toNat j * 1]? (AC.b false))))) [] none = Eff.mk (AV.c (AC.b (V6.get (St.s t) (Int.toNat j)))) [] none) (lo : Kn.Low ⟨[(2, AV.c (AC.w 0)), (3, AV.c (AC.w 1)), (8, AV.ag (bcs u)), (9, AV.c (AC.i (IntKind.wrap IntKind.i64 (j + 1))))], [(0, Ent.mk true (Ins.cs i) 0), (1, Ent.mk true (St.cs t) 0)], 2⟩) (hF : ∀ k, C.F k → k < 2) (z : ART Try.prog 45 C Try.f45.ntmps (cutAt Try.f45 0) ⟨[(2, AV.c (AC.w 0)), (3, AV.c (AC.w 1)), (8, AV.ag (bcs u)), (9, AV.c (AC.i (IntKind.wrap IntKind.i64 (j + 1))))], [(0, Ent.mk true (Ins.cs i) 0), (1, Ent.mk true (St.cs t) 0)], 2⟩ R) :
    ART Try.prog 45 C Try.f45.ntmps (cutAt Try.f45 0) (Kn.mk [(2, AV.c (AC.w 0)), (3, AV.c (AC.w 1)), (8, AV.ag (bcs u)), (9, AV.c (AC.i j))] [(0, Ent.mk true (Ins.cs i) 0), (1, Ent.mk true (St.cs t) 0)] 2) R :=
  run_cut ⟨[(2, AV.c (AC.w 0)), (3, AV.c (AC.w 1)), (8, AV.ag (bcs u)), (9, AV.c (AC.i (IntKind.wrap IntKind.i64 (j + 1))))], [(0, Ent.mk true (Ins.cs i) 0), (1, Ent.mk true (St.cs t) 0)], 2⟩ 2000 [Eff.mk (AV.c (AC.b (V6.get u (Int.toNat j)))) [] none, Eff.mk (AV.c (AC.b (V6.get (St.s t) (Int.toNat j)))) [] none] [true, true, false] ([true]) [(3, 1), (4, 5)] Try.func45 (by kernel_rfl) h (cr_same c0 (cr_same c1 cr_nil)) lo hF z
theorem ftRound_w2 {i : Ins} {t : St} {u : V6 Bool} {j : Int} {C : Cx} {R : Ending → World → Prop} (h : (decide (j < 6) && (AC.isB (Option.getD (bcs u)[Int.toNat j * 1]? (AC.b false)) && Nat.blt (Int.toNat j * 1) (List.length (bcs u)) && (decide (0 ≤ j) && decide (j < 6)) && (!V6.get u (Int.toNat j) && true))) = true) (c0 : Eff.mk (AV.c (AC.b (AC.asB (Option.getD (bcs u)[Int.toNat j * 1]? (AC.b false))))) [] none = Eff.mk (AV.c (AC.b (V6.get u (Int.toNat j)))) [] none) (lo : Kn.Low ⟨[(2, AV.c (AC.w 0)), (3, AV.c (AC.w 1)), (8, AV.ag (bcs u)), (9, AV.c (AC.i (IntKind.wrap IntKind.i64 (j + 1))))], [(0, Ent.mk true (Ins.cs i) 0), (1, Ent.mk true (St.cs t) 0)], 2⟩) (hF : ∀ k, C.F k → k < 2) (z : ART Try.prog 45 C Try.f45.ntmps (cutAt Try.f45 0) ⟨[(2, AV.c (AC.w 0)), (3, AV.c (AC.w 1)), (8, AV.ag (bcs u)), (9, AV.c (AC.i (IntKind.wrap IntKind.i64 (j + 1))))], [(0, Ent.mk true (Ins.cs i) 0), (1, Ent.mk true (St.cs t) 0)], 2⟩ R) :
    ART Try.prog 45 C Try.f45.ntmps (cutAt Try.f45 0) (Kn.mk [(2, AV.c (AC.w 0)), (3, AV.c (AC.w 1)), (8, AV.ag (bcs u)), (9, AV.c (AC.i j))] [(0, Ent.mk true (Ins.cs i) 0), (1, Ent.mk true (St.cs t) 0)] 2) R :=
  run_cut ⟨[(2, AV.c (AC.w 0)), (3, AV.c (AC.w 1)), (8, AV.ag (bcs u)), (9, AV.c (AC.i (IntKind.wrap IntKind.i64 (j + 1))))], [(0, Ent.mk true (Ins.cs i) 0), (1, Ent.mk true (St.cs t) 0)], 2⟩ 2000 [Eff.mk (AV.c (AC.b (V6.get u (Int.toNat j)))) [] none] [true, false, false] ([true]) [(3, 1), (4, 5)] Try.func45 (by kernel_rfl) h (cr_same c0 cr_nil) lo hF z
theorem ftRound_all {i : Ins} {t : St} {u : V6 Bool} {j : Int} {w : World} {β : Bs} {n : Nat} {E : Eff} (hn : n ≤ 2)
    (l0 : (V6.get u (Int.toNat j)) = true → (!V6.get (St.s t) (Int.toNat j)) = true → (decide (j < 6)) = true ∧ (AC.isB (Option.getD (bcs u)[Int.toNat j * 1]? (AC.b false)) && Nat.blt (Int.toNat j * 1) (List.length (bcs u)) && (decide (0 ≤ j) && decide (j < 6))) = true ∧ (decide (0 ≤ j) && decide (j < 6)) = true ∧ (AC.isB (Option.getD (St.cs t)[1 + Int.toNat j * 1]? (AC.b false)) && Nat.blt (1 + Int.toNat j * 1) (List.length (St.cs t))) = true ∧ (Eff.mk (AV.c (AC.b (AC.asB (Option.getD (bcs u)[Int.toNat j * 1]? (AC.b false))))) [] none = Eff.mk (AV.c (AC.b (V6.get u (Int.toNat j)))) [] none) ∧ (Eff.mk (AV.c (AC.b (AC.asB (Option.getD (St.cs t)[1 + Int.toNat j * 1]? (AC.b false))))) [] none = Eff.mk (AV.c (AC.b (V6.get (St.s t) (Int.toNat j)))) [] none) ∧ ((⟨AV.c (AC.i 1), [], none⟩ : Eff) = E))
    (l1 : (V6.get u (Int.toNat j)) = true → (!V6.get (St.s t) (Int.toNat j)) = false → (decide (j < 6)) = true ∧ (AC.isB (Option.getD (bcs u)[Int.toNat j * 1]? (AC.b false)) && Nat.blt (Int.toNat j * 1) (List.length (bcs u)) && (decide (0 ≤ j) && decide (j < 6))) = true ∧ (decide (0 ≤ j) && decide (j < 6)) = true ∧ (AC.isB (Option.getD (St.cs t)[1 + Int.toNat j * 1]? (AC.b false)) && Nat.blt (1 + Int.toNat j * 1) (List.length (St.cs t))) = true ∧ (Eff.mk (AV.c (AC.b (AC.asB (Option.getD (bcs u)[Int.toNat j * 1]? (AC.b false))))) [] none = Eff.mk (AV.c (AC.b (V6.get u (Int.toNat j)))) [] none) ∧ (Eff.mk (AV.c (AC.b (AC.asB (Option.getD (St.cs t)[1 + Int.toNat j * 1]? (AC.b false))))) [] none = Eff.mk (AV.c (AC.b (V6.get (St.s t) (Int.toNat j)))) [] none) ∧ Kn.Low ⟨[(2, AV.c (AC.w 0)), (3, AV.c (AC.w 1)), (8, AV.ag (bcs u)), (9, AV.c (AC.i (IntKind.wrap IntKind.i64 (j + 1))))], [(0, Ent.mk true (Ins.cs i) 0), (1, Ent.mk true (St.cs t) 0)], 2⟩ ∧ ART Try.prog 45 (cx w β n []) Try.f45.ntmps (cutAt Try.f45 0) ⟨[(2, AV.c (AC.w 0)), (3, AV.c (AC.w 1)), (8, AV.ag (bcs u)), (9, AV.c (AC.i (IntKind.wrap IntKind.i64 (j + 1))))], [(0, Ent.mk true (Ins.cs i) 0), (1, Ent.mk true (St.cs t) 0)], 2⟩ (REff w β E))
    (l2 : (V6.get u (Int.toNat j)) = false → (decide (j < 6)) = true ∧ (AC.isB (Option.getD (bcs u)[Int.toNat j * 1]? (AC.b false)) && Nat.blt (Int.toNat j * 1) (List.length (bcs u)) && (decide (0 ≤ j) && decide (j < 6))) = true ∧ (Eff.mk (AV.c (AC.b (AC.asB (Option.getD (bcs u)[Int.toNat j * 1]? (AC.b false))))) [] none = Eff.mk (AV.c (AC.b (V6.get u (Int.toNat j)))) [] none) ∧ Kn.Low ⟨[(2, AV.c (AC.w 0)), (3, AV.c (AC.w 1)), (8, AV.ag (bcs u)), (9, AV.c (AC.i (IntKind.wrap IntKind.i64 (j + 1))))], [(0, Ent.mk true (Ins.cs i) 0), (1, Ent.mk true (St.cs t) 0)], 2⟩ ∧ ART Try.prog 45 (cx w β n []) Try.f45.ntmps (cutAt Try.f45 0) ⟨[(2, AV.c (AC.w 0)), (3, AV.c (AC.w 1)), (8, AV.ag (bcs u)), (9, AV.c (AC.i (IntKind.wrap IntKind.i64 (j + 1))))], [(0, Ent.mk true (Ins.cs i) 0), (1, Ent.mk true (St.cs t) 0)], 2⟩ (REff w β E)) :
    ART Try.prog 45 (cx w β n []) Try.f45.ntmps (cutAt Try.f45 0) (Kn.mk [(2, AV.c (AC.w 0)), (3, AV.c (AC.w 1)), (8, AV.ag (bcs u)), (9, AV.c (AC.i j))] [(0, Ent.mk true (Ins.cs i) 0), (1, Ent.mk true (St.cs t) 0)] 2) (REff w β E) :=
  (tf (V6.get u (Int.toNat j))).elim (fun h0 => (tf (!V6.get (St.s t) (Int.toNat j))).elim (fun h1 => (match l0 h0 h1 with | ⟨o0, o1, o2, o3, c0, c1, e⟩ => art_eq (ftRound_w0 (and_yes o0 (and_yes o1 (and_yes h0 (and_yes o2 (and_yes o3 (and_yes h1 rfl)))))) c0 c1) e)) (fun h1 => (match l1 h0 h1 with | ⟨o0, o1, o2, o3, c0, c1, lo, z⟩ => ftRound_w1 (and_yes o0 (and_yes o1 (and_yes h0 (and_yes o2 (and_yes o3 (and_yes (not_yes h1) rfl)))))) c0 c1 lo (fun _ hk => Nat.lt_of_lt_of_le hk hn) z))) (fun h0 => (match l2 h0 with | ⟨o0, o1, c0, lo, z⟩ => ftRound_w2 (and_yes o0 (and_yes o1 (and_yes (not_yes h0) rfl))) c0 lo (fun _ hk => Nat.lt_of_lt_of_le hk hn) z))
theorem ftEnd_w0 {i : Ins} {t : St} {u : V6 Bool} {e : Int} {w : World} {β : Bs} {n : Nat} (h : (Ins.op i == 10 && (decide (0 ≤ Ins.s i) && decide (Ins.s i < 6) && (Nat.ble (7 + Int.toNat (Ins.s i) * 4 + 4) (List.length (St.cs t)) && true))) = true) (c0 : Eff.mk (AV.ag (List.take 4 (List.drop (7 + Int.toNat (Ins.s i) * 4) (St.cs t)))) [] none = Eff.mk (AV.ag (V4.cs (V6.get (St.r t) (Int.toNat (Ins.s i))))) [] none) (c1 : CallOK Try.prog (CallRec.mk 74 [AV.ag (Ins.cs i), AV.ag (V4.cs (V6.get (St.r t) (Int.toNat (Ins.s i))))] [] (Eff.mk (AV.c (AC.i e)) [] none))) :
    ART Try.prog 45 (cx w β n []) Try.f45.ntmps (cutAt Try.f45 0) (Kn.mk [(2, AV.c (AC.w 0)), (3, AV.c (AC.w 1)), (8, AV.ag (bcs u)), (9, AV.c (AC.i 6))] [(0, Ent.mk true (Ins.cs i) 0), (1, Ent.mk true (St.cs t) 0)] 2) (REff w β ⟨AV.c (AC.i e), [], none⟩) :=
  run_eff [] (none) 2000 [Eff.mk (AV.ag (V4.cs (V6.get (St.r t) (Int.toNat (Ins.s i))))) [] none, Eff.mk (AV.c (AC.i e)) [] none] [false, true] ([true]) [(9, 5), (11, 5)] Try.func45 (ekeys0 rfl n) (by kernel_rfl) h (cr_same c0 (cr_cons c1 cr_nil))
theorem ftEnd_w1 {i : Ins} {t : St} {u : V6 Bool} {e : Int} {w : World} {β : Bs} {n : Nat} (h : (!Ins.op i == 10 && (Ins.op i == 11 && (decide (0 ≤ Ins.d i) && decide (Ins.d i < 6) && (Nat.ble (7 + Int.toNat (Ins.d i) * 4 + 4) (List.length (St.cs t)) && true)))) = true) (c0 : Eff.mk (AV.ag (List.take 4 (List.drop (7 + Int.toNat (Ins.d i) * 4) (St.cs t)))) [] none = Eff.mk (AV.ag (V4.cs (V6.get (St.r t) (Int.toNat (Ins.d i))))) [] none) (c1 : CallOK Try.prog (CallRec.mk 74 [AV.ag (Ins.cs i), AV.ag (V4.cs (V6.get (St.r t) (Int.toNat (Ins.d i))))] [] (Eff.mk (AV.c (AC.i e)) [] none))) :
    ART Try.prog 45 (cx w β n []) Try.f45.ntmps (cutAt Try.f45 0) (Kn.mk [(2, AV.c (AC.w 0)), (3, AV.c (AC.w 1)), (8, AV.ag (bcs u)), (9, AV.c (AC.i 6))] [(0, Ent.mk true (Ins.cs i) 0), (1, Ent.mk true (St.cs t) 0)] 2) (REff w β ⟨AV.c (AC.i e), [], none⟩) :=
  run_eff [] (none) 2000 [Eff.mk (AV.ag (V4.cs (V6.get (St.r t) (Int.toNat (Ins.d i))))) [] none, Eff.mk (AV.c (AC.i e)) [] none] [false, false, true] ([true]) [(9, 5), (11, 5)] Try.func45 (ekeys0 rfl n) (by kernel_rfl) h (cr_same c0 (cr_cons c1 cr_nil))
theorem ftEnd_w2 {i : Ins} {t : St} {u : V6 Bool} {w : World} {β : Bs} {n : Nat} (h : (!Ins.op i == 10 && (!Ins.op i == 11 && true)) = true) :
    ART Try.prog 45 (cx w β n []) Try.f45.ntmps (cutAt Try.f45 0) (Kn.mk [(2, AV.c (AC.w 0)), (3, AV.c (AC.w 1)), (8, AV.ag (bcs u)), (9, AV.c (AC.i 6))] [(0, Ent.mk true (Ins.cs i) 0), (1, Ent.mk true (St.cs t) 0)] 2) (REff w β ⟨AV.c (AC.i 0), [], none⟩) :=
  run_eff [] (none) 2000 [] [false, false, false] ([true]) [(9, 5), (11, 5)] Try.func45 (ekeys0 rfl n) (by kernel_rfl) h cr_nil
theorem ftEnd_all {i : Ins} {t : St} {u : V6 Bool} {e : Int} {w : World} {β : Bs} {n : Nat} {E : Eff}
    (l0 : (Ins.op i == 10) = true → (decide (0 ≤ Ins.s i) && decide (Ins.s i < 6)) = true ∧ (Nat.ble (7 + Int.toNat (Ins.s i) * 4 + 4) (List.length (St.cs t))) = true ∧ (Eff.mk (AV.ag (List.take 4 (List.drop (7 + Int.toNat (Ins.s i) * 4) (St.cs t)))) [] none = Eff.mk (AV.ag (V4.cs (V6.get (St.r t) (Int.toNat (Ins.s i))))) [] none) ∧ (CallOK Try.prog (CallRec.mk 74 [AV.ag (Ins.cs i), AV.ag (V4.cs (V6.get (St.r t) (Int.toNat (Ins.s i))))] [] (Eff.mk (AV.c (AC.i e)) [] none))) ∧ ((⟨AV.c (AC.i e), [], none⟩ : Eff) = E))
    (l1 : (Ins.op i == 10) = false → (Ins.op i == 11) = true → (decide (0 ≤ Ins.d i) && decide (Ins.d i < 6)) = true ∧ (Nat.ble (7 + Int.toNat (Ins.d i) * 4 + 4) (List.length (St.cs t))) = true ∧ (Eff.mk (AV.ag (List.take 4 (List.drop (7 + Int.toNat (Ins.d i) * 4) (St.cs t)))) [] none = Eff.mk (AV.ag (V4.cs (V6.get (St.r t) (Int.toNat (Ins.d i))))) [] none) ∧ (CallOK Try.prog (CallRec.mk 74 [AV.ag (Ins.cs i), AV.ag (V4.cs (V6.get (St.r t) (Int.toNat (Ins.d i))))] [] (Eff.mk (AV.c (AC.i e)) [] none))) ∧ ((⟨AV.c (AC.i e), [], none⟩ : Eff) = E))
    (l2 : (Ins.op i == 10) = false → (Ins.op i == 11) = false → ((⟨AV.c (AC.i 0), [], none⟩ : Eff) = E)) :
    ART Try.prog 45 (cx w β n []) Try.f45.ntmps (cutAt Try.f45 0) (Kn.mk [(2, AV.c (AC.w 0)), (3, AV.c (AC.w 1)), (8, AV.ag (bcs u)), (9, AV.c (AC.i 6))] [(0, Ent.mk true (Ins.cs i) 0), (1, Ent.mk true (St.cs t) 0)] 2) (REff w β E) :=
  (tf (Ins.op i == 10)).elim (fun h0 => (match l0 h0 with | ⟨o0, o1, c0, c1, e⟩ => art_eq (ftEnd_w0 (and_yes h0 (and_yes o0 (and_yes o1 rfl))) c0 c1) e)) (fun h0 => (tf (Ins.op i == 11)).elim (fun h1 => (match l1 h0 h1 with | ⟨o0, o1, c0, c1, e⟩ => art_eq (ftEnd_w1 (and_yes (not_yes h0) (and_yes h1 (and_yes o0 (and_yes o1 rfl)))) c0 c1) e)) (fun h1 => (match l2 h0 h1 with | e => art_eq (ftEnd_w2 (and_yes (not_yes h0) (and_yes (not_yes h1) rfl))) e)))
theorem fgoL_w0 {i : Ins} {t : St} {t1 : St} {a : V4} (h : (Ins.op i == 10 && true) = true) (c0 : Eff.mk (AV.c (AC.i (IntKind.wrap IntKind.i64 (nv (Ins.im i))))) [] none = Eff.mk (AV.c (AC.i (nv (Ins.im i)))) [] none) (c1 : CallOK Try.prog (CallRec.mk 75 [AV.c (AC.i (nv (Ins.im i)))] [] (Eff.mk (AV.tu [AT.ag (V4.cs a), AT.c (AC.i 0)]) [] none))) (c2 : CallOK Try.prog (CallRec.mk 35 [AV.ag (St.cs t), AV.c (AC.i (Ins.d i)), AV.ag (V4.cs a)] [] (Eff.mk (AV.ag (St.cs t1)) [] none))) :
    CallOK Try.prog ⟨46, [AV.ag (Ins.cs i), AV.ag (St.cs t)], [], ⟨AV.tu [AT.ag (St.cs t1), AT.ag (St.cs St.z)], [], none⟩⟩ :=
  val_run 2000 [Eff.mk (AV.c (AC.i (nv (Ins.im i)))) [] none, Eff.mk (AV.tu [AT.ag (V4.cs a), AT.c (AC.i 0)]) [] none, Eff.mk (AV.ag (St.cs t1)) [] none] [true] ([]) [(3, 2), (17, 6)] Try.func46 rfl rfl rfl rfl (by kernel_rfl) h (cr_same c0 (cr_cons c1 (cr_cons c2 cr_nil)))
theorem fgoS_w0 {i : Ins} {t : St} (h : (!Ins.op i == 10 && (Ins.op i == 11 && true)) = true) :
    CallOK Try.prog ⟨46, [AV.ag (Ins.cs i), AV.ag (St.cs t)], [], ⟨AV.tu [AT.ag (St.cs t), AT.ag (St.cs St.z)], [], none⟩⟩ :=
  val_run 2000 [] [false, true] ([]) [(3, 2), (17, 6)] Try.func46 rfl rfl rfl rfl (by kernel_rfl) h cr_nil
theorem fgoJ_w0 {i : Ins} {t : St} (h : (!Ins.op i == 10 && (!Ins.op i == 11 && (Ins.op i == 12 && true))) = true) :
    CallOK Try.prog ⟨46, [AV.ag (Ins.cs i), AV.ag (St.cs t)], [], ⟨AV.tu [AT.ag (St.cs St.z), AT.ag (St.cs t)], [], none⟩⟩ :=
  val_run 2000 [] [false, false, true] ([]) [(3, 2), (17, 6)] Try.func46 rfl rfl rfl rfl (by kernel_rfl) h cr_nil
theorem fgoEq_w0 {i : Ins} {t : St} {t1 : St} {t2 : St} (h : (!Ins.op i == 10 && (!Ins.op i == 11 && (!Ins.op i == 12 && (Ins.op i == 13 && true)))) = true) (c0 : CallOK Try.prog (CallRec.mk 76 [AV.ag (Ins.cs i), AV.ag (St.cs t), AV.c (AC.f 77 [])] [] (Eff.mk (AV.ag (St.cs t1)) [] none))) (c1 : CallOK Try.prog (CallRec.mk 76 [AV.ag (Ins.cs i), AV.ag (St.cs t), AV.c (AC.f 78 [])] [] (Eff.mk (AV.ag (St.cs t2)) [] none))) :
    CallOK Try.prog ⟨46, [AV.ag (Ins.cs i), AV.ag (St.cs t)], [], ⟨AV.tu [AT.ag (St.cs t1), AT.ag (St.cs t2)], [], none⟩⟩ :=
  val_run 2000 [Eff.mk (AV.ag (St.cs t1)) [] none, Eff.mk (AV.ag (St.cs t2)) [] none] [false, false, false, true] ([]) [(3, 2), (17, 6)] Try.func46 rfl rfl rfl rfl (by kernel_rfl) h (cr_cons c0 (cr_cons c1 cr_nil))
theorem fgoLt_w0 {i : Ins} {t : St} {t1 : St} {t2 : St} (h : (!Ins.op i == 10 && (!Ins.op i == 11 && (!Ins.op i == 12 && (!Ins.op i == 13 && (Ins.op i == 14 && true))))) = true) (c0 : CallOK Try.prog (CallRec.mk 76 [AV.ag (Ins.cs i), AV.ag (St.cs t), AV.c (AC.f 79 [])] [] (Eff.mk (AV.ag (St.cs t1)) [] none))) (c1 : CallOK Try.prog (CallRec.mk 76 [AV.ag (Ins.cs i), AV.ag (St.cs t), AV.c (AC.f 80 [])] [] (Eff.mk (AV.ag (St.cs t2)) [] none))) :
    CallOK Try.prog ⟨46, [AV.ag (Ins.cs i), AV.ag (St.cs t)], [], ⟨AV.tu [AT.ag (St.cs t1), AT.ag (St.cs t2)], [], none⟩⟩ :=
  val_run 2000 [Eff.mk (AV.ag (St.cs t1)) [] none, Eff.mk (AV.ag (St.cs t2)) [] none] [false, false, false, false, true] ([]) [(3, 2), (17, 6)] Try.func46 rfl rfl rfl rfl (by kernel_rfl) h (cr_cons c0 (cr_cons c1 cr_nil))
theorem fgoX_w0 {i : Ins} {t : St} (h : (!Ins.op i == 10 && (!Ins.op i == 11 && (!Ins.op i == 12 && (!Ins.op i == 13 && (!Ins.op i == 14 && (Ins.op i == 15 && true)))))) = true) :
    CallOK Try.prog ⟨46, [AV.ag (Ins.cs i), AV.ag (St.cs t)], [], ⟨AV.tu [AT.ag (St.cs St.z), AT.ag (St.cs St.z)], [], none⟩⟩ :=
  val_run 2000 [] [false, false, false, false, false, true] ([]) [(3, 2), (17, 6)] Try.func46 rfl rfl rfl rfl (by kernel_rfl) h cr_nil
theorem fgoM_w0 {i : Ins} {t : St} {t1 : St} {a : V4} (h : (!Ins.op i == 10 && (!Ins.op i == 11 && (!Ins.op i == 12 && (!Ins.op i == 13 && (!Ins.op i == 14 && (!Ins.op i == 15 && (Ins.op i == 1 && true))))))) = true) (c0 : CallOK Try.prog (CallRec.mk 81 [AV.ag (Ins.cs i), AV.ag (St.cs t)] [] (Eff.mk (AV.ag (V4.cs a)) [] none))) (c1 : CallOK Try.prog (CallRec.mk 35 [AV.ag (St.cs t), AV.c (AC.i (Ins.d i)), AV.ag (V4.cs a)] [] (Eff.mk (AV.ag (St.cs t1)) [] none))) :
    CallOK Try.prog ⟨46, [AV.ag (Ins.cs i), AV.ag (St.cs t)], [], ⟨AV.tu [AT.ag (St.cs t1), AT.ag (St.cs St.z)], [], none⟩⟩ :=
  val_run 2000 [Eff.mk (AV.ag (V4.cs a)) [] none, Eff.mk (AV.ag (St.cs t1)) [] none] [false, false, false, false, false, false, true] ([]) [(3, 2), (17, 6)] Try.func46 rfl rfl rfl rfl (by kernel_rfl) h (cr_cons c0 (cr_cons c1 cr_nil))
theorem fgoT_w0 {i : Ins} {t : St} {t1 : St} {b : V4} {c : V4} (h : (!Ins.op i == 10 && (!Ins.op i == 11 && (!Ins.op i == 12 && (!Ins.op i == 13 && (!Ins.op i == 14 && (!Ins.op i == 15 && (!Ins.op i == 1 && (decide (0 ≤ Ins.d i) && decide (Ins.d i < 6) && (Nat.ble (7 + Int.toNat (Ins.d i) * 4 + 4) (List.length (St.cs t)) && true))))))))) = true) (c0 : Eff.mk (AV.ag (List.take 4 (List.drop (7 + Int.toNat (Ins.d i) * 4) (St.cs t)))) [] none = Eff.mk (AV.ag (V4.cs (V6.get (St.r t) (Int.toNat (Ins.d i))))) [] none) (c1 : CallOK Try.prog (CallRec.mk 81 [AV.ag (Ins.cs i), AV.ag (St.cs t)] [] (Eff.mk (AV.ag (V4.cs b)) [] none))) (c2 : CallOK Try.prog (CallRec.mk 82 [AV.c (AC.i (Ins.op i)), AV.ag (V4.cs (V6.get (St.r t) (Int.toNat (Ins.d i)))), AV.ag (V4.cs b)] [] (Eff.mk (AV.tu [AT.ag (V4.cs c), AT.c (AC.i 0)]) [] none))) (c3 : CallOK Try.prog (CallRec.mk 35 [AV.ag (St.cs t), AV.c (AC.i (Ins.d i)), AV.ag (V4.cs c)] [] (Eff.mk (AV.ag (St.cs t1)) [] none))) :
    CallOK Try.prog ⟨46, [AV.ag (Ins.cs i), AV.ag (St.cs t)], [], ⟨AV.tu [AT.ag (St.cs t1), AT.ag (St.cs St.z)], [], none⟩⟩ :=
  val_run 2000 [Eff.mk (AV.ag (V4.cs (V6.get (St.r t) (Int.toNat (Ins.d i))))) [] none, Eff.mk (AV.ag (V4.cs b)) [] none, Eff.mk (AV.tu [AT.ag (V4.cs c), AT.c (AC.i 0)]) [] none, Eff.mk (AV.ag (St.cs t1)) [] none] [false, false, false, false, false, false, false] ([]) [(3, 2), (17, 6)] Try.func46 rfl rfl rfl rfl (by kernel_rfl) h (cr_same c0 (cr_cons c1 (cr_cons c2 (cr_cons c3 cr_nil))))
theorem fstep_w0 {i : Ins} {t : St} {fi : Bool} (h : (!fi && true) = true) (c0 : CallOK Try.prog (CallRec.mk 44 [AV.ag (Ins.cs i)] [] (Eff.mk (AV.c (AC.b fi)) [] none))) :
    CallOK Try.prog ⟨22, [AV.ag (Ins.cs i), AV.ag (St.cs t)], [], ⟨AV.tu [AT.ag (St.cs St.z), AT.ag (St.cs St.z), AT.c (AC.i 0), AT.c (AC.i 1)], [], none⟩⟩ :=
  val_run 2000 [Eff.mk (AV.c (AC.b fi)) [] none] [true, true] ([]) [] Try.func22 rfl rfl rfl rfl (by kernel_rfl) h (cr_cons c0 cr_nil)
theorem fstep_w1 {i : Ins} {t : St} {fi : Bool} {ce : Int} (h : (!!fi && (ce != 0 && true)) = true) (c0 : CallOK Try.prog (CallRec.mk 44 [AV.ag (Ins.cs i)] [] (Eff.mk (AV.c (AC.b fi)) [] none))) (c1 : CallOK Try.prog (CallRec.mk 17 [AV.ag (St.cs t)] [] (Eff.mk (AV.c (AC.i ce)) [] none))) :
    CallOK Try.prog ⟨22, [AV.ag (Ins.cs i), AV.ag (St.cs t)], [], ⟨AV.tu [AT.ag (St.cs St.z), AT.ag (St.cs St.z), AT.c (AC.i 0), AT.c (AC.i 1)], [], none⟩⟩ :=
  val_run 2000 [Eff.mk (AV.c (AC.b fi)) [] none, Eff.mk (AV.c (AC.i ce)) [] none] [false, true] ([]) [] Try.func22 rfl rfl rfl rfl (by kernel_rfl) h (cr_cons c0 (cr_cons c1 cr_nil))
theorem fstep_w2 {i : Ins} {t : St} {fi : Bool} {ce : Int} (h : (!!fi && (!ce != 0 && (!St.live t && true))) = true) (c0 : CallOK Try.prog (CallRec.mk 44 [AV.ag (Ins.cs i)] [] (Eff.mk (AV.c (AC.b fi)) [] none))) (c1 : CallOK Try.prog (CallRec.mk 17 [AV.ag (St.cs t)] [] (Eff.mk (AV.c (AC.i ce)) [] none))) :
    CallOK Try.prog ⟨22, [AV.ag (Ins.cs i), AV.ag (St.cs t)], [], ⟨AV.tu [AT.ag (St.cs St.z), AT.ag (St.cs St.z), AT.c (AC.i 0), AT.c (AC.i 0)], [], none⟩⟩ :=
  val_run 2000 [Eff.mk (AV.c (AC.b fi)) [] none, Eff.mk (AV.c (AC.i ce)) [] none] [false, false, true] ([]) [] Try.func22 rfl rfl rfl rfl (by kernel_rfl) h (cr_cons c0 (cr_cons c1 cr_nil))
theorem fstep_w3 {i : Ins} {t : St} {fi : Bool} {ce : Int} {tr : Int} (h : (!!fi && (!ce != 0 && (!!St.live t && (tr != 0 && true)))) = true) (c0 : CallOK Try.prog (CallRec.mk 44 [AV.ag (Ins.cs i)] [] (Eff.mk (AV.c (AC.b fi)) [] none))) (c1 : CallOK Try.prog (CallRec.mk 17 [AV.ag (St.cs t)] [] (Eff.mk (AV.c (AC.i ce)) [] none))) (c2 : CallOK Try.prog (CallRec.mk 45 [AV.ag (Ins.cs i), AV.ag (St.cs t)] [] (Eff.mk (AV.c (AC.i tr)) [] none))) :
    CallOK Try.prog ⟨22, [AV.ag (Ins.cs i), AV.ag (St.cs t)], [], ⟨AV.tu [AT.ag (St.cs St.z), AT.ag (St.cs St.z), AT.c (AC.i tr), AT.c (AC.i 0)], [], none⟩⟩ :=
  val_run 2000 [Eff.mk (AV.c (AC.b fi)) [] none, Eff.mk (AV.c (AC.i ce)) [] none, Eff.mk (AV.c (AC.i tr)) [] none] [false, false, false, true] ([]) [] Try.func22 rfl rfl rfl rfl (by kernel_rfl) h (cr_cons c0 (cr_cons c1 (cr_cons c2 cr_nil)))
theorem fstep_w4 {i : Ins} {t : St} {t1 : St} {t2 : St} {fi : Bool} {ce : Int} {tr : Int} (h : (!!fi && (!ce != 0 && (!!St.live t && (!tr != 0 && true)))) = true) (c0 : CallOK Try.prog (CallRec.mk 44 [AV.ag (Ins.cs i)] [] (Eff.mk (AV.c (AC.b fi)) [] none))) (c1 : CallOK Try.prog (CallRec.mk 17 [AV.ag (St.cs t)] [] (Eff.mk (AV.c (AC.i ce)) [] none))) (c2 : CallOK Try.prog (CallRec.mk 45 [AV.ag (Ins.cs i), AV.ag (St.cs t)] [] (Eff.mk (AV.c (AC.i tr)) [] none))) (c3 : CallOK Try.prog (CallRec.mk 46 [AV.ag (Ins.cs i), AV.ag (St.cs t)] [] (Eff.mk (AV.tu [AT.ag (St.cs t1), AT.ag (St.cs t2)]) [] none))) :
    CallOK Try.prog ⟨22, [AV.ag (Ins.cs i), AV.ag (St.cs t)], [], ⟨AV.tu [AT.ag (St.cs t1), AT.ag (St.cs t2), AT.c (AC.i 0), AT.c (AC.i 0)], [], none⟩⟩ :=
  val_run 2000 [Eff.mk (AV.c (AC.b fi)) [] none, Eff.mk (AV.c (AC.i ce)) [] none, Eff.mk (AV.c (AC.i tr)) [] none, Eff.mk (AV.tu [AT.ag (St.cs t1), AT.ag (St.cs t2)]) [] none] [false, false, false, false] ([]) [] Try.func22 rfl rfl rfl rfl (by kernel_rfl) h (cr_cons c0 (cr_cons c1 (cr_cons c2 (cr_cons c3 cr_nil))))
theorem fstep_all {i : Ins} {t : St} {t1 : St} {t2 : St} {fi : Bool} {ce : Int} {tr : Int} {V : AV}
    (l0 : (!fi) = true → (CallOK Try.prog (CallRec.mk 44 [AV.ag (Ins.cs i)] [] (Eff.mk (AV.c (AC.b fi)) [] none))) ∧ (AV.tu [AT.ag (St.cs St.z), AT.ag (St.cs St.z), AT.c (AC.i 0), AT.c (AC.i 1)] = V))
    (l1 : (!fi) = false → (ce != 0) = true → (CallOK Try.prog (CallRec.mk 44 [AV.ag (Ins.cs i)] [] (Eff.mk (AV.c (AC.b fi)) [] none))) ∧ (CallOK Try.prog (CallRec.mk 17 [AV.ag (St.cs t)] [] (Eff.mk (AV.c (AC.i ce)) [] none))) ∧ (AV.tu [AT.ag (St.cs St.z), AT.ag (St.cs St.z), AT.c (AC.i 0), AT.c (AC.i 1)] = V))
    (l2 : (!fi) = false → (ce != 0) = false → (!St.live t) = true → (CallOK Try.prog (CallRec.mk 44 [AV.ag (Ins.cs i)] [] (Eff.mk (AV.c (AC.b fi)) [] none))) ∧ (CallOK Try.prog (CallRec.mk 17 [AV.ag (St.cs t)] [] (Eff.mk (AV.c (AC.i ce)) [] none))) ∧ (AV.tu [AT.ag (St.cs St.z), AT.ag (St.cs St.z), AT.c (AC.i 0), AT.c (AC.i 0)] = V))
    (l3 : (!fi) = false → (ce != 0) = false → (!St.live t) = false → (tr != 0) = true → (CallOK Try.prog (CallRec.mk 44 [AV.ag (Ins.cs i)] [] (Eff.mk (AV.c (AC.b fi)) [] none))) ∧ (CallOK Try.prog (CallRec.mk 17 [AV.ag (St.cs t)] [] (Eff.mk (AV.c (AC.i ce)) [] none))) ∧ (CallOK Try.prog (CallRec.mk 45 [AV.ag (Ins.cs i), AV.ag (St.cs t)] [] (Eff.mk (AV.c (AC.i tr)) [] none))) ∧ (AV.tu [AT.ag (St.cs St.z), AT.ag (St.cs St.z), AT.c (AC.i tr), AT.c (AC.i 0)] = V))
    (l4 : (!fi) = false → (ce != 0) = false → (!St.live t) = false → (tr != 0) = false → (CallOK Try.prog (CallRec.mk 44 [AV.ag (Ins.cs i)] [] (Eff.mk (AV.c (AC.b fi)) [] none))) ∧ (CallOK Try.prog (CallRec.mk 17 [AV.ag (St.cs t)] [] (Eff.mk (AV.c (AC.i ce)) [] none))) ∧ (CallOK Try.prog (CallRec.mk 45 [AV.ag (Ins.cs i), AV.ag (St.cs t)] [] (Eff.mk (AV.c (AC.i tr)) [] none))) ∧ (CallOK Try.prog (CallRec.mk 46 [AV.ag (Ins.cs i), AV.ag (St.cs t)] [] (Eff.mk (AV.tu [AT.ag (St.cs t1), AT.ag (St.cs t2)]) [] none))) ∧ (AV.tu [AT.ag (St.cs t1), AT.ag (St.cs t2), AT.c (AC.i 0), AT.c (AC.i 0)] = V)) :
    CallOK Try.prog ⟨22, [AV.ag (Ins.cs i), AV.ag (St.cs t)], [], ⟨V, [], none⟩⟩ :=
  (tf (!fi)).elim (fun h0 => (match l0 h0 with | ⟨c0, e⟩ => ok_eq (fstep_w0 (and_yes h0 rfl) c0) e)) (fun h0 => (tf (ce != 0)).elim (fun h1 => (match l1 h0 h1 with | ⟨c0, c1, e⟩ => ok_eq (fstep_w1 (and_yes (not_yes h0) (and_yes h1 rfl)) c0 c1) e)) (fun h1 => (tf (!St.live t)).elim (fun h2 => (match l2 h0 h1 h2 with | ⟨c0, c1, e⟩ => ok_eq (fstep_w2 (and_yes (not_yes h0) (and_yes (not_yes h1) (and_yes h2 rfl))) c0 c1) e)) (fun h2 => (tf (tr != 0)).elim (fun h3 => (match l3 h0 h1 h2 h3 with | ⟨c0, c1, c2, e⟩ => ok_eq (fstep_w3 (and_yes (not_yes h0) (and_yes (not_yes h1) (and_yes (not_yes h2) (and_yes h3 rfl)))) c0 c1 c2) e)) (fun h3 => (match l4 h0 h1 h2 h3 with | ⟨c0, c1, c2, c3, e⟩ => ok_eq (fstep_w4 (and_yes (not_yes h0) (and_yes (not_yes h1) (and_yes (not_yes h2) (and_yes (not_yes h3) rfl)))) c0 c1 c2 c3) e)))))
end Go.Proofs.Ytkigmocchaikgab

/- Ways of bodies, written by a program (ways.py): what each asks for, and hands back. -/
namespace Go.Proofs.Ytkigmocchaikgab
open Go.RowKit

theorem calcBytes_w0 {n : Int} (h : (n == 1 && (n == 1 && (decide (nv (BitVec.ofInt 64 (IntKind.wrap IntKind.i64 (64 - IntKind.wrap IntKind.i64 (8 * n)))) ≤ 64) && true))) = true) :
    CallOK Try.prog ⟨75, [AV.c (AC.i n)], [], ⟨AV.tu [AT.ag [AC.u 0#64, AC.u (bshr (18446744073709551615#64) (Int.toNat (nv (BitVec.ofInt 64 (IntKind.wrap IntKind.i64 (64 - IntKind.wrap IntKind.i64 (8 * n))))))), AC.u 0#64, AC.u (bshr (18446744073709551615#64) (Int.toNat (nv (BitVec.ofInt 64 (IntKind.wrap IntKind.i64 (64 - IntKind.wrap IntKind.i64 (8 * n)))))))], AT.c (AC.i 0)], [], none⟩⟩ :=
  val_run 2000 [] [true, true] ([]) [] Try.func75 rfl rfl rfl rfl (by kernel_rfl) h cr_nil
theorem calcBytes_w1 {n : Int} (h : (!n == 1 && (n == 2 && (n == 2 && (decide (nv (BitVec.ofInt 64 (IntKind.wrap IntKind.i64 (64 - IntKind.wrap IntKind.i64 (8 * n)))) ≤ 64) && true)))) = true) :
    CallOK Try.prog ⟨75, [AV.c (AC.i n)], [], ⟨AV.tu [AT.ag [AC.u 0#64, AC.u (bshr (18446744073709551615#64) (Int.toNat (nv (BitVec.ofInt 64 (IntKind.wrap IntKind.i64 (64 - IntKind.wrap IntKind.i64 (8 * n))))))), AC.u 0#64, AC.u (bshr (18446744073709551615#64) (Int.toNat (nv (BitVec.ofInt 64 (IntKind.wrap IntKind.i64 (64 - IntKind.wrap IntKind.i64 (8 * n)))))))], AT.c (AC.i 0)], [], none⟩⟩ :=
  val_run 2000 [] [false, true, true] ([]) [] Try.func75 rfl rfl rfl rfl (by kernel_rfl) h cr_nil
theorem calcBytes_w2 {n : Int} (h : (!n == 1 && (!n == 2 && (n == 4 && (n == 4 && (decide (nv (BitVec.ofInt 64 (IntKind.wrap IntKind.i64 (64 - IntKind.wrap IntKind.i64 (8 * n)))) ≤ 64) && true))))) = true) :
    CallOK Try.prog ⟨75, [AV.c (AC.i n)], [], ⟨AV.tu [AT.ag [AC.u 0#64, AC.u (bshr (18446744073709551615#64) (Int.toNat (nv (BitVec.ofInt 64 (IntKind.wrap IntKind.i64 (64 - IntKind.wrap IntKind.i64 (8 * n))))))), AC.u 0#64, AC.u (bshr (18446744073709551615#64) (Int.toNat (nv (BitVec.ofInt 64 (IntKind.wrap IntKind.i64 (64 - IntKind.wrap IntKind.i64 (8 * n)))))))], AT.c (AC.i 0)], [], none⟩⟩ :=
  val_run 2000 [] [false, false, true, true] ([]) [] Try.func75 rfl rfl rfl rfl (by kernel_rfl) h cr_nil
theorem calcBytes_w3 {n : Int} (h : (!n == 1 && (!n == 2 && (!n == 4 && (n == 8 && (decide (nv (BitVec.ofInt 64 (IntKind.wrap IntKind.i64 (64 - IntKind.wrap IntKind.i64 (8 * n)))) ≤ 64) && true))))) = true) :
    CallOK Try.prog ⟨75, [AV.c (AC.i n)], [], ⟨AV.tu [AT.ag [AC.u 0#64, AC.u (bshr (18446744073709551615#64) (Int.toNat (nv (BitVec.ofInt 64 (IntKind.wrap IntKind.i64 (64 - IntKind.wrap IntKind.i64 (8 * n))))))), AC.u 0#64, AC.u (bshr (18446744073709551615#64) (Int.toNat (nv (BitVec.ofInt 64 (IntKind.wrap IntKind.i64 (64 - IntKind.wrap IntKind.i64 (8 * n)))))))], AT.c (AC.i 0)], [], none⟩⟩ :=
  val_run 2000 [] [false, false, false, true] ([]) [] Try.func75 rfl rfl rfl rfl (by kernel_rfl) h cr_nil
end Go.Proofs.Ytkigmocchaikgab

/- The contract of package calc's leave, over each of the four functions that it is handed. (Written by gen_w26.py.) -/
namespace Go.Proofs.Ytkigmocchaikgab
open Go.RowKit
attribute [local go_sem] w_and w_or w_xor w_andNot w_and1 w_and63 w_add w_sub w_mul w_sub1 w_add1 w_shl w_shl1 w_shr c_beq c_bne c_beq0 c_bne0 c_beq1 c_bne1 wrap_nv

abbrev PT (b : Nat) : Value := .pointer (some ⟨b, 0, none⟩)
/- what is left of both -/
def lv (p : Bool) (a : Value) : Value := if p then a else V0

set_option maxRecDepth 100000 in
set_option maxHeartbeats 4000000 in
theorem leave_Equal {p1 p2 : Value} {v m l g v' m' l' g' a b c d a' b' c' d' x y z t x' y' z' t' : BitVec 64} {may i1 i2 : Bool} {e1 e2 : Int} (hr : Hid ((valB v m l g && valB v' m' l' g') = true)) (w : World)
    (HR : Hid (∀ w', Below w.heap.size w w' → Calls Try.prog 115 #[p1, p2] w' fun e w'' => e = .returned (.tuple #[Vl a b c d, Vl a' b' c' d', .bool may]) ∧ Below w'.heap.size w' w''))
    (N1 : Hid (∀ w, Calls Try.prog 65 #[Vl a b c d] w fun e w' => e = .returned (.tuple #[Vl x y z t, .bool i1, N e1]) ∧ Below w.heap.size w w'))
    (N2 : Hid (∀ w, Calls Try.prog 65 #[Vl a' b' c' d'] w fun e w' => e = .returned (.tuple #[Vl x' y' z' t', .bool i2, N e2]) ∧ Below w.heap.size w w')) :
    Calls Try.prog 111 #[Vl v m l g, Vl v' m' l' g', .func (.func 115) #[] #[p1, p2]] w fun e w' => e = .returned (.tuple #[lv (may && (i1 && i2)) (Vl x y z t), lv (may && (i1 && i2)) (Vl x' y' z' t'), .bool (may && (i1 && i2)), N 0]) ∧ Below w.heap.size w w' := by
  obtain ⟨z1, H1⟩ : ∃ b, Hid (valB v m l g = b) := ⟨_, rfl⟩
  obtain ⟨z2, H2⟩ : ∃ b, Hid (valB v' m' l' g' = b) := ⟨_, rfl⟩
  rw [H1.out, H2.out] at hr
  obtain ⟨q, hq⟩ : ∃ q, Hid (q = (may && (i1 && i2))) := ⟨_, rfl⟩
  rw [← hq.out]
  go_enter Try.func111, Try.ntmps111
  go_wp2_with fail
  refine (vcheck2 H1 H2 (by simp) (by simp [go_sem]) (by simp [go_sem]) (by simp [go_sem]) (by simp [go_sem]) (by simp [go_sem]) (by simp [go_sem]) (by simp [go_sem]) (by simp [go_sem])).mono ?_
  rw [hr.out, er_t]
  rintro e w1 ⟨rfl, hb1⟩
  have hK := ((((((Kp.start w).add4 _ _ _ _ _).add4 _ _ _ _ _).add4 _ _ _ _ _).add4 _ _ _ _ _).keep ((Below.refl _ _).alloc (Nat.le_refl _) _)).keep hb1
  simp only [World.size_alloc] at hK
  clear hb1
  go_wp2_with fail
  refine (HR.out _ hK.bel).mono ?_
  rintro e w2 ⟨rfl, hb2⟩
  have hK2 := hK.keep hb2
  have hK3 := (hK2.set4 (x := U a) (y := U b) (z := U c) (t := U d) 3 rfl).set4 (x := U a') (y := U b') (z := U c') (t := U d') 2 rfl
  obtain ⟨s0, s1, s2, s3, s4, s5, s6, s7, s8⟩ := hK2.box.head.four
  obtain ⟨r0, r1, r2, r3, r4, r5, r6, r7, r8⟩ := hK2.box.tail.head.four
  obtain ⟨b0, b1, b2, b3, b4, b5, b6, b7, b8⟩ := hK2.box.tail.tail.head.four
  obtain ⟨a0, a1, a2, a3, a4, a5, a6, a7, a8⟩ := hK2.box.tail.tail.tail.head.four
  clear hb2 hK
  go_wp2_with fail
  refine (N1.out _).mono ?_
  rintro e w3 ⟨rfl, hb3⟩
  have hK4 := hK3.keep hb3
  have hK5 := hK4.set4 (x := U x) (y := U y) (z := U z) (t := U t) 3 rfl
  clear s0 s1 s2 s3 s4 s5 s6 s7 s8 r0 r1 r2 r3 r4 r5 r6 r7 r8 b0 b1 b2 b3 b4 b5 b6 b7 b8 a0 a1 a2 a3 a4 a5 a6 a7 a8
  obtain ⟨s0, s1, s2, s3, s4, s5, s6, s7, s8⟩ := hK4.box.head.four
  obtain ⟨r0, r1, r2, r3, r4, r5, r6, r7, r8⟩ := hK4.box.tail.head.four
  obtain ⟨b0, b1, b2, b3, b4, b5, b6, b7, b8⟩ := hK4.box.tail.tail.head.four
  obtain ⟨a0, a1, a2, a3, a4, a5, a6, a7, a8⟩ := hK4.box.tail.tail.tail.head.four
  clear hb3 hK2 hK3
  go_wp2_with fail
  refine (N2.out _).mono ?_
  rintro e w4 ⟨rfl, hb4⟩
  have hK6 := hK5.keep hb4
  have hK7 := hK6.set4 (x := U x') (y := U y') (z := U z') (t := U t') 2 rfl
  clear s0 s1 s2 s3 s4 s5 s6 s7 s8 r0 r1 r2 r3 r4 r5 r6 r7 r8 b0 b1 b2 b3 b4 b5 b6 b7 b8 a0 a1 a2 a3 a4 a5 a6 a7 a8
  obtain ⟨s0, s1, s2, s3, s4, s5, s6, s7, s8⟩ := hK6.box.head.four
  obtain ⟨r0, r1, r2, r3, r4, r5, r6, r7, r8⟩ := hK6.box.tail.head.four
  obtain ⟨b0, b1, b2, b3, b4, b5, b6, b7, b8⟩ := hK6.box.tail.tail.head.four
  obtain ⟨a0, a1, a2, a3, a4, a5, a6, a7, a8⟩ := hK6.box.tail.tail.tail.head.four
  clear hb4 hK4 hK5
  go_upto_region 7 with fail
  clear s0 s1 s2 s3 s4 s5 s6 s7 s8 r0 r1 r2 r3 r4 r5 r6 r7 r8 b0 b1 b2 b3 b4 b5 b6 b7 b8 a0 a1 a2 a3 a4 a5 a6 a7 a8
  clear hK6
  go_cut [52] (fun u wc => u = .bool (!q) ∧ Kp w wc [(w.heap.size + 1 + 1 + 1, [.int .u64 0, .int .u64 0, .int .u64 0, .int .u64 0]), (w.heap.size + 1 + 1, [.int .u64 0, .int .u64 0, .int .u64 0, .int .u64 0]), (w.heap.size + 1, [U x', U y', U z', U t']), (w.heap.size, [U x, U y, U z, U t])])
  case first =>
    cases may
    · go_wp2_with fail
      go_meet
      case rel => exact ⟨by rw [hq.out]; rfl, hK7⟩
    · cases i1
      · go_wp2_with fail
        go_meet
        case rel => exact ⟨by rw [hq.out]; rfl, hK7⟩
      · cases i2
        all_goals
          go_wp2_with fail
          go_meet
          case rel => exact ⟨by rw [hq.out]; rfl, hK7⟩
  case rest =>
    clear hK7 hq
    obtain ⟨rfl, hK8⟩ := hcut
    obtain ⟨s0, s1, s2, s3, s4, s5, s6, s7, s8⟩ := hK8.box.head.four
    obtain ⟨r0, r1, r2, r3, r4, r5, r6, r7, r8⟩ := hK8.box.tail.head.four
    obtain ⟨b0, b1, b2, b3, b4, b5, b6, b7, b8⟩ := hK8.box.tail.tail.head.four
    obtain ⟨a0, a1, a2, a3, a4, a5, a6, a7, a8⟩ := hK8.box.tail.tail.tail.head.four
    cases q
    · go_wp2_with fail
      exact bodyPost_ret (v := .tuple #[V0, V0, .bool false, N 0]) (by simp [results, Try.results111, go_sem, nv_zero, s0, s1, s2, s3, r0, r1, r2, r3]) rfl ⟨rfl, ((hK8.set4 1 rfl).set4 0 rfl).bel⟩
    · go_wp2_with fail
      go_region
      all_goals
        go_wp2_with fail
        exact bodyPost_ret (v := .tuple #[Vl x y z t, Vl x' y' z' t', .bool true, N 0]) (by simp [results, Try.results111, go_sem, s0, s1, s2, s3, r0, r1, r2, r3]) rfl ⟨rfl, Below.drew ((hK8.set4 1 rfl).set4 0 rfl).bel⟩

set_option maxRecDepth 100000 in
set_option maxHeartbeats 4000000 in
theorem leave_Other {p1 p2 : Value} {v m l g v' m' l' g' a b c d a' b' c' d' x y z t x' y' z' t' : BitVec 64} {may i1 i2 : Bool} {e1 e2 : Int} (hr : Hid ((valB v m l g && valB v' m' l' g') = true)) (w : World)
    (HR : Hid (∀ w', Below w.heap.size w w' → Calls Try.prog 112 #[p1, p2] w' fun e w'' => e = .returned (.tuple #[Vl a b c d, Vl a' b' c' d', .bool may]) ∧ Below w'.heap.size w' w''))
    (N1 : Hid (∀ w, Calls Try.prog 65 #[Vl a b c d] w fun e w' => e = .returned (.tuple #[Vl x y z t, .bool i1, N e1]) ∧ Below w.heap.size w w'))
    (N2 : Hid (∀ w, Calls Try.prog 65 #[Vl a' b' c' d'] w fun e w' => e = .returned (.tuple #[Vl x' y' z' t', .bool i2, N e2]) ∧ Below w.heap.size w w')) :
    Calls Try.prog 111 #[Vl v m l g, Vl v' m' l' g', .func (.func 112) #[] #[p1, p2]] w fun e w' => e = .returned (.tuple #[lv (may && (i1 && i2)) (Vl x y z t), lv (may && (i1 && i2)) (Vl x' y' z' t'), .bool (may && (i1 && i2)), N 0]) ∧ Below w.heap.size w w' := by
  obtain ⟨z1, H1⟩ : ∃ b, Hid (valB v m l g = b) := ⟨_, rfl⟩
  obtain ⟨z2, H2⟩ : ∃ b, Hid (valB v' m' l' g' = b) := ⟨_, rfl⟩
  rw [H1.out, H2.out] at hr
  obtain ⟨q, hq⟩ : ∃ q, Hid (q = (may && (i1 && i2))) := ⟨_, rfl⟩
  rw [← hq.out]
  go_enter Try.func111, Try.ntmps111
  go_wp2_with fail
  refine (vcheck2 H1 H2 (by simp) (by simp [go_sem]) (by simp [go_sem]) (by simp [go_sem]) (by simp [go_sem]) (by simp [go_sem]) (by simp [go_sem]) (by simp [go_sem]) (by simp [go_sem])).mono ?_
  rw [hr.out, er_t]
  rintro e w1 ⟨rfl, hb1⟩
  have hK := ((((((Kp.start w).add4 _ _ _ _ _).add4 _ _ _ _ _).add4 _ _ _ _ _).add4 _ _ _ _ _).keep ((Below.refl _ _).alloc (Nat.le_refl _) _)).keep hb1
  simp only [World.size_alloc] at hK
  clear hb1
  go_wp2_with fail
  refine (HR.out _ hK.bel).mono ?_
  rintro e w2 ⟨rfl, hb2⟩
  have hK2 := hK.keep hb2
  have hK3 := (hK2.set4 (x := U a) (y := U b) (z := U c) (t := U d) 3 rfl).set4 (x := U a') (y := U b') (z := U c') (t := U d') 2 rfl
  obtain ⟨s0, s1, s2, s3, s4, s5, s6, s7, s8⟩ := hK2.box.head.four
  obtain ⟨r0, r1, r2, r3, r4, r5, r6, r7, r8⟩ := hK2.box.tail.head.four
  obtain ⟨b0, b1, b2, b3, b4, b5, b6, b7, b8⟩ := hK2.box.tail.tail.head.four
  obtain ⟨a0, a1, a2, a3, a4, a5, a6, a7, a8⟩ := hK2.box.tail.tail.tail.head.four
  clear hb2 hK
  go_wp2_with fail
  refine (N1.out _).mono ?_
  rintro e w3 ⟨rfl, hb3⟩
  have hK4 := hK3.keep hb3
  have hK5 := hK4.set4 (x := U x) (y := U y) (z := U z) (t := U t) 3 rfl
  clear s0 s1 s2 s3 s4 s5 s6 s7 s8 r0 r1 r2 r3 r4 r5 r6 r7 r8 b0 b1 b2 b3 b4 b5 b6 b7 b8 a0 a1 a2 a3 a4 a5 a6 a7 a8
  obtain ⟨s0, s1, s2, s3, s4, s5, s6, s7, s8⟩ := hK4.box.head.four
  obtain ⟨r0, r1, r2, r3, r4, r5, r6, r7, r8⟩ := hK4.box.tail.head.four
  obtain ⟨b0, b1, b2, b3, b4, b5, b6, b7, b8⟩ := hK4.box.tail.tail.head.four
  obtain ⟨a0, a1, a2, a3, a4, a5, a6, a7, a8⟩ := hK4.box.tail.tail.tail.head.four
  clear hb3 hK2 hK3
  go_wp2_with fail
  refine (N2.out _).mono ?_
  rintro e w4 ⟨rfl, hb4⟩
  have hK6 := hK5.keep hb4
  have hK7 := hK6.set4 (x := U x') (y := U y') (z := U z') (t := U t') 2 rfl
  clear s0 s1 s2 s3 s4 s5 s6 s7 s8 r0 r1 r2 r3 r4 r5 r6 r7 r8 b0 b1 b2 b3 b4 b5 b6 b7 b8 a0 a1 a2 a3 a4 a5 a6 a7 a8
  obtain ⟨s0, s1, s2, s3, s4, s5, s6, s7, s8⟩ := hK6.box.head.four
  obtain ⟨r0, r1, r2, r3, r4, r5, r6, r7, r8⟩ := hK6.box.tail.head.four
  obtain ⟨b0, b1, b2, b3, b4, b5, b6, b7, b8⟩ := hK6.box.tail.tail.head.four
  obtain ⟨a0, a1, a2, a3, a4, a5, a6, a7, a8⟩ := hK6.box.tail.tail.tail.head.four
  clear hb4 hK4 hK5
  go_upto_region 7 with fail
  clear s0 s1 s2 s3 s4 s5 s6 s7 s8 r0 r1 r2 r3 r4 r5 r6 r7 r8 b0 b1 b2 b3 b4 b5 b6 b7 b8 a0 a1 a2 a3 a4 a5 a6 a7 a8
  clear hK6
  go_cut [52] (fun u wc => u = .bool (!q) ∧ Kp w wc [(w.heap.size + 1 + 1 + 1, [.int .u64 0, .int .u64 0, .int .u64 0, .int .u64 0]), (w.heap.size + 1 + 1, [.int .u64 0, .int .u64 0, .int .u64 0, .int .u64 0]), (w.heap.size + 1, [U x', U y', U z', U t']), (w.heap.size, [U x, U y, U z, U t])])
  case first =>
    cases may
    · go_wp2_with fail
      go_meet
      case rel => exact ⟨by rw [hq.out]; rfl, hK7⟩
    · cases i1
      · go_wp2_with fail
        go_meet
        case rel => exact ⟨by rw [hq.out]; rfl, hK7⟩
      · cases i2
        all_goals
          go_wp2_with fail
          go_meet
          case rel => exact ⟨by rw [hq.out]; rfl, hK7⟩
  case rest =>
    clear hK7 hq
    obtain ⟨rfl, hK8⟩ := hcut
    obtain ⟨s0, s1, s2, s3, s4, s5, s6, s7, s8⟩ := hK8.box.head.four
    obtain ⟨r0, r1, r2, r3, r4, r5, r6, r7, r8⟩ := hK8.box.tail.head.four
    obtain ⟨b0, b1, b2, b3, b4, b5, b6, b7, b8⟩ := hK8.box.tail.tail.head.four
    obtain ⟨a0, a1, a2, a3, a4, a5, a6, a7, a8⟩ := hK8.box.tail.tail.tail.head.four
    cases q
    · go_wp2_with fail
      exact bodyPost_ret (v := .tuple #[V0, V0, .bool false, N 0]) (by simp [results, Try.results111, go_sem, nv_zero, s0, s1, s2, s3, r0, r1, r2, r3]) rfl ⟨rfl, ((hK8.set4 1 rfl).set4 0 rfl).bel⟩
    · go_wp2_with fail
      go_region
      all_goals
        go_wp2_with fail
        exact bodyPost_ret (v := .tuple #[Vl x y z t, Vl x' y' z' t', .bool true, N 0]) (by simp [results, Try.results111, go_sem, s0, s1, s2, s3, r0, r1, r2, r3]) rfl ⟨rfl, Below.drew ((hK8.set4 1 rfl).set4 0 rfl).bel⟩

set_option maxRecDepth 100000 in
set_option maxHeartbeats 4000000 in
theorem leave_Less {p1 p2 : Value} {v m l g v' m' l' g' a b c d a' b' c' d' x y z t x' y' z' t' : BitVec 64} {may i1 i2 : Bool} {e1 e2 : Int} (hr : Hid ((valB v m l g && valB v' m' l' g') = true)) (w : World)
    (HR : Hid (∀ w', Below w.heap.size w w' → Calls Try.prog 118 #[p1, p2] w' fun e w'' => e = .returned (.tuple #[Vl a b c d, Vl a' b' c' d', .bool may]) ∧ Below w'.heap.size w' w''))
    (N1 : Hid (∀ w, Calls Try.prog 65 #[Vl a b c d] w fun e w' => e = .returned (.tuple #[Vl x y z t, .bool i1, N e1]) ∧ Below w.heap.size w w'))
    (N2 : Hid (∀ w, Calls Try.prog 65 #[Vl a' b' c' d'] w fun e w' => e = .returned (.tuple #[Vl x' y' z' t', .bool i2, N e2]) ∧ Below w.heap.size w w')) :
    Calls Try.prog 111 #[Vl v m l g, Vl v' m' l' g', .func (.func 118) #[] #[p1, p2]] w fun e w' => e = .returned (.tuple #[lv (may && (i1 && i2)) (Vl x y z t), lv (may && (i1 && i2)) (Vl x' y' z' t'), .bool (may && (i1 && i2)), N 0]) ∧ Below w.heap.size w w' := by
  obtain ⟨z1, H1⟩ : ∃ b, Hid (valB v m l g = b) := ⟨_, rfl⟩
  obtain ⟨z2, H2⟩ : ∃ b, Hid (valB v' m' l' g' = b) := ⟨_, rfl⟩
  rw [H1.out, H2.out] at hr
  obtain ⟨q, hq⟩ : ∃ q, Hid (q = (may && (i1 && i2))) := ⟨_, rfl⟩
  rw [← hq.out]
  go_enter Try.func111, Try.ntmps111
  go_wp2_with fail
  refine (vcheck2 H1 H2 (by simp) (by simp [go_sem]) (by simp [go_sem]) (by simp [go_sem]) (by simp [go_sem]) (by simp [go_sem]) (by simp [go_sem]) (by simp [go_sem]) (by simp [go_sem])).mono ?_
  rw [hr.out, er_t]
  rintro e w1 ⟨rfl, hb1⟩
  have hK := ((((((Kp.start w).add4 _ _ _ _ _).add4 _ _ _ _ _).add4 _ _ _ _ _).add4 _ _ _ _ _).keep ((Below.refl _ _).alloc (Nat.le_refl _) _)).keep hb1
  simp only [World.size_alloc] at hK
  clear hb1
  go_wp2_with fail
  refine (HR.out _ hK.bel).mono ?_
  rintro e w2 ⟨rfl, hb2⟩
  have hK2 := hK.keep hb2
  have hK3 := (hK2.set4 (x := U a) (y := U b) (z := U c) (t := U d) 3 rfl).set4 (x := U a') (y := U b') (z := U c') (t := U d') 2 rfl
  obtain ⟨s0, s1, s2, s3, s4, s5, s6, s7, s8⟩ := hK2.box.head.four
  obtain ⟨r0, r1, r2, r3, r4, r5, r6, r7, r8⟩ := hK2.box.tail.head.four
  obtain ⟨b0, b1, b2, b3, b4, b5, b6, b7, b8⟩ := hK2.box.tail.tail.head.four
  obtain ⟨a0, a1, a2, a3, a4, a5, a6, a7, a8⟩ := hK2.box.tail.tail.tail.head.four
  clear hb2 hK
  go_wp2_with fail
  refine (N1.out _).mono ?_
  rintro e w3 ⟨rfl, hb3⟩
  have hK4 := hK3.keep hb3
  have hK5 := hK4.set4 (x := U x) (y := U y) (z := U z) (t := U t) 3 rfl
  clear s0 s1 s2 s3 s4 s5 s6 s7 s8 r0 r1 r2 r3 r4 r5 r6 r7 r8 b0 b1 b2 b3 b4 b5 b6 b7 b8 a0 a1 a2 a3 a4 a5 a6 a7 a8
  obtain ⟨s0, s1, s2, s3, s4, s5, s6, s7, s8⟩ := hK4.box.head.four
  obtain ⟨r0, r1, r2, r3, r4, r5, r6, r7, r8⟩ := hK4.box.tail.head.four
  obtain ⟨b0, b1, b2, b3, b4, b5, b6, b7, b8⟩ := hK4.box.tail.tail.head.four
  obtain ⟨a0, a1, a2, a3, a4, a5, a6, a7, a8⟩ := hK4.box.tail.tail.tail.head.four
  clear hb3 hK2 hK3
  go_wp2_with fail
  refine (N2.out _).mono ?_
  rintro e w4 ⟨rfl, hb4⟩
  have hK6 := hK5.keep hb4
  have hK7 := hK6.set4 (x := U x') (y := U y') (z := U z') (t := U t') 2 rfl
  clear s0 s1 s2 s3 s4 s5 s6 s7 s8 r0 r1 r2 r3 r4 r5 r6 r7 r8 b0 b1 b2 b3 b4 b5 b6 b7 b8 a0 a1 a2 a3 a4 a5 a6 a7 a8
  obtain ⟨s0, s1, s2, s3, s4, s5, s6, s7, s8⟩ := hK6.box.head.four
  obtain ⟨r0, r1, r2, r3, r4, r5, r6, r7, r8⟩ := hK6.box.tail.head.four
  obtain ⟨b0, b1, b2, b3, b4, b5, b6, b7, b8⟩ := hK6.box.tail.tail.head.four
  obtain ⟨a0, a1, a2, a3, a4, a5, a6, a7, a8⟩ := hK6.box.tail.tail.tail.head.four
  clear hb4 hK4 hK5
  go_upto_region 7 with fail
  clear s0 s1 s2 s3 s4 s5 s6 s7 s8 r0 r1 r2 r3 r4 r5 r6 r7 r8 b0 b1 b2 b3 b4 b5 b6 b7 b8 a0 a1 a2 a3 a4 a5 a6 a7 a8
  clear hK6
  go_cut [52] (fun u wc => u = .bool (!q) ∧ Kp w wc [(w.heap.size + 1 + 1 + 1, [.int .u64 0, .int .u64 0, .int .u64 0, .int .u64 0]), (w.heap.size + 1 + 1, [.int .u64 0, .int .u64 0, .int .u64 0, .int .u64 0]), (w.heap.size + 1, [U x', U y', U z', U t']), (w.heap.size, [U x, U y, U z, U t])])
  case first =>
    cases may
    · go_wp2_with fail
      go_meet
      case rel => exact ⟨by rw [hq.out]; rfl, hK7⟩
    · cases i1
      · go_wp2_with fail
        go_meet
        case rel => exact ⟨by rw [hq.out]; rfl, hK7⟩
      · cases i2
        all_goals
          go_wp2_with fail
          go_meet
          case rel => exact ⟨by rw [hq.out]; rfl, hK7⟩
  case rest =>
    clear hK7 hq
    obtain ⟨rfl, hK8⟩ := hcut
    obtain ⟨s0, s1, s2, s3, s4, s5, s6, s7, s8⟩ := hK8.box.head.four
    obtain ⟨r0, r1, r2, r3, r4, r5, r6, r7, r8⟩ := hK8.box.tail.head.four
    obtain ⟨b0, b1, b2, b3, b4, b5, b6, b7, b8⟩ := hK8.box.tail.tail.head.four
    obtain ⟨a0, a1, a2, a3, a4, a5, a6, a7, a8⟩ := hK8.box.tail.tail.tail.head.four
    cases q
    · go_wp2_with fail
      exact bodyPost_ret (v := .tuple #[V0, V0, .bool false, N 0]) (by simp [results, Try.results111, go_sem, nv_zero, s0, s1, s2, s3, r0, r1, r2, r3]) rfl ⟨rfl, ((hK8.set4 1 rfl).set4 0 rfl).bel⟩
    · go_wp2_with fail
      go_region
      all_goals
        go_wp2_with fail
        exact bodyPost_ret (v := .tuple #[Vl x y z t, Vl x' y' z' t', .bool true, N 0]) (by simp [results, Try.results111, go_sem, s0, s1, s2, s3, r0, r1, r2, r3]) rfl ⟨rfl, Below.drew ((hK8.set4 1 rfl).set4 0 rfl).bel⟩

set_option maxRecDepth 100000 in
set_option maxHeartbeats 4000000 in
theorem leave_NotLess {p1 p2 : Value} {v m l g v' m' l' g' a b c d a' b' c' d' x y z t x' y' z' t' : BitVec 64} {may i1 i2 : Bool} {e1 e2 : Int} (hr : Hid ((valB v m l g && valB v' m' l' g') = true)) (w : World)
    (HR : Hid (∀ w', Below w.heap.size w w' → Calls Try.prog 116 #[p1, p2] w' fun e w'' => e = .returned (.tuple #[Vl a b c d, Vl a' b' c' d', .bool may]) ∧ Below w'.heap.size w' w''))
    (N1 : Hid (∀ w, Calls Try.prog 65 #[Vl a b c d] w fun e w' => e = .returned (.tuple #[Vl x y z t, .bool i1, N e1]) ∧ Below w.heap.size w w'))
    (N2 : Hid (∀ w, Calls Try.prog 65 #[Vl a' b' c' d'] w fun e w' => e = .returned (.tuple #[Vl x' y' z' t', .bool i2, N e2]) ∧ Below w.heap.size w w')) :
    Calls Try.prog 111 #[Vl v m l g, Vl v' m' l' g', .func (.func 116) #[] #[p1, p2]] w fun e w' => e = .returned (.tuple #[lv (may && (i1 && i2)) (Vl x y z t), lv (may && (i1 && i2)) (Vl x' y' z' t'), .bool (may && (i1 && i2)), N 0]) ∧ Below w.heap.size w w' := by
  obtain ⟨z1, H1⟩ : ∃ b, Hid (valB v m l g = b) := ⟨_, rfl⟩
  obtain ⟨z2, H2⟩ : ∃ b, Hid (valB v' m' l' g' = b) := ⟨_, rfl⟩
  rw [H1.out, H2.out] at hr
  obtain ⟨q, hq⟩ : ∃ q, Hid (q = (may && (i1 && i2))) := ⟨_, rfl⟩
  rw [← hq.out]
  go_enter Try.func111, Try.ntmps111
  go_wp2_with fail
  refine (vcheck2 H1 H2 (by simp) (by simp [go_sem]) (by simp [go_sem]) (by simp [go_sem]) (by simp [go_sem]) (by simp [go_sem]) (by simp [go_sem]) (by simp [go_sem]) (by simp [go_sem])).mono ?_
  rw [hr.out, er_t]
  rintro e w1 ⟨rfl, hb1⟩
  have hK := ((((((Kp.start w).add4 _ _ _ _ _).add4 _ _ _ _ _).add4 _ _ _ _ _).add4 _ _ _ _ _).keep ((Below.refl _ _).alloc (Nat.le_refl _) _)).keep hb1
  simp only [World.size_alloc] at hK
  clear hb1
  go_wp2_with fail
  refine (HR.out _ hK.bel).mono ?_
  rintro e w2 ⟨rfl, hb2⟩
  have hK2 := hK.keep hb2
  have hK3 := (hK2.set4 (x := U a) (y := U b) (z := U c) (t := U d) 3 rfl).set4 (x := U a') (y := U b') (z := U c') (t := U d') 2 rfl
  obtain ⟨s0, s1, s2, s3, s4, s5, s6, s7, s8⟩ := hK2.box.head.four
  obtain ⟨r0, r1, r2, r3, r4, r5, r6, r7, r8⟩ := hK2.box.tail.head.four
  obtain ⟨b0, b1, b2, b3, b4, b5, b6, b7, b8⟩ := hK2.box.tail.tail.head.four
  obtain ⟨a0, a1, a2, a3, a4, a5, a6, a7, a8⟩ := hK2.box.tail.tail.tail.head.four
  clear hb2 hK
  go_wp2_with fail
  refine (N1.out _).mono ?_
  rintro e w3 ⟨rfl, hb3⟩
  have hK4 := hK3.keep hb3
  have hK5 := hK4.set4 (x := U x) (y := U y) (z := U z) (t := U t) 3 rfl
  clear s0 s1 s2 s3 s4 s5 s6 s7 s8 r0 r1 r2 r3 r4 r5 r6 r7 r8 b0 b1 b2 b3 b4 b5 b6 b7 b8 a0 a1 a2 a3 a4 a5 a6 a7 a8
  obtain ⟨s0, s1, s2, s3, s4, s5, s6, s7, s8⟩ := hK4.box.head.four
  obtain ⟨r0, r1, r2, r3, r4, r5, r6, r7, r8⟩ := hK4.box.tail.head.four
  obtain ⟨b0, b1, b2, b3, b4, b5, b6, b7, b8⟩ := hK4.box.tail.tail.head.four
  obtain ⟨a0, a1, a2, a3, a4, a5, a6, a7, a8⟩ := hK4.box.tail.tail.tail.head.four
  clear hb3 hK2 hK3
  go_wp2_with fail
  refine (N2.out _).mono ?_
  rintro e w4 ⟨rfl, hb4⟩
  have hK6 := hK5.keep hb4
  have hK7 := hK6.set4 (x := U x') (y := U y') (z := U z') (t := U t') 2 rfl
  clear s0 s1 s2 s3 s4 s5 s6 s7 s8 r0 r1 r2 r3 r4 r5 r6 r7 r8 b0 b1 b2 b3 b4 b5 b6 b7 b8 a0 a1 a2 a3 a4 a5 a6 a7 a8
  obtain ⟨s0, s1, s2, s3, s4, s5, s6, s7, s8⟩ := hK6.box.head.four
  obtain ⟨r0, r1, r2, r3, r4, r5, r6, r7, r8⟩ := hK6.box.tail.head.four
  obtain ⟨b0, b1, b2, b3, b4, b5, b6, b7, b8⟩ := hK6.box.tail.tail.head.four
  obtain ⟨a0, a1, a2, a3, a4, a5, a6, a7, a8⟩ := hK6.box.tail.tail.tail.head.four
  clear hb4 hK4 hK5
  go_upto_region 7 with fail
  clear s0 s1 s2 s3 s4 s5 s6 s7 s8 r0 r1 r2 r3 r4 r5 r6 r7 r8 b0 b1 b2 b3 b4 b5 b6 b7 b8 a0 a1 a2 a3 a4 a5 a6 a7 a8
  clear hK6
  go_cut [52] (fun u wc => u = .bool (!q) ∧ Kp w wc [(w.heap.size + 1 + 1 + 1, [.int .u64 0, .int .u64 0, .int .u64 0, .int .u64 0]), (w.heap.size + 1 + 1, [.int .u64 0, .int .u64 0, .int .u64 0, .int .u64 0]), (w.heap.size + 1, [U x', U y', U z', U t']), (w.heap.size, [U x, U y, U z, U t])])
  case first =>
    cases may
    · go_wp2_with fail
      go_meet
      case rel => exact ⟨by rw [hq.out]; rfl, hK7⟩
    · cases i1
      · go_wp2_with fail
        go_meet
        case rel => exact ⟨by rw [hq.out]; rfl, hK7⟩
      · cases i2
        all_goals
          go_wp2_with fail
          go_meet
          case rel => exact ⟨by rw [hq.out]; rfl, hK7⟩
  case rest =>
    clear hK7 hq
    obtain ⟨rfl, hK8⟩ := hcut
    obtain ⟨s0, s1, s2, s3, s4, s5, s6, s7, s8⟩ := hK8.box.head.four
    obtain ⟨r0, r1, r2, r3, r4, r5, r6, r7, r8⟩ := hK8.box.tail.head.four
    obtain ⟨b0, b1, b2, b3, b4, b5, b6, b7, b8⟩ := hK8.box.tail.tail.head.four
    obtain ⟨a0, a1, a2, a3, a4, a5, a6, a7, a8⟩ := hK8.box.tail.tail.tail.head.four
    cases q
    · go_wp2_with fail
      exact bodyPost_ret (v := .tuple #[V0, V0, .bool false, N 0]) (by simp [results, Try.results111, go_sem, nv_zero, s0, s1, s2, s3, r0, r1, r2, r3]) rfl ⟨rfl, ((hK8.set4 1 rfl).set4 0 rfl).bel⟩
    · go_wp2_with fail
      go_region
      all_goals
        go_wp2_with fail
        exact bodyPost_ret (v := .tuple #[Vl x y z t, Vl x' y' z' t', .bool true, N 0]) (by simp [results, Try.results111, go_sem, s0, s1, s2, s3, r0, r1, r2, r3]) rfl ⟨rfl, Below.drew ((hK8.set4 1 rfl).set4 0 rfl).bel⟩

end Go.Proofs.Ytkigmocchaikgab

/- The contract of the reference's JoinVal, of right ones. -/
namespace Go.Proofs.Ytkigmocchaikgab
open Go.RowKit
attribute [local go_sem] w_and w_or w_xor w_andNot w_and1 w_and63 w_add w_sub w_mul w_sub1 w_add1 w_shl w_shl1 w_shr c_beq c_bne c_beq0 c_bne0 c_beq1 c_bne1 wrap_nv
theorem Kp.drop' {w0 w : World} {p : Nat × List Value} {L : List (Nat × List Value)} (h : Kp w0 w (p :: L)) : Kp w0 w L := ⟨h.bel, h.box.tail, fun q hq => h.lo q (List.mem_cons_of_mem _ hq)⟩
theorem Kp.other1 {w0 w : World} {L : List (Nat × List Value)} (h : Kp w0 w L) {b i : Nat} (v : Value) (hlo : w0.heap.size ≤ b) (hne : ∀ p, p ∈ L → p.1 ≠ b) : Kp w0 (w.setCell ⟨b, i, none⟩ v) L :=
  ⟨h.bel.setCell hlo v, h.box.other hne, h.lo⟩
theorem Kp.other4 {w0 w : World} {L : List (Nat × List Value)} (h : Kp w0 w L) {b : Nat} (x y z t : Value) (hlo : w0.heap.size ≤ b) (hne : ∀ p, p ∈ L → p.1 ≠ b) :
    Kp w0 ((((w.setCell ⟨b, 0, none⟩ x).setCell ⟨b, 1, none⟩ y).setCell ⟨b, 2, none⟩ z).setCell ⟨b, 3, none⟩ t) L :=
  (((h.other1 x hlo hne).other1 y hlo hne).other1 z hlo hne).other1 t hlo hne
end Go.Proofs.Ytkigmocchaikgab

/- The contracts of the functions that Equal and Less hand to leave. -/
namespace Go.Proofs.Ytkigmocchaikgab
open Go.RowKit
attribute [local go_sem] w_and w_or w_xor w_andNot w_and1 w_and63 w_add w_sub w_mul w_sub1 w_add1 w_shl w_shl1 w_shr c_beq c_bne c_beq0 c_bne0 c_beq1 c_bne1 wrap_nv

/- the two that are captured -/
def Cap (w : World) (b1 b2 : Nat) (v m l g v' m' l' g' : BitVec 64) : Prop :=
  b1 < w.heap.size ∧ b2 < w.heap.size ∧ w.cell? ⟨b1, 0, none⟩ = some (U v) ∧ w.cell? ⟨b1, 1, none⟩ = some (U m) ∧ w.cell? ⟨b1, 2, none⟩ = some (U l) ∧ w.cell? ⟨b1, 3, none⟩ = some (U g)
  ∧ w.cell? ⟨b2, 0, none⟩ = some (U v') ∧ w.cell? ⟨b2, 1, none⟩ = some (U m') ∧ w.cell? ⟨b2, 2, none⟩ = some (U l') ∧ w.cell? ⟨b2, 3, none⟩ = some (U g')
theorem Cap.keep {w w' : World} {b1 b2 : Nat} {v m l g v' m' l' g' : BitVec 64} (h : Cap w b1 b2 v m l g v' m' l' g') (hb : Below w.heap.size w w') : Cap w' b1 b2 v m l g v' m' l' g' := by
  obtain ⟨s1, s2, a0, a1, a2, a3, c0, c1, c2, c3⟩ := h
  exact ⟨Nat.lt_of_lt_of_le s1 hb.size, Nat.lt_of_lt_of_le s2 hb.size, (hb.cell (p := ⟨b1, 0, none⟩) s1).trans a0, (hb.cell (p := ⟨b1, 1, none⟩) s1).trans a1, (hb.cell (p := ⟨b1, 2, none⟩) s1).trans a2, (hb.cell (p := ⟨b1, 3, none⟩) s1).trans a3,
    (hb.cell (p := ⟨b2, 0, none⟩) s2).trans c0, (hb.cell (p := ⟨b2, 1, none⟩) s2).trans c1, (hb.cell (p := ⟨b2, 2, none⟩) s2).trans c2, (hb.cell (p := ⟨b2, 3, none⟩) s2).trans c3⟩

set_option maxRecDepth 100000 in
set_option maxHeartbeats 4000000 in
theorem equal1_is {b1 b2 : Nat} {v m l g v' m' l' g' kv km lo hi : BitVec 64} {may : Bool} {w : World} (hc : Hid (Cap w b1 b2 v m l g v' m' l' g'))
    (HM : Hid (∀ w, Calls Try.prog 102 #[Bt v m, Bt v' m'] w fun e w' => e = .returned (.tuple #[Bt kv km, .bool may, N 0]) ∧ Below w.heap.size w w'))
    (m1 : Hid (bmax l l' = lo)) (m2 : Hid (bmin g g' = hi)) :
    Calls Try.prog 115 #[PT b1, PT b2] w fun e w' => e = .returned (.tuple #[Vl kv km lo hi, Vl kv km lo hi, .bool may]) ∧ Below w.heap.size w w' := by
  have e1 : (if nv l < nv l' then nv l' else nv l) = nv lo := by rw [← m1.out]; unfold bmax; split <;> rfl
  have e2 : (if nv g' < nv g then nv g' else nv g) = nv hi := by rw [← m2.out]; unfold bmin; split <;> rfl
  obtain ⟨s1, s2, a0, a1, a2, a3, c0, c1, c2, c3⟩ := hc.out
  go_enter Try.func115, Try.ntmps115
  go_wp2_with fail
  refine (HM.out _).mono ?_
  rintro e w1 ⟨rfl, hb1⟩
  have hK := (((Kp.start w).add4 _ _ _ _ _).add4 _ _ _ _ _).keep hb1
  simp only [World.size_alloc] at hK
  have hcc := hc.out.keep hK.bel
  clear s1 s2 a0 a1 a2 a3 c0 c1 c2 c3
  obtain ⟨s1, s2, a0, a1, a2, a3, c0, c1, c2, c3⟩ := hcc
  obtain ⟨t0, t1, t2, t3, t4, t5, t6, t7, t8⟩ := hK.box.head.four
  obtain ⟨r0, r1, r2, r3, r4, r5, r6, r7, r8⟩ := hK.box.tail.head.four
  go_wp2_with fail
  have hK2 := (hK.add2 (U kv) (U km) 39).add4 (U kv) (U km) (U lo) (U hi) 41
  simp only [World.size_alloc] at hK2
  have n1 : w.heap.size ≠ w1.heap.size + 1 := by omega
  have n2 : w1.heap.size + 1 ≠ w.heap.size := by omega
  have n3 : w.heap.size ≠ w1.heap.size := by omega
  have n4 : w1.heap.size ≠ w.heap.size := by omega
  have n5 : w.heap.size + 1 ≠ w1.heap.size := by omega
  have n6 : w1.heap.size ≠ w.heap.size + 1 := by omega
  clear t0 t1 t2 t3 t4 t5 t6 t7 t8 r0 r1 r2 r3 r4 r5 r6 r7 r8
  obtain ⟨k0, k1, k2, k3, k4, k5, k6, k7, k8⟩ := hK2.box.head.four
  obtain ⟨t0, t1, t2, t3, t4, t5, t6, t7, t8⟩ := hK2.box.tail.tail.head.four
  obtain ⟨r0, r1, r2, r3, r4, r5, r6, r7, r8⟩ := hK2.box.tail.tail.tail.head.four
  go_region
  all_goals
    go_wp2_with fail
    refine bodyPost_ret (v := .tuple #[Vl kv km lo hi, Vl kv km lo hi, .bool may]) ?_ rfl ⟨rfl, ?_⟩
    · simp [results, Try.results115, go_sem, t0, t1, t2, t3, r0, r1, r2, r3]
    · exact Below.drew ((hK2.set4 3 rfl).set4 2 rfl).bel

set_option maxRecDepth 100000 in
set_option maxHeartbeats 4000000 in
theorem notLess1_is {b1 b2 : Nat} {v m l g v' m' l' g' : BitVec 64} {w : World} (hc : Hid (Cap w b1 b2 v m l g v' m' l' g')) :
    Calls Try.prog 116 #[PT b1, PT b2] w fun e w' => e = .returned (.tuple #[Vl v m (bmax l l') (bmin g g), Vl v' m' (bmax l' l') (bmin g' g), .bool true]) ∧ Below w.heap.size w w' := by
  obtain ⟨s1, s2, a0, a1, a2, a3, c0, c1, c2, c3⟩ := hc.out
  have hK0 := ((Kp.start w).add4 (.int .u64 0) (.int .u64 0) (.int .u64 0) (.int .u64 0) 41).add4 (.int .u64 0) (.int .u64 0) (.int .u64 0) (.int .u64 0) 41
  simp only [World.size_alloc] at hK0
  go_enter Try.func116, Try.ntmps116
  go_wp2_with fail
  have hS0 : Kp w _ [] := (hK0).drop'.drop'.keep (Below.drew (Below.refl _ _))
  have hR0 := (hK0).keep (Below.drew (Below.refl _ _))
  have HS : Hid (∀ w', Kp w w' [] → Kp w w' [] ∧ w'.cell? ⟨b1, 0, none⟩ = some (U v) ∧ w'.cell? ⟨b1, 1, none⟩ = some (U m) ∧ w'.cell? ⟨b1, 2, none⟩ = some (U l) ∧ w'.cell? ⟨b1, 3, none⟩ = some (U g) ∧ w'.cell? ⟨b2, 0, none⟩ = some (U v') ∧ w'.cell? ⟨b2, 1, none⟩ = some (U m') ∧ w'.cell? ⟨b2, 2, none⟩ = some (U l') ∧ w'.cell? ⟨b2, 3, none⟩ = some (U g')) := by
    intro w' hk
    obtain ⟨_, _, d0, d1, d2, d3, f0, f1, f2, f3⟩ := hc.out.keep hk.bel
    exact ⟨hk, d0, d1, d2, d3, f0, f1, f2, f3⟩
  go_region_held3 (fun w' => Kp w w' [] ∧ w'.cell? ⟨b1, 0, none⟩ = some (U v) ∧ w'.cell? ⟨b1, 1, none⟩ = some (U m) ∧ w'.cell? ⟨b1, 2, none⟩ = some (U l) ∧ w'.cell? ⟨b1, 3, none⟩ = some (U g) ∧ w'.cell? ⟨b2, 0, none⟩ = some (U v') ∧ w'.cell? ⟨b2, 1, none⟩ = some (U m') ∧ w'.cell? ⟨b2, 2, none⟩ = some (U l') ∧ w'.cell? ⟨b2, 3, none⟩ = some (U g'))
    ((refine HS.out _ ?_; repeat (first | refine Kp.other4 ?_ _ _ _ _ (by first | exact Nat.le_refl _ | omega) (by simp) | exact hS0 | refine Kp.keep ?_ (by assumption) | refine Kp.keep ?_ (Below.drew (Below.refl _ _)))))
    (first
      | (go_at_call 117; refine (between_any _ _ _ _ _ _ _).mono ?_; rintro e wk ⟨rfl, hb⟩; first | (have hR2 := hR1.keep hb; obtain ⟨t0, t1, t2, t3, t4, t5, t6, t7, t8⟩ := hR2.box.head.four; obtain ⟨r0, r1, r2, r3, r4, r5, r6, r7, r8⟩ := hR2.box.tail.head.four) | (have hR1 := hR0.keep hb)))
  all_goals
    go_wp2_with fail
    refine bodyPost_ret (v := .tuple #[Vl v m (bmax l l') (bmin g g), Vl v' m' (bmax l' l') (bmin g' g), .bool true]) ?_ rfl ⟨rfl, ?_⟩
    · simp [results, Try.results116, go_sem, t0, t1, t2, t3, r0, r1, r2, r3]
    · exact ((hR2.set4 1 rfl).set4 0 rfl).bel

end Go.Proofs.Ytkigmocchaikgab

/- The contracts of the functions that Less and Other hand to leave. (Written by gen_w28.py.) -/
namespace Go.Proofs.Ytkigmocchaikgab
open Go.RowKit
attribute [local go_sem] w_and w_or w_xor w_andNot w_and1 w_and63 w_add w_sub w_mul w_sub1 w_add1 w_shl w_shl1 w_shr c_beq c_bne c_beq0 c_bne0 c_beq1 c_bne1 wrap_nv
theorem c_beqT (x : BitVec 64) : (nv x == 18446744073709551615) = eqb x top := by rw [← nv_top]; exact c_beq x top
attribute [local go_sem] c_beqT

set_option maxRecDepth 100000 in
set_option maxHeartbeats 4000000 in
theorem less1_no {b1 b2 : Nat} {v m l g v' m' l' g' : BitVec 64} {w : World} (hc : Hid (Cap w b1 b2 v' m' l' g' v m l g)) (hn : Hid ((eqb g' zero || eqb l top) = true)) :
    Calls Try.prog 118 #[PT b1, PT b2] w fun e w' => e = .returned (.tuple #[Vl v m l g, Vl v' m' l' g', .bool false]) ∧ Below w.heap.size w w' := by
  obtain ⟨s1, s2, a0, a1, a2, a3, c0, c1, c2, c3⟩ := hc.out
  have hK0 := ((Kp.start w).add4 (.int .u64 0) (.int .u64 0) (.int .u64 0) (.int .u64 0) 41).add4 (.int .u64 0) (.int .u64 0) (.int .u64 0) (.int .u64 0) 41
  simp only [World.size_alloc] at hK0
  obtain ⟨t0, t1, t2, t3, t4, t5, t6, t7, t8⟩ := hK0.box.head.four
  obtain ⟨r0, r1, r2, r3, r4, r5, r6, r7, r8⟩ := hK0.box.tail.head.four
  have n1 : b1 ≠ w.heap.size := by omega
  have n2 : b2 ≠ w.heap.size := by omega
  have n3 : w.heap.size ≠ b1 := by omega
  have n4 : w.heap.size ≠ b2 := by omega
  have n5 : b1 ≠ w.heap.size + 1 := by omega
  have n6 : b2 ≠ w.heap.size + 1 := by omega
  have n7 : w.heap.size + 1 ≠ b1 := by omega
  have n8 : w.heap.size + 1 ≠ b2 := by omega
  cases z1 : eqb g' zero
  · have z2 : eqb l top = true := by have := hn.out; rw [z1] at this; simpa using this
    go_enter Try.func118, Try.ntmps118
    go_wp2_with fail
    go_region
    all_goals
      go_wp2_with fail
      refine bodyPost_ret (v := .tuple #[Vl v m l g, Vl v' m' l' g', .bool false]) ?_ rfl ⟨rfl, ?_⟩
      · simp [results, Try.results118, go_sem]
      · exact (by repeat (first | exact Below.refl _ _ | assumption | refine below_drewN ?_ _ | refine Below.drew ?_ | refine Below.alloc ?_ (by first | exact Nat.le_refl _ | (simp; done) | (simp; omega) | omega) _ | refine Below.setCell ?_ (by first | exact Nat.le_refl _ | (simp; done) | (simp; omega) | omega) _ | refine Below.trans ?_ (Below.mono (by assumption) (by first | exact Nat.le_refl _ | (simp; done) | (simp; omega) | omega))))
  · go_enter Try.func118, Try.ntmps118
    go_wp2_with fail
    go_region
    all_goals
      go_wp2_with fail
      refine bodyPost_ret (v := .tuple #[Vl v m l g, Vl v' m' l' g', .bool false]) ?_ rfl ⟨rfl, ?_⟩
      · simp [results, Try.results118, go_sem]
      · exact (by repeat (first | exact Below.refl _ _ | assumption | refine below_drewN ?_ _ | refine Below.drew ?_ | refine Below.alloc ?_ (by first | exact Nat.le_refl _ | (simp; done) | (simp; omega) | omega) _ | refine Below.setCell ?_ (by first | exact Nat.le_refl _ | (simp; done) | (simp; omega) | omega) _ | refine Below.trans ?_ (Below.mono (by assumption) (by first | exact Nat.le_refl _ | (simp; done) | (simp; omega) | omega))))
set_option maxRecDepth 100000 in
set_option maxHeartbeats 4000000 in
theorem less1_yes {b1 b2 : Nat} {v m l g v' m' l' g' : BitVec 64} {w : World} (hc : Hid (Cap w b1 b2 v' m' l' g' v m l g)) (z1 : eqb g' zero = false) (z2 : eqb l top = false) :
    Calls Try.prog 118 #[PT b1, PT b2] w fun e w' => e = .returned (.tuple #[Vl v m (bmax l l) (bmin g (bsub g' one)), Vl v' m' (bmax l' (badd l one)) (bmin g' g'), .bool true]) ∧ Below w.heap.size w w' := by
  obtain ⟨s1, s2, a0, a1, a2, a3, c0, c1, c2, c3⟩ := hc.out
  have hK0 := ((Kp.start w).add4 (.int .u64 0) (.int .u64 0) (.int .u64 0) (.int .u64 0) 41).add4 (.int .u64 0) (.int .u64 0) (.int .u64 0) (.int .u64 0) 41
  simp only [World.size_alloc] at hK0
  go_enter Try.func118, Try.ntmps118
  go_wp2_with fail
  go_quiet (fail)
  go_wp2_with fail
  have hS0 : Kp w _ [] := (hK0.drew nq).drop'.drop'.keep (Below.drew (Below.refl _ _))
  have hR0 := (hK0.drew nq).keep (Below.drew (Below.refl _ _))
  have HS : Hid (∀ w', Kp w w' [] → Kp w w' [] ∧ w'.cell? ⟨b1, 0, none⟩ = some (U v') ∧ w'.cell? ⟨b1, 1, none⟩ = some (U m') ∧ w'.cell? ⟨b1, 2, none⟩ = some (U l') ∧ w'.cell? ⟨b1, 3, none⟩ = some (U g') ∧ w'.cell? ⟨b2, 0, none⟩ = some (U v) ∧ w'.cell? ⟨b2, 1, none⟩ = some (U m) ∧ w'.cell? ⟨b2, 2, none⟩ = some (U l) ∧ w'.cell? ⟨b2, 3, none⟩ = some (U g)) := by
    intro w' hk
    obtain ⟨_, _, d0, d1, d2, d3, f0, f1, f2, f3⟩ := hc.out.keep hk.bel
    exact ⟨hk, d0, d1, d2, d3, f0, f1, f2, f3⟩
  go_region_held3 (fun w' => Kp w w' [] ∧ w'.cell? ⟨b1, 0, none⟩ = some (U v') ∧ w'.cell? ⟨b1, 1, none⟩ = some (U m') ∧ w'.cell? ⟨b1, 2, none⟩ = some (U l') ∧ w'.cell? ⟨b1, 3, none⟩ = some (U g') ∧ w'.cell? ⟨b2, 0, none⟩ = some (U v) ∧ w'.cell? ⟨b2, 1, none⟩ = some (U m) ∧ w'.cell? ⟨b2, 2, none⟩ = some (U l) ∧ w'.cell? ⟨b2, 3, none⟩ = some (U g))
    ((refine HS.out _ ?_; repeat (first | refine Kp.other4 ?_ _ _ _ _ (by first | exact Nat.le_refl _ | omega) (by simp) | exact hS0 | refine Kp.keep ?_ (by assumption) | refine Kp.keep ?_ (Below.drew (Below.refl _ _)))))
    (first
      | (go_at_call 117; refine (between_any _ _ _ _ _ _ _).mono ?_; rintro e wk ⟨rfl, hb⟩; first | (have hR2 := hR1.keep hb; obtain ⟨t0, t1, t2, t3, t4, t5, t6, t7, t8⟩ := hR2.box.head.four; obtain ⟨r0, r1, r2, r3, r4, r5, r6, r7, r8⟩ := hR2.box.tail.head.four) | (have hR1 := hR0.keep hb)))
  all_goals
    go_wp2_with fail
    refine bodyPost_ret (v := .tuple #[Vl v m (bmax l l) (bmin g (bsub g' one)), Vl v' m' (bmax l' (badd l one)) (bmin g' g'), .bool true]) ?_ rfl ⟨rfl, ?_⟩
    · simp [results, Try.results118, go_sem, t0, t1, t2, t3, r0, r1, r2, r3]
    · exact ((hR2.set4 1 rfl).set4 0 rfl).bel

set_option maxRecDepth 100000 in
set_option maxHeartbeats 4000000 in
theorem other1_is {b1 b2 : Nat} {v m l g v' m' l' g' : BitVec 64} {w : World} {q : Bool} (hc : Hid (Cap w b1 b2 v m l g v' m' l' g')) (hq : Hid (q = (eqb l g && (eqb l' g' && eqb l l')))) :
    Calls Try.prog 112 #[PT b1, PT b2] w fun e w' => e = .returned (.tuple #[Vl v m (woL l l' g') (woH l g l' g'), Vl v' m' (woL l' l g) (woH l' g' l g), .bool (!q)]) ∧ Below w.heap.size w w' := by
  obtain ⟨s1, s2, a0, a1, a2, a3, c0, c1, c2, c3⟩ := hc.out
  obtain ⟨y1, Y1⟩ : ∃ b, Hid (eqb l g = b) := ⟨_, rfl⟩
  obtain ⟨y2, Y2⟩ : ∃ b, Hid (eqb l' g' = b) := ⟨_, rfl⟩
  obtain ⟨y3, Y3⟩ : ∃ b, eqb l l' = b := ⟨_, rfl⟩
  rw [Y1.out, Y2.out, Y3] at hq
  have hK0 := ((Kp.start w).add4 (.int .u64 0) (.int .u64 0) (.int .u64 0) (.int .u64 0) 41).add4 (.int .u64 0) (.int .u64 0) (.int .u64 0) (.int .u64 0) 41
  simp only [World.size_alloc] at hK0
  go_enter Try.func112, Try.ntmps112
  go_upto_region 1 with fail
  go_cut [5] (fun u wc => u = .bool q ∧ Kp w wc [(w.heap.size + 1, [.int .u64 0, .int .u64 0, .int .u64 0, .int .u64 0]), (w.heap.size, [.int .u64 0, .int .u64 0, .int .u64 0, .int .u64 0])])
  case first =>
    go_wp2_with fail
    refine (alone_is Y1.out _).mono ?_
    rintro e w1 ⟨rfl, hb1⟩
    have hK1 := hK0.keep hb1
    clear s1 s2 a0 a1 a2 a3 c0 c1 c2 c3
    obtain ⟨s1, s2, a0, a1, a2, a3, c0, c1, c2, c3⟩ := hc.out.keep hK1.bel
    cases y1
    · go_wp2_with fail
      go_meet
      case rel => exact ⟨by rw [hq.out]; rfl, hK1⟩
    · go_wp2_with fail
      refine (alone_is Y2.out _).mono ?_
      rintro e w2 ⟨rfl, hb2⟩
      have hK2 := hK1.keep hb2
      clear s1 s2 a0 a1 a2 a3 c0 c1 c2 c3
      obtain ⟨s1, s2, a0, a1, a2, a3, c0, c1, c2, c3⟩ := hc.out.keep hK2.bel
      cases y2
      · go_wp2_with fail
        go_meet
        case rel => exact ⟨by rw [hq.out]; rfl, hK2⟩
      · cases y3
        all_goals
          go_wp2_with fail
          go_meet
          case rel => exact ⟨by rw [hq.out]; rfl, hK2⟩
  case rest =>
    clear hK0 hq Y1 Y2 Y3 s1 s2 a0 a1 a2 a3 c0 c1 c2 c3
    obtain ⟨rfl, hK0⟩ := hcut
    obtain ⟨s1, s2, a0, a1, a2, a3, c0, c1, c2, c3⟩ := hc.out.keep hK0.bel
    go_wp2_with fail
    have hS0 : Kp w _ [] := (hK0).drop'.drop'.keep (Below.drew (Below.refl _ _))
    have hR0 := (hK0).keep (Below.drew (Below.refl _ _))
    have HS : Hid (∀ w', Kp w w' [] → Kp w w' [] ∧ w'.cell? ⟨b1, 0, none⟩ = some (U v) ∧ w'.cell? ⟨b1, 1, none⟩ = some (U m) ∧ w'.cell? ⟨b1, 2, none⟩ = some (U l) ∧ w'.cell? ⟨b1, 3, none⟩ = some (U g) ∧ w'.cell? ⟨b2, 0, none⟩ = some (U v') ∧ w'.cell? ⟨b2, 1, none⟩ = some (U m') ∧ w'.cell? ⟨b2, 2, none⟩ = some (U l') ∧ w'.cell? ⟨b2, 3, none⟩ = some (U g')) := by
      intro w' hk
      obtain ⟨_, _, d0, d1, d2, d3, f0, f1, f2, f3⟩ := hc.out.keep hk.bel
      exact ⟨hk, d0, d1, d2, d3, f0, f1, f2, f3⟩
    go_region_held3 (fun w' => Kp w w' [] ∧ w'.cell? ⟨b1, 0, none⟩ = some (U v) ∧ w'.cell? ⟨b1, 1, none⟩ = some (U m) ∧ w'.cell? ⟨b1, 2, none⟩ = some (U l) ∧ w'.cell? ⟨b1, 3, none⟩ = some (U g) ∧ w'.cell? ⟨b2, 0, none⟩ = some (U v') ∧ w'.cell? ⟨b2, 1, none⟩ = some (U m') ∧ w'.cell? ⟨b2, 2, none⟩ = some (U l') ∧ w'.cell? ⟨b2, 3, none⟩ = some (U g'))
      ((refine HS.out _ ?_; repeat (first | refine Kp.other4 ?_ _ _ _ _ (by first | exact Nat.le_refl _ | omega) (by simp) | exact hS0 | refine Kp.keep ?_ (by assumption) | refine Kp.keep ?_ (Below.drew (Below.refl _ _)))))
      (first
        | (go_at_call 114; refine (without_is _ _ _ _ _ _ _ _ _).mono ?_; rintro e wk ⟨rfl, hb⟩; first | (have hR2 := hR1.keep hb; obtain ⟨t0, t1, t2, t3, t4, t5, t6, t7, t8⟩ := hR2.box.head.four; obtain ⟨r0, r1, r2, r3, r4, r5, r6, r7, r8⟩ := hR2.box.tail.head.four) | (have hR1 := hR0.keep hb)))
    all_goals
      go_wp2_with fail
      refine bodyPost_ret (v := .tuple #[Vl v m (woL l l' g') (woH l g l' g'), Vl v' m' (woL l' l g) (woH l' g' l g), .bool (!q)]) ?_ rfl ⟨rfl, ?_⟩
      · simp [results, Try.results112, go_sem, t0, t1, t2, t3, r0, r1, r2, r3]
      · exact ((hR2.set4 1 rfl).set4 0 rfl).bel

end Go.Proofs.Ytkigmocchaikgab

/- The contracts of package calc's Equal, Other, Less and NotLess, over what leave is handed. (Written by gen_w29.py.) -/
namespace Go.Proofs.Ytkigmocchaikgab
open Go.RowKit
attribute [local go_sem] w_and w_or w_xor w_andNot w_and1 w_and63 w_add w_sub w_mul w_sub1 w_add1 w_shl w_shl1 w_shr c_beq c_bne c_beq0 c_bne0 c_beq1 c_bne1 wrap_nv

set_option maxRecDepth 100000 in
set_option maxHeartbeats 4000000 in
theorem calcEqual_right {v m l g v' m' l' g' a b c d a' b' c' d' x y z t x' y' z' t' : BitVec 64} {may i1 i2 : Bool} {e1 e2 : Int} (hr : Hid ((valB v m l g && valB v' m' l' g') = true)) (w : World)
    (HR : Hid (∀ (B : Nat) w', Cap w' B (B + 1) v m l g v' m' l' g' → Calls Try.prog 115 #[PT B, PT (B + 1)] w' fun e w'' => e = .returned (.tuple #[Vl a b c d, Vl a' b' c' d', .bool may]) ∧ Below w'.heap.size w' w''))
    (N1 : Hid (∀ w, Calls Try.prog 65 #[Vl a b c d] w fun e w' => e = .returned (.tuple #[Vl x y z t, .bool i1, N e1]) ∧ Below w.heap.size w w'))
    (N2 : Hid (∀ w, Calls Try.prog 65 #[Vl a' b' c' d'] w fun e w' => e = .returned (.tuple #[Vl x' y' z' t', .bool i2, N e2]) ∧ Below w.heap.size w w')) :
    Calls Try.prog 78 #[Vl v m l g, Vl v' m' l' g'] w fun e w' => e = .returned (.tuple #[lv (may && (i1 && i2)) (Vl x y z t), lv (may && (i1 && i2)) (Vl x' y' z' t'), .bool (may && (i1 && i2)), N 0]) ∧ Below w.heap.size w w' := by
  have hK0 := ((((Kp.start w).add4 (U v) (U m) (U l) (U g) 41).add4 (U v') (U m') (U l') (U g') 41).add4 (.int .u64 0) (.int .u64 0) (.int .u64 0) (.int .u64 0) 41).add4 (.int .u64 0) (.int .u64 0) (.int .u64 0) (.int .u64 0) 41
  simp only [World.size_alloc] at hK0
  have HC : Hid (∀ w', Below ((((w.alloc (.cells #[U v, U m, U l, U g] 41)).alloc (.cells #[U v', U m', U l', U g'] 41)).alloc (.cells #[.int .u64 0, .int .u64 0, .int .u64 0, .int .u64 0] 41)).alloc (.cells #[.int .u64 0, .int .u64 0, .int .u64 0, .int .u64 0] 41)).heap.size ((((w.alloc (.cells #[U v, U m, U l, U g] 41)).alloc (.cells #[U v', U m', U l', U g'] 41)).alloc (.cells #[.int .u64 0, .int .u64 0, .int .u64 0, .int .u64 0] 41)).alloc (.cells #[.int .u64 0, .int .u64 0, .int .u64 0, .int .u64 0] 41)) w' → Cap w' w.heap.size (w.heap.size + 1) v m l g v' m' l' g') := by
    intro w' hb
    have hk := hK0.keep hb
    obtain ⟨b0, b1, b2, b3, _, _, _, _, b8⟩ := hk.box.tail.tail.head.four
    obtain ⟨a0, a1, a2, a3, _, _, _, _, a8⟩ := hk.box.tail.tail.tail.head.four
    exact ⟨a8, b8, a0, a1, a2, a3, b0, b1, b2, b3⟩
  obtain ⟨q, hq⟩ : ∃ q, Hid (q = (may && (i1 && i2))) := ⟨_, rfl⟩
  have HL : Hid (Calls Try.prog 111 #[Vl v m l g, Vl v' m' l' g', .func (.func 115) #[] #[PT w.heap.size, PT (w.heap.size + 1)]] ((((w.alloc (.cells #[U v, U m, U l, U g] 41)).alloc (.cells #[U v', U m', U l', U g'] 41)).alloc (.cells #[.int .u64 0, .int .u64 0, .int .u64 0, .int .u64 0] 41)).alloc (.cells #[.int .u64 0, .int .u64 0, .int .u64 0, .int .u64 0] 41)) fun e w' => e = .returned (.tuple #[lv q (Vl x y z t), lv q (Vl x' y' z' t'), .bool q, N 0]) ∧ Below ((((w.alloc (.cells #[U v, U m, U l, U g] 41)).alloc (.cells #[U v', U m', U l', U g'] 41)).alloc (.cells #[.int .u64 0, .int .u64 0, .int .u64 0, .int .u64 0] 41)).alloc (.cells #[.int .u64 0, .int .u64 0, .int .u64 0, .int .u64 0] 41)).heap.size ((((w.alloc (.cells #[U v, U m, U l, U g] 41)).alloc (.cells #[U v', U m', U l', U g'] 41)).alloc (.cells #[.int .u64 0, .int .u64 0, .int .u64 0, .int .u64 0] 41)).alloc (.cells #[.int .u64 0, .int .u64 0, .int .u64 0, .int .u64 0] 41)) w') := by
    show Calls _ _ _ _ _
    rw [hq.out]
    exact leave_Equal hr _ (hid (fun w' hb => HR.out w.heap.size w' (HC.out w' hb))) N1 N2
  rw [← hq.out]
  clear hq N1 N2 HR HC hr
  go_enter Try.func78, Try.ntmps78
  go_wp2_with fail
  refine HL.out.mono ?_
  rintro e w1 ⟨rfl, hb1⟩
  have hK := hK0.keep hb1
  clear HL
  obtain ⟨s0, s1, s2, s3, s4, s5, s6, s7, s8⟩ := hK.box.head.four
  obtain ⟨r0, r1, r2, r3, r4, r5, r6, r7, r8⟩ := hK.box.tail.head.four
  obtain ⟨b0, b1, b2, b3, b4, b5, b6, b7, b8⟩ := hK.box.tail.tail.head.four
  obtain ⟨a0, a1, a2, a3, a4, a5, a6, a7, a8⟩ := hK.box.tail.tail.tail.head.four
  cases q
  · have e0 : ∀ a, lv false a = V0 := fun a => rfl
    simp only [e0]
    go_wp2_with fail
    exact bodyPost_ret (v := .tuple #[V0, V0, .bool false, N 0]) (by simp [results, Try.results78, go_sem, s0, s1, s2, s3, r0, r1, r2, r3]) rfl ⟨rfl, ((hK.set4 1 rfl).set4 0 rfl).bel⟩
  · have e0 : ∀ a, lv true a = a := fun a => rfl
    simp only [e0]
    go_wp2_with fail
    exact bodyPost_ret (v := .tuple #[Vl x y z t, Vl x' y' z' t', .bool true, N 0]) (by simp [results, Try.results78, go_sem, s0, s1, s2, s3, r0, r1, r2, r3]) rfl ⟨rfl, ((hK.set4 1 rfl).set4 0 rfl).bel⟩

set_option maxRecDepth 100000 in
set_option maxHeartbeats 4000000 in
theorem calcOther_right {v m l g v' m' l' g' a b c d a' b' c' d' x y z t x' y' z' t' : BitVec 64} {may i1 i2 : Bool} {e1 e2 : Int} (hr : Hid ((valB v m l g && valB v' m' l' g') = true)) (w : World)
    (HR : Hid (∀ (B : Nat) w', Cap w' B (B + 1) v m l g v' m' l' g' → Calls Try.prog 112 #[PT B, PT (B + 1)] w' fun e w'' => e = .returned (.tuple #[Vl a b c d, Vl a' b' c' d', .bool may]) ∧ Below w'.heap.size w' w''))
    (N1 : Hid (∀ w, Calls Try.prog 65 #[Vl a b c d] w fun e w' => e = .returned (.tuple #[Vl x y z t, .bool i1, N e1]) ∧ Below w.heap.size w w'))
    (N2 : Hid (∀ w, Calls Try.prog 65 #[Vl a' b' c' d'] w fun e w' => e = .returned (.tuple #[Vl x' y' z' t', .bool i2, N e2]) ∧ Below w.heap.size w w')) :
    Calls Try.prog 77 #[Vl v m l g, Vl v' m' l' g'] w fun e w' => e = .returned (.tuple #[lv (may && (i1 && i2)) (Vl x y z t), lv (may && (i1 && i2)) (Vl x' y' z' t'), .bool (may && (i1 && i2)), N 0]) ∧ Below w.heap.size w w' := by
  have hK0 := ((((Kp.start w).add4 (U v) (U m) (U l) (U g) 41).add4 (U v') (U m') (U l') (U g') 41).add4 (.int .u64 0) (.int .u64 0) (.int .u64 0) (.int .u64 0) 41).add4 (.int .u64 0) (.int .u64 0) (.int .u64 0) (.int .u64 0) 41
  simp only [World.size_alloc] at hK0
  have HC : Hid (∀ w', Below ((((w.alloc (.cells #[U v, U m, U l, U g] 41)).alloc (.cells #[U v', U m', U l', U g'] 41)).alloc (.cells #[.int .u64 0, .int .u64 0, .int .u64 0, .int .u64 0] 41)).alloc (.cells #[.int .u64 0, .int .u64 0, .int .u64 0, .int .u64 0] 41)).heap.size ((((w.alloc (.cells #[U v, U m, U l, U g] 41)).alloc (.cells #[U v', U m', U l', U g'] 41)).alloc (.cells #[.int .u64 0, .int .u64 0, .int .u64 0, .int .u64 0] 41)).alloc (.cells #[.int .u64 0, .int .u64 0, .int .u64 0, .int .u64 0] 41)) w' → Cap w' w.heap.size (w.heap.size + 1) v m l g v' m' l' g') := by
    intro w' hb
    have hk := hK0.keep hb
    obtain ⟨b0, b1, b2, b3, _, _, _, _, b8⟩ := hk.box.tail.tail.head.four
    obtain ⟨a0, a1, a2, a3, _, _, _, _, a8⟩ := hk.box.tail.tail.tail.head.four
    exact ⟨a8, b8, a0, a1, a2, a3, b0, b1, b2, b3⟩
  obtain ⟨q, hq⟩ : ∃ q, Hid (q = (may && (i1 && i2))) := ⟨_, rfl⟩
  have HL : Hid (Calls Try.prog 111 #[Vl v m l g, Vl v' m' l' g', .func (.func 112) #[] #[PT w.heap.size, PT (w.heap.size + 1)]] ((((w.alloc (.cells #[U v, U m, U l, U g] 41)).alloc (.cells #[U v', U m', U l', U g'] 41)).alloc (.cells #[.int .u64 0, .int .u64 0, .int .u64 0, .int .u64 0] 41)).alloc (.cells #[.int .u64 0, .int .u64 0, .int .u64 0, .int .u64 0] 41)) fun e w' => e = .returned (.tuple #[lv q (Vl x y z t), lv q (Vl x' y' z' t'), .bool q, N 0]) ∧ Below ((((w.alloc (.cells #[U v, U m, U l, U g] 41)).alloc (.cells #[U v', U m', U l', U g'] 41)).alloc (.cells #[.int .u64 0, .int .u64 0, .int .u64 0, .int .u64 0] 41)).alloc (.cells #[.int .u64 0, .int .u64 0, .int .u64 0, .int .u64 0] 41)).heap.size ((((w.alloc (.cells #[U v, U m, U l, U g] 41)).alloc (.cells #[U v', U m', U l', U g'] 41)).alloc (.cells #[.int .u64 0, .int .u64 0, .int .u64 0, .int .u64 0] 41)).alloc (.cells #[.int .u64 0, .int .u64 0, .int .u64 0, .int .u64 0] 41)) w') := by
    show Calls _ _ _ _ _
    rw [hq.out]
    exact leave_Other hr _ (hid (fun w' hb => HR.out w.heap.size w' (HC.out w' hb))) N1 N2
  rw [← hq.out]
  clear hq N1 N2 HR HC hr
  go_enter Try.func77, Try.ntmps77
  go_wp2_with fail
  refine HL.out.mono ?_
  rintro e w1 ⟨rfl, hb1⟩
  have hK := hK0.keep hb1
  clear HL
  obtain ⟨s0, s1, s2, s3, s4, s5, s6, s7, s8⟩ := hK.box.head.four
  obtain ⟨r0, r1, r2, r3, r4, r5, r6, r7, r8⟩ := hK.box.tail.head.four
  obtain ⟨b0, b1, b2, b3, b4, b5, b6, b7, b8⟩ := hK.box.tail.tail.head.four
  obtain ⟨a0, a1, a2, a3, a4, a5, a6, a7, a8⟩ := hK.box.tail.tail.tail.head.four
  cases q
  · have e0 : ∀ a, lv false a = V0 := fun a => rfl
    simp only [e0]
    go_wp2_with fail
    exact bodyPost_ret (v := .tuple #[V0, V0, .bool false, N 0]) (by simp [results, Try.results77, go_sem, s0, s1, s2, s3, r0, r1, r2, r3]) rfl ⟨rfl, ((hK.set4 1 rfl).set4 0 rfl).bel⟩
  · have e0 : ∀ a, lv true a = a := fun a => rfl
    simp only [e0]
    go_wp2_with fail
    exact bodyPost_ret (v := .tuple #[Vl x y z t, Vl x' y' z' t', .bool true, N 0]) (by simp [results, Try.results77, go_sem, s0, s1, s2, s3, r0, r1, r2, r3]) rfl ⟨rfl, ((hK.set4 1 rfl).set4 0 rfl).bel⟩

set_option maxRecDepth 100000 in
set_option maxHeartbeats 4000000 in
theorem calcLess_right {v m l g v' m' l' g' a b c d a' b' c' d' x y z t x' y' z' t' : BitVec 64} {may i1 i2 : Bool} {e1 e2 : Int} (hr : Hid ((valB v m l g && valB v' m' l' g') = true)) (w : World)
    (HR : Hid (∀ (B : Nat) w', Cap w' (B + 1) B v' m' l' g' v m l g → Calls Try.prog 118 #[PT (B + 1), PT B] w' fun e w'' => e = .returned (.tuple #[Vl a b c d, Vl a' b' c' d', .bool may]) ∧ Below w'.heap.size w' w''))
    (N1 : Hid (∀ w, Calls Try.prog 65 #[Vl a b c d] w fun e w' => e = .returned (.tuple #[Vl x y z t, .bool i1, N e1]) ∧ Below w.heap.size w w'))
    (N2 : Hid (∀ w, Calls Try.prog 65 #[Vl a' b' c' d'] w fun e w' => e = .returned (.tuple #[Vl x' y' z' t', .bool i2, N e2]) ∧ Below w.heap.size w w')) :
    Calls Try.prog 80 #[Vl v m l g, Vl v' m' l' g'] w fun e w' => e = .returned (.tuple #[lv (may && (i1 && i2)) (Vl x y z t), lv (may && (i1 && i2)) (Vl x' y' z' t'), .bool (may && (i1 && i2)), N 0]) ∧ Below w.heap.size w w' := by
  have hK0 := ((((Kp.start w).add4 (U v) (U m) (U l) (U g) 41).add4 (U v') (U m') (U l') (U g') 41).add4 (.int .u64 0) (.int .u64 0) (.int .u64 0) (.int .u64 0) 41).add4 (.int .u64 0) (.int .u64 0) (.int .u64 0) (.int .u64 0) 41
  simp only [World.size_alloc] at hK0
  have HC : Hid (∀ w', Below ((((w.alloc (.cells #[U v, U m, U l, U g] 41)).alloc (.cells #[U v', U m', U l', U g'] 41)).alloc (.cells #[.int .u64 0, .int .u64 0, .int .u64 0, .int .u64 0] 41)).alloc (.cells #[.int .u64 0, .int .u64 0, .int .u64 0, .int .u64 0] 41)).heap.size ((((w.alloc (.cells #[U v, U m, U l, U g] 41)).alloc (.cells #[U v', U m', U l', U g'] 41)).alloc (.cells #[.int .u64 0, .int .u64 0, .int .u64 0, .int .u64 0] 41)).alloc (.cells #[.int .u64 0, .int .u64 0, .int .u64 0, .int .u64 0] 41)) w' → Cap w' (w.heap.size + 1) w.heap.size v' m' l' g' v m l g) := by
    intro w' hb
    have hk := hK0.keep hb
    obtain ⟨b0, b1, b2, b3, _, _, _, _, b8⟩ := hk.box.tail.tail.head.four
    obtain ⟨a0, a1, a2, a3, _, _, _, _, a8⟩ := hk.box.tail.tail.tail.head.four
    exact ⟨b8, a8, b0, b1, b2, b3, a0, a1, a2, a3⟩
  obtain ⟨q, hq⟩ : ∃ q, Hid (q = (may && (i1 && i2))) := ⟨_, rfl⟩
  have HL : Hid (Calls Try.prog 111 #[Vl v m l g, Vl v' m' l' g', .func (.func 118) #[] #[PT (w.heap.size + 1), PT w.heap.size]] ((((w.alloc (.cells #[U v, U m, U l, U g] 41)).alloc (.cells #[U v', U m', U l', U g'] 41)).alloc (.cells #[.int .u64 0, .int .u64 0, .int .u64 0, .int .u64 0] 41)).alloc (.cells #[.int .u64 0, .int .u64 0, .int .u64 0, .int .u64 0] 41)) fun e w' => e = .returned (.tuple #[lv q (Vl x y z t), lv q (Vl x' y' z' t'), .bool q, N 0]) ∧ Below ((((w.alloc (.cells #[U v, U m, U l, U g] 41)).alloc (.cells #[U v', U m', U l', U g'] 41)).alloc (.cells #[.int .u64 0, .int .u64 0, .int .u64 0, .int .u64 0] 41)).alloc (.cells #[.int .u64 0, .int .u64 0, .int .u64 0, .int .u64 0] 41)).heap.size ((((w.alloc (.cells #[U v, U m, U l, U g] 41)).alloc (.cells #[U v', U m', U l', U g'] 41)).alloc (.cells #[.int .u64 0, .int .u64 0, .int .u64 0, .int .u64 0] 41)).alloc (.cells #[.int .u64 0, .int .u64 0, .int .u64 0, .int .u64 0] 41)) w') := by
    show Calls _ _ _ _ _
    rw [hq.out]
    exact leave_Less hr _ (hid (fun w' hb => HR.out w.heap.size w' (HC.out w' hb))) N1 N2
  rw [← hq.out]
  clear hq N1 N2 HR HC hr
  go_enter Try.func80, Try.ntmps80
  go_wp2_with fail
  refine HL.out.mono ?_
  rintro e w1 ⟨rfl, hb1⟩
  have hK := hK0.keep hb1
  clear HL
  obtain ⟨s0, s1, s2, s3, s4, s5, s6, s7, s8⟩ := hK.box.head.four
  obtain ⟨r0, r1, r2, r3, r4, r5, r6, r7, r8⟩ := hK.box.tail.head.four
  obtain ⟨b0, b1, b2, b3, b4, b5, b6, b7, b8⟩ := hK.box.tail.tail.head.four
  obtain ⟨a0, a1, a2, a3, a4, a5, a6, a7, a8⟩ := hK.box.tail.tail.tail.head.four
  cases q
  · have e0 : ∀ a, lv false a = V0 := fun a => rfl
    simp only [e0]
    go_wp2_with fail
    exact bodyPost_ret (v := .tuple #[V0, V0, .bool false, N 0]) (by simp [results, Try.results80, go_sem, s0, s1, s2, s3, r0, r1, r2, r3]) rfl ⟨rfl, ((hK.set4 1 rfl).set4 0 rfl).bel⟩
  · have e0 : ∀ a, lv true a = a := fun a => rfl
    simp only [e0]
    go_wp2_with fail
    exact bodyPost_ret (v := .tuple #[Vl x y z t, Vl x' y' z' t', .bool true, N 0]) (by simp [results, Try.results80, go_sem, s0, s1, s2, s3, r0, r1, r2, r3]) rfl ⟨rfl, ((hK.set4 1 rfl).set4 0 rfl).bel⟩

set_option maxRecDepth 100000 in
set_option maxHeartbeats 4000000 in
theorem calcNotLess_right {v m l g v' m' l' g' a b c d a' b' c' d' x y z t x' y' z' t' : BitVec 64} {may i1 i2 : Bool} {e1 e2 : Int} (hr : Hid ((valB v m l g && valB v' m' l' g') = true)) (w : World)
    (HR : Hid (∀ (B : Nat) w', Cap w' B (B + 1) v m l g v' m' l' g' → Calls Try.prog 116 #[PT B, PT (B + 1)] w' fun e w'' => e = .returned (.tuple #[Vl a b c d, Vl a' b' c' d', .bool may]) ∧ Below w'.heap.size w' w''))
    (N1 : Hid (∀ w, Calls Try.prog 65 #[Vl a b c d] w fun e w' => e = .returned (.tuple #[Vl x y z t, .bool i1, N e1]) ∧ Below w.heap.size w w'))
    (N2 : Hid (∀ w, Calls Try.prog 65 #[Vl a' b' c' d'] w fun e w' => e = .returned (.tuple #[Vl x' y' z' t', .bool i2, N e2]) ∧ Below w.heap.size w w')) :
    Calls Try.prog 79 #[Vl v m l g, Vl v' m' l' g'] w fun e w' => e = .returned (.tuple #[lv (may && (i1 && i2)) (Vl x y z t), lv (may && (i1 && i2)) (Vl x' y' z' t'), .bool (may && (i1 && i2)), N 0]) ∧ Below w.heap.size w w' := by
  have hK0 := ((((Kp.start w).add4 (U v) (U m) (U l) (U g) 41).add4 (U v') (U m') (U l') (U g') 41).add4 (.int .u64 0) (.int .u64 0) (.int .u64 0) (.int .u64 0) 41).add4 (.int .u64 0) (.int .u64 0) (.int .u64 0) (.int .u64 0) 41
  simp only [World.size_alloc] at hK0
  have HC : Hid (∀ w', Below ((((w.alloc (.cells #[U v, U m, U l, U g] 41)).alloc (.cells #[U v', U m', U l', U g'] 41)).alloc (.cells #[.int .u64 0, .int .u64 0, .int .u64 0, .int .u64 0] 41)).alloc (.cells #[.int .u64 0, .int .u64 0, .int .u64 0, .int .u64 0] 41)).heap.size ((((w.alloc (.cells #[U v, U m, U l, U g] 41)).alloc (.cells #[U v', U m', U l', U g'] 41)).alloc (.cells #[.int .u64 0, .int .u64 0, .int .u64 0, .int .u64 0] 41)).alloc (.cells #[.int .u64 0, .int .u64 0, .int .u64 0, .int .u64 0] 41)) w' → Cap w' w.heap.size (w.heap.size + 1) v m l g v' m' l' g') := by
    intro w' hb
    have hk := hK0.keep hb
    obtain ⟨b0, b1, b2, b3, _, _, _, _, b8⟩ := hk.box.tail.tail.head.four
    obtain ⟨a0, a1, a2, a3, _, _, _, _, a8⟩ := hk.box.tail.tail.tail.head.four
    exact ⟨a8, b8, a0, a1, a2, a3, b0, b1, b2, b3⟩
  obtain ⟨q, hq⟩ : ∃ q, Hid (q = (may && (i1 && i2))) := ⟨_, rfl⟩
  have HL : Hid (Calls Try.prog 111 #[Vl v m l g, Vl v' m' l' g', .func (.func 116) #[] #[PT w.heap.size, PT (w.heap.size + 1)]] ((((w.alloc (.cells #[U v, U m, U l, U g] 41)).alloc (.cells #[U v', U m', U l', U g'] 41)).alloc (.cells #[.int .u64 0, .int .u64 0, .int .u64 0, .int .u64 0] 41)).alloc (.cells #[.int .u64 0, .int .u64 0, .int .u64 0, .int .u64 0] 41)) fun e w' => e = .returned (.tuple #[lv q (Vl x y z t), lv q (Vl x' y' z' t'), .bool q, N 0]) ∧ Below ((((w.alloc (.cells #[U v, U m, U l, U g] 41)).alloc (.cells #[U v', U m', U l', U g'] 41)).alloc (.cells #[.int .u64 0, .int .u64 0, .int .u64 0, .int .u64 0] 41)).alloc (.cells #[.int .u64 0, .int .u64 0, .int .u64 0, .int .u64 0] 41)).heap.size ((((w.alloc (.cells #[U v, U m, U l, U g] 41)).alloc (.cells #[U v', U m', U l', U g'] 41)).alloc (.cells #[.int .u64 0, .int .u64 0, .int .u64 0, .int .u64 0] 41)).alloc (.cells #[.int .u64 0, .int .u64 0, .int .u64 0, .int .u64 0] 41)) w') := by
    show Calls _ _ _ _ _
    rw [hq.out]
    exact leave_NotLess hr _ (hid (fun w' hb => HR.out w.heap.size w' (HC.out w' hb))) N1 N2
  rw [← hq.out]
  clear hq N1 N2 HR HC hr
  go_enter Try.func79, Try.ntmps79
  go_wp2_with fail
  refine HL.out.mono ?_
  rintro e w1 ⟨rfl, hb1⟩
  have hK := hK0.keep hb1
  clear HL
  obtain ⟨s0, s1, s2, s3, s4, s5, s6, s7, s8⟩ := hK.box.head.four
  obtain ⟨r0, r1, r2, r3, r4, r5, r6, r7, r8⟩ := hK.box.tail.head.four
  obtain ⟨b0, b1, b2, b3, b4, b5, b6, b7, b8⟩ := hK.box.tail.tail.head.four
  obtain ⟨a0, a1, a2, a3, a4, a5, a6, a7, a8⟩ := hK.box.tail.tail.tail.head.four
  cases q
  · have e0 : ∀ a, lv false a = V0 := fun a => rfl
    simp only [e0]
    go_wp2_with fail
    exact bodyPost_ret (v := .tuple #[V0, V0, .bool false, N 0]) (by simp [results, Try.results79, go_sem, s0, s1, s2, s3, r0, r1, r2, r3]) rfl ⟨rfl, ((hK.set4 1 rfl).set4 0 rfl).bel⟩
  · have e0 : ∀ a, lv true a = a := fun a => rfl
    simp only [e0]
    go_wp2_with fail
    exact bodyPost_ret (v := .tuple #[Vl x y z t, Vl x' y' z' t', .bool true, N 0]) (by simp [results, Try.results79, go_sem, s0, s1, s2, s3, r0, r1, r2, r3]) rfl ⟨rfl, ((hK.set4 1 rfl).set4 0 rfl).bel⟩

end Go.Proofs.Ytkigmocchaikgab

/- The contract of the reference's bitOf; what twoBits comes to, as plain functions. -/
namespace Go.Proofs.Ytkigmocchaikgab
open Go.RowKit
attribute [local go_sem] w_and w_or w_xor w_andNot w_and1 w_and63 w_add w_sub w_mul w_sub1 w_add1 w_shl w_shl1 w_shr c_beq c_bne c_beq0 c_bne0 c_beq1 c_bne1 wrap_nv

def bi (b : Bool) : Int := if b then 1 else 0
/- one bit of an operation, and what goes over -/
end Go.Proofs.Ytkigmocchaikgab

/- What twoBits comes to, as plain functions; one cell of a box written. -/
namespace Go.Proofs.Ytkigmocchaikgab
open Go.RowKit

/- the inner loop: which results, and which that go over, the first k of the eight ways give -/
/- the outer loop -/
end Go.Proofs.Ytkigmocchaikgab

/- The contract of the reference's twoBits. -/
namespace Go.Proofs.Ytkigmocchaikgab
open Go.RowKit
attribute [local go_sem] w_and w_or w_xor w_andNot w_and1 w_and63 w_add w_sub w_mul w_sub1 w_add1 w_shl w_shl1 w_shr c_beq c_bne c_beq0 c_bne0 c_beq1 c_bne1 wrap_nv

theorem ba0 : bits .and .i64 0 1 = 0 := by decide
theorem ba1 : bits .and .i64 1 1 = 1 := by decide
theorem ba2 : bits .and .i64 2 1 = 0 := by decide
theorem ba3 : bits .and .i64 3 1 = 1 := by decide
theorem ba4 : bits .and .i64 4 1 = 0 := by decide
theorem ba5 : bits .and .i64 5 1 = 1 := by decide
theorem ba6 : bits .and .i64 6 1 = 0 := by decide
theorem ba7 : bits .and .i64 7 1 = 1 := by decide
attribute [local go_sem] ba0 ba1 ba2 ba3 ba4 ba5 ba6 ba7
end Go.Proofs.Ytkigmocchaikgab

/- That twoBits' answers are package bits' own: add, sub, and, or, xor; plain facts. -/
namespace Go.Proofs.Ytkigmocchaikgab

/- the eight ways of one bit, decided -/
end Go.Proofs.Ytkigmocchaikgab

/- The contract of the reference's TwoBits. -/
namespace Go.Proofs.Ytkigmocchaikgab
open Go.RowKit
attribute [local go_sem] w_and w_or w_xor w_andNot w_and1 w_and63 w_add w_sub w_mul w_sub1 w_add1 w_shl w_shl1 w_shr c_beq c_bne c_beq0 c_bne0 c_beq1 c_bne1 wrap_nv

/- what comes of sums is right again -/
/- a sum, by twoBits -/
end Go.Proofs.Ytkigmocchaikgab

/- The contracts of val and calc, and of the reference's, over plain values. -/
namespace Go.Proofs.Ytkigmocchaikgab
open Go.RowKit

theorem okc {f : Nat} {A : Array Value} {V : Value} {args : List AV} {v : AV} (h : ∀ w, Calls Try.prog f A w fun e w' => e = .returned V ∧ Below w.heap.size w w') (hA : ∀ β, (args.map (AV.g β)).toArray = A) (hV : ∀ β, v.g β = V) (hv : v.ks = []) : Ok f args v :=
  ok_of_calls hA hV hv h

theorem V4.rt_of {a : V4} (h : a.ok = true) : a.rt = true := (rt_iff _ _).2 (val_facts h).1
theorem both_rt {a b : V4} (ha : a.rt = true) (hb : b.rt = true) : (eqb (band a.v a.m) zero && eqb (band b.v b.m) zero) = true := by
  rw [show eqb (band a.v a.m) zero = true from ha, show eqb (band b.v b.m) zero = true from hb]; rfl
theorem both_ok {a b : V4} (ha : a.ok = true) (hb : b.ok = true) : (valB a.v a.m a.l a.h && valB b.v b.m b.l b.h) = true := by
  rw [show valB a.v a.m a.l a.h = true from ha, show valB b.v b.m b.l b.h = true from hb]; rfl

theorem valCheck_ok (a : V4) : Ok 38 [.ag a.cs] (.c (.i (er a.ok))) := okc (valCheck_any a.v a.m a.l a.h) (fun _ => rfl) (fun _ => rfl) rfl
theorem valOf_ok (x : BitVec 64) : Ok 110 [.c (.u x)] (.ag (V4.of x).cs) := okc (valOf_any x) (fun _ => rfl) (fun _ => rfl) rfl
theorem valAny_ok : Ok 39 [] (.ag V4.any.cs) := okc valAny_any (fun _ => rfl) (fun _ => rfl) rfl
theorem valJoin_ok {a b : V4} (ha : a.ok = true) (hb : b.ok = true) : Ok 34 [.ag a.cs, .ag b.cs] (.tu [.ag (a.join b).cs, .c (.i 0)]) :=
  okc (valJoin_yes (both_ok ha hb)) (fun _ => rfl) (fun _ => rfl) rfl
/- the reference's functions on two values -/
end Go.Proofs.Ytkigmocchaikgab

/- The contracts of calc's Equal, Other, Less, NotLess, and of the reference's OtherVals. -/
namespace Go.Proofs.Ytkigmocchaikgab
open Go.RowKit

/- the program's -/
theorem valNorm_c {n : V4} (hr : n.rt = true) : Hid (∀ w, Calls Try.prog 65 #[Vl n.v n.m n.l n.h] w fun e w' => e = .returned (.tuple #[Vl n.norm.v n.norm.m n.norm.l n.norm.h, .bool n.nok, N 0]) ∧ Below w.heap.size w w') := by
  intro w
  unfold V4.norm
  cases hn : n.nok
  · exact norm_none hr hn w
  · exact norm_yes hr hn w
def Four (f : Nat) (a b : V4) (r : V4 × V4 × Bool) : Prop := Ok f [.ag a.cs, .ag b.cs] (.tu [.ag r.1.cs, .ag r.2.1.cs, .c (.b r.2.2), .c (.i 0)])
theorem four_of {f : Nat} {a b x y : V4} {may : Bool} (h : ∀ w, Calls Try.prog f #[Vl a.v a.m a.l a.h, Vl b.v b.m b.l b.h] w fun e w' => e = .returned (.tuple #[lv (may && (x.nok && y.nok)) (Vl x.norm.v x.norm.m x.norm.l x.norm.h), lv (may && (x.nok && y.nok)) (Vl y.norm.v y.norm.m y.norm.l y.norm.h), .bool (may && (x.nok && y.nok)), N 0]) ∧ Below w.heap.size w w') :
    Four f a b (left2 may x y) := by
  refine okc h (fun _ => rfl) (fun _ => ?_) ?_
  · simp only [left2, V4.norm]
    cases may <;> cases x.nok <;> cases y.nok <;> rfl
  · rfl
theorem calcEqual_ok {a b : V4} (ha : a.ok = true) (hb : b.ok = true) : Four 78 a b (a.equal b) := by
  have r1 := V4.rt_of ha
  have r2 := V4.rt_of hb
  have hbb := both_ok ha hb
  unfold V4.equal
  cases hm : a.meets b with
  | false =>
    have n := valNorm_c (n := ⟨zero, zero, bmax a.l b.l, bmin a.h b.h⟩) ((rt_iff _ _).2 (zero_rt zero))
    have := four_of (f := 78) (a := a) (b := b) (may := false) fun w => calcEqual_right hbb w (hid (fun B w' hc => equal1_is hc (hid (fun w => meet_no (both_rt r1 r2) hm w)) rfl rfl)) n n
    exact this
  | true =>
    have hrt : (a.rawEqual b).rt = true := (rt_iff _ _).2 (by
      have r1 := (val_facts ha).1
      have r2 := (val_facts hb).1
      intro j
      have h3 := r1 j; have h4 := r2 j
      show (bit (bor a.v b.v) j && bit (band a.m b.m) j) = false
      rw [bit_or, bit_and']
      revert h3 h4
      cases bit a.v j <;> cases bit a.m j <;> cases bit b.v j <;> cases bit b.m j <;> simp)
    exact four_of (f := 78) (a := a) (b := b) (may := true) fun w => calcEqual_right hbb w (hid (fun B w' hc => equal1_is hc (hid (fun w => meet_ok (both_rt r1 r2) hm w)) rfl rfl)) (valNorm_c hrt) (valNorm_c hrt)
theorem calcOther_ok {a b : V4} (ha : a.ok = true) (hb : b.ok = true) : Four 77 a b (a.other b) :=
  four_of (f := 77) (a := a) (b := b) fun w => calcOther_right (both_ok ha hb) w (hid (fun _ _ hc => other1_is hc rfl)) (valNorm_c (n := a.without b) (show a.rt = true from V4.rt_of ha)) (valNorm_c (n := b.without a) (show b.rt = true from V4.rt_of hb))
theorem calcLess_ok {a b : V4} (ha : a.ok = true) (hb : b.ok = true) : Four 80 a b (a.less b) := by
  unfold V4.less
  cases hz : (eqb b.h zero || eqb a.l top) with
  | true =>
    have := four_of (f := 80) (a := a) (b := b) (may := false) fun w => calcLess_right (both_ok ha hb) w (hid (fun B w' hc => less1_no hc hz)) (valNorm_c (V4.rt_of ha)) (valNorm_c (V4.rt_of hb))
    exact this
  | false =>
    rw [Bool.or_eq_false_iff] at hz
    have n1 := valNorm_c (n := ⟨a.v, a.m, bmax a.l a.l, bmin a.h (bsub b.h one)⟩) (show a.rt = true from V4.rt_of ha)
    have n2 := valNorm_c (n := ⟨b.v, b.m, bmax b.l (badd a.l one), bmin b.h b.h⟩) (show b.rt = true from V4.rt_of hb)
    have := four_of (f := 80) (a := a) (b := b) (may := true) fun w => calcLess_right (both_ok ha hb) w (hid (fun B w' hc => less1_yes hc hz.1 hz.2)) n1 n2
    rw [bmax_self, bmin_self] at this
    exact this
theorem calcNotLess_ok {a b : V4} (ha : a.ok = true) (hb : b.ok = true) : Four 79 a b (a.notLess b) := by
  have n1 := valNorm_c (n := ⟨a.v, a.m, bmax a.l b.l, bmin a.h a.h⟩) (show a.rt = true from V4.rt_of ha)
  have n2 := valNorm_c (n := ⟨b.v, b.m, bmax b.l b.l, bmin b.h a.h⟩) (show b.rt = true from V4.rt_of hb)
  have := four_of (f := 79) (a := a) (b := b) (may := true) fun w => calcNotLess_right (both_ok ha hb) w (hid (fun B w' hc => notLess1_is hc)) n1 n2
  rw [bmax_self, bmin_self] at this
  exact this
end Go.Proofs.Ytkigmocchaikgab

/- The contracts of calc's Two and Bytes, and of the reference's TwoVals and ByteVal. -/
namespace Go.Proofs.Ytkigmocchaikgab
open Go.RowKit

theorem has_low {a : V4} (h : a.ok = true) : hasV a.v a.m a.l a.h a.l = true := by
  obtain ⟨_, h2, _, h4, _⟩ := val_facts h
  unfold hasV
  rw [show valB a.v a.m a.l a.h = true from h, h2]
  simp [h4]
theorem raw2_rt {a b : V4} {op : Int} (hop : 2 ≤ op ∧ op ≤ 9) (ha : a.ok = true) (hb : b.ok = true) : (V4.raw2 op a b).rt = true :=
  (rt_iff _ _).2 (rk_sound hop (has_low ha) (has_low hb)).1
theorem calcTwo_ok {a b : V4} {op : Int} (hop : 2 ≤ op ∧ op ≤ 9) (ha : a.ok = true) (hb : b.ok = true) : Ok 82 [.c (.i op), .ag a.cs, .ag b.cs] (.tu [.ag (V4.two op a b).cs, .c (.i 0)]) := by
  have hr := raw2_rt hop ha hb
  unfold V4.two V4.norm
  cases hn : (V4.raw2 op a b).nok
  · exact okc (calcTwo_none (both_ok ha hb) hop hr hn) (fun _ => rfl) (fun _ => rfl) rfl
  · exact okc (calcTwo_yes (both_ok ha hb) hop hr hn) (fun _ => rfl) (fun _ => rfl) rfl
theorem calcBytes_ok {n : Int} (hn : n = 1 ∨ n = 2 ∨ n = 4 ∨ n = 8) : Ok 75 [.c (.i n)] (.tu [.ag (V4.bytes n).cs, .c (.i 0)]) := by
  rcases hn with rfl | rfl | rfl | rfl
  · exact calcBytes_w0 (by decide +kernel)
  · exact calcBytes_w1 (by decide +kernel)
  · exact calcBytes_w2 (by decide +kernel)
  · exact calcBytes_w3 (by decide +kernel)
/- what is wrong -/
end Go.Proofs.Ytkigmocchaikgab

/- The laws' own programs and memory. -/
namespace Go.Proofs.Ytkigmocchaikgab
def g2 : List Ins := [⟨10, 0, 1, 8#64, 0⟩, ⟨15, 0, 0, 0#64, 0⟩]
def memB : ByteArray := strOf ((List.range 64).map fun j => AC.y (BitVec.ofNat 8 (j + 1)))
def m1 : Mach := ⟨1, ⟨0#64, 9#64, 0#64, 0#64, 0#64, 0#64⟩, ⟨true, true, false, false, false, false⟩, memB, 0⟩
end Go.Proofs.Ytkigmocchaikgab

/- Ways of bodies, written by a program (ways.py): what each asks for, and hands back. -/
namespace Go.Proofs.Ytkigmocchaikgab
open Go.RowKit

end Go.Proofs.Ytkigmocchaikgab

/- Ways of bodies, written by a program (ways.py): what each asks for, and hands back. -/
namespace Go.Proofs.Ytkigmocchaikgab
open Go.RowKit

theorem start_w0 {mem : ByteArray} {x : BitVec 64} (h : ((↑(ByteArray.size mem) : Int) != 64 && true) = true) :
    CallOK Try.prog ⟨11, [AV.c (AC.s mem), AV.c (AC.u x)], [], ⟨AV.tu [AT.ag [AC.i 0, AC.u 0#64, AC.u 0#64, AC.u 0#64, AC.u 0#64, AC.u 0#64, AC.u 0#64, AC.b false, AC.b false, AC.b false, AC.b false, AC.b false, AC.b false, AC.s (ByteArray.mk #[]), AC.i 0], AT.c (AC.i 1)], [], none⟩⟩ :=
  val_run 2000 [] [true] [] [] Try.func11 rfl rfl rfl rfl (by kernel_rfl) h cr_nil
theorem start_w1 {mem : ByteArray} {x : BitVec 64} (h : (!(↑(ByteArray.size mem) : Int) != 64 && true) = true) (c0 : CallOK Try.prog (CallRec.mk 32 [AV.ag [AC.i 0, AC.u 0#64, AC.u 0#64, AC.u 0#64, AC.u 0#64, AC.u 0#64, AC.u 0#64, AC.b false, AC.b false, AC.b false, AC.b false, AC.b false, AC.b false, AC.s mem, AC.i 0], AV.c (AC.i 1), AV.c (AC.u x)] [] (Eff.mk (AV.ag (Mach.cs (Mach.wth (Mach.mk 0 (V6.mk 0#64 0#64 0#64 0#64 0#64 0#64) (V6.mk false false false false false false) mem 0) 1 x))) [] none))) :
    CallOK Try.prog ⟨11, [AV.c (AC.s mem), AV.c (AC.u x)], [], ⟨AV.tu [AT.ag [AC.i 0, AC.u 0#64, AC.u x, AC.u 0#64, AC.u 0#64, AC.u 0#64, AC.u 0#64, AC.b false, AC.b true, AC.b false, AC.b false, AC.b false, AC.b false, AC.s mem, AC.i 0], AT.c (AC.i 0)], [], none⟩⟩ :=
  val_run 2000 [Eff.mk (AV.ag (Mach.cs (Mach.wth (Mach.mk 0 (V6.mk 0#64 0#64 0#64 0#64 0#64 0#64) (V6.mk false false false false false false) mem 0) 1 x))) [] none] [false] [] [] Try.func11 rfl rfl rfl rfl (by kernel_rfl) h (cr_cons c0 cr_nil)
theorem start_all {mem : ByteArray} {x : BitVec 64} {V : AV}
    (l0 : ((↑(ByteArray.size mem) : Int) != 64) = true → (AV.tu [AT.ag [AC.i 0, AC.u 0#64, AC.u 0#64, AC.u 0#64, AC.u 0#64, AC.u 0#64, AC.u 0#64, AC.b false, AC.b false, AC.b false, AC.b false, AC.b false, AC.b false, AC.s (ByteArray.mk #[]), AC.i 0], AT.c (AC.i 1)] = V))
    (l1 : ((↑(ByteArray.size mem) : Int) != 64) = false → (CallOK Try.prog (CallRec.mk 32 [AV.ag [AC.i 0, AC.u 0#64, AC.u 0#64, AC.u 0#64, AC.u 0#64, AC.u 0#64, AC.u 0#64, AC.b false, AC.b false, AC.b false, AC.b false, AC.b false, AC.b false, AC.s mem, AC.i 0], AV.c (AC.i 1), AV.c (AC.u x)] [] (Eff.mk (AV.ag (Mach.cs (Mach.wth (Mach.mk 0 (V6.mk 0#64 0#64 0#64 0#64 0#64 0#64) (V6.mk false false false false false false) mem 0) 1 x))) [] none))) ∧ (AV.tu [AT.ag [AC.i 0, AC.u 0#64, AC.u x, AC.u 0#64, AC.u 0#64, AC.u 0#64, AC.u 0#64, AC.b false, AC.b true, AC.b false, AC.b false, AC.b false, AC.b false, AC.s mem, AC.i 0], AT.c (AC.i 0)] = V)) :
    CallOK Try.prog ⟨11, [AV.c (AC.s mem), AV.c (AC.u x)], [], ⟨V, [], none⟩⟩ :=
  (tf ((↑(ByteArray.size mem) : Int) != 64)).elim (fun h0 => (match l0 h0 with | e => ok_eq (start_w0 (and_yes h0 rfl)) e)) (fun h0 => (match l1 h0 with | ⟨c0, e⟩ => ok_eq (start_w1 (and_yes (not_yes h0) rfl) c0) e))
theorem runTop_w0 {L : List Ins} {c : Nat} {mem : ByteArray} {x : BitVec 64} {w : World} {β : Bs} {n : Nat} (h : (codeErr L != 0 && true) = true) (c0 : CallOK Try.prog (CallRec.mk 28 [AV.c (AC.sl 0 0 (List.length L) c)] [(0, Ent.mk false (pcell L) 0)] (Eff.mk (AV.c (AC.i (codeErr L))) [] none))) :
    ART Try.prog 9 (cx w β n []) Try.f9.ntmps ([Item.code (bodyOf Try.f9)]) (Kn.start [AV.c (AC.sl 0 0 (List.length L) c), AV.c (AC.s mem), AV.c (AC.u x)] [(0, Ent.mk false (pcell L) 0)] 1) (REff w β ⟨AV.tu [AT.ag [AC.i 0, AC.i 0, AC.i 0, AC.u 0#64, AC.s (ByteArray.mk #[])], AT.c (AC.i (codeErr L))], [], none⟩) :=
  run_eff [] (none) 2000 [Eff.mk (AV.c (AC.i (codeErr L))) [] none] [true] [true] [] Try.func9 (ekeys0 rfl n) (by kernel_rfl) h (cr_cons c0 cr_nil)
theorem runTop_w1 {L : List Ins} {c : Nat} {mem : ByteArray} {x : BitVec 64} {m : Mach} {e : Int} {w : World} {β : Bs} {n : Nat} (h : (!codeErr L != 0 && (e != 0 && true)) = true) (c0 : CallOK Try.prog (CallRec.mk 28 [AV.c (AC.sl 0 0 (List.length L) c)] [(0, Ent.mk false (pcell L) 0)] (Eff.mk (AV.c (AC.i (codeErr L))) [] none))) (c1 : CallOK Try.prog (CallRec.mk 11 [AV.c (AC.s mem), AV.c (AC.u x)] [] (Eff.mk (AV.tu [AT.ag (Mach.cs m), AT.c (AC.i e)]) [] none))) :
    ART Try.prog 9 (cx w β n []) Try.f9.ntmps ([Item.code (bodyOf Try.f9)]) (Kn.start [AV.c (AC.sl 0 0 (List.length L) c), AV.c (AC.s mem), AV.c (AC.u x)] [(0, Ent.mk false (pcell L) 0)] 1) (REff w β ⟨AV.tu [AT.ag [AC.i 0, AC.i 0, AC.i 0, AC.u 0#64, AC.s (ByteArray.mk #[])], AT.c (AC.i e)], [], none⟩) :=
  run_eff [] (none) 2000 [Eff.mk (AV.c (AC.i (codeErr L))) [] none, Eff.mk (AV.tu [AT.ag (Mach.cs m), AT.c (AC.i e)]) [] none] [false, true] [true] [] Try.func9 (ekeys0 rfl n) (by kernel_rfl) h (cr_cons c0 (cr_cons c1 cr_nil))
theorem runTop_w2 {L : List Ins} {c : Nat} {mem : ByteArray} {x : BitVec 64} {m : Mach} {e : Int} {C : Cx} {R : Ending → World → Prop} (h : (!codeErr L != 0 && (!e != 0 && true)) = true) (c0 : CallOK Try.prog (CallRec.mk 28 [AV.c (AC.sl 0 0 (List.length L) c)] [(0, Ent.mk false (pcell L) 0)] (Eff.mk (AV.c (AC.i (codeErr L))) [] none))) (c1 : CallOK Try.prog (CallRec.mk 11 [AV.c (AC.s mem), AV.c (AC.u x)] [] (Eff.mk (AV.tu [AT.ag (Mach.cs m), AT.c (AC.i e)]) [] none))) (lo : Kn.Low ⟨[(0, AV.c (AC.sl 0 0 (List.length L) c)), (6, AV.c (AC.w 1)), (9, AV.c (AC.w 14)), (11, AV.c (AC.i 0))], [(0, Ent.mk false (pcell L) 0), (1, Ent.mk true [AC.i 0, AC.i 0, AC.i 0, AC.u 0#64, AC.s (ByteArray.mk #[])] 0), (14, Ent.mk true (Mach.cs m) 0)], 15⟩) (hF : ∀ k, C.F k → k < 15) (z : ART Try.prog 9 C Try.f9.ntmps (cutAt Try.f9 0) ⟨[(0, AV.c (AC.sl 0 0 (List.length L) c)), (6, AV.c (AC.w 1)), (9, AV.c (AC.w 14)), (11, AV.c (AC.i 0))], [(0, Ent.mk false (pcell L) 0), (1, Ent.mk true [AC.i 0, AC.i 0, AC.i 0, AC.u 0#64, AC.s (ByteArray.mk #[])] 0), (14, Ent.mk true (Mach.cs m) 0)], 15⟩ R) :
    ART Try.prog 9 C Try.f9.ntmps ([Item.code (bodyOf Try.f9)]) (Kn.start [AV.c (AC.sl 0 0 (List.length L) c), AV.c (AC.s mem), AV.c (AC.u x)] [(0, Ent.mk false (pcell L) 0)] 1) R :=
  run_cut ⟨[(0, AV.c (AC.sl 0 0 (List.length L) c)), (6, AV.c (AC.w 1)), (9, AV.c (AC.w 14)), (11, AV.c (AC.i 0))], [(0, Ent.mk false (pcell L) 0), (1, Ent.mk true [AC.i 0, AC.i 0, AC.i 0, AC.u 0#64, AC.s (ByteArray.mk #[])] 0), (14, Ent.mk true (Mach.cs m) 0)], 15⟩ 2000 [Eff.mk (AV.c (AC.i (codeErr L))) [] none, Eff.mk (AV.tu [AT.ag (Mach.cs m), AT.c (AC.i e)]) [] none] [false, false] [true] [] Try.func9 (by kernel_rfl) h (cr_cons c0 (cr_cons c1 cr_nil)) lo hF z
theorem runTop_all {L : List Ins} {c : Nat} {mem : ByteArray} {x : BitVec 64} {m : Mach} {e : Int} {w : World} {β : Bs} {n : Nat} {E : Eff} (hn : n ≤ 15)
    (l0 : (codeErr L != 0) = true → (CallOK Try.prog (CallRec.mk 28 [AV.c (AC.sl 0 0 (List.length L) c)] [(0, Ent.mk false (pcell L) 0)] (Eff.mk (AV.c (AC.i (codeErr L))) [] none))) ∧ ((⟨AV.tu [AT.ag [AC.i 0, AC.i 0, AC.i 0, AC.u 0#64, AC.s (ByteArray.mk #[])], AT.c (AC.i (codeErr L))], [], none⟩ : Eff) = E))
    (l1 : (codeErr L != 0) = false → (e != 0) = true → (CallOK Try.prog (CallRec.mk 28 [AV.c (AC.sl 0 0 (List.length L) c)] [(0, Ent.mk false (pcell L) 0)] (Eff.mk (AV.c (AC.i (codeErr L))) [] none))) ∧ (CallOK Try.prog (CallRec.mk 11 [AV.c (AC.s mem), AV.c (AC.u x)] [] (Eff.mk (AV.tu [AT.ag (Mach.cs m), AT.c (AC.i e)]) [] none))) ∧ ((⟨AV.tu [AT.ag [AC.i 0, AC.i 0, AC.i 0, AC.u 0#64, AC.s (ByteArray.mk #[])], AT.c (AC.i e)], [], none⟩ : Eff) = E))
    (l2 : (codeErr L != 0) = false → (e != 0) = false → (CallOK Try.prog (CallRec.mk 28 [AV.c (AC.sl 0 0 (List.length L) c)] [(0, Ent.mk false (pcell L) 0)] (Eff.mk (AV.c (AC.i (codeErr L))) [] none))) ∧ (CallOK Try.prog (CallRec.mk 11 [AV.c (AC.s mem), AV.c (AC.u x)] [] (Eff.mk (AV.tu [AT.ag (Mach.cs m), AT.c (AC.i e)]) [] none))) ∧ Kn.Low ⟨[(0, AV.c (AC.sl 0 0 (List.length L) c)), (6, AV.c (AC.w 1)), (9, AV.c (AC.w 14)), (11, AV.c (AC.i 0))], [(0, Ent.mk false (pcell L) 0), (1, Ent.mk true [AC.i 0, AC.i 0, AC.i 0, AC.u 0#64, AC.s (ByteArray.mk #[])] 0), (14, Ent.mk true (Mach.cs m) 0)], 15⟩ ∧ ART Try.prog 9 (cx w β n []) Try.f9.ntmps (cutAt Try.f9 0) ⟨[(0, AV.c (AC.sl 0 0 (List.length L) c)), (6, AV.c (AC.w 1)), (9, AV.c (AC.w 14)), (11, AV.c (AC.i 0))], [(0, Ent.mk false (pcell L) 0), (1, Ent.mk true [AC.i 0, AC.i 0, AC.i 0, AC.u 0#64, AC.s (ByteArray.mk #[])] 0), (14, Ent.mk true (Mach.cs m) 0)], 15⟩ (REff w β E)) :
    ART Try.prog 9 (cx w β n []) Try.f9.ntmps ([Item.code (bodyOf Try.f9)]) (Kn.start [AV.c (AC.sl 0 0 (List.length L) c), AV.c (AC.s mem), AV.c (AC.u x)] [(0, Ent.mk false (pcell L) 0)] 1) (REff w β E) :=
  (tf (codeErr L != 0)).elim (fun h0 => (match l0 h0 with | ⟨c0, e⟩ => art_eq (runTop_w0 (and_yes h0 rfl) c0) e)) (fun h0 => (tf (e != 0)).elim (fun h1 => (match l1 h0 h1 with | ⟨c0, c1, e⟩ => art_eq (runTop_w1 (and_yes (not_yes h0) (and_yes h1 rfl)) c0 c1) e)) (fun h1 => (match l2 h0 h1 with | ⟨c0, c1, lo, z⟩ => runTop_w2 (and_yes (not_yes h0) (and_yes (not_yes h1) rfl)) c0 c1 lo (fun _ hk => Nat.lt_of_lt_of_le hk hn) z)))
theorem runRound_w0 {L : List Ins} {c : Nat} {m : Mach} {q : Int} {C : Cx} {R : Ending → World → Prop} (h : (Mach.fin m == 0 && (decide (0 ≤ Mach.t m) && decide (Mach.t m < (↑(List.length L) : Int)) && (Nat.ble (0 + Int.toNat (Mach.t m) * 5 + 5) (List.length (pcell L)) && true))) = true) (c0 : Eff.mk (AV.ag (List.take 5 (List.drop (0 + Int.toNat (Mach.t m) * 5) (pcell L)))) [] none = Eff.mk (AV.ag (Ins.cs (insAt L (Mach.t m)))) [] none) (c1 : CallOK Try.prog (CallRec.mk 29 [AV.ag (Ins.cs (insAt L (Mach.t m))), AV.ag (Mach.cs m)] [] (Eff.mk (AV.ag (Mach.cs (stepM (insAt L (Mach.t m)) m))) [] none))) (lo : Kn.Low ⟨[(0, AV.c (AC.sl 0 0 (List.length L) c)), (6, AV.c (AC.w 1)), (9, AV.c (AC.w 14)), (11, AV.c (AC.i (IntKind.wrap IntKind.i64 (q + 1))))], [(0, Ent.mk false (pcell L) 0), (1, Ent.mk true (Outc.cs Outc.z) 0), (14, Ent.mk true (Mach.cs (stepM (insAt L (Mach.t m)) m)) 0)], 15⟩) (hF : ∀ k, C.F k → k < 15) (z : ART Try.prog 9 C Try.f9.ntmps (cutAt Try.f9 0) ⟨[(0, AV.c (AC.sl 0 0 (List.length L) c)), (6, AV.c (AC.w 1)), (9, AV.c (AC.w 14)), (11, AV.c (AC.i (IntKind.wrap IntKind.i64 (q + 1))))], [(0, Ent.mk false (pcell L) 0), (1, Ent.mk true (Outc.cs Outc.z) 0), (14, Ent.mk true (Mach.cs (stepM (insAt L (Mach.t m)) m)) 0)], 15⟩ R) :
    ART Try.prog 9 C Try.f9.ntmps (cutAt Try.f9 0) (Kn.mk [(0, AV.c (AC.sl 0 0 (List.length L) c)), (6, AV.c (AC.w 1)), (9, AV.c (AC.w 14)), (11, AV.c (AC.i q))] [(0, Ent.mk false (pcell L) 0), (1, Ent.mk true (Outc.cs Outc.z) 0), (14, Ent.mk true (Mach.cs m) 0)] 15) R :=
  run_cut ⟨[(0, AV.c (AC.sl 0 0 (List.length L) c)), (6, AV.c (AC.w 1)), (9, AV.c (AC.w 14)), (11, AV.c (AC.i (IntKind.wrap IntKind.i64 (q + 1))))], [(0, Ent.mk false (pcell L) 0), (1, Ent.mk true (Outc.cs Outc.z) 0), (14, Ent.mk true (Mach.cs (stepM (insAt L (Mach.t m)) m)) 0)], 15⟩ 2000 [Eff.mk (AV.ag (Ins.cs (insAt L (Mach.t m)))) [] none, Eff.mk (AV.ag (Mach.cs (stepM (insAt L (Mach.t m)) m))) [] none] [true] [true] [(9, 4)] Try.func9 (by kernel_rfl) h (cr_same c0 (cr_cons c1 cr_nil)) lo hF z
theorem runEnd_w0 {L : List Ins} {c : Nat} {m : Mach} {q : Int} {w : World} {β : Bs} {n : Nat} (h : (!Mach.fin m == 0 && (Mach.fin m == 3 && true)) = true) :
    ART Try.prog 9 (cx w β n []) Try.f9.ntmps (cutAt Try.f9 0) (Kn.mk [(0, AV.c (AC.sl 0 0 (List.length L) c)), (6, AV.c (AC.w 1)), (9, AV.c (AC.w 14)), (11, AV.c (AC.i q))] [(0, Ent.mk false (pcell L) 0), (1, Ent.mk true (Outc.cs Outc.z) 0), (14, Ent.mk true (Mach.cs m) 0)] 15) (REff w β ⟨AV.tu [AT.ag [AC.i (Mach.fin m), AC.i (Mach.t m), AC.i q, AC.u (V6.x0 (Mach.r m)), AC.s (Mach.mem m)], AT.c (AC.i 0)], [], none⟩) :=
  run_eff [] (none) 2000 [] [false, true] [true] [] Try.func9 (ekeys0 rfl n) (by kernel_rfl) h cr_nil
theorem runEnd_w1 {L : List Ins} {c : Nat} {m : Mach} {q : Int} {w : World} {β : Bs} {n : Nat} (h : (!Mach.fin m == 0 && (!Mach.fin m == 3 && true)) = true) :
    ART Try.prog 9 (cx w β n []) Try.f9.ntmps (cutAt Try.f9 0) (Kn.mk [(0, AV.c (AC.sl 0 0 (List.length L) c)), (6, AV.c (AC.w 1)), (9, AV.c (AC.w 14)), (11, AV.c (AC.i q))] [(0, Ent.mk false (pcell L) 0), (1, Ent.mk true (Outc.cs Outc.z) 0), (14, Ent.mk true (Mach.cs m) 0)] 15) (REff w β ⟨AV.tu [AT.ag [AC.i (Mach.fin m), AC.i (Mach.t m), AC.i q, AC.u 0#64, AC.s (Mach.mem m)], AT.c (AC.i 0)], [], none⟩) :=
  run_eff [] (none) 2000 [] [false, false] [true] [] Try.func9 (ekeys0 rfl n) (by kernel_rfl) h cr_nil
theorem runEnd_all {L : List Ins} {c : Nat} {m : Mach} {q : Int} {w : World} {β : Bs} {n : Nat} {E : Eff}
    (l0 : (Mach.fin m == 3) = true → (!Mach.fin m == 0) = true ∧ ((⟨AV.tu [AT.ag [AC.i (Mach.fin m), AC.i (Mach.t m), AC.i q, AC.u (V6.x0 (Mach.r m)), AC.s (Mach.mem m)], AT.c (AC.i 0)], [], none⟩ : Eff) = E))
    (l1 : (Mach.fin m == 3) = false → (!Mach.fin m == 0) = true ∧ ((⟨AV.tu [AT.ag [AC.i (Mach.fin m), AC.i (Mach.t m), AC.i q, AC.u 0#64, AC.s (Mach.mem m)], AT.c (AC.i 0)], [], none⟩ : Eff) = E)) :
    ART Try.prog 9 (cx w β n []) Try.f9.ntmps (cutAt Try.f9 0) (Kn.mk [(0, AV.c (AC.sl 0 0 (List.length L) c)), (6, AV.c (AC.w 1)), (9, AV.c (AC.w 14)), (11, AV.c (AC.i q))] [(0, Ent.mk false (pcell L) 0), (1, Ent.mk true (Outc.cs Outc.z) 0), (14, Ent.mk true (Mach.cs m) 0)] 15) (REff w β E) :=
  (tf (Mach.fin m == 3)).elim (fun h0 => (match l0 h0 with | ⟨o0, e⟩ => art_eq (runEnd_w0 (and_yes o0 (and_yes h0 rfl))) e)) (fun h0 => (match l1 h0 with | ⟨o0, e⟩ => art_eq (runEnd_w1 (and_yes o0 (and_yes (not_yes h0) rfl))) e))
theorem runNil_w0 {mem : ByteArray} {x : BitVec 64} (c0 : CallOK Try.prog (CallRec.mk 28 [AV.c nilSl] [] (Eff.mk (AV.c (AC.i 2)) [] none))) :
    CallOK Try.prog ⟨9, [AV.c nilSl, AV.c (AC.s mem), AV.c (AC.u x)], [], ⟨AV.tu [AT.ag [AC.i 0, AC.i 0, AC.i 0, AC.u 0#64, AC.s (ByteArray.mk #[])], AT.c (AC.i 2)], [], none⟩⟩ :=
  val_run 2000 [Eff.mk (AV.c (AC.i 2)) [] none] [true] [] [] Try.func9 rfl rfl rfl rfl (by kernel_rfl) rfl (cr_cons c0 cr_nil)
end Go.Proofs.Ytkigmocchaikgab

/- Ways of bodies, written by a program (ways.py): what each asks for, and hands back. -/
namespace Go.Proofs.Ytkigmocchaikgab
open Go.RowKit

theorem branch_w0 {i : Ins} {m : Mach} {jp : Bool} (h : (jp && true) = true) (c0 : CallOK Try.prog (CallRec.mk 60 [AV.ag (Mach.cs m), AV.c (AC.i (Ins.of i))] [] (Eff.mk (AV.ag (Mach.cs (Mach.on m (Ins.of i)))) [] none))) :
    CallOK Try.prog ⟨61, [AV.ag (Ins.cs i), AV.ag (Mach.cs m), AV.c (AC.b jp)], [], ⟨AV.ag [AC.i (Mach.t m + 1 + Ins.of i), AC.u (V6.x0 (Mach.r m)), AC.u (V6.x1 (Mach.r m)), AC.u (V6.x2 (Mach.r m)), AC.u (V6.x3 (Mach.r m)), AC.u (V6.x4 (Mach.r m)), AC.u (V6.x5 (Mach.r m)), AC.b (V6.x0 (Mach.s m)), AC.b (V6.x1 (Mach.s m)), AC.b (V6.x2 (Mach.s m)), AC.b (V6.x3 (Mach.s m)), AC.b (V6.x4 (Mach.s m)), AC.b (V6.x5 (Mach.s m)), AC.s (Mach.mem m), AC.i (Mach.fin m)], [], none⟩⟩ :=
  val_run 2000 [Eff.mk (AV.ag (Mach.cs (Mach.on m (Ins.of i)))) [] none] [true] [] [] Try.func61 rfl rfl rfl rfl (by kernel_rfl) h (cr_cons c0 cr_nil)
theorem branch_w1 {i : Ins} {m : Mach} {jp : Bool} (h : (!jp && true) = true) (c0 : CallOK Try.prog (CallRec.mk 60 [AV.ag (Mach.cs m), AV.c (AC.i 0)] [] (Eff.mk (AV.ag (Mach.cs (Mach.on m 0))) [] none))) :
    CallOK Try.prog ⟨61, [AV.ag (Ins.cs i), AV.ag (Mach.cs m), AV.c (AC.b jp)], [], ⟨AV.ag [AC.i (Mach.t m + 1 + 0), AC.u (V6.x0 (Mach.r m)), AC.u (V6.x1 (Mach.r m)), AC.u (V6.x2 (Mach.r m)), AC.u (V6.x3 (Mach.r m)), AC.u (V6.x4 (Mach.r m)), AC.u (V6.x5 (Mach.r m)), AC.b (V6.x0 (Mach.s m)), AC.b (V6.x1 (Mach.s m)), AC.b (V6.x2 (Mach.s m)), AC.b (V6.x3 (Mach.s m)), AC.b (V6.x4 (Mach.s m)), AC.b (V6.x5 (Mach.s m)), AC.s (Mach.mem m), AC.i (Mach.fin m)], [], none⟩⟩ :=
  val_run 2000 [Eff.mk (AV.ag (Mach.cs (Mach.on m 0))) [] none] [false] [] [] Try.func61 rfl rfl rfl rfl (by kernel_rfl) h (cr_cons c0 cr_nil)
theorem reachL_w0 {d : Int} {s : Int} {of : Int} {im : BitVec 64} {m : Mach} (h : (decide (0 ≤ s) && decide (s < 6) && (AC.isU (Option.getD (Mach.cs m)[1 + Int.toNat s * 1]? (AC.b false)) && Nat.blt (1 + Int.toNat s * 1) (List.length (Mach.cs m)) && (farB (Ins.mk 10 d s im of) m && true))) = true) (c0 : Eff.mk (AV.c (AC.u (AC.asU (Option.getD (Mach.cs m)[1 + Int.toNat s * 1]? (AC.b false))))) [] none = Eff.mk (AV.c (AC.u (V6.get (Mach.r m) (Int.toNat s)))) [] none) (c1 : Eff.mk (AV.c (AC.u (badd (V6.get (Mach.r m) (Int.toNat s)) (BitVec.ofInt 64 of)))) [] none = Eff.mk (AV.c (AC.u (fromN (Ins.mk 10 d s im of) m))) [] none) (c2 : Eff.mk (AV.c (AC.b (decide (nv (bsub (64#64) im) < nv (fromN (Ins.mk 10 d s im of) m))))) [] none = Eff.mk (AV.c (AC.b (farB (Ins.mk 10 d s im of) m))) [] none) (c3 : CallOK Try.prog (CallRec.mk 58 [AV.ag (Mach.cs m), AV.c (AC.i 2)] [] (Eff.mk (AV.ag (Mach.cs (Mach.fine m 2))) [] none))) :
    CallOK Try.prog ⟨59, [AV.ag (Ins.cs (Ins.mk 10 d s im of)), AV.ag (Mach.cs m)], [], ⟨AV.ag [AC.i (Mach.t m), AC.u (V6.x0 (Mach.r m)), AC.u (V6.x1 (Mach.r m)), AC.u (V6.x2 (Mach.r m)), AC.u (V6.x3 (Mach.r m)), AC.u (V6.x4 (Mach.r m)), AC.u (V6.x5 (Mach.r m)), AC.b (V6.x0 (Mach.s m)), AC.b (V6.x1 (Mach.s m)), AC.b (V6.x2 (Mach.s m)), AC.b (V6.x3 (Mach.s m)), AC.b (V6.x4 (Mach.s m)), AC.b (V6.x5 (Mach.s m)), AC.s (Mach.mem m), AC.i 2], [], none⟩⟩ :=
  val_run 2000 [Eff.mk (AV.c (AC.u (V6.get (Mach.r m) (Int.toNat s)))) [] none, Eff.mk (AV.c (AC.u (fromN (Ins.mk 10 d s im of) m))) [] none, Eff.mk (AV.c (AC.b (farB (Ins.mk 10 d s im of) m))) [] none, Eff.mk (AV.ag (Mach.cs (Mach.fine m 2))) [] none] [false, true] [] [(4, 3), (4, 7), (5, 4), (8, 10), (8, 11)] Try.func59 rfl rfl rfl rfl (by kernel_rfl) h (cr_same c0 (cr_same c1 (cr_same c2 (cr_cons c3 cr_nil))))
theorem reachL_w1 {d : Int} {s : Int} {of : Int} {im : BitVec 64} {m : Mach} (h : (decide (0 ≤ s) && decide (s < 6) && (AC.isU (Option.getD (Mach.cs m)[1 + Int.toNat s * 1]? (AC.b false)) && Nat.blt (1 + Int.toNat s * 1) (List.length (Mach.cs m)) && (!farB (Ins.mk 10 d s im of) m && (decide ((nv (fromN (Ins.mk 10 d s im of) m)) ≤ (nv (badd (fromN (Ins.mk 10 d s im of) m) im))) && decide ((nv (badd (fromN (Ins.mk 10 d s im of) m) im)) ≤ (↑(ByteArray.size (Mach.mem m)) : Int)) && true)))) = true) (c0 : Eff.mk (AV.c (AC.u (AC.asU (Option.getD (Mach.cs m)[1 + Int.toNat s * 1]? (AC.b false))))) [] none = Eff.mk (AV.c (AC.u (V6.get (Mach.r m) (Int.toNat s)))) [] none) (c1 : Eff.mk (AV.c (AC.u (badd (V6.get (Mach.r m) (Int.toNat s)) (BitVec.ofInt 64 of)))) [] none = Eff.mk (AV.c (AC.u (fromN (Ins.mk 10 d s im of) m))) [] none) (c2 : Eff.mk (AV.c (AC.b (decide (nv (bsub (64#64) im) < nv (fromN (Ins.mk 10 d s im of) m))))) [] none = Eff.mk (AV.c (AC.b (farB (Ins.mk 10 d s im of) m))) [] none) (c3 : Eff.mk (AV.c (AC.s (ByteArray.extract (Mach.mem m) (Int.toNat ((nv (fromN (Ins.mk 10 d s im of) m)))) (Int.toNat ((nv (badd (fromN (Ins.mk 10 d s im of) m) im))))))) [] none = Eff.mk (AV.c (AC.s (ByteArray.extract (Mach.mem m) (BitVec.toNat (fromN (Ins.mk 10 d s im of) m)) (BitVec.toNat (fromN (Ins.mk 10 d s im of) m) + BitVec.toNat im)))) [] none) (c4 : Eff.mk (AV.c (AC.u (loadL (memL (ByteArray.extract (Mach.mem m) (BitVec.toNat (fromN (Ins.mk 10 d s im of) m)) (BitVec.toNat (fromN (Ins.mk 10 d s im of) m) + BitVec.toNat im)) 0 (ByteArray.size (ByteArray.extract (Mach.mem m) (BitVec.toNat (fromN (Ins.mk 10 d s im of) m)) (BitVec.toNat (fromN (Ins.mk 10 d s im of) m) + BitVec.toNat im))))))) [] none = Eff.mk (AV.c (AC.u (loadL (memL (Mach.mem m) (BitVec.toNat (fromN (Ins.mk 10 d s im of) m)) (BitVec.toNat im))))) [] none) (c5 : CallOK Try.prog (CallRec.mk 95 [AV.c (AC.s (ByteArray.extract (Mach.mem m) (BitVec.toNat (fromN (Ins.mk 10 d s im of) m)) (BitVec.toNat (fromN (Ins.mk 10 d s im of) m) + BitVec.toNat im)))] [] (Eff.mk (AV.c (AC.u (loadL (memL (ByteArray.extract (Mach.mem m) (BitVec.toNat (fromN (Ins.mk 10 d s im of) m)) (BitVec.toNat (fromN (Ins.mk 10 d s im of) m) + BitVec.toNat im)) 0 (ByteArray.size (ByteArray.extract (Mach.mem m) (BitVec.toNat (fromN (Ins.mk 10 d s im of) m)) (BitVec.toNat (fromN (Ins.mk 10 d s im of) m) + BitVec.toNat im))))))) [] none))) (c6 : CallOK Try.prog (CallRec.mk 32 [AV.ag (Mach.cs m), AV.c (AC.i d), AV.c (AC.u (loadL (memL (Mach.mem m) (BitVec.toNat (fromN (Ins.mk 10 d s im of) m)) (BitVec.toNat im))))] [] (Eff.mk (AV.ag (Mach.cs (Mach.wth m (Int.toNat d) (loadL (memL (Mach.mem m) (BitVec.toNat (fromN (Ins.mk 10 d s im of) m)) (BitVec.toNat im)))))) [] none))) (c7 : CallOK Try.prog (CallRec.mk 60 [AV.ag [AC.i (Mach.t m), AC.u (V6.x0 (V6.set (Mach.r m) (Int.toNat d) (loadL (memL (Mach.mem m) (BitVec.toNat (fromN (Ins.mk 10 d s im of) m)) (BitVec.toNat im))))), AC.u (V6.x1 (V6.set (Mach.r m) (Int.toNat d) (loadL (memL (Mach.mem m) (BitVec.toNat (fromN (Ins.mk 10 d s im of) m)) (BitVec.toNat im))))), AC.u (V6.x2 (V6.set (Mach.r m) (Int.toNat d) (loadL (memL (Mach.mem m) (BitVec.toNat (fromN (Ins.mk 10 d s im of) m)) (BitVec.toNat im))))), AC.u (V6.x3 (V6.set (Mach.r m) (Int.toNat d) (loadL (memL (Mach.mem m) (BitVec.toNat (fromN (Ins.mk 10 d s im of) m)) (BitVec.toNat im))))), AC.u (V6.x4 (V6.set (Mach.r m) (Int.toNat d) (loadL (memL (Mach.mem m) (BitVec.toNat (fromN (Ins.mk 10 d s im of) m)) (BitVec.toNat im))))), AC.u (V6.x5 (V6.set (Mach.r m) (Int.toNat d) (loadL (memL (Mach.mem m) (BitVec.toNat (fromN (Ins.mk 10 d s im of) m)) (BitVec.toNat im))))), AC.b (V6.x0 (V6.set (Mach.s m) (Int.toNat d) true)), AC.b (V6.x1 (V6.set (Mach.s m) (Int.toNat d) true)), AC.b (V6.x2 (V6.set (Mach.s m) (Int.toNat d) true)), AC.b (V6.x3 (V6.set (Mach.s m) (Int.toNat d) true)), AC.b (V6.x4 (V6.set (Mach.s m) (Int.toNat d) true)), AC.b (V6.x5 (V6.set (Mach.s m) (Int.toNat d) true)), AC.s (Mach.mem m), AC.i (Mach.fin m)], AV.c (AC.i 0)] [] (Eff.mk (AV.ag (Mach.cs (Mach.on (Mach.mk (Mach.t m) (V6.set (Mach.r m) (Int.toNat d) (loadL (memL (Mach.mem m) (BitVec.toNat (fromN (Ins.mk 10 d s im of) m)) (BitVec.toNat im)))) (V6.set (Mach.s m) (Int.toNat d) true) (Mach.mem m) (Mach.fin m)) 0))) [] none))) :
    CallOK Try.prog ⟨59, [AV.ag (Ins.cs (Ins.mk 10 d s im of)), AV.ag (Mach.cs m)], [], ⟨AV.ag [AC.i (Mach.t m + 1 + 0), AC.u (V6.x0 (V6.set (Mach.r m) (Int.toNat d) (loadL (memL (Mach.mem m) (BitVec.toNat (fromN (Ins.mk 10 d s im of) m)) (BitVec.toNat im))))), AC.u (V6.x1 (V6.set (Mach.r m) (Int.toNat d) (loadL (memL (Mach.mem m) (BitVec.toNat (fromN (Ins.mk 10 d s im of) m)) (BitVec.toNat im))))), AC.u (V6.x2 (V6.set (Mach.r m) (Int.toNat d) (loadL (memL (Mach.mem m) (BitVec.toNat (fromN (Ins.mk 10 d s im of) m)) (BitVec.toNat im))))), AC.u (V6.x3 (V6.set (Mach.r m) (Int.toNat d) (loadL (memL (Mach.mem m) (BitVec.toNat (fromN (Ins.mk 10 d s im of) m)) (BitVec.toNat im))))), AC.u (V6.x4 (V6.set (Mach.r m) (Int.toNat d) (loadL (memL (Mach.mem m) (BitVec.toNat (fromN (Ins.mk 10 d s im of) m)) (BitVec.toNat im))))), AC.u (V6.x5 (V6.set (Mach.r m) (Int.toNat d) (loadL (memL (Mach.mem m) (BitVec.toNat (fromN (Ins.mk 10 d s im of) m)) (BitVec.toNat im))))), AC.b (V6.x0 (V6.set (Mach.s m) (Int.toNat d) true)), AC.b (V6.x1 (V6.set (Mach.s m) (Int.toNat d) true)), AC.b (V6.x2 (V6.set (Mach.s m) (Int.toNat d) true)), AC.b (V6.x3 (V6.set (Mach.s m) (Int.toNat d) true)), AC.b (V6.x4 (V6.set (Mach.s m) (Int.toNat d) true)), AC.b (V6.x5 (V6.set (Mach.s m) (Int.toNat d) true)), AC.s (Mach.mem m), AC.i (Mach.fin m)], [], none⟩⟩ :=
  val_run 2000 [Eff.mk (AV.c (AC.u (V6.get (Mach.r m) (Int.toNat s)))) [] none, Eff.mk (AV.c (AC.u (fromN (Ins.mk 10 d s im of) m))) [] none, Eff.mk (AV.c (AC.b (farB (Ins.mk 10 d s im of) m))) [] none, Eff.mk (AV.c (AC.s (ByteArray.extract (Mach.mem m) (BitVec.toNat (fromN (Ins.mk 10 d s im of) m)) (BitVec.toNat (fromN (Ins.mk 10 d s im of) m) + BitVec.toNat im)))) [] none, Eff.mk (AV.c (AC.u (loadL (memL (ByteArray.extract (Mach.mem m) (BitVec.toNat (fromN (Ins.mk 10 d s im of) m)) (BitVec.toNat (fromN (Ins.mk 10 d s im of) m) + BitVec.toNat im)) 0 (ByteArray.size (ByteArray.extract (Mach.mem m) (BitVec.toNat (fromN (Ins.mk 10 d s im of) m)) (BitVec.toNat (fromN (Ins.mk 10 d s im of) m) + BitVec.toNat im))))))) [] none, Eff.mk (AV.c (AC.u (loadL (memL (Mach.mem m) (BitVec.toNat (fromN (Ins.mk 10 d s im of) m)) (BitVec.toNat im))))) [] none, Eff.mk (AV.ag (Mach.cs (Mach.wth m (Int.toNat d) (loadL (memL (Mach.mem m) (BitVec.toNat (fromN (Ins.mk 10 d s im of) m)) (BitVec.toNat im)))))) [] none, Eff.mk (AV.ag (Mach.cs (Mach.on (Mach.mk (Mach.t m) (V6.set (Mach.r m) (Int.toNat d) (loadL (memL (Mach.mem m) (BitVec.toNat (fromN (Ins.mk 10 d s im of) m)) (BitVec.toNat im)))) (V6.set (Mach.s m) (Int.toNat d) true) (Mach.mem m) (Mach.fin m)) 0))) [] none] [false, false, true] [] [(4, 3), (4, 7), (5, 4), (8, 10), (8, 11)] Try.func59 rfl rfl rfl rfl (by kernel_rfl) h (cr_same c0 (cr_same c1 (cr_same c2 (cr_same c3 (cr_same c4 (cr_cons c5 (cr_cons c6 (cr_cons c7 cr_nil))))))))
theorem reachS_w0 {d : Int} {s : Int} {of : Int} {im : BitVec 64} {m : Mach} (h : (decide (0 ≤ d) && decide (d < 6) && (AC.isU (Option.getD (Mach.cs m)[1 + Int.toNat d * 1]? (AC.b false)) && Nat.blt (1 + Int.toNat d * 1) (List.length (Mach.cs m)) && (farB (Ins.mk 11 d s im of) m && true))) = true) (c0 : Eff.mk (AV.c (AC.u (AC.asU (Option.getD (Mach.cs m)[1 + Int.toNat d * 1]? (AC.b false))))) [] none = Eff.mk (AV.c (AC.u (V6.get (Mach.r m) (Int.toNat d)))) [] none) (c1 : Eff.mk (AV.c (AC.u (badd (V6.get (Mach.r m) (Int.toNat d)) (BitVec.ofInt 64 of)))) [] none = Eff.mk (AV.c (AC.u (fromN (Ins.mk 11 d s im of) m))) [] none) (c2 : Eff.mk (AV.c (AC.b (decide (nv (bsub (64#64) im) < nv (fromN (Ins.mk 11 d s im of) m))))) [] none = Eff.mk (AV.c (AC.b (farB (Ins.mk 11 d s im of) m))) [] none) (c3 : CallOK Try.prog (CallRec.mk 58 [AV.ag (Mach.cs m), AV.c (AC.i 2)] [] (Eff.mk (AV.ag (Mach.cs (Mach.fine m 2))) [] none))) :
    CallOK Try.prog ⟨59, [AV.ag (Ins.cs (Ins.mk 11 d s im of)), AV.ag (Mach.cs m)], [], ⟨AV.ag [AC.i (Mach.t m), AC.u (V6.x0 (Mach.r m)), AC.u (V6.x1 (Mach.r m)), AC.u (V6.x2 (Mach.r m)), AC.u (V6.x3 (Mach.r m)), AC.u (V6.x4 (Mach.r m)), AC.u (V6.x5 (Mach.r m)), AC.b (V6.x0 (Mach.s m)), AC.b (V6.x1 (Mach.s m)), AC.b (V6.x2 (Mach.s m)), AC.b (V6.x3 (Mach.s m)), AC.b (V6.x4 (Mach.s m)), AC.b (V6.x5 (Mach.s m)), AC.s (Mach.mem m), AC.i 2], [], none⟩⟩ :=
  val_run 2000 [Eff.mk (AV.c (AC.u (V6.get (Mach.r m) (Int.toNat d)))) [] none, Eff.mk (AV.c (AC.u (fromN (Ins.mk 11 d s im of) m))) [] none, Eff.mk (AV.c (AC.b (farB (Ins.mk 11 d s im of) m))) [] none, Eff.mk (AV.ag (Mach.cs (Mach.fine m 2))) [] none] [true, true] [] [(4, 3), (4, 7), (5, 4), (9, 3), (9, 8), (9, 19), (9, 20)] Try.func59 rfl rfl rfl rfl (by kernel_rfl) h (cr_same c0 (cr_same c1 (cr_same c2 (cr_cons c3 cr_nil))))
theorem reachS_w1 {d : Int} {s : Int} {of : Int} {im : BitVec 64} {m : Mach} (h : (decide (0 ≤ d) && decide (d < 6) && (AC.isU (Option.getD (Mach.cs m)[1 + Int.toNat d * 1]? (AC.b false)) && Nat.blt (1 + Int.toNat d * 1) (List.length (Mach.cs m)) && (!farB (Ins.mk 11 d s im of) m && (decide ((nv (fromN (Ins.mk 11 d s im of) m)) ≤ (↑(ByteArray.size (Mach.mem m)) : Int)) && (decide (0 ≤ s) && decide (s < 6) && (AC.isU (Option.getD (Mach.cs m)[1 + Int.toNat s * 1]? (AC.b false)) && Nat.blt (1 + Int.toNat s * 1) (List.length (Mach.cs m)) && (decide (ByteArray.size (ByteArray.extract (Mach.mem m) 0 (BitVec.toNat (fromN (Ins.mk 11 d s im of) m))) + ByteArray.size (strOf (storeL (V6.get (Mach.r m) (Int.toNat s)) (BitVec.toNat im))) ≤ 9223372036854775807) && (decide ((nv (badd (fromN (Ins.mk 11 d s im of) m) im)) ≤ (↑(ByteArray.size (Mach.mem m)) : Int)) && decide ((↑(ByteArray.size (Mach.mem m)) : Int) ≤ (↑(ByteArray.size (Mach.mem m)) : Int)) && (decide (ByteArray.size (ByteArray.extract (Mach.mem m) 0 (BitVec.toNat (fromN (Ins.mk 11 d s im of) m)) ++ strOf (storeL (V6.get (Mach.r m) (Int.toNat s)) (BitVec.toNat im))) + ByteArray.size (ByteArray.extract (Mach.mem m) (BitVec.toNat (fromN (Ins.mk 11 d s im of) m) + BitVec.toNat im) (ByteArray.size (Mach.mem m))) ≤ 9223372036854775807) && true))))))))) = true) (c0 : Eff.mk (AV.c (AC.u (AC.asU (Option.getD (Mach.cs m)[1 + Int.toNat d * 1]? (AC.b false))))) [] none = Eff.mk (AV.c (AC.u (V6.get (Mach.r m) (Int.toNat d)))) [] none) (c1 : Eff.mk (AV.c (AC.u (badd (V6.get (Mach.r m) (Int.toNat d)) (BitVec.ofInt 64 of)))) [] none = Eff.mk (AV.c (AC.u (fromN (Ins.mk 11 d s im of) m))) [] none) (c2 : Eff.mk (AV.c (AC.b (decide (nv (bsub (64#64) im) < nv (fromN (Ins.mk 11 d s im of) m))))) [] none = Eff.mk (AV.c (AC.b (farB (Ins.mk 11 d s im of) m))) [] none) (c3 : Eff.mk (AV.c (AC.s (ByteArray.extract (Mach.mem m) 0 (Int.toNat ((nv (fromN (Ins.mk 11 d s im of) m))))))) [] none = Eff.mk (AV.c (AC.s (ByteArray.extract (Mach.mem m) 0 (BitVec.toNat (fromN (Ins.mk 11 d s im of) m))))) [] none) (c4 : Eff.mk (AV.c (AC.u (AC.asU (Option.getD (Mach.cs m)[1 + Int.toNat s * 1]? (AC.b false))))) [] none = Eff.mk (AV.c (AC.u (V6.get (Mach.r m) (Int.toNat s)))) [] none) (c5 : CallOK Try.prog (CallRec.mk 96 [AV.c (AC.u (V6.get (Mach.r m) (Int.toNat s))), AV.c (AC.u im)] [] (Eff.mk (AV.c (AC.s (strOf (storeL (V6.get (Mach.r m) (Int.toNat s)) (BitVec.toNat im))))) [] none))) (c6 : Eff.mk (AV.c (AC.s (ByteArray.extract (Mach.mem m) (Int.toNat ((nv (badd (fromN (Ins.mk 11 d s im of) m) im)))) (Int.toNat ((↑(ByteArray.size (Mach.mem m)) : Int)))))) [] none = Eff.mk (AV.c (AC.s (ByteArray.extract (Mach.mem m) (BitVec.toNat (fromN (Ins.mk 11 d s im of) m) + BitVec.toNat im) (ByteArray.size (Mach.mem m))))) [] none) (c7 : Eff.mk (AV.c (AC.s (ByteArray.extract (Mach.mem m) 0 (BitVec.toNat (fromN (Ins.mk 11 d s im of) m)) ++ strOf (storeL (V6.get (Mach.r m) (Int.toNat s)) (BitVec.toNat im)) ++ ByteArray.extract (Mach.mem m) (BitVec.toNat (fromN (Ins.mk 11 d s im of) m) + BitVec.toNat im) (ByteArray.size (Mach.mem m))))) [] none = Eff.mk (AV.c (AC.s (putMem (Mach.mem m) (BitVec.toNat (fromN (Ins.mk 11 d s im of) m)) (BitVec.toNat im) (V6.get (Mach.r m) (Int.toNat s))))) [] none) (c8 : CallOK Try.prog (CallRec.mk 60 [AV.ag [AC.i (Mach.t m), AC.u (V6.x0 (Mach.r m)), AC.u (V6.x1 (Mach.r m)), AC.u (V6.x2 (Mach.r m)), AC.u (V6.x3 (Mach.r m)), AC.u (V6.x4 (Mach.r m)), AC.u (V6.x5 (Mach.r m)), AC.b (V6.x0 (Mach.s m)), AC.b (V6.x1 (Mach.s m)), AC.b (V6.x2 (Mach.s m)), AC.b (V6.x3 (Mach.s m)), AC.b (V6.x4 (Mach.s m)), AC.b (V6.x5 (Mach.s m)), AC.s (putMem (Mach.mem m) (BitVec.toNat (fromN (Ins.mk 11 d s im of) m)) (BitVec.toNat im) (V6.get (Mach.r m) (Int.toNat s))), AC.i (Mach.fin m)], AV.c (AC.i 0)] [] (Eff.mk (AV.ag (Mach.cs (Mach.on (Mach.mk (Mach.t m) (Mach.r m) (Mach.s m) (putMem (Mach.mem m) (BitVec.toNat (fromN (Ins.mk 11 d s im of) m)) (BitVec.toNat im) (V6.get (Mach.r m) (Int.toNat s))) (Mach.fin m)) 0))) [] none))) :
    CallOK Try.prog ⟨59, [AV.ag (Ins.cs (Ins.mk 11 d s im of)), AV.ag (Mach.cs m)], [], ⟨AV.ag [AC.i (Mach.t m + 1 + 0), AC.u (V6.x0 (Mach.r m)), AC.u (V6.x1 (Mach.r m)), AC.u (V6.x2 (Mach.r m)), AC.u (V6.x3 (Mach.r m)), AC.u (V6.x4 (Mach.r m)), AC.u (V6.x5 (Mach.r m)), AC.b (V6.x0 (Mach.s m)), AC.b (V6.x1 (Mach.s m)), AC.b (V6.x2 (Mach.s m)), AC.b (V6.x3 (Mach.s m)), AC.b (V6.x4 (Mach.s m)), AC.b (V6.x5 (Mach.s m)), AC.s (putMem (Mach.mem m) (BitVec.toNat (fromN (Ins.mk 11 d s im of) m)) (BitVec.toNat im) (V6.get (Mach.r m) (Int.toNat s))), AC.i (Mach.fin m)], [], none⟩⟩ :=
  val_run 2000 [Eff.mk (AV.c (AC.u (V6.get (Mach.r m) (Int.toNat d)))) [] none, Eff.mk (AV.c (AC.u (fromN (Ins.mk 11 d s im of) m))) [] none, Eff.mk (AV.c (AC.b (farB (Ins.mk 11 d s im of) m))) [] none, Eff.mk (AV.c (AC.s (ByteArray.extract (Mach.mem m) 0 (BitVec.toNat (fromN (Ins.mk 11 d s im of) m))))) [] none, Eff.mk (AV.c (AC.u (V6.get (Mach.r m) (Int.toNat s)))) [] none, Eff.mk (AV.c (AC.s (strOf (storeL (V6.get (Mach.r m) (Int.toNat s)) (BitVec.toNat im))))) [] none, Eff.mk (AV.c (AC.s (ByteArray.extract (Mach.mem m) (BitVec.toNat (fromN (Ins.mk 11 d s im of) m) + BitVec.toNat im) (ByteArray.size (Mach.mem m))))) [] none, Eff.mk (AV.c (AC.s (putMem (Mach.mem m) (BitVec.toNat (fromN (Ins.mk 11 d s im of) m)) (BitVec.toNat im) (V6.get (Mach.r m) (Int.toNat s))))) [] none, Eff.mk (AV.ag (Mach.cs (Mach.on (Mach.mk (Mach.t m) (Mach.r m) (Mach.s m) (putMem (Mach.mem m) (BitVec.toNat (fromN (Ins.mk 11 d s im of) m)) (BitVec.toNat im) (V6.get (Mach.r m) (Int.toNat s))) (Mach.fin m)) 0))) [] none] [true, false, false] [] [(4, 3), (4, 7), (5, 4), (9, 3), (9, 8), (9, 19), (9, 20)] Try.func59 rfl rfl rfl rfl (by kernel_rfl) h (cr_same c0 (cr_same c1 (cr_same c2 (cr_same c3 (cr_same c4 (cr_cons c5 (cr_same c6 (cr_same c7 (cr_cons c8 cr_nil)))))))))
end Go.Proofs.Ytkigmocchaikgab
