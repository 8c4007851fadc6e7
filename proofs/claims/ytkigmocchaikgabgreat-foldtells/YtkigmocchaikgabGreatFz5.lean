import Derived.Test.YtkigmocchaikgabGreatFz2
import Derived.Test.YtkigmocchaikgabGreatProg
import Derived.Test.YtkigmocchaikgabGreatFz4
import Derived.Test.YtkigmocchaikgabGreatFz3
import Derived.BigRegion
import Derived.Deep.CutBlock
import Derived.Deep.DeepCutAuto
import Derived.Deep.RegionHeld3
/- Ways of bodies, written by a program (ways.py): what each asks for, and hands back. -/
namespace Go.Proofs.YtkigmocchaikgabGreat
open Go.RowKit
section
abbrev ssRoundK (i : Ins) (t : St) (q k : Nat) (U : List AC) : Kn := ⟨[(2, .c (.w 0)), (3, .c (.w 1)), (4, .c (.w 2)), (5, .c (.w 3)), (7, .c (.sx 9 q)), (8, .c (.i (k : Int)))], [(0, Ent.mk true i.cs 0), (1, Ent.mk true t.cs 0), (2, Ent.mk true St.z.cs 0), (3, Ent.mk true St.z.cs 0), (9, Ent.mk true U 1)], 10⟩
variable {t t1 t2 : St} {d : Int} {a x y x1 y1 c b : V4} {i : Ins} {V : AV} {f1 f2 p1 p2 : Bool} {w : World} {β : Bs} {n k : Nat} {U : List AC} {C : Cx} {R : Ending → World → Prop} {E : Eff}
theorem rwith_w0 (h : (decide (0 ≤ d) && decide (d < 6) && (Nat.ble (1 + d.toNat * 1 + 1) (t.cs).length && true && (decide (0 ≤ d) && decide (d < 6) && (Nat.ble (7 + d.toNat * 4 + (a.cs).length) ((St.mk t.live ((t.s).set d.toNat true) t.r).cs).length && true && true)))) = true) (c0 : we 0 ((t.cs).set (1 + d.toNat * 1) (.b true)) = we 0 ((St.mk t.live ((t.s).set d.toNat true) t.r).cs)) (c1 : we 0 (splice (St.mk t.live ((t.s).set d.toNat true) t.r).cs (7 + d.toNat * 4) a.cs) = we 0 ((St.wth t d.toNat a).cs)) :
  Ok 45 [.ag t.cs, .c (.i d), .ag a.cs] (.ag [.b t.live, .b ((t.s).set d.toNat true).x0, .b ((t.s).set d.toNat true).x1, .b ((t.s).set d.toNat true).x2, .b ((t.s).set d.toNat true).x3, .b ((t.s).set d.toNat true).x4, .b ((t.s).set d.toNat true).x5, .u (((t.r).set d.toNat a).x0).v, .u (((t.r).set d.toNat a).x0).m, .u (((t.r).set d.toNat a).x0).l, .u (((t.r).set d.toNat a).x0).h, .u (((t.r).set d.toNat a).x1).v, .u (((t.r).set d.toNat a).x1).m, .u (((t.r).set d.toNat a).x1).l, .u (((t.r).set d.toNat a).x1).h, .u (((t.r).set d.toNat a).x2).v, .u (((t.r).set d.toNat a).x2).m, .u (((t.r).set d.toNat a).x2).l, .u (((t.r).set d.toNat a).x2).h, .u (((t.r).set d.toNat a).x3).v, .u (((t.r).set d.toNat a).x3).m, .u (((t.r).set d.toNat a).x3).l, .u (((t.r).set d.toNat a).x3).h, .u (((t.r).set d.toNat a).x4).v, .u (((t.r).set d.toNat a).x4).m, .u (((t.r).set d.toNat a).x4).l, .u (((t.r).set d.toNat a).x4).h, .u (((t.r).set d.toNat a).x5).v, .u (((t.r).set d.toNat a).x5).m, .u (((t.r).set d.toNat a).x5).l, .u (((t.r).set d.toNat a).x5).h]) :=
 val_run2 [] ([]) [(1, 3), (2, 4)] Tryz.func45 rfl rfl rfl rfl (by kernel_rfl) h (cr_same c0 (cr_same c1 cr_nil))
theorem rleft_w0 {q : Bool} (h : (!q && true) = true) :
  Ok 42 [.ag i.cs, .ag t.cs, .ag x.cs, .ag y.cs, .c (.b q)] (.ag St.z.cs) :=
 val_run2 [true] ([]) [] Tryz.func42 rfl rfl rfl rfl (by kernel_rfl) h cr_nil
theorem rleft_w1 {q : Bool} (h : (!!q && (i.s != -1 && true)) = true) (c0 : Ok 45 [.ag t.cs, .c (.i i.d), .ag x.cs] (.ag t1.cs)) (c1 : Ok 45 [.ag t1.cs, .c (.i i.s), .ag y.cs] (.ag t2.cs)) :
  Ok 42 [.ag i.cs, .ag t.cs, .ag x.cs, .ag y.cs, .c (.b q)] (.ag t2.cs) :=
 val_run2 [false, true] ([]) [] Tryz.func42 rfl rfl rfl rfl (by kernel_rfl) h (cr_cons c0 (cr_cons c1 cr_nil))
theorem rleft_w2 {q : Bool} (h : (!!q && (!i.s != -1 && true)) = true) (c0 : Ok 45 [.ag t.cs, .c (.i i.d), .ag x.cs] (.ag t1.cs)) :
  Ok 42 [.ag i.cs, .ag t.cs, .ag x.cs, .ag y.cs, .c (.b q)] (.ag t1.cs) :=
 val_run2 [false, false] ([]) [] Tryz.func42 rfl rfl rfl rfl (by kernel_rfl) h (cr_cons c0 cr_nil)
theorem rleft_all {q : Bool}
  (l0 : (!q) = true → (AV.ag St.z.cs = V))
  (l1 : (!q) = false → (i.s != -1) = true → (Ok 45 [.ag t.cs, .c (.i i.d), .ag x.cs] (.ag t1.cs)) ∧ (Ok 45 [.ag t1.cs, .c (.i i.s), .ag y.cs] (.ag t2.cs)) ∧ (AV.ag t2.cs = V))
  (l2 : (!q) = false → (i.s != -1) = false → (Ok 45 [.ag t.cs, .c (.i i.d), .ag x.cs] (.ag t1.cs)) ∧ (AV.ag t1.cs = V)) :
  Ok 42 [.ag i.cs, .ag t.cs, .ag x.cs, .ag y.cs, .c (.b q)] V :=
 (tf (!q)).elim (fun h0 => (match l0 h0 with | e => ok_eq (rleft_w0 (and_yes h0 rfl)) e)) (fun h0 => (tf (i.s != -1)).elim (fun h1 => (match l1 h0 h1 with | ⟨c0, c1, e⟩ => ok_eq (rleft_w1 (and_yes (not_yes h0) (and_yes h1 rfl)) c0 c1) e)) (fun h1 => (match l2 h0 h1 with | ⟨c0, e⟩ => ok_eq (rleft_w2 (and_yes (not_yes h0) (and_yes (not_yes h1) rfl)) c0) e)))
theorem ssTop_w0 (h : (!t.live && true) = true) :
  BO 11 Tryz.f11 (cx w β n []) [.ag i.cs, .ag t.cs] [] 0 (REff w β ⟨.tu [.ag St.z.cs, .ag St.z.cs, .c (.i 0)], [], none⟩) :=
 run_eff2 [] none [true] ([true]) [] Tryz.func11 (ekeys0 rfl n) (by kernel_rfl) h cr_nil
theorem ssTop_w1 {q : Nat} (h : (!!t.live && true) = true) (c0 : CO 36 [.ag i.cs] [] (Eff.mk (.c (.sx 9 q)) [] (some (9, Ent.mk true U 1)))) (lo : Kn.Low ⟨[(2, .c (.w 0)), (3, .c (.w 1)), (4, .c (.w 2)), (5, .c (.w 3)), (7, .c (.sx 9 q)), (8, .c (.i 0))], [(0, Ent.mk true i.cs 0), (1, Ent.mk true t.cs 0), (2, Ent.mk true St.z.cs 0), (3, Ent.mk true St.z.cs 0), (9, Ent.mk true U 1)], 10⟩) (hF : ∀ k, C.F k → k < 10) (z : AR 11 Tryz.f11 C 0 ⟨[(2, .c (.w 0)), (3, .c (.w 1)), (4, .c (.w 2)), (5, .c (.w 3)), (7, .c (.sx 9 q)), (8, .c (.i 0))], [(0, Ent.mk true i.cs 0), (1, Ent.mk true t.cs 0), (2, Ent.mk true St.z.cs 0), (3, Ent.mk true St.z.cs 0), (9, Ent.mk true U 1)], 10⟩ R) :
  BO 11 Tryz.f11 C [.ag i.cs, .ag t.cs] [] 0 R :=
 run_cut2 [false] ([true]) [] Tryz.func11 (by kernel_rfl) h (cr_cons c0 cr_nil) lo hF z
theorem ssRound_w0 {q : Nat} (h : (decide ((k : Int) < (q : Int)) && (decide ((k : Int) < (q : Int)) && (AC.isI (U[(k : Int).toNat * 1]?.getD (.b false)) && Nat.blt ((k : Int).toNat * 1) U.length && (decide (0 ≤ d) && decide (d < 6) && (AC.isB ((t.cs)[1 + d.toNat * 1]?.getD (.b false)) && Nat.blt (1 + d.toNat * 1) (t.cs).length && (!(t.s).get d.toNat && true)))))) = true) (c0 : pe (.c (.i (AC.asI (U[(k : Int).toNat * 1]?.getD (.b false))))) = pe (.c (.i d))) (c1 : pe (.c (.b (AC.asB ((t.cs)[1 + d.toNat * 1]?.getD (.b false))))) = pe (.c (.b ((t.s).get d.toNat)))) :
  AR 11 Tryz.f11 (cx w β n []) 0 (ssRoundK i t q k U) (REff w β ⟨.tu [.ag St.z.cs, .ag St.z.cs, .c (.i 1)], [], none⟩) :=
 run_eff2 [] none [true, true] ([true]) [(7, 3), (7, 6), (6, 1)] Tryz.func11 (ekeys0 rfl n) (by kernel_rfl) h (cr_same c0 (cr_same c1 cr_nil))
theorem ssRound_w1 {q : Nat} (h : (decide ((k : Int) < (q : Int)) && (decide ((k : Int) < (q : Int)) && (AC.isI (U[(k : Int).toNat * 1]?.getD (.b false)) && Nat.blt ((k : Int).toNat * 1) U.length && (decide (0 ≤ d) && decide (d < 6) && (AC.isB ((t.cs)[1 + d.toNat * 1]?.getD (.b false)) && Nat.blt (1 + d.toNat * 1) (t.cs).length && (!!(t.s).get d.toNat && true)))))) = true) (c0 : pe (.c (.i (AC.asI (U[(k : Int).toNat * 1]?.getD (.b false))))) = pe (.c (.i d))) (c1 : pe (.c (.b (AC.asB ((t.cs)[1 + d.toNat * 1]?.getD (.b false))))) = pe (.c (.b ((t.s).get d.toNat)))) (c2 : pe (.c (.i (IntKind.i64.wrap ((k : Int) + 1)))) = pe (.c (.i (↑(k + 1) : Int)))) (lo : Kn.Low (ssRoundK i t q (k + 1) U)) (hF : ∀ k, C.F k → k < 10) (z : AR 11 Tryz.f11 C 0 (ssRoundK i t q (k + 1) U) R) :
  AR 11 Tryz.f11 C 0 (ssRoundK i t q k U) R :=
 run_cut2 [true, false] ([true]) [(7, 3), (7, 6), (6, 1)] Tryz.func11 (by kernel_rfl) h (cr_same c0 (cr_same c1 (cr_same c2 cr_nil))) lo hF z
theorem ssRound_all {q : Nat} (hn : n ≤ 10)
  (l0 : (!(t.s).get d.toNat) = true → (decide ((k : Int) < (q : Int))) = true ∧ (decide ((k : Int) < (q : Int))) = true ∧ (AC.isI (U[(k : Int).toNat * 1]?.getD (.b false)) && Nat.blt ((k : Int).toNat * 1) U.length) = true ∧ (decide (0 ≤ d) && decide (d < 6)) = true ∧ (AC.isB ((t.cs)[1 + d.toNat * 1]?.getD (.b false)) && Nat.blt (1 + d.toNat * 1) (t.cs).length) = true ∧ (pe (.c (.i (AC.asI (U[(k : Int).toNat * 1]?.getD (.b false))))) = pe (.c (.i d))) ∧ (pe (.c (.b (AC.asB ((t.cs)[1 + d.toNat * 1]?.getD (.b false))))) = pe (.c (.b ((t.s).get d.toNat)))) ∧ ((⟨.tu [.ag St.z.cs, .ag St.z.cs, .c (.i 1)], [], none⟩ : Eff) = E))
  (l1 : (!(t.s).get d.toNat) = false → (decide ((k : Int) < (q : Int))) = true ∧ (decide ((k : Int) < (q : Int))) = true ∧ (AC.isI (U[(k : Int).toNat * 1]?.getD (.b false)) && Nat.blt ((k : Int).toNat * 1) U.length) = true ∧ (decide (0 ≤ d) && decide (d < 6)) = true ∧ (AC.isB ((t.cs)[1 + d.toNat * 1]?.getD (.b false)) && Nat.blt (1 + d.toNat * 1) (t.cs).length) = true ∧ (pe (.c (.i (AC.asI (U[(k : Int).toNat * 1]?.getD (.b false))))) = pe (.c (.i d))) ∧ (pe (.c (.b (AC.asB ((t.cs)[1 + d.toNat * 1]?.getD (.b false))))) = pe (.c (.b ((t.s).get d.toNat)))) ∧ (pe (.c (.i (IntKind.i64.wrap ((k : Int) + 1)))) = pe (.c (.i (↑(k + 1) : Int)))) ∧ Kn.Low (ssRoundK i t q (k + 1) U) ∧ AR 11 Tryz.f11 (cx w β n []) 0 (ssRoundK i t q (k + 1) U) (REff w β E)) :
  AR 11 Tryz.f11 (cx w β n []) 0 (ssRoundK i t q k U) (REff w β E) :=
 (tf (!(t.s).get d.toNat)).elim (fun h0 => (match l0 h0 with | ⟨o0, o1, o2, o3, o4, c0, c1, e⟩ => art_eq (ssRound_w0 (and_yes o0 (and_yes o1 (and_yes o2 (and_yes o3 (and_yes o4 (and_yes h0 rfl)))))) c0 c1) e)) (fun h0 => (match l1 h0 with | ⟨o0, o1, o2, o3, o4, c0, c1, c2, lo, z⟩ => ssRound_w1 (and_yes o0 (and_yes o1 (and_yes o2 (and_yes o3 (and_yes o4 (and_yes (not_yes h0) rfl)))))) c0 c1 c2 lo (fun _ hk => Nat.lt_of_lt_of_le hk hn) z))
theorem ssX1_w0 {q : Nat} (h : (!decide ((k : Int) < (q : Int)) && (i.s != -1 && (decide (0 ≤ i.s) && decide (i.s < 6) && (Nat.ble (7 + (i.s).toNat * 4 + 4) (t.cs).length && (decide (0 ≤ i.d) && decide (i.d < 6) && (Nat.ble (7 + (i.d).toNat * 4 + 4) (t.cs).length && (!i.op == 10 && (decide (0 ≤ i.d) && decide (i.d < 6) && (Nat.ble (7 + (i.d).toNat * 4 + 4) (t.cs).length && (i.op == 15 && true)))))))))) = true) (c0 : Ok 37 [.c (.u i.im)] (.ag a.cs)) (c1 : pe (.ag (((t.cs).drop (7 + (i.s).toNat * 4)).take 4)) = pe (.ag ((t.r).get (i.s).toNat).cs)) (c2 : pe (.ag (((t.cs).drop (7 + (i.d).toNat * 4)).take 4)) = pe (.ag ((t.r).get (i.d).toNat).cs)) (c3 : Ok 38 [.c (.i i.op)] (.c (.b false))) (c4 : pe (.ag (((t.cs).drop (7 + (i.d).toNat * 4)).take 4)) = pe (.ag ((t.r).get (i.d).toNat).cs)) :
  AR 11 Tryz.f11 (cx w β n []) 0 (ssRoundK i t q k U) (REff w β ⟨.tu [.ag St.z.cs, .ag St.z.cs, .c (.i 0)], [], none⟩) :=
 run_eff2 [] none [false, true, false, false, false, true] ([true]) [(11, 4), (12, 4), (17, 4)] Tryz.func11 (ekeys0 rfl n) (by kernel_rfl) h (cr_cons c0 (cr_same c1 (cr_same c2 (cr_cons c3 (cr_same c4 cr_nil)))))
theorem ssEq0_w0 {q : Nat} (h : (!decide ((k : Int) < (q : Int)) && (!i.s != -1 && (decide (0 ≤ i.d) && decide (i.d < 6) && (Nat.ble (7 + (i.d).toNat * 4 + 4) (t.cs).length && (!i.op == 10 && (decide (0 ≤ i.d) && decide (i.d < 6) && (Nat.ble (7 + (i.d).toNat * 4 + 4) (t.cs).length && (!i.op == 15 && (!i.op == 12 && (i.op == 13 && true)))))))))) = true) (c0 : Ok 37 [.c (.u i.im)] (.ag a.cs)) (c1 : pe (.ag (((t.cs).drop (7 + (i.d).toNat * 4)).take 4)) = pe (.ag ((t.r).get (i.d).toNat).cs)) (c2 : Ok 38 [.c (.i i.op)] (.c (.b false))) (c3 : pe (.ag (((t.cs).drop (7 + (i.d).toNat * 4)).take 4)) = pe (.ag ((t.r).get (i.d).toNat).cs)) (c4 : Ok 40 [.ag ((t.r).get (i.d).toNat).cs, .ag a.cs] (.tu [.ag x.cs, .ag y.cs, .c (.b p1)])) (c5 : Ok 41 [.ag ((t.r).get (i.d).toNat).cs, .ag a.cs] (.tu [.ag x1.cs, .ag y1.cs, .c (.b p2)])) (c6 : Ok 42 [.ag i.cs, .ag t.cs, .ag x.cs, .ag y.cs, .c (.b p1)] (.ag t1.cs)) (c7 : Ok 42 [.ag i.cs, .ag t.cs, .ag x1.cs, .ag y1.cs, .c (.b p2)] (.ag t2.cs)) :
  AR 11 Tryz.f11 (cx w β n []) 0 (ssRoundK i t q k U) (REff w β ⟨.tu [.ag t1.cs, .ag t2.cs, .c (.i 0)], [], none⟩) :=
 run_eff2 [] none [false, false, false, false, false, false, false, true] ([true]) [(11, 4), (12, 4), (17, 4)] Tryz.func11 (ekeys0 rfl n) (by kernel_rfl) h (cr_cons c0 (cr_same c1 (cr_cons c2 (cr_same c3 (cr_cons c4 (cr_cons c5 (cr_cons c6 (cr_cons c7 cr_nil))))))))
theorem ssEq1_w0 {q : Nat} (h : (!decide ((k : Int) < (q : Int)) && (i.s != -1 && (decide (0 ≤ i.s) && decide (i.s < 6) && (Nat.ble (7 + (i.s).toNat * 4 + 4) (t.cs).length && (decide (0 ≤ i.d) && decide (i.d < 6) && (Nat.ble (7 + (i.d).toNat * 4 + 4) (t.cs).length && (!i.op == 10 && (decide (0 ≤ i.d) && decide (i.d < 6) && (Nat.ble (7 + (i.d).toNat * 4 + 4) (t.cs).length && (!i.op == 15 && (!i.op == 12 && (i.op == 13 && true)))))))))))) = true) (c0 : Ok 37 [.c (.u i.im)] (.ag a.cs)) (c1 : pe (.ag (((t.cs).drop (7 + (i.s).toNat * 4)).take 4)) = pe (.ag ((t.r).get (i.s).toNat).cs)) (c2 : pe (.ag (((t.cs).drop (7 + (i.d).toNat * 4)).take 4)) = pe (.ag ((t.r).get (i.d).toNat).cs)) (c3 : Ok 38 [.c (.i i.op)] (.c (.b false))) (c4 : pe (.ag (((t.cs).drop (7 + (i.d).toNat * 4)).take 4)) = pe (.ag ((t.r).get (i.d).toNat).cs)) (c5 : Ok 40 [.ag ((t.r).get (i.d).toNat).cs, .ag ((t.r).get (i.s).toNat).cs] (.tu [.ag x.cs, .ag y.cs, .c (.b p1)])) (c6 : Ok 41 [.ag ((t.r).get (i.d).toNat).cs, .ag ((t.r).get (i.s).toNat).cs] (.tu [.ag x1.cs, .ag y1.cs, .c (.b p2)])) (c7 : Ok 42 [.ag i.cs, .ag t.cs, .ag x.cs, .ag y.cs, .c (.b p1)] (.ag t1.cs)) (c8 : Ok 42 [.ag i.cs, .ag t.cs, .ag x1.cs, .ag y1.cs, .c (.b p2)] (.ag t2.cs)) :
  AR 11 Tryz.f11 (cx w β n []) 0 (ssRoundK i t q k U) (REff w β ⟨.tu [.ag t1.cs, .ag t2.cs, .c (.i 0)], [], none⟩) :=
 run_eff2 [] none [false, true, false, false, false, false, false, true] ([true]) [(11, 4), (12, 4), (17, 4)] Tryz.func11 (ekeys0 rfl n) (by kernel_rfl) h (cr_cons c0 (cr_same c1 (cr_same c2 (cr_cons c3 (cr_same c4 (cr_cons c5 (cr_cons c6 (cr_cons c7 (cr_cons c8 cr_nil)))))))))
theorem ssLt0_w0 {q : Nat} (h : (!decide ((k : Int) < (q : Int)) && (!i.s != -1 && (decide (0 ≤ i.d) && decide (i.d < 6) && (Nat.ble (7 + (i.d).toNat * 4 + 4) (t.cs).length && (!i.op == 10 && (decide (0 ≤ i.d) && decide (i.d < 6) && (Nat.ble (7 + (i.d).toNat * 4 + 4) (t.cs).length && (!i.op == 15 && (!i.op == 12 && (!i.op == 13 && (i.op == 14 && true))))))))))) = true) (c0 : Ok 37 [.c (.u i.im)] (.ag a.cs)) (c1 : pe (.ag (((t.cs).drop (7 + (i.d).toNat * 4)).take 4)) = pe (.ag ((t.r).get (i.d).toNat).cs)) (c2 : Ok 38 [.c (.i i.op)] (.c (.b false))) (c3 : pe (.ag (((t.cs).drop (7 + (i.d).toNat * 4)).take 4)) = pe (.ag ((t.r).get (i.d).toNat).cs)) (c4 : Ok 43 [.ag ((t.r).get (i.d).toNat).cs, .ag a.cs] (.tu [.ag x.cs, .ag y.cs, .c (.b p1)])) (c5 : Ok 44 [.ag ((t.r).get (i.d).toNat).cs, .ag a.cs] (.tu [.ag x1.cs, .ag y1.cs, .c (.b p2)])) (c6 : Ok 42 [.ag i.cs, .ag t.cs, .ag x.cs, .ag y.cs, .c (.b p1)] (.ag t1.cs)) (c7 : Ok 42 [.ag i.cs, .ag t.cs, .ag x1.cs, .ag y1.cs, .c (.b p2)] (.ag t2.cs)) :
  AR 11 Tryz.f11 (cx w β n []) 0 (ssRoundK i t q k U) (REff w β ⟨.tu [.ag t1.cs, .ag t2.cs, .c (.i 0)], [], none⟩) :=
 run_eff2 [] none [false, false, false, false, false, false, false, false, true] ([true]) [(11, 4), (12, 4), (17, 4)] Tryz.func11 (ekeys0 rfl n) (by kernel_rfl) h (cr_cons c0 (cr_same c1 (cr_cons c2 (cr_same c3 (cr_cons c4 (cr_cons c5 (cr_cons c6 (cr_cons c7 cr_nil))))))))
theorem ssLt1_w0 {q : Nat} (h : (!decide ((k : Int) < (q : Int)) && (i.s != -1 && (decide (0 ≤ i.s) && decide (i.s < 6) && (Nat.ble (7 + (i.s).toNat * 4 + 4) (t.cs).length && (decide (0 ≤ i.d) && decide (i.d < 6) && (Nat.ble (7 + (i.d).toNat * 4 + 4) (t.cs).length && (!i.op == 10 && (decide (0 ≤ i.d) && decide (i.d < 6) && (Nat.ble (7 + (i.d).toNat * 4 + 4) (t.cs).length && (!i.op == 15 && (!i.op == 12 && (!i.op == 13 && (i.op == 14 && true))))))))))))) = true) (c0 : Ok 37 [.c (.u i.im)] (.ag a.cs)) (c1 : pe (.ag (((t.cs).drop (7 + (i.s).toNat * 4)).take 4)) = pe (.ag ((t.r).get (i.s).toNat).cs)) (c2 : pe (.ag (((t.cs).drop (7 + (i.d).toNat * 4)).take 4)) = pe (.ag ((t.r).get (i.d).toNat).cs)) (c3 : Ok 38 [.c (.i i.op)] (.c (.b false))) (c4 : pe (.ag (((t.cs).drop (7 + (i.d).toNat * 4)).take 4)) = pe (.ag ((t.r).get (i.d).toNat).cs)) (c5 : Ok 43 [.ag ((t.r).get (i.d).toNat).cs, .ag ((t.r).get (i.s).toNat).cs] (.tu [.ag x.cs, .ag y.cs, .c (.b p1)])) (c6 : Ok 44 [.ag ((t.r).get (i.d).toNat).cs, .ag ((t.r).get (i.s).toNat).cs] (.tu [.ag x1.cs, .ag y1.cs, .c (.b p2)])) (c7 : Ok 42 [.ag i.cs, .ag t.cs, .ag x.cs, .ag y.cs, .c (.b p1)] (.ag t1.cs)) (c8 : Ok 42 [.ag i.cs, .ag t.cs, .ag x1.cs, .ag y1.cs, .c (.b p2)] (.ag t2.cs)) :
  AR 11 Tryz.f11 (cx w β n []) 0 (ssRoundK i t q k U) (REff w β ⟨.tu [.ag t1.cs, .ag t2.cs, .c (.i 0)], [], none⟩) :=
 run_eff2 [] none [false, true, false, false, false, false, false, false, true] ([true]) [(11, 4), (12, 4), (17, 4)] Tryz.func11 (ekeys0 rfl n) (by kernel_rfl) h (cr_cons c0 (cr_same c1 (cr_same c2 (cr_cons c3 (cr_same c4 (cr_cons c5 (cr_cons c6 (cr_cons c7 (cr_cons c8 cr_nil)))))))))
theorem ssL1_w0 {q : Nat} (h : (!decide ((k : Int) < (q : Int)) && (i.s != -1 && (decide (0 ≤ i.s) && decide (i.s < 6) && (Nat.ble (7 + (i.s).toNat * 4 + 4) (t.cs).length && (decide (0 ≤ i.d) && decide (i.d < 6) && (Nat.ble (7 + (i.d).toNat * 4 + 4) (t.cs).length && (i.op == 10 && (decide (nv (bsub (64#64) i.im) < nv c.h) && true)))))))) = true) (c0 : Ok 37 [.c (.u i.im)] (.ag a.cs)) (c1 : pe (.ag (((t.cs).drop (7 + (i.s).toNat * 4)).take 4)) = pe (.ag ((t.r).get (i.s).toNat).cs)) (c2 : pe (.ag (((t.cs).drop (7 + (i.d).toNat * 4)).take 4)) = pe (.ag ((t.r).get (i.d).toNat).cs)) (c3 : Ok 38 [.c (.i i.op)] (.c (.b true))) (c4 : Ok 37 [.c (.u (BitVec.ofInt 64 i.of))] (.ag x.cs)) (c5 : Ok 39 [.c (.i 2), .ag ((t.r).get (i.s).toNat).cs, .ag x.cs] (.ag c.cs)) :
  AR 11 Tryz.f11 (cx w β n []) 0 (ssRoundK i t q k U) (REff w β ⟨.tu [.ag St.z.cs, .ag St.z.cs, .c (.i 2)], [], none⟩) :=
 run_eff2 [] none [false, true, true, true, true] ([true]) [(11, 4), (12, 4), (17, 4)] Tryz.func11 (ekeys0 rfl n) (by kernel_rfl) h (cr_cons c0 (cr_same c1 (cr_same c2 (cr_cons c3 (cr_cons c4 (cr_cons c5 cr_nil))))))
theorem ssL1_w1 {q : Nat} (h : (!decide ((k : Int) < (q : Int)) && (i.s != -1 && (decide (0 ≤ i.s) && decide (i.s < 6) && (Nat.ble (7 + (i.s).toNat * 4 + 4) (t.cs).length && (decide (0 ≤ i.d) && decide (i.d < 6) && (Nat.ble (7 + (i.d).toNat * 4 + 4) (t.cs).length && (i.op == 10 && (!decide (nv (bsub (64#64) i.im) < nv c.h) && (decide (0 ≤ i.d) && decide (i.d < 6) && (Nat.ble (7 + (i.d).toNat * 4 + 4) (t.cs).length && (!i.op == 15 && (!i.op == 12 && (!i.op == 13 && (!i.op == 14 && (i.op == 10 && true))))))))))))))) = true) (c0 : Ok 37 [.c (.u i.im)] (.ag a.cs)) (c1 : pe (.ag (((t.cs).drop (7 + (i.s).toNat * 4)).take 4)) = pe (.ag ((t.r).get (i.s).toNat).cs)) (c2 : pe (.ag (((t.cs).drop (7 + (i.d).toNat * 4)).take 4)) = pe (.ag ((t.r).get (i.d).toNat).cs)) (c3 : Ok 38 [.c (.i i.op)] (.c (.b true))) (c4 : Ok 37 [.c (.u (BitVec.ofInt 64 i.of))] (.ag x.cs)) (c5 : Ok 39 [.c (.i 2), .ag ((t.r).get (i.s).toNat).cs, .ag x.cs] (.ag c.cs)) (c6 : pe (.ag (((t.cs).drop (7 + (i.d).toNat * 4)).take 4)) = pe (.ag ((t.r).get (i.d).toNat).cs)) (c7 : Ok 46 [.c (.i (IntKind.i64.wrap (nv i.im)))] (.ag b.cs)) (c8 : Ok 45 [.ag t.cs, .c (.i i.d), .ag b.cs] (.ag t1.cs)) :
  AR 11 Tryz.f11 (cx w β n []) 0 (ssRoundK i t q k U) (REff w β ⟨.tu [.ag t1.cs, .ag St.z.cs, .c (.i 0)], [], none⟩) :=
 run_eff2 [] none [false, true, true, true, false, false, false, false, false, true] ([true]) [(11, 4), (12, 4), (17, 4)] Tryz.func11 (ekeys0 rfl n) (by kernel_rfl) h (cr_cons c0 (cr_same c1 (cr_same c2 (cr_cons c3 (cr_cons c4 (cr_cons c5 (cr_same c6 (cr_cons c7 (cr_cons c8 cr_nil)))))))))
theorem ssL1_all {q : Nat}
  (l0 : (decide (nv (bsub (64#64) i.im) < nv c.h)) = true → (!decide ((k : Int) < (q : Int))) = true ∧ (i.s != -1) = true ∧ (decide (0 ≤ i.s) && decide (i.s < 6)) = true ∧ (Nat.ble (7 + (i.s).toNat * 4 + 4) (t.cs).length) = true ∧ (decide (0 ≤ i.d) && decide (i.d < 6)) = true ∧ (Nat.ble (7 + (i.d).toNat * 4 + 4) (t.cs).length) = true ∧ (i.op == 10) = true ∧ (Ok 37 [.c (.u i.im)] (.ag a.cs)) ∧ (pe (.ag (((t.cs).drop (7 + (i.s).toNat * 4)).take 4)) = pe (.ag ((t.r).get (i.s).toNat).cs)) ∧ (pe (.ag (((t.cs).drop (7 + (i.d).toNat * 4)).take 4)) = pe (.ag ((t.r).get (i.d).toNat).cs)) ∧ (Ok 38 [.c (.i i.op)] (.c (.b true))) ∧ (Ok 37 [.c (.u (BitVec.ofInt 64 i.of))] (.ag x.cs)) ∧ (Ok 39 [.c (.i 2), .ag ((t.r).get (i.s).toNat).cs, .ag x.cs] (.ag c.cs)) ∧ ((⟨.tu [.ag St.z.cs, .ag St.z.cs, .c (.i 2)], [], none⟩ : Eff) = E))
  (l1 : (decide (nv (bsub (64#64) i.im) < nv c.h)) = false → (!decide ((k : Int) < (q : Int))) = true ∧ (i.s != -1) = true ∧ (decide (0 ≤ i.s) && decide (i.s < 6)) = true ∧ (Nat.ble (7 + (i.s).toNat * 4 + 4) (t.cs).length) = true ∧ (decide (0 ≤ i.d) && decide (i.d < 6)) = true ∧ (Nat.ble (7 + (i.d).toNat * 4 + 4) (t.cs).length) = true ∧ (i.op == 10) = true ∧ (decide (0 ≤ i.d) && decide (i.d < 6)) = true ∧ (Nat.ble (7 + (i.d).toNat * 4 + 4) (t.cs).length) = true ∧ (!i.op == 15) = true ∧ (!i.op == 12) = true ∧ (!i.op == 13) = true ∧ (!i.op == 14) = true ∧ (i.op == 10) = true ∧ (Ok 37 [.c (.u i.im)] (.ag a.cs)) ∧ (pe (.ag (((t.cs).drop (7 + (i.s).toNat * 4)).take 4)) = pe (.ag ((t.r).get (i.s).toNat).cs)) ∧ (pe (.ag (((t.cs).drop (7 + (i.d).toNat * 4)).take 4)) = pe (.ag ((t.r).get (i.d).toNat).cs)) ∧ (Ok 38 [.c (.i i.op)] (.c (.b true))) ∧ (Ok 37 [.c (.u (BitVec.ofInt 64 i.of))] (.ag x.cs)) ∧ (Ok 39 [.c (.i 2), .ag ((t.r).get (i.s).toNat).cs, .ag x.cs] (.ag c.cs)) ∧ (pe (.ag (((t.cs).drop (7 + (i.d).toNat * 4)).take 4)) = pe (.ag ((t.r).get (i.d).toNat).cs)) ∧ (Ok 46 [.c (.i (IntKind.i64.wrap (nv i.im)))] (.ag b.cs)) ∧ (Ok 45 [.ag t.cs, .c (.i i.d), .ag b.cs] (.ag t1.cs)) ∧ ((⟨.tu [.ag t1.cs, .ag St.z.cs, .c (.i 0)], [], none⟩ : Eff) = E)) :
  AR 11 Tryz.f11 (cx w β n []) 0 (ssRoundK i t q k U) (REff w β E) :=
 (tf (decide (nv (bsub (64#64) i.im) < nv c.h))).elim (fun h0 => (match l0 h0 with | ⟨o0, o1, o2, o3, o4, o5, o6, c0, c1, c2, c3, c4, c5, e⟩ => art_eq (ssL1_w0 (and_yes o0 (and_yes o1 (and_yes o2 (and_yes o3 (and_yes o4 (and_yes o5 (and_yes o6 (and_yes h0 rfl)))))))) c0 c1 c2 c3 c4 c5) e)) (fun h0 => (match l1 h0 with | ⟨o0, o1, o2, o3, o4, o5, o6, o7, o8, o9, o10, o11, o12, o13, c0, c1, c2, c3, c4, c5, c6, c7, c8, e⟩ => art_eq (ssL1_w1 (and_yes o0 (and_yes o1 (and_yes o2 (and_yes o3 (and_yes o4 (and_yes o5 (and_yes o6 (and_yes (not_yes h0) (and_yes o7 (and_yes o8 (and_yes o9 (and_yes o10 (and_yes o11 (and_yes o12 (and_yes o13 rfl))))))))))))))) c0 c1 c2 c3 c4 c5 c6 c7 c8) e))
theorem ssS1_w0 {q : Nat} (h : (!decide ((k : Int) < (q : Int)) && (i.s != -1 && (decide (0 ≤ i.s) && decide (i.s < 6) && (Nat.ble (7 + (i.s).toNat * 4 + 4) (t.cs).length && (decide (0 ≤ i.d) && decide (i.d < 6) && (Nat.ble (7 + (i.d).toNat * 4 + 4) (t.cs).length && (!i.op == 10 && (decide (nv (bsub (64#64) i.im) < nv c.h) && true)))))))) = true) (c0 : Ok 37 [.c (.u i.im)] (.ag a.cs)) (c1 : pe (.ag (((t.cs).drop (7 + (i.s).toNat * 4)).take 4)) = pe (.ag ((t.r).get (i.s).toNat).cs)) (c2 : pe (.ag (((t.cs).drop (7 + (i.d).toNat * 4)).take 4)) = pe (.ag ((t.r).get (i.d).toNat).cs)) (c3 : Ok 38 [.c (.i i.op)] (.c (.b true))) (c4 : Ok 37 [.c (.u (BitVec.ofInt 64 i.of))] (.ag x.cs)) (c5 : Ok 39 [.c (.i 2), .ag ((t.r).get (i.d).toNat).cs, .ag x.cs] (.ag c.cs)) :
  AR 11 Tryz.f11 (cx w β n []) 0 (ssRoundK i t q k U) (REff w β ⟨.tu [.ag St.z.cs, .ag St.z.cs, .c (.i 2)], [], none⟩) :=
 run_eff2 [] none [false, true, false, true, true] ([true]) [(11, 4), (12, 4), (17, 4)] Tryz.func11 (ekeys0 rfl n) (by kernel_rfl) h (cr_cons c0 (cr_same c1 (cr_same c2 (cr_cons c3 (cr_cons c4 (cr_cons c5 cr_nil))))))
theorem ssS1_w1 {q : Nat} (h : (!decide ((k : Int) < (q : Int)) && (i.s != -1 && (decide (0 ≤ i.s) && decide (i.s < 6) && (Nat.ble (7 + (i.s).toNat * 4 + 4) (t.cs).length && (decide (0 ≤ i.d) && decide (i.d < 6) && (Nat.ble (7 + (i.d).toNat * 4 + 4) (t.cs).length && (!i.op == 10 && (!decide (nv (bsub (64#64) i.im) < nv c.h) && (decide (0 ≤ i.d) && decide (i.d < 6) && (Nat.ble (7 + (i.d).toNat * 4 + 4) (t.cs).length && (!i.op == 15 && (!i.op == 12 && (!i.op == 13 && (!i.op == 14 && (!i.op == 10 && (i.op == 11 && true)))))))))))))))) = true) (c0 : Ok 37 [.c (.u i.im)] (.ag a.cs)) (c1 : pe (.ag (((t.cs).drop (7 + (i.s).toNat * 4)).take 4)) = pe (.ag ((t.r).get (i.s).toNat).cs)) (c2 : pe (.ag (((t.cs).drop (7 + (i.d).toNat * 4)).take 4)) = pe (.ag ((t.r).get (i.d).toNat).cs)) (c3 : Ok 38 [.c (.i i.op)] (.c (.b true))) (c4 : Ok 37 [.c (.u (BitVec.ofInt 64 i.of))] (.ag x.cs)) (c5 : Ok 39 [.c (.i 2), .ag ((t.r).get (i.d).toNat).cs, .ag x.cs] (.ag c.cs)) (c6 : pe (.ag (((t.cs).drop (7 + (i.d).toNat * 4)).take 4)) = pe (.ag ((t.r).get (i.d).toNat).cs)) :
  AR 11 Tryz.f11 (cx w β n []) 0 (ssRoundK i t q k U) (REff w β ⟨.tu [.ag t.cs, .ag St.z.cs, .c (.i 0)], [], none⟩) :=
 run_eff2 [] none [false, true, false, true, false, false, false, false, false, false, true] ([true]) [(11, 4), (12, 4), (17, 4)] Tryz.func11 (ekeys0 rfl n) (by kernel_rfl) h (cr_cons c0 (cr_same c1 (cr_same c2 (cr_cons c3 (cr_cons c4 (cr_cons c5 (cr_same c6 cr_nil)))))))
theorem ssS1_all {q : Nat}
  (l0 : (decide (nv (bsub (64#64) i.im) < nv c.h)) = true → (!decide ((k : Int) < (q : Int))) = true ∧ (i.s != -1) = true ∧ (decide (0 ≤ i.s) && decide (i.s < 6)) = true ∧ (Nat.ble (7 + (i.s).toNat * 4 + 4) (t.cs).length) = true ∧ (decide (0 ≤ i.d) && decide (i.d < 6)) = true ∧ (Nat.ble (7 + (i.d).toNat * 4 + 4) (t.cs).length) = true ∧ (!i.op == 10) = true ∧ (Ok 37 [.c (.u i.im)] (.ag a.cs)) ∧ (pe (.ag (((t.cs).drop (7 + (i.s).toNat * 4)).take 4)) = pe (.ag ((t.r).get (i.s).toNat).cs)) ∧ (pe (.ag (((t.cs).drop (7 + (i.d).toNat * 4)).take 4)) = pe (.ag ((t.r).get (i.d).toNat).cs)) ∧ (Ok 38 [.c (.i i.op)] (.c (.b true))) ∧ (Ok 37 [.c (.u (BitVec.ofInt 64 i.of))] (.ag x.cs)) ∧ (Ok 39 [.c (.i 2), .ag ((t.r).get (i.d).toNat).cs, .ag x.cs] (.ag c.cs)) ∧ ((⟨.tu [.ag St.z.cs, .ag St.z.cs, .c (.i 2)], [], none⟩ : Eff) = E))
  (l1 : (decide (nv (bsub (64#64) i.im) < nv c.h)) = false → (!decide ((k : Int) < (q : Int))) = true ∧ (i.s != -1) = true ∧ (decide (0 ≤ i.s) && decide (i.s < 6)) = true ∧ (Nat.ble (7 + (i.s).toNat * 4 + 4) (t.cs).length) = true ∧ (decide (0 ≤ i.d) && decide (i.d < 6)) = true ∧ (Nat.ble (7 + (i.d).toNat * 4 + 4) (t.cs).length) = true ∧ (!i.op == 10) = true ∧ (decide (0 ≤ i.d) && decide (i.d < 6)) = true ∧ (Nat.ble (7 + (i.d).toNat * 4 + 4) (t.cs).length) = true ∧ (!i.op == 15) = true ∧ (!i.op == 12) = true ∧ (!i.op == 13) = true ∧ (!i.op == 14) = true ∧ (!i.op == 10) = true ∧ (i.op == 11) = true ∧ (Ok 37 [.c (.u i.im)] (.ag a.cs)) ∧ (pe (.ag (((t.cs).drop (7 + (i.s).toNat * 4)).take 4)) = pe (.ag ((t.r).get (i.s).toNat).cs)) ∧ (pe (.ag (((t.cs).drop (7 + (i.d).toNat * 4)).take 4)) = pe (.ag ((t.r).get (i.d).toNat).cs)) ∧ (Ok 38 [.c (.i i.op)] (.c (.b true))) ∧ (Ok 37 [.c (.u (BitVec.ofInt 64 i.of))] (.ag x.cs)) ∧ (Ok 39 [.c (.i 2), .ag ((t.r).get (i.d).toNat).cs, .ag x.cs] (.ag c.cs)) ∧ (pe (.ag (((t.cs).drop (7 + (i.d).toNat * 4)).take 4)) = pe (.ag ((t.r).get (i.d).toNat).cs)) ∧ ((⟨.tu [.ag t.cs, .ag St.z.cs, .c (.i 0)], [], none⟩ : Eff) = E)) :
  AR 11 Tryz.f11 (cx w β n []) 0 (ssRoundK i t q k U) (REff w β E) :=
 (tf (decide (nv (bsub (64#64) i.im) < nv c.h))).elim (fun h0 => (match l0 h0 with | ⟨o0, o1, o2, o3, o4, o5, o6, c0, c1, c2, c3, c4, c5, e⟩ => art_eq (ssS1_w0 (and_yes o0 (and_yes o1 (and_yes o2 (and_yes o3 (and_yes o4 (and_yes o5 (and_yes o6 (and_yes h0 rfl)))))))) c0 c1 c2 c3 c4 c5) e)) (fun h0 => (match l1 h0 with | ⟨o0, o1, o2, o3, o4, o5, o6, o7, o8, o9, o10, o11, o12, o13, o14, c0, c1, c2, c3, c4, c5, c6, e⟩ => art_eq (ssS1_w1 (and_yes o0 (and_yes o1 (and_yes o2 (and_yes o3 (and_yes o4 (and_yes o5 (and_yes o6 (and_yes (not_yes h0) (and_yes o7 (and_yes o8 (and_yes o9 (and_yes o10 (and_yes o11 (and_yes o12 (and_yes o13 (and_yes o14 rfl)))))))))))))))) c0 c1 c2 c3 c4 c5 c6) e))
theorem ssM1_w0 {q : Nat} (h : (!decide ((k : Int) < (q : Int)) && (i.s != -1 && (decide (0 ≤ i.s) && decide (i.s < 6) && (Nat.ble (7 + (i.s).toNat * 4 + 4) (t.cs).length && (decide (0 ≤ i.d) && decide (i.d < 6) && (Nat.ble (7 + (i.d).toNat * 4 + 4) (t.cs).length && (!i.op == 10 && (decide (0 ≤ i.d) && decide (i.d < 6) && (Nat.ble (7 + (i.d).toNat * 4 + 4) (t.cs).length && (!i.op == 15 && (!i.op == 12 && (!i.op == 13 && (!i.op == 14 && (!i.op == 10 && (!i.op == 11 && (i.op == 1 && true)))))))))))))))) = true) (c0 : Ok 37 [.c (.u i.im)] (.ag a.cs)) (c1 : pe (.ag (((t.cs).drop (7 + (i.s).toNat * 4)).take 4)) = pe (.ag ((t.r).get (i.s).toNat).cs)) (c2 : pe (.ag (((t.cs).drop (7 + (i.d).toNat * 4)).take 4)) = pe (.ag ((t.r).get (i.d).toNat).cs)) (c3 : Ok 38 [.c (.i i.op)] (.c (.b false))) (c4 : pe (.ag (((t.cs).drop (7 + (i.d).toNat * 4)).take 4)) = pe (.ag ((t.r).get (i.d).toNat).cs)) (c5 : Ok 45 [.ag t.cs, .c (.i i.d), .ag ((t.r).get (i.s).toNat).cs] (.ag t1.cs)) :
  AR 11 Tryz.f11 (cx w β n []) 0 (ssRoundK i t q k U) (REff w β ⟨.tu [.ag t1.cs, .ag St.z.cs, .c (.i 0)], [], none⟩) :=
 run_eff2 [] none [false, true, false, false, false, false, false, false, false, false, false, true] ([true]) [(11, 4), (12, 4), (17, 4)] Tryz.func11 (ekeys0 rfl n) (by kernel_rfl) h (cr_cons c0 (cr_same c1 (cr_same c2 (cr_cons c3 (cr_same c4 (cr_cons c5 cr_nil))))))
theorem ssT0_w0 {q : Nat} (h : (!decide ((k : Int) < (q : Int)) && (!i.s != -1 && (decide (0 ≤ i.d) && decide (i.d < 6) && (Nat.ble (7 + (i.d).toNat * 4 + 4) (t.cs).length && (!i.op == 10 && (decide (0 ≤ i.d) && decide (i.d < 6) && (Nat.ble (7 + (i.d).toNat * 4 + 4) (t.cs).length && (!i.op == 15 && (!i.op == 12 && (!i.op == 13 && (!i.op == 14 && (!i.op == 10 && (!i.op == 11 && (!i.op == 1 && true)))))))))))))) = true) (c0 : Ok 37 [.c (.u i.im)] (.ag a.cs)) (c1 : pe (.ag (((t.cs).drop (7 + (i.d).toNat * 4)).take 4)) = pe (.ag ((t.r).get (i.d).toNat).cs)) (c2 : Ok 38 [.c (.i i.op)] (.c (.b false))) (c3 : pe (.ag (((t.cs).drop (7 + (i.d).toNat * 4)).take 4)) = pe (.ag ((t.r).get (i.d).toNat).cs)) (c4 : Ok 39 [.c (.i i.op), .ag ((t.r).get (i.d).toNat).cs, .ag a.cs] (.ag b.cs)) (c5 : Ok 45 [.ag t.cs, .c (.i i.d), .ag b.cs] (.ag t1.cs)) :
  AR 11 Tryz.f11 (cx w β n []) 0 (ssRoundK i t q k U) (REff w β ⟨.tu [.ag t1.cs, .ag St.z.cs, .c (.i 0)], [], none⟩) :=
 run_eff2 [] none [false, false, false, false, false, false, false, false, false, false, false, false] ([true]) [(11, 4), (12, 4), (17, 4)] Tryz.func11 (ekeys0 rfl n) (by kernel_rfl) h (cr_cons c0 (cr_same c1 (cr_cons c2 (cr_same c3 (cr_cons c4 (cr_cons c5 cr_nil))))))
theorem ssT1_w0 {q : Nat} (h : (!decide ((k : Int) < (q : Int)) && (i.s != -1 && (decide (0 ≤ i.s) && decide (i.s < 6) && (Nat.ble (7 + (i.s).toNat * 4 + 4) (t.cs).length && (decide (0 ≤ i.d) && decide (i.d < 6) && (Nat.ble (7 + (i.d).toNat * 4 + 4) (t.cs).length && (!i.op == 10 && (decide (0 ≤ i.d) && decide (i.d < 6) && (Nat.ble (7 + (i.d).toNat * 4 + 4) (t.cs).length && (!i.op == 15 && (!i.op == 12 && (!i.op == 13 && (!i.op == 14 && (!i.op == 10 && (!i.op == 11 && (!i.op == 1 && true)))))))))))))))) = true) (c0 : Ok 37 [.c (.u i.im)] (.ag a.cs)) (c1 : pe (.ag (((t.cs).drop (7 + (i.s).toNat * 4)).take 4)) = pe (.ag ((t.r).get (i.s).toNat).cs)) (c2 : pe (.ag (((t.cs).drop (7 + (i.d).toNat * 4)).take 4)) = pe (.ag ((t.r).get (i.d).toNat).cs)) (c3 : Ok 38 [.c (.i i.op)] (.c (.b false))) (c4 : pe (.ag (((t.cs).drop (7 + (i.d).toNat * 4)).take 4)) = pe (.ag ((t.r).get (i.d).toNat).cs)) (c5 : Ok 39 [.c (.i i.op), .ag ((t.r).get (i.d).toNat).cs, .ag ((t.r).get (i.s).toNat).cs] (.ag b.cs)) (c6 : Ok 45 [.ag t.cs, .c (.i i.d), .ag b.cs] (.ag t1.cs)) :
  AR 11 Tryz.f11 (cx w β n []) 0 (ssRoundK i t q k U) (REff w β ⟨.tu [.ag t1.cs, .ag St.z.cs, .c (.i 0)], [], none⟩) :=
 run_eff2 [] none [false, true, false, false, false, false, false, false, false, false, false, false] ([true]) [(11, 4), (12, 4), (17, 4)] Tryz.func11 (ekeys0 rfl n) (by kernel_rfl) h (cr_cons c0 (cr_same c1 (cr_same c2 (cr_cons c3 (cr_same c4 (cr_cons c5 (cr_cons c6 cr_nil)))))))
theorem ssJ1_w0 (h : (!!t.live && (i.s != -1 && (decide (0 ≤ i.s) && decide (i.s < 6) && (Nat.ble (7 + (i.s).toNat * 4 + 4) (t.cs).length && (decide (0 ≤ i.d) && decide (i.d < 6) && (Nat.ble (7 + (i.d).toNat * 4 + 4) (t.cs).length && (!i.op == 10 && (decide (0 ≤ i.d) && decide (i.d < 6) && (Nat.ble (7 + (i.d).toNat * 4 + 4) (t.cs).length && (!i.op == 15 && (i.op == 12 && true))))))))))) = true) (c0 : Ok 36 [.ag i.cs] (.c nilSl)) (c1 : Ok 37 [.c (.u i.im)] (.ag a.cs)) (c2 : pe (.ag (((t.cs).drop (7 + (i.s).toNat * 4)).take 4)) = pe (.ag ((t.r).get (i.s).toNat).cs)) (c3 : pe (.ag (((t.cs).drop (7 + (i.d).toNat * 4)).take 4)) = pe (.ag ((t.r).get (i.d).toNat).cs)) (c4 : Ok 38 [.c (.i i.op)] (.c (.b false))) (c5 : pe (.ag (((t.cs).drop (7 + (i.d).toNat * 4)).take 4)) = pe (.ag ((t.r).get (i.d).toNat).cs)) :
  Ok 11 [.ag i.cs, .ag t.cs] (.tu [.ag St.z.cs, .ag t.cs, .c (.i 0)]) :=
 val_run2 [false, false, true, false, false, false, false, true] ([false]) [(11, 4), (12, 4), (17, 4)] Tryz.func11 rfl rfl rfl rfl (by kernel_rfl) h (cr_cons c0 (cr_cons c1 (cr_same c2 (cr_same c3 (cr_cons c4 (cr_same c5 cr_nil))))))
theorem ssM0_w0 (h : (!!t.live && (!i.s != -1 && (decide (0 ≤ i.d) && decide (i.d < 6) && (Nat.ble (7 + (i.d).toNat * 4 + 4) (t.cs).length && (!i.op == 10 && (decide (0 ≤ i.d) && decide (i.d < 6) && (Nat.ble (7 + (i.d).toNat * 4 + 4) (t.cs).length && (!i.op == 15 && (!i.op == 12 && (!i.op == 13 && (!i.op == 14 && (!i.op == 10 && (!i.op == 11 && (i.op == 1 && true)))))))))))))) = true) (c0 : Ok 36 [.ag i.cs] (.c nilSl)) (c1 : Ok 37 [.c (.u i.im)] (.ag a.cs)) (c2 : pe (.ag (((t.cs).drop (7 + (i.d).toNat * 4)).take 4)) = pe (.ag ((t.r).get (i.d).toNat).cs)) (c3 : Ok 38 [.c (.i i.op)] (.c (.b false))) (c4 : pe (.ag (((t.cs).drop (7 + (i.d).toNat * 4)).take 4)) = pe (.ag ((t.r).get (i.d).toNat).cs)) (c5 : Ok 45 [.ag t.cs, .c (.i i.d), .ag a.cs] (.ag t1.cs)) :
  Ok 11 [.ag i.cs, .ag t.cs] (.tu [.ag t1.cs, .ag St.z.cs, .c (.i 0)]) :=
 val_run2 [false, false, false, false, false, false, false, false, false, false, false, false, true] ([false]) [(11, 4), (12, 4), (17, 4)] Tryz.func11 rfl rfl rfl rfl (by kernel_rfl) h (cr_cons c0 (cr_cons c1 (cr_same c2 (cr_cons c3 (cr_same c4 (cr_cons c5 cr_nil))))))
end
section
abbrev ftRoundK (i : Ins) (t : St) (u : V6 Bool) (j : Int) : Kn := ⟨[(2, .c (.w 0)), (3, .c (.w 1)), (8, .ag (bcs u)), (9, .c (.i j))], [(0, Ent.mk true i.cs 0), (1, Ent.mk true t.cs 0)], 2⟩
variable {i : Ins} {e j ce tr : Int} {V : AV} {a b c x y : V4} {t t1 t2 : St} {q fi : Bool} {u : V6 Bool} {C : Cx} {R : Ending → World → Prop} {w : World} {β : Bs} {n : Nat} {E : Eff}
theorem fis_w0 (h : (i.op == 12 && (i.op == 12 && (decide (i.of < 0) && true))) = true) :
  Ok 25 [.ag i.cs] (.c (.b false)) :=
 val_run2 [true, true, true, true] ([]) [] Tryz.func25 rfl rfl rfl rfl (by kernel_rfl) h cr_nil
theorem fis_w1 (h : (i.op == 12 && (i.op == 12 && (!decide (i.of < 0) && (decide (64 < i.of) && true)))) = true) :
  Ok 25 [.ag i.cs] (.c (.b false)) :=
 val_run2 [true, true, false, true] ([]) [] Tryz.func25 rfl rfl rfl rfl (by kernel_rfl) h cr_nil
theorem fis_w2 (h : (i.op == 12 && (i.op == 12 && (!decide (i.of < 0) && (!decide (64 < i.of) && true)))) = true) (c0 : CO 47 [.c (.sl 18 0 2 2)] [(18, Ent.mk true [.i i.op, .i i.d, .i i.s, .u i.im, .i 0, .i 15, .i 0, .i 0, .u 0#64, .i 0] 0)] (pe (.c (.i e)))) :
  Ok 25 [.ag i.cs] (.c (.b (e == 0))) :=
 val_run2 [true, true, false, false] ([]) [] Tryz.func25 rfl rfl rfl rfl (by kernel_rfl) h (cr_cons c0 cr_nil)
theorem fis_w3 (h : (!i.op == 12 && (i.op == 13 && (i.op == 13 && (decide (i.of < 0) && true)))) = true) :
  Ok 25 [.ag i.cs] (.c (.b false)) :=
 val_run2 [false, true, true, true, true] ([]) [] Tryz.func25 rfl rfl rfl rfl (by kernel_rfl) h cr_nil
theorem fis_w4 (h : (!i.op == 12 && (i.op == 13 && (i.op == 13 && (!decide (i.of < 0) && (decide (64 < i.of) && true))))) = true) :
  Ok 25 [.ag i.cs] (.c (.b false)) :=
 val_run2 [false, true, true, false, true] ([]) [] Tryz.func25 rfl rfl rfl rfl (by kernel_rfl) h cr_nil
theorem fis_w5 (h : (!i.op == 12 && (i.op == 13 && (i.op == 13 && (!decide (i.of < 0) && (!decide (64 < i.of) && true))))) = true) (c0 : CO 47 [.c (.sl 20 0 2 2)] [(20, Ent.mk true [.i i.op, .i i.d, .i i.s, .u i.im, .i 0, .i 15, .i 0, .i 0, .u 0#64, .i 0] 0)] (pe (.c (.i e)))) :
  Ok 25 [.ag i.cs] (.c (.b (e == 0))) :=
 val_run2 [false, true, true, false, false] ([]) [] Tryz.func25 rfl rfl rfl rfl (by kernel_rfl) h (cr_cons c0 cr_nil)
theorem fis_w6 (h : (!i.op == 12 && (!i.op == 13 && (i.op == 14 && (decide (i.of < 0) && true)))) = true) :
  Ok 25 [.ag i.cs] (.c (.b false)) :=
 val_run2 [false, false, true, true, true] ([]) [] Tryz.func25 rfl rfl rfl rfl (by kernel_rfl) h cr_nil
theorem fis_w7 (h : (!i.op == 12 && (!i.op == 13 && (i.op == 14 && (!decide (i.of < 0) && (decide (64 < i.of) && true))))) = true) :
  Ok 25 [.ag i.cs] (.c (.b false)) :=
 val_run2 [false, false, true, false, true] ([]) [] Tryz.func25 rfl rfl rfl rfl (by kernel_rfl) h cr_nil
theorem fis_w8 (h : (!i.op == 12 && (!i.op == 13 && (i.op == 14 && (!decide (i.of < 0) && (!decide (64 < i.of) && true))))) = true) (c0 : CO 47 [.c (.sl 22 0 2 2)] [(22, Ent.mk true [.i i.op, .i i.d, .i i.s, .u i.im, .i 0, .i 15, .i 0, .i 0, .u 0#64, .i 0] 0)] (pe (.c (.i e)))) :
  Ok 25 [.ag i.cs] (.c (.b (e == 0))) :=
 val_run2 [false, false, true, false, false] ([]) [] Tryz.func25 rfl rfl rfl rfl (by kernel_rfl) h (cr_cons c0 cr_nil)
theorem fis_w9 (h : (!i.op == 12 && (!i.op == 13 && (!i.op == 14 && true))) = true) (c0 : CO 47 [.c (.sl 12 0 2 2)] [(12, Ent.mk true [.i i.op, .i i.d, .i i.s, .u i.im, .i i.of, .i 15, .i 0, .i 0, .u 0#64, .i 0] 0)] (pe (.c (.i e)))) :
  Ok 25 [.ag i.cs] (.c (.b (e == 0))) :=
 val_run2 [false, false, false] ([]) [] Tryz.func25 rfl rfl rfl rfl (by kernel_rfl) h (cr_cons c0 cr_nil)
theorem fis_all
  (l0 : (i.op == 12) = true → (decide (i.of < 0)) = true → (AV.c (.b false) = V))
  (l1 : (i.op == 12) = true → (decide (i.of < 0)) = false → (decide (64 < i.of)) = true → (AV.c (.b false) = V))
  (l2 : (i.op == 12) = true → (decide (i.of < 0)) = false → (decide (64 < i.of)) = false → (CO 47 [.c (.sl 18 0 2 2)] [(18, Ent.mk true [.i i.op, .i i.d, .i i.s, .u i.im, .i 0, .i 15, .i 0, .i 0, .u 0#64, .i 0] 0)] (pe (.c (.i e)))) ∧ (AV.c (.b (e == 0)) = V))
  (l3 : (i.op == 12) = false → (i.op == 13) = true → (decide (i.of < 0)) = true → (AV.c (.b false) = V))
  (l4 : (i.op == 12) = false → (i.op == 13) = true → (decide (i.of < 0)) = false → (decide (64 < i.of)) = true → (AV.c (.b false) = V))
  (l5 : (i.op == 12) = false → (i.op == 13) = true → (decide (i.of < 0)) = false → (decide (64 < i.of)) = false → (CO 47 [.c (.sl 20 0 2 2)] [(20, Ent.mk true [.i i.op, .i i.d, .i i.s, .u i.im, .i 0, .i 15, .i 0, .i 0, .u 0#64, .i 0] 0)] (pe (.c (.i e)))) ∧ (AV.c (.b (e == 0)) = V))
  (l6 : (i.op == 12) = false → (i.op == 13) = false → (i.op == 14) = true → (decide (i.of < 0)) = true → (AV.c (.b false) = V))
  (l7 : (i.op == 12) = false → (i.op == 13) = false → (i.op == 14) = true → (decide (i.of < 0)) = false → (decide (64 < i.of)) = true → (AV.c (.b false) = V))
  (l8 : (i.op == 12) = false → (i.op == 13) = false → (i.op == 14) = true → (decide (i.of < 0)) = false → (decide (64 < i.of)) = false → (CO 47 [.c (.sl 22 0 2 2)] [(22, Ent.mk true [.i i.op, .i i.d, .i i.s, .u i.im, .i 0, .i 15, .i 0, .i 0, .u 0#64, .i 0] 0)] (pe (.c (.i e)))) ∧ (AV.c (.b (e == 0)) = V))
  (l9 : (i.op == 12) = false → (i.op == 13) = false → (i.op == 14) = false → (CO 47 [.c (.sl 12 0 2 2)] [(12, Ent.mk true [.i i.op, .i i.d, .i i.s, .u i.im, .i i.of, .i 15, .i 0, .i 0, .u 0#64, .i 0] 0)] (pe (.c (.i e)))) ∧ (AV.c (.b (e == 0)) = V)) :
  Ok 25 [.ag i.cs] V :=
 (tf (i.op == 12)).elim (fun h0 => (tf (decide (i.of < 0))).elim (fun h1 => (match l0 h0 h1 with | e => ok_eq (fis_w0 (and_yes h0 (and_yes h0 (and_yes h1 rfl)))) e)) (fun h1 => (tf (decide (64 < i.of))).elim (fun h2 => (match l1 h0 h1 h2 with | e => ok_eq (fis_w1 (and_yes h0 (and_yes h0 (and_yes (not_yes h1) (and_yes h2 rfl))))) e)) (fun h2 => (match l2 h0 h1 h2 with | ⟨c0, e⟩ => ok_eq (fis_w2 (and_yes h0 (and_yes h0 (and_yes (not_yes h1) (and_yes (not_yes h2) rfl)))) c0) e)))) (fun h0 => (tf (i.op == 13)).elim (fun h1 => (tf (decide (i.of < 0))).elim (fun h2 => (match l3 h0 h1 h2 with | e => ok_eq (fis_w3 (and_yes (not_yes h0) (and_yes h1 (and_yes h1 (and_yes h2 rfl))))) e)) (fun h2 => (tf (decide (64 < i.of))).elim (fun h3 => (match l4 h0 h1 h2 h3 with | e => ok_eq (fis_w4 (and_yes (not_yes h0) (and_yes h1 (and_yes h1 (and_yes (not_yes h2) (and_yes h3 rfl)))))) e)) (fun h3 => (match l5 h0 h1 h2 h3 with | ⟨c0, e⟩ => ok_eq (fis_w5 (and_yes (not_yes h0) (and_yes h1 (and_yes h1 (and_yes (not_yes h2) (and_yes (not_yes h3) rfl))))) c0) e)))) (fun h1 => (tf (i.op == 14)).elim (fun h2 => (tf (decide (i.of < 0))).elim (fun h3 => (match l6 h0 h1 h2 h3 with | e => ok_eq (fis_w6 (and_yes (not_yes h0) (and_yes (not_yes h1) (and_yes h2 (and_yes h3 rfl))))) e)) (fun h3 => (tf (decide (64 < i.of))).elim (fun h4 => (match l7 h0 h1 h2 h3 h4 with | e => ok_eq (fis_w7 (and_yes (not_yes h0) (and_yes (not_yes h1) (and_yes h2 (and_yes (not_yes h3) (and_yes h4 rfl)))))) e)) (fun h4 => (match l8 h0 h1 h2 h3 h4 with | ⟨c0, e⟩ => ok_eq (fis_w8 (and_yes (not_yes h0) (and_yes (not_yes h1) (and_yes h2 (and_yes (not_yes h3) (and_yes (not_yes h4) rfl))))) c0) e)))) (fun h2 => (match l9 h0 h1 h2 with | ⟨c0, e⟩ => ok_eq (fis_w9 (and_yes (not_yes h0) (and_yes (not_yes h1) (and_yes (not_yes h2) rfl))) c0) e))))
theorem freach_w0 (h : (decide (nv (bsub (64#64) i.im) < nv c.h) && true) = true) (c0 : Ok 101 [.c (.u (BitVec.ofInt 64 i.of))] (.ag b.cs)) (c1 : Ok 75 [.c (.i 2), .ag a.cs, .ag b.cs] (.tu [.ag c.cs, .c (.i 0)])) :
  Ok 66 [.ag i.cs, .ag a.cs] (.c (.i 2)) :=
 val_run2 [true] ([]) [] Tryz.func66 rfl rfl rfl rfl (by kernel_rfl) h (cr_cons c0 (cr_cons c1 cr_nil))
theorem freach_w1 (h : (!decide (nv (bsub (64#64) i.im) < nv c.h) && true) = true) (c0 : Ok 101 [.c (.u (BitVec.ofInt 64 i.of))] (.ag b.cs)) (c1 : Ok 75 [.c (.i 2), .ag a.cs, .ag b.cs] (.tu [.ag c.cs, .c (.i 0)])) :
  Ok 66 [.ag i.cs, .ag a.cs] (.c (.i 0)) :=
 val_run2 [false] ([]) [] Tryz.func66 rfl rfl rfl rfl (by kernel_rfl) h (cr_cons c0 (cr_cons c1 cr_nil))
theorem freach_all
  (l0 : (decide (nv (bsub (64#64) i.im) < nv c.h)) = true → (Ok 101 [.c (.u (BitVec.ofInt 64 i.of))] (.ag b.cs)) ∧ (Ok 75 [.c (.i 2), .ag a.cs, .ag b.cs] (.tu [.ag c.cs, .c (.i 0)])) ∧ (AV.c (.i 2) = V))
  (l1 : (decide (nv (bsub (64#64) i.im) < nv c.h)) = false → (Ok 101 [.c (.u (BitVec.ofInt 64 i.of))] (.ag b.cs)) ∧ (Ok 75 [.c (.i 2), .ag a.cs, .ag b.cs] (.tu [.ag c.cs, .c (.i 0)])) ∧ (AV.c (.i 0) = V)) :
  Ok 66 [.ag i.cs, .ag a.cs] V :=
 (tf (decide (nv (bsub (64#64) i.im) < nv c.h))).elim (fun h0 => (match l0 h0 with | ⟨c0, c1, e⟩ => ok_eq (freach_w0 (and_yes h0 rfl) c0 c1) e)) (fun h0 => (match l1 h0 with | ⟨c0, c1, e⟩ => ok_eq (freach_w1 (and_yes (not_yes h0) rfl) c0 c1) e))
theorem fsource_w0 (h : (i.s == -1 && true) = true) (c0 : Ok 101 [.c (.u i.im)] (.ag b.cs)) :
  Ok 74 [.ag i.cs, .ag t.cs] (.ag b.cs) :=
 val_run2 [true] ([]) [(3, 4)] Tryz.func74 rfl rfl rfl rfl (by kernel_rfl) h (cr_cons c0 cr_nil)
theorem fsource_w1 (h : (!i.s == -1 && (decide (0 ≤ i.s) && decide (i.s < 6) && (Nat.ble (7 + (i.s).toNat * 4 + 4) (t.cs).length && true))) = true) (c0 : pe (.ag (((t.cs).drop (7 + (i.s).toNat * 4)).take 4)) = pe (.ag ((t.r).get (i.s).toNat).cs)) :
  Ok 74 [.ag i.cs, .ag t.cs] (.ag ((t.r).get (i.s).toNat).cs) :=
 val_run2 [false] ([]) [(3, 4)] Tryz.func74 rfl rfl rfl rfl (by kernel_rfl) h (cr_same c0 cr_nil)
theorem fsource_all
  (l0 : (i.s == -1) = true → (Ok 101 [.c (.u i.im)] (.ag b.cs)) ∧ (AV.ag b.cs = V))
  (l1 : (i.s == -1) = false → (decide (0 ≤ i.s) && decide (i.s < 6)) = true ∧ (Nat.ble (7 + (i.s).toNat * 4 + 4) (t.cs).length) = true ∧ (pe (.ag (((t.cs).drop (7 + (i.s).toNat * 4)).take 4)) = pe (.ag ((t.r).get (i.s).toNat).cs)) ∧ (AV.ag ((t.r).get (i.s).toNat).cs = V)) :
  Ok 74 [.ag i.cs, .ag t.cs] V :=
 (tf (i.s == -1)).elim (fun h0 => (match l0 h0 with | ⟨c0, e⟩ => ok_eq (fsource_w0 (and_yes h0 rfl) c0) e)) (fun h0 => (match l1 h0 with | ⟨o0, o1, c0, e⟩ => ok_eq (fsource_w1 (and_yes (not_yes h0) (and_yes o0 (and_yes o1 rfl))) c0) e))
theorem fleftOt_w0 (h : (decide (0 ≤ i.d) && decide (i.d < 6) && (Nat.ble (7 + (i.d).toNat * 4 + 4) (t.cs).length && (!q && true))) = true) (c0 : pe (.ag (((t.cs).drop (7 + (i.d).toNat * 4)).take 4)) = pe (.ag ((t.r).get (i.d).toNat).cs)) (c1 : Ok 74 [.ag i.cs, .ag t.cs] (.ag b.cs)) (c2 : Ok 70 [.ag ((t.r).get (i.d).toNat).cs, .ag b.cs] (.tu [.ag x.cs, .ag y.cs, .c (.b q), .c (.i 0)])) :
  Ok 69 [.ag i.cs, .ag t.cs, .c (.f 70 [])] (.ag St.z.cs) :=
 val_run2 [true] ([]) [(1, 5)] Tryz.func69 rfl rfl rfl rfl (by kernel_rfl) h (cr_same c0 (cr_cons c1 (cr_cons c2 cr_nil)))
theorem fleftOt_w1 (h : (decide (0 ≤ i.d) && decide (i.d < 6) && (Nat.ble (7 + (i.d).toNat * 4 + 4) (t.cs).length && (!!q && (i.s != -1 && true)))) = true) (c0 : pe (.ag (((t.cs).drop (7 + (i.d).toNat * 4)).take 4)) = pe (.ag ((t.r).get (i.d).toNat).cs)) (c1 : Ok 74 [.ag i.cs, .ag t.cs] (.ag b.cs)) (c2 : Ok 70 [.ag ((t.r).get (i.d).toNat).cs, .ag b.cs] (.tu [.ag x.cs, .ag y.cs, .c (.b q), .c (.i 0)])) (c3 : Ok 68 [.ag t.cs, .c (.i i.d), .ag x.cs] (.ag t1.cs)) (c4 : Ok 68 [.ag t1.cs, .c (.i i.s), .ag y.cs] (.ag t2.cs)) :
  Ok 69 [.ag i.cs, .ag t.cs, .c (.f 70 [])] (.ag t2.cs) :=
 val_run2 [false, true] ([]) [(1, 5)] Tryz.func69 rfl rfl rfl rfl (by kernel_rfl) h (cr_same c0 (cr_cons c1 (cr_cons c2 (cr_cons c3 (cr_cons c4 cr_nil)))))
theorem fleftOt_w2 (h : (decide (0 ≤ i.d) && decide (i.d < 6) && (Nat.ble (7 + (i.d).toNat * 4 + 4) (t.cs).length && (!!q && (!i.s != -1 && true)))) = true) (c0 : pe (.ag (((t.cs).drop (7 + (i.d).toNat * 4)).take 4)) = pe (.ag ((t.r).get (i.d).toNat).cs)) (c1 : Ok 74 [.ag i.cs, .ag t.cs] (.ag b.cs)) (c2 : Ok 70 [.ag ((t.r).get (i.d).toNat).cs, .ag b.cs] (.tu [.ag x.cs, .ag y.cs, .c (.b q), .c (.i 0)])) (c3 : Ok 68 [.ag t.cs, .c (.i i.d), .ag x.cs] (.ag t1.cs)) :
  Ok 69 [.ag i.cs, .ag t.cs, .c (.f 70 [])] (.ag t1.cs) :=
 val_run2 [false, false] ([]) [(1, 5)] Tryz.func69 rfl rfl rfl rfl (by kernel_rfl) h (cr_same c0 (cr_cons c1 (cr_cons c2 (cr_cons c3 cr_nil))))
theorem fleftOt_all
  (l0 : (!q) = true → (decide (0 ≤ i.d) && decide (i.d < 6)) = true ∧ (Nat.ble (7 + (i.d).toNat * 4 + 4) (t.cs).length) = true ∧ (pe (.ag (((t.cs).drop (7 + (i.d).toNat * 4)).take 4)) = pe (.ag ((t.r).get (i.d).toNat).cs)) ∧ (Ok 74 [.ag i.cs, .ag t.cs] (.ag b.cs)) ∧ (Ok 70 [.ag ((t.r).get (i.d).toNat).cs, .ag b.cs] (.tu [.ag x.cs, .ag y.cs, .c (.b q), .c (.i 0)])) ∧ (AV.ag St.z.cs = V))
  (l1 : (!q) = false → (i.s != -1) = true → (decide (0 ≤ i.d) && decide (i.d < 6)) = true ∧ (Nat.ble (7 + (i.d).toNat * 4 + 4) (t.cs).length) = true ∧ (pe (.ag (((t.cs).drop (7 + (i.d).toNat * 4)).take 4)) = pe (.ag ((t.r).get (i.d).toNat).cs)) ∧ (Ok 74 [.ag i.cs, .ag t.cs] (.ag b.cs)) ∧ (Ok 70 [.ag ((t.r).get (i.d).toNat).cs, .ag b.cs] (.tu [.ag x.cs, .ag y.cs, .c (.b q), .c (.i 0)])) ∧ (Ok 68 [.ag t.cs, .c (.i i.d), .ag x.cs] (.ag t1.cs)) ∧ (Ok 68 [.ag t1.cs, .c (.i i.s), .ag y.cs] (.ag t2.cs)) ∧ (AV.ag t2.cs = V))
  (l2 : (!q) = false → (i.s != -1) = false → (decide (0 ≤ i.d) && decide (i.d < 6)) = true ∧ (Nat.ble (7 + (i.d).toNat * 4 + 4) (t.cs).length) = true ∧ (pe (.ag (((t.cs).drop (7 + (i.d).toNat * 4)).take 4)) = pe (.ag ((t.r).get (i.d).toNat).cs)) ∧ (Ok 74 [.ag i.cs, .ag t.cs] (.ag b.cs)) ∧ (Ok 70 [.ag ((t.r).get (i.d).toNat).cs, .ag b.cs] (.tu [.ag x.cs, .ag y.cs, .c (.b q), .c (.i 0)])) ∧ (Ok 68 [.ag t.cs, .c (.i i.d), .ag x.cs] (.ag t1.cs)) ∧ (AV.ag t1.cs = V)) :
  Ok 69 [.ag i.cs, .ag t.cs, .c (.f 70 [])] V :=
 (tf (!q)).elim (fun h0 => (match l0 h0 with | ⟨o0, o1, c0, c1, c2, e⟩ => ok_eq (fleftOt_w0 (and_yes o0 (and_yes o1 (and_yes h0 rfl))) c0 c1 c2) e)) (fun h0 => (tf (i.s != -1)).elim (fun h1 => (match l1 h0 h1 with | ⟨o0, o1, c0, c1, c2, c3, c4, e⟩ => ok_eq (fleftOt_w1 (and_yes o0 (and_yes o1 (and_yes (not_yes h0) (and_yes h1 rfl)))) c0 c1 c2 c3 c4) e)) (fun h1 => (match l2 h0 h1 with | ⟨o0, o1, c0, c1, c2, c3, e⟩ => ok_eq (fleftOt_w2 (and_yes o0 (and_yes o1 (and_yes (not_yes h0) (and_yes (not_yes h1) rfl)))) c0 c1 c2 c3) e)))
theorem fleftEq_w0 (h : (decide (0 ≤ i.d) && decide (i.d < 6) && (Nat.ble (7 + (i.d).toNat * 4 + 4) (t.cs).length && (!q && true))) = true) (c0 : pe (.ag (((t.cs).drop (7 + (i.d).toNat * 4)).take 4)) = pe (.ag ((t.r).get (i.d).toNat).cs)) (c1 : Ok 74 [.ag i.cs, .ag t.cs] (.ag b.cs)) (c2 : Ok 71 [.ag ((t.r).get (i.d).toNat).cs, .ag b.cs] (.tu [.ag x.cs, .ag y.cs, .c (.b q), .c (.i 0)])) :
  Ok 69 [.ag i.cs, .ag t.cs, .c (.f 71 [])] (.ag St.z.cs) :=
 val_run2 [true] ([]) [(1, 5)] Tryz.func69 rfl rfl rfl rfl (by kernel_rfl) h (cr_same c0 (cr_cons c1 (cr_cons c2 cr_nil)))
theorem fleftEq_w1 (h : (decide (0 ≤ i.d) && decide (i.d < 6) && (Nat.ble (7 + (i.d).toNat * 4 + 4) (t.cs).length && (!!q && (i.s != -1 && true)))) = true) (c0 : pe (.ag (((t.cs).drop (7 + (i.d).toNat * 4)).take 4)) = pe (.ag ((t.r).get (i.d).toNat).cs)) (c1 : Ok 74 [.ag i.cs, .ag t.cs] (.ag b.cs)) (c2 : Ok 71 [.ag ((t.r).get (i.d).toNat).cs, .ag b.cs] (.tu [.ag x.cs, .ag y.cs, .c (.b q), .c (.i 0)])) (c3 : Ok 68 [.ag t.cs, .c (.i i.d), .ag x.cs] (.ag t1.cs)) (c4 : Ok 68 [.ag t1.cs, .c (.i i.s), .ag y.cs] (.ag t2.cs)) :
  Ok 69 [.ag i.cs, .ag t.cs, .c (.f 71 [])] (.ag t2.cs) :=
 val_run2 [false, true] ([]) [(1, 5)] Tryz.func69 rfl rfl rfl rfl (by kernel_rfl) h (cr_same c0 (cr_cons c1 (cr_cons c2 (cr_cons c3 (cr_cons c4 cr_nil)))))
theorem fleftEq_w2 (h : (decide (0 ≤ i.d) && decide (i.d < 6) && (Nat.ble (7 + (i.d).toNat * 4 + 4) (t.cs).length && (!!q && (!i.s != -1 && true)))) = true) (c0 : pe (.ag (((t.cs).drop (7 + (i.d).toNat * 4)).take 4)) = pe (.ag ((t.r).get (i.d).toNat).cs)) (c1 : Ok 74 [.ag i.cs, .ag t.cs] (.ag b.cs)) (c2 : Ok 71 [.ag ((t.r).get (i.d).toNat).cs, .ag b.cs] (.tu [.ag x.cs, .ag y.cs, .c (.b q), .c (.i 0)])) (c3 : Ok 68 [.ag t.cs, .c (.i i.d), .ag x.cs] (.ag t1.cs)) :
  Ok 69 [.ag i.cs, .ag t.cs, .c (.f 71 [])] (.ag t1.cs) :=
 val_run2 [false, false] ([]) [(1, 5)] Tryz.func69 rfl rfl rfl rfl (by kernel_rfl) h (cr_same c0 (cr_cons c1 (cr_cons c2 (cr_cons c3 cr_nil))))
theorem fleftEq_all
  (l0 : (!q) = true → (decide (0 ≤ i.d) && decide (i.d < 6)) = true ∧ (Nat.ble (7 + (i.d).toNat * 4 + 4) (t.cs).length) = true ∧ (pe (.ag (((t.cs).drop (7 + (i.d).toNat * 4)).take 4)) = pe (.ag ((t.r).get (i.d).toNat).cs)) ∧ (Ok 74 [.ag i.cs, .ag t.cs] (.ag b.cs)) ∧ (Ok 71 [.ag ((t.r).get (i.d).toNat).cs, .ag b.cs] (.tu [.ag x.cs, .ag y.cs, .c (.b q), .c (.i 0)])) ∧ (AV.ag St.z.cs = V))
  (l1 : (!q) = false → (i.s != -1) = true → (decide (0 ≤ i.d) && decide (i.d < 6)) = true ∧ (Nat.ble (7 + (i.d).toNat * 4 + 4) (t.cs).length) = true ∧ (pe (.ag (((t.cs).drop (7 + (i.d).toNat * 4)).take 4)) = pe (.ag ((t.r).get (i.d).toNat).cs)) ∧ (Ok 74 [.ag i.cs, .ag t.cs] (.ag b.cs)) ∧ (Ok 71 [.ag ((t.r).get (i.d).toNat).cs, .ag b.cs] (.tu [.ag x.cs, .ag y.cs, .c (.b q), .c (.i 0)])) ∧ (Ok 68 [.ag t.cs, .c (.i i.d), .ag x.cs] (.ag t1.cs)) ∧ (Ok 68 [.ag t1.cs, .c (.i i.s), .ag y.cs] (.ag t2.cs)) ∧ (AV.ag t2.cs = V))
  (l2 : (!q) = false → (i.s != -1) = false → (decide (0 ≤ i.d) && decide (i.d < 6)) = true ∧ (Nat.ble (7 + (i.d).toNat * 4 + 4) (t.cs).length) = true ∧ (pe (.ag (((t.cs).drop (7 + (i.d).toNat * 4)).take 4)) = pe (.ag ((t.r).get (i.d).toNat).cs)) ∧ (Ok 74 [.ag i.cs, .ag t.cs] (.ag b.cs)) ∧ (Ok 71 [.ag ((t.r).get (i.d).toNat).cs, .ag b.cs] (.tu [.ag x.cs, .ag y.cs, .c (.b q), .c (.i 0)])) ∧ (Ok 68 [.ag t.cs, .c (.i i.d), .ag x.cs] (.ag t1.cs)) ∧ (AV.ag t1.cs = V)) :
  Ok 69 [.ag i.cs, .ag t.cs, .c (.f 71 [])] V :=
 (tf (!q)).elim (fun h0 => (match l0 h0 with | ⟨o0, o1, c0, c1, c2, e⟩ => ok_eq (fleftEq_w0 (and_yes o0 (and_yes o1 (and_yes h0 rfl))) c0 c1 c2) e)) (fun h0 => (tf (i.s != -1)).elim (fun h1 => (match l1 h0 h1 with | ⟨o0, o1, c0, c1, c2, c3, c4, e⟩ => ok_eq (fleftEq_w1 (and_yes o0 (and_yes o1 (and_yes (not_yes h0) (and_yes h1 rfl)))) c0 c1 c2 c3 c4) e)) (fun h1 => (match l2 h0 h1 with | ⟨o0, o1, c0, c1, c2, c3, e⟩ => ok_eq (fleftEq_w2 (and_yes o0 (and_yes o1 (and_yes (not_yes h0) (and_yes (not_yes h1) rfl)))) c0 c1 c2 c3) e)))
theorem fleftNl_w0 (h : (decide (0 ≤ i.d) && decide (i.d < 6) && (Nat.ble (7 + (i.d).toNat * 4 + 4) (t.cs).length && (!q && true))) = true) (c0 : pe (.ag (((t.cs).drop (7 + (i.d).toNat * 4)).take 4)) = pe (.ag ((t.r).get (i.d).toNat).cs)) (c1 : Ok 74 [.ag i.cs, .ag t.cs] (.ag b.cs)) (c2 : Ok 72 [.ag ((t.r).get (i.d).toNat).cs, .ag b.cs] (.tu [.ag x.cs, .ag y.cs, .c (.b q), .c (.i 0)])) :
  Ok 69 [.ag i.cs, .ag t.cs, .c (.f 72 [])] (.ag St.z.cs) :=
 val_run2 [true] ([]) [(1, 5)] Tryz.func69 rfl rfl rfl rfl (by kernel_rfl) h (cr_same c0 (cr_cons c1 (cr_cons c2 cr_nil)))
theorem fleftNl_w1 (h : (decide (0 ≤ i.d) && decide (i.d < 6) && (Nat.ble (7 + (i.d).toNat * 4 + 4) (t.cs).length && (!!q && (i.s != -1 && true)))) = true) (c0 : pe (.ag (((t.cs).drop (7 + (i.d).toNat * 4)).take 4)) = pe (.ag ((t.r).get (i.d).toNat).cs)) (c1 : Ok 74 [.ag i.cs, .ag t.cs] (.ag b.cs)) (c2 : Ok 72 [.ag ((t.r).get (i.d).toNat).cs, .ag b.cs] (.tu [.ag x.cs, .ag y.cs, .c (.b q), .c (.i 0)])) (c3 : Ok 68 [.ag t.cs, .c (.i i.d), .ag x.cs] (.ag t1.cs)) (c4 : Ok 68 [.ag t1.cs, .c (.i i.s), .ag y.cs] (.ag t2.cs)) :
  Ok 69 [.ag i.cs, .ag t.cs, .c (.f 72 [])] (.ag t2.cs) :=
 val_run2 [false, true] ([]) [(1, 5)] Tryz.func69 rfl rfl rfl rfl (by kernel_rfl) h (cr_same c0 (cr_cons c1 (cr_cons c2 (cr_cons c3 (cr_cons c4 cr_nil)))))
theorem fleftNl_w2 (h : (decide (0 ≤ i.d) && decide (i.d < 6) && (Nat.ble (7 + (i.d).toNat * 4 + 4) (t.cs).length && (!!q && (!i.s != -1 && true)))) = true) (c0 : pe (.ag (((t.cs).drop (7 + (i.d).toNat * 4)).take 4)) = pe (.ag ((t.r).get (i.d).toNat).cs)) (c1 : Ok 74 [.ag i.cs, .ag t.cs] (.ag b.cs)) (c2 : Ok 72 [.ag ((t.r).get (i.d).toNat).cs, .ag b.cs] (.tu [.ag x.cs, .ag y.cs, .c (.b q), .c (.i 0)])) (c3 : Ok 68 [.ag t.cs, .c (.i i.d), .ag x.cs] (.ag t1.cs)) :
  Ok 69 [.ag i.cs, .ag t.cs, .c (.f 72 [])] (.ag t1.cs) :=
 val_run2 [false, false] ([]) [(1, 5)] Tryz.func69 rfl rfl rfl rfl (by kernel_rfl) h (cr_same c0 (cr_cons c1 (cr_cons c2 (cr_cons c3 cr_nil))))
theorem fleftNl_all
  (l0 : (!q) = true → (decide (0 ≤ i.d) && decide (i.d < 6)) = true ∧ (Nat.ble (7 + (i.d).toNat * 4 + 4) (t.cs).length) = true ∧ (pe (.ag (((t.cs).drop (7 + (i.d).toNat * 4)).take 4)) = pe (.ag ((t.r).get (i.d).toNat).cs)) ∧ (Ok 74 [.ag i.cs, .ag t.cs] (.ag b.cs)) ∧ (Ok 72 [.ag ((t.r).get (i.d).toNat).cs, .ag b.cs] (.tu [.ag x.cs, .ag y.cs, .c (.b q), .c (.i 0)])) ∧ (AV.ag St.z.cs = V))
  (l1 : (!q) = false → (i.s != -1) = true → (decide (0 ≤ i.d) && decide (i.d < 6)) = true ∧ (Nat.ble (7 + (i.d).toNat * 4 + 4) (t.cs).length) = true ∧ (pe (.ag (((t.cs).drop (7 + (i.d).toNat * 4)).take 4)) = pe (.ag ((t.r).get (i.d).toNat).cs)) ∧ (Ok 74 [.ag i.cs, .ag t.cs] (.ag b.cs)) ∧ (Ok 72 [.ag ((t.r).get (i.d).toNat).cs, .ag b.cs] (.tu [.ag x.cs, .ag y.cs, .c (.b q), .c (.i 0)])) ∧ (Ok 68 [.ag t.cs, .c (.i i.d), .ag x.cs] (.ag t1.cs)) ∧ (Ok 68 [.ag t1.cs, .c (.i i.s), .ag y.cs] (.ag t2.cs)) ∧ (AV.ag t2.cs = V))
  (l2 : (!q) = false → (i.s != -1) = false → (decide (0 ≤ i.d) && decide (i.d < 6)) = true ∧ (Nat.ble (7 + (i.d).toNat * 4 + 4) (t.cs).length) = true ∧ (pe (.ag (((t.cs).drop (7 + (i.d).toNat * 4)).take 4)) = pe (.ag ((t.r).get (i.d).toNat).cs)) ∧ (Ok 74 [.ag i.cs, .ag t.cs] (.ag b.cs)) ∧ (Ok 72 [.ag ((t.r).get (i.d).toNat).cs, .ag b.cs] (.tu [.ag x.cs, .ag y.cs, .c (.b q), .c (.i 0)])) ∧ (Ok 68 [.ag t.cs, .c (.i i.d), .ag x.cs] (.ag t1.cs)) ∧ (AV.ag t1.cs = V)) :
  Ok 69 [.ag i.cs, .ag t.cs, .c (.f 72 [])] V :=
 (tf (!q)).elim (fun h0 => (match l0 h0 with | ⟨o0, o1, c0, c1, c2, e⟩ => ok_eq (fleftNl_w0 (and_yes o0 (and_yes o1 (and_yes h0 rfl))) c0 c1 c2) e)) (fun h0 => (tf (i.s != -1)).elim (fun h1 => (match l1 h0 h1 with | ⟨o0, o1, c0, c1, c2, c3, c4, e⟩ => ok_eq (fleftNl_w1 (and_yes o0 (and_yes o1 (and_yes (not_yes h0) (and_yes h1 rfl)))) c0 c1 c2 c3 c4) e)) (fun h1 => (match l2 h0 h1 with | ⟨o0, o1, c0, c1, c2, c3, e⟩ => ok_eq (fleftNl_w2 (and_yes o0 (and_yes o1 (and_yes (not_yes h0) (and_yes (not_yes h1) rfl)))) c0 c1 c2 c3) e)))
theorem fleftLe_w0 (h : (decide (0 ≤ i.d) && decide (i.d < 6) && (Nat.ble (7 + (i.d).toNat * 4 + 4) (t.cs).length && (!q && true))) = true) (c0 : pe (.ag (((t.cs).drop (7 + (i.d).toNat * 4)).take 4)) = pe (.ag ((t.r).get (i.d).toNat).cs)) (c1 : Ok 74 [.ag i.cs, .ag t.cs] (.ag b.cs)) (c2 : Ok 73 [.ag ((t.r).get (i.d).toNat).cs, .ag b.cs] (.tu [.ag x.cs, .ag y.cs, .c (.b q), .c (.i 0)])) :
  Ok 69 [.ag i.cs, .ag t.cs, .c (.f 73 [])] (.ag St.z.cs) :=
 val_run2 [true] ([]) [(1, 5)] Tryz.func69 rfl rfl rfl rfl (by kernel_rfl) h (cr_same c0 (cr_cons c1 (cr_cons c2 cr_nil)))
theorem fleftLe_w1 (h : (decide (0 ≤ i.d) && decide (i.d < 6) && (Nat.ble (7 + (i.d).toNat * 4 + 4) (t.cs).length && (!!q && (i.s != -1 && true)))) = true) (c0 : pe (.ag (((t.cs).drop (7 + (i.d).toNat * 4)).take 4)) = pe (.ag ((t.r).get (i.d).toNat).cs)) (c1 : Ok 74 [.ag i.cs, .ag t.cs] (.ag b.cs)) (c2 : Ok 73 [.ag ((t.r).get (i.d).toNat).cs, .ag b.cs] (.tu [.ag x.cs, .ag y.cs, .c (.b q), .c (.i 0)])) (c3 : Ok 68 [.ag t.cs, .c (.i i.d), .ag x.cs] (.ag t1.cs)) (c4 : Ok 68 [.ag t1.cs, .c (.i i.s), .ag y.cs] (.ag t2.cs)) :
  Ok 69 [.ag i.cs, .ag t.cs, .c (.f 73 [])] (.ag t2.cs) :=
 val_run2 [false, true] ([]) [(1, 5)] Tryz.func69 rfl rfl rfl rfl (by kernel_rfl) h (cr_same c0 (cr_cons c1 (cr_cons c2 (cr_cons c3 (cr_cons c4 cr_nil)))))
theorem fleftLe_w2 (h : (decide (0 ≤ i.d) && decide (i.d < 6) && (Nat.ble (7 + (i.d).toNat * 4 + 4) (t.cs).length && (!!q && (!i.s != -1 && true)))) = true) (c0 : pe (.ag (((t.cs).drop (7 + (i.d).toNat * 4)).take 4)) = pe (.ag ((t.r).get (i.d).toNat).cs)) (c1 : Ok 74 [.ag i.cs, .ag t.cs] (.ag b.cs)) (c2 : Ok 73 [.ag ((t.r).get (i.d).toNat).cs, .ag b.cs] (.tu [.ag x.cs, .ag y.cs, .c (.b q), .c (.i 0)])) (c3 : Ok 68 [.ag t.cs, .c (.i i.d), .ag x.cs] (.ag t1.cs)) :
  Ok 69 [.ag i.cs, .ag t.cs, .c (.f 73 [])] (.ag t1.cs) :=
 val_run2 [false, false] ([]) [(1, 5)] Tryz.func69 rfl rfl rfl rfl (by kernel_rfl) h (cr_same c0 (cr_cons c1 (cr_cons c2 (cr_cons c3 cr_nil))))
theorem fleftLe_all
  (l0 : (!q) = true → (decide (0 ≤ i.d) && decide (i.d < 6)) = true ∧ (Nat.ble (7 + (i.d).toNat * 4 + 4) (t.cs).length) = true ∧ (pe (.ag (((t.cs).drop (7 + (i.d).toNat * 4)).take 4)) = pe (.ag ((t.r).get (i.d).toNat).cs)) ∧ (Ok 74 [.ag i.cs, .ag t.cs] (.ag b.cs)) ∧ (Ok 73 [.ag ((t.r).get (i.d).toNat).cs, .ag b.cs] (.tu [.ag x.cs, .ag y.cs, .c (.b q), .c (.i 0)])) ∧ (AV.ag St.z.cs = V))
  (l1 : (!q) = false → (i.s != -1) = true → (decide (0 ≤ i.d) && decide (i.d < 6)) = true ∧ (Nat.ble (7 + (i.d).toNat * 4 + 4) (t.cs).length) = true ∧ (pe (.ag (((t.cs).drop (7 + (i.d).toNat * 4)).take 4)) = pe (.ag ((t.r).get (i.d).toNat).cs)) ∧ (Ok 74 [.ag i.cs, .ag t.cs] (.ag b.cs)) ∧ (Ok 73 [.ag ((t.r).get (i.d).toNat).cs, .ag b.cs] (.tu [.ag x.cs, .ag y.cs, .c (.b q), .c (.i 0)])) ∧ (Ok 68 [.ag t.cs, .c (.i i.d), .ag x.cs] (.ag t1.cs)) ∧ (Ok 68 [.ag t1.cs, .c (.i i.s), .ag y.cs] (.ag t2.cs)) ∧ (AV.ag t2.cs = V))
  (l2 : (!q) = false → (i.s != -1) = false → (decide (0 ≤ i.d) && decide (i.d < 6)) = true ∧ (Nat.ble (7 + (i.d).toNat * 4 + 4) (t.cs).length) = true ∧ (pe (.ag (((t.cs).drop (7 + (i.d).toNat * 4)).take 4)) = pe (.ag ((t.r).get (i.d).toNat).cs)) ∧ (Ok 74 [.ag i.cs, .ag t.cs] (.ag b.cs)) ∧ (Ok 73 [.ag ((t.r).get (i.d).toNat).cs, .ag b.cs] (.tu [.ag x.cs, .ag y.cs, .c (.b q), .c (.i 0)])) ∧ (Ok 68 [.ag t.cs, .c (.i i.d), .ag x.cs] (.ag t1.cs)) ∧ (AV.ag t1.cs = V)) :
  Ok 69 [.ag i.cs, .ag t.cs, .c (.f 73 [])] V :=
 (tf (!q)).elim (fun h0 => (match l0 h0 with | ⟨o0, o1, c0, c1, c2, e⟩ => ok_eq (fleftLe_w0 (and_yes o0 (and_yes o1 (and_yes h0 rfl))) c0 c1 c2) e)) (fun h0 => (tf (i.s != -1)).elim (fun h1 => (match l1 h0 h1 with | ⟨o0, o1, c0, c1, c2, c3, c4, e⟩ => ok_eq (fleftLe_w1 (and_yes o0 (and_yes o1 (and_yes (not_yes h0) (and_yes h1 rfl)))) c0 c1 c2 c3 c4) e)) (fun h1 => (match l2 h0 h1 with | ⟨o0, o1, c0, c1, c2, c3, e⟩ => ok_eq (fleftLe_w2 (and_yes o0 (and_yes o1 (and_yes (not_yes h0) (and_yes (not_yes h1) rfl)))) c0 c1 c2 c3) e)))
theorem ftTop_w0 (c0 : Ok 65 [.ag i.cs] (.ag (bcs u))) (lo : Kn.Low (ftRoundK i t u 0)) (hF : ∀ k, C.F k → k < 2) (z : AR 27 Tryz.f27 C 0 (ftRoundK i t u 0) R) :
  BO 27 Tryz.f27 C [.ag i.cs, .ag t.cs] [] 0 R :=
 run_cut2 [] ([true]) [] Tryz.func27 (by kernel_rfl) rfl (cr_cons c0 cr_nil) lo hF z
theorem ftRound_w0 (h : (decide (j < 6) && (AC.isB ((bcs u)[j.toNat * 1]?.getD (.b false)) && Nat.blt (j.toNat * 1) (bcs u).length && (decide (0 ≤ j) && decide (j < 6)) && (u.get j.toNat && (decide (0 ≤ j) && decide (j < 6) && (AC.isB ((t.cs)[1 + j.toNat * 1]?.getD (.b false)) && Nat.blt (1 + j.toNat * 1) (t.cs).length && (!(t.s).get j.toNat && true)))))) = true) (c0 : pe (.c (.b (AC.asB ((bcs u)[j.toNat * 1]?.getD (.b false))))) = pe (.c (.b (u.get j.toNat)))) (c1 : pe (.c (.b (AC.asB ((t.cs)[1 + j.toNat * 1]?.getD (.b false))))) = pe (.c (.b ((t.s).get j.toNat)))) :
  AR 27 Tryz.f27 (cx w β n []) 0 (ftRoundK i t u j) (REff w β ⟨.c (.i 1), [], none⟩) :=
 run_eff2 [] none [true, true, true] ([true]) [(3, 1), (4, 5)] Tryz.func27 (ekeys0 rfl n) (by kernel_rfl) h (cr_same c0 (cr_same c1 cr_nil))
theorem ftRound_w1 (h : (decide (j < 6) && (AC.isB ((bcs u)[j.toNat * 1]?.getD (.b false)) && Nat.blt (j.toNat * 1) (bcs u).length && (decide (0 ≤ j) && decide (j < 6)) && (u.get j.toNat && (decide (0 ≤ j) && decide (j < 6) && (AC.isB ((t.cs)[1 + j.toNat * 1]?.getD (.b false)) && Nat.blt (1 + j.toNat * 1) (t.cs).length && (!!(t.s).get j.toNat && true)))))) = true) (c0 : pe (.c (.b (AC.asB ((bcs u)[j.toNat * 1]?.getD (.b false))))) = pe (.c (.b (u.get j.toNat)))) (c1 : pe (.c (.b (AC.asB ((t.cs)[1 + j.toNat * 1]?.getD (.b false))))) = pe (.c (.b ((t.s).get j.toNat)))) (lo : Kn.Low (ftRoundK i t u (IntKind.i64.wrap (j + 1)))) (hF : ∀ k, C.F k → k < 2) (z : AR 27 Tryz.f27 C 0 (ftRoundK i t u (IntKind.i64.wrap (j + 1))) R) :
  AR 27 Tryz.f27 C 0 (ftRoundK i t u j) R :=
 run_cut2 [true, true, false] ([true]) [(3, 1), (4, 5)] Tryz.func27 (by kernel_rfl) h (cr_same c0 (cr_same c1 cr_nil)) lo hF z
theorem ftRound_w2 (h : (decide (j < 6) && (AC.isB ((bcs u)[j.toNat * 1]?.getD (.b false)) && Nat.blt (j.toNat * 1) (bcs u).length && (decide (0 ≤ j) && decide (j < 6)) && (!u.get j.toNat && true))) = true) (c0 : pe (.c (.b (AC.asB ((bcs u)[j.toNat * 1]?.getD (.b false))))) = pe (.c (.b (u.get j.toNat)))) (lo : Kn.Low (ftRoundK i t u (IntKind.i64.wrap (j + 1)))) (hF : ∀ k, C.F k → k < 2) (z : AR 27 Tryz.f27 C 0 (ftRoundK i t u (IntKind.i64.wrap (j + 1))) R) :
  AR 27 Tryz.f27 C 0 (ftRoundK i t u j) R :=
 run_cut2 [true, false, false] ([true]) [(3, 1), (4, 5)] Tryz.func27 (by kernel_rfl) h (cr_same c0 cr_nil) lo hF z
theorem ftRound_all (hn : n ≤ 2)
  (l0 : (u.get j.toNat) = true → (!(t.s).get j.toNat) = true → (decide (j < 6)) = true ∧ (AC.isB ((bcs u)[j.toNat * 1]?.getD (.b false)) && Nat.blt (j.toNat * 1) (bcs u).length && (decide (0 ≤ j) && decide (j < 6))) = true ∧ (decide (0 ≤ j) && decide (j < 6)) = true ∧ (AC.isB ((t.cs)[1 + j.toNat * 1]?.getD (.b false)) && Nat.blt (1 + j.toNat * 1) (t.cs).length) = true ∧ (pe (.c (.b (AC.asB ((bcs u)[j.toNat * 1]?.getD (.b false))))) = pe (.c (.b (u.get j.toNat)))) ∧ (pe (.c (.b (AC.asB ((t.cs)[1 + j.toNat * 1]?.getD (.b false))))) = pe (.c (.b ((t.s).get j.toNat)))) ∧ ((⟨.c (.i 1), [], none⟩ : Eff) = E))
  (l1 : (u.get j.toNat) = true → (!(t.s).get j.toNat) = false → (decide (j < 6)) = true ∧ (AC.isB ((bcs u)[j.toNat * 1]?.getD (.b false)) && Nat.blt (j.toNat * 1) (bcs u).length && (decide (0 ≤ j) && decide (j < 6))) = true ∧ (decide (0 ≤ j) && decide (j < 6)) = true ∧ (AC.isB ((t.cs)[1 + j.toNat * 1]?.getD (.b false)) && Nat.blt (1 + j.toNat * 1) (t.cs).length) = true ∧ (pe (.c (.b (AC.asB ((bcs u)[j.toNat * 1]?.getD (.b false))))) = pe (.c (.b (u.get j.toNat)))) ∧ (pe (.c (.b (AC.asB ((t.cs)[1 + j.toNat * 1]?.getD (.b false))))) = pe (.c (.b ((t.s).get j.toNat)))) ∧ Kn.Low (ftRoundK i t u (IntKind.i64.wrap (j + 1))) ∧ AR 27 Tryz.f27 (cx w β n []) 0 (ftRoundK i t u (IntKind.i64.wrap (j + 1))) (REff w β E))
  (l2 : (u.get j.toNat) = false → (decide (j < 6)) = true ∧ (AC.isB ((bcs u)[j.toNat * 1]?.getD (.b false)) && Nat.blt (j.toNat * 1) (bcs u).length && (decide (0 ≤ j) && decide (j < 6))) = true ∧ (pe (.c (.b (AC.asB ((bcs u)[j.toNat * 1]?.getD (.b false))))) = pe (.c (.b (u.get j.toNat)))) ∧ Kn.Low (ftRoundK i t u (IntKind.i64.wrap (j + 1))) ∧ AR 27 Tryz.f27 (cx w β n []) 0 (ftRoundK i t u (IntKind.i64.wrap (j + 1))) (REff w β E)) :
  AR 27 Tryz.f27 (cx w β n []) 0 (ftRoundK i t u j) (REff w β E) :=
 (tf (u.get j.toNat)).elim (fun h0 => (tf (!(t.s).get j.toNat)).elim (fun h1 => (match l0 h0 h1 with | ⟨o0, o1, o2, o3, c0, c1, e⟩ => art_eq (ftRound_w0 (and_yes o0 (and_yes o1 (and_yes h0 (and_yes o2 (and_yes o3 (and_yes h1 rfl)))))) c0 c1) e)) (fun h1 => (match l1 h0 h1 with | ⟨o0, o1, o2, o3, c0, c1, lo, z⟩ => ftRound_w1 (and_yes o0 (and_yes o1 (and_yes h0 (and_yes o2 (and_yes o3 (and_yes (not_yes h1) rfl)))))) c0 c1 lo (fun _ hk => Nat.lt_of_lt_of_le hk hn) z))) (fun h0 => (match l2 h0 with | ⟨o0, o1, c0, lo, z⟩ => ftRound_w2 (and_yes o0 (and_yes o1 (and_yes (not_yes h0) rfl))) c0 lo (fun _ hk => Nat.lt_of_lt_of_le hk hn) z))
theorem ftEnd_w0 (h : (i.op == 10 && (decide (0 ≤ i.s) && decide (i.s < 6) && (Nat.ble (7 + (i.s).toNat * 4 + 4) (t.cs).length && true))) = true) (c0 : pe (.ag (((t.cs).drop (7 + (i.s).toNat * 4)).take 4)) = pe (.ag ((t.r).get (i.s).toNat).cs)) (c1 : Ok 66 [.ag i.cs, .ag ((t.r).get (i.s).toNat).cs] (.c (.i e))) :
  AR 27 Tryz.f27 (cx w β n []) 0 (ftRoundK i t u 6) (REff w β ⟨.c (.i e), [], none⟩) :=
 run_eff2 [] none [false, true] ([true]) [(9, 5), (11, 5)] Tryz.func27 (ekeys0 rfl n) (by kernel_rfl) h (cr_same c0 (cr_cons c1 cr_nil))
theorem ftEnd_w1 (h : (!i.op == 10 && (i.op == 11 && (decide (0 ≤ i.d) && decide (i.d < 6) && (Nat.ble (7 + (i.d).toNat * 4 + 4) (t.cs).length && true)))) = true) (c0 : pe (.ag (((t.cs).drop (7 + (i.d).toNat * 4)).take 4)) = pe (.ag ((t.r).get (i.d).toNat).cs)) (c1 : Ok 66 [.ag i.cs, .ag ((t.r).get (i.d).toNat).cs] (.c (.i e))) :
  AR 27 Tryz.f27 (cx w β n []) 0 (ftRoundK i t u 6) (REff w β ⟨.c (.i e), [], none⟩) :=
 run_eff2 [] none [false, false, true] ([true]) [(9, 5), (11, 5)] Tryz.func27 (ekeys0 rfl n) (by kernel_rfl) h (cr_same c0 (cr_cons c1 cr_nil))
theorem ftEnd_w2 (h : (!i.op == 10 && (!i.op == 11 && true)) = true) :
  AR 27 Tryz.f27 (cx w β n []) 0 (ftRoundK i t u 6) (REff w β ⟨.c (.i 0), [], none⟩) :=
 run_eff2 [] none [false, false, false] ([true]) [(9, 5), (11, 5)] Tryz.func27 (ekeys0 rfl n) (by kernel_rfl) h cr_nil
theorem ftEnd_all
  (l0 : (i.op == 10) = true → (decide (0 ≤ i.s) && decide (i.s < 6)) = true ∧ (Nat.ble (7 + (i.s).toNat * 4 + 4) (t.cs).length) = true ∧ (pe (.ag (((t.cs).drop (7 + (i.s).toNat * 4)).take 4)) = pe (.ag ((t.r).get (i.s).toNat).cs)) ∧ (Ok 66 [.ag i.cs, .ag ((t.r).get (i.s).toNat).cs] (.c (.i e))) ∧ ((⟨.c (.i e), [], none⟩ : Eff) = E))
  (l1 : (i.op == 10) = false → (i.op == 11) = true → (decide (0 ≤ i.d) && decide (i.d < 6)) = true ∧ (Nat.ble (7 + (i.d).toNat * 4 + 4) (t.cs).length) = true ∧ (pe (.ag (((t.cs).drop (7 + (i.d).toNat * 4)).take 4)) = pe (.ag ((t.r).get (i.d).toNat).cs)) ∧ (Ok 66 [.ag i.cs, .ag ((t.r).get (i.d).toNat).cs] (.c (.i e))) ∧ ((⟨.c (.i e), [], none⟩ : Eff) = E))
  (l2 : (i.op == 10) = false → (i.op == 11) = false → ((⟨.c (.i 0), [], none⟩ : Eff) = E)) :
  AR 27 Tryz.f27 (cx w β n []) 0 (ftRoundK i t u 6) (REff w β E) :=
 (tf (i.op == 10)).elim (fun h0 => (match l0 h0 with | ⟨o0, o1, c0, c1, e⟩ => art_eq (ftEnd_w0 (and_yes h0 (and_yes o0 (and_yes o1 rfl))) c0 c1) e)) (fun h0 => (tf (i.op == 11)).elim (fun h1 => (match l1 h0 h1 with | ⟨o0, o1, c0, c1, e⟩ => art_eq (ftEnd_w1 (and_yes (not_yes h0) (and_yes h1 (and_yes o0 (and_yes o1 rfl)))) c0 c1) e)) (fun h1 => (match l2 h0 h1 with | e => art_eq (ftEnd_w2 (and_yes (not_yes h0) (and_yes (not_yes h1) rfl))) e)))
theorem fgoL_w0 (h : (i.op == 10 && true) = true) (c0 : pe (.c (.i (IntKind.i64.wrap (nv i.im)))) = pe (.c (.i (nv i.im)))) (c1 : Ok 67 [.c (.i (nv i.im))] (.tu [.ag a.cs, .c (.i 0)])) (c2 : Ok 68 [.ag t.cs, .c (.i i.d), .ag a.cs] (.ag t1.cs)) :
  Ok 28 [.ag i.cs, .ag t.cs] (.tu [.ag t1.cs, .ag St.z.cs]) :=
 val_run2 [true] ([]) [(3, 2), (17, 6)] Tryz.func28 rfl rfl rfl rfl (by kernel_rfl) h (cr_same c0 (cr_cons c1 (cr_cons c2 cr_nil)))
theorem fgoS_w0 (h : (!i.op == 10 && (i.op == 11 && true)) = true) :
  Ok 28 [.ag i.cs, .ag t.cs] (.tu [.ag t.cs, .ag St.z.cs]) :=
 val_run2 [false, true] ([]) [(3, 2), (17, 6)] Tryz.func28 rfl rfl rfl rfl (by kernel_rfl) h cr_nil
theorem fgoJ_w0 (h : (!i.op == 10 && (!i.op == 11 && (i.op == 12 && true))) = true) :
  Ok 28 [.ag i.cs, .ag t.cs] (.tu [.ag St.z.cs, .ag t.cs]) :=
 val_run2 [false, false, true] ([]) [(3, 2), (17, 6)] Tryz.func28 rfl rfl rfl rfl (by kernel_rfl) h cr_nil
theorem fgoEq_w0 (h : (!i.op == 10 && (!i.op == 11 && (!i.op == 12 && (i.op == 13 && true)))) = true) (c0 : Ok 69 [.ag i.cs, .ag t.cs, .c (.f 70 [])] (.ag t1.cs)) (c1 : Ok 69 [.ag i.cs, .ag t.cs, .c (.f 71 [])] (.ag t2.cs)) :
  Ok 28 [.ag i.cs, .ag t.cs] (.tu [.ag t1.cs, .ag t2.cs]) :=
 val_run2 [false, false, false, true] ([]) [(3, 2), (17, 6)] Tryz.func28 rfl rfl rfl rfl (by kernel_rfl) h (cr_cons c0 (cr_cons c1 cr_nil))
theorem fgoLt_w0 (h : (!i.op == 10 && (!i.op == 11 && (!i.op == 12 && (!i.op == 13 && (i.op == 14 && true))))) = true) (c0 : Ok 69 [.ag i.cs, .ag t.cs, .c (.f 72 [])] (.ag t1.cs)) (c1 : Ok 69 [.ag i.cs, .ag t.cs, .c (.f 73 [])] (.ag t2.cs)) :
  Ok 28 [.ag i.cs, .ag t.cs] (.tu [.ag t1.cs, .ag t2.cs]) :=
 val_run2 [false, false, false, false, true] ([]) [(3, 2), (17, 6)] Tryz.func28 rfl rfl rfl rfl (by kernel_rfl) h (cr_cons c0 (cr_cons c1 cr_nil))
theorem fgoX_w0 (h : (!i.op == 10 && (!i.op == 11 && (!i.op == 12 && (!i.op == 13 && (!i.op == 14 && (i.op == 15 && true)))))) = true) :
  Ok 28 [.ag i.cs, .ag t.cs] (.tu [.ag St.z.cs, .ag St.z.cs]) :=
 val_run2 [false, false, false, false, false, true] ([]) [(3, 2), (17, 6)] Tryz.func28 rfl rfl rfl rfl (by kernel_rfl) h cr_nil
theorem fgoM_w0 (h : (!i.op == 10 && (!i.op == 11 && (!i.op == 12 && (!i.op == 13 && (!i.op == 14 && (!i.op == 15 && (i.op == 1 && true))))))) = true) (c0 : Ok 74 [.ag i.cs, .ag t.cs] (.ag a.cs)) (c1 : Ok 68 [.ag t.cs, .c (.i i.d), .ag a.cs] (.ag t1.cs)) :
  Ok 28 [.ag i.cs, .ag t.cs] (.tu [.ag t1.cs, .ag St.z.cs]) :=
 val_run2 [false, false, false, false, false, false, true] ([]) [(3, 2), (17, 6)] Tryz.func28 rfl rfl rfl rfl (by kernel_rfl) h (cr_cons c0 (cr_cons c1 cr_nil))
theorem fgoT_w0 (h : (!i.op == 10 && (!i.op == 11 && (!i.op == 12 && (!i.op == 13 && (!i.op == 14 && (!i.op == 15 && (!i.op == 1 && (decide (0 ≤ i.d) && decide (i.d < 6) && (Nat.ble (7 + (i.d).toNat * 4 + 4) (t.cs).length && true))))))))) = true) (c0 : pe (.ag (((t.cs).drop (7 + (i.d).toNat * 4)).take 4)) = pe (.ag ((t.r).get (i.d).toNat).cs)) (c1 : Ok 74 [.ag i.cs, .ag t.cs] (.ag b.cs)) (c2 : Ok 75 [.c (.i i.op), .ag ((t.r).get (i.d).toNat).cs, .ag b.cs] (.tu [.ag c.cs, .c (.i 0)])) (c3 : Ok 68 [.ag t.cs, .c (.i i.d), .ag c.cs] (.ag t1.cs)) :
  Ok 28 [.ag i.cs, .ag t.cs] (.tu [.ag t1.cs, .ag St.z.cs]) :=
 val_run2 [false, false, false, false, false, false, false] ([]) [(3, 2), (17, 6)] Tryz.func28 rfl rfl rfl rfl (by kernel_rfl) h (cr_same c0 (cr_cons c1 (cr_cons c2 (cr_cons c3 cr_nil))))
theorem fstep_w0 (h : (!fi && true) = true) (c0 : Ok 25 [.ag i.cs] (.c (.b fi))) :
  Ok 7 [.ag i.cs, .ag t.cs] (.tu [.ag St.z.cs, .ag St.z.cs, .c (.i 0), .c (.i 1)]) :=
 val_run2 [true, true] ([]) [] Tryz.func7 rfl rfl rfl rfl (by kernel_rfl) h (cr_cons c0 cr_nil)
theorem fstep_w1 (h : (!!fi && (ce != 0 && true)) = true) (c0 : Ok 25 [.ag i.cs] (.c (.b fi))) (c1 : Ok 26 [.ag t.cs] (.c (.i ce))) :
  Ok 7 [.ag i.cs, .ag t.cs] (.tu [.ag St.z.cs, .ag St.z.cs, .c (.i 0), .c (.i 1)]) :=
 val_run2 [false, true] ([]) [] Tryz.func7 rfl rfl rfl rfl (by kernel_rfl) h (cr_cons c0 (cr_cons c1 cr_nil))
theorem fstep_w2 (h : (!!fi && (!ce != 0 && (!t.live && true))) = true) (c0 : Ok 25 [.ag i.cs] (.c (.b fi))) (c1 : Ok 26 [.ag t.cs] (.c (.i ce))) :
  Ok 7 [.ag i.cs, .ag t.cs] (.tu [.ag St.z.cs, .ag St.z.cs, .c (.i 0), .c (.i 0)]) :=
 val_run2 [false, false, true] ([]) [] Tryz.func7 rfl rfl rfl rfl (by kernel_rfl) h (cr_cons c0 (cr_cons c1 cr_nil))
theorem fstep_w3 (h : (!!fi && (!ce != 0 && (!!t.live && (tr != 0 && true)))) = true) (c0 : Ok 25 [.ag i.cs] (.c (.b fi))) (c1 : Ok 26 [.ag t.cs] (.c (.i ce))) (c2 : Ok 27 [.ag i.cs, .ag t.cs] (.c (.i tr))) :
  Ok 7 [.ag i.cs, .ag t.cs] (.tu [.ag St.z.cs, .ag St.z.cs, .c (.i tr), .c (.i 0)]) :=
 val_run2 [false, false, false, true] ([]) [] Tryz.func7 rfl rfl rfl rfl (by kernel_rfl) h (cr_cons c0 (cr_cons c1 (cr_cons c2 cr_nil)))
theorem fstep_w4 (h : (!!fi && (!ce != 0 && (!!t.live && (!tr != 0 && true)))) = true) (c0 : Ok 25 [.ag i.cs] (.c (.b fi))) (c1 : Ok 26 [.ag t.cs] (.c (.i ce))) (c2 : Ok 27 [.ag i.cs, .ag t.cs] (.c (.i tr))) (c3 : Ok 28 [.ag i.cs, .ag t.cs] (.tu [.ag t1.cs, .ag t2.cs])) :
  Ok 7 [.ag i.cs, .ag t.cs] (.tu [.ag t1.cs, .ag t2.cs, .c (.i 0), .c (.i 0)]) :=
 val_run2 [false, false, false, false] ([]) [] Tryz.func7 rfl rfl rfl rfl (by kernel_rfl) h (cr_cons c0 (cr_cons c1 (cr_cons c2 (cr_cons c3 cr_nil))))
theorem fstep_all
  (l0 : (!fi) = true → (Ok 25 [.ag i.cs] (.c (.b fi))) ∧ (AV.tu [.ag St.z.cs, .ag St.z.cs, .c (.i 0), .c (.i 1)] = V))
  (l1 : (!fi) = false → (ce != 0) = true → (Ok 25 [.ag i.cs] (.c (.b fi))) ∧ (Ok 26 [.ag t.cs] (.c (.i ce))) ∧ (AV.tu [.ag St.z.cs, .ag St.z.cs, .c (.i 0), .c (.i 1)] = V))
  (l2 : (!fi) = false → (ce != 0) = false → (!t.live) = true → (Ok 25 [.ag i.cs] (.c (.b fi))) ∧ (Ok 26 [.ag t.cs] (.c (.i ce))) ∧ (AV.tu [.ag St.z.cs, .ag St.z.cs, .c (.i 0), .c (.i 0)] = V))
  (l3 : (!fi) = false → (ce != 0) = false → (!t.live) = false → (tr != 0) = true → (Ok 25 [.ag i.cs] (.c (.b fi))) ∧ (Ok 26 [.ag t.cs] (.c (.i ce))) ∧ (Ok 27 [.ag i.cs, .ag t.cs] (.c (.i tr))) ∧ (AV.tu [.ag St.z.cs, .ag St.z.cs, .c (.i tr), .c (.i 0)] = V))
  (l4 : (!fi) = false → (ce != 0) = false → (!t.live) = false → (tr != 0) = false → (Ok 25 [.ag i.cs] (.c (.b fi))) ∧ (Ok 26 [.ag t.cs] (.c (.i ce))) ∧ (Ok 27 [.ag i.cs, .ag t.cs] (.c (.i tr))) ∧ (Ok 28 [.ag i.cs, .ag t.cs] (.tu [.ag t1.cs, .ag t2.cs])) ∧ (AV.tu [.ag t1.cs, .ag t2.cs, .c (.i 0), .c (.i 0)] = V)) :
  Ok 7 [.ag i.cs, .ag t.cs] V :=
 (tf (!fi)).elim (fun h0 => (match l0 h0 with | ⟨c0, e⟩ => ok_eq (fstep_w0 (and_yes h0 rfl) c0) e)) (fun h0 => (tf (ce != 0)).elim (fun h1 => (match l1 h0 h1 with | ⟨c0, c1, e⟩ => ok_eq (fstep_w1 (and_yes (not_yes h0) (and_yes h1 rfl)) c0 c1) e)) (fun h1 => (tf (!t.live)).elim (fun h2 => (match l2 h0 h1 h2 with | ⟨c0, c1, e⟩ => ok_eq (fstep_w2 (and_yes (not_yes h0) (and_yes (not_yes h1) (and_yes h2 rfl))) c0 c1) e)) (fun h2 => (tf (tr != 0)).elim (fun h3 => (match l3 h0 h1 h2 h3 with | ⟨c0, c1, c2, e⟩ => ok_eq (fstep_w3 (and_yes (not_yes h0) (and_yes (not_yes h1) (and_yes (not_yes h2) (and_yes h3 rfl)))) c0 c1 c2) e)) (fun h3 => (match l4 h0 h1 h2 h3 with | ⟨c0, c1, c2, c3, e⟩ => ok_eq (fstep_w4 (and_yes (not_yes h0) (and_yes (not_yes h1) (and_yes (not_yes h2) (and_yes (not_yes h3) rfl)))) c0 c1 c2 c3) e)))))
end
section
variable {a b p q n2 : V4} {i1 i2 al i may r bl ov : Bool} {V : AV} {x kv km y : BitVec 64}
theorem refAlone_w0 :
  Ok 59 [.ag a.cs] (.c (.b (eqb a.l a.h))) :=
 val_run2 [] ([]) [] Tryz.func59 rfl rfl rfl rfl (by kernel_rfl) rfl cr_nil
theorem refBoth_w0 (h : (!i1 && true) = true) :
  Ok 84 [.ag a.cs, .c (.b i1), .ag b.cs, .c (.b i2)] (.tu [.ag [.u 0#64, .u 0#64, .u 0#64, .u 0#64], .ag [.u 0#64, .u 0#64, .u 0#64, .u 0#64], .c (.b false)]) :=
 val_run2 [true, true] ([]) [] Tryz.func84 rfl rfl rfl rfl (by kernel_rfl) h cr_nil
theorem refBoth_w1 (h : (!!i1 && (!i2 && true)) = true) :
  Ok 84 [.ag a.cs, .c (.b i1), .ag b.cs, .c (.b i2)] (.tu [.ag [.u 0#64, .u 0#64, .u 0#64, .u 0#64], .ag [.u 0#64, .u 0#64, .u 0#64, .u 0#64], .c (.b false)]) :=
 val_run2 [false, true] ([]) [] Tryz.func84 rfl rfl rfl rfl (by kernel_rfl) h cr_nil
theorem refBoth_w2 (h : (!!i1 && (!!i2 && true)) = true) :
  Ok 84 [.ag a.cs, .c (.b i1), .ag b.cs, .c (.b i2)] (.tu [.ag a.cs, .ag b.cs, .c (.b true)]) :=
 val_run2 [false, false] ([]) [] Tryz.func84 rfl rfl rfl rfl (by kernel_rfl) h cr_nil
theorem refRid_w0 (h : (al && (eqb a.l x && true)) = true) (c0 : Ok 59 [.ag a.cs] (.c (.b al))) :
  Ok 83 [.ag a.cs, .c (.u x)] (.tu [.ag [.u 0#64, .u 0#64, .u 0#64, .u 0#64], .c (.b false)]) :=
 val_run2 [true, true] ([]) [] Tryz.func83 rfl rfl rfl rfl (by kernel_rfl) h (cr_cons c0 cr_nil)
theorem refRid_w1 {n : V4} (h : (al && (!eqb a.l x && (!eqb a.l x && (eqb a.h x && true)))) = true) (c0 : Ok 59 [.ag a.cs] (.c (.b al))) (c1 : Ok 78 [.ag [.u a.v, .u a.m, .u a.l, .u (bsub a.h 1#64)]] (.tu [.ag n.cs, .c (.b i)])) :
  Ok 83 [.ag a.cs, .c (.u x)] (.tu [.ag n.cs, .c (.b i)]) :=
 val_run2 [true, false, false, true] ([]) [] Tryz.func83 rfl rfl rfl rfl (by kernel_rfl) h (cr_cons c0 (cr_cons c1 cr_nil))
theorem refRid_w2 {n : V4} (h : (al && (!eqb a.l x && (!eqb a.l x && (!eqb a.h x && true)))) = true) (c0 : Ok 59 [.ag a.cs] (.c (.b al))) (c1 : Ok 78 [.ag a.cs] (.tu [.ag n.cs, .c (.b i)])) :
  Ok 83 [.ag a.cs, .c (.u x)] (.tu [.ag n.cs, .c (.b i)]) :=
 val_run2 [true, false, false, false] ([]) [] Tryz.func83 rfl rfl rfl rfl (by kernel_rfl) h (cr_cons c0 (cr_cons c1 cr_nil))
theorem refRid_w3 {n : V4} (h : (!al && (eqb a.l x && true)) = true) (c0 : Ok 59 [.ag a.cs] (.c (.b al))) (c1 : Ok 78 [.ag [.u a.v, .u a.m, .u (badd a.l 1#64), .u a.h]] (.tu [.ag n.cs, .c (.b i)])) :
  Ok 83 [.ag a.cs, .c (.u x)] (.tu [.ag n.cs, .c (.b i)]) :=
 val_run2 [false, false, true] ([]) [] Tryz.func83 rfl rfl rfl rfl (by kernel_rfl) h (cr_cons c0 (cr_cons c1 cr_nil))
theorem refRid_w4 {n : V4} (h : (!al && (!eqb a.l x && (eqb a.h x && true))) = true) (c0 : Ok 59 [.ag a.cs] (.c (.b al))) (c1 : Ok 78 [.ag [.u a.v, .u a.m, .u a.l, .u (bsub a.h 1#64)]] (.tu [.ag n.cs, .c (.b i)])) :
  Ok 83 [.ag a.cs, .c (.u x)] (.tu [.ag n.cs, .c (.b i)]) :=
 val_run2 [false, false, false, true] ([]) [] Tryz.func83 rfl rfl rfl rfl (by kernel_rfl) h (cr_cons c0 (cr_cons c1 cr_nil))
theorem refRid_w5 {n : V4} (h : (!al && (!eqb a.l x && (!eqb a.h x && true))) = true) (c0 : Ok 59 [.ag a.cs] (.c (.b al))) (c1 : Ok 78 [.ag a.cs] (.tu [.ag n.cs, .c (.b i)])) :
  Ok 83 [.ag a.cs, .c (.u x)] (.tu [.ag n.cs, .c (.b i)]) :=
 val_run2 [false, false, false, false] ([]) [] Tryz.func83 rfl rfl rfl rfl (by kernel_rfl) h (cr_cons c0 (cr_cons c1 cr_nil))
theorem refEqual_w0 (h : (!may && true) = true) (c0 : Ok 85 [.ag [.u a.v, .u a.m], .ag [.u b.v, .u b.m]] (.tu [.ag [.u kv, .u km], .c (.b may)])) :
  Ok 41 [.ag a.cs, .ag b.cs] (.tu [.ag [.u 0#64, .u 0#64, .u 0#64, .u 0#64], .ag [.u 0#64, .u 0#64, .u 0#64, .u 0#64], .c (.b false)]) :=
 val_run2 [true] ([]) [] Tryz.func41 rfl rfl rfl rfl (by kernel_rfl) h (cr_cons c0 cr_nil)
theorem refEqual_w1 {n : V4} (h : (!!may && true) = true) (c0 : Ok 85 [.ag [.u a.v, .u a.m], .ag [.u b.v, .u b.m]] (.tu [.ag [.u kv, .u km], .c (.b may)])) (c1 : Ok 78 [.ag [.u kv, .u km, .u (bmax a.l b.l), .u (bmin a.h b.h)]] (.tu [.ag n.cs, .c (.b i)])) (c2 : Ok 84 [.ag n.cs, .c (.b i), .ag n.cs, .c (.b i)] (.tu [.ag p.cs, .ag q.cs, .c (.b r)])) :
  Ok 41 [.ag a.cs, .ag b.cs] (.tu [.ag p.cs, .ag q.cs, .c (.b r)]) :=
 val_run2 [false] ([]) [] Tryz.func41 rfl rfl rfl rfl (by kernel_rfl) h (cr_cons c0 (cr_cons c1 (cr_cons c2 cr_nil)))
theorem refLess_w0 (h : (eqb b.h 0#64 && true) = true) :
  Ok 44 [.ag a.cs, .ag b.cs] (.tu [.ag [.u 0#64, .u 0#64, .u 0#64, .u 0#64], .ag [.u 0#64, .u 0#64, .u 0#64, .u 0#64], .c (.b false)]) :=
 val_run2 [true, true] ([]) [] Tryz.func44 rfl rfl rfl rfl (by kernel_rfl) h cr_nil
theorem refLess_w1 (h : (!eqb b.h 0#64 && (eqb a.l 18446744073709551615#64 && true)) = true) :
  Ok 44 [.ag a.cs, .ag b.cs] (.tu [.ag [.u 0#64, .u 0#64, .u 0#64, .u 0#64], .ag [.u 0#64, .u 0#64, .u 0#64, .u 0#64], .c (.b false)]) :=
 val_run2 [false, true] ([]) [] Tryz.func44 rfl rfl rfl rfl (by kernel_rfl) h cr_nil
theorem refLess_w2 {n : V4} (h : (!eqb b.h 0#64 && (!eqb a.l 18446744073709551615#64 && true)) = true) (c0 : Ok 78 [.ag [.u a.v, .u a.m, .u a.l, .u (bmin a.h (bsub b.h 1#64))]] (.tu [.ag n.cs, .c (.b i)])) (c1 : Ok 78 [.ag [.u b.v, .u b.m, .u (bmax b.l (badd a.l 1#64)), .u b.h]] (.tu [.ag n2.cs, .c (.b i2)])) (c2 : Ok 84 [.ag n.cs, .c (.b i), .ag n2.cs, .c (.b i2)] (.tu [.ag p.cs, .ag q.cs, .c (.b r)])) :
  Ok 44 [.ag a.cs, .ag b.cs] (.tu [.ag p.cs, .ag q.cs, .c (.b r)]) :=
 val_run2 [false, false] ([]) [] Tryz.func44 rfl rfl rfl rfl (by kernel_rfl) h (cr_cons c0 (cr_cons c1 (cr_cons c2 cr_nil)))
theorem refNotLess_w0 {n : V4} (c0 : Ok 78 [.ag [.u a.v, .u a.m, .u (bmax a.l b.l), .u a.h]] (.tu [.ag n.cs, .c (.b i)])) (c1 : Ok 78 [.ag [.u b.v, .u b.m, .u b.l, .u (bmin b.h a.h)]] (.tu [.ag n2.cs, .c (.b i2)])) (c2 : Ok 84 [.ag n.cs, .c (.b i), .ag n2.cs, .c (.b i2)] (.tu [.ag p.cs, .ag q.cs, .c (.b r)])) :
  Ok 43 [.ag a.cs, .ag b.cs] (.tu [.ag p.cs, .ag q.cs, .c (.b r)]) :=
 val_run2 [] ([]) [] Tryz.func43 rfl rfl rfl rfl (by kernel_rfl) rfl (cr_cons c0 (cr_cons c1 (cr_cons c2 cr_nil)))
theorem refOther_w0 {n : V4} (h : (bl && (al && true)) = true) (c0 : Ok 59 [.ag b.cs] (.c (.b bl))) (c1 : Ok 83 [.ag a.cs, .c (.u b.l)] (.tu [.ag n.cs, .c (.b i)])) (c2 : Ok 59 [.ag a.cs] (.c (.b al))) (c3 : Ok 83 [.ag b.cs, .c (.u a.l)] (.tu [.ag n2.cs, .c (.b i2)])) (c4 : Ok 84 [.ag n.cs, .c (.b i), .ag n2.cs, .c (.b i2)] (.tu [.ag p.cs, .ag q.cs, .c (.b r)])) :
  Ok 40 [.ag a.cs, .ag b.cs] (.tu [.ag p.cs, .ag q.cs, .c (.b r)]) :=
 val_run2 [true, true] ([]) [] Tryz.func40 rfl rfl rfl rfl (by kernel_rfl) h (cr_cons c0 (cr_cons c1 (cr_cons c2 (cr_cons c3 (cr_cons c4 cr_nil)))))
theorem refOtherB_w0 {n : V4} (h : (bl && (!al && true)) = true) (c0 : Ok 59 [.ag b.cs] (.c (.b bl))) (c1 : Ok 83 [.ag a.cs, .c (.u b.l)] (.tu [.ag n.cs, .c (.b i)])) (c2 : Ok 59 [.ag a.cs] (.c (.b al))) (c3 : Ok 84 [.ag n.cs, .c (.b i), .ag b.cs, .c (.b true)] (.tu [.ag p.cs, .ag q.cs, .c (.b r)])) :
  Ok 40 [.ag a.cs, .ag b.cs] (.tu [.ag p.cs, .ag q.cs, .c (.b r)]) :=
 val_run2 [true, false] ([]) [] Tryz.func40 rfl rfl rfl rfl (by kernel_rfl) h (cr_cons c0 (cr_cons c1 (cr_cons c2 (cr_cons c3 cr_nil))))
theorem refOtherA_w0 (h : (!bl && (al && true)) = true) (c0 : Ok 59 [.ag b.cs] (.c (.b bl))) (c1 : Ok 59 [.ag a.cs] (.c (.b al))) (c2 : Ok 83 [.ag b.cs, .c (.u a.l)] (.tu [.ag n2.cs, .c (.b i2)])) (c3 : Ok 84 [.ag a.cs, .c (.b true), .ag n2.cs, .c (.b i2)] (.tu [.ag p.cs, .ag q.cs, .c (.b r)])) :
  Ok 40 [.ag a.cs, .ag b.cs] (.tu [.ag p.cs, .ag q.cs, .c (.b r)]) :=
 val_run2 [false, true] ([]) [] Tryz.func40 rfl rfl rfl rfl (by kernel_rfl) h (cr_cons c0 (cr_cons c1 (cr_cons c2 (cr_cons c3 cr_nil))))
theorem refOtherN_w0 (h : (!bl && (!al && true)) = true) (c0 : Ok 59 [.ag b.cs] (.c (.b bl))) (c1 : Ok 59 [.ag a.cs] (.c (.b al))) (c2 : Ok 84 [.ag a.cs, .c (.b true), .ag b.cs, .c (.b true)] (.tu [.ag p.cs, .ag q.cs, .c (.b r)])) :
  Ok 40 [.ag a.cs, .ag b.cs] (.tu [.ag p.cs, .ag q.cs, .c (.b r)]) :=
 val_run2 [false, false] ([]) [] Tryz.func40 rfl rfl rfl rfl (by kernel_rfl) h (cr_cons c0 (cr_cons c1 (cr_cons c2 cr_nil)))
theorem refBytes_w0 {n : Int} (h : (n == 8 && true) = true) (c0 : Ok 86 [] (.ag p.cs)) :
  Ok 46 [.c (.i n)] (.ag p.cs) :=
 val_run2 [true] ([]) [] Tryz.func46 rfl rfl rfl rfl (by kernel_rfl) h (cr_cons c0 cr_nil)
theorem refBytes_w1 {n : Int} (h : (!n == 8 && (decide (0 ≤ IntKind.i64.wrap (8 * n)) && decide (IntKind.i64.wrap (8 * n) ≤ 64) && true)) = true) :
  Ok 46 [.c (.i n)] (.ag [.u 0#64, .u (bsub (bshl (1#64) (IntKind.i64.wrap (8 * n)).toNat) 1#64), .u 0#64, .u (bsub (bshl (1#64) (IntKind.i64.wrap (8 * n)).toNat) 1#64)]) :=
 val_run2 [false] ([]) [] Tryz.func46 rfl rfl rfl rfl (by kernel_rfl) h cr_nil
theorem calcBytes_w0 {n : Int} (h : (n == 1 && (n == 1 && (decide (nv (BitVec.ofInt 64 (IntKind.i64.wrap (64 - IntKind.i64.wrap (8 * n)))) ≤ 64) && true))) = true) :
  Ok 67 [.c (.i n)] (.tu [.ag [.u 0#64, .u (bshr (18446744073709551615#64) (nv (BitVec.ofInt 64 (IntKind.i64.wrap (64 - IntKind.i64.wrap (8 * n))))).toNat), .u 0#64, .u (bshr (18446744073709551615#64) (nv (BitVec.ofInt 64 (IntKind.i64.wrap (64 - IntKind.i64.wrap (8 * n))))).toNat)], .c (.i 0)]) :=
 val_run2 [true, true] ([]) [] Tryz.func67 rfl rfl rfl rfl (by kernel_rfl) h cr_nil
theorem calcBytes_w1 {n : Int} (h : (!n == 1 && (n == 2 && (n == 2 && (decide (nv (BitVec.ofInt 64 (IntKind.i64.wrap (64 - IntKind.i64.wrap (8 * n)))) ≤ 64) && true)))) = true) :
  Ok 67 [.c (.i n)] (.tu [.ag [.u 0#64, .u (bshr (18446744073709551615#64) (nv (BitVec.ofInt 64 (IntKind.i64.wrap (64 - IntKind.i64.wrap (8 * n))))).toNat), .u 0#64, .u (bshr (18446744073709551615#64) (nv (BitVec.ofInt 64 (IntKind.i64.wrap (64 - IntKind.i64.wrap (8 * n))))).toNat)], .c (.i 0)]) :=
 val_run2 [false, true, true] ([]) [] Tryz.func67 rfl rfl rfl rfl (by kernel_rfl) h cr_nil
theorem calcBytes_w2 {n : Int} (h : (!n == 1 && (!n == 2 && (n == 4 && (n == 4 && (decide (nv (BitVec.ofInt 64 (IntKind.i64.wrap (64 - IntKind.i64.wrap (8 * n)))) ≤ 64) && true))))) = true) :
  Ok 67 [.c (.i n)] (.tu [.ag [.u 0#64, .u (bshr (18446744073709551615#64) (nv (BitVec.ofInt 64 (IntKind.i64.wrap (64 - IntKind.i64.wrap (8 * n))))).toNat), .u 0#64, .u (bshr (18446744073709551615#64) (nv (BitVec.ofInt 64 (IntKind.i64.wrap (64 - IntKind.i64.wrap (8 * n))))).toNat)], .c (.i 0)]) :=
 val_run2 [false, false, true, true] ([]) [] Tryz.func67 rfl rfl rfl rfl (by kernel_rfl) h cr_nil
theorem calcBytes_w3 {n : Int} (h : (!n == 1 && (!n == 2 && (!n == 4 && (n == 8 && (decide (nv (BitVec.ofInt 64 (IntKind.i64.wrap (64 - IntKind.i64.wrap (8 * n)))) ≤ 64) && true))))) = true) :
  Ok 67 [.c (.i n)] (.tu [.ag [.u 0#64, .u (bshr (18446744073709551615#64) (nv (BitVec.ofInt 64 (IntKind.i64.wrap (64 - IntKind.i64.wrap (8 * n))))).toNat), .u 0#64, .u (bshr (18446744073709551615#64) (nv (BitVec.ofInt 64 (IntKind.i64.wrap (64 - IntKind.i64.wrap (8 * n))))).toNat)], .c (.i 0)]) :=
 val_run2 [false, false, false, true] ([]) [] Tryz.func67 rfl rfl rfl rfl (by kernel_rfl) h cr_nil
theorem refOver_w0 (h : (!eqb y 0#64 && (!eqb y zero && true)) = true) :
  Ok 81 [.c (.u x), .c (.u y)] (.c (.b (decide (nv (18446744073709551615#64 / y) < nv x)))) :=
 val_run2 [true] ([]) [] Tryz.func81 rfl rfl rfl rfl (by kernel_rfl) h cr_nil
theorem refOver_w1 (h : (!!eqb y 0#64 && true) = true) :
  Ok 81 [.c (.u x), .c (.u y)] (.c (.b false)) :=
 val_run2 [false] ([]) [] Tryz.func81 rfl rfl rfl rfl (by kernel_rfl) h cr_nil
theorem refTwo2_w0 (h : (decide (nv (badd a.l b.l) < nv a.l) == decide (nv (badd a.h b.h) < nv a.h) && true) = true) (c0 : Ok 80 [.c (.i 2), .ag [.u a.v, .u a.m], .ag [.u b.v, .u b.m]] (.ag [.u kv, .u km])) (c1 : Ok 78 [.ag [.u kv, .u km, .u (badd a.l b.l), .u (badd a.h b.h)]] (.tu [.ag p.cs, .c (.b i)])) :
  Ok 39 [.c (.i 2), .ag a.cs, .ag b.cs] (.ag p.cs) :=
 val_run2 [true, true, true] ([]) [] Tryz.func39 rfl rfl rfl rfl (by kernel_rfl) h (cr_cons c0 (cr_cons c1 cr_nil))
theorem refTwo2_w1 (h : (!decide (nv (badd a.l b.l) < nv a.l) == decide (nv (badd a.h b.h) < nv a.h) && true) = true) (c0 : Ok 80 [.c (.i 2), .ag [.u a.v, .u a.m], .ag [.u b.v, .u b.m]] (.ag [.u kv, .u km])) (c1 : Ok 78 [.ag [.u kv, .u km, .u 0#64, .u 18446744073709551615#64]] (.tu [.ag p.cs, .c (.b i)])) :
  Ok 39 [.c (.i 2), .ag a.cs, .ag b.cs] (.ag p.cs) :=
 val_run2 [true, true, false] ([]) [] Tryz.func39 rfl rfl rfl rfl (by kernel_rfl) h (cr_cons c0 (cr_cons c1 cr_nil))
theorem refTwo3_w0 (h : (decide (nv a.l < nv b.h) == decide (nv a.h < nv b.l) && true) = true) (c0 : Ok 80 [.c (.i 3), .ag [.u a.v, .u a.m], .ag [.u b.v, .u b.m]] (.ag [.u kv, .u km])) (c1 : Ok 78 [.ag [.u kv, .u km, .u (bsub a.l b.h), .u (bsub a.h b.l)]] (.tu [.ag p.cs, .c (.b i)])) :
  Ok 39 [.c (.i 3), .ag a.cs, .ag b.cs] (.ag p.cs) :=
 val_run2 [true, false, true, true] ([]) [] Tryz.func39 rfl rfl rfl rfl (by kernel_rfl) h (cr_cons c0 (cr_cons c1 cr_nil))
theorem refTwo3_w1 (h : (!decide (nv a.l < nv b.h) == decide (nv a.h < nv b.l) && true) = true) (c0 : Ok 80 [.c (.i 3), .ag [.u a.v, .u a.m], .ag [.u b.v, .u b.m]] (.ag [.u kv, .u km])) (c1 : Ok 78 [.ag [.u kv, .u km, .u 0#64, .u 18446744073709551615#64]] (.tu [.ag p.cs, .c (.b i)])) :
  Ok 39 [.c (.i 3), .ag a.cs, .ag b.cs] (.ag p.cs) :=
 val_run2 [true, false, true, false] ([]) [] Tryz.func39 rfl rfl rfl rfl (by kernel_rfl) h (cr_cons c0 (cr_cons c1 cr_nil))
theorem refTwo5_w0 (c0 : Ok 80 [.c (.i 5), .ag [.u a.v, .u a.m], .ag [.u b.v, .u b.m]] (.ag [.u kv, .u km])) (c1 : Ok 78 [.ag [.u kv, .u km, .u 0#64, .u (bmin a.h b.h)]] (.tu [.ag p.cs, .c (.b i)])) :
  Ok 39 [.c (.i 5), .ag a.cs, .ag b.cs] (.ag p.cs) :=
 val_run2 [true, false, false, false, true] ([]) [] Tryz.func39 rfl rfl rfl rfl (by kernel_rfl) rfl (cr_cons c0 (cr_cons c1 cr_nil))
theorem refTwo6_w0 (c0 : Ok 80 [.c (.i 6), .ag [.u a.v, .u a.m], .ag [.u b.v, .u b.m]] (.ag [.u kv, .u km])) (c1 : Ok 78 [.ag [.u kv, .u km, .u (bmax a.l b.l), .u 18446744073709551615#64]] (.tu [.ag p.cs, .c (.b i)])) :
  Ok 39 [.c (.i 6), .ag a.cs, .ag b.cs] (.ag p.cs) :=
 val_run2 [true, false, false, false, false, true] ([]) [] Tryz.func39 rfl rfl rfl rfl (by kernel_rfl) rfl (cr_cons c0 (cr_cons c1 cr_nil))
theorem refTwo7_w0 (c0 : Ok 80 [.c (.i 7), .ag [.u a.v, .u a.m], .ag [.u b.v, .u b.m]] (.ag [.u kv, .u km])) (c1 : Ok 78 [.ag [.u kv, .u km, .u 0#64, .u 18446744073709551615#64]] (.tu [.ag p.cs, .c (.b i)])) :
  Ok 39 [.c (.i 7), .ag a.cs, .ag b.cs] (.ag p.cs) :=
 val_run2 [true, false, false, false, false, false, false, false] ([]) [] Tryz.func39 rfl rfl rfl rfl (by kernel_rfl) rfl (cr_cons c0 (cr_cons c1 cr_nil))
theorem refTwo4_w0 (h : (!ov && true) = true) (c0 : Ok 80 [.c (.i 4), .ag [.u a.v, .u a.m], .ag [.u b.v, .u b.m]] (.ag [.u kv, .u km])) (c1 : Ok 81 [.c (.u a.h), .c (.u b.h)] (.c (.b ov))) (c2 : Ok 78 [.ag [.u kv, .u km, .u (bmul a.l b.l), .u (bmul a.h b.h)]] (.tu [.ag p.cs, .c (.b i)])) :
  Ok 39 [.c (.i 4), .ag a.cs, .ag b.cs] (.ag p.cs) :=
 val_run2 [true, false, false, true, true] ([]) [] Tryz.func39 rfl rfl rfl rfl (by kernel_rfl) h (cr_cons c0 (cr_cons c1 (cr_cons c2 cr_nil)))
theorem refTwo4_w1 (h : (!!ov && true) = true) (c0 : Ok 80 [.c (.i 4), .ag [.u a.v, .u a.m], .ag [.u b.v, .u b.m]] (.ag [.u kv, .u km])) (c1 : Ok 81 [.c (.u a.h), .c (.u b.h)] (.c (.b ov))) (c2 : Ok 78 [.ag [.u kv, .u km, .u 0#64, .u 18446744073709551615#64]] (.tu [.ag p.cs, .c (.b i)])) :
  Ok 39 [.c (.i 4), .ag a.cs, .ag b.cs] (.ag p.cs) :=
 val_run2 [true, false, false, true, false] ([]) [] Tryz.func39 rfl rfl rfl rfl (by kernel_rfl) h (cr_cons c0 (cr_cons c1 (cr_cons c2 cr_nil)))
theorem refTwo8n_w0 (h : (!al && true) = true) (c0 : Ok 59 [.ag b.cs] (.c (.b al))) (c1 : Ok 78 [.ag [.u 0#64, .u 18446744073709551615#64, .u 0#64, .u 18446744073709551615#64]] (.tu [.ag p.cs, .c (.b i)])) :
  Ok 39 [.c (.i 8), .ag a.cs, .ag b.cs] (.ag p.cs) :=
 val_run2 [false, false, false, false, false, false, true, false] ([]) [] Tryz.func39 rfl rfl rfl rfl (by kernel_rfl) h (cr_cons c0 (cr_cons c1 cr_nil))
theorem refTwo8y_w0 (h : (al && (decide (0 ≤ IntKind.i64.wrap (nv (band b.l 63#64))) && decide (IntKind.i64.wrap (nv (band b.l 63#64)) ≤ 64) && (decide (0 ≤ IntKind.i64.wrap (nv (band b.l 63#64))) && decide (IntKind.i64.wrap (nv (band b.l 63#64)) ≤ 64) && (eqb (bshr (bshl a.h (IntKind.i64.wrap (nv (band b.l 63#64))).toNat) (IntKind.i64.wrap (nv (band b.l 63#64))).toNat) a.h && (decide (0 ≤ IntKind.i64.wrap (nv (band b.l 63#64))) && decide (IntKind.i64.wrap (nv (band b.l 63#64)) ≤ 64) && (decide (0 ≤ IntKind.i64.wrap (nv (band b.l 63#64))) && decide (IntKind.i64.wrap (nv (band b.l 63#64)) ≤ 64) && true)))))) = true) (c0 : Ok 59 [.ag b.cs] (.c (.b al))) (c1 : Ok 82 [.c (.i 8), .ag [.u a.v, .u a.m], .c (.i (IntKind.i64.wrap (nv (band b.l 63#64))))] (.ag [.u kv, .u km])) (c2 : Ok 78 [.ag [.u kv, .u km, .u (bshl a.l (IntKind.i64.wrap (nv (band b.l 63#64))).toNat), .u (bshl a.h (IntKind.i64.wrap (nv (band b.l 63#64))).toNat)]] (.tu [.ag p.cs, .c (.b i)])) :
  Ok 39 [.c (.i 8), .ag a.cs, .ag b.cs] (.ag p.cs) :=
 val_run2 [false, false, false, false, false, false, true, true, true] ([]) [] Tryz.func39 rfl rfl rfl rfl (by kernel_rfl) h (cr_cons c0 (cr_cons c1 (cr_cons c2 cr_nil)))
theorem refTwo8y_w1 (h : (al && (decide (0 ≤ IntKind.i64.wrap (nv (band b.l 63#64))) && decide (IntKind.i64.wrap (nv (band b.l 63#64)) ≤ 64) && (decide (0 ≤ IntKind.i64.wrap (nv (band b.l 63#64))) && decide (IntKind.i64.wrap (nv (band b.l 63#64)) ≤ 64) && (!eqb (bshr (bshl a.h (IntKind.i64.wrap (nv (band b.l 63#64))).toNat) (IntKind.i64.wrap (nv (band b.l 63#64))).toNat) a.h && true)))) = true) (c0 : Ok 59 [.ag b.cs] (.c (.b al))) (c1 : Ok 82 [.c (.i 8), .ag [.u a.v, .u a.m], .c (.i (IntKind.i64.wrap (nv (band b.l 63#64))))] (.ag [.u kv, .u km])) (c2 : Ok 78 [.ag [.u kv, .u km, .u 0#64, .u 18446744073709551615#64]] (.tu [.ag p.cs, .c (.b i)])) :
  Ok 39 [.c (.i 8), .ag a.cs, .ag b.cs] (.ag p.cs) :=
 val_run2 [false, false, false, false, false, false, true, true, false] ([]) [] Tryz.func39 rfl rfl rfl rfl (by kernel_rfl) h (cr_cons c0 (cr_cons c1 (cr_cons c2 cr_nil)))
theorem refTwo9n_w0 (h : (!al && true) = true) (c0 : Ok 59 [.ag b.cs] (.c (.b al))) (c1 : Ok 78 [.ag [.u 0#64, .u 18446744073709551615#64, .u 0#64, .u a.h]] (.tu [.ag p.cs, .c (.b i)])) :
  Ok 39 [.c (.i 9), .ag a.cs, .ag b.cs] (.ag p.cs) :=
 val_run2 [false, false, false, false, false, false, false, true, false] ([]) [] Tryz.func39 rfl rfl rfl rfl (by kernel_rfl) h (cr_cons c0 (cr_cons c1 cr_nil))
theorem refTwo9y_w0 (h : (al && (decide (0 ≤ IntKind.i64.wrap (nv (band b.l 63#64))) && decide (IntKind.i64.wrap (nv (band b.l 63#64)) ≤ 64) && (decide (0 ≤ IntKind.i64.wrap (nv (band b.l 63#64))) && decide (IntKind.i64.wrap (nv (band b.l 63#64)) ≤ 64) && true))) = true) (c0 : Ok 59 [.ag b.cs] (.c (.b al))) (c1 : Ok 82 [.c (.i 9), .ag [.u a.v, .u a.m], .c (.i (IntKind.i64.wrap (nv (band b.l 63#64))))] (.ag [.u kv, .u km])) (c2 : Ok 78 [.ag [.u kv, .u km, .u (bshr a.l (IntKind.i64.wrap (nv (band b.l 63#64))).toNat), .u (bshr a.h (IntKind.i64.wrap (nv (band b.l 63#64))).toNat)]] (.tu [.ag p.cs, .c (.b i)])) :
  Ok 39 [.c (.i 9), .ag a.cs, .ag b.cs] (.ag p.cs) :=
 val_run2 [false, false, false, false, false, false, false, true, true] ([]) [] Tryz.func39 rfl rfl rfl rfl (by kernel_rfl) h (cr_cons c0 (cr_cons c1 (cr_cons c2 cr_nil)))
end
section
attribute [local go_sem] w_and w_or w_xor w_andNot w_and1 w_and63 w_add w_sub w_mul w_sub1 w_add1 w_shl w_shl1 w_shr c_beq c_bne c_beq0 c_bne0 c_beq1 c_bne1 wrap_nv
abbrev PT (b : Nat) : Value := .pointer (some ⟨b, 0, none⟩)
/- what is left of both -/
def lv (p : Bool) (a : Value) : Value := if p then a else V0
set_option maxRecDepth 100000 in
set_option maxHeartbeats 4000000 in
theorem leave_Equal {p1 p2 : Value} {v m l g v' m' l' g' a b c d a' b' c' d' x y z t x' y' z' t' : BitVec 64} {may i1 i2 : Bool} {e1 e2 : Int} (hr : Hid ((valB v m l g && valB v' m' l' g') = true)) (w : World)
  (HR : Hid (∀ w', Below w.heap.size w w' → Calls Tryz.prog 106 #[p1, p2] w' fun e w'' => e = .returned (.tuple #[Vl a b c d, Vl a' b' c' d', .bool may]) ∧ Below w'.heap.size w' w''))
  (N1 : Hid (∀ w, Calls Tryz.prog 113 #[Vl a b c d] w fun e w' => e = .returned (.tuple #[Vl x y z t, .bool i1, N e1]) ∧ Below w.heap.size w w'))
  (N2 : Hid (∀ w, Calls Tryz.prog 113 #[Vl a' b' c' d'] w fun e w' => e = .returned (.tuple #[Vl x' y' z' t', .bool i2, N e2]) ∧ Below w.heap.size w w')) :
  Calls Tryz.prog 102 #[Vl v m l g, Vl v' m' l' g', .func (.func 106) #[] #[p1, p2]] w fun e w' => e = .returned (.tuple #[lv (may && (i1 && i2)) (Vl x y z t), lv (may && (i1 && i2)) (Vl x' y' z' t'), .bool (may && (i1 && i2)), N 0]) ∧ Below w.heap.size w w' := by
 obtain ⟨z1, H1⟩ : ∃ b, Hid (valB v m l g = b) := ⟨_, rfl⟩
 obtain ⟨z2, H2⟩ : ∃ b, Hid (valB v' m' l' g' = b) := ⟨_, rfl⟩
 rw [H1.out, H2.out] at hr
 obtain ⟨q, hq⟩ : ∃ q, Hid (q = (may && (i1 && i2))) := ⟨_, rfl⟩
 rw [← hq.out]
 go_enter Tryz.func102, Tryz.ntmps102
 go_wp2_with fail
 refine (vcheck2 H1 H2 (by simp) (by simp [go_sem]) (by simp [go_sem]) (by simp [go_sem]) (by simp [go_sem]) (by simp [go_sem]) (by simp [go_sem]) (by simp [go_sem]) (by simp [go_sem])).mono ?_
 rw [hr.out, er_t]
 rintro e w1 ⟨rfl, hb1⟩
 have hK := ((((((Kp.start w).add4 _ _ _ _ _).add4 _ _ _ _ _).add4 _ _ _ _ _).add4 _ _ _ _ _).keep ((Below.refl _ _).alloc (Nat.le_refl _) _)).keep hb1
 simp only [World.size_alloc] at hK
 clear hb1
 go_wp2_with fail
 refine (HR.out _ hK.bel).mono ?_
 rintro e w2 ⟨rfl, hb2⟩
 have hK2 := hK.keep hb2
 have hK3 := (hK2.set4 (x := U a) (y := U b) (z := U c) (t := U d) 3 rfl).set4 (x := U a') (y := U b') (z := U c') (t := U d') 2 rfl
 obtain ⟨s0, s1, s2, s3, s4, s5, s6, s7, s8⟩ := hK2.box.head.four
 obtain ⟨r0, r1, r2, r3, r4, r5, r6, r7, r8⟩ := hK2.box.tail.head.four
 obtain ⟨b0, b1, b2, b3, b4, b5, b6, b7, b8⟩ := hK2.box.tail.tail.head.four
 obtain ⟨a0, a1, a2, a3, a4, a5, a6, a7, a8⟩ := hK2.box.tail.tail.tail.head.four
 clear hb2 hK
 go_wp2_with fail
 refine (N1.out _).mono ?_
 rintro e w3 ⟨rfl, hb3⟩
 have hK4 := hK3.keep hb3
 have hK5 := hK4.set4 (x := U x) (y := U y) (z := U z) (t := U t) 3 rfl
 clear s0 s1 s2 s3 s4 s5 s6 s7 s8 r0 r1 r2 r3 r4 r5 r6 r7 r8 b0 b1 b2 b3 b4 b5 b6 b7 b8 a0 a1 a2 a3 a4 a5 a6 a7 a8
 obtain ⟨s0, s1, s2, s3, s4, s5, s6, s7, s8⟩ := hK4.box.head.four
 obtain ⟨r0, r1, r2, r3, r4, r5, r6, r7, r8⟩ := hK4.box.tail.head.four
 obtain ⟨b0, b1, b2, b3, b4, b5, b6, b7, b8⟩ := hK4.box.tail.tail.head.four
 obtain ⟨a0, a1, a2, a3, a4, a5, a6, a7, a8⟩ := hK4.box.tail.tail.tail.head.four
 clear hb3 hK2 hK3
 go_wp2_with fail
 refine (N2.out _).mono ?_
 rintro e w4 ⟨rfl, hb4⟩
 have hK6 := hK5.keep hb4
 have hK7 := hK6.set4 (x := U x') (y := U y') (z := U z') (t := U t') 2 rfl
 clear s0 s1 s2 s3 s4 s5 s6 s7 s8 r0 r1 r2 r3 r4 r5 r6 r7 r8 b0 b1 b2 b3 b4 b5 b6 b7 b8 a0 a1 a2 a3 a4 a5 a6 a7 a8
 obtain ⟨s0, s1, s2, s3, s4, s5, s6, s7, s8⟩ := hK6.box.head.four
 obtain ⟨r0, r1, r2, r3, r4, r5, r6, r7, r8⟩ := hK6.box.tail.head.four
 obtain ⟨b0, b1, b2, b3, b4, b5, b6, b7, b8⟩ := hK6.box.tail.tail.head.four
 obtain ⟨a0, a1, a2, a3, a4, a5, a6, a7, a8⟩ := hK6.box.tail.tail.tail.head.four
 clear hb4 hK4 hK5
 go_upto_region 7 with fail
 clear s0 s1 s2 s3 s4 s5 s6 s7 s8 r0 r1 r2 r3 r4 r5 r6 r7 r8 b0 b1 b2 b3 b4 b5 b6 b7 b8 a0 a1 a2 a3 a4 a5 a6 a7 a8
 clear hK6
 go_cut [52] (fun u wc => u = .bool (!q) ∧ Kp w wc [(w.heap.size + 1 + 1 + 1, [.int .u64 0, .int .u64 0, .int .u64 0, .int .u64 0]), (w.heap.size + 1 + 1, [.int .u64 0, .int .u64 0, .int .u64 0, .int .u64 0]), (w.heap.size + 1, [U x', U y', U z', U t']), (w.heap.size, [U x, U y, U z, U t])])
 case first =>
  cases may
  ·go_wp2_with fail
   go_meet
   case rel => exact ⟨by rw [hq.out]; rfl, hK7⟩
  ·cases i1
   ·go_wp2_with fail
    go_meet
    case rel => exact ⟨by rw [hq.out]; rfl, hK7⟩
   ·cases i2
    all_goals
     go_wp2_with fail
     go_meet
     case rel => exact ⟨by rw [hq.out]; rfl, hK7⟩
 case rest =>
  clear hK7 hq
  obtain ⟨rfl, hK8⟩ := hcut
  obtain ⟨s0, s1, s2, s3, s4, s5, s6, s7, s8⟩ := hK8.box.head.four
  obtain ⟨r0, r1, r2, r3, r4, r5, r6, r7, r8⟩ := hK8.box.tail.head.four
  obtain ⟨b0, b1, b2, b3, b4, b5, b6, b7, b8⟩ := hK8.box.tail.tail.head.four
  obtain ⟨a0, a1, a2, a3, a4, a5, a6, a7, a8⟩ := hK8.box.tail.tail.tail.head.four
  cases q
  ·go_wp2_with fail
   exact bodyPost_ret (v := .tuple #[V0, V0, .bool false, N 0]) (by simp [results, Tryz.results102, go_sem, nv_zero, s0, s1, s2, s3, r0, r1, r2, r3]) rfl ⟨rfl, ((hK8.set4 1 rfl).set4 0 rfl).bel⟩
  ·go_wp2_with fail
   go_region
   all_goals
    go_wp2_with fail
    exact bodyPost_ret (v := .tuple #[Vl x y z t, Vl x' y' z' t', .bool true, N 0]) (by simp [results, Tryz.results102, go_sem, s0, s1, s2, s3, r0, r1, r2, r3]) rfl ⟨rfl, Below.drew ((hK8.set4 1 rfl).set4 0 rfl).bel⟩
set_option maxRecDepth 100000 in
set_option maxHeartbeats 4000000 in
theorem leave_Other {p1 p2 : Value} {v m l g v' m' l' g' a b c d a' b' c' d' x y z t x' y' z' t' : BitVec 64} {may i1 i2 : Bool} {e1 e2 : Int} (hr : Hid ((valB v m l g && valB v' m' l' g') = true)) (w : World)
  (HR : Hid (∀ w', Below w.heap.size w w' → Calls Tryz.prog 103 #[p1, p2] w' fun e w'' => e = .returned (.tuple #[Vl a b c d, Vl a' b' c' d', .bool may]) ∧ Below w'.heap.size w' w''))
  (N1 : Hid (∀ w, Calls Tryz.prog 113 #[Vl a b c d] w fun e w' => e = .returned (.tuple #[Vl x y z t, .bool i1, N e1]) ∧ Below w.heap.size w w'))
  (N2 : Hid (∀ w, Calls Tryz.prog 113 #[Vl a' b' c' d'] w fun e w' => e = .returned (.tuple #[Vl x' y' z' t', .bool i2, N e2]) ∧ Below w.heap.size w w')) :
  Calls Tryz.prog 102 #[Vl v m l g, Vl v' m' l' g', .func (.func 103) #[] #[p1, p2]] w fun e w' => e = .returned (.tuple #[lv (may && (i1 && i2)) (Vl x y z t), lv (may && (i1 && i2)) (Vl x' y' z' t'), .bool (may && (i1 && i2)), N 0]) ∧ Below w.heap.size w w' := by
 obtain ⟨z1, H1⟩ : ∃ b, Hid (valB v m l g = b) := ⟨_, rfl⟩
 obtain ⟨z2, H2⟩ : ∃ b, Hid (valB v' m' l' g' = b) := ⟨_, rfl⟩
 rw [H1.out, H2.out] at hr
 obtain ⟨q, hq⟩ : ∃ q, Hid (q = (may && (i1 && i2))) := ⟨_, rfl⟩
 rw [← hq.out]
 go_enter Tryz.func102, Tryz.ntmps102
 go_wp2_with fail
 refine (vcheck2 H1 H2 (by simp) (by simp [go_sem]) (by simp [go_sem]) (by simp [go_sem]) (by simp [go_sem]) (by simp [go_sem]) (by simp [go_sem]) (by simp [go_sem]) (by simp [go_sem])).mono ?_
 rw [hr.out, er_t]
 rintro e w1 ⟨rfl, hb1⟩
 have hK := ((((((Kp.start w).add4 _ _ _ _ _).add4 _ _ _ _ _).add4 _ _ _ _ _).add4 _ _ _ _ _).keep ((Below.refl _ _).alloc (Nat.le_refl _) _)).keep hb1
 simp only [World.size_alloc] at hK
 clear hb1
 go_wp2_with fail
 refine (HR.out _ hK.bel).mono ?_
 rintro e w2 ⟨rfl, hb2⟩
 have hK2 := hK.keep hb2
 have hK3 := (hK2.set4 (x := U a) (y := U b) (z := U c) (t := U d) 3 rfl).set4 (x := U a') (y := U b') (z := U c') (t := U d') 2 rfl
 obtain ⟨s0, s1, s2, s3, s4, s5, s6, s7, s8⟩ := hK2.box.head.four
 obtain ⟨r0, r1, r2, r3, r4, r5, r6, r7, r8⟩ := hK2.box.tail.head.four
 obtain ⟨b0, b1, b2, b3, b4, b5, b6, b7, b8⟩ := hK2.box.tail.tail.head.four
 obtain ⟨a0, a1, a2, a3, a4, a5, a6, a7, a8⟩ := hK2.box.tail.tail.tail.head.four
 clear hb2 hK
 go_wp2_with fail
 refine (N1.out _).mono ?_
 rintro e w3 ⟨rfl, hb3⟩
 have hK4 := hK3.keep hb3
 have hK5 := hK4.set4 (x := U x) (y := U y) (z := U z) (t := U t) 3 rfl
 clear s0 s1 s2 s3 s4 s5 s6 s7 s8 r0 r1 r2 r3 r4 r5 r6 r7 r8 b0 b1 b2 b3 b4 b5 b6 b7 b8 a0 a1 a2 a3 a4 a5 a6 a7 a8
 obtain ⟨s0, s1, s2, s3, s4, s5, s6, s7, s8⟩ := hK4.box.head.four
 obtain ⟨r0, r1, r2, r3, r4, r5, r6, r7, r8⟩ := hK4.box.tail.head.four
 obtain ⟨b0, b1, b2, b3, b4, b5, b6, b7, b8⟩ := hK4.box.tail.tail.head.four
 obtain ⟨a0, a1, a2, a3, a4, a5, a6, a7, a8⟩ := hK4.box.tail.tail.tail.head.four
 clear hb3 hK2 hK3
 go_wp2_with fail
 refine (N2.out _).mono ?_
 rintro e w4 ⟨rfl, hb4⟩
 have hK6 := hK5.keep hb4
 have hK7 := hK6.set4 (x := U x') (y := U y') (z := U z') (t := U t') 2 rfl
 clear s0 s1 s2 s3 s4 s5 s6 s7 s8 r0 r1 r2 r3 r4 r5 r6 r7 r8 b0 b1 b2 b3 b4 b5 b6 b7 b8 a0 a1 a2 a3 a4 a5 a6 a7 a8
 obtain ⟨s0, s1, s2, s3, s4, s5, s6, s7, s8⟩ := hK6.box.head.four
 obtain ⟨r0, r1, r2, r3, r4, r5, r6, r7, r8⟩ := hK6.box.tail.head.four
 obtain ⟨b0, b1, b2, b3, b4, b5, b6, b7, b8⟩ := hK6.box.tail.tail.head.four
 obtain ⟨a0, a1, a2, a3, a4, a5, a6, a7, a8⟩ := hK6.box.tail.tail.tail.head.four
 clear hb4 hK4 hK5
 go_upto_region 7 with fail
 clear s0 s1 s2 s3 s4 s5 s6 s7 s8 r0 r1 r2 r3 r4 r5 r6 r7 r8 b0 b1 b2 b3 b4 b5 b6 b7 b8 a0 a1 a2 a3 a4 a5 a6 a7 a8
 clear hK6
 go_cut [52] (fun u wc => u = .bool (!q) ∧ Kp w wc [(w.heap.size + 1 + 1 + 1, [.int .u64 0, .int .u64 0, .int .u64 0, .int .u64 0]), (w.heap.size + 1 + 1, [.int .u64 0, .int .u64 0, .int .u64 0, .int .u64 0]), (w.heap.size + 1, [U x', U y', U z', U t']), (w.heap.size, [U x, U y, U z, U t])])
 case first =>
  cases may
  ·go_wp2_with fail
   go_meet
   case rel => exact ⟨by rw [hq.out]; rfl, hK7⟩
  ·cases i1
   ·go_wp2_with fail
    go_meet
    case rel => exact ⟨by rw [hq.out]; rfl, hK7⟩
   ·cases i2
    all_goals
     go_wp2_with fail
     go_meet
     case rel => exact ⟨by rw [hq.out]; rfl, hK7⟩
 case rest =>
  clear hK7 hq
  obtain ⟨rfl, hK8⟩ := hcut
  obtain ⟨s0, s1, s2, s3, s4, s5, s6, s7, s8⟩ := hK8.box.head.four
  obtain ⟨r0, r1, r2, r3, r4, r5, r6, r7, r8⟩ := hK8.box.tail.head.four
  obtain ⟨b0, b1, b2, b3, b4, b5, b6, b7, b8⟩ := hK8.box.tail.tail.head.four
  obtain ⟨a0, a1, a2, a3, a4, a5, a6, a7, a8⟩ := hK8.box.tail.tail.tail.head.four
  cases q
  ·go_wp2_with fail
   exact bodyPost_ret (v := .tuple #[V0, V0, .bool false, N 0]) (by simp [results, Tryz.results102, go_sem, nv_zero, s0, s1, s2, s3, r0, r1, r2, r3]) rfl ⟨rfl, ((hK8.set4 1 rfl).set4 0 rfl).bel⟩
  ·go_wp2_with fail
   go_region
   all_goals
    go_wp2_with fail
    exact bodyPost_ret (v := .tuple #[Vl x y z t, Vl x' y' z' t', .bool true, N 0]) (by simp [results, Tryz.results102, go_sem, s0, s1, s2, s3, r0, r1, r2, r3]) rfl ⟨rfl, Below.drew ((hK8.set4 1 rfl).set4 0 rfl).bel⟩
set_option maxRecDepth 100000 in
set_option maxHeartbeats 4000000 in
theorem leave_Less {p1 p2 : Value} {v m l g v' m' l' g' a b c d a' b' c' d' x y z t x' y' z' t' : BitVec 64} {may i1 i2 : Bool} {e1 e2 : Int} (hr : Hid ((valB v m l g && valB v' m' l' g') = true)) (w : World)
  (HR : Hid (∀ w', Below w.heap.size w w' → Calls Tryz.prog 110 #[p1, p2] w' fun e w'' => e = .returned (.tuple #[Vl a b c d, Vl a' b' c' d', .bool may]) ∧ Below w'.heap.size w' w''))
  (N1 : Hid (∀ w, Calls Tryz.prog 113 #[Vl a b c d] w fun e w' => e = .returned (.tuple #[Vl x y z t, .bool i1, N e1]) ∧ Below w.heap.size w w'))
  (N2 : Hid (∀ w, Calls Tryz.prog 113 #[Vl a' b' c' d'] w fun e w' => e = .returned (.tuple #[Vl x' y' z' t', .bool i2, N e2]) ∧ Below w.heap.size w w')) :
  Calls Tryz.prog 102 #[Vl v m l g, Vl v' m' l' g', .func (.func 110) #[] #[p1, p2]] w fun e w' => e = .returned (.tuple #[lv (may && (i1 && i2)) (Vl x y z t), lv (may && (i1 && i2)) (Vl x' y' z' t'), .bool (may && (i1 && i2)), N 0]) ∧ Below w.heap.size w w' := by
 obtain ⟨z1, H1⟩ : ∃ b, Hid (valB v m l g = b) := ⟨_, rfl⟩
 obtain ⟨z2, H2⟩ : ∃ b, Hid (valB v' m' l' g' = b) := ⟨_, rfl⟩
 rw [H1.out, H2.out] at hr
 obtain ⟨q, hq⟩ : ∃ q, Hid (q = (may && (i1 && i2))) := ⟨_, rfl⟩
 rw [← hq.out]
 go_enter Tryz.func102, Tryz.ntmps102
 go_wp2_with fail
 refine (vcheck2 H1 H2 (by simp) (by simp [go_sem]) (by simp [go_sem]) (by simp [go_sem]) (by simp [go_sem]) (by simp [go_sem]) (by simp [go_sem]) (by simp [go_sem]) (by simp [go_sem])).mono ?_
 rw [hr.out, er_t]
 rintro e w1 ⟨rfl, hb1⟩
 have hK := ((((((Kp.start w).add4 _ _ _ _ _).add4 _ _ _ _ _).add4 _ _ _ _ _).add4 _ _ _ _ _).keep ((Below.refl _ _).alloc (Nat.le_refl _) _)).keep hb1
 simp only [World.size_alloc] at hK
 clear hb1
 go_wp2_with fail
 refine (HR.out _ hK.bel).mono ?_
 rintro e w2 ⟨rfl, hb2⟩
 have hK2 := hK.keep hb2
 have hK3 := (hK2.set4 (x := U a) (y := U b) (z := U c) (t := U d) 3 rfl).set4 (x := U a') (y := U b') (z := U c') (t := U d') 2 rfl
 obtain ⟨s0, s1, s2, s3, s4, s5, s6, s7, s8⟩ := hK2.box.head.four
 obtain ⟨r0, r1, r2, r3, r4, r5, r6, r7, r8⟩ := hK2.box.tail.head.four
 obtain ⟨b0, b1, b2, b3, b4, b5, b6, b7, b8⟩ := hK2.box.tail.tail.head.four
 obtain ⟨a0, a1, a2, a3, a4, a5, a6, a7, a8⟩ := hK2.box.tail.tail.tail.head.four
 clear hb2 hK
 go_wp2_with fail
 refine (N1.out _).mono ?_
 rintro e w3 ⟨rfl, hb3⟩
 have hK4 := hK3.keep hb3
 have hK5 := hK4.set4 (x := U x) (y := U y) (z := U z) (t := U t) 3 rfl
 clear s0 s1 s2 s3 s4 s5 s6 s7 s8 r0 r1 r2 r3 r4 r5 r6 r7 r8 b0 b1 b2 b3 b4 b5 b6 b7 b8 a0 a1 a2 a3 a4 a5 a6 a7 a8
 obtain ⟨s0, s1, s2, s3, s4, s5, s6, s7, s8⟩ := hK4.box.head.four
 obtain ⟨r0, r1, r2, r3, r4, r5, r6, r7, r8⟩ := hK4.box.tail.head.four
 obtain ⟨b0, b1, b2, b3, b4, b5, b6, b7, b8⟩ := hK4.box.tail.tail.head.four
 obtain ⟨a0, a1, a2, a3, a4, a5, a6, a7, a8⟩ := hK4.box.tail.tail.tail.head.four
 clear hb3 hK2 hK3
 go_wp2_with fail
 refine (N2.out _).mono ?_
 rintro e w4 ⟨rfl, hb4⟩
 have hK6 := hK5.keep hb4
 have hK7 := hK6.set4 (x := U x') (y := U y') (z := U z') (t := U t') 2 rfl
 clear s0 s1 s2 s3 s4 s5 s6 s7 s8 r0 r1 r2 r3 r4 r5 r6 r7 r8 b0 b1 b2 b3 b4 b5 b6 b7 b8 a0 a1 a2 a3 a4 a5 a6 a7 a8
 obtain ⟨s0, s1, s2, s3, s4, s5, s6, s7, s8⟩ := hK6.box.head.four
 obtain ⟨r0, r1, r2, r3, r4, r5, r6, r7, r8⟩ := hK6.box.tail.head.four
 obtain ⟨b0, b1, b2, b3, b4, b5, b6, b7, b8⟩ := hK6.box.tail.tail.head.four
 obtain ⟨a0, a1, a2, a3, a4, a5, a6, a7, a8⟩ := hK6.box.tail.tail.tail.head.four
 clear hb4 hK4 hK5
 go_upto_region 7 with fail
 clear s0 s1 s2 s3 s4 s5 s6 s7 s8 r0 r1 r2 r3 r4 r5 r6 r7 r8 b0 b1 b2 b3 b4 b5 b6 b7 b8 a0 a1 a2 a3 a4 a5 a6 a7 a8
 clear hK6
 go_cut [52] (fun u wc => u = .bool (!q) ∧ Kp w wc [(w.heap.size + 1 + 1 + 1, [.int .u64 0, .int .u64 0, .int .u64 0, .int .u64 0]), (w.heap.size + 1 + 1, [.int .u64 0, .int .u64 0, .int .u64 0, .int .u64 0]), (w.heap.size + 1, [U x', U y', U z', U t']), (w.heap.size, [U x, U y, U z, U t])])
 case first =>
  cases may
  ·go_wp2_with fail
   go_meet
   case rel => exact ⟨by rw [hq.out]; rfl, hK7⟩
  ·cases i1
   ·go_wp2_with fail
    go_meet
    case rel => exact ⟨by rw [hq.out]; rfl, hK7⟩
   ·cases i2
    all_goals
     go_wp2_with fail
     go_meet
     case rel => exact ⟨by rw [hq.out]; rfl, hK7⟩
 case rest =>
  clear hK7 hq
  obtain ⟨rfl, hK8⟩ := hcut
  obtain ⟨s0, s1, s2, s3, s4, s5, s6, s7, s8⟩ := hK8.box.head.four
  obtain ⟨r0, r1, r2, r3, r4, r5, r6, r7, r8⟩ := hK8.box.tail.head.four
  obtain ⟨b0, b1, b2, b3, b4, b5, b6, b7, b8⟩ := hK8.box.tail.tail.head.four
  obtain ⟨a0, a1, a2, a3, a4, a5, a6, a7, a8⟩ := hK8.box.tail.tail.tail.head.four
  cases q
  ·go_wp2_with fail
   exact bodyPost_ret (v := .tuple #[V0, V0, .bool false, N 0]) (by simp [results, Tryz.results102, go_sem, nv_zero, s0, s1, s2, s3, r0, r1, r2, r3]) rfl ⟨rfl, ((hK8.set4 1 rfl).set4 0 rfl).bel⟩
  ·go_wp2_with fail
   go_region
   all_goals
    go_wp2_with fail
    exact bodyPost_ret (v := .tuple #[Vl x y z t, Vl x' y' z' t', .bool true, N 0]) (by simp [results, Tryz.results102, go_sem, s0, s1, s2, s3, r0, r1, r2, r3]) rfl ⟨rfl, Below.drew ((hK8.set4 1 rfl).set4 0 rfl).bel⟩
set_option maxRecDepth 100000 in
set_option maxHeartbeats 4000000 in
theorem leave_NotLess {p1 p2 : Value} {v m l g v' m' l' g' a b c d a' b' c' d' x y z t x' y' z' t' : BitVec 64} {may i1 i2 : Bool} {e1 e2 : Int} (hr : Hid ((valB v m l g && valB v' m' l' g') = true)) (w : World)
  (HR : Hid (∀ w', Below w.heap.size w w' → Calls Tryz.prog 108 #[p1, p2] w' fun e w'' => e = .returned (.tuple #[Vl a b c d, Vl a' b' c' d', .bool may]) ∧ Below w'.heap.size w' w''))
  (N1 : Hid (∀ w, Calls Tryz.prog 113 #[Vl a b c d] w fun e w' => e = .returned (.tuple #[Vl x y z t, .bool i1, N e1]) ∧ Below w.heap.size w w'))
  (N2 : Hid (∀ w, Calls Tryz.prog 113 #[Vl a' b' c' d'] w fun e w' => e = .returned (.tuple #[Vl x' y' z' t', .bool i2, N e2]) ∧ Below w.heap.size w w')) :
  Calls Tryz.prog 102 #[Vl v m l g, Vl v' m' l' g', .func (.func 108) #[] #[p1, p2]] w fun e w' => e = .returned (.tuple #[lv (may && (i1 && i2)) (Vl x y z t), lv (may && (i1 && i2)) (Vl x' y' z' t'), .bool (may && (i1 && i2)), N 0]) ∧ Below w.heap.size w w' := by
 obtain ⟨z1, H1⟩ : ∃ b, Hid (valB v m l g = b) := ⟨_, rfl⟩
 obtain ⟨z2, H2⟩ : ∃ b, Hid (valB v' m' l' g' = b) := ⟨_, rfl⟩
 rw [H1.out, H2.out] at hr
 obtain ⟨q, hq⟩ : ∃ q, Hid (q = (may && (i1 && i2))) := ⟨_, rfl⟩
 rw [← hq.out]
 go_enter Tryz.func102, Tryz.ntmps102
 go_wp2_with fail
 refine (vcheck2 H1 H2 (by simp) (by simp [go_sem]) (by simp [go_sem]) (by simp [go_sem]) (by simp [go_sem]) (by simp [go_sem]) (by simp [go_sem]) (by simp [go_sem]) (by simp [go_sem])).mono ?_
 rw [hr.out, er_t]
 rintro e w1 ⟨rfl, hb1⟩
 have hK := ((((((Kp.start w).add4 _ _ _ _ _).add4 _ _ _ _ _).add4 _ _ _ _ _).add4 _ _ _ _ _).keep ((Below.refl _ _).alloc (Nat.le_refl _) _)).keep hb1
 simp only [World.size_alloc] at hK
 clear hb1
 go_wp2_with fail
 refine (HR.out _ hK.bel).mono ?_
 rintro e w2 ⟨rfl, hb2⟩
 have hK2 := hK.keep hb2
 have hK3 := (hK2.set4 (x := U a) (y := U b) (z := U c) (t := U d) 3 rfl).set4 (x := U a') (y := U b') (z := U c') (t := U d') 2 rfl
 obtain ⟨s0, s1, s2, s3, s4, s5, s6, s7, s8⟩ := hK2.box.head.four
 obtain ⟨r0, r1, r2, r3, r4, r5, r6, r7, r8⟩ := hK2.box.tail.head.four
 obtain ⟨b0, b1, b2, b3, b4, b5, b6, b7, b8⟩ := hK2.box.tail.tail.head.four
 obtain ⟨a0, a1, a2, a3, a4, a5, a6, a7, a8⟩ := hK2.box.tail.tail.tail.head.four
 clear hb2 hK
 go_wp2_with fail
 refine (N1.out _).mono ?_
 rintro e w3 ⟨rfl, hb3⟩
 have hK4 := hK3.keep hb3
 have hK5 := hK4.set4 (x := U x) (y := U y) (z := U z) (t := U t) 3 rfl
 clear s0 s1 s2 s3 s4 s5 s6 s7 s8 r0 r1 r2 r3 r4 r5 r6 r7 r8 b0 b1 b2 b3 b4 b5 b6 b7 b8 a0 a1 a2 a3 a4 a5 a6 a7 a8
 obtain ⟨s0, s1, s2, s3, s4, s5, s6, s7, s8⟩ := hK4.box.head.four
 obtain ⟨r0, r1, r2, r3, r4, r5, r6, r7, r8⟩ := hK4.box.tail.head.four
 obtain ⟨b0, b1, b2, b3, b4, b5, b6, b7, b8⟩ := hK4.box.tail.tail.head.four
 obtain ⟨a0, a1, a2, a3, a4, a5, a6, a7, a8⟩ := hK4.box.tail.tail.tail.head.four
 clear hb3 hK2 hK3
 go_wp2_with fail
 refine (N2.out _).mono ?_
 rintro e w4 ⟨rfl, hb4⟩
 have hK6 := hK5.keep hb4
 have hK7 := hK6.set4 (x := U x') (y := U y') (z := U z') (t := U t') 2 rfl
 clear s0 s1 s2 s3 s4 s5 s6 s7 s8 r0 r1 r2 r3 r4 r5 r6 r7 r8 b0 b1 b2 b3 b4 b5 b6 b7 b8 a0 a1 a2 a3 a4 a5 a6 a7 a8
 obtain ⟨s0, s1, s2, s3, s4, s5, s6, s7, s8⟩ := hK6.box.head.four
 obtain ⟨r0, r1, r2, r3, r4, r5, r6, r7, r8⟩ := hK6.box.tail.head.four
 obtain ⟨b0, b1, b2, b3, b4, b5, b6, b7, b8⟩ := hK6.box.tail.tail.head.four
 obtain ⟨a0, a1, a2, a3, a4, a5, a6, a7, a8⟩ := hK6.box.tail.tail.tail.head.four
 clear hb4 hK4 hK5
 go_upto_region 7 with fail
 clear s0 s1 s2 s3 s4 s5 s6 s7 s8 r0 r1 r2 r3 r4 r5 r6 r7 r8 b0 b1 b2 b3 b4 b5 b6 b7 b8 a0 a1 a2 a3 a4 a5 a6 a7 a8
 clear hK6
 go_cut [52] (fun u wc => u = .bool (!q) ∧ Kp w wc [(w.heap.size + 1 + 1 + 1, [.int .u64 0, .int .u64 0, .int .u64 0, .int .u64 0]), (w.heap.size + 1 + 1, [.int .u64 0, .int .u64 0, .int .u64 0, .int .u64 0]), (w.heap.size + 1, [U x', U y', U z', U t']), (w.heap.size, [U x, U y, U z, U t])])
 case first =>
  cases may
  ·go_wp2_with fail
   go_meet
   case rel => exact ⟨by rw [hq.out]; rfl, hK7⟩
  ·cases i1
   ·go_wp2_with fail
    go_meet
    case rel => exact ⟨by rw [hq.out]; rfl, hK7⟩
   ·cases i2
    all_goals
     go_wp2_with fail
     go_meet
     case rel => exact ⟨by rw [hq.out]; rfl, hK7⟩
 case rest =>
  clear hK7 hq
  obtain ⟨rfl, hK8⟩ := hcut
  obtain ⟨s0, s1, s2, s3, s4, s5, s6, s7, s8⟩ := hK8.box.head.four
  obtain ⟨r0, r1, r2, r3, r4, r5, r6, r7, r8⟩ := hK8.box.tail.head.four
  obtain ⟨b0, b1, b2, b3, b4, b5, b6, b7, b8⟩ := hK8.box.tail.tail.head.four
  obtain ⟨a0, a1, a2, a3, a4, a5, a6, a7, a8⟩ := hK8.box.tail.tail.tail.head.four
  cases q
  ·go_wp2_with fail
   exact bodyPost_ret (v := .tuple #[V0, V0, .bool false, N 0]) (by simp [results, Tryz.results102, go_sem, nv_zero, s0, s1, s2, s3, r0, r1, r2, r3]) rfl ⟨rfl, ((hK8.set4 1 rfl).set4 0 rfl).bel⟩
  ·go_wp2_with fail
   go_region
   all_goals
    go_wp2_with fail
    exact bodyPost_ret (v := .tuple #[Vl x y z t, Vl x' y' z' t', .bool true, N 0]) (by simp [results, Tryz.results102, go_sem, s0, s1, s2, s3, r0, r1, r2, r3]) rfl ⟨rfl, Below.drew ((hK8.set4 1 rfl).set4 0 rfl).bel⟩
end
section
attribute [local go_sem] w_and w_or w_xor w_andNot w_and1 w_and63 w_add w_sub w_mul w_sub1 w_add1 w_shl w_shl1 w_shr c_beq c_bne c_beq0 c_bne0 c_beq1 c_bne1 wrap_nv
theorem Kp.drop' {w0 w : World} {p : Nat × List Value} {L : List (Nat × List Value)} (h : Kp w0 w (p :: L)) : Kp w0 w L := ⟨h.bel, h.box.tail, fun q hq => h.lo q (List.mem_cons_of_mem _ hq)⟩
theorem Kp.other1 {w0 w : World} {L : List (Nat × List Value)} (h : Kp w0 w L) {b i : Nat} (v : Value) (hlo : w0.heap.size ≤ b) (hne : ∀ p, p ∈ L → p.1 ≠ b) : Kp w0 (w.setCell ⟨b, i, none⟩ v) L :=
 ⟨h.bel.setCell hlo v, h.box.other hne, h.lo⟩
theorem Kp.other4 {w0 w : World} {L : List (Nat × List Value)} (h : Kp w0 w L) {b : Nat} (x y z t : Value) (hlo : w0.heap.size ≤ b) (hne : ∀ p, p ∈ L → p.1 ≠ b) :
  Kp w0 ((((w.setCell ⟨b, 0, none⟩ x).setCell ⟨b, 1, none⟩ y).setCell ⟨b, 2, none⟩ z).setCell ⟨b, 3, none⟩ t) L :=
 (((h.other1 x hlo hne).other1 y hlo hne).other1 z hlo hne).other1 t hlo hne
end
section
attribute [local go_sem] w_and w_or w_xor w_andNot w_and1 w_and63 w_add w_sub w_mul w_sub1 w_add1 w_shl w_shl1 w_shr c_beq c_bne c_beq0 c_bne0 c_beq1 c_bne1 wrap_nv
/- the two that are captured -/
def Cap (w : World) (b1 b2 : Nat) (v m l g v' m' l' g' : BitVec 64) : Prop :=
 b1 < w.heap.size ∧ b2 < w.heap.size ∧ w.cell? ⟨b1, 0, none⟩ = some (U v) ∧ w.cell? ⟨b1, 1, none⟩ = some (U m) ∧ w.cell? ⟨b1, 2, none⟩ = some (U l) ∧ w.cell? ⟨b1, 3, none⟩ = some (U g)
 ∧ w.cell? ⟨b2, 0, none⟩ = some (U v') ∧ w.cell? ⟨b2, 1, none⟩ = some (U m') ∧ w.cell? ⟨b2, 2, none⟩ = some (U l') ∧ w.cell? ⟨b2, 3, none⟩ = some (U g')
theorem Cap.keep {w w' : World} {b1 b2 : Nat} {v m l g v' m' l' g' : BitVec 64} (h : Cap w b1 b2 v m l g v' m' l' g') (hb : Below w.heap.size w w') : Cap w' b1 b2 v m l g v' m' l' g' := by
 obtain ⟨s1, s2, a0, a1, a2, a3, c0, c1, c2, c3⟩ := h
 exact ⟨Nat.lt_of_lt_of_le s1 hb.size, Nat.lt_of_lt_of_le s2 hb.size, (hb.cell (p := ⟨b1, 0, none⟩) s1).trans a0, (hb.cell (p := ⟨b1, 1, none⟩) s1).trans a1, (hb.cell (p := ⟨b1, 2, none⟩) s1).trans a2, (hb.cell (p := ⟨b1, 3, none⟩) s1).trans a3,
  (hb.cell (p := ⟨b2, 0, none⟩) s2).trans c0, (hb.cell (p := ⟨b2, 1, none⟩) s2).trans c1, (hb.cell (p := ⟨b2, 2, none⟩) s2).trans c2, (hb.cell (p := ⟨b2, 3, none⟩) s2).trans c3⟩
set_option maxRecDepth 100000 in
set_option maxHeartbeats 4000000 in
theorem equal1_is {b1 b2 : Nat} {v m l g v' m' l' g' kv km lo hi : BitVec 64} {may : Bool} {w : World} (hc : Hid (Cap w b1 b2 v m l g v' m' l' g'))
  (HM : Hid (∀ w, Calls Tryz.prog 107 #[Bt v m, Bt v' m'] w fun e w' => e = .returned (.tuple #[Bt kv km, .bool may, N 0]) ∧ Below w.heap.size w w'))
  (m1 : Hid (bmax l l' = lo)) (m2 : Hid (bmin g g' = hi)) :
  Calls Tryz.prog 106 #[PT b1, PT b2] w fun e w' => e = .returned (.tuple #[Vl kv km lo hi, Vl kv km lo hi, .bool may]) ∧ Below w.heap.size w w' := by
 have e1 : (if nv l < nv l' then nv l' else nv l) = nv lo := by rw [← m1.out]; unfold bmax; split <;> rfl
 have e2 : (if nv g' < nv g then nv g' else nv g) = nv hi := by rw [← m2.out]; unfold bmin; split <;> rfl
 obtain ⟨s1, s2, a0, a1, a2, a3, c0, c1, c2, c3⟩ := hc.out
 go_enter Tryz.func106, Tryz.ntmps106
 go_wp2_with fail
 refine (HM.out _).mono ?_
 rintro e w1 ⟨rfl, hb1⟩
 have hK := (((Kp.start w).add4 _ _ _ _ _).add4 _ _ _ _ _).keep hb1
 simp only [World.size_alloc] at hK
 have hcc := hc.out.keep hK.bel
 clear s1 s2 a0 a1 a2 a3 c0 c1 c2 c3
 obtain ⟨s1, s2, a0, a1, a2, a3, c0, c1, c2, c3⟩ := hcc
 obtain ⟨t0, t1, t2, t3, t4, t5, t6, t7, t8⟩ := hK.box.head.four
 obtain ⟨r0, r1, r2, r3, r4, r5, r6, r7, r8⟩ := hK.box.tail.head.four
 go_wp2_with fail
 have hK2 := (hK.add2 (U kv) (U km) 27).add4 (U kv) (U km) (U lo) (U hi) 29
 simp only [World.size_alloc] at hK2
 have n1 : w.heap.size ≠ w1.heap.size + 1 := by omega
 have n2 : w1.heap.size + 1 ≠ w.heap.size := by omega
 have n3 : w.heap.size ≠ w1.heap.size := by omega
 have n4 : w1.heap.size ≠ w.heap.size := by omega
 have n5 : w.heap.size + 1 ≠ w1.heap.size := by omega
 have n6 : w1.heap.size ≠ w.heap.size + 1 := by omega
 clear t0 t1 t2 t3 t4 t5 t6 t7 t8 r0 r1 r2 r3 r4 r5 r6 r7 r8
 obtain ⟨k0, k1, k2, k3, k4, k5, k6, k7, k8⟩ := hK2.box.head.four
 obtain ⟨t0, t1, t2, t3, t4, t5, t6, t7, t8⟩ := hK2.box.tail.tail.head.four
 obtain ⟨r0, r1, r2, r3, r4, r5, r6, r7, r8⟩ := hK2.box.tail.tail.tail.head.four
 go_region
 all_goals
  go_wp2_with fail
  refine bodyPost_ret (v := .tuple #[Vl kv km lo hi, Vl kv km lo hi, .bool may]) ?_ rfl ⟨rfl, ?_⟩
  ·simp [results, Tryz.results106, go_sem, t0, t1, t2, t3, r0, r1, r2, r3]
  ·exact Below.drew ((hK2.set4 3 rfl).set4 2 rfl).bel
set_option maxRecDepth 100000 in
set_option maxHeartbeats 4000000 in
theorem notLess1_is {b1 b2 : Nat} {v m l g v' m' l' g' : BitVec 64} {w : World} (hc : Hid (Cap w b1 b2 v m l g v' m' l' g')) :
  Calls Tryz.prog 108 #[PT b1, PT b2] w fun e w' => e = .returned (.tuple #[Vl v m (bmax l l') (bmin g g), Vl v' m' (bmax l' l') (bmin g' g), .bool true]) ∧ Below w.heap.size w w' := by
 obtain ⟨s1, s2, a0, a1, a2, a3, c0, c1, c2, c3⟩ := hc.out
 have hK0 := ((Kp.start w).add4 (.int .u64 0) (.int .u64 0) (.int .u64 0) (.int .u64 0) 29).add4 (.int .u64 0) (.int .u64 0) (.int .u64 0) (.int .u64 0) 29
 simp only [World.size_alloc] at hK0
 go_enter Tryz.func108, Tryz.ntmps108
 go_wp2_with fail
 have hS0 : Kp w _ [] := (hK0).drop'.drop'.keep (Below.drew (Below.refl _ _))
 have hR0 := (hK0).keep (Below.drew (Below.refl _ _))
 have HS : Hid (∀ w', Kp w w' [] → Kp w w' [] ∧ w'.cell? ⟨b1, 0, none⟩ = some (U v) ∧ w'.cell? ⟨b1, 1, none⟩ = some (U m) ∧ w'.cell? ⟨b1, 2, none⟩ = some (U l) ∧ w'.cell? ⟨b1, 3, none⟩ = some (U g) ∧ w'.cell? ⟨b2, 0, none⟩ = some (U v') ∧ w'.cell? ⟨b2, 1, none⟩ = some (U m') ∧ w'.cell? ⟨b2, 2, none⟩ = some (U l') ∧ w'.cell? ⟨b2, 3, none⟩ = some (U g')) := by
  intro w' hk
  obtain ⟨_, _, d0, d1, d2, d3, f0, f1, f2, f3⟩ := hc.out.keep hk.bel
  exact ⟨hk, d0, d1, d2, d3, f0, f1, f2, f3⟩
 go_region_held3 (fun w' => Kp w w' [] ∧ w'.cell? ⟨b1, 0, none⟩ = some (U v) ∧ w'.cell? ⟨b1, 1, none⟩ = some (U m) ∧ w'.cell? ⟨b1, 2, none⟩ = some (U l) ∧ w'.cell? ⟨b1, 3, none⟩ = some (U g) ∧ w'.cell? ⟨b2, 0, none⟩ = some (U v') ∧ w'.cell? ⟨b2, 1, none⟩ = some (U m') ∧ w'.cell? ⟨b2, 2, none⟩ = some (U l') ∧ w'.cell? ⟨b2, 3, none⟩ = some (U g'))
  ((refine HS.out _ ?_; repeat (first | refine Kp.other4 ?_ _ _ _ _ (by first | exact Nat.le_refl _ | omega) (by simp) | exact hS0 | refine Kp.keep ?_ (by assumption) | refine Kp.keep ?_ (Below.drew (Below.refl _ _)))))
  (first
   | (go_at_call 109; refine (between_any _ _ _ _ _ _ _).mono ?_; rintro e wk ⟨rfl, hb⟩; first | (have hR2 := hR1.keep hb; obtain ⟨t0, t1, t2, t3, t4, t5, t6, t7, t8⟩ := hR2.box.head.four; obtain ⟨r0, r1, r2, r3, r4, r5, r6, r7, r8⟩ := hR2.box.tail.head.four) | (have hR1 := hR0.keep hb)))
 all_goals
  go_wp2_with fail
  refine bodyPost_ret (v := .tuple #[Vl v m (bmax l l') (bmin g g), Vl v' m' (bmax l' l') (bmin g' g), .bool true]) ?_ rfl ⟨rfl, ?_⟩
  ·simp [results, Tryz.results108, go_sem, t0, t1, t2, t3, r0, r1, r2, r3]
  ·exact ((hR2.set4 1 rfl).set4 0 rfl).bel
end
section
attribute [local go_sem] w_and w_or w_xor w_andNot w_and1 w_and63 w_add w_sub w_mul w_sub1 w_add1 w_shl w_shl1 w_shr c_beq c_bne c_beq0 c_bne0 c_beq1 c_bne1 wrap_nv
theorem c_beqT (x : BitVec 64) : (nv x == 18446744073709551615) = eqb x top := by rw [← nv_top]; exact c_beq x top
attribute [local go_sem] c_beqT
set_option maxRecDepth 100000 in
set_option maxHeartbeats 4000000 in
theorem less1_no {b1 b2 : Nat} {v m l g v' m' l' g' : BitVec 64} {w : World} (hc : Hid (Cap w b1 b2 v' m' l' g' v m l g)) (hn : Hid ((eqb g' zero || eqb l top) = true)) :
  Calls Tryz.prog 110 #[PT b1, PT b2] w fun e w' => e = .returned (.tuple #[Vl v m l g, Vl v' m' l' g', .bool false]) ∧ Below w.heap.size w w' := by
 obtain ⟨s1, s2, a0, a1, a2, a3, c0, c1, c2, c3⟩ := hc.out
 have hK0 := ((Kp.start w).add4 (.int .u64 0) (.int .u64 0) (.int .u64 0) (.int .u64 0) 29).add4 (.int .u64 0) (.int .u64 0) (.int .u64 0) (.int .u64 0) 29
 simp only [World.size_alloc] at hK0
 obtain ⟨t0, t1, t2, t3, t4, t5, t6, t7, t8⟩ := hK0.box.head.four
 obtain ⟨r0, r1, r2, r3, r4, r5, r6, r7, r8⟩ := hK0.box.tail.head.four
 have n1 : b1 ≠ w.heap.size := by omega
 have n2 : b2 ≠ w.heap.size := by omega
 have n3 : w.heap.size ≠ b1 := by omega
 have n4 : w.heap.size ≠ b2 := by omega
 have n5 : b1 ≠ w.heap.size + 1 := by omega
 have n6 : b2 ≠ w.heap.size + 1 := by omega
 have n7 : w.heap.size + 1 ≠ b1 := by omega
 have n8 : w.heap.size + 1 ≠ b2 := by omega
 cases z1 : eqb g' zero
 ·have z2 : eqb l top = true := by have := hn.out; rw [z1] at this; simpa using this
  go_enter Tryz.func110, Tryz.ntmps110
  go_wp2_with fail
  go_region
  all_goals
   go_wp2_with fail
   refine bodyPost_ret (v := .tuple #[Vl v m l g, Vl v' m' l' g', .bool false]) ?_ rfl ⟨rfl, ?_⟩
   ·simp [results, Tryz.results110, go_sem]
   ·exact (by repeat (first | exact Below.refl _ _ | assumption | refine below_drewN ?_ _ | refine Below.drew ?_ | refine Below.alloc ?_ (by first | exact Nat.le_refl _ | (simp; done) | (simp; omega) | omega) _ | refine Below.setCell ?_ (by first | exact Nat.le_refl _ | (simp; done) | (simp; omega) | omega) _ | refine Below.trans ?_ (Below.mono (by assumption) (by first | exact Nat.le_refl _ | (simp; done) | (simp; omega) | omega))))
 ·go_enter Tryz.func110, Tryz.ntmps110
  go_wp2_with fail
  go_region
  all_goals
   go_wp2_with fail
   refine bodyPost_ret (v := .tuple #[Vl v m l g, Vl v' m' l' g', .bool false]) ?_ rfl ⟨rfl, ?_⟩
   ·simp [results, Tryz.results110, go_sem]
   ·exact (by repeat (first | exact Below.refl _ _ | assumption | refine below_drewN ?_ _ | refine Below.drew ?_ | refine Below.alloc ?_ (by first | exact Nat.le_refl _ | (simp; done) | (simp; omega) | omega) _ | refine Below.setCell ?_ (by first | exact Nat.le_refl _ | (simp; done) | (simp; omega) | omega) _ | refine Below.trans ?_ (Below.mono (by assumption) (by first | exact Nat.le_refl _ | (simp; done) | (simp; omega) | omega))))
set_option maxRecDepth 100000 in
set_option maxHeartbeats 4000000 in
theorem less1_yes {b1 b2 : Nat} {v m l g v' m' l' g' : BitVec 64} {w : World} (hc : Hid (Cap w b1 b2 v' m' l' g' v m l g)) (z1 : eqb g' zero = false) (z2 : eqb l top = false) :
  Calls Tryz.prog 110 #[PT b1, PT b2] w fun e w' => e = .returned (.tuple #[Vl v m (bmax l l) (bmin g (bsub g' one)), Vl v' m' (bmax l' (badd l one)) (bmin g' g'), .bool true]) ∧ Below w.heap.size w w' := by
 obtain ⟨s1, s2, a0, a1, a2, a3, c0, c1, c2, c3⟩ := hc.out
 have hK0 := ((Kp.start w).add4 (.int .u64 0) (.int .u64 0) (.int .u64 0) (.int .u64 0) 29).add4 (.int .u64 0) (.int .u64 0) (.int .u64 0) (.int .u64 0) 29
 simp only [World.size_alloc] at hK0
 go_enter Tryz.func110, Tryz.ntmps110
 go_wp2_with fail
 go_quiet (fail)
 go_wp2_with fail
 have hS0 : Kp w _ [] := (hK0.drew nq).drop'.drop'.keep (Below.drew (Below.refl _ _))
 have hR0 := (hK0.drew nq).keep (Below.drew (Below.refl _ _))
 have HS : Hid (∀ w', Kp w w' [] → Kp w w' [] ∧ w'.cell? ⟨b1, 0, none⟩ = some (U v') ∧ w'.cell? ⟨b1, 1, none⟩ = some (U m') ∧ w'.cell? ⟨b1, 2, none⟩ = some (U l') ∧ w'.cell? ⟨b1, 3, none⟩ = some (U g') ∧ w'.cell? ⟨b2, 0, none⟩ = some (U v) ∧ w'.cell? ⟨b2, 1, none⟩ = some (U m) ∧ w'.cell? ⟨b2, 2, none⟩ = some (U l) ∧ w'.cell? ⟨b2, 3, none⟩ = some (U g)) := by
  intro w' hk
  obtain ⟨_, _, d0, d1, d2, d3, f0, f1, f2, f3⟩ := hc.out.keep hk.bel
  exact ⟨hk, d0, d1, d2, d3, f0, f1, f2, f3⟩
 go_region_held3 (fun w' => Kp w w' [] ∧ w'.cell? ⟨b1, 0, none⟩ = some (U v') ∧ w'.cell? ⟨b1, 1, none⟩ = some (U m') ∧ w'.cell? ⟨b1, 2, none⟩ = some (U l') ∧ w'.cell? ⟨b1, 3, none⟩ = some (U g') ∧ w'.cell? ⟨b2, 0, none⟩ = some (U v) ∧ w'.cell? ⟨b2, 1, none⟩ = some (U m) ∧ w'.cell? ⟨b2, 2, none⟩ = some (U l) ∧ w'.cell? ⟨b2, 3, none⟩ = some (U g))
  ((refine HS.out _ ?_; repeat (first | refine Kp.other4 ?_ _ _ _ _ (by first | exact Nat.le_refl _ | omega) (by simp) | exact hS0 | refine Kp.keep ?_ (by assumption) | refine Kp.keep ?_ (Below.drew (Below.refl _ _)))))
  (first
   | (go_at_call 109; refine (between_any _ _ _ _ _ _ _).mono ?_; rintro e wk ⟨rfl, hb⟩; first | (have hR2 := hR1.keep hb; obtain ⟨t0, t1, t2, t3, t4, t5, t6, t7, t8⟩ := hR2.box.head.four; obtain ⟨r0, r1, r2, r3, r4, r5, r6, r7, r8⟩ := hR2.box.tail.head.four) | (have hR1 := hR0.keep hb)))
 all_goals
  go_wp2_with fail
  refine bodyPost_ret (v := .tuple #[Vl v m (bmax l l) (bmin g (bsub g' one)), Vl v' m' (bmax l' (badd l one)) (bmin g' g'), .bool true]) ?_ rfl ⟨rfl, ?_⟩
  ·simp [results, Tryz.results110, go_sem, t0, t1, t2, t3, r0, r1, r2, r3]
  ·exact ((hR2.set4 1 rfl).set4 0 rfl).bel
set_option maxRecDepth 100000 in
set_option maxHeartbeats 4000000 in
theorem other1_is {b1 b2 : Nat} {v m l g v' m' l' g' : BitVec 64} {w : World} {q : Bool} (hc : Hid (Cap w b1 b2 v m l g v' m' l' g')) (hq : Hid (q = (eqb l g && (eqb l' g' && eqb l l')))) :
  Calls Tryz.prog 103 #[PT b1, PT b2] w fun e w' => e = .returned (.tuple #[Vl v m (woL l l' g') (woH l g l' g'), Vl v' m' (woL l' l g) (woH l' g' l g), .bool (!q)]) ∧ Below w.heap.size w w' := by
 obtain ⟨s1, s2, a0, a1, a2, a3, c0, c1, c2, c3⟩ := hc.out
 obtain ⟨y1, Y1⟩ : ∃ b, Hid (eqb l g = b) := ⟨_, rfl⟩
 obtain ⟨y2, Y2⟩ : ∃ b, Hid (eqb l' g' = b) := ⟨_, rfl⟩
 obtain ⟨y3, Y3⟩ : ∃ b, eqb l l' = b := ⟨_, rfl⟩
 rw [Y1.out, Y2.out, Y3] at hq
 have hK0 := ((Kp.start w).add4 (.int .u64 0) (.int .u64 0) (.int .u64 0) (.int .u64 0) 29).add4 (.int .u64 0) (.int .u64 0) (.int .u64 0) (.int .u64 0) 29
 simp only [World.size_alloc] at hK0
 go_enter Tryz.func103, Tryz.ntmps103
 go_upto_region 1 with fail
 go_cut [5] (fun u wc => u = .bool q ∧ Kp w wc [(w.heap.size + 1, [.int .u64 0, .int .u64 0, .int .u64 0, .int .u64 0]), (w.heap.size, [.int .u64 0, .int .u64 0, .int .u64 0, .int .u64 0])])
 case first =>
  go_wp2_with fail
  refine (alone_is Y1.out _).mono ?_
  rintro e w1 ⟨rfl, hb1⟩
  have hK1 := hK0.keep hb1
  clear s1 s2 a0 a1 a2 a3 c0 c1 c2 c3
  obtain ⟨s1, s2, a0, a1, a2, a3, c0, c1, c2, c3⟩ := hc.out.keep hK1.bel
  cases y1
  ·go_wp2_with fail
   go_meet
   case rel => exact ⟨by rw [hq.out]; rfl, hK1⟩
  ·go_wp2_with fail
   refine (alone_is Y2.out _).mono ?_
   rintro e w2 ⟨rfl, hb2⟩
   have hK2 := hK1.keep hb2
   clear s1 s2 a0 a1 a2 a3 c0 c1 c2 c3
   obtain ⟨s1, s2, a0, a1, a2, a3, c0, c1, c2, c3⟩ := hc.out.keep hK2.bel
   cases y2
   ·go_wp2_with fail
    go_meet
    case rel => exact ⟨by rw [hq.out]; rfl, hK2⟩
   ·cases y3
    all_goals
     go_wp2_with fail
     go_meet
     case rel => exact ⟨by rw [hq.out]; rfl, hK2⟩
 case rest =>
  clear hK0 hq Y1 Y2 Y3 s1 s2 a0 a1 a2 a3 c0 c1 c2 c3
  obtain ⟨rfl, hK0⟩ := hcut
  obtain ⟨s1, s2, a0, a1, a2, a3, c0, c1, c2, c3⟩ := hc.out.keep hK0.bel
  go_wp2_with fail
  have hS0 : Kp w _ [] := (hK0).drop'.drop'.keep (Below.drew (Below.refl _ _))
  have hR0 := (hK0).keep (Below.drew (Below.refl _ _))
  have HS : Hid (∀ w', Kp w w' [] → Kp w w' [] ∧ w'.cell? ⟨b1, 0, none⟩ = some (U v) ∧ w'.cell? ⟨b1, 1, none⟩ = some (U m) ∧ w'.cell? ⟨b1, 2, none⟩ = some (U l) ∧ w'.cell? ⟨b1, 3, none⟩ = some (U g) ∧ w'.cell? ⟨b2, 0, none⟩ = some (U v') ∧ w'.cell? ⟨b2, 1, none⟩ = some (U m') ∧ w'.cell? ⟨b2, 2, none⟩ = some (U l') ∧ w'.cell? ⟨b2, 3, none⟩ = some (U g')) := by
   intro w' hk
   obtain ⟨_, _, d0, d1, d2, d3, f0, f1, f2, f3⟩ := hc.out.keep hk.bel
   exact ⟨hk, d0, d1, d2, d3, f0, f1, f2, f3⟩
  go_region_held3 (fun w' => Kp w w' [] ∧ w'.cell? ⟨b1, 0, none⟩ = some (U v) ∧ w'.cell? ⟨b1, 1, none⟩ = some (U m) ∧ w'.cell? ⟨b1, 2, none⟩ = some (U l) ∧ w'.cell? ⟨b1, 3, none⟩ = some (U g) ∧ w'.cell? ⟨b2, 0, none⟩ = some (U v') ∧ w'.cell? ⟨b2, 1, none⟩ = some (U m') ∧ w'.cell? ⟨b2, 2, none⟩ = some (U l') ∧ w'.cell? ⟨b2, 3, none⟩ = some (U g'))
   ((refine HS.out _ ?_; repeat (first | refine Kp.other4 ?_ _ _ _ _ (by first | exact Nat.le_refl _ | omega) (by simp) | exact hS0 | refine Kp.keep ?_ (by assumption) | refine Kp.keep ?_ (Below.drew (Below.refl _ _)))))
   (first
    | (go_at_call 105; refine (without_is _ _ _ _ _ _ _ _ _).mono ?_; rintro e wk ⟨rfl, hb⟩; first | (have hR2 := hR1.keep hb; obtain ⟨t0, t1, t2, t3, t4, t5, t6, t7, t8⟩ := hR2.box.head.four; obtain ⟨r0, r1, r2, r3, r4, r5, r6, r7, r8⟩ := hR2.box.tail.head.four) | (have hR1 := hR0.keep hb)))
  all_goals
   go_wp2_with fail
   refine bodyPost_ret (v := .tuple #[Vl v m (woL l l' g') (woH l g l' g'), Vl v' m' (woL l' l g) (woH l' g' l g), .bool (!q)]) ?_ rfl ⟨rfl, ?_⟩
   ·simp [results, Tryz.results103, go_sem, t0, t1, t2, t3, r0, r1, r2, r3]
   ·exact ((hR2.set4 1 rfl).set4 0 rfl).bel
end
section
attribute [local go_sem] w_and w_or w_xor w_andNot w_and1 w_and63 w_add w_sub w_mul w_sub1 w_add1 w_shl w_shl1 w_shr c_beq c_bne c_beq0 c_bne0 c_beq1 c_bne1 wrap_nv
set_option maxRecDepth 100000 in
set_option maxHeartbeats 4000000 in
theorem calcEqual_right {v m l g v' m' l' g' a b c d a' b' c' d' x y z t x' y' z' t' : BitVec 64} {may i1 i2 : Bool} {e1 e2 : Int} (hr : Hid ((valB v m l g && valB v' m' l' g') = true)) (w : World)
  (HR : Hid (∀ (B : Nat) w', Cap w' B (B + 1) v m l g v' m' l' g' → Calls Tryz.prog 106 #[PT B, PT (B + 1)] w' fun e w'' => e = .returned (.tuple #[Vl a b c d, Vl a' b' c' d', .bool may]) ∧ Below w'.heap.size w' w''))
  (N1 : Hid (∀ w, Calls Tryz.prog 113 #[Vl a b c d] w fun e w' => e = .returned (.tuple #[Vl x y z t, .bool i1, N e1]) ∧ Below w.heap.size w w'))
  (N2 : Hid (∀ w, Calls Tryz.prog 113 #[Vl a' b' c' d'] w fun e w' => e = .returned (.tuple #[Vl x' y' z' t', .bool i2, N e2]) ∧ Below w.heap.size w w')) :
  Calls Tryz.prog 71 #[Vl v m l g, Vl v' m' l' g'] w fun e w' => e = .returned (.tuple #[lv (may && (i1 && i2)) (Vl x y z t), lv (may && (i1 && i2)) (Vl x' y' z' t'), .bool (may && (i1 && i2)), N 0]) ∧ Below w.heap.size w w' := by
 have hK0 := ((((Kp.start w).add4 (U v) (U m) (U l) (U g) 29).add4 (U v') (U m') (U l') (U g') 29).add4 (.int .u64 0) (.int .u64 0) (.int .u64 0) (.int .u64 0) 29).add4 (.int .u64 0) (.int .u64 0) (.int .u64 0) (.int .u64 0) 29
 simp only [World.size_alloc] at hK0
 have HC : Hid (∀ w', Below ((((w.alloc (.cells #[U v, U m, U l, U g] 29)).alloc (.cells #[U v', U m', U l', U g'] 29)).alloc (.cells #[.int .u64 0, .int .u64 0, .int .u64 0, .int .u64 0] 29)).alloc (.cells #[.int .u64 0, .int .u64 0, .int .u64 0, .int .u64 0] 29)).heap.size ((((w.alloc (.cells #[U v, U m, U l, U g] 29)).alloc (.cells #[U v', U m', U l', U g'] 29)).alloc (.cells #[.int .u64 0, .int .u64 0, .int .u64 0, .int .u64 0] 29)).alloc (.cells #[.int .u64 0, .int .u64 0, .int .u64 0, .int .u64 0] 29)) w' → Cap w' w.heap.size (w.heap.size + 1) v m l g v' m' l' g') := by
  intro w' hb
  have hk := hK0.keep hb
  obtain ⟨b0, b1, b2, b3, _, _, _, _, b8⟩ := hk.box.tail.tail.head.four
  obtain ⟨a0, a1, a2, a3, _, _, _, _, a8⟩ := hk.box.tail.tail.tail.head.four
  exact ⟨a8, b8, a0, a1, a2, a3, b0, b1, b2, b3⟩
 obtain ⟨q, hq⟩ : ∃ q, Hid (q = (may && (i1 && i2))) := ⟨_, rfl⟩
 have HL : Hid (Calls Tryz.prog 102 #[Vl v m l g, Vl v' m' l' g', .func (.func 106) #[] #[PT w.heap.size, PT (w.heap.size + 1)]] ((((w.alloc (.cells #[U v, U m, U l, U g] 29)).alloc (.cells #[U v', U m', U l', U g'] 29)).alloc (.cells #[.int .u64 0, .int .u64 0, .int .u64 0, .int .u64 0] 29)).alloc (.cells #[.int .u64 0, .int .u64 0, .int .u64 0, .int .u64 0] 29)) fun e w' => e = .returned (.tuple #[lv q (Vl x y z t), lv q (Vl x' y' z' t'), .bool q, N 0]) ∧ Below ((((w.alloc (.cells #[U v, U m, U l, U g] 29)).alloc (.cells #[U v', U m', U l', U g'] 29)).alloc (.cells #[.int .u64 0, .int .u64 0, .int .u64 0, .int .u64 0] 29)).alloc (.cells #[.int .u64 0, .int .u64 0, .int .u64 0, .int .u64 0] 29)).heap.size ((((w.alloc (.cells #[U v, U m, U l, U g] 29)).alloc (.cells #[U v', U m', U l', U g'] 29)).alloc (.cells #[.int .u64 0, .int .u64 0, .int .u64 0, .int .u64 0] 29)).alloc (.cells #[.int .u64 0, .int .u64 0, .int .u64 0, .int .u64 0] 29)) w') := by
  show Calls _ _ _ _ _
  rw [hq.out]
  exact leave_Equal hr _ (hid (fun w' hb => HR.out w.heap.size w' (HC.out w' hb))) N1 N2
 rw [← hq.out]
 clear hq N1 N2 HR HC hr
 go_enter Tryz.func71, Tryz.ntmps71
 go_wp2_with fail
 refine HL.out.mono ?_
 rintro e w1 ⟨rfl, hb1⟩
 have hK := hK0.keep hb1
 clear HL
 obtain ⟨s0, s1, s2, s3, s4, s5, s6, s7, s8⟩ := hK.box.head.four
 obtain ⟨r0, r1, r2, r3, r4, r5, r6, r7, r8⟩ := hK.box.tail.head.four
 obtain ⟨b0, b1, b2, b3, b4, b5, b6, b7, b8⟩ := hK.box.tail.tail.head.four
 obtain ⟨a0, a1, a2, a3, a4, a5, a6, a7, a8⟩ := hK.box.tail.tail.tail.head.four
 cases q
 ·have e0 : ∀ a, lv false a = V0 := fun a => rfl
  simp only [e0]
  go_wp2_with fail
  exact bodyPost_ret (v := .tuple #[V0, V0, .bool false, N 0]) (by simp [results, Tryz.results71, go_sem, s0, s1, s2, s3, r0, r1, r2, r3]) rfl ⟨rfl, ((hK.set4 1 rfl).set4 0 rfl).bel⟩
 ·have e0 : ∀ a, lv true a = a := fun a => rfl
  simp only [e0]
  go_wp2_with fail
  exact bodyPost_ret (v := .tuple #[Vl x y z t, Vl x' y' z' t', .bool true, N 0]) (by simp [results, Tryz.results71, go_sem, s0, s1, s2, s3, r0, r1, r2, r3]) rfl ⟨rfl, ((hK.set4 1 rfl).set4 0 rfl).bel⟩
set_option maxRecDepth 100000 in
set_option maxHeartbeats 4000000 in
theorem calcOther_right {v m l g v' m' l' g' a b c d a' b' c' d' x y z t x' y' z' t' : BitVec 64} {may i1 i2 : Bool} {e1 e2 : Int} (hr : Hid ((valB v m l g && valB v' m' l' g') = true)) (w : World)
  (HR : Hid (∀ (B : Nat) w', Cap w' B (B + 1) v m l g v' m' l' g' → Calls Tryz.prog 103 #[PT B, PT (B + 1)] w' fun e w'' => e = .returned (.tuple #[Vl a b c d, Vl a' b' c' d', .bool may]) ∧ Below w'.heap.size w' w''))
  (N1 : Hid (∀ w, Calls Tryz.prog 113 #[Vl a b c d] w fun e w' => e = .returned (.tuple #[Vl x y z t, .bool i1, N e1]) ∧ Below w.heap.size w w'))
  (N2 : Hid (∀ w, Calls Tryz.prog 113 #[Vl a' b' c' d'] w fun e w' => e = .returned (.tuple #[Vl x' y' z' t', .bool i2, N e2]) ∧ Below w.heap.size w w')) :
  Calls Tryz.prog 70 #[Vl v m l g, Vl v' m' l' g'] w fun e w' => e = .returned (.tuple #[lv (may && (i1 && i2)) (Vl x y z t), lv (may && (i1 && i2)) (Vl x' y' z' t'), .bool (may && (i1 && i2)), N 0]) ∧ Below w.heap.size w w' := by
 have hK0 := ((((Kp.start w).add4 (U v) (U m) (U l) (U g) 29).add4 (U v') (U m') (U l') (U g') 29).add4 (.int .u64 0) (.int .u64 0) (.int .u64 0) (.int .u64 0) 29).add4 (.int .u64 0) (.int .u64 0) (.int .u64 0) (.int .u64 0) 29
 simp only [World.size_alloc] at hK0
 have HC : Hid (∀ w', Below ((((w.alloc (.cells #[U v, U m, U l, U g] 29)).alloc (.cells #[U v', U m', U l', U g'] 29)).alloc (.cells #[.int .u64 0, .int .u64 0, .int .u64 0, .int .u64 0] 29)).alloc (.cells #[.int .u64 0, .int .u64 0, .int .u64 0, .int .u64 0] 29)).heap.size ((((w.alloc (.cells #[U v, U m, U l, U g] 29)).alloc (.cells #[U v', U m', U l', U g'] 29)).alloc (.cells #[.int .u64 0, .int .u64 0, .int .u64 0, .int .u64 0] 29)).alloc (.cells #[.int .u64 0, .int .u64 0, .int .u64 0, .int .u64 0] 29)) w' → Cap w' w.heap.size (w.heap.size + 1) v m l g v' m' l' g') := by
  intro w' hb
  have hk := hK0.keep hb
  obtain ⟨b0, b1, b2, b3, _, _, _, _, b8⟩ := hk.box.tail.tail.head.four
  obtain ⟨a0, a1, a2, a3, _, _, _, _, a8⟩ := hk.box.tail.tail.tail.head.four
  exact ⟨a8, b8, a0, a1, a2, a3, b0, b1, b2, b3⟩
 obtain ⟨q, hq⟩ : ∃ q, Hid (q = (may && (i1 && i2))) := ⟨_, rfl⟩
 have HL : Hid (Calls Tryz.prog 102 #[Vl v m l g, Vl v' m' l' g', .func (.func 103) #[] #[PT w.heap.size, PT (w.heap.size + 1)]] ((((w.alloc (.cells #[U v, U m, U l, U g] 29)).alloc (.cells #[U v', U m', U l', U g'] 29)).alloc (.cells #[.int .u64 0, .int .u64 0, .int .u64 0, .int .u64 0] 29)).alloc (.cells #[.int .u64 0, .int .u64 0, .int .u64 0, .int .u64 0] 29)) fun e w' => e = .returned (.tuple #[lv q (Vl x y z t), lv q (Vl x' y' z' t'), .bool q, N 0]) ∧ Below ((((w.alloc (.cells #[U v, U m, U l, U g] 29)).alloc (.cells #[U v', U m', U l', U g'] 29)).alloc (.cells #[.int .u64 0, .int .u64 0, .int .u64 0, .int .u64 0] 29)).alloc (.cells #[.int .u64 0, .int .u64 0, .int .u64 0, .int .u64 0] 29)).heap.size ((((w.alloc (.cells #[U v, U m, U l, U g] 29)).alloc (.cells #[U v', U m', U l', U g'] 29)).alloc (.cells #[.int .u64 0, .int .u64 0, .int .u64 0, .int .u64 0] 29)).alloc (.cells #[.int .u64 0, .int .u64 0, .int .u64 0, .int .u64 0] 29)) w') := by
  show Calls _ _ _ _ _
  rw [hq.out]
  exact leave_Other hr _ (hid (fun w' hb => HR.out w.heap.size w' (HC.out w' hb))) N1 N2
 rw [← hq.out]
 clear hq N1 N2 HR HC hr
 go_enter Tryz.func70, Tryz.ntmps70
 go_wp2_with fail
 refine HL.out.mono ?_
 rintro e w1 ⟨rfl, hb1⟩
 have hK := hK0.keep hb1
 clear HL
 obtain ⟨s0, s1, s2, s3, s4, s5, s6, s7, s8⟩ := hK.box.head.four
 obtain ⟨r0, r1, r2, r3, r4, r5, r6, r7, r8⟩ := hK.box.tail.head.four
 obtain ⟨b0, b1, b2, b3, b4, b5, b6, b7, b8⟩ := hK.box.tail.tail.head.four
 obtain ⟨a0, a1, a2, a3, a4, a5, a6, a7, a8⟩ := hK.box.tail.tail.tail.head.four
 cases q
 ·have e0 : ∀ a, lv false a = V0 := fun a => rfl
  simp only [e0]
  go_wp2_with fail
  exact bodyPost_ret (v := .tuple #[V0, V0, .bool false, N 0]) (by simp [results, Tryz.results70, go_sem, s0, s1, s2, s3, r0, r1, r2, r3]) rfl ⟨rfl, ((hK.set4 1 rfl).set4 0 rfl).bel⟩
 ·have e0 : ∀ a, lv true a = a := fun a => rfl
  simp only [e0]
  go_wp2_with fail
  exact bodyPost_ret (v := .tuple #[Vl x y z t, Vl x' y' z' t', .bool true, N 0]) (by simp [results, Tryz.results70, go_sem, s0, s1, s2, s3, r0, r1, r2, r3]) rfl ⟨rfl, ((hK.set4 1 rfl).set4 0 rfl).bel⟩
set_option maxRecDepth 100000 in
set_option maxHeartbeats 4000000 in
theorem calcLess_right {v m l g v' m' l' g' a b c d a' b' c' d' x y z t x' y' z' t' : BitVec 64} {may i1 i2 : Bool} {e1 e2 : Int} (hr : Hid ((valB v m l g && valB v' m' l' g') = true)) (w : World)
  (HR : Hid (∀ (B : Nat) w', Cap w' (B + 1) B v' m' l' g' v m l g → Calls Tryz.prog 110 #[PT (B + 1), PT B] w' fun e w'' => e = .returned (.tuple #[Vl a b c d, Vl a' b' c' d', .bool may]) ∧ Below w'.heap.size w' w''))
  (N1 : Hid (∀ w, Calls Tryz.prog 113 #[Vl a b c d] w fun e w' => e = .returned (.tuple #[Vl x y z t, .bool i1, N e1]) ∧ Below w.heap.size w w'))
  (N2 : Hid (∀ w, Calls Tryz.prog 113 #[Vl a' b' c' d'] w fun e w' => e = .returned (.tuple #[Vl x' y' z' t', .bool i2, N e2]) ∧ Below w.heap.size w w')) :
  Calls Tryz.prog 73 #[Vl v m l g, Vl v' m' l' g'] w fun e w' => e = .returned (.tuple #[lv (may && (i1 && i2)) (Vl x y z t), lv (may && (i1 && i2)) (Vl x' y' z' t'), .bool (may && (i1 && i2)), N 0]) ∧ Below w.heap.size w w' := by
 have hK0 := ((((Kp.start w).add4 (U v) (U m) (U l) (U g) 29).add4 (U v') (U m') (U l') (U g') 29).add4 (.int .u64 0) (.int .u64 0) (.int .u64 0) (.int .u64 0) 29).add4 (.int .u64 0) (.int .u64 0) (.int .u64 0) (.int .u64 0) 29
 simp only [World.size_alloc] at hK0
 have HC : Hid (∀ w', Below ((((w.alloc (.cells #[U v, U m, U l, U g] 29)).alloc (.cells #[U v', U m', U l', U g'] 29)).alloc (.cells #[.int .u64 0, .int .u64 0, .int .u64 0, .int .u64 0] 29)).alloc (.cells #[.int .u64 0, .int .u64 0, .int .u64 0, .int .u64 0] 29)).heap.size ((((w.alloc (.cells #[U v, U m, U l, U g] 29)).alloc (.cells #[U v', U m', U l', U g'] 29)).alloc (.cells #[.int .u64 0, .int .u64 0, .int .u64 0, .int .u64 0] 29)).alloc (.cells #[.int .u64 0, .int .u64 0, .int .u64 0, .int .u64 0] 29)) w' → Cap w' (w.heap.size + 1) w.heap.size v' m' l' g' v m l g) := by
  intro w' hb
  have hk := hK0.keep hb
  obtain ⟨b0, b1, b2, b3, _, _, _, _, b8⟩ := hk.box.tail.tail.head.four
  obtain ⟨a0, a1, a2, a3, _, _, _, _, a8⟩ := hk.box.tail.tail.tail.head.four
  exact ⟨b8, a8, b0, b1, b2, b3, a0, a1, a2, a3⟩
 obtain ⟨q, hq⟩ : ∃ q, Hid (q = (may && (i1 && i2))) := ⟨_, rfl⟩
 have HL : Hid (Calls Tryz.prog 102 #[Vl v m l g, Vl v' m' l' g', .func (.func 110) #[] #[PT (w.heap.size + 1), PT w.heap.size]] ((((w.alloc (.cells #[U v, U m, U l, U g] 29)).alloc (.cells #[U v', U m', U l', U g'] 29)).alloc (.cells #[.int .u64 0, .int .u64 0, .int .u64 0, .int .u64 0] 29)).alloc (.cells #[.int .u64 0, .int .u64 0, .int .u64 0, .int .u64 0] 29)) fun e w' => e = .returned (.tuple #[lv q (Vl x y z t), lv q (Vl x' y' z' t'), .bool q, N 0]) ∧ Below ((((w.alloc (.cells #[U v, U m, U l, U g] 29)).alloc (.cells #[U v', U m', U l', U g'] 29)).alloc (.cells #[.int .u64 0, .int .u64 0, .int .u64 0, .int .u64 0] 29)).alloc (.cells #[.int .u64 0, .int .u64 0, .int .u64 0, .int .u64 0] 29)).heap.size ((((w.alloc (.cells #[U v, U m, U l, U g] 29)).alloc (.cells #[U v', U m', U l', U g'] 29)).alloc (.cells #[.int .u64 0, .int .u64 0, .int .u64 0, .int .u64 0] 29)).alloc (.cells #[.int .u64 0, .int .u64 0, .int .u64 0, .int .u64 0] 29)) w') := by
  show Calls _ _ _ _ _
  rw [hq.out]
  exact leave_Less hr _ (hid (fun w' hb => HR.out w.heap.size w' (HC.out w' hb))) N1 N2
 rw [← hq.out]
 clear hq N1 N2 HR HC hr
 go_enter Tryz.func73, Tryz.ntmps73
 go_wp2_with fail
 refine HL.out.mono ?_
 rintro e w1 ⟨rfl, hb1⟩
 have hK := hK0.keep hb1
 clear HL
 obtain ⟨s0, s1, s2, s3, s4, s5, s6, s7, s8⟩ := hK.box.head.four
 obtain ⟨r0, r1, r2, r3, r4, r5, r6, r7, r8⟩ := hK.box.tail.head.four
 obtain ⟨b0, b1, b2, b3, b4, b5, b6, b7, b8⟩ := hK.box.tail.tail.head.four
 obtain ⟨a0, a1, a2, a3, a4, a5, a6, a7, a8⟩ := hK.box.tail.tail.tail.head.four
 cases q
 ·have e0 : ∀ a, lv false a = V0 := fun a => rfl
  simp only [e0]
  go_wp2_with fail
  exact bodyPost_ret (v := .tuple #[V0, V0, .bool false, N 0]) (by simp [results, Tryz.results73, go_sem, s0, s1, s2, s3, r0, r1, r2, r3]) rfl ⟨rfl, ((hK.set4 1 rfl).set4 0 rfl).bel⟩
 ·have e0 : ∀ a, lv true a = a := fun a => rfl
  simp only [e0]
  go_wp2_with fail
  exact bodyPost_ret (v := .tuple #[Vl x y z t, Vl x' y' z' t', .bool true, N 0]) (by simp [results, Tryz.results73, go_sem, s0, s1, s2, s3, r0, r1, r2, r3]) rfl ⟨rfl, ((hK.set4 1 rfl).set4 0 rfl).bel⟩
set_option maxRecDepth 100000 in
set_option maxHeartbeats 4000000 in
theorem calcNotLess_right {v m l g v' m' l' g' a b c d a' b' c' d' x y z t x' y' z' t' : BitVec 64} {may i1 i2 : Bool} {e1 e2 : Int} (hr : Hid ((valB v m l g && valB v' m' l' g') = true)) (w : World)
  (HR : Hid (∀ (B : Nat) w', Cap w' B (B + 1) v m l g v' m' l' g' → Calls Tryz.prog 108 #[PT B, PT (B + 1)] w' fun e w'' => e = .returned (.tuple #[Vl a b c d, Vl a' b' c' d', .bool may]) ∧ Below w'.heap.size w' w''))
  (N1 : Hid (∀ w, Calls Tryz.prog 113 #[Vl a b c d] w fun e w' => e = .returned (.tuple #[Vl x y z t, .bool i1, N e1]) ∧ Below w.heap.size w w'))
  (N2 : Hid (∀ w, Calls Tryz.prog 113 #[Vl a' b' c' d'] w fun e w' => e = .returned (.tuple #[Vl x' y' z' t', .bool i2, N e2]) ∧ Below w.heap.size w w')) :
  Calls Tryz.prog 72 #[Vl v m l g, Vl v' m' l' g'] w fun e w' => e = .returned (.tuple #[lv (may && (i1 && i2)) (Vl x y z t), lv (may && (i1 && i2)) (Vl x' y' z' t'), .bool (may && (i1 && i2)), N 0]) ∧ Below w.heap.size w w' := by
 have hK0 := ((((Kp.start w).add4 (U v) (U m) (U l) (U g) 29).add4 (U v') (U m') (U l') (U g') 29).add4 (.int .u64 0) (.int .u64 0) (.int .u64 0) (.int .u64 0) 29).add4 (.int .u64 0) (.int .u64 0) (.int .u64 0) (.int .u64 0) 29
 simp only [World.size_alloc] at hK0
 have HC : Hid (∀ w', Below ((((w.alloc (.cells #[U v, U m, U l, U g] 29)).alloc (.cells #[U v', U m', U l', U g'] 29)).alloc (.cells #[.int .u64 0, .int .u64 0, .int .u64 0, .int .u64 0] 29)).alloc (.cells #[.int .u64 0, .int .u64 0, .int .u64 0, .int .u64 0] 29)).heap.size ((((w.alloc (.cells #[U v, U m, U l, U g] 29)).alloc (.cells #[U v', U m', U l', U g'] 29)).alloc (.cells #[.int .u64 0, .int .u64 0, .int .u64 0, .int .u64 0] 29)).alloc (.cells #[.int .u64 0, .int .u64 0, .int .u64 0, .int .u64 0] 29)) w' → Cap w' w.heap.size (w.heap.size + 1) v m l g v' m' l' g') := by
  intro w' hb
  have hk := hK0.keep hb
  obtain ⟨b0, b1, b2, b3, _, _, _, _, b8⟩ := hk.box.tail.tail.head.four
  obtain ⟨a0, a1, a2, a3, _, _, _, _, a8⟩ := hk.box.tail.tail.tail.head.four
  exact ⟨a8, b8, a0, a1, a2, a3, b0, b1, b2, b3⟩
 obtain ⟨q, hq⟩ : ∃ q, Hid (q = (may && (i1 && i2))) := ⟨_, rfl⟩
 have HL : Hid (Calls Tryz.prog 102 #[Vl v m l g, Vl v' m' l' g', .func (.func 108) #[] #[PT w.heap.size, PT (w.heap.size + 1)]] ((((w.alloc (.cells #[U v, U m, U l, U g] 29)).alloc (.cells #[U v', U m', U l', U g'] 29)).alloc (.cells #[.int .u64 0, .int .u64 0, .int .u64 0, .int .u64 0] 29)).alloc (.cells #[.int .u64 0, .int .u64 0, .int .u64 0, .int .u64 0] 29)) fun e w' => e = .returned (.tuple #[lv q (Vl x y z t), lv q (Vl x' y' z' t'), .bool q, N 0]) ∧ Below ((((w.alloc (.cells #[U v, U m, U l, U g] 29)).alloc (.cells #[U v', U m', U l', U g'] 29)).alloc (.cells #[.int .u64 0, .int .u64 0, .int .u64 0, .int .u64 0] 29)).alloc (.cells #[.int .u64 0, .int .u64 0, .int .u64 0, .int .u64 0] 29)).heap.size ((((w.alloc (.cells #[U v, U m, U l, U g] 29)).alloc (.cells #[U v', U m', U l', U g'] 29)).alloc (.cells #[.int .u64 0, .int .u64 0, .int .u64 0, .int .u64 0] 29)).alloc (.cells #[.int .u64 0, .int .u64 0, .int .u64 0, .int .u64 0] 29)) w') := by
  show Calls _ _ _ _ _
  rw [hq.out]
  exact leave_NotLess hr _ (hid (fun w' hb => HR.out w.heap.size w' (HC.out w' hb))) N1 N2
 rw [← hq.out]
 clear hq N1 N2 HR HC hr
 go_enter Tryz.func72, Tryz.ntmps72
 go_wp2_with fail
 refine HL.out.mono ?_
 rintro e w1 ⟨rfl, hb1⟩
 have hK := hK0.keep hb1
 clear HL
 obtain ⟨s0, s1, s2, s3, s4, s5, s6, s7, s8⟩ := hK.box.head.four
 obtain ⟨r0, r1, r2, r3, r4, r5, r6, r7, r8⟩ := hK.box.tail.head.four
 obtain ⟨b0, b1, b2, b3, b4, b5, b6, b7, b8⟩ := hK.box.tail.tail.head.four
 obtain ⟨a0, a1, a2, a3, a4, a5, a6, a7, a8⟩ := hK.box.tail.tail.tail.head.four
 cases q
 ·have e0 : ∀ a, lv false a = V0 := fun a => rfl
  simp only [e0]
  go_wp2_with fail
  exact bodyPost_ret (v := .tuple #[V0, V0, .bool false, N 0]) (by simp [results, Tryz.results72, go_sem, s0, s1, s2, s3, r0, r1, r2, r3]) rfl ⟨rfl, ((hK.set4 1 rfl).set4 0 rfl).bel⟩
 ·have e0 : ∀ a, lv true a = a := fun a => rfl
  simp only [e0]
  go_wp2_with fail
  exact bodyPost_ret (v := .tuple #[Vl x y z t, Vl x' y' z' t', .bool true, N 0]) (by simp [results, Tryz.results72, go_sem, s0, s1, s2, s3, r0, r1, r2, r3]) rfl ⟨rfl, ((hK.set4 1 rfl).set4 0 rfl).bel⟩
end
section
attribute [local go_sem] w_and w_or w_xor w_andNot w_and1 w_and63 w_add w_sub w_mul w_sub1 w_add1 w_shl w_shl1 w_shr c_beq c_bne c_beq0 c_bne0 c_beq1 c_bne1 wrap_nv
def bi (b : Bool) : Int := if b then 1 else 0
/- one bit of an operation, and what goes over -/
def bo (op : Int) (x y c : Bool) : Bool × Bool :=
 if op = 2 then ((x ^^ y) ^^ c, (x && y) || (c && (x || y)))
 else if op = 3 then ((x ^^ y) ^^ c, (!x && y) || (c && (!x || y)))
 else if op = 5 then (x && y, false)
 else if op = 6 then (x || y, false)
 else (x ^^ y, false)
theorem bo_else {op : Int} (h2 : op ≠ 2) (h3 : op ≠ 3) (h5 : op ≠ 5) (h6 : op ≠ 6) (x y c : Bool) : bo op x y c = (x ^^ y, false) := by
 unfold bo; rw [if_neg h2, if_neg h3, if_neg h5, if_neg h6]
set_option maxHeartbeats 4000000 in
theorem bitOf_any (op : Int) (x y c : Bool) (w : World) :
  Calls Tryz.prog 135 #[N op, N (bi x), N (bi y), N (bi c)] w fun e w' => e = .returned (.tuple #[N (bi (bo op x y c).1), N (bi (bo op x y c).2)]) ∧ w = w' := by
 by_cases hop : op = 2 ∨ op = 3 ∨ op = 5 ∨ op = 6
 ·generalize h1 : bi (bo op x y c).1 = r1
  generalize h2 : bi (bo op x y c).2 = r2
  have H1 : Hid (bi (bo op x y c).1 = r1) := h1
  have H2 : Hid (bi (bo op x y c).2 = r2) := h2
  clear h1 h2
  rcases hop with rfl | rfl | rfl | rfl <;> cases x <;> cases y <;> cases c
  all_goals
   simp only [bi, if_true, if_false, Bool.false_eq_true]
   go_enter Tryz.func135, Tryz.ntmps135
   go_wp2_with fail
   go_ret2
   rw [← H1.out, ← H2.out]
   exact ⟨rfl, rfl⟩
 ·have h2 : op ≠ 2 := by omega
  have h3 : op ≠ 3 := by omega
  have h5 : op ≠ 5 := by omega
  have h6 : op ≠ 6 := by omega
  generalize g1 : bi (bo op x y c).1 = r1
  generalize g2 : bi (bo op x y c).2 = r2
  rw [bo_else h2 h3 h5 h6] at g1 g2
  have H1 : Hid (bi (x ^^ y) = r1) := g1
  have H2 : Hid (bi false = r2) := g2
  clear g1 g2
  have e2 : (op == 2) = false := by simpa using h2
  have e3 : (op == 3) = false := by simpa using h3
  have e5 : (op == 5) = false := by simpa using h5
  have e6 : (op == 6) = false := by simpa using h6
  clear h2 h3 h5 h6 hop
  cases x <;> cases y <;> cases c
  all_goals
   simp only [bi, if_true, if_false, Bool.false_eq_true]
   go_enter Tryz.func135, Tryz.ntmps135
   go_wp2_with fail
   go_ret2
   rw [← H1.out, ← H2.out]
   exact ⟨rfl, rfl⟩
end
theorem Kp.set1 {w0 w : World} {b i : Nat} {v u : Value} {vs : List Value} {L : List (Nat × List Value)} (k : Nat) (h : Kp w0 w L) (e : L[k]? = some (b, vs)) (hi : vs[i]? = some u) :
  Kp w0 (w.setCell ⟨b, i, none⟩ v) (L.set k (b, vs.set i v)) := by
 have hlo : w0.heap.size ≤ b := h.lo _ (List.mem_of_getElem? e)
 refine ⟨h.bel.setCell hlo v, Boxes.setOne k h.box e hi, fun p hp => ?_⟩
 rcases List.mem_or_eq_of_mem_set hp with h1 | h1
 ·exact h.lo p h1
 ·rw [h1]; exact hlo
def kx (k : Nat) : Bool := k % 2 == 1
def ky (k : Nat) : Bool := k / 2 % 2 == 1
def kc (k : Nat) : Bool := k / 4 == 1
def alw (z o u p c0 c1 : Bool) (k : Nat) : Bool := (if kx k then o else z) && (if ky k then p else u) && (if kc k then c1 else c0)
def put1 (q : Bool × Bool) (b : Bool) : Bool × Bool := if b then (q.1, true) else (true, q.2)
/- the inner loop: which results, and which that go over, the first k of the eight ways give -/
def inn (op : Int) (z o u p c0 c1 : Bool) : Nat → (Bool × Bool) × (Bool × Bool)
 | 0 => ((false, false), (false, false))
 | k + 1 => if alw z o u p c0 c1 k then (put1 (inn op z o u p c0 c1 k).1 (bo op (kx k) (ky k) (kc k)).1, put1 (inn op z o u p c0 c1 k).2 (bo op (kx k) (ky k) (kc k)).2) else inn op z o u p c0 c1 k
theorem inn_no {op : Int} {z o u p c0 c1 : Bool} {k : Nat} {s : (Bool × Bool) × (Bool × Bool)} (h : inn op z o u p c0 c1 k = s) (ha : alw z o u p c0 c1 k = false) : inn op z o u p c0 c1 (k + 1) = s := by
 simp only [inn]; rw [if_neg (by rw [ha]; decide), h]
theorem inn_yes {op : Int} {z o u p c0 c1 : Bool} {k : Nat} {s : (Bool × Bool) × (Bool × Bool)} {b1 b2 x y c : Bool} (h : inn op z o u p c0 c1 k = s) (ha : alw z o u p c0 c1 k = true)
  (hx : kx k = x) (hy : ky k = y) (hc : kc k = c) (hb : bo op x y c = (b1, b2)) : inn op z o u p c0 c1 (k + 1) = (put1 s.1 b1, put1 s.2 b2) := by
 simp only [inn]; rw [if_pos ha, h, hx, hy, hc, hb]
/- the outer loop -/
def twoC (op : Int) (av am bv bm : BitVec 64) : Nat → Bool × Bool
 | 0 => (true, false)
 | i + 1 => (inn op (mz av i) (mo av am i) (mz bv i) (mo bv bm i) (twoC op av am bv bm i).1 (twoC op av am bv bm i).2 8).2
def twoR (op : Int) (av am bv bm : BitVec 64) (i : Nat) : Bool × Bool :=
 (inn op (mz av i) (mo av am i) (mz bv i) (mo bv bm i) (twoC op av am bv bm i).1 (twoC op av am bv bm i).2 8).1
def twoV (op : Int) (av am bv bm : BitVec 64) (k : Nat) : BitVec 64 := acc (fun j => (twoR op av am bv bm j).2 && !(twoR op av am bv bm j).1) k
def twoM (op : Int) (av am bv bm : BitVec 64) (k : Nat) : BitVec 64 := acc (fun j => (twoR op av am bv bm j).2 && (twoR op av am bv bm j).1) k
theorem twoV_succ (op : Int) (av am bv bm : BitVec 64) (k : Nat) : putV (twoV op av am bv bm k) k (twoR op av am bv bm k).1 (twoR op av am bv bm k).2 = twoV op av am bv bm (k + 1) := putV_acc (fun j => (twoR op av am bv bm j).1) (fun j => (twoR op av am bv bm j).2) k
theorem twoM_succ (op : Int) (av am bv bm : BitVec 64) (k : Nat) : putM (twoM op av am bv bm k) k (twoR op av am bv bm k).1 (twoR op av am bv bm k).2 = twoM op av am bv bm (k + 1) := putM_acc (fun j => (twoR op av am bv bm j).1) (fun j => (twoR op av am bv bm j).2) k
theorem bitOf_is {op : Int} {x y c b1 b2 : Bool} (h : Hid (bo op x y c = (b1, b2))) (w : World) :
  Calls Tryz.prog 135 #[N op, N (bi x), N (bi y), N (bi c)] w fun e w' => e = .returned (.tuple #[N (bi b1), N (bi b2)]) ∧ w = w' := by
 have := bitOf_any op x y c w
 rw [h.out] at this
 exact this
theorem bo_ex (op : Int) (x y c : Bool) : ∃ b1 b2, Hid (bo op x y c = (b1, b2)) := ⟨_, _, rfl⟩
end Go.Proofs.YtkigmocchaikgabGreat
