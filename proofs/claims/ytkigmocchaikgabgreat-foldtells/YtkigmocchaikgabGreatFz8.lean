import Derived.Test.YtkigmocchaikgabGreatFz2
import Derived.Test.YtkigmocchaikgabGreatProg
import Derived.Test.YtkigmocchaikgabGreatFz4
import Derived.Test.YtkigmocchaikgabGreatFz3
import Derived.Test.YtkigmocchaikgabGreatFz7
import Derived.Test.YtkigmocchaikgabGreatFz6
/- Ways of bodies, written by a program (ways.py): what each asks for, and hands back. -/
namespace Go.Proofs.YtkigmocchaikgabGreat
open Go.RowKit
section
abbrev vRoundK (L : List Ins) (c j : Nat) (S : List St) : Kn := ⟨[(2, .c (.w 1)), (5, .c (.sl 10 0 L.length L.length)), (24, .c (.sl 0 0 L.length c)), (25, .c (.i (L.length : Int))), (26, .c (.i (j : Int)))], [(0, Ent.mk false (pcell L) 0), (1, Ent.mk true [.i 0, .i 0, nilSl] 0), (10, Ent.mk true (scell S) 0)], 11⟩
variable {S S1 S2 : List St} {q c n j : Nat} {k e tr g : Int} {t j1 b a : St} {w : World} {β : Bs} {E : Eff} {L : List Ins} {C : Cx} {R : Ending → World → Prop}
theorem addS_w0 (h : (t.live && (decide (0 ≤ k) && decide (k < (q : Int)) && (Nat.ble (0 + k.toNat * 31 + 31) (scell S).length && (decide (0 ≤ k) && decide (k < (q : Int)) && (Nat.ble (0 + k.toNat * 31 + (j1.cs).length) (scell S).length && true && true))))) = true) (c0 : pe (.ag (((scell S).drop (0 + k.toNat * 31)).take 31)) = pe (.ag (stAt S k.toNat).cs)) (c1 : Ok 35 [.ag (stAt S k.toNat).cs, .ag t.cs] (.tu [.ag j1.cs, .c (.i e)])) (c2 : we 0 (splice (scell S) (0 + k.toNat * 31) j1.cs) = we 0 (scell (S.set k.toNat j1))) (hk : EKeys n [0] none ⟨.tu [], [(0, scell (S.set k.toNat j1))], none⟩) :
  BO 49 Tryz.f49 (cx w β n [0]) [.c (.sl 0 0 q c), .c (.i k), .ag t.cs] [(0, Ent.mk true (scell S) 0)] 1 (REff w β ⟨.tu [], [(0, scell (S.set k.toNat j1))], none⟩) :=
 run_eff2 [0] none [true] ([]) [(2, 5), (2, 12)] Tryz.func49 hk (by kernel_rfl) h (cr_same c0 (cr_cons c1 (cr_same c2 cr_nil)))
theorem addS_w1 (h : (!t.live && true) = true) (hk : EKeys n [0] none ⟨.tu [], [(0, scell S)], none⟩) :
  BO 49 Tryz.f49 (cx w β n [0]) [.c (.sl 0 0 q c), .c (.i k), .ag t.cs] [(0, Ent.mk true (scell S) 0)] 1 (REff w β ⟨.tu [], [(0, scell S)], none⟩) :=
 run_eff2 [0] none [false] ([]) [(2, 5), (2, 12)] Tryz.func49 hk (by kernel_rfl) h cr_nil
theorem addS_all
  (l0 : t.live = true → (decide (0 ≤ k) && decide (k < (q : Int))) = true ∧ (Nat.ble (0 + k.toNat * 31 + 31) (scell S).length) = true ∧ (decide (0 ≤ k) && decide (k < (q : Int))) = true ∧ (Nat.ble (0 + k.toNat * 31 + (j1.cs).length) (scell S).length && true) = true ∧ (pe (.ag (((scell S).drop (0 + k.toNat * 31)).take 31)) = pe (.ag (stAt S k.toNat).cs)) ∧ (Ok 35 [.ag (stAt S k.toNat).cs, .ag t.cs] (.tu [.ag j1.cs, .c (.i e)])) ∧ (we 0 (splice (scell S) (0 + k.toNat * 31) j1.cs) = we 0 (scell (S.set k.toNat j1))) ∧ EKeys n [0] none ⟨.tu [], [(0, scell (S.set k.toNat j1))], none⟩ ∧ ((⟨.tu [], [(0, scell (S.set k.toNat j1))], none⟩ : Eff) = E))
  (l1 : t.live = false → EKeys n [0] none ⟨.tu [], [(0, scell S)], none⟩ ∧ ((⟨.tu [], [(0, scell S)], none⟩ : Eff) = E)) :
  BO 49 Tryz.f49 (cx w β n [0]) [.c (.sl 0 0 q c), .c (.i k), .ag t.cs] [(0, Ent.mk true (scell S) 0)] 1 (REff w β E) :=
 (tf t.live).elim (fun h0 => (match l0 h0 with | ⟨o0, o1, o2, o3, c0, c1, c2, hk, e⟩ => art_eq (addS_w0 (and_yes h0 (and_yes o0 (and_yes o1 (and_yes o2 (and_yes o3 rfl))))) c0 c1 c2 hk) e)) (fun h0 => (match l1 h0 with | ⟨hk, e⟩ => art_eq (addS_w1 (and_yes (not_yes h0) rfl) hk) e))
theorem vTop_w0 (h : (e != 0 && true) = true) (c0 : CO 47 [.c (.sl 0 0 L.length c)] [(0, Ent.mk false (pcell L) 0)] (pe (.c (.i e)))) :
  BO 12 Tryz.f12 (cx w β n []) [.c (.sl 0 0 L.length c)] [(0, Ent.mk false (pcell L) 0)] 1 (REff w β ⟨.tu [.ag [.i 0, .i 0, nilSl], .c (.i e)], [], none⟩) :=
 run_eff2 [] none [true] ([true]) [(4, 2), (5, 3)] Tryz.func12 (ekeys0 rfl n) (by kernel_rfl) h (cr_cons c0 cr_nil)
theorem vTop_w1 (h : (!e != 0 && (decide ((L.length : Int) ≤ (L.length : Int)) && decide ((L.length : Int) ≤ 1099511627776) && true && (decide (0 < (L.length : Int)) && (Nat.ble (0 + (b.cs).length) (scell (List.replicate L.length St.z)).length && true && true)))) = true) (c0 : CO 47 [.c (.sl 0 0 L.length c)] [(0, Ent.mk false (pcell L) 0)] (pe (.c (.i e)))) (c1 : Eff.mk (.c (.sl 10 0 (L.length : Int).toNat (L.length : Int).toNat)) [] (some (1 + 2 + 3 + 2 + 2, Ent.mk true (rows (L.length : Int).toNat St.z.cs) 0)) = Eff.mk (.c (.sl 10 0 L.length L.length)) [] (some (10, Ent.mk true (scell (List.replicate L.length St.z)) 0))) (c2 : Ok 33 [] (.ag b.cs)) (c3 : we 10 (splice (scell (List.replicate L.length St.z)) 0 b.cs) = we 10 (scell ((List.replicate L.length St.z).set 0 b))) (lo : Kn.Low ⟨[(2, .c (.w 1)), (5, .c (.sl 10 0 L.length L.length)), (24, .c (.sl 0 0 L.length c)), (25, .c (.i (L.length : Int))), (26, .c (.i 0))], [(0, Ent.mk false (pcell L) 0), (1, Ent.mk true [.i 0, .i 0, nilSl] 0), (10, Ent.mk true (scell ((List.replicate L.length St.z).set 0 b)) 0)], 11⟩) (hF : ∀ k, C.F k → k < 11) (z : AR 12 Tryz.f12 C 0 ⟨[(2, .c (.w 1)), (5, .c (.sl 10 0 L.length L.length)), (24, .c (.sl 0 0 L.length c)), (25, .c (.i (L.length : Int))), (26, .c (.i 0))], [(0, Ent.mk false (pcell L) 0), (1, Ent.mk true [.i 0, .i 0, nilSl] 0), (10, Ent.mk true (scell ((List.replicate L.length St.z).set 0 b)) 0)], 11⟩ R) :
  BO 12 Tryz.f12 C [.c (.sl 0 0 L.length c)] [(0, Ent.mk false (pcell L) 0)] 1 R :=
 run_cut2 [false] ([true]) [(4, 2), (5, 3)] Tryz.func12 (by kernel_rfl) h (cr_cons c0 (cr_same c1 (cr_cons c2 (cr_same c3 cr_nil)))) lo hF z
theorem vNil_w0 (h : (e != 0 && true) = true) (c0 : Ok 47 [.c nilSl] (.c (.i e))) :
  Ok 12 [.c nilSl] (.tu [.ag [.i 0, .i 0, nilSl], .c (.i e)]) :=
 val_run2 [true] ([true]) [] Tryz.func12 rfl rfl rfl rfl (by kernel_rfl) h (cr_cons c0 cr_nil)
theorem vTrap_w0 (h : (decide ((j : Int) < (L.length : Int)) && (decide ((j : Int) < (L.length : Int)) && (Nat.ble (0 + (j : Int).toNat * 5 + 5) (pcell L).length && (decide ((j : Int) < (L.length : Int)) && (Nat.ble (0 + (j : Int).toNat * 31 + 31) (scell S).length && (tr != 0 && (decide ((↑(j + 1) : Int) ≤ (L.length : Int)) && decide ((L.length : Int) ≤ (L.length : Int)) && true))))))) = true) (c0 : pe (.ag (((pcell L).drop (0 + (j : Int).toNat * 5)).take 5)) = pe (.ag (elt L j).cs)) (c1 : pe (.ag (((scell S).drop (0 + (j : Int).toNat * 31)).take 31)) = pe (.ag (stAt S j).cs)) (c2 : Ok 7 [.ag (elt L j).cs, .ag (stAt S j).cs] (.tu [.ag a.cs, .ag b.cs, .c (.i tr), .c (.i g)])) (c3 : pe (.c (.i (IntKind.i64.wrap ((j : Int) + 1)))) = pe (.c (.i (↑(j + 1) : Int)))) (c4 : pe (.c (.sl 10 0 ((↑(j + 1) : Int)).toNat ((L.length : Int)).toNat)) = pe (.c (.sl 10 0 (j + 1) L.length))) (c5 : CO 48 [.c (.sl 10 0 (j + 1) L.length)] [(10, Ent.mk true (scell S) 0)] (Eff.mk (.c (.sx 43 (j + 1))) [] (some (43, Ent.mk true (scell (S.take (j + 1))) 31)))) (hk : EKeys n [] (some 43) ⟨.tu [.ag [.i tr, .i (j : Int), .sx 43 (j + 1)], .c (.i 0)], [], some (43, Ent.mk true (scell (S.take (j + 1))) 31)⟩) :
  AR 12 Tryz.f12 (cx w β n []) 0 (vRoundK L c j S) (REff w β ⟨.tu [.ag [.i tr, .i (j : Int), .sx 43 (j + 1)], .c (.i 0)], [], some (43, Ent.mk true (scell (S.take (j + 1))) 31)⟩) :=
 run_eff2 [] (some 43) [true, true] ([true]) [(8, 2), (9, 4), (11, 4), (11, 5)] Tryz.func12 hk (by kernel_rfl) h (cr_same c0 (cr_same c1 (cr_cons c2 (cr_same c3 (cr_same c4 (cr_cons c5 cr_nil))))))
theorem vRound_w0 (h : (decide ((j : Int) < (L.length : Int)) && (decide ((j : Int) < (L.length : Int)) && (Nat.ble (0 + (j : Int).toNat * 5 + 5) (pcell L).length && (decide ((j : Int) < (L.length : Int)) && (Nat.ble (0 + (j : Int).toNat * 31 + 31) (scell S).length && (!tr != 0 && true)))))) = true) (c0 : pe (.ag (((pcell L).drop (0 + (j : Int).toNat * 5)).take 5)) = pe (.ag (elt L j).cs)) (c1 : pe (.ag (((scell S).drop (0 + (j : Int).toNat * 31)).take 31)) = pe (.ag (stAt S j).cs)) (c2 : Ok 7 [.ag (elt L j).cs, .ag (stAt S j).cs] (.tu [.ag a.cs, .ag b.cs, .c (.i tr), .c (.i g)])) (c3 : pe (.c (.i (IntKind.i64.wrap ((j : Int) + 1)))) = pe (.c (.i (↑(j + 1) : Int)))) (c4 : CO 49 [.c (.sl 10 0 L.length L.length), .c (.i (↑(j + 1) : Int)), .ag a.cs] [(10, Ent.mk true (scell S) 0)] (Eff.mk (.tu []) [(10, scell S1)] none)) (c5 : pe (.c (.i (IntKind.i64.wrap ((j : Int) + 1)))) = pe (.c (.i (↑(j + 1) : Int)))) (c6 : pe (.c (.i (IntKind.i64.wrap ((↑(j + 1) : Int) + (elt L j).of)))) = pe (.c (.i ((↑(j + 1) : Int) + (elt L j).of)))) (c7 : CO 49 [.c (.sl 10 0 L.length L.length), .c (.i ((↑(j + 1) : Int) + (elt L j).of)), .ag b.cs] [(10, Ent.mk true (scell S1) 0)] (Eff.mk (.tu []) [(10, scell S2)] none)) (c8 : pe (.c (.i (IntKind.i64.wrap ((j : Int) + 1)))) = pe (.c (.i (↑(j + 1) : Int)))) (lo : Kn.Low (vRoundK L c (j + 1) S2)) (hF : ∀ k, C.F k → k < 11) (z : AR 12 Tryz.f12 C 0 (vRoundK L c (j + 1) S2) R) :
  AR 12 Tryz.f12 C 0 (vRoundK L c j S) R :=
 run_cut2 [true, false] ([true]) [(8, 2), (9, 4), (12, 2), (13, 2), (13, 5), (14, 0)] Tryz.func12 (by kernel_rfl) h (cr_same c0 (cr_same c1 (cr_cons c2 (cr_same c3 (cr_cons c4 (cr_same c5 (cr_same c6 (cr_cons c7 (cr_same c8 cr_nil))))))))) lo hF z
theorem vEnd_w0 (h : (!decide ((j : Int) < (L.length : Int)) && true) = true) (hk : EKeys n [] (some 10) ⟨.tu [.ag [.i 0, .i 0, .sl 10 0 L.length L.length], .c (.i 0)], [], some (10, Ent.mk true (scell S) 0)⟩) :
  AR 12 Tryz.f12 (cx w β n []) 0 (vRoundK L c j S) (REff w β ⟨.tu [.ag [.i 0, .i 0, .sl 10 0 L.length L.length], .c (.i 0)], [], some (10, Ent.mk true (scell S) 0)⟩) :=
 run_eff2 [] (some 10) [false] ([true]) [] Tryz.func12 hk (by kernel_rfl) h cr_nil
end
section
variable {S : List St} {q c n : Nat} {w : World} {β : Bs} {L : List Ins}
theorem cloneS_w0 (h : (Nat.ble (0 + q * 31) (scell S).length && (decide (0 + q ≤ 137438953472) && decide (0 < 0 + q)) && true) = true) (c0 : Eff.mk (.c (.sx 6 (0 + q))) [] (some (1 + 1 + 2 + 2, Ent.mk true (((rows 0 St.z.cs).drop 0).take 0 ++ ((scell S).drop 0).take (q * 31)) 31)) = Eff.mk (.c (.sx 6 q)) [] (some (6, Ent.mk true (scell (S.take q)) 31))) (hk : EKeys n [] (some 6) ⟨.c (.sx 6 q), [], some (6, Ent.mk true (scell (S.take q)) 31)⟩) :
  BO 48 Tryz.f48 (cx w β n []) [.c (.sl 0 0 q c)] [(0, Ent.mk false (scell S) 0)] 1 (REff w β ⟨.c (.sx 6 q), [], some (6, Ent.mk true (scell (S.take q)) 31)⟩) :=
 run_eff2 [] (some 6) [false] ([]) [(3, 2)] Tryz.func48 hk (by kernel_rfl) h (cr_same c0 cr_nil)
theorem cloneI_w0 (h : (Nat.ble (0 + L.length * 5) (pcell L).length && (decide (0 + L.length ≤ 137438953472) && decide (0 < 0 + L.length)) && true) = true) (c0 : Eff.mk (.c (.sx 6 (0 + L.length))) [] (some (1 + 1 + 2 + 2, Ent.mk true (((rows 0 [.i 0, .i 0, .i 0, .u 0#64, .i 0]).drop 0).take 0 ++ ((pcell L).drop 0).take (L.length * 5)) 5)) = Eff.mk (.c (.sx 6 L.length)) [] (some (6, Ent.mk true (pcell L) 5))) (hk : EKeys n [] (some 6) ⟨.c (.sx 6 L.length), [], some (6, Ent.mk true (pcell L) 5)⟩) :
  BO 90 Tryz.f90 (cx w β n []) [.c (.sl 0 0 L.length c)] [(0, Ent.mk false (pcell L) 0)] 1 (REff w β ⟨.c (.sx 6 L.length), [], some (6, Ent.mk true (pcell L) 5)⟩) :=
 run_eff2 [] (some 6) [false] ([]) [(3, 2)] Tryz.func90 hk (by kernel_rfl) h (cr_same c0 cr_nil)
end
end Go.Proofs.YtkigmocchaikgabGreat
/- Verifying: each step's state has whatever machine comes to it: plain facts. -/
namespace Go.Proofs.YtkigmocchaikgabGreat
theorem stAt_lt {S : List St} {k : Nat} (h : S.length ≤ k) : stAt S k = St.z := by
 unfold stAt
 rw [List.getD_eq_getElem?_getD, List.getElem?_eq_none h]; rfl
theorem stAt_set {S : List St} {k j : Nat} {t : St} : stAt (S.set k t) j = if k = j ∧ k < S.length then t else stAt S j := by
 unfold stAt
 rw [List.getD_eq_getElem?_getD, List.getD_eq_getElem?_getD, List.getElem?_set]
 by_cases c : k = j
 ·subst c
  by_cases c2 : k < S.length
  ·simp [c2]
  ·simp [c2]
 ·simp [c]
theorem stAt_take {S : List St} {n j : Nat} (h : j < n) : stAt (S.take n) j = stAt S j := by
 unfold stAt
 rw [List.getD_eq_getElem?_getD, List.getD_eq_getElem?_getD, List.getElem?_take, if_pos h]
theorem addS_len (S : List St) (k : Nat) (t : St) : (addS S k t).length = S.length := by
 unfold addS; split
 ·exact List.length_set
 ·rfl
theorem stAt_addS {S : List St} {k j : Nat} {t : St} : stAt (addS S k t) j = if t.live = true ∧ k = j ∧ k < S.length then (stAt S j).join t else stAt S j := by
 unfold addS
 by_cases h : t.live = true
 ·rw [if_pos h, stAt_set]
  by_cases c : k = j
  ·subst c; simp [h]
  ·simp [c]
 ·rw [if_neg h, if_neg (by simp [h])]
theorem addS_ne {S : List St} {k j : Nat} {t : St} (h : k ≠ j) : stAt (addS S k t) j = stAt S j := by rw [stAt_addS, if_neg (by simp [h])]
theorem addS_Ok {S : List St} {k : Nat} {t : St} (h : ∀ j, (stAt S j).Ok) (ht : t.Ok) : ∀ j, (stAt (addS S k t) j).Ok := by
 intro j
 rw [stAt_addS]
 split
 ·exact St.join_Ok (h j) ht
 ·exact h j
theorem addS_keep {S : List St} {k j : Nat} {t : St} {m : Mach} (h : ∀ j, (stAt S j).Ok) (ht : t.Ok) (hm : (stAt S j).Has m) : (stAt (addS S k t) j).Has m := by
 rw [stAt_addS]
 split
 ·exact St.join_Has (h j) ht (Or.inl hm)
 ·exact hm
theorem addS_new {S : List St} {k : Nat} {t : St} {m : Mach} (h : ∀ j, (stAt S j).Ok) (ht : t.Ok) (hk : k < S.length) (hm : t.Has m) : (stAt (addS S k t) k).Has m := by
 rw [stAt_addS, if_pos ⟨hm.live, rfl, hk⟩]
 exact St.join_Has (h k) ht (Or.inr hm)
theorem firstS_len (n : Nat) : (firstS n).length = n := by simp [firstS]
theorem firstS_at {n j : Nat} (hn : 0 < n) : stAt (firstS n) j = if j = 0 then beginS else St.z := by
 unfold firstS
 rw [stAt_set]
 by_cases c : j = 0
 ·subst c; simp [hn]
 ·rw [if_neg (by omega), if_neg c]
  unfold stAt
  rw [List.getD_eq_getElem?_getD, List.getElem?_replicate]
  split <;> rfl
theorem firstS_Ok {n : Nat} (hn : 0 < n) : ∀ j, (stAt (firstS n) j).Ok := by
 intro j
 rw [firstS_at hn]
 split
 ·exact beginS_Ok
 ·exact St.z_Ok
/- where a step's states go to -/
theorem right_lt {L : List Ins} {k : Nat} (hP : RightP L) (hk : k < L.length) : Right (elt L k) ((L.length - 1 - k : Nat) : Int) := hP.step k hk
theorem last_op {L : List Ins} (hP : RightP L) : (elt L (L.length - 1)).op = 15 := hP.last
theorem go1_lt {L : List Ins} {k : Nat} {t : St} (hP : RightP L) (hk : k < L.length) (h : (stepS (elt L k) t).1.live = true) : k + 1 < L.length := by
 rcases Nat.lt_or_ge (k + 1) L.length with h1 | h1
 ·exact h1
 ·have e : k = L.length - 1 := by omega
  have ho := last_op hP
  rw [← e] at ho
  unfold stepS goS at h
  rw [ho] at h
  split at h
  ·split at h
   ·cases h
   ·cases h
  ·cases h
theorem go2_lt {L : List Ins} {k : Nat} {t : St} (hP : RightP L) (hk : k < L.length) (h : (stepS (elt L k) t).2.1.live = true) : 0 ≤ (elt L k).of ∧ k + 1 + (elt L k).of.toNat < L.length ∧ ((elt L k).op = 12 ∨ (elt L k).op = 13 ∨ (elt L k).op = 14) := by
 have hr := right_lt hP hk
 unfold stepS at h
 split at h
 ·split at h
  ·unfold goS at h
   by_cases c1 : (elt L k).op = 10
   ·rw [if_pos c1] at h; cases h
   rw [if_neg c1] at h
   by_cases c2 : (elt L k).op = 11
   ·rw [if_pos c2] at h; cases h
   rw [if_neg c2] at h
   by_cases c3 : (elt L k).op = 12
   ·have := fits_jump hr c3
    exact ⟨this.1, by omega, Or.inl c3⟩
   rw [if_neg c3] at h
   by_cases c4 : (elt L k).op = 13
   ·have := fits_branch hr (Or.inl c4)
    exact ⟨this.2.2.1, by omega, Or.inr (Or.inl c4)⟩
   rw [if_neg c4] at h
   by_cases c5 : (elt L k).op = 14
   ·have := fits_branch hr (Or.inr c5)
    exact ⟨this.2.2.1, by omega, Or.inr (Or.inr c5)⟩
   rw [if_neg c5] at h
   by_cases c6 : (elt L k).op = 15
   ·rw [if_pos c6] at h; cases h
   rw [if_neg c6] at h
   by_cases c7 : (elt L k).op = 1
   ·rw [if_pos c7] at h; cases h
   rw [if_neg c7] at h; cases h
  ·cases h
 ·cases h
/- what comes of verifying from the step k on -/
structure VOut (L : List Ins) (k : Nat) (S : List St) (R : Rep) : Prop where
 ok : ∀ j, (stAt R.sts j).Ok
 same : ∀ j, j ≤ k → k < L.length → stAt R.sts j = stAt S j
 keep : ∀ j m, (stAt S j).Has m → (R.trap = 0 ∨ (j : Int) ≤ R.pos) → (stAt R.sts j).Has m
 step : ∀ j, k ≤ j → j < L.length → (R.trap = 0 ∨ (j : Int) < R.pos) → (stepS (elt L j) (stAt R.sts j)).2.2 = 0 ∧
  (∀ m, (stepS (elt L j) (stAt R.sts j)).1.Has m → (R.trap = 0 ∨ ((j + 1 : Nat) : Int) ≤ R.pos) → (stAt R.sts (j + 1)).Has m) ∧
  (∀ m, (stepS (elt L j) (stAt R.sts j)).2.1.Has m → (R.trap = 0 ∨ ((j + 1 + (elt L j).of.toNat : Nat) : Int) ≤ R.pos) → (stAt R.sts (j + 1 + (elt L j).of.toNat)).Has m)
 none : R.trap = 0 → R.pos = 0 ∧ R.sts.length = L.length
 some : R.trap ≠ 0 → ∃ p : Nat, R.pos = p ∧ k ≤ p ∧ p < L.length ∧ R.sts.length = p + 1 ∧ (stepS (elt L p) (stAt R.sts p)).2.2 = R.trap
theorem verL_out {L : List Ins} (hP : RightP L) : ∀ (n k : Nat) (S : List St), k + n = L.length → S.length = L.length → (∀ j, (stAt S j).Ok) → VOut L k S (verL L n k S)
 | 0, k, S, hk, hS, hok => ⟨hok, fun _ _ _ => rfl, fun _ _ h _ => h, fun j h1 h2 => by omega, fun _ => ⟨rfl, hS⟩, fun h => absurd rfl h⟩
 | n + 1, k, S, hk, hS, hok => by
  have hlt : k < L.length := by omega
  have hr := right_lt hP hlt
  obtain ⟨q1, q2⟩ := stepS_Ok hr (hok k)
  unfold verL
  by_cases h0 : (stepS (elt L k) (stAt S k)).2.2 = 0
  ·rw [if_pos h0]
   have hok1 := addS_Ok (k := k + 1) hok q1
   have hok2 := addS_Ok (k := k + 1 + (elt L k).of.toNat) hok1 q2
   have ih := verL_out hP n (k + 1) (addS (addS S (k + 1) (stepS (elt L k) (stAt S k)).1) (k + 1 + (elt L k).of.toNat) (stepS (elt L k) (stAt S k)).2.1) (by omega) (by rw [addS_len, addS_len]; exact hS) hok2
   have hsame : ∀ j, j ≤ k → stAt (addS (addS S (k + 1) (stepS (elt L k) (stAt S k)).1) (k + 1 + (elt L k).of.toNat) (stepS (elt L k) (stAt S k)).2.1) j = stAt S j := by
    intro j hj
    rw [addS_ne (by omega), addS_ne (by omega)]
   have hsk : ∀ j, j ≤ k → stAt (verL L n (k + 1) (addS (addS S (k + 1) (stepS (elt L k) (stAt S k)).1) (k + 1 + (elt L k).of.toNat) (stepS (elt L k) (stAt S k)).2.1)).sts j = stAt S j := by
    intro j hj
    by_cases c : k + 1 < L.length
    ·rw [ih.same j (by omega) c, hsame j hj]
    ·have : n = 0 := by omega
     subst this
     exact hsame j hj
   refine ⟨ih.ok, fun j hj _ => hsk j hj, fun j m hm hb => ih.keep j m (addS_keep hok1 q2 (addS_keep hok q1 hm)) hb, fun j h1 h2 hb => ?_, ih.none, fun h => ?_⟩
   ·by_cases c : j = k
    ·subst c
     rw [hsk j (Nat.le_refl _)]
     refine ⟨h0, fun m hm hb => ?_, fun m hm hb => ?_⟩
     ·have h3 := go1_lt hP h2 hm.live
      exact ih.keep _ m (addS_keep hok1 q2 (addS_new hok q1 (by omega) hm)) hb
     ·have h3 := go2_lt hP h2 hm.live
      exact ih.keep _ m (addS_new hok1 q2 (by rw [addS_len]; omega) hm) hb
    ·exact ih.step j (by omega) h2 hb
   ·obtain ⟨p, h1, h2, h3⟩ := ih.some h
    exact ⟨p, h1, by omega, h3⟩
  ·rw [if_neg h0]
   refine ⟨fun j => ?_, fun j hj _ => stAt_take (by omega), fun j m hm hb => ?_, fun j h1 _ hb => ?_, fun h => absurd h h0, fun _ => ⟨k, rfl, Nat.le_refl _, hlt, ?_, ?_⟩⟩
   ·by_cases c : j < k + 1
    ·show (stAt (S.take (k + 1)) j).Ok
     rw [stAt_take c]; exact hok j
    ·show (stAt (S.take (k + 1)) j).Ok
     rw [stAt_lt (by rw [List.length_take]; omega)]; exact St.z_Ok
   ·have : (j : Int) ≤ (k : Int) := hb.resolve_left h0
    show (stAt (S.take (k + 1)) j).Has m
    rw [stAt_take (by omega)]; exact hm
   ·have : (j : Int) < (k : Int) := hb.resolve_left h0
    omega
   ·show (S.take (k + 1)).length = k + 1
    rw [List.length_take]; omega
   ·show (stepS (elt L k) (stAt (S.take (k + 1)) k)).2.2 = _
    rw [stAt_take (by omega)]
theorem verify_out {L : List Ins} (hP : RightP L) : VOut L 0 (firstS L.length) (verifyS L) :=
 verL_out hP L.length 0 _ (by omega) (firstS_len _) (firstS_Ok hP.pos)
theorem verify_first {L : List Ins} (hP : RightP L) : stAt (verifyS L).sts 0 = beginS := by
 rw [(verify_out hP).same 0 (Nat.le_refl _) hP.pos, firstS_at hP.pos, if_pos rfl]
/- machines that come to a step -/
theorem begin_Has {s : ByteArray} {x : BitVec 64} (hs : s.size = 64) : beginS.Has (startM s x) := by
 have hm : machErr (startM s x) = 0 := by
  unfold machErr
  have : headB (startM s x) = true := by simp [headB, startM, Mach.wth, hs]
  rw [this]
  rfl
 refine ⟨beginS_Ok, rfl, hm, rfl, fun j hj h => ?_⟩
 unfold beginS at h ⊢
 rw [St.wth_s (by decide) hj] at h
 rw [St.wth_r (by decide) hj]
 by_cases c : 1 = j
 ·subst c
  rw [if_pos rfl]; exact ⟨rfl, V4.any_has _⟩
 ·rw [if_neg c, show St.e.s = no6 from rfl, no6_get j hj] at h; cases h
theorem stepS_live {i : Ins} {t : St} (hl : t.live = true) (h : (stepS i t).2.2 = 0) : trapS i t = 0 ∧ (stepS i t).1 = (goS i t).1 ∧ (stepS i t).2.1 = (goS i t).2 := by
 unfold stepS at h ⊢
 rw [if_pos hl] at h ⊢
 by_cases c : trapS i t = 0
 ·rw [if_pos c]; exact ⟨c, rfl, rfl⟩
 ·rw [if_neg c] at h; exact absurd h c
/- a machine that is had where it is, ahead of the first trap, goes on so -/
theorem verify_step {L : List Ins} (hP : RightP L) {m : Mach} (h0 : 0 ≤ m.t) (h1 : m.t < L.length) (hb : (verifyS L).trap = 0 ∨ m.t < (verifyS L).pos) (hm : (stAt (verifyS L).sts m.t.toNat).Has m) :
  (stepM (insAt L m.t) m).fin = 3 ∨ ((stepM (insAt L m.t) m).fin = 0 ∧ (machErr (stepM (insAt L m.t) m) = 0 → ((verifyS L).trap = 0 ∨ (stepM (insAt L m.t) m).t ≤ (verifyS L).pos) → (stAt (verifyS L).sts (stepM (insAt L m.t) m).t.toNat).Has (stepM (insAt L m.t) m))) := by
 have hlt : m.t.toNat < L.length := by omega
 obtain ⟨g0, g1, g2⟩ := (verify_out hP).step m.t.toNat (Nat.zero_le _) hlt (by omega)
 have e : insAt L m.t = elt L m.t.toNat := rfl
 have hr := right_lt hP hlt
 rw [← e] at g0 g1 g2 hr
 obtain ⟨t0, e1, e2⟩ := stepS_live hm.live g0
 rw [e1] at g1
 rw [e2] at g2
 rcases stepS_sound hr hm t0 with ⟨h3, _⟩ | ⟨h3, h4⟩
 ·exact Or.inl h3
 ·refine Or.inr ⟨h3, fun hme hb' => ?_⟩
  rcases h4 hme with ⟨h5, h6⟩ | ⟨h5, h6, h7⟩
  ·have := g1 _ h6 (by omega)
   rwa [show m.t.toNat + 1 = (stepM (insAt L m.t) m).t.toNat by omega] at this
  ·have h8 := go2_lt hP hlt (t := stAt (verifyS L).sts m.t.toNat) (by rw [← e, e2]; exact h7.live)
   rw [← e] at h8
   have := g2 _ h7 (by omega)
   rwa [show m.t.toNat + 1 + (insAt L m.t).of.toNat = (stepM (insAt L m.t) m).t.toNat by omega] at this
end Go.Proofs.YtkigmocchaikgabGreat
/- Rows of things that have as many cells each. -/
namespace Go.Proofs.YtkigmocchaikgabGreat
open Go.RowKit
section
variable {α : Type} {f : α → List AC} {m : Nat}
theorem flat_len (hf : ∀ x, (f x).length = m) : ∀ l : List α, (l.flatMap f).length = l.length * m
 | [] => by simp
 | x :: l => by rw [List.flatMap_cons, List.length_append, hf, flat_len hf l, List.length_cons, Nat.add_mul, Nat.one_mul, Nat.add_comm]
theorem flat_drop (hf : ∀ x, (f x).length = m) : ∀ (l : List α) (k : Nat), (l.flatMap f).drop (k * m) = (l.drop k).flatMap f
 | l, 0 => by simp
 | [], k + 1 => by simp
 | x :: l, k + 1 => by
  rw [List.flatMap_cons, show (k + 1) * m = (f x).length + k * m by rw [hf, Nat.add_mul, Nat.one_mul, Nat.add_comm], ← List.drop_drop, List.drop_left, flat_drop hf l k]
  rfl
theorem flat_take (hf : ∀ x, (f x).length = m) : ∀ (l : List α) (k : Nat), (l.flatMap f).take (k * m) = (l.take k).flatMap f
 | l, 0 => by simp
 | [], k + 1 => by simp
 | x :: l, k + 1 => by
  rw [List.flatMap_cons, show (k + 1) * m = (f x).length + k * m by rw [hf, Nat.add_mul, Nat.one_mul, Nat.add_comm], List.take_append, Nat.add_sub_cancel_left, flat_take hf l k, List.take_of_length_le (by omega)]
  rfl
theorem flat_at (hf : ∀ x, (f x).length = m) {l : List α} {k : Nat} (d : α) (h : k < l.length) : ((l.flatMap f).drop (k * m)).take m = f (l.getD k d) := by
 rw [flat_drop hf, List.drop_eq_getElem_cons h, List.flatMap_cons, List.getD_eq_getElem?_getD, List.getElem?_eq_getElem h]
 rw [List.take_append_of_le_length (by rw [hf]; exact Nat.le_refl _)]
 exact List.take_of_length_le (by rw [hf]; exact Nat.le_refl _)
theorem flat_set (hf : ∀ x, (f x).length = m) {l : List α} {k : Nat} (x : α) (h : k < l.length) : (l.flatMap f).take (k * m) ++ (f x ++ (l.flatMap f).drop (k * m + (f x).length)) = (l.set k x).flatMap f := by
 rw [hf, show k * m + m = (k + 1) * m by rw [Nat.add_mul, Nat.one_mul], flat_take hf, flat_drop hf, List.set_eq_take_append_cons_drop, if_pos h, List.flatMap_append, List.flatMap_cons]
theorem flat_ks (hf : ∀ x, (f x).flatMap AC.ks = []) : ∀ l : List α, (l.flatMap f).flatMap AC.ks = []
 | [] => rfl
 | x :: l => by rw [List.flatMap_cons, List.flatMap_append, hf, flat_ks hf l]; rfl
theorem flat_rows (x : α) : ∀ n : Nat, rows n (f x) = (List.replicate n x).flatMap f
 | 0 => rfl
 | n + 1 => by
  have := flat_rows x n
  unfold rows at this ⊢
  rw [List.replicate_succ, List.flatten_cons, this, List.replicate_succ, List.flatMap_cons]
end
theorem scell_len (S : List St) : (scell S).length = S.length * 31 := flat_len (f := St.cs) (fun _ => rfl) S
theorem scell_ks (S : List St) : (scell S).flatMap AC.ks = [] := flat_ks (f := St.cs) (fun _ => rfl) S
theorem scell_at {S : List St} {k : Nat} (h : k < S.length) : List.take 31 (List.drop (k * 31) (scell S)) = (stAt S k).cs := flat_at (f := St.cs) (fun _ => rfl) St.z h
theorem scell_set {S : List St} {k : Nat} (t : St) (h : k < S.length) : splice (scell S) (k * 31) t.cs = scell (S.set k t) := flat_set (f := St.cs) (fun _ => rfl) t h
theorem scell_take (S : List St) (q : Nat) : List.take (q * 31) (scell S) = scell (S.take q) := flat_take (f := St.cs) (fun _ => rfl) S q
theorem scell_rows (n : Nat) : rows n St.z.cs = scell (List.replicate n St.z) := flat_rows (f := St.cs) St.z n
theorem pcell_set {L : List Ins} {k : Nat} (i : Ins) (h : k < L.length) : splice (pcell L) (k * 5) i.cs = pcell (L.set k i) := flat_set (f := Ins.cs) (fun _ => rfl) i h
theorem sble {S : List St} {k : Nat} (h : k < S.length) : Nat.ble (0 + k * 31 + 31) (scell S).length = true := by
 rw [scell_len, Nat.ble_eq]; omega
theorem sat_eff {S : List St} {k : Nat} (h : k < S.length) : Eff.mk (AV.ag (List.take 31 (List.drop (0 + k * 31) (scell S)))) [] none = Eff.mk (AV.ag (St.cs (stAt S k))) [] none := by
 rw [Nat.zero_add, scell_at h]
/- a call that reads a program and hands back a new block -/
theorem one_look {K : Nat} {en e : Ent} {k : Nat} (h : look [(K, en)] k = some e) : k = K ∧ e = en := by
 rw [look_cons] at h
 split at h
 ·rename_i hk; injection h with h; exact ⟨hk, h.symm⟩
 ·cases h
theorem rnew_of {P : Program} {f : FuncId} {fn : Func} {args : List AV} {cs : List AC} {K : Nat} {en : Ent} {v : AV} (hf : P.funcs[f]? = some fn) (hb : fn.body.isSome = true) (hN : Nat.ble args.length fn.ntmps = true) (ha : (keysOf args).all (fun k => Nat.blt k 1) = true) (hcs : cs.flatMap AC.ks = []) (hK : 1 ≤ K) (hv : v.ks = [K]) (hc : en.cells.flatMap AC.ks = [])
  (h : ∀ w β, EKeys 1 [] (some K) ⟨v, [], some (K, en)⟩ → ART P f (cx w β 1 []) fn.ntmps [.code (bodyOf fn)] (Kn.start args [(0, ⟨false, cs, 0⟩)] 1) (REff w β ⟨v, [], some (K, en)⟩)) : CallOK P ⟨f, args, [(0, ⟨false, cs, 0⟩)], ⟨v, [], some (K, en)⟩⟩ := by
 have e : EKeys 1 [] (some K) ⟨v, [], some (K, en)⟩ := by
  refine ⟨fun k hk => Or.inr ?_, fun _ _ hm => (nomatch hm), fun k en' h' => ?_, fun _ h => (nomatch h), fun k h => ⟨?_, rfl⟩⟩
  ·simp only at hk; rw [hv] at hk; rw [List.mem_singleton.1 hk]
  ·injection h' with h'; injection h' with _ h'; subst h'; exact hc
  ·injection h with h; subst h; exact hK
 have hB : Begin args [(0, ⟨false, cs, 0⟩)] 1 := by
  refine ⟨fun v hv k hk => ?_, fun k e he => ?_⟩
  ·have h2 := List.all_eq_true.1 ha k (List.mem_flatMap.2 ⟨v, hv, hk⟩)
   simpa using h2
  ·obtain ⟨rfl, rfl⟩ := one_look he
   exact ⟨by decide, fun c hc j hj => (nk_of hcs hc hj).elim⟩
 refine eff_of [] (some K) hf hb hN hB (fun k hk => Or.inr ?_) (fun k en' h' => ?_) (fun k h => ⟨en, ?_⟩) e (fun _ _ hm => (nomatch hm)) (fun k en h1 h2 => ?_) fun w β _ => h w β e
 ·simp only at hk; rw [hv] at hk; rw [List.mem_singleton.1 hk]
 ·injection h' with h'; injection h' with h' _; rw [h']
 ·injection h with h; subst h; rfl
 ·obtain ⟨_, rfl⟩ := one_look h1; cases h2
theorem cloneS_ok {S : List St} {q c : Nat} (h0 : 0 < q) (h1 : q ≤ S.length) (h2 : q ≤ 64) : CallOK Tryz.prog ⟨48, [.c (.sl 0 0 q c)], [(0, ⟨false, scell S, 0⟩)], ⟨.c (.sx 6 q), [], some (6, ⟨true, scell (S.take q), 31⟩)⟩⟩ := by
 refine rnew_of Tryz.func48 rfl rfl rfl (scell_ks S) (by decide) rfl (scell_ks _) fun w β hk => cloneS_w0 ?_ ?_ hk
 ·have e : Nat.ble (0 + q * 31) (scell S).length = true := by rw [scell_len, Nat.ble_eq]; omega
  rw [e, decide_eq_true (by omega : 0 + q ≤ 137438953472), decide_eq_true (by omega : 0 < 0 + q)]; rfl
 ·rw [Nat.zero_add, List.drop_zero, List.drop_zero, scell_take]; rfl
theorem cloneI_ok {L : List Ins} {c : Nat} (h0 : 0 < L.length) (h2 : L.length ≤ 64) : CallOK Tryz.prog ⟨90, [.c (.sl 0 0 L.length c)], pH L, ⟨.c (.sx 6 L.length), [], some (6, ⟨true, pcell L, 5⟩)⟩⟩ := by
 refine rnew_of Tryz.func90 rfl rfl rfl (pcell_ks L) (by decide) rfl (pcell_ks _) fun w β hk => cloneI_w0 ?_ ?_ hk
 ·have e : Nat.ble (0 + L.length * 5) (pcell L).length = true := by rw [pcell_length, Nat.ble_eq]; omega
  rw [e, decide_eq_true (by omega : 0 + L.length ≤ 137438953472), decide_eq_true (by omega : 0 < 0 + L.length)]; rfl
 ·rw [Nat.zero_add, List.drop_zero, List.drop_zero, ← pcell_length, List.take_length]; rfl
/- a call that writes the one block that it is handed -/
theorem wr_of {P : Program} {f : FuncId} {fn : Func} {args : List AV} {cs cs' : List AC} {v : AV} (hf : P.funcs[f]? = some fn) (hb : fn.body.isSome = true) (hN : Nat.ble args.length fn.ntmps = true) (ha : (keysOf args).all (fun k => Nat.blt k 1) = true) (hcs : cs.flatMap AC.ks = []) (hne : cs ≠ []) (hv : v.ks = []) (hc : cs'.flatMap AC.ks = [])
  (h : ∀ w β, EKeys 1 [0] none ⟨v, [(0, cs')], none⟩ → ART P f (cx w β 1 [0]) fn.ntmps [.code (bodyOf fn)] (Kn.start args [(0, ⟨true, cs, 0⟩)] 1) (REff w β ⟨v, [(0, cs')], none⟩)) : CallOK P ⟨f, args, [(0, ⟨true, cs, 0⟩)], ⟨v, [(0, cs')], none⟩⟩ := by
 have e : EKeys 1 [0] none ⟨v, [(0, cs')], none⟩ := by
  refine ⟨fun k hk => ?_, fun k cs hm => ?_, fun _ _ h' => (nomatch h'), fun k h => ?_, fun _ h => (nomatch h)⟩
  ·simp only at hk; rw [hv] at hk; cases hk
  ·have := List.mem_singleton.1 hm; injection this with _ h2; subst h2; exact hc
  ·rw [List.mem_singleton.1 h]; decide
 have hB : Begin args [(0, ⟨true, cs, 0⟩)] 1 := by
  refine ⟨fun v hv k hk => ?_, fun k e he => ?_⟩
  ·have h2 := List.all_eq_true.1 ha k (List.mem_flatMap.2 ⟨v, hv, hk⟩)
   simpa using h2
  ·obtain ⟨rfl, rfl⟩ := one_look he
   exact ⟨by decide, fun c hc j hj => (nk_of hcs hc hj).elim⟩
 refine eff_of [0] none hf hb hN hB (fun k hk => ?_) (fun _ _ h' => (nomatch h')) (fun _ h => (nomatch h)) e (fun k cs' hm => ?_) (fun k en h1 h2 => ?_) fun w β _ => h w β e
 ·simp only at hk; rw [hv] at hk; cases hk
 ·have := List.mem_singleton.1 hm; injection this with h1 h2; subst h1
  exact ⟨⟨true, cs, 0⟩, rfl, rfl, hne⟩
 ·obtain ⟨rfl, _⟩ := one_look h1; exact List.mem_singleton.2 rfl
theorem scell_ne {S : List St} (h : 0 < S.length) : scell S ≠ [] := fun e => by
 have := scell_len S
 rw [e] at this
 simp at this
 omega
theorem add_ok {S : List St} {c : Nat} {k : Int} {t : St} (h0 : 0 < S.length) (hk : t.live = true → 0 ≤ k ∧ k < S.length) (ht : t.Ok) (hS : ∀ j, (stAt S j).Ok) : CallOK Tryz.prog ⟨49, [.c (.sl 0 0 S.length c), .c (.i k), .ag t.cs], [(0, ⟨true, scell S, 0⟩)], ⟨.tu [], [(0, scell (addS S k.toNat t))], none⟩⟩ := by
 refine wr_of Tryz.func49 rfl rfl rfl (scell_ks S) (scell_ne h0) rfl (scell_ks _) fun w β hkk => ?_
 refine addS_all (j1 := (stAt S k.toNat).join t) (e := 0) (fun hl => ?_) (fun hl => ?_)
 ·obtain ⟨k0, k1⟩ := hk hl
  have hlt : k.toNat < S.length := by omega
  have e1 : (decide (0 ≤ k) && decide (k < (↑S.length : Int))) = true := and_yes (decide_eq_true k0) (decide_eq_true k1)
  have ea : addS S k.toNat t = S.set k.toNat ((stAt S k.toNat).join t) := by unfold addS; rw [if_pos hl]
  rw [ea] at hkk
  have hj := fjoin_ok (stAt S k.toNat) t
  have ab : ((stAt S k.toNat).ok && t.ok) = true := and_yes (St.ok_iff.2 (hS _)) (St.ok_iff.2 ht)
  unfold joinA joinE at hj
  rw [if_pos ab, if_pos ab] at hj
  refine ⟨e1, sble hlt, e1, ?_, sat_eff hlt, hj, ?_, hkk, ?_⟩
  ·rw [show (St.cs ((stAt S k.toNat).join t)).length = 31 from rfl, sble hlt]; rfl
  ·rw [Nat.zero_add, scell_set _ hlt]
  ·rw [ea]
 ·have ea : addS S k.toNat t = S := by unfold addS; rw [if_neg (by rw [hl]; decide)]
  rw [ea] at hkk ⊢
  exact ⟨hkk, rfl⟩
abbrev vKn (L : List Ins) (c : Nat) (S : List St) (j : Nat) : Kn := ⟨[(2, .c (.w 1)), (5, .c (.sl 10 0 L.length L.length)), (24, .c (.sl 0 0 L.length c)), (25, .c (.i (L.length : Int))), (26, .c (.i (j : Int)))], [(0, ⟨false, pcell L, 0⟩), (1, ⟨true, [AC.i 0, AC.i 0, nilSl], 0⟩), (10, ⟨true, scell S, 0⟩)], 11⟩
theorem v_low (L : List Ins) (c : Nat) (S : List St) (j : Nat) : Kn.Low (vKn L c S j) := low_n rfl rfl ⟨pcell_ks L, rfl, scell_ks S, trivial⟩
/- what Verify hands back -/
def okE (K : Nat) (n : Nat) (S : List St) : Eff := ⟨.tu [.ag [.i 0, .i 0, .sl K 0 n n], .c (.i 0)], [], some (K, ⟨true, scell S, 0⟩)⟩
def trapE (K : Nat) (R : Rep) : Eff := ⟨.tu [.ag [.i R.trap, .i R.pos, .sx K R.sts.length], .c (.i 0)], [], some (K, ⟨true, scell R.sts, 31⟩)⟩
def verE (n : Nat) (R : Rep) : Eff := if R.trap = 0 then okE 10 n R.sts else trapE 43 R
theorem ekeys_ok (K n : Nat) (S : List St) (hK : 1 ≤ K) : EKeys 1 [] (some K) (okE K n S) := by
 refine ⟨fun k hk => Or.inr ?_, fun _ _ hm => (nomatch hm), fun k en' h' => ?_, fun _ h => (nomatch h), fun k h => ⟨?_, rfl⟩⟩
 ·have : k ∈ [K] := hk
  rw [List.mem_singleton.1 this]
 ·injection h' with h'; injection h' with _ h'; subst h'; exact scell_ks S
 ·injection h with h; subst h; exact hK
theorem ekeys_trap (K : Nat) (R : Rep) (hK : 1 ≤ K) : EKeys 1 [] (some K) (trapE K R) := by
 refine ⟨fun k hk => Or.inr ?_, fun _ _ hm => (nomatch hm), fun k en' h' => ?_, fun _ h => (nomatch h), fun k h => ⟨?_, rfl⟩⟩
 ·have : k ∈ [K] := hk
  rw [List.mem_singleton.1 this]
 ·injection h' with h'; injection h' with _ h'; subst h'; exact scell_ks R.sts
 ·injection h with h; subst h; exact hK
theorem step_in {L : List Ins} {k : Nat} {t : St} (hP : RightP L) (hk : k < L.length) (ht : t.Ok) : Ok 7 [.ag (elt L k).cs, .ag t.cs] (.tu [.ag (stepS (elt L k) t).1.cs, .ag (stepS (elt L k) t).2.1.cs, .c (.i (stepS (elt L k) t).2.2), .c (.i 0)]) := by
 have h := fstep_ok (elt L k) t
 have hle := hP.le
 have hb : (fineI (elt L k) && t.ok) = true := and_yes (fine_right.2 ((right_lt hP hk).mono (by omega))) (St.ok_iff.2 ht)
 unfold stepA stepE at h
 rwa [if_pos hb, if_pos hb] at h
theorem offB {i : Ins} {n : Int} (hr : Right i n) (hn : n ≤ 64) : -64 ≤ i.of ∧ i.of ≤ 64 := by
 rcases ops_of hr with c | c | c | c | c | c | c | c
 ·have := fits_reach hr (Or.inl c); omega
 ·have := fits_reach hr (Or.inr c); omega
 ·have := fits_jump hr c; omega
 ·have := fits_branch hr (Or.inl c); omega
 ·have := fits_branch hr (Or.inr c); omega
 ·have := fits_exit hr c; omega
 ·have := fits_two hr (by omega); omega
 ·have := fits_two hr (by omega); omega
theorem verLoop {L : List Ins} {c : Nat} (hP : RightP L) {w : World} {β : Bs} : ∀ (n k : Nat) (S : List St), k + n = L.length → S.length = L.length → (∀ j, (stAt S j).Ok) →
  ART Tryz.prog 12 (cx w β 1 []) Tryz.f12.ntmps (cutAt Tryz.f12 0) (vKn L c S k) (REff w β (verE L.length (verL L n k S)))
 | 0, k, S, hk, hS, hok => by
  have e : verE L.length (verL L 0 k S) = okE 10 L.length S := by unfold verL verE; rw [if_pos rfl]
  rw [e]
  refine vEnd_w0 ?_ (ekeys_ok 10 L.length S (by decide))
  rw [decide_eq_false (by omega : ¬ (k : Int) < (L.length : Int))]; rfl
 | n + 1, k, S, hk, hS, hok => by
  have hlt : k < L.length := by omega
  have hltS : k < S.length := by omega
  have hle := hP.le
  have hr := right_lt hP hlt
  have hst := step_in hP hlt (hok k)
  have d0 : decide ((k : Int) < (L.length : Int)) = true := jl hlt
  have f1 : Nat.ble (0 + Int.toNat (k : Int) * 5 + 5) (pcell L).length = true := pble hlt
  have f2 : Nat.ble (0 + Int.toNat (k : Int) * 31 + 31) (scell S).length = true := sble hltS
  have f3 := elt_eff hlt
  have f4 : Eff.mk (AV.ag (List.take 31 (List.drop (0 + Int.toNat (k : Int) * 31) (scell S)))) [] none = Eff.mk (AV.ag (St.cs (stAt S k))) [] none := sat_eff hltS
  have f5 : Eff.mk (AV.c (AC.i (IntKind.wrap IntKind.i64 ((k : Int) + 1)))) [] none = Eff.mk (AV.c (AC.i ((k + 1 : Nat) : Int))) [] none := by rw [wrapS (by omega)]
  obtain ⟨q1, q2⟩ := stepS_Ok hr (hok k)
  unfold verL
  by_cases h0 : (stepS (elt L k) (stAt S k)).2.2 = 0
  ·rw [if_pos h0]
   have e1 : (!(stepS (elt L k) (stAt S k)).2.2 != 0) = true := by rw [h0]; rfl
   have hok1 := addS_Ok (k := k + 1) hok q1
   have hok2 := addS_Ok (k := k + 1 + (elt L k).of.toNat) hok1 q2
   have a1 := add_ok (S := S) (c := L.length) (k := ((k + 1 : Nat) : Int)) (by omega) (fun hl => by have := go1_lt hP hlt hl; omega) q1 hok
   have len1 : (addS S (k + 1) (stepS (elt L k) (stAt S k)).1).length = L.length := by rw [addS_len]; exact hS
   have a2 := add_ok (S := addS S (k + 1) (stepS (elt L k) (stAt S k)).1) (c := L.length) (k := ((k + 1 : Nat) : Int) + (elt L k).of) (by omega) (fun hl => by have := go2_lt hP hlt hl; omega) q2 hok1
   rw [hS] at a1
   rw [len1] at a2
   have hS2 : addS (addS S (k + 1) (stepS (elt L k) (stAt S k)).1) (((k + 1 : Nat) : Int) + (elt L k).of).toNat (stepS (elt L k) (stAt S k)).2.1 = addS (addS S (k + 1) (stepS (elt L k) (stAt S k)).1) (k + 1 + (elt L k).of.toNat) (stepS (elt L k) (stAt S k)).2.1 := by
    by_cases hl : (stepS (elt L k) (stAt S k)).2.1.live = true
    ·have := go2_lt hP hlt hl
     rw [show (((k + 1 : Nat) : Int) + (elt L k).of).toNat = k + 1 + (elt L k).of.toNat by omega]
    ·unfold addS; rw [if_neg hl, if_neg hl]
   rw [hS2] at a2
   rw [show ((k + 1 : Nat) : Int).toNat = k + 1 from rfl] at a1
   have b1 := a1.ren (swp 0 10) (swp_inj 0 10)
   have b2 := a2.ren (swp 0 10) (swp_inj 0 10)
   unfold CallRec.ren Eff.ren renH at b1 b2
   simp only [List.map_cons, List.map_nil, Option.map_none] at b1 b2
   have hR := offB hr (by omega)
   refine vRound_w0 (S1 := addS S (k + 1) (stepS (elt L k) (stAt S k)).1) (S2 := addS (addS S (k + 1) (stepS (elt L k) (stAt S k)).1) (k + 1 + (elt L k).of.toNat) (stepS (elt L k) (stAt S k)).2.1)
    (and_yes d0 (and_yes d0 (and_yes f1 (and_yes d0 (and_yes f2 (and_yes e1 rfl)))))) f3 f4 hst f5 (b1.congr ?_) f5 ?_ (b2.congr ?_) f5 (v_low _ _ _ _) (fun _ h => Nat.lt_of_lt_of_le h (by decide)) (verLoop hP n (k + 1) _ (by omega) (by rw [addS_len, addS_len]; exact hS) hok2)
   ·simp only [Ent.ren, ren_nk _ (scell_ks _)]
    rfl
   ·rw [wrapN (by omega) (by omega)]
   ·simp only [Ent.ren, ren_nk _ (scell_ks _)]
    rfl
  ·rw [if_neg h0]
   have e1 : ((stepS (elt L k) (stAt S k)).2.2 != 0) = true := by simpa using h0
   have eE : verE L.length ⟨(stepS (elt L k) (stAt S k)).2.2, k, S.take (k + 1)⟩ = trapE 43 ⟨(stepS (elt L k) (stAt S k)).2.2, k, S.take (k + 1)⟩ := by unfold verE; rw [if_neg h0]
   have hlen : (S.take (k + 1)).length = k + 1 := by rw [List.length_take]; omega
   have hk := ekeys_trap 43 ⟨(stepS (elt L k) (stAt S k)).2.2, k, S.take (k + 1)⟩ (by decide)
   have cl := ((cloneS_ok (S := S) (q := k + 1) (c := L.length) (by omega) (by omega) (by omega)).ren (swp 6 43) (swp_inj 6 43)).ren (swp 0 10) (swp_inj 0 10)
   rw [eE]
   unfold trapE at hk ⊢
   simp only [hlen] at hk ⊢
   refine vTrap_w0 (and_yes d0 (and_yes d0 (and_yes f1 (and_yes d0 (and_yes f2 (and_yes e1 (and_yes (and_yes (decide_eq_true (by omega)) (decide_eq_true (by omega))) rfl))))))) f3 f4 hst f5 rfl ?_ hk
   refine CallOK.more (H := [(10, ⟨false, scell S, 0⟩)]) ?_ ⟨fun j en hj => ?_⟩
   ·refine cl.congr ?_
    unfold CallRec.ren Eff.ren renH
    simp only [List.map_cons, List.map_nil, Option.map_some, Ent.ren, ren_nk _ (scell_ks _)]
    rfl
   ·obtain ⟨rfl, rfl⟩ := one_look hj
    exact ⟨⟨true, scell S, 0⟩, rfl, rfl, fun h => (by cases h), Or.inl rfl⟩
theorem verify_err {L : List Ins} {c : Nat} (h : codeErr L ≠ 0) : CallOK Tryz.prog ⟨12, [.c (.sl 0 0 L.length c)], pH L, ⟨.tu [.ag [.i 0, .i 0, nilSl], .c (.i (codeErr L))], [], none⟩⟩ := by
 refine read_of Tryz.func12 rfl rfl (begin_p rfl) rfl ro_p fun w β => ?_
 exact vTop_w0 (and_yes (by simpa using h) rfl) (check_ok L c)
theorem verify_nil : Ok 12 [.c nilSl] (.tu [.ag [.i 0, .i 0, nilSl], .c (.i 2)]) := vNil_w0 rfl check_nil
theorem verify_ret {L : List Ins} {c : Nat} (h : codeErr L = 0) : CallOK Tryz.prog ⟨12, [.c (.sl 0 0 L.length c)], pH L, verE L.length (verifyS L)⟩ := by
 have hP := codeErr_zero h
 have hp := hP.pos
 have hle := hP.le
 have main : ∀ w β, ART Tryz.prog 12 (cx w β 1 []) Tryz.f12.ntmps [.code (bodyOf Tryz.f12)] (Kn.start [.c (.sl 0 0 L.length c)] (pH L) 1) (REff w β (verE L.length (verifyS L))) := by
  intro w β
  have hb : (scell (List.replicate L.length St.z)).length = L.length * 31 := by rw [scell_len, List.length_replicate]
  refine vTop_w1 (b := beginS) (e := codeErr L) ?_ (check_ok L c) ?_ fbegin_ok ?_ (v_low L c (firstS L.length) 0) (fun _ h => Nat.lt_of_lt_of_le h (by decide)) (verLoop hP L.length 0 (firstS L.length) (by omega) (firstS_len _) (firstS_Ok hp))
  ·have e1 : (!codeErr L != 0) = true := by rw [h]; rfl
   have e2 : Nat.ble (0 + (St.cs beginS).length) (scell (List.replicate L.length St.z)).length = true := by rw [hb, st_len, Nat.ble_eq]; omega
   rw [e1, e2, decide_eq_true (by omega : (L.length : Int) ≤ (L.length : Int)), decide_eq_true (by omega : (L.length : Int) ≤ 1099511627776), decide_eq_true (by omega : (0 : Int) < (L.length : Int))]; rfl
  ·rw [Int.toNat_natCast, scell_rows]
  ·have := scell_set (S := List.replicate L.length St.z) (k := 0) beginS (by rw [List.length_replicate]; exact hp)
   rw [Nat.zero_mul] at this
   rw [this]
 by_cases h0 : (verifyS L).trap = 0
 ·have e : verE L.length (verifyS L) = okE 10 L.length (verifyS L).sts := by unfold verE; rw [if_pos h0]
  rw [e] at main ⊢
  exact rnew_of Tryz.func12 rfl rfl rfl (pcell_ks L) (by decide) rfl (scell_ks _) fun w β _ => main w β
 ·have e : verE L.length (verifyS L) = trapE 43 (verifyS L) := by unfold verE; rw [if_neg h0]
  rw [e] at main ⊢
  exact rnew_of Tryz.func12 rfl rfl rfl (pcell_ks L) (by decide) rfl (scell_ks _) fun w β _ => main w β
/- the states, those behind a trap too -/
def verF (L : List Ins) : Nat → Nat → List St → List St
 | 0, _, S => S
 | n + 1, k, S => if (stepS (elt L k) (stAt S k)).2.2 = 0 then verF L n (k + 1) (addS (addS S (k + 1) (stepS (elt L k) (stAt S k)).1) (k + 1 + (elt L k).of.toNat) (stepS (elt L k) (stAt S k)).2.1) else S
def voE (K : Nat) (L : List Ins) (R : Rep) (F : List St) : Eff := ⟨.ag [.i R.trap, .i R.pos, .sl K 0 R.sts.length L.length], [], some (K, ⟨true, scell F, 0⟩)⟩
theorem vo_keys (K : Nat) (L : List Ins) (R : Rep) (F : List St) (hK : 1 ≤ K) : EKeys 1 [] (some K) (voE K L R F) := by
 refine ⟨fun k hk => Or.inr ?_, fun _ _ hm => (nomatch hm), fun k en' h' => ?_, fun _ h => (nomatch h), fun k h => ⟨?_, rfl⟩⟩
 ·have : k ∈ [K] := hk
  rw [List.mem_singleton.1 this]
 ·injection h' with h'; injection h' with _ h'; subst h'; exact scell_ks F
 ·injection h with h; subst h; exact hK
theorem add_out {S : List St} {k : Nat} {t : St} (h : S.length ≤ k) : addS S k t = S := by
 unfold addS
 split
 ·exact List.set_eq_of_length_le h
 ·rfl
theorem set_stAt {S : List St} {k : Nat} (h : k < S.length) : S.set k (stAt S k) = S := by
 unfold stAt
 rw [List.getD_eq_getElem?_getD, List.getElem?_eq_getElem h]
 exact List.set_getElem_self h
theorem add_ref {S : List St} {k : Nat} {t : St} (hS : (stAt S k).Ok) (ht : t.Ok) (h : k < S.length) : S.set k ((stAt S k).join t) = addS S k t := by
 unfold addS
 by_cases hl : t.live = true
 ·rw [if_pos hl]
 ·rw [if_neg hl]
  have hd : t = St.z := ht.dead (by simpa using hl)
  unfold St.join
  by_cases h1 : (stAt S k).live = true
  ·rw [if_pos h1, if_neg hl]; exact set_stAt h
  ·rw [if_neg h1, hd, ← hS.dead (by simpa using h1)]; exact set_stAt h
abbrev voKn (L : List Ins) (c : Nat) (S : List St) (j : Nat) : Kn := ⟨[(0, .c (.sl 0 0 L.length c)), (2, .c (.w 1)), (3, .c (.sl 4 0 L.length L.length)), (4, .c (.i (j : Int)))], [(0, ⟨false, pcell L, 0⟩), (1, ⟨true, [.i 0, .i 0, nilSl], 0⟩), (4, ⟨true, scell S, 0⟩)], 6⟩
theorem vo_low (L : List Ins) (c : Nat) (S : List St) (j : Nat) : Kn.Low (voKn L c S j) := low_n rfl rfl ⟨pcell_ks L, rfl, scell_ks S, trivial⟩
theorem voLoop {L : List Ins} {c : Nat} (hP : RightP L) {w : World} {β : Bs} : ∀ (n k : Nat) (S : List St), k + n = L.length → S.length = L.length → (∀ j, (stAt S j).Ok) →
  ART Tryz.prog 14 (cx w β 1 []) Tryz.f14.ntmps (cutAt Tryz.f14 0) (voKn L c S k) (REff w β (voE 4 L (verL L n k S) (verF L n k S)))
 | 0, k, S, hk, hS, _ => by
  have hkk := vo_keys 4 L ⟨0, 0, S⟩ S (by decide)
  unfold verL verF
  unfold voE at hkk ⊢
  simp only [hS] at hkk ⊢
  exact roVEnd_w0 (and_yes (by rw [decide_eq_false (by omega)]; rfl) rfl) hkk
 | n + 1, k, S, hk, hS, hok => by
  have hlt : k < L.length := by omega
  have hltS : k < S.length := by omega
  have hle := hP.le
  have hr := right_lt hP hlt
  have hst := stepState_ok (i := elt L k) (t := stAt S k) (hr.mono (by omega)) (hok k)
  unfold stE at hst
  have d0 : decide ((k : Int) < (L.length : Int)) = true := jl hlt
  have f1 : Nat.ble (0 + Int.toNat (k : Int) * 5 + 5) (pcell L).length = true := pble hlt
  have f2 : Nat.ble (0 + Int.toNat (k : Int) * 31 + 31) (scell S).length = true := sble hltS
  have f3 := elt_eff hlt
  have f4 : Eff.mk (AV.ag (List.take 31 (List.drop (0 + Int.toNat (k : Int) * 31) (scell S)))) [] none = Eff.mk (AV.ag (St.cs (stAt S k))) [] none := sat_eff hltS
  have f5 : Eff.mk (AV.c (AC.i (IntKind.wrap IntKind.i64 ((k : Int) + 1)))) [] none = Eff.mk (AV.c (AC.i ((k + 1 : Nat) : Int))) [] none := by rw [wrapS (by omega)]
  obtain ⟨q1, q2⟩ := stepS_Ok hr (hok k)
  have hR := offB hr (by omega)
  unfold verL verF
  by_cases h0 : (stepS (elt L k) (stAt S k)).2.2 = 0
  ·rw [if_pos h0, if_pos h0]
   rw [h0] at hst
   have hok1 := addS_Ok (k := k + 1) hok q1
   have hok2 := addS_Ok (k := k + 1 + (elt L k).of.toNat) hok1 q2
   have len1 : (addS S (k + 1) (stepS (elt L k) (stAt S k)).1).length = L.length := by rw [addS_len]; exact hS
   have next := voLoop (c := c) hP (w := w) (β := β) n (k + 1) (addS (addS S (k + 1) (stepS (elt L k) (stAt S k)).1) (k + 1 + (elt L k).of.toNat) (stepS (elt L k) (stAt S k)).2.1) (by omega) (by rw [addS_len, addS_len]; exact hS) hok2
   have g0 : (pcell L)[0 + Int.toNat (k : Int) * 5 + 4]? = some (AC.i (elt L k).of) := by
    have h3 := congrArg (fun l => l[4]?) (pcell_elt (L := L) (k := k) hlt)
    simp only [List.getElem?_take, List.getElem?_drop] at h3
    rw [if_pos (by decide)] at h3
    rw [Int.toNat_natCast, Nat.zero_add]
    exact h3
   have g1 : (AC.isI (Option.getD (pcell L)[0 + Int.toNat (k : Int) * 5 + 4]? (AC.b false)) && Nat.blt (0 + Int.toNat (k : Int) * 5 + 4) (pcell L).length) = true := by
    rw [g0, Bool.and_eq_true]
    exact ⟨rfl, by rw [pcell_length, Nat.blt_eq]; omega⟩
   have g2 : Eff.mk (AV.c (AC.i (AC.asI (Option.getD (pcell L)[0 + Int.toNat (k : Int) * 5 + 4]? (AC.b false))))) [] none = Eff.mk (AV.c (AC.i (elt L k).of)) [] none := by rw [g0]; rfl
   have g3 : Eff.mk (AV.c (AC.i (IntKind.wrap IntKind.i64 (((k + 1 : Nat) : Int) + (elt L k).of)))) [] none = Eff.mk (AV.c (AC.i (((k + 1 : Nat) : Int) + (elt L k).of))) [] none := by rw [wrapN (by omega) (by omega)]
   have hF : ∀ j, (cx w β 1 []).F j → j < 6 := fun _ h => Nat.lt_of_lt_of_le h (by decide)
   have sb : ∀ (T : List St) (x : Nat) (u : St), T.length = L.length → x < L.length → (Nat.ble (0 + x * 31 + List.length (St.cs u)) (scell T).length && true) = true := fun T x u hT hx => by
    rw [show List.length (St.cs u) = 31 from rfl, sble (by omega)]; rfl
   by_cases hla : k + 1 < L.length
   ·have d1 : decide (((k + 1 : Nat) : Int) < (L.length : Int)) = true := decide_eq_true (by omega)
    have j1 := refJoinS_ok (hok (k + 1)) q1
    have s1 : Eff.mk (AV.raw undef) [(4, splice (scell S) (0 + Int.toNat ((k + 1 : Nat) : Int) * 31) (St.cs ((stAt S (k + 1)).join (stepS (elt L k) (stAt S k)).1)))] none = Eff.mk (AV.raw undef) [(4, scell (addS S (k + 1) (stepS (elt L k) (stAt S k)).1))] none := by
     rw [Int.toNat_natCast, Nat.zero_add, scell_set _ (by omega), add_ref (hok _) q1 (by omega)]
    by_cases hl : (stepS (elt L k) (stAt S k)).2.1.live = true
    ·have hx := go2_lt hP hlt hl
     have ex : (((k + 1 : Nat) : Int) + (elt L k).of).toNat = k + 1 + (elt L k).of.toNat := by omega
     have j2 := refJoinS_ok (hok1 (k + 1 + (elt L k).of.toNat)) q2
     have d2 : (decide (0 ≤ ((k + 1 : Nat) : Int) + (elt L k).of) && decide (((k + 1 : Nat) : Int) + (elt L k).of < (L.length : Int))) = true := and_yes (decide_eq_true (by omega)) (decide_eq_true (by omega))
     refine roV01_w0 (and_yes d0 (and_yes d0 (and_yes f1 (and_yes d0 (and_yes f2 (and_yes d1 (and_yes d1 (and_yes (sble (by omega)) (and_yes d1 (and_yes (sb S (k + 1) _ hS hla) (and_yes d0 (and_yes g1 (and_yes hl (and_yes d2 (and_yes (by rw [ex]; exact sble (by omega)) (and_yes d2 (by rw [ex, sb _ _ _ len1 (by omega)]; rfl))))))))))))))))) f3 f4 hst f5 f5 f5 (sat_eff (by omega)) j1 s1 f5 g2 g3 (by rw [ex]; exact sat_eff (by omega)) j2 ?_ f5 (vo_low _ _ _ _) hF next
     rw [ex, Nat.zero_add, scell_set _ (by omega), add_ref (hok1 _) q2 (by omega)]
    ·have e2 : ∀ x, addS (addS S (k + 1) (stepS (elt L k) (stAt S k)).1) x (stepS (elt L k) (stAt S k)).2.1 = addS S (k + 1) (stepS (elt L k) (stAt S k)).1 := fun x => by rw [addS, if_neg hl]
     rw [e2] at next ⊢
     exact roV00_w0 (and_yes d0 (and_yes d0 (and_yes f1 (and_yes d0 (and_yes f2 (and_yes d1 (and_yes d1 (and_yes (sble (by omega)) (and_yes d1 (and_yes (sb S (k + 1) _ hS hla) (and_yes d0 (and_yes g1 (and_yes (by rw [Bool.not_eq_true] at hl; rw [hl]; rfl) rfl))))))))))))) f3 f4 hst f5 f5 f5 (sat_eff (by omega)) j1 s1 f5 g2 g3 f5 (vo_low _ _ _ _) hF next
   ·have d1 : (!decide (((k + 1 : Nat) : Int) < (L.length : Int))) = true := by rw [decide_eq_false (by omega)]; rfl
    have e1 : addS S (k + 1) (stepS (elt L k) (stAt S k)).1 = S := add_out (by omega)
    have hl : ¬ (stepS (elt L k) (stAt S k)).2.1.live = true := fun hl => by have := go2_lt hP hlt hl; omega
    have e2 : ∀ x, addS S x (stepS (elt L k) (stAt S k)).2.1 = S := fun x => by rw [addS, if_neg hl]
    rw [e1, e2] at next ⊢
    exact roV10_w0 (and_yes d0 (and_yes d0 (and_yes f1 (and_yes d0 (and_yes f2 (and_yes d1 (and_yes d0 (and_yes g1 (and_yes (by rw [Bool.not_eq_true] at hl; rw [hl]; rfl) rfl))))))))) f3 f4 hst f5 f5 g2 g3 f5 (vo_low _ _ _ _) hF next
  ·rw [if_neg h0, if_neg h0]
   have hlen : (S.take (k + 1)).length = k + 1 := by rw [List.length_take]; omega
   have hkk := vo_keys 4 L ⟨(stepS (elt L k) (stAt S k)).2.2, k, S.take (k + 1)⟩ S (by decide)
   unfold voE at hkk ⊢
   simp only [hlen] at hkk ⊢
   exact roVTrap_w0 (and_yes d0 (and_yes d0 (and_yes f1 (and_yes d0 (and_yes f2 (and_yes (by simpa using h0) (and_yes (and_yes (decide_eq_true (by omega)) (decide_eq_true (by omega))) rfl))))))) f3 f4 hst f5 rfl hkk
theorem verifyOf_ok {L : List Ins} {c : Nat} (hP : RightP L) : CallOK Tryz.prog ⟨14, [.c (.sl 0 0 L.length c)], pH L, voE 4 L (verifyS L) (verF L L.length 0 (firstS L.length))⟩ := by
 have hpos := hP.pos
 have hle := hP.le
 refine rnew_of Tryz.func14 rfl rfl rfl (pcell_ks L) (by decide) rfl (scell_ks _) fun w β _ => ?_
 refine roV_w0 (b := beginS) ?_ ?_ rbegin_ok ?_ (vo_low _ _ _ 0) (fun _ h => Nat.lt_of_lt_of_le h (by decide)) (voLoop hP L.length 0 (firstS L.length) (by omega) (firstS_len _) (firstS_Ok hpos))
 ·have : Nat.ble (0 + List.length (St.cs beginS)) (scell (List.replicate L.length St.z)).length = true := by rw [scell_len, List.length_replicate, Nat.ble_eq]; show 0 + 31 ≤ _; omega
  rw [this]
  simp; omega
 ·rw [Int.toNat_natCast, scell_rows]
 ·have := scell_set (S := List.replicate L.length St.z) (k := 0) beginS (by rw [List.length_replicate]; exact hpos)
  rw [Nat.zero_mul] at this
  rw [this]
section
variable {i : Ins} {t a b : St} {tr : Int}
end
section
variable {s a b c d e f j : St}
end

theorem pC_u (x : BitVec 64) : eqC (.u x) (.u x) = true := by simp [eqC, eqb]
theorem pCs_cons {a : AC} {l : List AC} (h : eqC a a = true) (k : eqCs l l = true) : eqCs (a :: l) (a :: l) = true := by rw [eqCs, h, k]; rfl
section
variable {S S2 : List St}
end
theorem CallOK.off {P : Program} {f n c o r : Nat} {b : Bool} {cs cells : List AC} {e : Eff} (h : CallOK P ⟨f, [.c (.sl 0 0 n c)], [(0, ⟨false, cs, 0⟩)], e⟩) (hwr : e.wr = []) (hv : ∀ k, k ∈ e.v.ks → k ≠ 0) (hn0 : ∀ k en, e.nw = some (k, en) → k ≠ 0) (hnk : ∀ k en, e.nw = some (k, en) → en.cells.flatMap AC.ks = [])
  (hcs : ∀ j x, cs[j]? = some x → cells[o + j]? = some x) (hks : cs.flatMap AC.ks = []) : CallOK P ⟨f, [.c (.sl 0 o n c)], [(0, ⟨b, cells, r⟩)], e⟩ := by
 have look0 : ∀ k, (∃ en, look [(0, (⟨false, cs, 0⟩ : Ent))] k = some en) → ∃ en, look [(0, (⟨b, cells, r⟩ : Ent))] k = some en := fun k ⟨en, hk⟩ => by
  obtain ⟨rfl, _⟩ := one_look hk
  exact ⟨_, rfl⟩
 refine ⟨⟨fun k hk => ext_mono look0 _ k (h.keys.v k hk), fun k x hm => (by rw [hwr] at hm; cases hm), fun k en hm x hx j hj => (nk_of (hnk k en hm) hx hj).elim⟩, fun k x hm => (by rw [hwr] at hm; cases hm), fun β w hB hI => ?_⟩
 have hb0 := hB 0 ⟨b, cells, r⟩ rfl
 have h1 := h.call (bset β 0 ((β 0).1, (β 0).2.1 + o, (β 0).2.2)) w (fun k en hk => ?_) (fun k en k' en' hk hk' hne => ?_)
 ·have ha : ([AV.c (AC.sl 0 0 n c)].map (AV.g (bset β 0 ((β 0).1, (β 0).2.1 + o, (β 0).2.2)))).toArray = ([AV.c (AC.sl 0 o n c)].map (AV.g β)).toArray := by
   simp [AV.g, AC.g, ptr, bset]
  simp only at h1
  rw [ha] at h1
  refine h1.mono fun en w' ⟨β', he, hu⟩ => ?_
  have hnw := hu.nw
  have hfr : Fr (fun B => ∃ k x, (k, x) ∈ e.wr ∧ B = (β k).1) w w' := hu.frame.mono fun B ⟨k, x, hm, _⟩ => (by rw [hwr] at hm; cases hm)
  cases hn : e.nw with
  | none =>
   rw [hn] at hnw
   have hβ : β' = bset β 0 ((β 0).1, (β 0).2.1 + o, (β 0).2.2) := hnw
   refine ⟨β, ?_, ⟨hfr, fun k x hm => (by rw [hwr] at hm; cases hm), by rw [hn]; rfl⟩⟩
   rw [he, hβ, AV.g_congr e.v fun k hk => ?_]
   unfold bset
   rw [if_neg (hv k hk)]
  | some x =>
   obtain ⟨k, en'⟩ := x
   rw [hn] at hnw
   obtain ⟨b1, o1, c1, h2, h3, h4, h5⟩ := hnw
   have hk0 := hn0 k en' hn
   have hβ : ∀ j, j ≠ 0 → β' j = bset β k (b1, o1, c1) j := fun j hj => by
    rw [h4]
    unfold bset
    by_cases c : j = k
    ·rw [if_pos c, if_pos c]
    ·rw [if_neg c, if_neg c, if_neg hj]
   refine ⟨bset β k (b1, o1, c1), ?_, ⟨hfr, fun k x hm => (by rw [hwr] at hm; cases hm), ?_⟩⟩
   ·rw [he]
    rw [AV.g_congr e.v fun j hj => hβ j (hv j hj)]
   ·rw [hn]
    refine ⟨b1, o1, c1, Or.inl (h2.resolve_right fun ⟨k0, hk, _⟩ => (by rw [hwr] at hk; cases hk)), h3, rfl, ?_⟩
    exact h5.congr (hβ k hk0).symm (Nat.le_refl _) rfl fun x hx j hj => (nk_of (hnk k en' hn) hx hj).elim
 ·obtain ⟨rfl, rfl⟩ := one_look hk
  refine ⟨hb0.lt, fun j x hj => ?_, (fun h => by cases h), fun h => absurd rfl h⟩
  have := hb0.cell (o + j) x (hcs j x hj)
  have e1 : ptr (bset β 0 ((β 0).1, (β 0).2.1 + o, (β 0).2.2)) 0 j = ptr β 0 (o + j) := by simp [ptr, bset, Nat.add_assoc]
  rw [e1, this, AC.g_congr x fun k hk => (nk_of hks (List.mem_of_getElem? hj) hk).elim]
 ·obtain ⟨rfl, _⟩ := one_look hk
  obtain ⟨rfl, _⟩ := one_look hk'
  exact absurd rfl hne
theorem okE_ren (ρ : Nat → Nat) (K n : Nat) (S : List St) : (okE K n S).ren ρ = okE (ρ K) n S := by
 unfold okE Eff.ren
 simp only [Option.map_some, Ent.ren, ren_nk ρ (scell_ks S)]
 rfl
theorem trapE_ren (ρ : Nat → Nat) (K : Nat) (R : Rep) : (trapE K R).ren ρ = trapE (ρ K) R := by
 unfold trapE Eff.ren
 simp only [Option.map_some, Ent.ren, ren_nk ρ (scell_ks R.sts)]
 rfl
theorem p_to {P : Program} {f : Nat} {args args' : List AV} {L : List Ins} {e e' : Eff} (h : CallOK P ⟨f, args, pH L, e⟩) (K : Nat) (b : Bool) (ha : args.map (AV.ren (swp 0 K)) = args') (he : e.ren (swp 0 K) = e') : CallOK P ⟨f, args', [(K, ⟨b, pcell L, 0⟩)], e'⟩ := by
 have h1 := h.ren (swp 0 K) (swp_inj 0 K)
 unfold CallRec.ren at h1
 simp only [ha, he] at h1
 refine h1.more ⟨fun k en hk => ?_⟩
 have e1 : renH (swp 0 K) (pH L) = [(K, ⟨false, pcell L, 0⟩)] := by
  show [(swp 0 K 0, Ent.mk false ((pcell L).map (AC.ren (swp 0 K))) 0)] = _
  rw [ren_nk _ (pcell_ks L)]
  rfl
 rw [e1] at hk
 obtain ⟨rfl, rfl⟩ := one_look hk
 exact ⟨⟨b, pcell L, 0⟩, by rw [look_cons, if_pos rfl], rfl, fun h => (by cases h), Or.inl rfl⟩
theorem swp_fst (a b : Nat) : swp a b a = b := by unfold swp; rw [if_pos rfl]
theorem swp_other {a b j : Nat} (h1 : j ≠ a) (h2 : j ≠ b) : swp a b j = j := by unfold swp; rw [if_neg h1, if_neg h2]
theorem pH_ren {ρ : Nat → Nat} {L : List Ins} (h : ρ 0 = 0) : renH ρ (pH L) = pH L := by
 show [(ρ 0, Ent.mk false ((pcell L).map (AC.ren ρ)) 0)] = _
 rw [ren_nk _ (pcell_ks L), h]
theorem verify_okK {L : List Ins} {c : Nat} (h : codeErr L = 0) (h0 : (verifyS L).trap = 0) {K : Nat} (hK : K ≠ 0) : CallOK Tryz.prog ⟨12, [.c (.sl 0 0 L.length c)], pH L, okE K L.length (verifyS L).sts⟩ := by
 have h1 := verify_ret (c := c) h
 unfold verE at h1
 rw [if_pos h0] at h1
 have h2 := h1.ren (swp 10 K) (swp_inj 10 K)
 have e0 : swp 10 K 0 = 0 := swp_other (by decide) (Ne.symm hK)
 unfold CallRec.ren at h2
 simp only [okE_ren, swp_fst, pH_ren e0] at h2
 refine h2.congr ?_
 show CallRec.mk _ [AV.c (AC.sl 0 0 L.length c)] _ _ = CallRec.mk _ [AV.c (AC.sl (swp 10 K 0) 0 L.length c)] _ _
 rw [e0]
theorem verify_trK {L : List Ins} {c : Nat} (h : codeErr L = 0) (h0 : (verifyS L).trap ≠ 0) {K : Nat} (hK : K ≠ 0) : CallOK Tryz.prog ⟨12, [.c (.sl 0 0 L.length c)], pH L, trapE K (verifyS L)⟩ := by
 have h1 := verify_ret (c := c) h
 unfold verE at h1
 rw [if_neg h0] at h1
 have h2 := h1.ren (swp 43 K) (swp_inj 43 K)
 have e0 : swp 43 K 0 = 0 := swp_other (by decide) (Ne.symm hK)
 unfold CallRec.ren at h2
 simp only [trapE_ren, swp_fst, pH_ren e0] at h2
 refine h2.congr ?_
 show CallRec.mk _ [AV.c (AC.sl 0 0 L.length c)] _ _ = CallRec.mk _ [AV.c (AC.sl (swp 43 K 0) 0 L.length c)] _ _
 rw [e0]
theorem two_look {K K' : Nat} {en en' e : Ent} {k : Nat} (h : look [(K, en), (K', en')] k = some e) : (k = K ∧ e = en) ∨ (k = K' ∧ e = en') := by
 rw [look_cons] at h
 split at h
 ·rename_i hk; injection h with h; exact Or.inl ⟨hk, h.symm⟩
 ·exact Or.inr (one_look h)
theorem low_th {T : List (Nat × AV)} {n : Nat} (h : (T.flatMap fun x => x.2.ks).all (fun k => Nat.blt k n) = true) (t : Nat) (v : AV) (hv : look T t = some v) (k : Nat) (hk : k ∈ v.ks) : k < n := by
 have h1 : k ∈ T.flatMap fun x => x.2.ks := List.mem_flatMap.2 ⟨(t, v), look_mem hv, hk⟩
 have h2 := List.all_eq_true.1 h k h1
 simpa using h2
theorem voE_ren (ρ : Nat → Nat) (K : Nat) (L : List Ins) (R : Rep) (F : List St) : (voE K L R F).ren ρ = voE (ρ K) L R F := by
 unfold voE Eff.ren
 simp only [Option.map_some, Ent.ren, ren_nk ρ (scell_ks F)]
 rfl
theorem pC_i (x : Int) : eqC (.i x) (.i x) = true := by simp [eqC]
theorem peq_ins (i : Ins) : eqCs i.cs i.cs = true := pCs_cons (pC_i _) (pCs_cons (pC_i _) (pCs_cons (pC_i _) (pCs_cons (pC_u _) (pCs_cons (pC_i _) rfl))))
abbrev scKn (L L2 : List Ins) (q c d j : Nat) : Kn := ⟨[(0, .c (.sl 0 0 q c)), (1, .c (.sl 1 0 q d)), (5, .c (.i (j : Int)))], [(0, ⟨false, pcell L, 0⟩), (1, ⟨false, pcell L2, 0⟩)], 2⟩
theorem sc_low (L L2 : List Ins) (q c d j : Nat) : Kn.Low (scKn L L2 q c d j) := low_n rfl rfl ⟨pcell_ks L, pcell_ks L2, trivial⟩
theorem scLoop {L : List Ins} {c d : Nat} (hq : L.length ≤ 64) {w : World} {β : Bs} : ∀ n j, j + n = L.length →
  ART Tryz.prog 22 (cx w β 2 []) Tryz.f22.ntmps (cutAt Tryz.f22 0) (scKn L L L.length c d j) (REff w β ⟨.c (.b true), [], none⟩)
 | 0, j, hj => scE_w0 (and_yes (by rw [decide_eq_false (by omega)]; rfl) rfl)
 | n + 1, j, hj => by
  have d0 : decide ((j : Int) < (L.length : Int)) = true := decide_eq_true (by omega)
  have d1 := pble (L := L) (j := j) (by omega)
  have e0 := elt_eff (L := L) (j := j) (by omega)
  exact scR_w0 (u := elt L j) (and_yes d0 (and_yes d0 (and_yes d1 (and_yes d0 (and_yes d1 (and_yes (by rw [peq_ins]; rfl) rfl)))))) e0 e0 (by rw [wrapS (by omega)]) (sc_low _ _ _ _ _ _) (fun _ h => h) (scLoop hq n (j + 1) (by omega))
theorem begin_pp {L L2 : List Ins} {args : List AV} (ha : (keysOf args).all (fun k => Nat.blt k 2) = true) : Begin args [(0, ⟨false, pcell L, 0⟩), (1, ⟨false, pcell L2, 0⟩)] 2 := by
 refine ⟨fun v hv k hk => ?_, fun k e he => ?_⟩
 ·have h2 := List.all_eq_true.1 ha k (List.mem_flatMap.2 ⟨v, hv, hk⟩)
  simpa using h2
 ·rcases two_look he with ⟨rfl, rfl⟩ | ⟨rfl, rfl⟩ <;> exact ⟨by decide, fun c hc j hj => (nk_of (pcell_ks _) hc hj).elim⟩
theorem sameCode_ok {L : List Ins} (hq : L.length ≤ 64) (c d : Nat) : CallOK Tryz.prog ⟨22, [.c (.sl 0 0 L.length c), .c (.sl 1 0 L.length d)], [(0, ⟨false, pcell L, 0⟩), (1, ⟨false, pcell L, 0⟩)], ⟨.c (.b true), [], none⟩⟩ :=
 read_of Tryz.func22 rfl rfl (begin_pp rfl) rfl (fun k en h => by rcases two_look h with ⟨_, rfl⟩ | ⟨_, rfl⟩ <;> rfl) fun w β => scTop_w0 (by simp) (sc_low _ _ _ _ _ 0) (fun _ h => h) (scLoop hq L.length 0 (by omega))
theorem sameCode_nil : Ok 22 [.c nilSl, .c nilSl] (.c (.b true)) := scNil_w0
/- two blocks, under other keys -/
theorem two_ren {P : Program} {f : Nat} {x y v : AV} {cs ds : List AC} (h : CallOK P ⟨f, [x, y], [(0, ⟨false, cs, 0⟩), (1, ⟨false, ds, 0⟩)], ⟨v, [], none⟩⟩) (hc : cs.flatMap AC.ks = []) (hd : ds.flatMap AC.ks = []) {a b : Nat} (hab : a ≠ b) (p q : Bool) (r s : Nat) :
  CallOK P ⟨f, [x.ren (ren2 1 a b), y.ren (ren2 1 a b)], [(a, ⟨p, cs, r⟩), (b, ⟨q, ds, s⟩)], ⟨v.ren (ren2 1 a b), [], none⟩⟩ := by
 refine CallOK.more (H := [(a, ⟨false, cs, 0⟩), (b, ⟨false, ds, 0⟩)]) ?_ ⟨fun j en hj => ?_⟩
 ·refine (h.ren (ren2 1 a b) (ren2_inj hab)).congr ?_
  unfold CallRec.ren Eff.ren renH
  simp only [List.map_cons, List.map_nil, Option.map_none, Ent.ren, ren_nk _ hc, ren_nk _ hd]
  rfl
 ·rcases two_look hj with ⟨rfl, rfl⟩ | ⟨rfl, rfl⟩
  ·exact ⟨⟨p, cs, r⟩, by rw [look_cons, if_pos rfl], rfl, fun h => (by cases h), Or.inl rfl⟩
  ·exact ⟨⟨q, ds, s⟩, by rw [look_cons, if_neg (Ne.symm hab), look_cons, if_pos rfl], rfl, fun h => (by cases h), Or.inl rfl⟩
theorem sameCode_at {L : List Ins} (hq : L.length ≤ 64) (a b c d : Nat) (hab : a ≠ b) (p q : Bool) (r s : Nat) : CallOK Tryz.prog ⟨22, [.c (.sl a 0 L.length c), .c (.sl b 0 L.length d)], [(a, ⟨p, pcell L, r⟩), (b, ⟨q, pcell L, s⟩)], ⟨.c (.b true), [], none⟩⟩ :=
 (two_ren (sameCode_ok hq c d) (pcell_ks L) (pcell_ks L) hab p q r s).congr (by simp [AV.ren, AC.ren, ren2])
theorem sameCode_sx {L : List Ins} (hq : L.length ≤ 64) (a b c : Nat) (hab : a ≠ b) (p q : Bool) (r s : Nat) : CallOK Tryz.prog ⟨22, [.c (.sl a 0 L.length c), .c (.sx b L.length)], [(a, ⟨p, pcell L, r⟩), (b, ⟨q, pcell L, s⟩)], ⟨.c (.b true), [], none⟩⟩ :=
 CallOK.of_cap (xs := [.c (.sl a 0 L.length c)]) (bs := []) fun d => sameCode_at hq a b c d hab p q r s
theorem sameCode_xx {L : List Ins} (hq : L.length ≤ 64) (a b : Nat) (hab : a ≠ b) (p q : Bool) (r s : Nat) : CallOK Tryz.prog ⟨22, [.c (.sx a L.length), .c (.sx b L.length)], [(a, ⟨p, pcell L, r⟩), (b, ⟨q, pcell L, s⟩)], ⟨.c (.b true), [], none⟩⟩ :=
 CallOK.of_cap (xs := []) (bs := [.c (.sx b L.length)]) fun c => sameCode_sx hq a b c hab p q r s
/- a row whose room is not asked for -/
theorem reff_room {w w' : World} {β : Bs} {v : AV} {k r : Nat} {b : Bool} {cs : List AC} {en : Ending} (h : REff w β ⟨v, [], some (k, ⟨b, cs, r⟩)⟩ en w') : REff w β ⟨v, [], some (k, ⟨b, cs, 0⟩)⟩ en w' := by
 obtain ⟨β', he, hu⟩ := h
 obtain ⟨x, o, c, h1, h2, h3, h4⟩ := hu.nw
 exact ⟨β', he, hu.frame, hu.wr, x, o, c, h1, h2, h3, h4.lt, h4.cell, h4.free, fun h => absurd rfl h⟩
theorem art_mono {P : Program} {f : FuncId} {C : Cx} {N : Nat} {todo : List Item} {σ : Kn} {R R' : Ending → World → Prop} (h : ART P f C N todo σ R) (k : ∀ e w, R e w → R' e w) : ART P f C N todo σ R' := fun β a w hr cs => by
 obtain ⟨e, w', fr, h1, h2⟩ := h β a w hr cs
 exact ⟨e, w', fr, k e w' h1, h2⟩
theorem call_room {P : Program} {f : Nat} {args : List AV} {H : List (Nat × Ent)} {v : AV} {k r : Nat} {b : Bool} {cs : List AC} (h : CallOK P ⟨f, args, H, ⟨v, [], some (k, ⟨b, cs, r⟩)⟩⟩) : CallOK P ⟨f, args, H, ⟨v, [], some (k, ⟨b, cs, 0⟩)⟩⟩ := by
 refine ⟨⟨h.keys.v, h.keys.wr, fun j en hj c hc i hi => ?_⟩, h.wr, fun β w hB hI => (h.call β w hB hI).mono fun e w' he => reff_room he⟩
 injection hj with hj; injection hj with h1 h2; subst h1 h2
 exact h.keys.nw k ⟨b, cs, r⟩ rfl c hc i hi
/- a new program, under another key -/
def newE (K n : Nat) (L : List Ins) : Eff := ⟨.c (.sx K n), [], some (K, ⟨true, pcell L, 0⟩)⟩
theorem newE_ren (ρ : Nat → Nat) (K n : Nat) (L : List Ins) : (newE K n L).ren ρ = newE (ρ K) n L := by
 unfold newE Eff.ren
 simp only [Option.map_some, Ent.ren, ren_nk ρ (pcell_ks L)]
 rfl
theorem newE_to {f a : Nat} {L M : List Ins} {n c : Nat} (h : CallOK Tryz.prog ⟨f, [.c (.sl 0 0 n c)], pH L, newE a n M⟩) (ha : a ≠ 0) {K : Nat} (hK : K ≠ 0) : CallOK Tryz.prog ⟨f, [.c (.sl 0 0 n c)], pH L, newE K n M⟩ := by
 have h2 := h.ren (swp a K) (swp_inj a K)
 have e0 : swp a K 0 = 0 := swp_other (Ne.symm ha) (Ne.symm hK)
 unfold CallRec.ren at h2
 simp only [newE_ren, swp_fst, pH_ren e0] at h2
 refine h2.congr ?_
 show CallRec.mk _ [AV.c (AC.sl 0 0 n c)] _ _ = CallRec.mk _ [AV.c (AC.sl (swp a K 0) 0 n c)] _ _
 rw [e0]
section
abbrev f1RoundK (L : List Ins) (S : List St) (j p r : Nat) (q : Int) : Kn := ⟨[(0, .c (.sx 0 p)), (1, .c (.sl 1 0 p p)), (7, .c (.i q)), (8, .c (.i (j : Int)))], [(0, Ent.mk true (pcell L) r), (1, Ent.mk false (scell S) 0)], 2⟩
variable {i f : Ins} {A : List (V6 Bool)} {o c n j r : Nat} {w : World} {β : Bs} {v u b : V6 Bool} {E : Eff} {V : AV} {n1 e tr : Int} {L L2 : List Ins} {S : List St} {C : Cx} {R : Ending → World → Prop}
theorem flb_w0 {q : Nat} (h : (i.op == 15 && true) = true) :
  BO 95 Tryz.f95 (cx w β n []) [.ag i.cs, .c (.sl 0 o q c)] [(0, Ent.mk false (rcell A) 0)] 1 (REff w β ⟨.ag [.b false, .b false, .b false, .b false, .b false, .b false], [], none⟩) :=
 run_eff2 [] none [true] ([]) [(4, 3), (4, 5), (6, 2), (6, 6), (6, 8), (7, 2)] Tryz.func95 (ekeys0 rfl n) (by kernel_rfl) h cr_nil
theorem flb_w1 {q : Nat} (h : (!i.op == 15 && (i.op == 12 && (decide (0 ≤ 1 + i.of) && decide (1 + i.of < (q : Int)) && (Nat.ble (o + (1 + i.of).toNat * 6 + 6) (rcell A).length && true)))) = true) (c0 : pe (.c (.i (IntKind.i64.wrap (1 + i.of)))) = pe (.c (.i (1 + i.of)))) (c1 : pe (.ag (((rcell A).drop (o + (1 + i.of).toNat * 6)).take 6)) = pe (.ag (bcs v))) :
  BO 95 Tryz.f95 (cx w β n []) [.ag i.cs, .c (.sl 0 o q c)] [(0, Ent.mk false (rcell A) 0)] 1 (REff w β ⟨.ag (bcs v), [], none⟩) :=
 run_eff2 [] none [false, true] ([]) [(4, 3), (4, 5), (6, 2), (6, 6), (6, 8), (7, 2)] Tryz.func95 (ekeys0 rfl n) (by kernel_rfl) h (cr_same c0 (cr_same c1 cr_nil))
theorem flb_w2 {q : Nat} (h : (!i.op == 15 && (!i.op == 12 && (branchB i && (decide (1 < (q : Int)) && (Nat.ble (o + 6 + 6) (rcell A).length && (decide (0 ≤ 1 + i.of) && decide (1 + i.of < (q : Int)) && (Nat.ble (o + (1 + i.of).toNat * 6 + 6) (rcell A).length && true))))))) = true) (c0 : Ok 93 [.ag i.cs] (.c (.b (branchB i)))) (c1 : pe (.ag (((rcell A).drop (o + 6)).take 6)) = pe (.ag (bcs u))) (c2 : pe (.c (.i (IntKind.i64.wrap (1 + i.of)))) = pe (.c (.i (1 + i.of)))) (c3 : pe (.ag (((rcell A).drop (o + (1 + i.of).toNat * 6)).take 6)) = pe (.ag (bcs v))) (c4 : Ok 127 [.ag (bcs u), .ag (bcs v)] (.ag [.b (u.x0 || v.x0), .b (u.x1 || v.x1), .b (u.x2 || v.x2), .b (u.x3 || v.x3), .b (u.x4 || v.x4), .b (u.x5 || v.x5)])) :
  BO 95 Tryz.f95 (cx w β n []) [.ag i.cs, .c (.sl 0 o q c)] [(0, Ent.mk false (rcell A) 0)] 1 (REff w β ⟨.ag [.b (u.x0 || v.x0), .b (u.x1 || v.x1), .b (u.x2 || v.x2), .b (u.x3 || v.x3), .b (u.x4 || v.x4), .b (u.x5 || v.x5)], [], none⟩) :=
 run_eff2 [] none [false, false, true] ([]) [(4, 3), (4, 5), (6, 2), (6, 6), (6, 8), (7, 2)] Tryz.func95 (ekeys0 rfl n) (by kernel_rfl) h (cr_cons c0 (cr_same c1 (cr_same c2 (cr_same c3 (cr_cons c4 cr_nil)))))
theorem flb_w3 {q : Nat} (h : (!i.op == 15 && (!i.op == 12 && (!branchB i && (decide (1 < (q : Int)) && (Nat.ble (o + 6 + 6) (rcell A).length && true))))) = true) (c0 : Ok 93 [.ag i.cs] (.c (.b (branchB i)))) (c1 : pe (.ag (((rcell A).drop (o + 6)).take 6)) = pe (.ag (bcs u))) :
  BO 95 Tryz.f95 (cx w β n []) [.ag i.cs, .c (.sl 0 o q c)] [(0, Ent.mk false (rcell A) 0)] 1 (REff w β ⟨.ag (bcs u), [], none⟩) :=
 run_eff2 [] none [false, false, false] ([]) [(4, 3), (4, 5), (6, 2), (6, 6), (6, 8), (7, 2)] Tryz.func95 (ekeys0 rfl n) (by kernel_rfl) h (cr_cons c0 (cr_same c1 cr_nil))
theorem flb_all {q : Nat}
  (l0 : (i.op == 15) = true → ((⟨.ag [.b false, .b false, .b false, .b false, .b false, .b false], [], none⟩ : Eff) = E))
  (l1 : (i.op == 15) = false → (i.op == 12) = true → (decide (0 ≤ 1 + i.of) && decide (1 + i.of < (q : Int))) = true ∧ (Nat.ble (o + (1 + i.of).toNat * 6 + 6) (rcell A).length) = true ∧ (pe (.c (.i (IntKind.i64.wrap (1 + i.of)))) = pe (.c (.i (1 + i.of)))) ∧ (pe (.ag (((rcell A).drop (o + (1 + i.of).toNat * 6)).take 6)) = pe (.ag (bcs v))) ∧ ((⟨.ag (bcs v), [], none⟩ : Eff) = E))
  (l2 : (i.op == 15) = false → (i.op == 12) = false → (branchB i) = true → (decide (1 < (q : Int))) = true ∧ (Nat.ble (o + 6 + 6) (rcell A).length) = true ∧ (decide (0 ≤ 1 + i.of) && decide (1 + i.of < (q : Int))) = true ∧ (Nat.ble (o + (1 + i.of).toNat * 6 + 6) (rcell A).length) = true ∧ (Ok 93 [.ag i.cs] (.c (.b (branchB i)))) ∧ (pe (.ag (((rcell A).drop (o + 6)).take 6)) = pe (.ag (bcs u))) ∧ (pe (.c (.i (IntKind.i64.wrap (1 + i.of)))) = pe (.c (.i (1 + i.of)))) ∧ (pe (.ag (((rcell A).drop (o + (1 + i.of).toNat * 6)).take 6)) = pe (.ag (bcs v))) ∧ (Ok 127 [.ag (bcs u), .ag (bcs v)] (.ag [.b (u.x0 || v.x0), .b (u.x1 || v.x1), .b (u.x2 || v.x2), .b (u.x3 || v.x3), .b (u.x4 || v.x4), .b (u.x5 || v.x5)])) ∧ ((⟨.ag [.b (u.x0 || v.x0), .b (u.x1 || v.x1), .b (u.x2 || v.x2), .b (u.x3 || v.x3), .b (u.x4 || v.x4), .b (u.x5 || v.x5)], [], none⟩ : Eff) = E))
  (l3 : (i.op == 15) = false → (i.op == 12) = false → (branchB i) = false → (decide (1 < (q : Int))) = true ∧ (Nat.ble (o + 6 + 6) (rcell A).length) = true ∧ (Ok 93 [.ag i.cs] (.c (.b (branchB i)))) ∧ (pe (.ag (((rcell A).drop (o + 6)).take 6)) = pe (.ag (bcs u))) ∧ ((⟨.ag (bcs u), [], none⟩ : Eff) = E)) :
  BO 95 Tryz.f95 (cx w β n []) [.ag i.cs, .c (.sl 0 o q c)] [(0, Ent.mk false (rcell A) 0)] 1 (REff w β E) :=
 (tf (i.op == 15)).elim (fun h0 => (match l0 h0 with | e => art_eq (flb_w0 (and_yes h0 rfl)) e)) (fun h0 => (tf (i.op == 12)).elim (fun h1 => (match l1 h0 h1 with | ⟨o0, o1, c0, c1, e⟩ => art_eq (flb_w1 (and_yes (not_yes h0) (and_yes h1 (and_yes o0 (and_yes o1 rfl)))) c0 c1) e)) (fun h1 => (tf (branchB i)).elim (fun h2 => (match l2 h0 h1 h2 with | ⟨o0, o1, o2, o3, c0, c1, c2, c3, c4, e⟩ => art_eq (flb_w2 (and_yes (not_yes h0) (and_yes (not_yes h1) (and_yes h2 (and_yes o0 (and_yes o1 (and_yes o2 (and_yes o3 rfl))))))) c0 c1 c2 c3 c4) e)) (fun h2 => (match l3 h0 h1 h2 with | ⟨o0, o1, c0, c1, e⟩ => art_eq (flb_w3 (and_yes (not_yes h0) (and_yes (not_yes h1) (and_yes (not_yes h2) (and_yes o0 (and_yes o1 rfl))))) c0 c1) e))))
theorem fla_w0 (h : (decide (i.op ≤ 10) && (decide (0 ≤ i.d) && decide (i.d < 6) && (Nat.ble ((i.d).toNat * 1 + 1) (bcs b).length && true && true))) = true) (c0 : Ok 96 [.ag i.cs] (.c (.b (decide (i.op ≤ 10))))) (c1 : we 1 (splice (bcs b) ((i.d).toNat * 1) [.b false]) = we 1 (bcs (b.set (i.d).toNat false))) (c2 : Ok 65 [.ag i.cs] (.ag (bcs (useOf i)))) (c3 : Ok 127 [.ag (bcs (useOf i)), .ag (bcs (b.set (i.d).toNat false))] (.ag [.b ((useOf i).x0 || (b.set (i.d).toNat false).x0), .b ((useOf i).x1 || (b.set (i.d).toNat false).x1), .b ((useOf i).x2 || (b.set (i.d).toNat false).x2), .b ((useOf i).x3 || (b.set (i.d).toNat false).x3), .b ((useOf i).x4 || (b.set (i.d).toNat false).x4), .b ((useOf i).x5 || (b.set (i.d).toNat false).x5)])) :
  Ok 97 [.ag i.cs, .ag (bcs b)] (.ag [.b ((useOf i).x0 || (b.set (i.d).toNat false).x0), .b ((useOf i).x1 || (b.set (i.d).toNat false).x1), .b ((useOf i).x2 || (b.set (i.d).toNat false).x2), .b ((useOf i).x3 || (b.set (i.d).toNat false).x3), .b ((useOf i).x4 || (b.set (i.d).toNat false).x4), .b ((useOf i).x5 || (b.set (i.d).toNat false).x5)]) :=
 val_run2 [true] ([]) [(2, 3)] Tryz.func97 rfl rfl rfl rfl (by kernel_rfl) h (cr_cons c0 (cr_same c1 (cr_cons c2 (cr_cons c3 cr_nil))))
theorem fla_w1 (h : (!decide (i.op ≤ 10) && true) = true) (c0 : Ok 96 [.ag i.cs] (.c (.b (decide (i.op ≤ 10))))) (c1 : Ok 65 [.ag i.cs] (.ag (bcs (useOf i)))) (c2 : Ok 127 [.ag (bcs (useOf i)), .ag (bcs b)] (.ag [.b ((useOf i).x0 || b.x0), .b ((useOf i).x1 || b.x1), .b ((useOf i).x2 || b.x2), .b ((useOf i).x3 || b.x3), .b ((useOf i).x4 || b.x4), .b ((useOf i).x5 || b.x5)])) :
  Ok 97 [.ag i.cs, .ag (bcs b)] (.ag [.b ((useOf i).x0 || b.x0), .b ((useOf i).x1 || b.x1), .b ((useOf i).x2 || b.x2), .b ((useOf i).x3 || b.x3), .b ((useOf i).x4 || b.x4), .b ((useOf i).x5 || b.x5)]) :=
 val_run2 [false] ([]) [(2, 3)] Tryz.func97 rfl rfl rfl rfl (by kernel_rfl) h (cr_cons c0 (cr_cons c1 (cr_cons c2 cr_nil)))
theorem fla_all
  (l0 : (decide (i.op ≤ 10)) = true → (decide (0 ≤ i.d) && decide (i.d < 6)) = true ∧ (Nat.ble ((i.d).toNat * 1 + 1) (bcs b).length && true) = true ∧ (Ok 96 [.ag i.cs] (.c (.b (decide (i.op ≤ 10))))) ∧ (we 1 (splice (bcs b) ((i.d).toNat * 1) [.b false]) = we 1 (bcs (b.set (i.d).toNat false))) ∧ (Ok 65 [.ag i.cs] (.ag (bcs (useOf i)))) ∧ (Ok 127 [.ag (bcs (useOf i)), .ag (bcs (b.set (i.d).toNat false))] (.ag [.b ((useOf i).x0 || (b.set (i.d).toNat false).x0), .b ((useOf i).x1 || (b.set (i.d).toNat false).x1), .b ((useOf i).x2 || (b.set (i.d).toNat false).x2), .b ((useOf i).x3 || (b.set (i.d).toNat false).x3), .b ((useOf i).x4 || (b.set (i.d).toNat false).x4), .b ((useOf i).x5 || (b.set (i.d).toNat false).x5)])) ∧ (AV.ag [.b ((useOf i).x0 || (b.set (i.d).toNat false).x0), .b ((useOf i).x1 || (b.set (i.d).toNat false).x1), .b ((useOf i).x2 || (b.set (i.d).toNat false).x2), .b ((useOf i).x3 || (b.set (i.d).toNat false).x3), .b ((useOf i).x4 || (b.set (i.d).toNat false).x4), .b ((useOf i).x5 || (b.set (i.d).toNat false).x5)] = V))
  (l1 : (decide (i.op ≤ 10)) = false → (Ok 96 [.ag i.cs] (.c (.b (decide (i.op ≤ 10))))) ∧ (Ok 65 [.ag i.cs] (.ag (bcs (useOf i)))) ∧ (Ok 127 [.ag (bcs (useOf i)), .ag (bcs b)] (.ag [.b ((useOf i).x0 || b.x0), .b ((useOf i).x1 || b.x1), .b ((useOf i).x2 || b.x2), .b ((useOf i).x3 || b.x3), .b ((useOf i).x4 || b.x4), .b ((useOf i).x5 || b.x5)])) ∧ (AV.ag [.b ((useOf i).x0 || b.x0), .b ((useOf i).x1 || b.x1), .b ((useOf i).x2 || b.x2), .b ((useOf i).x3 || b.x3), .b ((useOf i).x4 || b.x4), .b ((useOf i).x5 || b.x5)] = V)) :
  Ok 97 [.ag i.cs, .ag (bcs b)] V :=
 (tf (decide (i.op ≤ 10))).elim (fun h0 => (match l0 h0 with | ⟨o0, o1, c0, c1, c2, c3, e⟩ => ok_eq (fla_w0 (and_yes h0 (and_yes o0 (and_yes o1 rfl))) c0 c1 c2 c3) e)) (fun h0 => (match l1 h0 with | ⟨c0, c1, c2, e⟩ => ok_eq (fla_w1 (and_yes (not_yes h0) rfl) c0 c1 c2) e))
theorem ffb_w0 (hk : EKeys n [] (some 0) ⟨.c (.f 126 [0 + 0]), [], some (0, Ent.mk true [.i n1] 0)⟩) :
  BO 94 Tryz.f94 (cx w β n []) [.c (.i n1)] [] 0 (REff w β ⟨.c (.f 126 [0 + 0]), [], some (0, Ent.mk true [.i n1] 0)⟩) :=
 run_eff2 [] (some 0) [] ([]) [] Tryz.func94 hk (by kernel_rfl) rfl cr_nil
theorem f1Top_w0 {p : Nat} (c0 : pe (.c (.i (IntKind.i64.wrap ((p : Int) - 1)))) = pe (.c (.i ((p : Int) - 1)))) (lo : Kn.Low ⟨[(0, .c (.sx 0 p)), (1, .c (.sl 1 0 p p)), (7, .c (.i ((p : Int) - 1))), (8, .c (.i 0))], [(0, Ent.mk true (pcell L) 5), (1, Ent.mk false (scell S) 0)], 2⟩) (hF : ∀ k, C.F k → k < 2) (z : AR 53 Tryz.f53 C 0 ⟨[(0, .c (.sx 0 p)), (1, .c (.sl 1 0 p p)), (7, .c (.i ((p : Int) - 1))), (8, .c (.i 0))], [(0, Ent.mk true (pcell L) 5), (1, Ent.mk false (scell S) 0)], 2⟩ R) :
  BO 53 Tryz.f53 C [.c (.sx 0 p), .c (.sl 1 0 p p)] [(0, Ent.mk true (pcell L) 5), (1, Ent.mk false (scell S) 0)] 2 R :=
 run_cut2 [] ([true]) [(0, 2)] Tryz.func53 (by kernel_rfl) rfl (cr_same c0 cr_nil) lo hF z
theorem f1Round_w0 {p : Nat} {q : Int} (h : (decide ((j : Int) < q) && (decide ((j : Int) < (p : Int)) && (Nat.ble ((j : Int).toNat * 5 + 5) (pcell L).length && (decide ((j : Int) < (p : Int)) && (Nat.ble (0 + (j : Int).toNat * 31 + 31) (scell S).length && (decide ((j : Int) < (p : Int)) && (Nat.ble ((j : Int).toNat * 5 + (f.cs).length) (pcell L).length && true && true))))))) = true) (c0 : pe (.ag (((pcell L).drop ((j : Int).toNat * 5)).take 5)) = pe (.ag (elt L j).cs)) (c1 : pe (.ag (((scell S).drop (0 + (j : Int).toNat * 31)).take 31)) = pe (.ag (stAt S j).cs)) (c2 : Ok 54 [.ag (elt L j).cs, .ag (stAt S j).cs] (.ag f.cs)) (c3 : we 0 (splice (pcell L) ((j : Int).toNat * 5) f.cs) = we 0 (pcell (L.set j f))) (c4 : pe (.c (.i (IntKind.i64.wrap ((j : Int) + 1)))) = pe (.c (.i (↑(j + 1) : Int)))) (lo : Kn.Low (f1RoundK (L.set j f) S (j + 1) p 0 q)) (hF : ∀ k, C.F k → k < 2) (z : AR 53 Tryz.f53 C 0 (f1RoundK (L.set j f) S (j + 1) p 0 q) R) :
  AR 53 Tryz.f53 C 0 (f1RoundK L S j p r q) R :=
 run_cut2 [true] ([true]) [(3, 5), (3, 9), (3, 12), (4, 0)] Tryz.func53 (by kernel_rfl) h (cr_same c0 (cr_same c1 (cr_cons c2 (cr_same c3 (cr_same c4 cr_nil))))) lo hF z
theorem f1End_w0 {p : Nat} {q : Int} (h : (!decide ((j : Int) < q) && true) = true) (hk : EKeys n [0] none ⟨.tu [], [(0, pcell L)], none⟩) :
  AR 53 Tryz.f53 (cx w β n [0]) 0 (f1RoundK L S j p r q) (REff w β ⟨.tu [], [(0, pcell L)], none⟩) :=
 run_eff2 [0] none [false] ([true]) [] Tryz.func53 hk (by kernel_rfl) h cr_nil
theorem chFErr_w0 (h : (e != 0 && true) = true) (c0 : CO 12 [.c (.sl 0 0 L.length c)] [(0, Ent.mk false (pcell L) 0)] (pe (.tu [.ag [.i 0, .i 0, nilSl], .c (.i e)]))) :
  BO 52 Tryz.f52 (cx w β n []) [.c (.sl 0 0 L.length c), .c (.f 53 [])] [(0, Ent.mk false (pcell L) 0)] 1 (REff w β ⟨.tu [.c nilSl, .c (.i e)], [], none⟩) :=
 run_eff2 [] none [true] ([]) [] Tryz.func52 (ekeys0 rfl n) (by kernel_rfl) h (cr_cons c0 cr_nil)
theorem chFNil_w0 (h : (e != 0 && true) = true) (c0 : Ok 12 [.c nilSl] (.tu [.ag [.i 0, .i 0, nilSl], .c (.i e)])) :
  Ok 52 [.c nilSl, .c (.f 53 [])] (.tu [.c nilSl, .c (.i e)]) :=
 val_run2 [true] ([]) [] Tryz.func52 rfl rfl rfl rfl (by kernel_rfl) h (cr_cons c0 cr_nil)
theorem chFTr_w0 {q : Nat} {p : Int} (h : (!tr == 0 && true) = true) (c0 : CO 12 [.c (.sl 0 0 L.length c)] [(0, Ent.mk false (pcell L) 0)] (Eff.mk (.tu [.ag [.i tr, .i p, .sx 4 q], .c (.i 0)]) [] (some (4, Ent.mk true (scell S) 31)))) (c1 : CO 90 [.c (.sl 0 0 L.length c)] [(0, Ent.mk false (pcell L) 0)] (Eff.mk (.c (.sx 14 L.length)) [] (some (14, Ent.mk true (pcell L) 5)))) (hk : EKeys n [] (some 14) ⟨.tu [.c (.sx 14 L.length), .c (.i 0)], [], some (14, Ent.mk true (pcell L) 5)⟩) :
  BO 52 Tryz.f52 (cx w β n []) [.c (.sl 0 0 L.length c), .c (.f 53 [])] [(0, Ent.mk false (pcell L) 0)] 1 (REff w β ⟨.tu [.c (.sx 14 L.length), .c (.i 0)], [], some (14, Ent.mk true (pcell L) 5)⟩) :=
 run_eff2 [] (some 14) [false, false] ([]) [] Tryz.func52 hk (by kernel_rfl) h (cr_cons c0 (cr_cons c1 cr_nil))
theorem chFOk_w0 (c0 : CO 12 [.c (.sl 0 0 L.length c)] [(0, Ent.mk false (pcell L) 0)] (Eff.mk (.tu [.ag [.i 0, .i 0, .sl 4 0 L.length L.length], .c (.i 0)]) [] (some (4, Ent.mk true (scell S) 0)))) (c1 : CO 90 [.c (.sl 0 0 L.length c)] [(0, Ent.mk false (pcell L) 0)] (Eff.mk (.c (.sx 14 L.length)) [] (some (14, Ent.mk true (pcell L) 5)))) (c2 : CO 53 [.c (.sx 14 L.length), .c (.sl 4 0 L.length L.length)] [(14, Ent.mk true (pcell L) 5), (4, Ent.mk true (scell S) 0)] (Eff.mk (.tu []) [(14, pcell L2)] none)) (hk : EKeys n [] (some 14) ⟨.tu [.c (.sx 14 L.length), .c (.i 0)], [], some (14, Ent.mk true (pcell L2) 0)⟩) :
  BO 52 Tryz.f52 (cx w β n []) [.c (.sl 0 0 L.length c), .c (.f 53 [])] [(0, Ent.mk false (pcell L) 0)] 1 (REff w β ⟨.tu [.c (.sx 14 L.length), .c (.i 0)], [], some (14, Ent.mk true (pcell L2) 0)⟩) :=
 run_eff2 [] (some 14) [false, true] ([]) [] Tryz.func52 hk (by kernel_rfl) rfl (cr_cons c0 (cr_cons c1 (cr_cons c2 cr_nil)))
theorem chDErr_w0 (h : (e != 0 && true) = true) (c0 : CO 12 [.c (.sl 0 0 L.length c)] [(0, Ent.mk false (pcell L) 0)] (pe (.tu [.ag [.i 0, .i 0, nilSl], .c (.i e)]))) :
  BO 52 Tryz.f52 (cx w β n []) [.c (.sl 0 0 L.length c), .c (.f 55 [])] [(0, Ent.mk false (pcell L) 0)] 1 (REff w β ⟨.tu [.c nilSl, .c (.i e)], [], none⟩) :=
 run_eff2 [] none [true] ([]) [] Tryz.func52 (ekeys0 rfl n) (by kernel_rfl) h (cr_cons c0 cr_nil)
theorem chDNil_w0 (h : (e != 0 && true) = true) (c0 : Ok 12 [.c nilSl] (.tu [.ag [.i 0, .i 0, nilSl], .c (.i e)])) :
  Ok 52 [.c nilSl, .c (.f 55 [])] (.tu [.c nilSl, .c (.i e)]) :=
 val_run2 [true] ([]) [] Tryz.func52 rfl rfl rfl rfl (by kernel_rfl) h (cr_cons c0 cr_nil)
theorem chDTr_w0 {q : Nat} {p : Int} (h : (!tr == 0 && true) = true) (c0 : CO 12 [.c (.sl 0 0 L.length c)] [(0, Ent.mk false (pcell L) 0)] (Eff.mk (.tu [.ag [.i tr, .i p, .sx 4 q], .c (.i 0)]) [] (some (4, Ent.mk true (scell S) 31)))) (c1 : CO 90 [.c (.sl 0 0 L.length c)] [(0, Ent.mk false (pcell L) 0)] (Eff.mk (.c (.sx 14 L.length)) [] (some (14, Ent.mk true (pcell L) 5)))) (hk : EKeys n [] (some 14) ⟨.tu [.c (.sx 14 L.length), .c (.i 0)], [], some (14, Ent.mk true (pcell L) 5)⟩) :
  BO 52 Tryz.f52 (cx w β n []) [.c (.sl 0 0 L.length c), .c (.f 55 [])] [(0, Ent.mk false (pcell L) 0)] 1 (REff w β ⟨.tu [.c (.sx 14 L.length), .c (.i 0)], [], some (14, Ent.mk true (pcell L) 5)⟩) :=
 run_eff2 [] (some 14) [false, false] ([]) [] Tryz.func52 hk (by kernel_rfl) h (cr_cons c0 (cr_cons c1 cr_nil))
theorem chDOk_w0 (c0 : CO 12 [.c (.sl 0 0 L.length c)] [(0, Ent.mk false (pcell L) 0)] (Eff.mk (.tu [.ag [.i 0, .i 0, .sl 4 0 L.length L.length], .c (.i 0)]) [] (some (4, Ent.mk true (scell S) 0)))) (c1 : CO 90 [.c (.sl 0 0 L.length c)] [(0, Ent.mk false (pcell L) 0)] (Eff.mk (.c (.sx 14 L.length)) [] (some (14, Ent.mk true (pcell L) 5)))) (c2 : CO 55 [.c (.sx 14 L.length), .c (.sl 4 0 L.length L.length)] [(14, Ent.mk true (pcell L) 5), (4, Ent.mk true (scell S) 0)] (Eff.mk (.tu []) [(14, pcell L2)] none)) (hk : EKeys n [] (some 14) ⟨.tu [.c (.sx 14 L.length), .c (.i 0)], [], some (14, Ent.mk true (pcell L2) 0)⟩) :
  BO 52 Tryz.f52 (cx w β n []) [.c (.sl 0 0 L.length c), .c (.f 55 [])] [(0, Ent.mk false (pcell L) 0)] 1 (REff w β ⟨.tu [.c (.sx 14 L.length), .c (.i 0)], [], some (14, Ent.mk true (pcell L2) 0)⟩) :=
 run_eff2 [] (some 14) [false, true] ([]) [] Tryz.func52 hk (by kernel_rfl) rfl (cr_cons c0 (cr_cons c1 (cr_cons c2 cr_nil)))
end
section
abbrev feR1K (a b : V6 Bool) (j : Int) : Kn := ⟨[(2, .c (.w 0)), (3, .c (.w 1)), (4, .c (.w 2)), (6, .c (.i j))], [(0, Ent.mk true (bcs a) 0), (1, Ent.mk true (bcs b) 0), (2, Ent.mk true (bcs no6) 0)], 3⟩
variable {i : Ins} {V : AV} {t : St} {b : V6 Bool} {C : Cx} {R : Ending → World → Prop} {j : Int} {w : World} {β : Bs} {n : Nat}
theorem fon_w0 :
  Ok 91 [] (.ag [.i 12, .i 0, .i 0, .u 0#64, .i 0]) :=
 val_run2 [] ([]) [] Tryz.func91 rfl rfl rfl rfl (by kernel_rfl) rfl cr_nil
theorem fal_w0 {a : V4} :
  Ok 92 [.ag a.cs] (.c (.b (eqb a.l a.h))) :=
 val_run2 [] ([]) [] Tryz.func92 rfl rfl rfl rfl (by kernel_rfl) rfl cr_nil
theorem fbr_w0 (h : (i.op == 13 && true) = true) :
  Ok 93 [.ag i.cs] (.c (.b true)) :=
 val_run2 [true] ([]) [] Tryz.func93 rfl rfl rfl rfl (by kernel_rfl) h cr_nil
theorem fbr_w1 (h : (!i.op == 13 && true) = true) :
  Ok 93 [.ag i.cs] (.c (.b (i.op == 14))) :=
 val_run2 [false] ([]) [] Tryz.func93 rfl rfl rfl rfl (by kernel_rfl) h cr_nil
theorem fbr_all
  (l0 : (i.op == 13) = true → (AV.c (.b true) = V))
  (l1 : (i.op == 13) = false → (AV.c (.b (i.op == 14)) = V)) :
  Ok 93 [.ag i.cs] V :=
 (tf (i.op == 13)).elim (fun h0 => (match l0 h0 with | e => ok_eq (fbr_w0 (and_yes h0 rfl)) e)) (fun h0 => (match l1 h0 with | e => ok_eq (fbr_w1 (and_yes (not_yes h0) rfl)) e))
theorem fse_w0 :
  Ok 96 [.ag i.cs] (.c (.b (decide (i.op ≤ 10)))) :=
 val_run2 [] ([]) [] Tryz.func96 rfl rfl rfl rfl (by kernel_rfl) rfl cr_nil
theorem ffd_w0 (h : (!t.live && true) = true) (c0 : Ok 91 [] (.ag onI.cs)) :
  Ok 54 [.ag i.cs, .ag t.cs] (.ag [.i 12, .i 0, .i 0, .u 0#64, .i 0]) :=
 val_run2 [true] ([]) [(4, 8), (5, 7)] Tryz.func54 rfl rfl rfl rfl (by kernel_rfl) h (cr_cons c0 cr_nil)
theorem ffd_w1 (h : (!!t.live && (decide (i.op ≤ 9) && (decide (0 ≤ i.d) && decide (i.d < 6) && (Nat.ble (7 + (i.d).toNat * 4 + 4) ((Prod.fst (stepS i t)).cs).length && ((((Prod.fst (stepS i t)).r).get (i.d).toNat).l == (((Prod.fst (stepS i t)).r).get (i.d).toNat).h && (decide (0 ≤ i.d) && decide (i.d < 6) && (AC.isU (((Prod.fst (stepS i t)).cs)[7 + (i.d).toNat * 4 + 2]?.getD (.b false)) && Nat.blt (7 + (i.d).toNat * 4 + 2) ((Prod.fst (stepS i t)).cs).length && true))))))) = true) (c0 : Ok 7 [.ag i.cs, .ag t.cs] (.tu [.ag (Prod.fst (stepS i t)).cs, .ag (Prod.fst (Prod.snd (stepS i t))).cs, .c (.i (Prod.snd (Prod.snd (stepS i t)))), .c (.i 0)])) (c1 : pe (.ag ((((Prod.fst (stepS i t)).cs).drop (7 + (i.d).toNat * 4)).take 4)) = pe (.ag (((Prod.fst (stepS i t)).r).get (i.d).toNat).cs)) (c2 : Ok 92 [.ag (((Prod.fst (stepS i t)).r).get (i.d).toNat).cs] (.c (.b ((((Prod.fst (stepS i t)).r).get (i.d).toNat).l == (((Prod.fst (stepS i t)).r).get (i.d).toNat).h)))) (c3 : pe (.c (.u (AC.asU (((Prod.fst (stepS i t)).cs)[7 + (i.d).toNat * 4 + 2]?.getD (.b false))))) = pe (.c (.u (((Prod.fst (stepS i t)).r).get (i.d).toNat).l))) :
  Ok 54 [.ag i.cs, .ag t.cs] (.ag [.i 1, .i i.d, .i (-1), .u (((Prod.fst (stepS i t)).r).get (i.d).toNat).l, .i 0]) :=
 val_run2 [false, true, true] ([]) [(4, 8), (5, 7)] Tryz.func54 rfl rfl rfl rfl (by kernel_rfl) h (cr_cons c0 (cr_same c1 (cr_cons c2 (cr_same c3 cr_nil))))
theorem ffd_w2 (h : (!!t.live && (decide (i.op ≤ 9) && (decide (0 ≤ i.d) && decide (i.d < 6) && (Nat.ble (7 + (i.d).toNat * 4 + 4) ((Prod.fst (stepS i t)).cs).length && (!(((Prod.fst (stepS i t)).r).get (i.d).toNat).l == (((Prod.fst (stepS i t)).r).get (i.d).toNat).h && (branchB i && (!(Prod.fst (Prod.snd (stepS i t))).live && true))))))) = true) (c0 : Ok 7 [.ag i.cs, .ag t.cs] (.tu [.ag (Prod.fst (stepS i t)).cs, .ag (Prod.fst (Prod.snd (stepS i t))).cs, .c (.i (Prod.snd (Prod.snd (stepS i t)))), .c (.i 0)])) (c1 : pe (.ag ((((Prod.fst (stepS i t)).cs).drop (7 + (i.d).toNat * 4)).take 4)) = pe (.ag (((Prod.fst (stepS i t)).r).get (i.d).toNat).cs)) (c2 : Ok 92 [.ag (((Prod.fst (stepS i t)).r).get (i.d).toNat).cs] (.c (.b ((((Prod.fst (stepS i t)).r).get (i.d).toNat).l == (((Prod.fst (stepS i t)).r).get (i.d).toNat).h)))) (c3 : Ok 93 [.ag i.cs] (.c (.b (branchB i)))) (c4 : Ok 91 [] (.ag onI.cs)) :
  Ok 54 [.ag i.cs, .ag t.cs] (.ag [.i 12, .i 0, .i 0, .u 0#64, .i 0]) :=
 val_run2 [false, true, false, true, true] ([]) [(4, 8), (5, 7)] Tryz.func54 rfl rfl rfl rfl (by kernel_rfl) h (cr_cons c0 (cr_same c1 (cr_cons c2 (cr_cons c3 (cr_cons c4 cr_nil)))))
theorem ffd_w3 (h : (!!t.live && (decide (i.op ≤ 9) && (decide (0 ≤ i.d) && decide (i.d < 6) && (Nat.ble (7 + (i.d).toNat * 4 + 4) ((Prod.fst (stepS i t)).cs).length && (!(((Prod.fst (stepS i t)).r).get (i.d).toNat).l == (((Prod.fst (stepS i t)).r).get (i.d).toNat).h && (branchB i && (!!(Prod.fst (Prod.snd (stepS i t))).live && (branchB i && (!(Prod.fst (stepS i t)).live && true))))))))) = true) (c0 : Ok 7 [.ag i.cs, .ag t.cs] (.tu [.ag (Prod.fst (stepS i t)).cs, .ag (Prod.fst (Prod.snd (stepS i t))).cs, .c (.i (Prod.snd (Prod.snd (stepS i t)))), .c (.i 0)])) (c1 : pe (.ag ((((Prod.fst (stepS i t)).cs).drop (7 + (i.d).toNat * 4)).take 4)) = pe (.ag (((Prod.fst (stepS i t)).r).get (i.d).toNat).cs)) (c2 : Ok 92 [.ag (((Prod.fst (stepS i t)).r).get (i.d).toNat).cs] (.c (.b ((((Prod.fst (stepS i t)).r).get (i.d).toNat).l == (((Prod.fst (stepS i t)).r).get (i.d).toNat).h)))) (c3 : Ok 93 [.ag i.cs] (.c (.b (branchB i)))) (c4 : Ok 93 [.ag i.cs] (.c (.b (branchB i)))) :
  Ok 54 [.ag i.cs, .ag t.cs] (.ag [.i 12, .i 0, .i 0, .u 0#64, .i i.of]) :=
 val_run2 [false, true, false, true, false, true, true] ([]) [(4, 8), (5, 7)] Tryz.func54 rfl rfl rfl rfl (by kernel_rfl) h (cr_cons c0 (cr_same c1 (cr_cons c2 (cr_cons c3 (cr_cons c4 cr_nil)))))
theorem ffd_w4 (h : (!!t.live && (decide (i.op ≤ 9) && (decide (0 ≤ i.d) && decide (i.d < 6) && (Nat.ble (7 + (i.d).toNat * 4 + 4) ((Prod.fst (stepS i t)).cs).length && (!(((Prod.fst (stepS i t)).r).get (i.d).toNat).l == (((Prod.fst (stepS i t)).r).get (i.d).toNat).h && (branchB i && (!!(Prod.fst (Prod.snd (stepS i t))).live && (branchB i && (!!(Prod.fst (stepS i t)).live && true))))))))) = true) (c0 : Ok 7 [.ag i.cs, .ag t.cs] (.tu [.ag (Prod.fst (stepS i t)).cs, .ag (Prod.fst (Prod.snd (stepS i t))).cs, .c (.i (Prod.snd (Prod.snd (stepS i t)))), .c (.i 0)])) (c1 : pe (.ag ((((Prod.fst (stepS i t)).cs).drop (7 + (i.d).toNat * 4)).take 4)) = pe (.ag (((Prod.fst (stepS i t)).r).get (i.d).toNat).cs)) (c2 : Ok 92 [.ag (((Prod.fst (stepS i t)).r).get (i.d).toNat).cs] (.c (.b ((((Prod.fst (stepS i t)).r).get (i.d).toNat).l == (((Prod.fst (stepS i t)).r).get (i.d).toNat).h)))) (c3 : Ok 93 [.ag i.cs] (.c (.b (branchB i)))) (c4 : Ok 93 [.ag i.cs] (.c (.b (branchB i)))) :
  Ok 54 [.ag i.cs, .ag t.cs] (.ag i.cs) :=
 val_run2 [false, true, false, true, false, true, false] ([]) [(4, 8), (5, 7)] Tryz.func54 rfl rfl rfl rfl (by kernel_rfl) h (cr_cons c0 (cr_same c1 (cr_cons c2 (cr_cons c3 (cr_cons c4 cr_nil)))))
theorem ffd_w5 (h : (!!t.live && (decide (i.op ≤ 9) && (decide (0 ≤ i.d) && decide (i.d < 6) && (Nat.ble (7 + (i.d).toNat * 4 + 4) ((Prod.fst (stepS i t)).cs).length && (!(((Prod.fst (stepS i t)).r).get (i.d).toNat).l == (((Prod.fst (stepS i t)).r).get (i.d).toNat).h && (!branchB i && (!branchB i && true))))))) = true) (c0 : Ok 7 [.ag i.cs, .ag t.cs] (.tu [.ag (Prod.fst (stepS i t)).cs, .ag (Prod.fst (Prod.snd (stepS i t))).cs, .c (.i (Prod.snd (Prod.snd (stepS i t)))), .c (.i 0)])) (c1 : pe (.ag ((((Prod.fst (stepS i t)).cs).drop (7 + (i.d).toNat * 4)).take 4)) = pe (.ag (((Prod.fst (stepS i t)).r).get (i.d).toNat).cs)) (c2 : Ok 92 [.ag (((Prod.fst (stepS i t)).r).get (i.d).toNat).cs] (.c (.b ((((Prod.fst (stepS i t)).r).get (i.d).toNat).l == (((Prod.fst (stepS i t)).r).get (i.d).toNat).h)))) (c3 : Ok 93 [.ag i.cs] (.c (.b (branchB i)))) (c4 : Ok 93 [.ag i.cs] (.c (.b (branchB i)))) :
  Ok 54 [.ag i.cs, .ag t.cs] (.ag i.cs) :=
 val_run2 [false, true, false, false, false, false, false] ([]) [(4, 8), (5, 7)] Tryz.func54 rfl rfl rfl rfl (by kernel_rfl) h (cr_cons c0 (cr_same c1 (cr_cons c2 (cr_cons c3 (cr_cons c4 cr_nil)))))
theorem ffd_w6 (h : (!!t.live && (!decide (i.op ≤ 9) && (branchB i && (!(Prod.fst (Prod.snd (stepS i t))).live && true)))) = true) (c0 : Ok 7 [.ag i.cs, .ag t.cs] (.tu [.ag (Prod.fst (stepS i t)).cs, .ag (Prod.fst (Prod.snd (stepS i t))).cs, .c (.i (Prod.snd (Prod.snd (stepS i t)))), .c (.i 0)])) (c1 : Ok 93 [.ag i.cs] (.c (.b (branchB i)))) (c2 : Ok 91 [] (.ag onI.cs)) :
  Ok 54 [.ag i.cs, .ag t.cs] (.ag [.i 12, .i 0, .i 0, .u 0#64, .i 0]) :=
 val_run2 [false, false, false, true, true] ([]) [(4, 8), (5, 7)] Tryz.func54 rfl rfl rfl rfl (by kernel_rfl) h (cr_cons c0 (cr_cons c1 (cr_cons c2 cr_nil)))
theorem ffd_w7 (h : (!!t.live && (!decide (i.op ≤ 9) && (branchB i && (!!(Prod.fst (Prod.snd (stepS i t))).live && (branchB i && (!(Prod.fst (stepS i t)).live && true)))))) = true) (c0 : Ok 7 [.ag i.cs, .ag t.cs] (.tu [.ag (Prod.fst (stepS i t)).cs, .ag (Prod.fst (Prod.snd (stepS i t))).cs, .c (.i (Prod.snd (Prod.snd (stepS i t)))), .c (.i 0)])) (c1 : Ok 93 [.ag i.cs] (.c (.b (branchB i)))) (c2 : Ok 93 [.ag i.cs] (.c (.b (branchB i)))) :
  Ok 54 [.ag i.cs, .ag t.cs] (.ag [.i 12, .i 0, .i 0, .u 0#64, .i i.of]) :=
 val_run2 [false, false, false, true, false, true, true] ([]) [(4, 8), (5, 7)] Tryz.func54 rfl rfl rfl rfl (by kernel_rfl) h (cr_cons c0 (cr_cons c1 (cr_cons c2 cr_nil)))
theorem ffd_w8 (h : (!!t.live && (!decide (i.op ≤ 9) && (branchB i && (!!(Prod.fst (Prod.snd (stepS i t))).live && (branchB i && (!!(Prod.fst (stepS i t)).live && true)))))) = true) (c0 : Ok 7 [.ag i.cs, .ag t.cs] (.tu [.ag (Prod.fst (stepS i t)).cs, .ag (Prod.fst (Prod.snd (stepS i t))).cs, .c (.i (Prod.snd (Prod.snd (stepS i t)))), .c (.i 0)])) (c1 : Ok 93 [.ag i.cs] (.c (.b (branchB i)))) (c2 : Ok 93 [.ag i.cs] (.c (.b (branchB i)))) :
  Ok 54 [.ag i.cs, .ag t.cs] (.ag i.cs) :=
 val_run2 [false, false, false, true, false, true, false] ([]) [(4, 8), (5, 7)] Tryz.func54 rfl rfl rfl rfl (by kernel_rfl) h (cr_cons c0 (cr_cons c1 (cr_cons c2 cr_nil)))
theorem ffd_w9 (h : (!!t.live && (!decide (i.op ≤ 9) && (!branchB i && (!branchB i && true)))) = true) (c0 : Ok 7 [.ag i.cs, .ag t.cs] (.tu [.ag (Prod.fst (stepS i t)).cs, .ag (Prod.fst (Prod.snd (stepS i t))).cs, .c (.i (Prod.snd (Prod.snd (stepS i t)))), .c (.i 0)])) (c1 : Ok 93 [.ag i.cs] (.c (.b (branchB i)))) (c2 : Ok 93 [.ag i.cs] (.c (.b (branchB i)))) :
  Ok 54 [.ag i.cs, .ag t.cs] (.ag i.cs) :=
 val_run2 [false, false, false, false, false, false, false] ([]) [(4, 8), (5, 7)] Tryz.func54 rfl rfl rfl rfl (by kernel_rfl) h (cr_cons c0 (cr_cons c1 (cr_cons c2 cr_nil)))
theorem ffd_all
  (l0 : (!t.live) = true → (Ok 91 [] (.ag onI.cs)) ∧ (AV.ag [.i 12, .i 0, .i 0, .u 0#64, .i 0] = V))
  (l1 : (!t.live) = false → (decide (i.op ≤ 9)) = true → ((((Prod.fst (stepS i t)).r).get (i.d).toNat).l == (((Prod.fst (stepS i t)).r).get (i.d).toNat).h) = true → (decide (0 ≤ i.d) && decide (i.d < 6)) = true ∧ (Nat.ble (7 + (i.d).toNat * 4 + 4) ((Prod.fst (stepS i t)).cs).length) = true ∧ (decide (0 ≤ i.d) && decide (i.d < 6)) = true ∧ (AC.isU (((Prod.fst (stepS i t)).cs)[7 + (i.d).toNat * 4 + 2]?.getD (.b false)) && Nat.blt (7 + (i.d).toNat * 4 + 2) ((Prod.fst (stepS i t)).cs).length) = true ∧ (Ok 7 [.ag i.cs, .ag t.cs] (.tu [.ag (Prod.fst (stepS i t)).cs, .ag (Prod.fst (Prod.snd (stepS i t))).cs, .c (.i (Prod.snd (Prod.snd (stepS i t)))), .c (.i 0)])) ∧ (pe (.ag ((((Prod.fst (stepS i t)).cs).drop (7 + (i.d).toNat * 4)).take 4)) = pe (.ag (((Prod.fst (stepS i t)).r).get (i.d).toNat).cs)) ∧ (Ok 92 [.ag (((Prod.fst (stepS i t)).r).get (i.d).toNat).cs] (.c (.b ((((Prod.fst (stepS i t)).r).get (i.d).toNat).l == (((Prod.fst (stepS i t)).r).get (i.d).toNat).h)))) ∧ (pe (.c (.u (AC.asU (((Prod.fst (stepS i t)).cs)[7 + (i.d).toNat * 4 + 2]?.getD (.b false))))) = pe (.c (.u (((Prod.fst (stepS i t)).r).get (i.d).toNat).l))) ∧ (AV.ag [.i 1, .i i.d, .i (-1), .u (((Prod.fst (stepS i t)).r).get (i.d).toNat).l, .i 0] = V))
  (l2 : (!t.live) = false → (decide (i.op ≤ 9)) = true → ((((Prod.fst (stepS i t)).r).get (i.d).toNat).l == (((Prod.fst (stepS i t)).r).get (i.d).toNat).h) = false → (branchB i) = true → (!(Prod.fst (Prod.snd (stepS i t))).live) = true → (decide (0 ≤ i.d) && decide (i.d < 6)) = true ∧ (Nat.ble (7 + (i.d).toNat * 4 + 4) ((Prod.fst (stepS i t)).cs).length) = true ∧ (Ok 7 [.ag i.cs, .ag t.cs] (.tu [.ag (Prod.fst (stepS i t)).cs, .ag (Prod.fst (Prod.snd (stepS i t))).cs, .c (.i (Prod.snd (Prod.snd (stepS i t)))), .c (.i 0)])) ∧ (pe (.ag ((((Prod.fst (stepS i t)).cs).drop (7 + (i.d).toNat * 4)).take 4)) = pe (.ag (((Prod.fst (stepS i t)).r).get (i.d).toNat).cs)) ∧ (Ok 92 [.ag (((Prod.fst (stepS i t)).r).get (i.d).toNat).cs] (.c (.b ((((Prod.fst (stepS i t)).r).get (i.d).toNat).l == (((Prod.fst (stepS i t)).r).get (i.d).toNat).h)))) ∧ (Ok 93 [.ag i.cs] (.c (.b (branchB i)))) ∧ (Ok 91 [] (.ag onI.cs)) ∧ (AV.ag [.i 12, .i 0, .i 0, .u 0#64, .i 0] = V))
  (l3 : (!t.live) = false → (decide (i.op ≤ 9)) = true → ((((Prod.fst (stepS i t)).r).get (i.d).toNat).l == (((Prod.fst (stepS i t)).r).get (i.d).toNat).h) = false → (branchB i) = true → (!(Prod.fst (Prod.snd (stepS i t))).live) = false → (!(Prod.fst (stepS i t)).live) = true → (decide (0 ≤ i.d) && decide (i.d < 6)) = true ∧ (Nat.ble (7 + (i.d).toNat * 4 + 4) ((Prod.fst (stepS i t)).cs).length) = true ∧ (Ok 7 [.ag i.cs, .ag t.cs] (.tu [.ag (Prod.fst (stepS i t)).cs, .ag (Prod.fst (Prod.snd (stepS i t))).cs, .c (.i (Prod.snd (Prod.snd (stepS i t)))), .c (.i 0)])) ∧ (pe (.ag ((((Prod.fst (stepS i t)).cs).drop (7 + (i.d).toNat * 4)).take 4)) = pe (.ag (((Prod.fst (stepS i t)).r).get (i.d).toNat).cs)) ∧ (Ok 92 [.ag (((Prod.fst (stepS i t)).r).get (i.d).toNat).cs] (.c (.b ((((Prod.fst (stepS i t)).r).get (i.d).toNat).l == (((Prod.fst (stepS i t)).r).get (i.d).toNat).h)))) ∧ (Ok 93 [.ag i.cs] (.c (.b (branchB i)))) ∧ (Ok 93 [.ag i.cs] (.c (.b (branchB i)))) ∧ (AV.ag [.i 12, .i 0, .i 0, .u 0#64, .i i.of] = V))
  (l4 : (!t.live) = false → (decide (i.op ≤ 9)) = true → ((((Prod.fst (stepS i t)).r).get (i.d).toNat).l == (((Prod.fst (stepS i t)).r).get (i.d).toNat).h) = false → (branchB i) = true → (!(Prod.fst (Prod.snd (stepS i t))).live) = false → (!(Prod.fst (stepS i t)).live) = false → (decide (0 ≤ i.d) && decide (i.d < 6)) = true ∧ (Nat.ble (7 + (i.d).toNat * 4 + 4) ((Prod.fst (stepS i t)).cs).length) = true ∧ (Ok 7 [.ag i.cs, .ag t.cs] (.tu [.ag (Prod.fst (stepS i t)).cs, .ag (Prod.fst (Prod.snd (stepS i t))).cs, .c (.i (Prod.snd (Prod.snd (stepS i t)))), .c (.i 0)])) ∧ (pe (.ag ((((Prod.fst (stepS i t)).cs).drop (7 + (i.d).toNat * 4)).take 4)) = pe (.ag (((Prod.fst (stepS i t)).r).get (i.d).toNat).cs)) ∧ (Ok 92 [.ag (((Prod.fst (stepS i t)).r).get (i.d).toNat).cs] (.c (.b ((((Prod.fst (stepS i t)).r).get (i.d).toNat).l == (((Prod.fst (stepS i t)).r).get (i.d).toNat).h)))) ∧ (Ok 93 [.ag i.cs] (.c (.b (branchB i)))) ∧ (Ok 93 [.ag i.cs] (.c (.b (branchB i)))) ∧ (AV.ag i.cs = V))
  (l5 : (!t.live) = false → (decide (i.op ≤ 9)) = true → ((((Prod.fst (stepS i t)).r).get (i.d).toNat).l == (((Prod.fst (stepS i t)).r).get (i.d).toNat).h) = false → (branchB i) = false → (decide (0 ≤ i.d) && decide (i.d < 6)) = true ∧ (Nat.ble (7 + (i.d).toNat * 4 + 4) ((Prod.fst (stepS i t)).cs).length) = true ∧ (Ok 7 [.ag i.cs, .ag t.cs] (.tu [.ag (Prod.fst (stepS i t)).cs, .ag (Prod.fst (Prod.snd (stepS i t))).cs, .c (.i (Prod.snd (Prod.snd (stepS i t)))), .c (.i 0)])) ∧ (pe (.ag ((((Prod.fst (stepS i t)).cs).drop (7 + (i.d).toNat * 4)).take 4)) = pe (.ag (((Prod.fst (stepS i t)).r).get (i.d).toNat).cs)) ∧ (Ok 92 [.ag (((Prod.fst (stepS i t)).r).get (i.d).toNat).cs] (.c (.b ((((Prod.fst (stepS i t)).r).get (i.d).toNat).l == (((Prod.fst (stepS i t)).r).get (i.d).toNat).h)))) ∧ (Ok 93 [.ag i.cs] (.c (.b (branchB i)))) ∧ (Ok 93 [.ag i.cs] (.c (.b (branchB i)))) ∧ (AV.ag i.cs = V))
  (l6 : (!t.live) = false → (decide (i.op ≤ 9)) = false → (branchB i) = true → (!(Prod.fst (Prod.snd (stepS i t))).live) = true → (Ok 7 [.ag i.cs, .ag t.cs] (.tu [.ag (Prod.fst (stepS i t)).cs, .ag (Prod.fst (Prod.snd (stepS i t))).cs, .c (.i (Prod.snd (Prod.snd (stepS i t)))), .c (.i 0)])) ∧ (Ok 93 [.ag i.cs] (.c (.b (branchB i)))) ∧ (Ok 91 [] (.ag onI.cs)) ∧ (AV.ag [.i 12, .i 0, .i 0, .u 0#64, .i 0] = V))
  (l7 : (!t.live) = false → (decide (i.op ≤ 9)) = false → (branchB i) = true → (!(Prod.fst (Prod.snd (stepS i t))).live) = false → (!(Prod.fst (stepS i t)).live) = true → (Ok 7 [.ag i.cs, .ag t.cs] (.tu [.ag (Prod.fst (stepS i t)).cs, .ag (Prod.fst (Prod.snd (stepS i t))).cs, .c (.i (Prod.snd (Prod.snd (stepS i t)))), .c (.i 0)])) ∧ (Ok 93 [.ag i.cs] (.c (.b (branchB i)))) ∧ (Ok 93 [.ag i.cs] (.c (.b (branchB i)))) ∧ (AV.ag [.i 12, .i 0, .i 0, .u 0#64, .i i.of] = V))
  (l8 : (!t.live) = false → (decide (i.op ≤ 9)) = false → (branchB i) = true → (!(Prod.fst (Prod.snd (stepS i t))).live) = false → (!(Prod.fst (stepS i t)).live) = false → (Ok 7 [.ag i.cs, .ag t.cs] (.tu [.ag (Prod.fst (stepS i t)).cs, .ag (Prod.fst (Prod.snd (stepS i t))).cs, .c (.i (Prod.snd (Prod.snd (stepS i t)))), .c (.i 0)])) ∧ (Ok 93 [.ag i.cs] (.c (.b (branchB i)))) ∧ (Ok 93 [.ag i.cs] (.c (.b (branchB i)))) ∧ (AV.ag i.cs = V))
  (l9 : (!t.live) = false → (decide (i.op ≤ 9)) = false → (branchB i) = false → (Ok 7 [.ag i.cs, .ag t.cs] (.tu [.ag (Prod.fst (stepS i t)).cs, .ag (Prod.fst (Prod.snd (stepS i t))).cs, .c (.i (Prod.snd (Prod.snd (stepS i t)))), .c (.i 0)])) ∧ (Ok 93 [.ag i.cs] (.c (.b (branchB i)))) ∧ (Ok 93 [.ag i.cs] (.c (.b (branchB i)))) ∧ (AV.ag i.cs = V)) :
  Ok 54 [.ag i.cs, .ag t.cs] V :=
 (tf (!t.live)).elim (fun h0 => (match l0 h0 with | ⟨c0, e⟩ => ok_eq (ffd_w0 (and_yes h0 rfl) c0) e)) (fun h0 => (tf (decide (i.op ≤ 9))).elim (fun h1 => (tf ((((Prod.fst (stepS i t)).r).get (i.d).toNat).l == (((Prod.fst (stepS i t)).r).get (i.d).toNat).h)).elim (fun h2 => (match l1 h0 h1 h2 with | ⟨o0, o1, o2, o3, c0, c1, c2, c3, e⟩ => ok_eq (ffd_w1 (and_yes (not_yes h0) (and_yes h1 (and_yes o0 (and_yes o1 (and_yes h2 (and_yes o2 (and_yes o3 rfl))))))) c0 c1 c2 c3) e)) (fun h2 => (tf (branchB i)).elim (fun h3 => (tf (!(Prod.fst (Prod.snd (stepS i t))).live)).elim (fun h4 => (match l2 h0 h1 h2 h3 h4 with | ⟨o0, o1, c0, c1, c2, c3, c4, e⟩ => ok_eq (ffd_w2 (and_yes (not_yes h0) (and_yes h1 (and_yes o0 (and_yes o1 (and_yes (not_yes h2) (and_yes h3 (and_yes h4 rfl))))))) c0 c1 c2 c3 c4) e)) (fun h4 => (tf (!(Prod.fst (stepS i t)).live)).elim (fun h5 => (match l3 h0 h1 h2 h3 h4 h5 with | ⟨o0, o1, c0, c1, c2, c3, c4, e⟩ => ok_eq (ffd_w3 (and_yes (not_yes h0) (and_yes h1 (and_yes o0 (and_yes o1 (and_yes (not_yes h2) (and_yes h3 (and_yes (not_yes h4) (and_yes h3 (and_yes h5 rfl))))))))) c0 c1 c2 c3 c4) e)) (fun h5 => (match l4 h0 h1 h2 h3 h4 h5 with | ⟨o0, o1, c0, c1, c2, c3, c4, e⟩ => ok_eq (ffd_w4 (and_yes (not_yes h0) (and_yes h1 (and_yes o0 (and_yes o1 (and_yes (not_yes h2) (and_yes h3 (and_yes (not_yes h4) (and_yes h3 (and_yes (not_yes h5) rfl))))))))) c0 c1 c2 c3 c4) e)))) (fun h3 => (match l5 h0 h1 h2 h3 with | ⟨o0, o1, c0, c1, c2, c3, c4, e⟩ => ok_eq (ffd_w5 (and_yes (not_yes h0) (and_yes h1 (and_yes o0 (and_yes o1 (and_yes (not_yes h2) (and_yes (not_yes h3) (and_yes (not_yes h3) rfl))))))) c0 c1 c2 c3 c4) e)))) (fun h1 => (tf (branchB i)).elim (fun h2 => (tf (!(Prod.fst (Prod.snd (stepS i t))).live)).elim (fun h3 => (match l6 h0 h1 h2 h3 with | ⟨c0, c1, c2, e⟩ => ok_eq (ffd_w6 (and_yes (not_yes h0) (and_yes (not_yes h1) (and_yes h2 (and_yes h3 rfl)))) c0 c1 c2) e)) (fun h3 => (tf (!(Prod.fst (stepS i t)).live)).elim (fun h4 => (match l7 h0 h1 h2 h3 h4 with | ⟨c0, c1, c2, e⟩ => ok_eq (ffd_w7 (and_yes (not_yes h0) (and_yes (not_yes h1) (and_yes h2 (and_yes (not_yes h3) (and_yes h2 (and_yes h4 rfl)))))) c0 c1 c2) e)) (fun h4 => (match l8 h0 h1 h2 h3 h4 with | ⟨c0, c1, c2, e⟩ => ok_eq (ffd_w8 (and_yes (not_yes h0) (and_yes (not_yes h1) (and_yes h2 (and_yes (not_yes h3) (and_yes h2 (and_yes (not_yes h4) rfl)))))) c0 c1 c2) e)))) (fun h2 => (match l9 h0 h1 h2 with | ⟨c0, c1, c2, e⟩ => ok_eq (ffd_w9 (and_yes (not_yes h0) (and_yes (not_yes h1) (and_yes (not_yes h2) (and_yes (not_yes h2) rfl)))) c0 c1 c2) e))))
theorem feTop_w0 {a : V6 Bool} (lo : Kn.Low ⟨[(2, .c (.w 0)), (3, .c (.w 1)), (4, .c (.w 2)), (6, .c (.i 0))], [(0, Ent.mk true (bcs a) 0), (1, Ent.mk true (bcs b) 0), (2, Ent.mk true [.b false, .b false, .b false, .b false, .b false, .b false] 0)], 3⟩) (hF : ∀ k, C.F k → k < 3) (z : AR 127 Tryz.f127 C 0 ⟨[(2, .c (.w 0)), (3, .c (.w 1)), (4, .c (.w 2)), (6, .c (.i 0))], [(0, Ent.mk true (bcs a) 0), (1, Ent.mk true (bcs b) 0), (2, Ent.mk true [.b false, .b false, .b false, .b false, .b false, .b false] 0)], 3⟩ R) :
  BO 127 Tryz.f127 C [.ag (bcs a), .ag (bcs b)] [] 0 R :=
 run_cut2 [] ([true]) [] Tryz.func127 (by kernel_rfl) rfl cr_nil lo hF z
theorem feR1_w0 {a : V6 Bool} (h : (decide (j < 6) && (decide (0 ≤ j) && decide (j < 6) && (AC.isB ((bcs a)[j.toNat * 1]?.getD (.b false)) && Nat.blt (j.toNat * 1) (bcs a).length && (a.get j.toNat && (decide (0 ≤ j) && decide (j < 6) && (Nat.ble (j.toNat * 1 + 1) (bcs a).length && true && true)))))) = true) (c0 : pe (.c (.b (AC.asB ((bcs a)[j.toNat * 1]?.getD (.b false))))) = pe (.c (.b (a.get j.toNat)))) (c1 : we 0 (splice (bcs a) (j.toNat * 1) [.b true]) = we 0 (bcs (a.set j.toNat true))) (lo : Kn.Low ⟨[(2, .c (.w 0)), (3, .c (.w 1)), (4, .c (.w 2)), (6, .c (.i (IntKind.i64.wrap (j + 1))))], [(0, Ent.mk true (bcs (a.set j.toNat true)) 0), (1, Ent.mk true (bcs b) 0), (2, Ent.mk true [.b false, .b false, .b false, .b false, .b false, .b false] 0)], 3⟩) (hF : ∀ k, C.F k → k < 3) (z : AR 127 Tryz.f127 C 0 ⟨[(2, .c (.w 0)), (3, .c (.w 1)), (4, .c (.w 2)), (6, .c (.i (IntKind.i64.wrap (j + 1))))], [(0, Ent.mk true (bcs (a.set j.toNat true)) 0), (1, Ent.mk true (bcs b) 0), (2, Ent.mk true [.b false, .b false, .b false, .b false, .b false, .b false] 0)], 3⟩ R) :
  AR 127 Tryz.f127 C 0 (feR1K a b j) R :=
 run_cut2 [true, true] ([true]) [(4, 3), (4, 7), (4, 10)] Tryz.func127 (by kernel_rfl) h (cr_same c0 (cr_same c1 cr_nil)) lo hF z
theorem feR0_w0 {a : V6 Bool} (h : (decide (j < 6) && (decide (0 ≤ j) && decide (j < 6) && (AC.isB ((bcs a)[j.toNat * 1]?.getD (.b false)) && Nat.blt (j.toNat * 1) (bcs a).length && (!a.get j.toNat && (decide (0 ≤ j) && decide (j < 6) && (AC.isB ((bcs b)[j.toNat * 1]?.getD (.b false)) && Nat.blt (j.toNat * 1) (bcs b).length && (decide (0 ≤ j) && decide (j < 6) && (Nat.ble (j.toNat * 1 + List.length [AC.b (b.get j.toNat)]) (bcs a).length && true && true)))))))) = true) (c0 : pe (.c (.b (AC.asB ((bcs a)[j.toNat * 1]?.getD (.b false))))) = pe (.c (.b (a.get j.toNat)))) (c1 : pe (.c (.b (AC.asB ((bcs b)[j.toNat * 1]?.getD (.b false))))) = pe (.c (.b (b.get j.toNat)))) (c2 : we 0 (splice (bcs a) (j.toNat * 1) [.b (b.get j.toNat)]) = we 0 (bcs (a.set j.toNat (b.get j.toNat)))) (lo : Kn.Low ⟨[(2, .c (.w 0)), (3, .c (.w 1)), (4, .c (.w 2)), (6, .c (.i (IntKind.i64.wrap (j + 1))))], [(0, Ent.mk true (bcs (a.set j.toNat (b.get j.toNat))) 0), (1, Ent.mk true (bcs b) 0), (2, Ent.mk true [.b false, .b false, .b false, .b false, .b false, .b false] 0)], 3⟩) (hF : ∀ k, C.F k → k < 3) (z : AR 127 Tryz.f127 C 0 ⟨[(2, .c (.w 0)), (3, .c (.w 1)), (4, .c (.w 2)), (6, .c (.i (IntKind.i64.wrap (j + 1))))], [(0, Ent.mk true (bcs (a.set j.toNat (b.get j.toNat))) 0), (1, Ent.mk true (bcs b) 0), (2, Ent.mk true [.b false, .b false, .b false, .b false, .b false, .b false] 0)], 3⟩ R) :
  AR 127 Tryz.f127 C 0 (feR1K a b j) R :=
 run_cut2 [true, false] ([true]) [(4, 3), (4, 7), (4, 10)] Tryz.func127 (by kernel_rfl) h (cr_same c0 (cr_same c1 (cr_same c2 cr_nil))) lo hF z
theorem feEnd_w0 {a : V6 Bool} :
  AR 127 Tryz.f127 (cx w β n []) 0 (feR1K a b 6) (REff w β ⟨.ag (bcs a), [], none⟩) :=
 run_eff2 [] none [false] ([true]) [] Tryz.func127 (ekeys0 rfl n) (by kernel_rfl) rfl cr_nil
end
theorem on_ok : Ok 91 [] (.ag onI.cs) := fon_w0
theorem alone_ok (a : V4) : Ok 92 [.ag a.cs] (.c (.b (a.l == a.h))) := fal_w0
theorem branches_ok (i : Ins) : Ok 93 [.ag i.cs] (.c (.b (branchB i))) := by
 refine fbr_all (fun h => ?_) (fun h => ?_)
 ·unfold branchB; rw [h]; rfl
 ·unfold branchB; rw [h]; rfl
theorem sets_ok (i : Ins) : Ok 96 [.ag i.cs] (.c (.b (decide (i.op ≤ 10)))) := fse_w0
theorem st_low_ok (t : St) {j : Int} (h : regB j = true) : (AC.isU (Option.getD (St.cs t)[7 + Int.toNat j * 4 + 2]? (AC.b false)) && Nat.blt (7 + Int.toNat j * 4 + 2) (List.length (St.cs t))) = true :=
 reg_elim (P := fun j => (AC.isU (Option.getD (St.cs t)[7 + Int.toNat j * 4 + 2]? (AC.b false)) && Nat.blt (7 + Int.toNat j * 4 + 2) (List.length (St.cs t))) = true) h rfl rfl rfl rfl rfl rfl
theorem st_low_eff (t : St) {j : Int} (h : regB j = true) : Eff.mk (AV.c (AC.u (AC.asU (Option.getD (St.cs t)[7 + Int.toNat j * 4 + 2]? (AC.b false))))) [] none = Eff.mk (AV.c (AC.u (V4.l (V6.get (St.r t) (Int.toNat j))))) [] none :=
 reg_elim (P := fun j => Eff.mk (AV.c (AC.u (AC.asU (Option.getD (St.cs t)[7 + Int.toNat j * 4 + 2]? (AC.b false))))) [] none = Eff.mk (AV.c (AC.u (V4.l (V6.get (St.r t) (Int.toNat j))))) [] none) h rfl rfl rfl rfl rfl rfl
theorem folded_ok {L : List Ins} {k : Nat} {t : St} (hP : RightP L) (hk : k < L.length) (ht : t.Ok) : Ok 54 [.ag (elt L k).cs, .ag t.cs] (.ag (foldI (elt L k) t).cs) := by
 have c0 := on_ok
 have c1 := step_in hP hk ht
 have hr := hP.step k hk
 change Right (elt L k) _ at hr
 generalize elt L k = i at *
 have c2 := alone_ok ((stepS i t).1.r.get i.d.toNat)
 have c3 := branches_ok i
 have hB : decide (i.op ≤ 9) = true → regB i.d = true := fun h => (fits_two hr (of_decide_eq_true h)).1
 have q0 := fun h => sr_ok (stepS i t).1 (hB h)
 have q1 := fun h => st_low_ok (stepS i t).1 (hB h)
 have q2 := fun h => sr_eff (stepS i t).1 (hB h)
 have q3 := fun h => st_low_eff (stepS i t).1 (hB h)
 have hne : decide (i.op ≤ 9) = true → branchB i = false := fun h => by
  have := of_decide_eq_true h
  unfold branchB
  rw [Bool.or_eq_false_iff]
  constructor <;> (rw [beq_eq_false_iff_ne]; omega)
 have fin : ∀ x : Ins, foldI i t = x → (AV.ag x.cs) = AV.ag (foldI i t).cs := fun x h => by rw [h]
 refine ffd_all (fun a => ⟨c0, fin onI ?_⟩) (fun a b d => ⟨hB b, q0 b, hB b, q1 b, c1, q2 b, c2, q3 b, fin ⟨1, i.d, -1, ((stepS i t).1.r.get i.d.toNat).l, 0⟩ ?_⟩)
  (fun a b d e => absurd e (by rw [hne b]; decide)) (fun a b d e => absurd e (by rw [hne b]; decide)) (fun a b d e => absurd e (by rw [hne b]; decide)) (fun a b d e => ⟨hB b, q0 b, c1, q2 b, c2, c3, c3, fin i ?_⟩)
  (fun a b d e => ⟨c1, c3, c0, fin onI ?_⟩) (fun a b d e g => ⟨c1, c3, c3, fin ⟨12, 0, 0, 0#64, i.of⟩ ?_⟩) (fun a b d e g => ⟨c1, c3, c3, fin i ?_⟩) (fun a b d => ⟨c1, c3, c3, fin i ?_⟩)
 all_goals unfold foldI V4.alone eqb
 all_goals simp only [Bool.not_eq_eq_eq_not, Bool.not_true, Bool.not_false] at *
 all_goals simp [*]
def orF (b : V6 Bool) : Nat → V6 Bool → V6 Bool
 | 0, a => a
 | n + 1, a => orF b n (a.set (5 - n) (a.get (5 - n) || b.get (5 - n)))
abbrev feKn (a b : V6 Bool) (j : Int) : Kn := ⟨[(2, .c (.w 0)), (3, .c (.w 1)), (4, .c (.w 2)), (6, .c (.i j))], [(0, ⟨true, bcs a, 0⟩), (1, ⟨true, bcs b, 0⟩), (2, ⟨true, bcs no6, 0⟩)], 3⟩
theorem be_ok (u : V6 Bool) {j : Int} (h : regB j = true) : (AC.isB (Option.getD (bcs u)[Int.toNat j * 1]? (AC.b false)) && Nat.blt (Int.toNat j * 1) (List.length (bcs u))) = true :=
 reg_elim (P := fun j => (AC.isB (Option.getD (bcs u)[Int.toNat j * 1]? (AC.b false)) && Nat.blt (Int.toNat j * 1) (List.length (bcs u))) = true) h rfl rfl rfl rfl rfl rfl
theorem bw_ok (u : V6 Bool) {j : Int} (h : regB j = true) : Nat.ble (Int.toNat j * 1 + 1) (List.length (bcs u)) = true :=
 reg_elim (P := fun j => Nat.ble (Int.toNat j * 1 + 1) (List.length (bcs u)) = true) h rfl rfl rfl rfl rfl rfl
theorem bw_eff (u : V6 Bool) {j : Int} (x : Bool) (h : regB j = true) : splice (bcs u) (Int.toNat j * 1) [AC.b x] = bcs (V6.set u (Int.toNat j) x) :=
 reg_elim (P := fun j => splice (bcs u) (Int.toNat j * 1) [AC.b x] = bcs (V6.set u (Int.toNat j) x)) h rfl rfl rfl rfl rfl rfl
theorem feLoop {b : V6 Bool} {w : World} {β : Bs} : ∀ n, n ≤ 6 → ∀ a : V6 Bool,
  ART Tryz.prog 127 (cx w β 0 []) Tryz.f127.ntmps (cutAt Tryz.f127 0) (feKn a b (6 - n : Nat)) (REff w β ⟨.ag (bcs (orF b n a)), [], none⟩)
 | 0, _, a => feEnd_w0
 | n + 1, hn, a => by
  have hj := rnd_reg hn
  have ej := rnd_nat hn
  have f0 := lt_six hj
  have f2 : (decide (0 ≤ ((6 - (n + 1) : Nat) : Int)) && decide (((6 - (n + 1) : Nat) : Int) < 6)) = true := hj
  have next : ∀ a' : V6 Bool, a.set (5 - n) (a.get (5 - n) || b.get (5 - n)) = a' → ART Tryz.prog 127 (cx w β 0 []) Tryz.f127.ntmps (cutAt Tryz.f127 0) (feKn a' b (IntKind.wrap IntKind.i64 (((6 - (n + 1) : Nat) : Int) + 1))) (REff w β ⟨.ag (bcs (orF b (n + 1) a)), [], none⟩) := by
   intro a' ha
   rw [rnd_next hn, orF, ha]
   exact feLoop n (by omega) a'
  cases hg : a.get ((6 - (n + 1) : Nat) : Int).toNat with
  | true =>
   refine feR1_w0 (and_yes f0 (and_yes f2 (and_yes (be_ok a hj) (and_yes hg (and_yes f2 (by rw [bw_ok a hj]; rfl)))))) (b_eff a hj) (by rw [bw_eff a true hj]) (low_of rfl) (fun _ h => absurd h (Nat.not_lt_zero _)) (next _ ?_)
   rw [ej] at hg ⊢; rw [hg]; rfl
  | false =>
   refine feR0_w0 (and_yes f0 (and_yes f2 (and_yes (be_ok a hj) (and_yes (by rw [hg]; rfl) (and_yes f2 (and_yes (be_ok b hj) (and_yes f2 (by have := bw_ok a hj; rw [show List.length [AC.b (V6.get b (Int.toNat ((6 - (n + 1) : Nat) : Int)))] = 1 from rfl, this]; rfl)))))))) (b_eff a hj) (b_eff b hj) (by rw [bw_eff a _ hj]) (low_of rfl) (fun _ h => absurd h (Nat.not_lt_zero _)) (next _ ?_)
   rw [ej] at hg ⊢; rw [hg]; rfl
theorem either_ok (a b : V6 Bool) : Ok 127 [.ag (bcs a), .ag (bcs b)] (.ag (bcs (orS a b))) :=
 val_of Tryz.func127 rfl rfl rfl rfl fun _ _ => feTop_w0 (low_of rfl) (fun _ h => absurd h (Nat.not_lt_zero _)) (feLoop 6 (Nat.le_refl _) a)
end Go.Proofs.YtkigmocchaikgabGreat
/- Folding: what a folded step makes of a state is what the step makes of it; and so of a machine that is had: plain facts. -/
namespace Go.Proofs.YtkigmocchaikgabGreat
theorem V4.alone_of {a : V4} (h : a.ok = true) (ha : a.alone = true) : a = V4.of a.l := by
 have e : a.l = a.h := (eqb_iff _ _).1 ha
 obtain ⟨hr, h1, h2, h3, h4⟩ := val_facts h
 rw [← e, sM_self, ins_iff] at h4
 have hm : a.m = zero := by
  apply bext
  intro j hj
  have := (h4.2.2 j hj).1
  rw [bit_zero] at this ⊢
  revert this
  cases bit a.m j <;> simp
 have hv : a.v = a.l := by
  apply bext
  intro j hj
  have := ((hasB_iff _ _ _).1 h1).2 j hj
  rw [hm, bit_zero] at this
  revert this
  cases bit a.l j <;> cases bit a.v j <;> simp
 obtain ⟨v, m, l, g⟩ := a
 simp only at hm hv e
 subst hm hv e
 rfl
theorem left2_same {a b : V4} (ha : a.ok = true) (hb : b.ok = true) : left2 true a b = (a, b, true) := by
 obtain ⟨h1, h2⟩ := V4.stays ha
 obtain ⟨h3, h4⟩ := V4.stays hb
 simp only [left2, lvV, h1, h2, h3, h4, Bool.and_self, if_true]
theorem without_same {a b : V4} (ha : a.ok = true) (hb : b.ok = true) (h : ∀ x, ¬ (a.has x = true ∧ b.has x = true)) : a.without b = a := by
 have hbl := V4.low_has hb
 have n1 : eqb a.l b.l = false := by
  rw [eqb_false]
  intro e
  exact h b.l ⟨by rw [← e]; exact V4.low_has ha, hbl⟩
 have n2 : (eqb b.l b.h && (!eqb a.l b.l && eqb a.h b.l)) = false := by
  have : eqb a.h b.l = false := by
   rw [eqb_false]
   intro e
   exact h b.l ⟨by rw [← e]; exact V4.high_has ha, hbl⟩
  rw [this]; simp
 unfold V4.without woL woH
 rw [n2, n1]
 simp
theorem V4.equal_none {a b : V4} (ha : a.ok = true) (hb : b.ok = true) (h : (a.equal b).2.2 = false) : a.other b = (a, b, true) := by
 have hno : ∀ x, ¬ (a.has x = true ∧ b.has x = true) := fun x ⟨h1, h2⟩ => by
  rw [(V4.equal_has h1 h2).1] at h; cases h
 have hno' : ∀ x, ¬ (b.has x = true ∧ a.has x = true) := fun x ⟨h1, h2⟩ => hno x ⟨h2, h1⟩
 have n1 : eqb a.l b.l = false := by
  rw [eqb_false]
  intro e
  exact hno b.l ⟨by rw [← e]; exact V4.low_has ha, V4.low_has hb⟩
 unfold V4.other
 rw [without_same ha hb hno, without_same hb ha hno', n1]
 simp only [Bool.and_false, Bool.not_false]
 exact left2_same ha hb
theorem meets_self (a : V4) : a.meets a = true := by
 unfold V4.meets
 rw [eqb_iff]
 apply bext
 intro j hj
 rw [bit_andn _ _ _ hj, bit_xor, bit_zero]
 simp
theorem bor_self (x : BitVec 64) : bor x x = x := by unfold bor; exact BitVec.or_self
theorem band_self (x : BitVec 64) : band x x = x := by unfold band; exact BitVec.and_self
theorem V4.other_none {a b : V4} (ha : a.ok = true) (hb : b.ok = true) (h : (a.other b).2.2 = false) : a.equal b = (a, b, true) := by
 have hno : ∀ x y, a.has x = true → b.has y = true → x = y := fun x y h1 h2 => by
  apply Decidable.byContradiction
  intro hne
  rw [(V4.other_has h1 h2 hne).1] at h; cases h
 have e1 := hno _ _ (V4.low_has ha) (V4.low_has hb)
 have e2 := hno _ _ (V4.high_has ha) (V4.low_has hb)
 have e3 := hno _ _ (V4.low_has ha) (V4.high_has hb)
 have a1 := V4.alone_of ha ((eqb_iff _ _).2 (by rw [e1, e2]))
 have b1 := V4.alone_of hb ((eqb_iff _ _).2 (by rw [← e1, e3]))
 have e : a = b := by rw [a1, b1, e1]
 subst e
 unfold V4.equal
 rw [if_pos (meets_self a)]
 have er : a.rawEqual a = a := by
  unfold V4.rawEqual
  rw [bor_self, band_self, bmax_self, bmin_self]
 rw [er]
 exact left2_same ha ha
theorem bmax_left {x y : BitVec 64} (h : nv y ≤ nv x) : bmax x y = x := by unfold bmax; rw [if_neg (by omega)]
theorem bmin_left {x y : BitVec 64} (h : nv x ≤ nv y) : bmin x y = x := by unfold bmin; rw [if_neg (by omega)]
theorem V4.less_none {a b : V4} (ha : a.ok = true) (hb : b.ok = true) (h : (a.less b).2.2 = false) : a.notLess b = (a, b, true) := by
 have hle : nv b.h ≤ nv a.l := by
  apply Decidable.byContradiction
  intro hn
  rw [(V4.less_has (V4.low_has ha) (V4.high_has hb) (by omega)).1] at h; cases h
 have h1 := V4.le ha
 have h2 := V4.le hb
 unfold V4.notLess
 rw [bmax_left (by omega), bmin_left (by omega)]
 exact left2_same ha hb
theorem V4.notLess_none {a b : V4} (ha : a.ok = true) (hb : b.ok = true) (h : (a.notLess b).2.2 = false) : a.less b = (a, b, true) := by
 have hlt : nv a.h < nv b.l := by
  apply Decidable.byContradiction
  intro hn
  rw [(V4.notLess_has (V4.high_has ha) (V4.low_has hb) (by omega)).1] at h; cases h
 have h1 := V4.le ha
 have h2 := V4.le hb
 have n1 := nv_nonneg a.l
 have n2 := nv_lt b.h
 have z1 : eqb b.h zero = false := by
  rw [eqb_false]; intro e; rw [e, nv_zero] at h2; omega
 have z2 : eqb a.l top = false := by
  rw [eqb_false]; intro e; rw [e, nv_top] at h1; have := nv_lt b.l; omega
 unfold V4.less
 rw [z1, z2, if_neg (by decide), bmin_left (by rw [nv_sub, nv_one]; omega), bmax_left (by rw [nv_add, nv_one]; omega)]
 exact left2_same ha hb
/- what is known already, told again -/
theorem V6.set_same {α : Type} {v : V6 α} {j : Nat} (hj : j < 6) {a : α} (h : v.get j = a) : v.set j a = v :=
 V6.ext6 fun i hi => by
  rw [V6.get_set _ _ _ _ hj hi]
  by_cases c : j = i
  ·subst c; rw [if_pos rfl, h]
  ·rw [if_neg c]
theorem wth_same {t : St} {j : Nat} {a : V4} (hj : j < 6) (hs : t.s.get j = true) (hr : t.r.get j = a) : t.wth j a = t := by
 unfold St.wth
 rw [V6.set_same hj hs, V6.set_same hj hr]
theorem left_same {i : Ins} {n : Int} {t : St} (hr : Right i n) (hu : lacks (useOf i) t.s = false) (ho : i.op = 13 ∨ i.op = 14) : leftS i t (t.r.get i.d.toNat, srcV i t, true) = t := by
 have hg := right_regs hr
 have hd := reg_nat hg.1
 have e1 : t.wth i.d.toNat (t.r.get i.d.toNat) = t := wth_same hd (lacks_no hu _ hd (use_d (by omega) (by omega) (by omega) (by omega) hg.1 hg.2)) rfl
 unfold leftS
 rw [if_pos rfl]
 by_cases c : i.s = -1
 ·rw [if_pos c]; exact e1
 ·rw [if_neg c]
  have hs := (srcB_iff.1 hg.2).resolve_left c
  show (t.wth i.d.toNat (t.r.get i.d.toNat)).wth i.s.toNat (srcV i t) = t
  rw [e1]
  refine wth_same (reg_nat hs) (lacks_no hu _ (reg_nat hs) (use_s (by omega) (by omega) hs)) ?_
  unfold srcV
  rw [if_neg c]
theorem left_live {i : Ins} {t : St} {x : V4 × V4 × Bool} (hl : t.live = true) : (leftS i t x).live = x.2.2 := by
 unfold leftS
 by_cases c : x.2.2 = true
 ·rw [if_pos c, c]; split <;> exact hl
 ·rw [if_neg c]
  cases h : x.2.2 with
  | true => exact absurd h c
  | false => rfl
theorem branch_iff {i : Ins} : branchB i = true ↔ i.op = 13 ∨ i.op = 14 := by simp [branchB]
/- of a branch that may go on in one way alone, that way's state is as it was -/
theorem branch_one {i : Ins} {n : Int} {t : St} (hr : Right i n) (ht : t.Ok) (hl : t.live = true) (h0 : trapS i t = 0) (ho : branchB i = true) :
  ((goS i t).2.live = false → (goS i t).1 = t ∧ (goS i t).2 = St.z) ∧ ((goS i t).1.live = false → (goS i t).2 = t ∧ (goS i t).1 = St.z) := by
 have ho' := branch_iff.1 ho
 obtain ⟨hu, _, _⟩ := trap_zero h0
 have hs := srcV_ok hr ht hu (by omega) (by omega)
 have hd := dstV_ok hr ht hu (by omega) (by omega) (by omega) (by omega)
 have dead : ∀ x : V4 × V4 × Bool, x.2.2 = false → leftS i t x = St.z := fun x h => by unfold leftS; rw [h]; rfl
 rcases ho' with ho' | ho'
 ·rw [goS_eq ho']
  constructor
  ·intro h
   simp only at h ⊢
   rw [left_live hl] at h
   rw [V4.equal_none hd hs h, dead _ h]
   exact ⟨left_same hr hu (Or.inl ho'), rfl⟩
  ·intro h
   simp only at h ⊢
   rw [left_live hl] at h
   rw [V4.other_none hd hs h, dead _ h]
   exact ⟨left_same hr hu (Or.inl ho'), rfl⟩
 ·rw [goS_lt ho']
  constructor
  ·intro h
   simp only at h ⊢
   rw [left_live hl] at h
   rw [V4.less_none hd hs h, dead _ h]
   exact ⟨left_same hr hu (Or.inr ho'), rfl⟩
  ·intro h
   simp only at h ⊢
   rw [left_live hl] at h
   rw [V4.notLess_none hd hs h, dead _ h]
   exact ⟨left_same hr hu (Or.inr ho'), rfl⟩
/- a jump, on what may be -/
theorem jump_step {t : St} {o : Int} : stepS ⟨12, 0, 0, 0#64, o⟩ t = if t.live then (St.z, t, 0) else (St.z, St.z, 0) := by
 unfold stepS
 split
 ·rename_i hl
  have : trapS ⟨12, 0, 0, 0#64, o⟩ t = 0 := by
   unfold trapS useOf
   rw [if_pos rfl, lacks_of fun j hj h => by rw [no6_get j hj] at h; cases h]
   rfl
  rw [if_pos this]; rfl
 ·rfl
theorem mov_step {t : St} {d : Int} {x : BitVec 64} (hl : t.live = true) : stepS ⟨1, d, -1, x, 0⟩ t = (t.wth d.toNat (V4.of x), St.z, 0) := by
 unfold stepS
 rw [if_pos hl]
 have : trapS ⟨1, d, -1, x, 0⟩ t = 0 := by
  unfold trapS useOf
  rw [if_neg (by decide : ¬ (1 : Int) = 12), if_neg (by decide : ¬ (1 : Int) = 15), if_pos rfl, if_pos (Or.inl rfl), lacks_of fun j hj h => by rw [no6_get j hj] at h; cases h]
  rfl
 rw [if_pos this]
 rfl
theorem two_go {i : Ins} {n : Int} {t : St} (hr : Right i n) (ht : t.Ok) (h0 : trapS i t = 0) (ho : i.op ≤ 9) : ∃ a, a.ok = true ∧ goS i t = (t.wth i.d.toNat a, St.z) ∧ ∀ m, t.Has m → a.has (numN i.op (m.r.get i.d.toNat) (srcN i m)) = true := by
 have hk := kind_iff.1 hr.kind
 obtain ⟨hu, _, _⟩ := trap_zero h0
 have hs := srcV_ok hr ht hu (by omega) (by omega)
 by_cases c7 : i.op = 1
 ·rw [goS_mov c7]
  refine ⟨_, hs, rfl, fun m hm => ?_⟩
  rw [numN_mov c7]
  exact has_srcV hr hm hu (by omega) (by omega)
 ·rw [goS_two (by omega)]
  exact ⟨_, V4.two_ok (by omega) (dstV_ok hr ht hu (by omega) (by omega) c7 (by omega)) hs, rfl, fun m hm => V4.two_has (by omega) (has_dstV hr hm hu (by omega) (by omega) c7 (by omega)) (has_srcV hr hm hu (by omega) (by omega))⟩
/- what a folded step adds is what the step adds -/
theorem fold_adds {i : Ins} {n : Int} {t : St} (hr : Right i n) (ht : t.Ok) (h0 : (stepS i t).2.2 = 0) :
  (stepS (foldI i t) t).2.2 = 0 ∧ ∀ (S : List St) (k : Nat), addS (addS S (k + 1) (stepS (foldI i t) t).1) (k + 1 + (foldI i t).of.toNat) (stepS (foldI i t) t).2.1 = addS (addS S (k + 1) (stepS i t).1) (k + 1 + i.of.toNat) (stepS i t).2.1 := by
 have zadd : ∀ (S : List St) k, addS S k St.z = S := fun S k => by unfold addS; rfl
 unfold foldI
 by_cases hl : t.live = true
 ·rw [if_pos hl]
  obtain ⟨t0, e1, e2⟩ := stepS_live hl h0
  have hd := reg_nat (right_regs hr).1
  by_cases c1 : (decide (i.op ≤ 9) && ((stepS i t).1.r.get i.d.toNat).alone) = true
  ·rw [if_pos c1]
   rw [Bool.and_eq_true, decide_eq_true_eq] at c1
   obtain ⟨a, ha, hgo, _⟩ := two_go hr ht t0 c1.1
   have hal := c1.2
   rw [e1, hgo, St.wth_r hd hd, if_pos rfl] at hal
   have ea := V4.alone_of ha hal
   rw [mov_step hl, e1, e2, hgo]
   simp only
   rw [St.wth_r hd hd, if_pos rfl, ← ea]
   exact ⟨(by first | rfl | trivial), fun S k => by rw [zadd, zadd]⟩
  rw [if_neg c1]
  by_cases c2 : (branchB i && !(stepS i t).2.1.live) = true
  ·rw [if_pos c2]
   rw [Bool.and_eq_true, Bool.not_eq_true', e2] at c2
   obtain ⟨e3, e4⟩ := (branch_one hr ht hl t0 c2.1).1 c2.2
   unfold onI
   rw [jump_step, if_pos hl, e1, e2, e3, e4]
   exact ⟨(by first | rfl | trivial), fun S k => by simp only; rw [zadd, zadd]; rfl⟩
  rw [if_neg c2]
  by_cases c3 : (branchB i && !(stepS i t).1.live) = true
  ·rw [if_pos c3]
   rw [Bool.and_eq_true, Bool.not_eq_true', e1] at c3
   obtain ⟨e3, e4⟩ := (branch_one hr ht hl t0 c3.1).2 c3.2
   rw [jump_step, if_pos hl, e1, e2, e3, e4]
   exact ⟨(by first | rfl | trivial), fun S k => rfl⟩
  rw [if_neg c3]
  exact ⟨h0, fun S k => rfl⟩
 ·rw [if_neg hl]
  unfold onI
  rw [jump_step, if_neg hl]
  unfold stepS
  rw [if_neg hl]
  exact ⟨(by first | rfl | trivial), fun S k => by simp only; rw [zadd, zadd, zadd]⟩
/- of a machine that is had, a folded step makes what the step makes -/
theorem jump_m {m : Mach} {o : Int} : stepM ⟨12, 0, 0, 0#64, o⟩ m = m.on o := by
 unfold stepM useOf
 rw [if_pos rfl, lacks_of fun j hj h => by rw [no6_get j hj] at h; cases h]
 rfl
theorem mov_m {m : Mach} {d : Int} {x : BitVec 64} : stepM ⟨1, d, -1, x, 0⟩ m = (m.wth d.toNat x).on 0 := by
 unfold stepM useOf
 rw [if_neg (by decide : ¬ (1 : Int) = 12), if_neg (by decide : ¬ (1 : Int) = 15), if_pos rfl, if_pos (Or.inl rfl), lacks_of fun j hj h => by rw [no6_get j hj] at h; cases h]
 rfl
theorem two_m {i : Ins} {n : Int} {m : Mach} (hr : Right i n) (hu : lacks (useOf i) m.s = false) (ho : i.op ≤ 9) : stepM i m = (m.wth i.d.toNat (numN i.op (m.r.get i.d.toNat) (srcN i m))).on 0 := by
 have hk := kind_iff.1 hr.kind
 exact stepM_two hu (by omega)
theorem branch_live {i : Ins} {n : Int} {t : St} {m : Mach} (hr : Right i n) (hm : t.Has m) (h0 : trapS i t = 0) (ho : branchB i = true) :
  (stepM i m = m.on i.of ∧ (goS i t).2.live = true) ∨ (stepM i m = m.on 0 ∧ (goS i t).1.live = true) := by
 have ho' := branch_iff.1 ho
 obtain ⟨hu, _, _⟩ := trap_zero h0
 have hs := has_srcV hr hm hu (by omega) (by omega)
 have hd := has_dstV hr hm hu (by omega) (by omega) (by omega) (by omega)
 have hlm := has_lacks hm hu
 rcases ho' with ho' | ho'
 ·rw [stepM_eq hlm ho', goS_eq ho']
  by_cases e : eqb (m.r.get i.d.toNat) (srcN i m) = true
  ·rw [if_pos e]
   refine Or.inl ⟨rfl, ?_⟩
   simp only
   rw [left_live hm.live]
   have e' := (eqb_iff _ _).1 e
   rw [← e'] at hs
   exact (V4.equal_has hd hs).1
  ·rw [if_neg e]
   refine Or.inr ⟨rfl, ?_⟩
   simp only
   rw [left_live hm.live]
   exact (V4.other_has hd hs fun h => e ((eqb_iff _ _).2 h)).1
 ·rw [stepM_lt hlm ho', goS_lt ho']
  by_cases e : nv (m.r.get i.d.toNat) < nv (srcN i m)
  ·rw [if_pos e]
   refine Or.inl ⟨rfl, ?_⟩
   simp only
   rw [left_live hm.live]
   exact (V4.less_has hd hs e).1
  ·rw [if_neg e]
   refine Or.inr ⟨rfl, ?_⟩
   simp only
   rw [left_live hm.live]
   exact (V4.notLess_has hd hs (by omega)).1
theorem fold_step {i : Ins} {n : Int} {t : St} {m : Mach} (hr : Right i n) (h0 : (stepS i t).2.2 = 0) (hm : t.Has m) : stepM (foldI i t) m = stepM i m := by
 have hl := hm.live
 have ht := hm.ok
 obtain ⟨t0, e1, e2⟩ := stepS_live hl h0
 have hd := reg_nat (right_regs hr).1
 obtain ⟨hu, _, _⟩ := trap_zero t0
 unfold foldI
 rw [if_pos hl]
 by_cases c1 : (decide (i.op ≤ 9) && ((stepS i t).1.r.get i.d.toNat).alone) = true
 ·rw [if_pos c1]
  rw [Bool.and_eq_true, decide_eq_true_eq] at c1
  obtain ⟨a, ha, hgo, hn⟩ := two_go hr ht t0 c1.1
  have hal := c1.2
  rw [e1, hgo, St.wth_r hd hd, if_pos rfl] at hal
  have ea := V4.alone_of ha hal
  have hx := hn m hm
  rw [ea] at hx
  rw [e1, hgo]
  simp only
  rw [St.wth_r hd hd, if_pos rfl, mov_m, two_m hr (has_lacks hm hu) c1.1, V4.of_has.1 hx]
 rw [if_neg c1]
 by_cases c2 : (branchB i && !(stepS i t).2.1.live) = true
 ·rw [if_pos c2]
  rw [Bool.and_eq_true, Bool.not_eq_true', e2] at c2
  rcases branch_live hr hm t0 c2.1 with ⟨_, h2⟩ | ⟨h1, _⟩
  ·rw [c2.2] at h2; cases h2
  ·rw [h1]; exact jump_m
 rw [if_neg c2]
 by_cases c3 : (branchB i && !(stepS i t).1.live) = true
 ·rw [if_pos c3]
  rw [Bool.and_eq_true, Bool.not_eq_true', e1] at c3
  rcases branch_live hr hm t0 c3.1 with ⟨h1, _⟩ | ⟨_, h2⟩
  ·rw [h1]; exact jump_m
  ·rw [c3.2] at h2; cases h2
 rw [if_neg c3]
/- a machine's next -/
theorem zeroI (s : V6 Bool) (r : V6 (BitVec 64)) : zeroB s r = true ↔ ∀ i, i < 6 → (s.get i = true ∨ r.get i = 0#64) := by
 constructor
 ·intro h
  simp only [zeroB, eqb, Bool.and_eq_true, Bool.or_eq_true, beq_iff_eq] at h
  obtain ⟨⟨⟨⟨⟨h0, h1⟩, h2⟩, h3⟩, h4⟩, h5⟩ := h
  exact lt6 h0 h1 h2 h3 h4 h5
 ·intro h
  simp only [zeroB, eqb, Bool.and_eq_true, Bool.or_eq_true, beq_iff_eq]
  exact ⟨⟨⟨⟨⟨h 0 (by decide), h 1 (by decide)⟩, h 2 (by decide)⟩, h 3 (by decide)⟩, h 4 (by decide)⟩, h 5 (by decide)⟩
theorem zeroW {m : Mach} {d : Nat} {x : BitVec 64} (hd : d < 6) (h : zeroB m.s m.r = true) : zeroB (m.wth d x).s (m.wth d x).r = true := by
 rw [zeroI] at h ⊢
 intro i hi
 simp only [Mach.wth]
 rw [V6.get_set _ _ _ _ hd hi, V6.get_set _ _ _ _ hd hi]
 by_cases c : d = i
 ·rw [if_pos c]; exact Or.inl rfl
 ·rw [if_neg c, if_neg c]; exact h i hi
theorem zeroM {i : Ins} {n : Int} {m : Mach} (hr : Right i n) (h : zeroB m.s m.r = true) : zeroB (stepM i m).s (stepM i m).r = true := by
 have hd := reg_nat (right_regs hr).1
 unfold stepM
 by_cases c0 : lacks (useOf i) m.s = true
 ·rw [if_pos c0]; exact h
 rw [if_neg c0]
 by_cases c1 : i.op = 10 ∨ i.op = 11
 ·rw [if_pos c1]
  unfold reachM
  by_cases c2 : farB i m = true
  ·rw [if_pos c2]; exact h
  rw [if_neg c2]
  by_cases c3 : i.op = 10
  ·rw [if_pos c3]; exact zeroW hd h
  rw [if_neg c3]; exact h
 rw [if_neg c1]
 by_cases c2 : i.op = 12
 ·rw [if_pos c2]; exact h
 rw [if_neg c2]
 by_cases c3 : i.op = 13
 ·rw [if_pos c3]; exact h
 rw [if_neg c3]
 by_cases c4 : i.op = 14
 ·rw [if_pos c4]; exact h
 rw [if_neg c4]
 by_cases c5 : i.op = 15
 ·rw [if_pos c5]; exact h
 rw [if_neg c5]; exact zeroW hd h
theorem mach_zero {m : Mach} : machErr m = 0 ↔ m.mem.size = 64 ∧ (0 ≤ m.fin ∧ m.fin ≤ 3) ∧ (0 ≤ m.t ∧ m.t < 64) ∧ zeroB m.s m.r = true := by
 unfold machErr
 cases hz : zeroB m.s m.r with
 | false => simp
 | true =>
  cases hh : headB m with
  | false =>
   have : ¬ (m.mem.size = 64 ∧ (0 ≤ m.fin ∧ m.fin ≤ 3) ∧ (0 ≤ m.t ∧ m.t < 64)) := fun h => by
    have : headB m = true := by simp [headB, h.1]; omega
    rw [hh] at this; cases this
   simp
   intro a b c d
   by_cases f : m.t < 64
   ·exact absurd ⟨a, ⟨b, c⟩, d, f⟩ this
   ·omega
  | true =>
   have : m.mem.size = 64 ∧ (0 ≤ m.fin ∧ m.fin ≤ 3) ∧ (0 ≤ m.t ∧ m.t < 64) := by simpa [headB, and_assoc] using hh
   simp [this.1]; omega
/- a machine that runs in a program -/
structure Runs (L : List Ins) (m : Mach) : Prop where
 mach : machErr m = 0
 fin : m.fin = 0
 pos : 0 ≤ m.t
 lt : m.t < L.length
theorem runs_next {L : List Ins} {m : Mach} (hP : RightP L) (h : Runs L m) (h0 : (stepM (insAt L m.t) m).fin = 0) : Runs L (stepM (insAt L m.t) m) ∧ m.t < (stepM (insAt L m.t) m).t := by
 have hlt : m.t.toNat < L.length := by have := h.lt; have := h.pos; omega
 have hr := right_lt hP hlt
 have e : insAt L m.t = elt L m.t.toNat := rfl
 rw [← e] at hr
 have hl : (insAt L m.t).op = 15 ∨ (0 : Int) < ((L.length - 1 - m.t.toNat : Nat) : Int) := by
  by_cases c : m.t.toNat = L.length - 1
  ·left
   rw [e, c]; exact last_op hP
  ·right; omega
 obtain ⟨z1, _, _, z4⟩ := mach_zero.1 h.mach
 have h1 := h.pos
 have h2 := h.lt
 have hle := hP.le
 rcases stepM_at hr hl h.fin with h4 | ⟨_, h5, h6⟩
 ·exact absurd h0 h4
 ·exact ⟨⟨mach_zero.2 ⟨stepM_mem hr z1, by omega, by omega, zeroM hr z4⟩, h0, by omega, by omega⟩, h5⟩
theorem runs_start {L : List Ins} (hP : RightP L) {s : ByteArray} {x : BitVec 64} (hs : s.size = 64) : Runs L (startM s x) :=
 ⟨(begin_Has (x := x) hs).mach, rfl, Int.le_refl _, by have := hP.pos; show (0 : Int) < _; omega⟩
/- a machine that is had where it is, in a program without a trap, goes on so, till it stops -/
def Had (L : List Ins) (m : Mach) : Prop := m.fin = 0 → Runs L m ∧ (stAt (verifyS L).sts m.t.toNat).Has m
theorem had_start {L : List Ins} (hP : RightP L) {s : ByteArray} {x : BitVec 64} (hs : s.size = 64) : Had L (startM s x) := fun _ => by
 refine ⟨runs_start hP hs, ?_⟩
 show (stAt (verifyS L).sts 0).Has _
 rw [verify_first hP]
 exact begin_Has hs
theorem had_next {L : List Ins} (hP : RightP L) (h0 : (verifyS L).trap = 0) {m : Mach} (hf : m.fin = 0) (h : Had L m) : ((stepM (insAt L m.t) m).fin = 0 ∨ (stepM (insAt L m.t) m).fin = 3) ∧ Had L (stepM (insAt L m.t) m) := by
 obtain ⟨hr, hh⟩ := h hf
 rcases verify_step hP hr.pos hr.lt (Or.inl h0) hh with h1 | ⟨h1, h2⟩
 ·exact ⟨Or.inr h1, fun h => by rw [h1] at h; exact absurd h (by decide)⟩
 ·obtain ⟨h3, _⟩ := runs_next hP hr h1
  exact ⟨Or.inl h1, fun _ => ⟨h3, h2 h3.mach (Or.inl h0)⟩⟩
/- a run of a program without a trap stops -/
/- a program that is right, step by step -/
theorem elt_cons_succ (i : Ins) (l : List Ins) (k : Nat) : elt (i :: l) (k + 1) = elt l k := rfl
theorem foldL_at (S : List St) : ∀ (L : List Ins) (q : Nat), (foldL S L q).length = L.length ∧ ∀ k, elt (foldL S L q) k = if k + 1 < L.length then foldI (elt L k) (stAt S (q + k)) else elt L k
 | [], q => ⟨rfl, fun k => by rw [if_neg (by simp)]; rfl⟩
 | [i], q => ⟨rfl, fun k => by rw [if_neg (by simp)]; rfl⟩
 | i :: j :: l, q => by
  obtain ⟨h1, h2⟩ := foldL_at S (j :: l) (q + 1)
  refine ⟨by simp [foldL, h1], fun k => ?_⟩
  cases k with
  | zero => rw [if_pos (by simp)]; rfl
  | succ k =>
   show elt (foldL S (j :: l) (q + 1)) k = _
   rw [h2 k, elt_cons_succ]
   simp only [List.length_cons]
   by_cases c : k + 1 < l.length + 1
   ·rw [if_pos c, if_pos (by omega), show q + 1 + k = q + (k + 1) by omega]
   ·rw [if_neg c, if_neg (by omega)]
theorem onI_right {n : Int} (h : 0 < n) : Right onI n := by
 refine ⟨rfl, ?_, rfl⟩
 show goesB 0 n = true
 simp [goesB, h]
theorem foldI_right {i : Ins} {n : Int} {t : St} (h : 0 < n) (hr : Right i n) : Right (foldI i t) n := by
 unfold foldI
 by_cases hl : t.live = true
 ·rw [if_pos hl]
  split
  ·refine ⟨rfl, ?_, rfl⟩
   show (regB i.d && srcB (-1)) = true
   rw [(right_regs hr).1]; rfl
  ·split
   ·exact onI_right h
   ·split
    ·rename_i c
     rw [Bool.and_eq_true] at c
     have := fits_branch hr (branch_iff.1 c.1)
     refine ⟨rfl, ?_, rfl⟩
     show goesB i.of n = true
     simp [goesB]; omega
    ·exact hr
 ·rw [if_neg hl]; exact onI_right h
theorem foldL_right {L : List Ins} (hP : RightP L) (S : List St) : RightP (foldL S L 0) := by
 obtain ⟨h1, h2⟩ := foldL_at S L 0
 have hp := hP.pos
 refine ⟨by rw [h1]; exact hP.pos, by rw [h1]; exact hP.le, fun k hk => ?_, ?_⟩
 ·rw [h1] at hk ⊢
  show Right (elt (foldL S L 0) k) _
  rw [h2 k]
  split
  ·exact foldI_right (by omega) (right_lt hP hk)
  ·exact right_lt hP hk
 ·show (elt (foldL S L 0) ((foldL S L 0).length - 1)).op = 15
  rw [h1, h2, if_neg (by omega)]
  exact last_op hP
theorem verL_fold {L M : List Ins} (hP : RightP L) (hM : M.length = L.length) : ∀ (n k : Nat) (S : List St), k + n = L.length → S.length = L.length → (∀ j, (stAt S j).Ok) → (verL L n k S).trap = 0 →
  (∀ j, elt M j = if j + 1 < L.length then foldI (elt L j) (stAt (verL L n k S).sts j) else elt L j) → verL M n k S = verL L n k S
 | 0, _, _, _, _, _, _, _ => rfl
 | n + 1, k, S, hk, hS, hok, h0, hM' => by
  have hlt : k < L.length := by omega
  have hr := right_lt hP hlt
  have hout := verL_out hP (n + 1) k S hk hS hok
  have hsk := hout.same k (Nat.le_refl _) hlt
  have hq := (hout.step k (Nat.le_refl _) hlt (Or.inl h0)).1
  rw [hsk] at hq
  obtain ⟨q1, q2⟩ := stepS_Ok hr (hok k)
  have e1 : verL L (n + 1) k S = verL L n (k + 1) (addS (addS S (k + 1) (stepS (elt L k) (stAt S k)).1) (k + 1 + (elt L k).of.toNat) (stepS (elt L k) (stAt S k)).2.1) := by
   rw [verL, if_pos hq]
  have hk' := hM' k
  rw [hsk] at hk'
  have hadd : (stepS (elt M k) (stAt S k)).2.2 = 0 ∧ addS (addS S (k + 1) (stepS (elt M k) (stAt S k)).1) (k + 1 + (elt M k).of.toNat) (stepS (elt M k) (stAt S k)).2.1 = addS (addS S (k + 1) (stepS (elt L k) (stAt S k)).1) (k + 1 + (elt L k).of.toNat) (stepS (elt L k) (stAt S k)).2.1 := by
   by_cases c : k + 1 < L.length
   ·rw [if_pos c] at hk'
    rw [hk']
    obtain ⟨a, b⟩ := fold_adds hr (hok k) hq
    exact ⟨a, b S k⟩
   ·rw [if_neg c] at hk'
    rw [hk']
    exact ⟨hq, rfl⟩
  rw [e1, verL, if_pos hadd.1, hadd.2]
  rw [e1] at h0 hM'
  exact verL_fold hP hM n (k + 1) _ (by omega) (by rw [addS_len, addS_len]; exact hS) (addS_Ok (addS_Ok hok q1) q2) h0 hM'
theorem verify_fold {L : List Ins} (hP : RightP L) (h0 : (verifyS L).trap = 0) : verifyS (foldL (verifyS L).sts L 0) = verifyS L := by
 obtain ⟨h1, h2⟩ := foldL_at (verifyS L).sts L 0
 unfold verifyS
 rw [show (foldL (verL L L.length 0 (firstS L.length)).sts L 0).length = L.length from h1]
 refine verL_fold hP h1 L.length 0 _ (by omega) (firstS_len _) (firstS_Ok hP.pos) h0 fun j => ?_
 have := h2 j
 rw [Nat.zero_add] at this
 exact this
theorem run_fold {L : List Ins} (hP : RightP L) (h0 : (verifyS L).trap = 0) : ∀ (k : Nat) (m : Mach) (q : Nat), Had L m → runM (foldL (verifyS L).sts L 0) k m q = runM L k m q
 | 0, _, _, _ => rfl
 | k + 1, m, q, hh => by
  unfold runM
  by_cases c : m.fin = 0
  ·rw [if_pos c, if_pos c]
   obtain ⟨hr, hs⟩ := hh c
   have hp := hr.pos
   have hl := hr.lt
   have hlt : m.t.toNat < L.length := by omega
   have e : stepM (insAt (foldL (verifyS L).sts L 0) m.t) m = stepM (insAt L m.t) m := by
    obtain ⟨_, h2⟩ := foldL_at (verifyS L).sts L 0
    show stepM (elt (foldL (verifyS L).sts L 0) m.t.toNat) m = stepM (elt L m.t.toNat) m
    rw [h2, Nat.zero_add]
    split
    ·exact fold_step (right_lt hP hlt) ((verify_out hP).step m.t.toNat (Nat.zero_le _) hlt (Or.inl h0)).1 hs
    ·rfl
   rw [e]
   exact run_fold hP h0 k _ _ (had_next hP h0 c hh).2
  ·rw [if_neg c, if_neg c]
theorem orS_get {a b : V6 Bool} : ∀ j, j < 6 → (orS a b).get j = (a.get j || b.get j) := lt6 rfl rfl rfl rfl rfl rfl
/- what is live behind the k-th -/
def liveK (i : Ins) (A : List (V6 Bool)) (k : Nat) : V6 Bool :=
 if i.op = 15 then no6 else if i.op = 12 then lvAt A (k + 1 + i.of.toNat) else if branchB i then orS (lvAt A (k + 1)) (lvAt A (k + 1 + i.of.toNat)) else lvAt A (k + 1)
theorem lvAt_cons (a : V6 Bool) (A : List (V6 Bool)) (k : Nat) : lvAt (a :: A) (k + 1) = lvAt A k := rfl
theorem liveK_zero (i : Ins) (a : V6 Bool) (A : List (V6 Bool)) : liveK i (a :: A) 0 = liveB i A := by
 unfold liveK liveB
 rw [show 0 + 1 + i.of.toNat = i.of.toNat + 1 by omega, lvAt_cons, show 0 + 1 = 0 + 1 from rfl, lvAt_cons]
theorem liveK_succ (i : Ins) (a : V6 Bool) (A : List (V6 Bool)) (k : Nat) : liveK i (a :: A) (k + 1) = liveK i A k := by
 unfold liveK
 rw [show k + 1 + 1 + i.of.toNat = (k + 1 + i.of.toNat) + 1 by omega, lvAt_cons, lvAt_cons]
theorem ridR_at : ∀ L : List Ins, (ridR L).1.length = L.length ∧ ∀ k, k < L.length → elt (ridR L).1 k = deadI (elt L k) (liveK (elt L k) (ridR L).2 k) ∧ lvAt (ridR L).2 k = liveA (elt (ridR L).1 k) (liveK (elt L k) (ridR L).2 k)
 | [] => ⟨rfl, fun k hk => absurd hk (by simp)⟩
 | i :: l => by
  obtain ⟨h1, h2⟩ := ridR_at l
  refine ⟨by simp [ridR, h1], fun k hk => ?_⟩
  cases k with
  | zero =>
   have e : liveK (elt (i :: l) 0) (ridR (i :: l)).2 0 = liveB i (ridR l).2 := liveK_zero i _ _
   rw [e]
   exact ⟨rfl, rfl⟩
  | succ k =>
   have e : liveK (elt (i :: l) (k + 1)) (ridR (i :: l)).2 (k + 1) = liveK (elt l k) (ridR l).2 k := liveK_succ _ _ _ k
   rw [e]
   exact h2 k (by simpa using hk)
theorem deadI_right {i : Ins} {n : Int} {b : V6 Bool} (h : 0 < n ∨ i.op = 15) (hr : Right i n) : Right (deadI i b) n := by
 unfold deadI
 split
 ·rename_i c
  rw [Bool.and_eq_true, decide_eq_true_eq] at c
  exact onI_right (h.resolve_right (by omega))
 ·exact hr
/- the same as far as it is live -/
structure RelM (A : V6 Bool) (m m' : Mach) : Prop where
 t : m.t = m'.t
 mem : m.mem = m'.mem
 fin : m.fin = m'.fin
 reg : ∀ j, j < 6 → A.get j = true → m.s.get j = m'.s.get j ∧ m.r.get j = m'.r.get j
theorem RelM.sub {A B : V6 Bool} {m m' : Mach} (h : RelM A m m') (hs : ∀ j, j < 6 → B.get j = true → A.get j = true) : RelM B m m' := ⟨h.t, h.mem, h.fin, fun j hj hb => h.reg j hj (hs j hj hb)⟩
/- what is live ahead of a step that is kept: what it uses, and what is live behind it but for what it sets -/
theorem live_behind {i : Ins} {n : Int} {b : V6 Bool} {j : Nat} (hr : Right i n) (hj : j < 6) (h : b.get j = true) (hd : i.op ≤ 10 → j ≠ i.d.toNat) : (liveA i b).get j = true := by
 unfold liveA
 rw [orS_get j hj]
 split
 ·rename_i c
  rw [V6.get_set _ _ _ _ (reg_nat (right_regs hr).1) hj, if_neg (fun e => hd c e.symm), h]
  cases (useOf i).get j <;> rfl
 ·rw [h]; cases (useOf i).get j <;> rfl
theorem RelM.wth {i : Ins} {n : Int} {b : V6 Bool} {m m' : Mach} {x : BitVec 64} {o : Int} (hr : Right i n) (h : RelM (liveA i b) m m') : RelM b ((m.wth i.d.toNat x).on o) ((m'.wth i.d.toNat x).on o) := by
 have hd := reg_nat (right_regs hr).1
 refine ⟨by simp only [Mach.on, Mach.wth]; rw [h.t], h.mem, h.fin, fun j hj hb => ?_⟩
 simp only [Mach.on, Mach.wth]
 rw [V6.get_set _ _ _ _ hd hj, V6.get_set _ _ _ _ hd hj, V6.get_set _ _ _ _ hd hj, V6.get_set _ _ _ _ hd hj]
 by_cases c : i.d.toNat = j
 ·rw [if_pos c, if_pos c, if_pos c, if_pos c]; exact ⟨rfl, rfl⟩
 ·rw [if_neg c, if_neg c, if_neg c, if_neg c]
  exact h.reg j hj (live_behind hr hj hb fun _ e => c e.symm)
theorem RelM.on {i : Ins} {n : Int} {b : V6 Bool} {m m' : Mach} {o : Int} (hr : Right i n) (h : RelM (liveA i b) m m') (ho : 10 < i.op) : RelM b (m.on o) (m'.on o) :=
 ⟨by simp only [Mach.on]; rw [h.t], h.mem, h.fin, fun j hj hb => h.reg j hj (live_behind hr hj hb fun c => by omega)⟩
/- a step that is kept -/
/- a step that sets something and goes on -/
/- where a machine comes to, all is live behind that is live ahead there -/
theorem RelM.refl (A : V6 Bool) (m : Mach) : RelM A m m := ⟨rfl, rfl, rfl, fun _ _ _ => ⟨rfl, rfl⟩⟩
structure RelS (A : V6 Bool) (t t' : St) : Prop where
 live : t.live = t'.live
 reg : ∀ j, j < 6 → A.get j = true → t.s.get j = t'.s.get j ∧ t.r.get j = t'.r.get j
theorem RelS.refl (A : V6 Bool) (t : St) : RelS A t t := ⟨rfl, fun _ _ _ => ⟨rfl, rfl⟩⟩
theorem RelS.sub {A B : V6 Bool} {t t' : St} (h : RelS A t t') (hs : ∀ j, j < 6 → B.get j = true → A.get j = true) : RelS B t t' := ⟨h.live, fun j hj hb => h.reg j hj (hs j hj hb)⟩
theorem RelS.join {A : V6 Bool} {t t' u u' : St} (h : RelS A t t') (k : RelS A u u') : RelS A (t.join u) (t'.join u') := by
 by_cases h1 : t.live = true
 ·have h1' : t'.live = true := by rw [← h.live]; exact h1
  by_cases h2 : u.live = true
  ·have h2' : u'.live = true := by rw [← k.live]; exact h2
   obtain ⟨a1, a2⟩ := St.join_live h1 h2
   obtain ⟨b1, b2⟩ := St.join_live h1' h2'
   refine ⟨a1.trans b1.symm, fun j hj hA => ?_⟩
   obtain ⟨x1, x2⟩ := a2 j hj
   obtain ⟨y1, y2⟩ := b2 j hj
   rw [x1, x2, y1, y2, (h.reg j hj hA).1, (h.reg j hj hA).2, (k.reg j hj hA).1, (k.reg j hj hA).2]
   exact ⟨rfl, rfl⟩
  ·have h2' : ¬ u'.live = true := by rw [← k.live]; exact h2
   unfold St.join
   rw [if_pos h1, if_neg h2, if_pos h1', if_neg h2']; exact h
 ·have h1' : ¬ t'.live = true := by rw [← h.live]; exact h1
  unfold St.join
  rw [if_neg h1, if_neg h1']; exact k
theorem RelS.wth {i : Ins} {n : Int} {b : V6 Bool} {t t' : St} {a : V4} (hr : Right i n) (h : RelS (liveA i b) t t') : RelS b (t.wth i.d.toNat a) (t'.wth i.d.toNat a) := by
 have hd := reg_nat (right_regs hr).1
 refine ⟨h.live, fun j hj hb => ?_⟩
 rw [St.wth_s hd hj, St.wth_s hd hj, St.wth_r hd hj, St.wth_r hd hj]
 by_cases c : i.d.toNat = j
 ·rw [if_pos c, if_pos c, if_pos c, if_pos c]; exact ⟨rfl, rfl⟩
 ·rw [if_neg c, if_neg c, if_neg c, if_neg c]
  exact h.reg j hj (live_behind hr hj hb fun _ e => c e.symm)
def RelL (A : List (V6 Bool)) (S S' : List St) : Prop := S.length = S'.length ∧ ∀ j, RelS (lvAt A j) (stAt S j) (stAt S' j)
theorem RelL.add {A : List (V6 Bool)} {S S' : List St} {k : Nat} {t t' : St} (h : RelL A S S') (ht : RelS (lvAt A k) t t') : RelL A (addS S k t) (addS S' k t') := by
 refine ⟨by rw [addS_len, addS_len]; exact h.1, fun j => ?_⟩
 rw [stAt_addS, stAt_addS, ← ht.live, ← h.1]
 by_cases c : t.live = true ∧ k = j ∧ k < S.length
 ·rw [if_pos c, if_pos c]
  obtain ⟨_, rfl, _⟩ := c
  exact (h.2 k).join ht
 ·rw [if_neg c, if_neg c]; exact h.2 j
/- what a step that is kept adds -/
/- what runs come to -/
theorem runOut_fold {L : List Ins} (hP : RightP L) (h0 : (verifyS L).trap = 0) {s : ByteArray} (hs : s.size = 64) (x : BitVec 64) : runOut (foldL (verifyS L).sts L 0) s x = runOut L s x := by
 unfold runOut
 rw [(foldL_at (verifyS L).sts L 0).1, run_fold hP h0 _ _ _ (had_start hP hs)]
/- a program without traps, folded, rid, and both -/
structure Same (L M : List Ins) : Prop where
 right : RightP M
 trap : (verifyS M).trap = 0
 run : ∀ s x, s.size = 64 → runOut M s x = runOut L s x
theorem fold_same {L : List Ins} (hP : RightP L) (h0 : (verifyS L).trap = 0) : Same L (foldS L) := by
 unfold foldS
 rw [if_pos h0]
 exact ⟨foldL_right hP _, by rw [verify_fold hP h0]; exact h0, fun s x hs => runOut_fold hP h0 hs x⟩
end Go.Proofs.YtkigmocchaikgabGreat
/- fold's liveBehind, liveAhead, fromBehind; Fold's closure, change, Fold. -/
namespace Go.Proofs.YtkigmocchaikgabGreat
open Go.RowKit
theorem rcell_len (A : List (V6 Bool)) : (rcell A).length = A.length * 6 := flat_len (f := bcs) (fun _ => rfl) A
theorem rcell_ks (A : List (V6 Bool)) : (rcell A).flatMap AC.ks = [] := flat_ks (f := bcs) (fun _ => rfl) A
theorem rcell_at {A : List (V6 Bool)} {k : Nat} (h : k < A.length) : List.take 6 (List.drop (k * 6) (rcell A)) = bcs (lvAt A k) := flat_at (f := bcs) (fun _ => rfl) no6 h
theorem rcell_set {A : List (V6 Bool)} {k : Nat} (t : V6 Bool) (h : k < A.length) : splice (rcell A) (k * 6) (bcs t) = rcell (A.set k t) := flat_set (f := bcs) (fun _ => rfl) t h
theorem rcell_rows (n : Nat) : rows n (bcs no6) = rcell (List.replicate n no6) := flat_rows (f := bcs) no6 n
theorem begin_one {cs : List AC} {args : List AV} {b : Bool} {r : Nat} (ha : (keysOf args).all (fun k => Nat.blt k 1) = true) (hcs : cs.flatMap AC.ks = []) : Begin args [(0, ⟨b, cs, r⟩)] 1 := by
 refine ⟨fun v hv k hk => ?_, fun k e he => ?_⟩
 ·have h2 := List.all_eq_true.1 ha k (List.mem_flatMap.2 ⟨v, hv, hk⟩)
  simpa using h2
 ·obtain ⟨rfl, rfl⟩ := one_look he
  exact ⟨by decide, fun c hc j hj => (nk_of hcs hc hj).elim⟩
theorem goes_on {i : Ins} {n : Int} (hr : Right i n) (h : i.op = 12 ∨ i.op = 13 ∨ i.op = 14) : 0 ≤ i.of ∧ i.of < n := by
 rcases h with h | h
 ·exact ⟨(fits_jump hr h).1, (fits_jump hr h).2.1⟩
 ·exact (fits_branch hr h).2.2
theorem liveBehind_ok {i : Ins} {A : List (V6 Bool)} {x c : Nat} (hx : x < A.length) (hA : A.length ≤ 64) (hr : Right i ((A.length - 1 - x : Nat) : Int)) (hl : i.op = 15 ∨ x + 1 < A.length) :
  CallOK Tryz.prog ⟨95, [.ag i.cs, .c (.sl 0 (x * 6) (A.length - x) c)], [(0, ⟨false, rcell A, 0⟩)], ⟨.ag (bcs (liveK i A x)), [], none⟩⟩ := by
 refine read_of Tryz.func95 rfl rfl (begin_one rfl (rcell_ks A)) rfl (fun k en h => by obtain ⟨_, rfl⟩ := one_look h; rfl) fun w β => ?_
 have c0 := branches_ok i
 have n15 : (i.op == 15) = false → x + 1 < A.length := fun h => by
  rcases hl with h1 | h1
  ·rw [h1] at h; cases h
  ·exact h1
 have hbr : branchB i = true → i.op = 13 ∨ i.op = 14 := fun h => by unfold branchB at h; simpa using h
 have q1 : x + 1 < A.length → decide (1 < ((A.length - x : Nat) : Int)) = true ∧ Nat.ble (x * 6 + 6 + 6) (rcell A).length = true ∧ Eff.mk (AV.ag (List.take 6 (List.drop (x * 6 + 6) (rcell A)))) [] none = Eff.mk (AV.ag (bcs (lvAt A (x + 1)))) [] none := fun h => by
  refine ⟨decide_eq_true (by omega), ?_, ?_⟩
  ·rw [rcell_len, Nat.ble_eq]; omega
  ·rw [show x * 6 + 6 = (x + 1) * 6 by omega, rcell_at h]
 have q2 : (i.op = 12 ∨ i.op = 13 ∨ i.op = 14) → (decide (0 ≤ 1 + i.of) && decide (1 + i.of < ((A.length - x : Nat) : Int))) = true ∧ Nat.ble (x * 6 + Int.toNat (1 + i.of) * 6 + 6) (rcell A).length = true ∧ Eff.mk (AV.c (AC.i (IntKind.wrap IntKind.i64 (1 + i.of)))) [] none = Eff.mk (AV.c (AC.i (1 + i.of))) [] none ∧ Eff.mk (AV.ag (List.take 6 (List.drop (x * 6 + Int.toNat (1 + i.of) * 6) (rcell A)))) [] none = Eff.mk (AV.ag (bcs (lvAt A (x + 1 + i.of.toNat)))) [] none := fun h => by
  obtain ⟨h1, h2⟩ := goes_on hr h
  refine ⟨and_yes (decide_eq_true (by omega)) (decide_eq_true (by omega)), ?_, ?_, ?_⟩
  ·rw [rcell_len, Nat.ble_eq]; omega
  ·rw [wrapN (by omega) (by omega)]
  ·rw [show x * 6 + Int.toNat (1 + i.of) * 6 = (x + 1 + i.of.toNat) * 6 by omega, rcell_at (by omega)]
 refine flb_all (u := lvAt A (x + 1)) (v := lvAt A (x + 1 + i.of.toNat)) (fun a => ?_) (fun a b => ?_) (fun a b d => ?_) (fun a b d => ?_)
 ·have : i.op = 15 := by simpa using a
  unfold liveK; rw [if_pos this]; rfl
 ·have h1 : i.op = 12 := by simpa using b
  have h0 : ¬ i.op = 15 := by simpa using a
  obtain ⟨f1, f2, f3, f4⟩ := q2 (Or.inl h1)
  exact ⟨f1, f2, f3, f4, by unfold liveK; rw [if_neg h0, if_pos h1]⟩
 ·have h1 : ¬ i.op = 12 := by simpa using b
  have h0 : ¬ i.op = 15 := by simpa using a
  obtain ⟨f1, f2, f3, f4⟩ := q2 (Or.inr (hbr d))
  obtain ⟨g1, g2, g3⟩ := q1 (n15 a)
  exact ⟨g1, g2, f1, f2, c0, g3, f3, f4, either_ok _ _, by unfold liveK; rw [if_neg h0, if_neg h1, if_pos d]; rfl⟩
 ·have h1 : ¬ i.op = 12 := by simpa using b
  have h0 : ¬ i.op = 15 := by simpa using a
  obtain ⟨g1, g2, g3⟩ := q1 (n15 a)
  exact ⟨g1, g2, c0, g3, by unfold liveK; rw [if_neg h0, if_neg h1, if_neg (by rw [d]; decide)]⟩
theorem uses_in {i : Ins} {n : Int} (hr : Right i n) : i.op = 12 ∨ i.op = 15 ∨ (regB i.d = true ∧ srcB i.s = true) := by
 rcases ops_of hr with c | c | c | c | c | c | c | c
 ·have := fits_reach hr (Or.inl c); exact Or.inr (Or.inr ⟨this.1, srcB_iff.2 (Or.inr this.2.1)⟩)
 ·have := fits_reach hr (Or.inr c); exact Or.inr (Or.inr ⟨this.1, srcB_iff.2 (Or.inr this.2.1)⟩)
 ·exact Or.inl c
 ·have := fits_branch hr (Or.inl c); exact Or.inr (Or.inr ⟨this.1, this.2.1⟩)
 ·have := fits_branch hr (Or.inr c); exact Or.inr (Or.inr ⟨this.1, this.2.1⟩)
 ·exact Or.inr (Or.inl c)
 ·have := fits_two hr (by omega); exact Or.inr (Or.inr ⟨this.1, this.2.1⟩)
 ·have := fits_two hr (by omega); exact Or.inr (Or.inr ⟨this.1, this.2.1⟩)
theorem sets_reg {i : Ins} {n : Int} (hr : Right i n) (h : i.op ≤ 10) : regB i.d = true := by
 by_cases h1 : i.op ≤ 9
 ·exact (fits_two hr h1).1
 ·exact (fits_reach hr (Or.inl (by omega))).1
theorem liveAhead_ok {i : Ins} {n : Int} (hr : Right i n) (b : V6 Bool) : Ok 97 [.ag i.cs, .ag (bcs b)] (.ag (bcs (liveA i b))) := by
 have c1 := use_of_ok (uses_in hr)
 refine fla_all (fun a => ?_) (fun a => ?_)
 ·have h := of_decide_eq_true a
  have hB := sets_reg hr h
  exact ⟨hB, by rw [bw_ok b hB]; rfl, sets_ok i, by rw [bw_eff b false hB], c1, either_ok _ _, by unfold liveA; rw [if_pos h]; rfl⟩
 ·have h := of_decide_eq_false a
  exact ⟨sets_ok i, c1, either_ok _ _, by unfold liveA; rw [if_neg h]; rfl⟩
theorem fromBehind_ok (p : Int) : CallOK Tryz.prog ⟨94, [.c (.i p)], [], ⟨.c (.f 126 [0]), [], some (0, ⟨true, [.i p], 0⟩)⟩⟩ :=
 new_of Tryz.func94 rfl rfl rfl rfl rfl fun _ _ hk => ffb_w0 hk
/- a list that is made over from its head on -/
theorem mix_set {α : Type} {X L : List α} {j : Nat} (d : α) (hX : j < X.length) (hL : j < L.length) : (X.take j ++ L.drop j).set j (X.getD j d) = X.take (j + 1) ++ L.drop (j + 1) := by
 have h1 : (X.take j).length = j := by rw [List.length_take]; omega
 rw [List.set_append_right _ _ (by omega), h1, Nat.sub_self, List.drop_eq_getElem_cons hL, List.set_cons_zero, List.take_succ_eq_append_getElem hX, List.append_assoc, List.getD_eq_getElem?_getD, List.getElem?_eq_getElem hX]
 rfl
theorem mix_at {α : Type} {X L : List α} {j : Nat} (d : α) (hX : j ≤ X.length) : (X.take j ++ L.drop j).getD j d = L.getD j d := by
 have h1 : (X.take j).length = j := by rw [List.length_take]; omega
 rw [List.getD_eq_getElem?_getD, List.getD_eq_getElem?_getD, List.getElem?_append_right (by omega), h1, Nat.sub_self, List.getElem?_drop, Nat.add_zero]
theorem wr2_of {P : Program} {f : FuncId} {fn : Func} {args : List AV} {cs cs' ds : List AC} {v : AV} {r : Nat} (hf : P.funcs[f]? = some fn) (hb : fn.body.isSome = true) (hN : Nat.ble args.length fn.ntmps = true) (ha : (keysOf args).all (fun k => Nat.blt k 2) = true) (hcs : cs.flatMap AC.ks = []) (hds : ds.flatMap AC.ks = []) (hne : cs ≠ []) (hv : v.ks = []) (hc : cs'.flatMap AC.ks = [])
  (h : ∀ w β, EKeys 2 [0] none ⟨v, [(0, cs')], none⟩ → ART P f (cx w β 2 [0]) fn.ntmps [.code (bodyOf fn)] (Kn.start args [(0, ⟨true, cs, r⟩), (1, ⟨false, ds, 0⟩)] 2) (REff w β ⟨v, [(0, cs')], none⟩)) : CallOK P ⟨f, args, [(0, ⟨true, cs, r⟩), (1, ⟨false, ds, 0⟩)], ⟨v, [(0, cs')], none⟩⟩ := by
 have e : EKeys 2 [0] none ⟨v, [(0, cs')], none⟩ := by
  refine ⟨fun k hk => ?_, fun k cs hm => ?_, fun _ _ h' => (nomatch h'), fun k h => ?_, fun _ h => (nomatch h)⟩
  ·simp only at hk; rw [hv] at hk; cases hk
  ·have := List.mem_singleton.1 hm; injection this with _ h2; subst h2; exact hc
  ·rw [List.mem_singleton.1 h]; decide
 have two : ∀ {k : Nat} {en : Ent}, look [(0, ⟨true, cs, r⟩), (1, ⟨false, ds, 0⟩)] k = some en → (k = 0 ∧ en = ⟨true, cs, r⟩) ∨ (k = 1 ∧ en = ⟨false, ds, 0⟩) := fun {k en} he => by
  rw [look_cons] at he
  split at he
  ·rename_i hk; injection he with he; exact Or.inl ⟨hk, he.symm⟩
  ·exact Or.inr (one_look he)
 have hB : Begin args [(0, ⟨true, cs, r⟩), (1, ⟨false, ds, 0⟩)] 2 := by
  refine ⟨fun v hv k hk => ?_, fun k e he => ?_⟩
  ·have h2 := List.all_eq_true.1 ha k (List.mem_flatMap.2 ⟨v, hv, hk⟩)
   simpa using h2
  ·rcases two he with ⟨rfl, rfl⟩ | ⟨rfl, rfl⟩
   ·exact ⟨by decide, fun c hc j hj => (nk_of hcs hc hj).elim⟩
   ·exact ⟨by decide, fun c hc j hj => (nk_of hds hc hj).elim⟩
 refine eff_of [0] none hf hb hN hB (fun k hk => ?_) (fun _ _ h' => (nomatch h')) (fun _ h => (nomatch h)) e (fun k cs' hm => ?_) (fun k en h1 h2 => ?_) fun w β _ => h w β e
 ·simp only at hk; rw [hv] at hk; cases hk
 ·have := List.mem_singleton.1 hm; injection this with h1 h2; subst h1
  exact ⟨⟨true, cs, r⟩, rfl, rfl, hne⟩
 ·rcases two h1 with ⟨rfl, _⟩ | ⟨rfl, rfl⟩
  ·exact List.mem_singleton.2 rfl
  ·cases h2
theorem pcell_ne {L : List Ins} (h : 0 < L.length) : pcell L ≠ [] := fun e => by
 have := congrArg List.length e
 rw [pcell_length] at this
 simp at this; omega
abbrev f1Kn (L : List Ins) (S : List St) (p r j : Nat) : Kn := ⟨[(0, .c (.sx 0 p)), (1, .c (.sl 1 0 p p)), (7, .c (.i ((p : Int) - 1))), (8, .c (.i (j : Int)))], [(0, ⟨true, pcell L, r⟩), (1, ⟨false, scell S, 0⟩)], 2⟩
theorem f1_low (L : List Ins) (S : List St) (p r j : Nat) : Kn.Low (f1Kn L S p r j) := low_n rfl rfl ⟨pcell_ks L, scell_ks S, trivial⟩
theorem f1Loop {L : List Ins} {S : List St} (hP : RightP L) (hS : S.length = L.length) (hok : ∀ j, (stAt S j).Ok) {w : World} {β : Bs} (hk : EKeys 2 [0] none ⟨.tu [], [(0, pcell (foldL S L 0))], none⟩) : ∀ (m j r : Nat), j + m + 1 = L.length →
  ART Tryz.prog 53 (cx w β 2 [0]) Tryz.f53.ntmps (cutAt Tryz.f53 0) (f1Kn ((foldL S L 0).take j ++ L.drop j) S L.length r j) (REff w β ⟨.tu [], [(0, pcell (foldL S L 0))], none⟩)
 | 0, j, r, hj => by
  obtain ⟨hl, hat⟩ := foldL_at S L 0
  have e : (foldL S L 0).take j ++ L.drop j = foldL S L 0 := by
   have hj' : j < L.length := by omega
   have h1 := hat j
   rw [if_neg (by omega)] at h1
   conv => rhs; rw [← List.take_append_drop j (foldL S L 0)]
   congr 1
   rw [List.drop_eq_getElem_cons hj', List.drop_eq_getElem_cons (by omega : j < (foldL S L 0).length), List.drop_of_length_le (by omega), List.drop_of_length_le (by omega)]
   unfold elt at h1
   rw [List.getD_eq_getElem?_getD, List.getD_eq_getElem?_getD, List.getElem?_eq_getElem hj', List.getElem?_eq_getElem (by omega : j < (foldL S L 0).length)] at h1
   simp only [Option.getD_some] at h1
   rw [h1]
  rw [e]
  exact f1End_w0 (and_yes (by rw [decide_eq_false (by omega)]; rfl) rfl) hk
 | m + 1, j, r, hj => by
  obtain ⟨hl, hat⟩ := foldL_at S L 0
  have hle := hP.le
  have hjL : j < L.length := by omega
  have h1 := hat j
  rw [if_pos (by omega), Nat.zero_add] at h1
  have hlen : ((foldL S L 0).take j ++ L.drop j).length = L.length := by rw [List.length_append, List.length_take, List.length_drop]; omega
  have ea : elt ((foldL S L 0).take j ++ L.drop j) j = elt L j := mix_at _ (by omega)
  have es : ((foldL S L 0).take j ++ L.drop j).set j (foldI (elt L j) (stAt S j)) = (foldL S L 0).take (j + 1) ++ L.drop (j + 1) := by
   rw [← h1]; exact mix_set _ (by omega) hjL
  have d1 : decide ((j : Int) < (L.length : Int)) = true := jl hjL
  have d2 : Nat.ble (Int.toNat (j : Int) * 5 + 5) (pcell ((foldL S L 0).take j ++ L.drop j)).length = true := by rw [pcell_length, hlen, Nat.ble_eq]; omega
  have d3 : Nat.ble (0 + Int.toNat (j : Int) * 31 + 31) (scell S).length = true := by rw [scell_len, Nat.ble_eq]; omega
  refine f1Round_w0 (f := foldI (elt L j) (stAt S j)) (and_yes (decide_eq_true (by omega)) (and_yes d1 (and_yes d2 (and_yes d1 (and_yes d3 (and_yes d1 (by rw [show List.length (Ins.cs (foldI (elt L j) (stAt S j))) = 5 from rfl, d2]; rfl))))))) ?_ ?_ ?_ ?_ (by rw [wrapS (by omega)]) (low_n rfl rfl ⟨pcell_ks _, scell_ks S, trivial⟩) (fun k hk => hk) ?_
  ·rw [Int.toNat_natCast, pcell_elt (by omega), ea]
  ·rw [Int.toNat_natCast]; exact sat_eff (by omega)
  ·rw [ea]; exact folded_ok hP hjL (hok j)
  ·rw [Int.toNat_natCast, pcell_set _ (by omega)]
  ·rw [es]
   exact f1Loop hP hS hok hk m (j + 1) 0 (by omega)
theorem fold1_ok {L : List Ins} {S : List St} (hP : RightP L) (hS : S.length = L.length) (hok : ∀ j, (stAt S j).Ok) : CallOK Tryz.prog ⟨53, [.c (.sx 0 L.length), .c (.sl 1 0 L.length L.length)], [(0, ⟨true, pcell L, 5⟩), (1, ⟨false, scell S, 0⟩)], ⟨.tu [], [(0, pcell (foldL S L 0))], none⟩⟩ := by
 have hpos := hP.pos
 have hle := hP.le
 refine wr2_of Tryz.func53 rfl rfl rfl (pcell_ks L) (scell_ks S) (pcell_ne hpos) rfl (pcell_ks _) fun w β hk => f1Top_w0 (by rw [wrapN (by omega) (by omega)]) (f1_low _ _ _ _ 0) (fun k hk => hk) (f1Loop hP hS hok hk (L.length - 1) 0 5 (by omega))
end Go.Proofs.YtkigmocchaikgabGreat
