import Derived.Test.YtkigmocchaikgaaGreatDoorCs4
import Derived.Test.YtkigmocchaikgaaGreatDoorCs2
import Derived.Test.YtkigmocchaikgaaGreatDoorProg
/- A step as a text, a program as a text: the reference's. -/
namespace Go.Proofs.YtkigmocchaikgaaGreatDoor
open Go.RowKit Go.Lib
def nmC : List AC := wcell ([] :: oNames)
theorem nmC_ks : nmC.flatMap AC.ks = [] := wcell_ks _
set_option maxRecDepth 100000 in
theorem names_ok : CallOK Tryz.prog ⟨36, [], [], ⟨.c (.sl 1 0 16 16), [], some (1, ⟨true, nmC, 0⟩)⟩⟩ :=
 new_of Tryz.func36 rfl rfl rfl rfl nmC_ks fun _ _ hk => run_eff2 [] (some 1) [] [] [] Tryz.func36 hk (by kernel_rfl) rfl cr_nil
theorem names_at (K : Nat) : CallOK Tryz.prog ⟨36, [], [], ⟨.c (.sl K 0 16 16), [], some (K, ⟨true, nmC, 0⟩)⟩⟩ := by
 refine (names_ok.ren (swp 1 K) (swp_inj 1 K)).congr ?_
 unfold CallRec.ren Eff.ren renH
 simp only [List.map_nil, Option.map_some, Ent.ren, ren_nk _ nmC_ks, AV.ren, AC.ren, swp_fst]
theorem nmC_len : nmC.length = 16 := rfl
theorem nmC_at {k : Nat} (h : k < 15) : nmC[k + 1]? = some (.s (bs (nmL k))) := by
 have e : oNames[k]? = some (nmL k) := by
  rw [nmL, List.getD_eq_getElem?_getD, List.getElem?_eq_getElem (show k < oNames.length from h)]; rfl
 show (wcell oNames)[k]? = _
 unfold wcell
 rw [List.getElem?_map, e]; rfl
/- registers that there are -/
structure Rg (i : Ins) : Prop where
 d : 0 ≤ i.d
 s : i.s = -1 ∨ 0 ≤ i.s
 m : i.op = 10 ∨ i.op = 11 → 0 ≤ i.s
theorem rg_of1 {i : Ins} {n : Int} (hi : inB i n = true) (hb : bareB i = true) : Rg i := by
 obtain ⟨op, d, s, im, f⟩ := i
 simp only [inB, regB, srcB, goesB] at hi
 simp only [bareB] at hb
 refine ⟨?_, ?_, ?_⟩ <;> simp only
 all_goals
  repeat' split at hi
  all_goals
   repeat' split at hb
   all_goals
    simp only [Bool.and_eq_true, Bool.or_eq_true, decide_eq_true_eq] at hi hb
    omega
theorem rg_of {L : List Ins} (h : codeErr L = 0) : ∀ i ∈ L, Rg i := by
 have hB := bare_of h
 unfold codeErr at h
 split at h
 ·omega
 split at h
 ·omega
 split at h
 ·omega
 rename_i h3
 have h3' : inAll L = true := by simpa using h3
 intro i hi
 obtain ⟨n, _, h5⟩ := inAll_mem h3' hi
 exact rg_of1 h5 (hB i hi)
theorem le_max {a : Nat} (h : a ≤ 1000) : decide (a ≤ 9223372036854775807) = true := decide_eq_true (by omega)
theorem sz1 (c : UInt8) : ByteArray.size (ByteArray.mk #[c]) = 1 := rfl
set_option maxRecDepth 100000 in
theorem instrText_ok {i : Ins} (h : Fld i) (hr : Rg i) : Ok 21 [.ag i.cs] (.c (.s (bs (lineOf i)))) := by
 have h1 := h.o1
 have h2 := h.o2
 obtain ⟨k, hk⟩ : ∃ k : Nat, i.op = (k : Int) + 1 := ⟨(i.op - 1).toNat, by omega⟩
 have hk15 : k < 15 := by omega
 have ho : 0 + (i.op).toNat * 1 = k + 1 := by omega
 have hnm := nmC_at hk15
 have g0 : (decide (0 ≤ i.op) && decide (i.op < 16)) = true := and_yes (decide_eq_true (by omega)) (decide_eq_true (by omega))
 have g1 : (AC.isS (nmC[0 + (i.op).toNat * 1]?.getD (.b false)) && Nat.blt (0 + (i.op).toNat * 1) nmC.length) = true := by
  rw [ho, hnm, nmC_len]
  refine and_yes rfl ?_
  simp; omega
 have g2 : pe (.c (.s (AC.asS (nmC[0 + (i.op).toNat * 1]?.getD (.b false))))) = pe (.c (.s (bs (nmL k)))) := by rw [ho, hnm]; rfl
 have hln := nm_len k
 have hw := word_len h
 have sW : ∀ p, (bs (wordW i p)).size ≤ 22 := fun p => by rw [bs_size]; exact hw p
 have sN : (bs (nmL k)).size ≤ 5 := by rw [bs_size]; exact hln
 have w0 : Ok 37 [.c (.i i.d)] (.c (.s (bs (wordW i 0)))) := reg_ok _ hr.d h.d.2
 have w2 : Ok 38 [.ag i.cs] (.c (.s (bs (wordW i 2)))) := srcT_ok (hr.s.imp id fun x => ⟨x, h.s.2⟩)
 have w3 : Ok 39 [.c (.u i.im)] (.c (.s (bs (wordW i 3)))) := digits_x _
 have w4 : Ok 40 [.c (.i i.of)] (.c (.s (bs (wordW i 4)))) := signed_ok _ h.f.1 h.f.2
 have hl : lineOf i = nmL k ++ lineW i (plcs i.op) ++ [10] := by unfold lineOf; rw [show (i.op - 1).toNat = k by omega]
 have cR := refReckons_ok i.op
 have cB := refBranches_ok i.op
 rw [hl]
 by_cases h9 : i.op ≤ 9
 ·rw [decide_eq_true h1, decide_eq_true h9] at cR
  have e : plcs i.op = [0, 2] := by unfold plcs; rw [if_neg (by omega), if_neg (by omega), if_neg (by omega), if_neg (by omega), if_neg (by omega)]
  refine ok_eq (itA_w0 (u1 := bs (wordW i 0)) (u2 := bs (wordW i 2)) ?_ (names_at 2) g2 cR w0 w2) ?_
  ·have a := sW 0; have b := sW 2
   refine and_yes g0 (and_yes g1 ?_)
   repeat' apply and_yes
   all_goals first | rfl | (refine le_max ?_; (try simp only [ByteArray.size_append, sz1]); omega)
  ·show AV.c (.s (bs (nmL k) ++ bs [32] ++ bs (wordW i 0) ++ bs [32] ++ bs (wordW i 2) ++ bs [10])) = _
   simp only [bs_app, e]
   simp [lineW]
 ·rw [decide_eq_false h9, Bool.and_false] at cR
  by_cases h10 : i.op = 10
  ·have w1 : Ok 37 [.c (.i i.s)] (.c (.s (bs (wordW i 1)))) := reg_ok _ (hr.m (Or.inl h10)) h.s.2
   have e : plcs i.op = [3, 0, 1, 4] := by simp [plcs, h10]
   refine ok_eq (itL_w0 (u1 := bs (wordW i 3)) (u2 := bs (wordW i 0)) (u3 := bs (wordW i 1)) (u4 := bs (wordW i 4)) ?_ (names_at 2) g2 cR w3 w0 w1 w4) ?_
   ·have a := sW 0; have b := sW 1; have c := sW 3; have d := sW 4
    refine and_yes g0 (and_yes g1 (and_yes (by simp [h10]) ?_))
    repeat' apply and_yes
    all_goals first | rfl | (refine le_max ?_; (try simp only [ByteArray.size_append, sz1]); omega)
   ·show AV.c (.s (bs (nmL k) ++ bs [32] ++ bs (wordW i 3) ++ bs [32] ++ bs (wordW i 0) ++ bs [32] ++ bs (wordW i 1) ++ bs [32] ++ bs (wordW i 4) ++ bs [10])) = _
    simp only [bs_app, e]
    simp [lineW]
  ·have f10 : (!(i.op == 10)) = true := by simp [h10]
   by_cases h11 : i.op = 11
   ·have w1 : Ok 37 [.c (.i i.s)] (.c (.s (bs (wordW i 1)))) := reg_ok _ (hr.m (Or.inr h11)) h.s.2
    have e : plcs i.op = [3, 0, 4, 1] := by simp [plcs, h11]
    refine ok_eq (itS_w0 (u1 := bs (wordW i 3)) (u2 := bs (wordW i 0)) (u3 := bs (wordW i 4)) (u4 := bs (wordW i 1)) ?_ (names_at 2) g2 cR w3 w0 w4 w1) ?_
    ·have a := sW 0; have b := sW 1; have c := sW 3; have d := sW 4
     refine and_yes g0 (and_yes g1 (and_yes f10 (and_yes (by simp [h11]) ?_)))
     repeat' apply and_yes
     all_goals first | rfl | (refine le_max ?_; (try simp only [ByteArray.size_append, sz1]); omega)
    ·show AV.c (.s (bs (nmL k) ++ bs [32] ++ bs (wordW i 3) ++ bs [32] ++ bs (wordW i 0) ++ bs [32] ++ bs (wordW i 4) ++ bs [32] ++ bs (wordW i 1) ++ bs [10])) = _
     simp only [bs_app, e]
     simp [lineW]
   ·have f11 : (!(i.op == 11)) = true := by simp [h11]
    by_cases h13 : i.op = 13 ∨ i.op = 14
    ·have cB2 : Ok 35 [.c (.i i.op)] (.c (.b true)) := ok_eq cB (by rcases h13 with e | e <;> rw [e] <;> rfl)
     have e : plcs i.op = [0, 2, 4] := by unfold plcs; rw [if_neg h10, if_neg h11, if_neg (by omega), if_pos h13]
     refine ok_eq (itB_w0 (u1 := bs (wordW i 0)) (u2 := bs (wordW i 2)) (u3 := bs (wordW i 4)) ?_ (names_at 2) g2 cR cB2 w0 w2 w4) ?_
     ·have a := sW 0; have b := sW 2; have c := sW 4
      refine and_yes g0 (and_yes g1 (and_yes f10 (and_yes f11 ?_)))
      repeat' apply and_yes
      all_goals first | rfl | (refine le_max ?_; (try simp only [ByteArray.size_append, sz1]); omega)
     ·show AV.c (.s (bs (nmL k) ++ bs [32] ++ bs (wordW i 0) ++ bs [32] ++ bs (wordW i 2) ++ bs [32] ++ bs (wordW i 4) ++ bs [10])) = _
      simp only [bs_app, e]
      simp [lineW]
    ·have cB2 : Ok 35 [.c (.i i.op)] (.c (.b false)) := ok_eq cB (by
      have e13 : (i.op == 13) = false := beq_eq_false_iff_ne.2 fun e => h13 (Or.inl e)
      have e14 : (i.op == 14) = false := beq_eq_false_iff_ne.2 fun e => h13 (Or.inr e)
      rw [e13, e14]; rfl)
     by_cases h12 : i.op = 12
     ·have e : plcs i.op = [4] := by simp [plcs, h12]
      refine ok_eq (itJ_w0 (u1 := bs (wordW i 4)) ?_ (names_at 2) g2 cR cB2 w4) ?_
      ·have a := sW 4
       refine and_yes g0 (and_yes g1 (and_yes f10 (and_yes f11 (and_yes (by simp [h12]) ?_))))
       repeat' apply and_yes
       all_goals first | rfl | (refine le_max ?_; (try simp only [ByteArray.size_append, sz1]); omega)
      ·show AV.c (.s (bs (nmL k) ++ bs [32] ++ bs (wordW i 4) ++ bs [10])) = _
       simp only [bs_app, e]
       simp [lineW]
     ·have e : plcs i.op = [] := by unfold plcs; rw [if_neg h10, if_neg h11, if_neg h12, if_neg h13, if_pos (by omega)]
      refine ok_eq (itE_w0 ?_ (names_at 2) g2 cR cB2) ?_
      ·refine and_yes g0 (and_yes g1 (and_yes f10 (and_yes f11 (and_yes (by simp [h12]) ?_))))
       repeat' apply and_yes
       all_goals first | rfl | (refine le_max ?_; omega)
      ·show AV.c (.s (bs (nmL k) ++ bs [10])) = _
       simp only [bs_app, e]
       simp [lineW]
/- a program -/
theorem ct_low (L : List Ins) (c j : Nat) (t : ByteArray) : Kn.Low (ctRK L c j t) := low_n rfl rfl ⟨pcell_ks L, trivial⟩
theorem shown_take {L : List Ins} {j : Nat} (h : j < L.length) : shown (L.take (j + 1)) = shown (L.take j) ++ lineOf (elt L j) := by
 have e : L[j]? = some (elt L j) := by unfold elt; rw [List.getD_eq_getElem?_getD, List.getElem?_eq_getElem h]; rfl
 rw [take_more e]
 simp [shown]
theorem elt_mem {L : List Ins} {j : Nat} (h : j < L.length) : elt L j ∈ L := by
 unfold elt; rw [List.getD_eq_getElem?_getD, List.getElem?_eq_getElem h]
 exact List.getElem_mem _
theorem ctLoop {L : List Ins} {c : Nat} (he : codeErr L = 0) {w : World} {β : Bs} : ∀ n j, j + n = L.length →
  AR 6 Tryz.f6 (cx w β 1 []) 0 (ctRK L c j (bs (shown (L.take j)))) (REff w β ⟨.c (.s (bs (shown L))), [], none⟩)
 | 0, j, hj => by
  rw [List.take_of_length_le (by omega)]
  exact ctE_w0 (and_yes (not_yes (decide_eq_false (by omega))) rfl)
 | n + 1, j, hj => by
  obtain ⟨h64, hF⟩ := flds_of he
  have hm := elt_mem (L := L) (j := j) (by omega)
  have d0 : decide ((j : Int) < (L.length : Int)) = true := decide_eq_true (by omega)
  have hl := lineOf_len (hF _ hm)
  have hs := shown_len (L := L.take j) fun x hx => hF x (List.mem_of_mem_take hx)
  rw [List.length_take] at hs
  refine ctR_w0 (i := elt L j) (u1 := bs (lineOf (elt L j))) (m := bs (shown (L.take (j + 1)))) (and_yes d0 (and_yes d0 (and_yes (pble (by omega)) (and_yes ?_ rfl)))) (elt_eff (by omega)) (instrText_ok (hF _ hm) (rg_of he _ hm)) ?_ (wrap1 (by omega)) (ct_low _ _ _ _) (fun _ h => h) (ctLoop he n (j + 1) (by omega))
  ·rw [bs_size, bs_size]; exact decide_eq_true (by omega)
  ·rw [bs_app, shown_take (by omega)]
theorem codeText_ok {L : List Ins} (c : Nat) (he : codeErr L = 0) : CallOK Tryz.prog ⟨6, [.c (.sl 0 0 L.length c)], pH L, ⟨.c (.s (bs (shown L))), [], none⟩⟩ :=
 read_of Tryz.func6 rfl rfl (begin_p rfl) rfl ro_p fun _ _ => ctTop_w0 (ct_low _ _ 0 _) (fun _ h => h) (ctLoop he _ 0 (Nat.zero_add _))
end Go.Proofs.YtkigmocchaikgaaGreatDoor
/- The reference's names, and empty words, as cells. -/
namespace Go.Proofs.YtkigmocchaikgaaGreatDoor
abbrev E5 : List AC := [.s ⟨#[]⟩, .s ⟨#[]⟩, .s ⟨#[]⟩, .s ⟨#[]⟩, .s ⟨#[]⟩]
end Go.Proofs.YtkigmocchaikgaaGreatDoor
/- Ways of bodies, written by a program (ways.py): what each asks for, and hands back. -/
namespace Go.Proofs.YtkigmocchaikgaaGreatDoor
open Go.RowKit
section
abbrev guYK (r j : Nat) (o : Int) (D : List AC) : Kn := ⟨[(2, .c (.w 0)), (3, .c (.sx 4 (r + 5))), (4, .c (.w 6)), (5, .c (.i (j : Int)))], [(0, Ent.mk true i0.cs 0), (4, Ent.mk true D 1), (6, Ent.mk true [.i o, .i 0, .i 0, .u 0#64, .i 0] 0)], 8⟩
variable {t m u w1 w2 w3 w4 : ByteArray} {r j n : Nat} {D A : List AC} {C : Cx} {R : Ending → World → Prop} {o d s2 f : Int} {i : Ins} {w : World} {β : Bs} {x : BitVec 64}
theorem guTop_w0 (h : (Nat.beq (r * 1) D.length && decide (r + 5 ≤ 137438953472) && Nat.blt 0 r && true) = true) (c0 : CO 23 [.c (.s t), .c (.y 32#8), .c (.i 6)] [] (Eff.mk (.c (.sx 2 r)) [] (some (2, Ent.mk true D 1)))) (c1 : Eff.mk (.c (.sx 4 (r + 5))) [(2, [])] (some (0 + 1 + 3, Ent.mk true (D ++ ((splice (splice (splice (splice (splice (rows 5 [.s (ByteArray.mk #[])]) 0 [.s (ByteArray.mk #[])]) 1 [.s (ByteArray.mk #[])]) 2 [.s (ByteArray.mk #[])]) 3 [.s (ByteArray.mk #[])]) 4 [.s (ByteArray.mk #[])]).drop 0).take 5) 1)) = Eff.mk (.c (.sx 4 (r + 5))) [(2, [])] (some (4, Ent.mk true (D ++ E5) 1))) (lo : Kn.Low ⟨[(2, .c (.w 0)), (3, .c (.sx 4 (r + 5))), (4, .c (.w 6)), (5, .c (.i 1))], [(0, Ent.mk true [.i 0, .i 0, .i 0, .u 0#64, .i 0] 0), (4, Ent.mk true (D ++ E5) 1), (6, Ent.mk true [.i 0, .i 0, .i 0, .u 0#64, .i 0] 0)], 8⟩) (hF : ∀ k, C.F k → k < 8) (z : AR 24 Tryz.f24 C 0 ⟨[(2, .c (.w 0)), (3, .c (.sx 4 (r + 5))), (4, .c (.w 6)), (5, .c (.i 1))], [(0, Ent.mk true [.i 0, .i 0, .i 0, .u 0#64, .i 0] 0), (4, Ent.mk true (D ++ E5) 1), (6, Ent.mk true [.i 0, .i 0, .i 0, .u 0#64, .i 0] 0)], 8⟩ R) :
  BO 24 Tryz.f24 C [.c (.s t)] [] 0 R :=
 run_cut2 [] ([true]) [(1, 3)] Tryz.func24 (by kernel_rfl) h (cr_cons c0 (cr_same c1 cr_nil)) lo hF z
theorem guY_w0 (h : (decide ((j : Int) < 16) && (decide ((j : Int) < 16) && (AC.isS (A[0 + (j : Int).toNat * 1]?.getD (.b false)) && Nat.blt (0 + (j : Int).toNat * 1) A.length && (decide (0 < (↑(r + 5) : Int)) && (AC.isS (D[0]?.getD (.b false)) && Nat.blt 0 D.length && (ByteArray.toList m == ByteArray.toList u && true)))))) = true) (c0 : CO 36 [] [] (Eff.mk (.c (.sl 9 0 16 16)) [] (some (9, Ent.mk true A 0)))) (c1 : CO 36 [] [] (Eff.mk (.c (.sl 12 0 16 16)) [] (some (12, Ent.mk true A 0)))) (c2 : pe (.c (.s (AC.asS (A[0 + (j : Int).toNat * 1]?.getD (.b false))))) = pe (.c (.s m))) (c3 : pe (.c (.s (AC.asS (D[0]?.getD (.b false))))) = pe (.c (.s u))) (c4 : pe (.c (.i (IntKind.i64.wrap ((j : Int) + 1)))) = pe (.c (.i (↑(j + 1) : Int)))) (lo : Kn.Low (guYK r (j + 1) (j : Int) D)) (hF : ∀ k, C.F k → k < 8) (z : AR 24 Tryz.f24 C 0 (guYK r (j + 1) (j : Int) D) R) :
  AR 24 Tryz.f24 C 0 (guYK r j o D) R :=
 run_cut2 [true, true] ([true]) [(6, 3), (6, 6), (5, 1)] Tryz.func24 (by kernel_rfl) h (cr_cons c0 (cr_cons c1 (cr_same c2 (cr_same c3 (cr_same c4 cr_nil))))) lo hF z
theorem guN_w0 (h : (decide ((j : Int) < 16) && (decide ((j : Int) < 16) && (AC.isS (A[0 + (j : Int).toNat * 1]?.getD (.b false)) && Nat.blt (0 + (j : Int).toNat * 1) A.length && (decide (0 < (↑(r + 5) : Int)) && (AC.isS (D[0]?.getD (.b false)) && Nat.blt 0 D.length && (!ByteArray.toList m == ByteArray.toList u && true)))))) = true) (c0 : CO 36 [] [] (Eff.mk (.c (.sl 9 0 16 16)) [] (some (9, Ent.mk true A 0)))) (c1 : CO 36 [] [] (Eff.mk (.c (.sl 12 0 16 16)) [] (some (12, Ent.mk true A 0)))) (c2 : pe (.c (.s (AC.asS (A[0 + (j : Int).toNat * 1]?.getD (.b false))))) = pe (.c (.s m))) (c3 : pe (.c (.s (AC.asS (D[0]?.getD (.b false))))) = pe (.c (.s u))) (c4 : pe (.c (.i (IntKind.i64.wrap ((j : Int) + 1)))) = pe (.c (.i (↑(j + 1) : Int)))) (lo : Kn.Low (guYK r (j + 1) o D)) (hF : ∀ k, C.F k → k < 8) (z : AR 24 Tryz.f24 C 0 (guYK r (j + 1) o D) R) :
  AR 24 Tryz.f24 C 0 (guYK r j o D) R :=
 run_cut2 [true, false] ([true]) [(6, 3), (6, 6), (5, 1)] Tryz.func24 (by kernel_rfl) h (cr_cons c0 (cr_cons c1 (cr_same c2 (cr_same c3 (cr_same c4 cr_nil))))) lo hF z
theorem geA_w0 (h : (!decide ((j : Int) < 16) && (decide (1 < (↑(r + 5) : Int)) && (AC.isS (D[1]?.getD (.b false)) && Nat.blt 1 D.length && (decide (2 < (↑(r + 5) : Int)) && (AC.isS (D[2]?.getD (.b false)) && Nat.blt 2 D.length && true))))) = true) (c0 : CO 36 [] [] (Eff.mk (.c (.sl 9 0 16 16)) [] (some (9, Ent.mk true A 0)))) (c1 : Ok 33 [.c (.i o)] (.c (.b true))) (c2 : pe (.c (.s (AC.asS (D[1]?.getD (.b false))))) = pe (.c (.s w1))) (c3 : Ok 46 [.c (.s w1)] (.c (.i d))) (c4 : pe (.c (.s (AC.asS (D[2]?.getD (.b false))))) = pe (.c (.s w2))) (c5 : CO 45 [.c (.s w2), .c (.w 6)] [(6, Ent.mk true [.i o, .i d, .i 0, .u 0#64, .i 0] 0)] (Eff.mk (.tu []) [(6, i.cs)] none)) :
  AR 24 Tryz.f24 (cx w β n []) 0 (guYK r j o D) (REff w β ⟨.ag i.cs, [], none⟩) :=
 run_eff2 [] none [false, true] ([true]) [(10, 2), (11, 3)] Tryz.func24 (ekeys0 rfl n) (by kernel_rfl) h (cr_cons c0 (cr_cons c1 (cr_same c2 (cr_cons c3 (cr_same c4 (cr_cons c5 cr_nil))))))
theorem geL_w0 (h : (!decide ((j : Int) < 16) && (o == 10 && (decide (1 < (↑(r + 5) : Int)) && (AC.isS (D[1]?.getD (.b false)) && Nat.blt 1 D.length && (decide (2 < (↑(r + 5) : Int)) && (AC.isS (D[2]?.getD (.b false)) && Nat.blt 2 D.length && (decide (3 < (↑(r + 5) : Int)) && (AC.isS (D[3]?.getD (.b false)) && Nat.blt 3 D.length && (decide (4 < (↑(r + 5) : Int)) && (AC.isS (D[4]?.getD (.b false)) && Nat.blt 4 D.length && true)))))))))) = true) (c0 : CO 36 [] [] (Eff.mk (.c (.sl 9 0 16 16)) [] (some (9, Ent.mk true A 0)))) (c1 : Ok 33 [.c (.i o)] (.c (.b false))) (c2 : pe (.c (.s (AC.asS (D[1]?.getD (.b false))))) = pe (.c (.s w1))) (c3 : Ok 47 [.c (.s w1)] (.c (.u x))) (c4 : pe (.c (.s (AC.asS (D[2]?.getD (.b false))))) = pe (.c (.s w2))) (c5 : Ok 46 [.c (.s w2)] (.c (.i d))) (c6 : pe (.c (.s (AC.asS (D[3]?.getD (.b false))))) = pe (.c (.s w3))) (c7 : Ok 46 [.c (.s w3)] (.c (.i s2))) (c8 : pe (.c (.s (AC.asS (D[4]?.getD (.b false))))) = pe (.c (.s w4))) (c9 : Ok 48 [.c (.s w4)] (.c (.i f))) :
  AR 24 Tryz.f24 (cx w β n []) 0 (guYK r j o D) (REff w β ⟨.ag [.i o, .i d, .i s2, .u x, .i f], [], none⟩) :=
 run_eff2 [] none [false, false, true] ([true]) [(13, 2), (13, 6), (13, 10), (13, 14)] Tryz.func24 (ekeys0 rfl n) (by kernel_rfl) h (cr_cons c0 (cr_cons c1 (cr_same c2 (cr_cons c3 (cr_same c4 (cr_cons c5 (cr_same c6 (cr_cons c7 (cr_same c8 (cr_cons c9 cr_nil))))))))))
theorem geS_w0 (h : (!decide ((j : Int) < 16) && (!o == 10 && (o == 11 && (decide (1 < (↑(r + 5) : Int)) && (AC.isS (D[1]?.getD (.b false)) && Nat.blt 1 D.length && (decide (2 < (↑(r + 5) : Int)) && (AC.isS (D[2]?.getD (.b false)) && Nat.blt 2 D.length && (decide (3 < (↑(r + 5) : Int)) && (AC.isS (D[3]?.getD (.b false)) && Nat.blt 3 D.length && (decide (4 < (↑(r + 5) : Int)) && (AC.isS (D[4]?.getD (.b false)) && Nat.blt 4 D.length && true))))))))))) = true) (c0 : CO 36 [] [] (Eff.mk (.c (.sl 9 0 16 16)) [] (some (9, Ent.mk true A 0)))) (c1 : Ok 33 [.c (.i o)] (.c (.b false))) (c2 : pe (.c (.s (AC.asS (D[1]?.getD (.b false))))) = pe (.c (.s w1))) (c3 : Ok 47 [.c (.s w1)] (.c (.u x))) (c4 : pe (.c (.s (AC.asS (D[2]?.getD (.b false))))) = pe (.c (.s w2))) (c5 : Ok 46 [.c (.s w2)] (.c (.i d))) (c6 : pe (.c (.s (AC.asS (D[3]?.getD (.b false))))) = pe (.c (.s w3))) (c7 : Ok 48 [.c (.s w3)] (.c (.i f))) (c8 : pe (.c (.s (AC.asS (D[4]?.getD (.b false))))) = pe (.c (.s w4))) (c9 : Ok 46 [.c (.s w4)] (.c (.i s2))) :
  AR 24 Tryz.f24 (cx w β n []) 0 (guYK r j o D) (REff w β ⟨.ag [.i o, .i d, .i s2, .u x, .i f], [], none⟩) :=
 run_eff2 [] none [false, false, false, true] ([true]) [(15, 2), (15, 6), (15, 10), (15, 14)] Tryz.func24 (ekeys0 rfl n) (by kernel_rfl) h (cr_cons c0 (cr_cons c1 (cr_same c2 (cr_cons c3 (cr_same c4 (cr_cons c5 (cr_same c6 (cr_cons c7 (cr_same c8 (cr_cons c9 cr_nil))))))))))
theorem geB_w0 (h : (!decide ((j : Int) < 16) && (!o == 10 && (!o == 11 && (decide (1 < (↑(r + 5) : Int)) && (AC.isS (D[1]?.getD (.b false)) && Nat.blt 1 D.length && (decide (2 < (↑(r + 5) : Int)) && (AC.isS (D[2]?.getD (.b false)) && Nat.blt 2 D.length && (decide (3 < (↑(r + 5) : Int)) && (AC.isS (D[3]?.getD (.b false)) && Nat.blt 3 D.length && true))))))))) = true) (c0 : CO 36 [] [] (Eff.mk (.c (.sl 9 0 16 16)) [] (some (9, Ent.mk true A 0)))) (c1 : Ok 33 [.c (.i o)] (.c (.b false))) (c2 : Ok 35 [.c (.i o)] (.c (.b true))) (c3 : pe (.c (.s (AC.asS (D[1]?.getD (.b false))))) = pe (.c (.s w1))) (c4 : Ok 46 [.c (.s w1)] (.c (.i d))) (c5 : pe (.c (.s (AC.asS (D[2]?.getD (.b false))))) = pe (.c (.s w2))) (c6 : CO 45 [.c (.s w2), .c (.w 6)] [(6, Ent.mk true [.i o, .i d, .i 0, .u 0#64, .i 0] 0)] (Eff.mk (.tu []) [(6, i.cs)] none)) (c7 : pe (.c (.s (AC.asS (D[3]?.getD (.b false))))) = pe (.c (.s w3))) (c8 : Ok 48 [.c (.s w3)] (.c (.i f))) :
  AR 24 Tryz.f24 (cx w β n []) 0 (guYK r j o D) (REff w β ⟨.ag [.i i.op, .i i.d, .i i.s, .u i.im, .i f], [], none⟩) :=
 run_eff2 [] none [false, false, false, false, true] ([true]) [(17, 2), (18, 3), (19, 2)] Tryz.func24 (ekeys0 rfl n) (by kernel_rfl) h (cr_cons c0 (cr_cons c1 (cr_cons c2 (cr_same c3 (cr_cons c4 (cr_same c5 (cr_cons c6 (cr_same c7 (cr_cons c8 cr_nil)))))))))
theorem geJ_w0 (h : (!decide ((j : Int) < 16) && (!o == 10 && (!o == 11 && (o == 12 && (decide (1 < (↑(r + 5) : Int)) && (AC.isS (D[1]?.getD (.b false)) && Nat.blt 1 D.length && true)))))) = true) (c0 : CO 36 [] [] (Eff.mk (.c (.sl 9 0 16 16)) [] (some (9, Ent.mk true A 0)))) (c1 : Ok 33 [.c (.i o)] (.c (.b false))) (c2 : Ok 35 [.c (.i o)] (.c (.b false))) (c3 : pe (.c (.s (AC.asS (D[1]?.getD (.b false))))) = pe (.c (.s w1))) (c4 : Ok 48 [.c (.s w1)] (.c (.i f))) :
  AR 24 Tryz.f24 (cx w β n []) 0 (guYK r j o D) (REff w β ⟨.ag [.i o, .i 0, .i 0, .u 0#64, .i f], [], none⟩) :=
 run_eff2 [] none [false, false, false, false, false, true] ([true]) [(21, 2)] Tryz.func24 (ekeys0 rfl n) (by kernel_rfl) h (cr_cons c0 (cr_cons c1 (cr_cons c2 (cr_same c3 (cr_cons c4 cr_nil)))))
theorem geE_w0 (h : (!decide ((j : Int) < 16) && (!o == 10 && (!o == 11 && (!o == 12 && true)))) = true) (c0 : CO 36 [] [] (Eff.mk (.c (.sl 9 0 16 16)) [] (some (9, Ent.mk true A 0)))) (c1 : Ok 33 [.c (.i o)] (.c (.b false))) (c2 : Ok 35 [.c (.i o)] (.c (.b false))) :
  AR 24 Tryz.f24 (cx w β n []) 0 (guYK r j o D) (REff w β ⟨.ag [.i o, .i 0, .i 0, .u 0#64, .i 0], [], none⟩) :=
 run_eff2 [] none [false, false, false, false, false, false] ([true]) [] Tryz.func24 (ekeys0 rfl n) (by kernel_rfl) h (cr_cons c0 (cr_cons c1 (cr_cons c2 cr_nil)))
end
section
abbrev cfRNK (t : ByteArray) (r j : Nat) (D : List AC) : Kn := ⟨[(0, .c (.s t)), (4, .c (.sx 6 r)), (5, .c nilSl), (6, .c (.i (j : Int)))], [(6, Ent.mk true D 1)], 51⟩
abbrev cfRXK (t : ByteArray) (r j : Nat) (D : List AC) (M : List Ins) : Kn := ⟨[(0, .c (.s t)), (4, .c (.sx 6 r)), (5, .c (.sx 50 M.length)), (6, .c (.i (j : Int)))], [(6, Ent.mk true D 1), (50, Ent.mk true (pcell M) 5)], 51⟩
variable {t x u : ByteArray} {r j n : Nat} {D : List AC} {C : Cx} {R : Ending → World → Prop} {i : Ins} {M : List Ins} {w : World} {β : Bs} {e : Int}
theorem cfBig_w0 (h : (decide (4096 < (↑(ByteArray.size t) : Int)) && true) = true) :
  Ok 8 [.c (.s t)] (.tu [.c nilSl, .c (.b false)]) :=
 val_run2 [true] ([]) [] Tryz.func8 rfl rfl rfl rfl (by kernel_rfl) h cr_nil
theorem cfTop_w0 (h : (!decide (4096 < (↑(ByteArray.size t) : Int)) && true) = true) (c0 : CO 23 [.c (.s t), .c (.y 10#8), .c (.i 66)] [] (Eff.mk (.c (.sx 6 r)) [] (some (6, Ent.mk true D 1)))) (lo : Kn.Low ⟨[(0, .c (.s t)), (4, .c (.sx 6 r)), (5, .c nilSl), (6, .c (.i 0))], [(6, Ent.mk true D 1)], 51⟩) (hF : ∀ k, C.F k → k < 51) (z : AR 8 Tryz.f8 C 0 ⟨[(0, .c (.s t)), (4, .c (.sx 6 r)), (5, .c nilSl), (6, .c (.i 0))], [(6, Ent.mk true D 1)], 51⟩ R) :
  BO 8 Tryz.f8 C [.c (.s t)] [] 0 R :=
 run_cut2 [false] ([true]) [] Tryz.func8 (by kernel_rfl) h (cr_cons c0 cr_nil) lo hF z
theorem cfRN_w0 (h : (decide ((↑(j + 1) : Int) < (r : Int)) && (decide ((j : Int) < (r : Int)) && (AC.isS (D[(j : Int).toNat * 1]?.getD (.b false)) && Nat.blt ((j : Int).toNat * 1) D.length && true))) = true) (c0 : pe (.c (.i (IntKind.i64.wrap ((j : Int) + 1)))) = pe (.c (.i (↑(j + 1) : Int)))) (c1 : pe (.c (.s (AC.asS (D[(j : Int).toNat * 1]?.getD (.b false))))) = pe (.c (.s x))) (c2 : Ok 24 [.c (.s x)] (.ag i.cs)) (c3 : Eff.mk (.c (.sx 63 1)) [] (some (51 + 5 + 7, Ent.mk true i.cs 5)) = Eff.mk (.c (.sx 63 1)) [] (some (63, Ent.mk true (pcell [i]) 5))) (c4 : pe (.c (.i (IntKind.i64.wrap ((j : Int) + 1)))) = pe (.c (.i (↑(j + 1) : Int)))) (lo : Kn.Low ⟨[(0, .c (.s t)), (4, .c (.sx 6 r)), (5, .c (.sx 63 1)), (6, .c (.i (↑(j + 1) : Int)))], [(6, Ent.mk true D 1), (63, Ent.mk true (pcell [i]) 5)], 64⟩) (hF : ∀ k, C.F k → k < 64) (z : AR 8 Tryz.f8 C 0 ⟨[(0, .c (.s t)), (4, .c (.sx 6 r)), (5, .c (.sx 63 1)), (6, .c (.i (↑(j + 1) : Int)))], [(6, Ent.mk true D 1), (63, Ent.mk true (pcell [i]) 5)], 64⟩ R) :
  AR 8 Tryz.f8 C 0 (cfRNK t r j D) R :=
 run_cut2 [true] ([true]) [(6, 1), (8, 4), (8, 7), (7, 1)] Tryz.func8 (by kernel_rfl) h (cr_same c0 (cr_same c1 (cr_cons c2 (cr_same c3 (cr_same c4 cr_nil))))) lo hF z
theorem cfRX_w0 (h : (decide ((↑(j + 1) : Int) < (r : Int)) && (decide ((j : Int) < (r : Int)) && (AC.isS (D[(j : Int).toNat * 1]?.getD (.b false)) && Nat.blt ((j : Int).toNat * 1) D.length && (Nat.beq (M.length * 5) (pcell M).length && decide (M.length + 1 ≤ 137438953472) && Nat.blt 0 M.length && true)))) = true) (c0 : pe (.c (.i (IntKind.i64.wrap ((j : Int) + 1)))) = pe (.c (.i (↑(j + 1) : Int)))) (c1 : pe (.c (.s (AC.asS (D[(j : Int).toNat * 1]?.getD (.b false))))) = pe (.c (.s x))) (c2 : Ok 24 [.c (.s x)] (.ag i.cs)) (c3 : Eff.mk (.c (.sx 63 (M.length + 1))) [(50, [])] (some (51 + 5 + 7, Ent.mk true (pcell M ++ ((splice (rows 1 [.i 0, .i 0, .i 0, .u 0#64, .i 0]) 0 i.cs).drop 0).take 5) 5)) = Eff.mk (.c (.sx 63 (M.length + 1))) [(50, [])] (some (63, Ent.mk true (pcell (M ++ [i])) 5))) (c4 : pe (.c (.i (IntKind.i64.wrap ((j : Int) + 1)))) = pe (.c (.i (↑(j + 1) : Int)))) (lo : Kn.Low ⟨[(0, .c (.s t)), (4, .c (.sx 6 r)), (5, .c (.sx 63 (M.length + 1))), (6, .c (.i (↑(j + 1) : Int)))], [(6, Ent.mk true D 1), (63, Ent.mk true (pcell (M ++ [i])) 5)], 64⟩) (hF : ∀ k, C.F k → k < 64) (z : AR 8 Tryz.f8 C 0 ⟨[(0, .c (.s t)), (4, .c (.sx 6 r)), (5, .c (.sx 63 (M.length + 1))), (6, .c (.i (↑(j + 1) : Int)))], [(6, Ent.mk true D 1), (63, Ent.mk true (pcell (M ++ [i])) 5)], 64⟩ R) :
  AR 8 Tryz.f8 C 0 (cfRXK t r j D M) R :=
 run_cut2 [true] ([true]) [(6, 1), (8, 4), (8, 7), (7, 1)] Tryz.func8 (by kernel_rfl) h (cr_same c0 (cr_same c1 (cr_cons c2 (cr_same c3 (cr_same c4 cr_nil))))) lo hF z
theorem cfEN_w0 (h : (!decide ((↑(j + 1) : Int) < (r : Int)) && true) = true) (c0 : pe (.c (.i (IntKind.i64.wrap ((j : Int) + 1)))) = pe (.c (.i (↑(j + 1) : Int)))) (c1 : Ok 5 [.c nilSl] (.c (.i 2))) :
  AR 8 Tryz.f8 (cx w β n []) 0 (cfRNK t r j D) (REff w β ⟨.tu [.c nilSl, .c (.b false)], [], none⟩) :=
 run_eff2 [] none [false, true, true] ([true]) [(6, 1)] Tryz.func8 (ekeys0 rfl n) (by kernel_rfl) h (cr_same c0 (cr_cons c1 cr_nil))
theorem cfEX_w0 (h : (!decide ((↑(j + 1) : Int) < (r : Int)) && (e != 0 && true)) = true) (c0 : pe (.c (.i (IntKind.i64.wrap ((j : Int) + 1)))) = pe (.c (.i (↑(j + 1) : Int)))) (c1 : CO 5 [.c (.sx 50 M.length)] [(50, Ent.mk true (pcell M) 5)] (pe (.c (.i e)))) :
  AR 8 Tryz.f8 (cx w β n []) 0 (cfRXK t r j D M) (REff w β ⟨.tu [.c nilSl, .c (.b false)], [], none⟩) :=
 run_eff2 [] none [false, true, true] ([true]) [(6, 1)] Tryz.func8 (ekeys0 rfl n) (by kernel_rfl) h (cr_same c0 (cr_cons c1 cr_nil))
theorem cfEY_w0 (h : (!decide ((↑(j + 1) : Int) < (r : Int)) && (!ByteArray.toList u == ByteArray.toList t && true)) = true) (c0 : pe (.c (.i (IntKind.i64.wrap ((j : Int) + 1)))) = pe (.c (.i (↑(j + 1) : Int)))) (c1 : CO 5 [.c (.sx 50 M.length)] [(50, Ent.mk true (pcell M) 5)] (pe (.c (.i 0)))) (c2 : CO 6 [.c (.sx 50 M.length)] [(50, Ent.mk true (pcell M) 5)] (pe (.c (.s u)))) :
  AR 8 Tryz.f8 (cx w β n []) 0 (cfRXK t r j D M) (REff w β ⟨.tu [.c nilSl, .c (.b false)], [], none⟩) :=
 run_eff2 [] none [false, false, true] ([true]) [(6, 1)] Tryz.func8 (ekeys0 rfl n) (by kernel_rfl) h (cr_same c0 (cr_cons c1 (cr_cons c2 cr_nil)))
theorem cfEZ_w0 (h : (!decide ((↑(j + 1) : Int) < (r : Int)) && (!!ByteArray.toList u == ByteArray.toList t && true)) = true) (c0 : pe (.c (.i (IntKind.i64.wrap ((j : Int) + 1)))) = pe (.c (.i (↑(j + 1) : Int)))) (c1 : CO 5 [.c (.sx 50 M.length)] [(50, Ent.mk true (pcell M) 5)] (pe (.c (.i 0)))) (c2 : CO 6 [.c (.sx 50 M.length)] [(50, Ent.mk true (pcell M) 5)] (pe (.c (.s u)))) (hk : EKeys n [] (some 50) ⟨.tu [.c (.sx 50 M.length), .c (.b true)], [], some (50, Ent.mk true (pcell M) 5)⟩) :
  AR 8 Tryz.f8 (cx w β n []) 0 (cfRXK t r j D M) (REff w β ⟨.tu [.c (.sx 50 M.length), .c (.b true)], [], some (50, Ent.mk true (pcell M) 5)⟩) :=
 run_eff2 [] (some 50) [false, false, false] ([true]) [(6, 1)] Tryz.func8 hk (by kernel_rfl) h (cr_same c0 (cr_cons c1 (cr_cons c2 cr_nil)))
end
end Go.Proofs.YtkigmocchaikgaaGreatDoor
/- The step that a line may show (guess), the program that is shown so (CodeFrom): the reference's. -/
namespace Go.Proofs.YtkigmocchaikgaaGreatDoor
open Go.RowKit Go.Lib
theorem bs_list (l : List UInt8) : (bs l).toList = l := by rw [bytes_list]
/- a call that writes the one block that it is handed -/
theorem wrE_of {P : Program} {f : FuncId} {fn : Func} {args : List AV} {cs cs' : List AC} {v : AV} (hf : P.funcs[f]? = some fn) (hb : fn.body.isSome = true) (hN : Nat.ble args.length fn.ntmps = true) (ha : (keysOf args).all (fun k => Nat.blt k 1) = true) (hcs : cs.flatMap AC.ks = []) (hne : cs ≠ []) (hv : v.ks = []) (hc : cs'.flatMap AC.ks = [])
  (h : ∀ w β, EKeys 1 [0] none ⟨v, [(0, cs')], none⟩ → ART P f (cx w β 1 [0]) fn.ntmps [.code (bodyOf fn)] (Kn.start args [(0, ⟨true, cs, 0⟩)] 1) (REff w β ⟨v, [(0, cs')], none⟩)) : CallOK P ⟨f, args, [(0, ⟨true, cs, 0⟩)], ⟨v, [(0, cs')], none⟩⟩ := by
 have e : EKeys 1 [0] none ⟨v, [(0, cs')], none⟩ := by
  refine ⟨fun k hk => ?_, fun k cs hm => ?_, fun _ _ h' => (nomatch h'), fun k h => ?_, fun _ h => (nomatch h)⟩
  ·simp only at hk; rw [hv] at hk; cases hk
  ·have := List.mem_singleton.1 hm; injection this with _ h2; subst h2; exact hc
  ·rw [List.mem_singleton.1 h]; decide
 have hB : Begin args [(0, ⟨true, cs, 0⟩)] 1 := by
  refine ⟨fun v hv k hk => ?_, fun k e he => ?_⟩
  ·have h2 := List.all_eq_true.1 ha k (List.mem_flatMap.2 ⟨v, hv, hk⟩)
   simpa using h2
  ·obtain ⟨rfl, rfl⟩ := one_look he
   exact ⟨by decide, fun c hc j hj => (nk_of hcs hc hj).elim⟩
 refine eff_of [0] none hf hb hN hB (fun k hk => ?_) (fun _ _ h' => (nomatch h')) (fun _ h => (nomatch h)) e (fun k cs' hm => ?_) (fun k en h1 h2 => ?_) fun w β _ => h w β e
 ·simp only at hk; rw [hv] at hk; cases hk
 ·have := List.mem_singleton.1 hm; injection this with h1 h2; subst h1
  exact ⟨⟨true, cs, 0⟩, rfl, rfl, hne⟩
 ·obtain ⟨rfl, _⟩ := one_look h1; exact List.mem_singleton.2 rfl
theorem gc_ok {t : ByteArray} (ht : t.size ≤ 4096) (i : Ins) : CallOK Tryz.prog ⟨45, [.c (.s t), .c (.w 0)], [(0, ⟨true, i.cs, 0⟩)], ⟨.tu [], [(0, (fromW i t.data.toList).cs)], none⟩⟩ := by
 refine wrE_of Tryz.func45 rfl rfl rfl rfl (by simp [Ins.cs]) rfl rfl fun w β hk => ?_
 unfold fromW at hk ⊢
 by_cases h0 : 0 < t.size
 ·have b0 := byte0 t 114 h0
  have d0 : decide (0 < (t.size : Int)) = true := decide_eq_true (by omega)
  by_cases h : t.data.toList.head? = some 114
  ·rw [if_pos h] at hk ⊢
   rw [decide_eq_true h] at b0
   exact gcR_w0 (and_yes d0 (and_yes (decide_eq_true h0) (and_yes b0 rfl))) (regOf_ok ht) hk
  ·rw [if_neg h] at hk ⊢
   rw [decide_eq_false h] at b0
   exact gcN_w0 (and_yes d0 (and_yes (decide_eq_true h0) (and_yes (not_yes b0) rfl))) (value_ok ht) hk
 ·have hl : t.data.toList = [] := List.length_eq_zero_iff.1 (by rw [sz_list]; omega)
  have h : ¬ t.data.toList.head? = some 114 := by rw [hl]; simp
  rw [if_neg h] at hk ⊢
  exact gcZ_w0 (and_yes (not_yes (decide_eq_false (by omega))) rfl) (value_ok ht) hk
theorem gc_at {t : ByteArray} (ht : t.size ≤ 4096) (i : Ins) (K : Nat) : CallOK Tryz.prog ⟨45, [.c (.s t), .c (.w K)], [(K, ⟨true, i.cs, 0⟩)], ⟨.tu [], [(K, (fromW i t.data.toList).cs)], none⟩⟩ := by
 refine ((gc_ok ht i).ren (swp 0 K) (swp_inj 0 K)).congr ?_
 unfold CallRec.ren Eff.ren renH
 simp only [List.map_cons, List.map_nil, Option.map_none, Ent.ren, AV.ren, AC.ren, swp_fst, Ins.cs]
/- which name it is -/
def scanO (l : List UInt8) : Nat → Int
 | 0 => 0
 | j + 1 => if 1 ≤ j ∧ nmL (j - 1) = l then (j : Int) else scanO l j
theorem scan_none {l : List UInt8} (h : ∀ k, k < 15 → nmL k ≠ l) : ∀ j, j ≤ 16 → scanO l j = 0
 | 0, _ => rfl
 | j + 1, hj => by
  unfold scanO
  rw [if_neg (fun e => h (j - 1) (by omega) e.2), scan_none h j (by omega)]
theorem scan_name : ∀ k, k < 15 → scanO (nmL k) 16 = (k : Int) + 1 := by decide
theorem scan_op (l : List UInt8) : scanO l 16 = opP l := by
 unfold opP
 cases h : oFind l with
 | some k =>
  obtain ⟨hk, rfl⟩ := oFind_some h
  exact scan_name k hk
 | none => exact scan_none (fun k hk e => by rw [← e, oFind_nm k hk] at h; cases h) 16 (Nat.le_refl _)
theorem op_range (l : List UInt8) : 0 ≤ opP l ∧ opP l ≤ 15 := by
 unfold opP
 cases h : oFind l with
 | some k =>
  obtain ⟨hk, _⟩ := oFind_some h
  simp only
  omega
 | none => simp
/- the words, and empty ones behind them -/
theorem wd (ws : List (List UInt8)) {k : Nat} (hk : k < 5) : (wcell ws ++ E5)[k]? = some (.s (bs (ws.getD k []))) := by
 by_cases h : k < ws.length
 ·rw [List.getElem?_append_left (by rw [wcell_len]; exact h), List.getD_eq_getElem?_getD]
  unfold wcell
  rw [List.getElem?_map, List.getElem?_eq_getElem h]; rfl
 ·have e : ws.getD k [] = [] := by rw [List.getD_eq_getElem?_getD, List.getElem?_eq_none (by omega)]; rfl
  rw [List.getElem?_append_right (by rw [wcell_len]; omega), e]
  show (List.replicate 5 (AC.s ⟨#[]⟩))[k - (wcell ws).length]? = _
  rw [List.getElem?_replicate, if_pos (by omega)]
abbrev guK (ws : List (List UInt8)) (j : Nat) (o : Int) : Kn := guYK ws.length j o (wcell ws ++ E5)
theorem wE_ks (ws : List (List UInt8)) : (wcell ws ++ E5).flatMap AC.ks = [] := by rw [List.flatMap_append, wcell_ks]; rfl
theorem gu_low (ws : List (List UInt8)) (j : Nat) (o : Int) : Kn.Low (guK ws j o) := low_n rfl rfl ⟨rfl, wE_ks ws, rfl, trivial⟩
theorem wd_is (ws : List (List UInt8)) {k : Nat} (hk : k < 5) : (AC.isS ((wcell ws ++ E5)[k]?.getD (.b false)) && Nat.blt k (wcell ws ++ E5).length) = true := by
 rw [wd ws hk]
 refine and_yes rfl ?_
 rw [List.length_append]
 simp; omega
theorem wd_pe (ws : List (List UInt8)) {k : Nat} (hk : k < 5) : pe (.c (.s (AC.asS ((wcell ws ++ E5)[k]?.getD (.b false))))) = pe (.c (.s (bs (ws.getD k [])))) := by rw [wd ws hk]; rfl
theorem guLoop (ws : List (List UInt8)) {C : Cx} {R : Ending → World → Prop} (hF : ∀ k, C.F k → k < 8) (z : AR 24 Tryz.f24 C 0 (guK ws 16 (opP (ws.getD 0 []))) R) : ∀ n j, j + n = 16 → 1 ≤ j → AR 24 Tryz.f24 C 0 (guK ws j (scanO (ws.getD 0 []) j)) R
 | 0, j, hj, _ => by
  obtain rfl : j = 16 := by omega
  rw [scan_op]; exact z
 | n + 1, j, hj, h1 => by
  obtain ⟨k, rfl⟩ : ∃ k, j = k + 1 := ⟨j - 1, by omega⟩
  have hk : k < 15 := by omega
  have d0 : decide (((k + 1 : Nat) : Int) < 16) = true := decide_eq_true (by omega)
  have dr : decide (0 < (((ws.length + 5 : Nat)) : Int)) = true := decide_eq_true (by omega)
  have e0 : 0 + ((k + 1 : Nat) : Int).toNat * 1 = k + 1 := by omega
  have g1 : (AC.isS (nmC[0 + ((k + 1 : Nat) : Int).toNat * 1]?.getD (.b false)) && Nat.blt (0 + ((k + 1 : Nat) : Int).toNat * 1) nmC.length) = true := by
   rw [e0, nmC_at hk, nmC_len]
   refine and_yes rfl ?_
   simp; omega
  have g2 : pe (.c (.s (AC.asS (nmC[0 + ((k + 1 : Nat) : Int).toNat * 1]?.getD (.b false))))) = pe (.c (.s (bs (nmL k)))) := by rw [e0, nmC_at hk]; rfl
  have ih := guLoop ws hF z n (k + 1 + 1) (by omega) (by omega)
  have es : scanO (ws.getD 0 []) (k + 1 + 1) = if nmL k = ws.getD 0 [] then ((k + 1 : Nat) : Int) else scanO (ws.getD 0 []) (k + 1) := by
   show (if 1 ≤ k + 1 ∧ nmL (k + 1 - 1) = ws.getD 0 [] then ((k + 1 : Nat) : Int) else scanO (ws.getD 0 []) (k + 1)) = _
   simp
  rw [es] at ih
  by_cases h : nmL k = ws.getD 0 []
  ·rw [if_pos h] at ih
   exact guY_w0 (and_yes d0 (and_yes d0 (and_yes g1 (and_yes dr (and_yes (wd_is ws (by decide)) (and_yes (by rw [bs_list, bs_list, h]; simp) rfl)))))) (names_at 9) (names_at 12) g2 (wd_pe ws (by decide)) (wrap1 (by omega)) (gu_low _ _ _) hF ih
  ·rw [if_neg h] at ih
   exact guN_w0 (and_yes d0 (and_yes d0 (and_yes g1 (and_yes dr (and_yes (wd_is ws (by decide)) (and_yes (not_yes (by rw [bs_list, bs_list]; exact beq_eq_false_iff_ne.2 h)) rfl)))))) (names_at 9) (names_at 12) g2 (wd_pe ws (by decide)) (wrap1 (by omega)) (gu_low _ _ _) hF ih
theorem guEnd (ws : List (List UInt8)) (hs : ∀ k, (bs (ws.getD k [])).size ≤ 4096) {w : World} {β : Bs} {n : Nat} : AR 24 Tryz.f24 (cx w β n []) 0 (guK ws 16 (opP (ws.getD 0 []))) (REff w β ⟨.ag (guessL ws).cs, [], none⟩) := by
 have d0 : (!decide (((16 : Nat) : Int) < 16)) = true := rfl
 have dr : ∀ k : Nat, k < 5 → decide ((k : Int) < (((ws.length + 5 : Nat)) : Int)) = true := fun k h => decide_eq_true (by omega)
 have g : ∀ k, k < 5 → _ := fun k h => wd_is ws h
 have p : ∀ k, k < 5 → _ := fun k h => wd_pe ws h
 have vR : ∀ k, Ok 46 [.c (.s (bs (ws.getD k [])))] (.c (.i (regP (ws.getD k [])))) := fun k => regOf_ok (hs k)
 have vS : ∀ k, Ok 48 [.c (.s (bs (ws.getD k [])))] (.c (.i (smallP (ws.getD k [])))) := fun k => small_ok (hs k)
 have vV : ∀ k, Ok 47 [.c (.s (bs (ws.getD k [])))] (.c (.u (valP (ws.getD k [])))) := fun k => value_ok (hs k)
 have hr := op_range (ws.getD 0 [])
 unfold guessL
 generalize opP (ws.getD 0 []) = o at *
 have cR := refReckons_ok o
 have cB := refBranches_ok o
 unfold guessW
 by_cases h9 : 1 ≤ o ∧ o ≤ 9
 ·rw [if_pos h9]
  rw [decide_eq_true h9.1, decide_eq_true h9.2] at cR
  exact geA_w0 (and_yes d0 (and_yes (dr 1 (by decide)) (and_yes (g 1 (by decide)) (and_yes (dr 2 (by decide)) (and_yes (g 2 (by decide)) rfl))))) (names_at 9) cR (p 1 (by decide)) (vR 1) (p 2 (by decide)) (gc_at (hs 2) ⟨o, regP (ws.getD 1 []), 0, 0, 0⟩ 6)
 ·rw [if_neg h9]
  have cR2 : Ok 33 [.c (.i o)] (.c (.b false)) := ok_eq cR (by
   rcases Int.lt_or_le o 1 with h | h
   ·rw [decide_eq_false (by omega)]; rfl
   ·rw [decide_eq_false (show ¬ o ≤ 9 by omega), Bool.and_false])
  by_cases h10 : o = 10
  ·subst h10
   rw [if_pos rfl]
   exact geL_w0 (and_yes d0 (and_yes rfl (and_yes (dr 1 (by decide)) (and_yes (g 1 (by decide)) (and_yes (dr 2 (by decide)) (and_yes (g 2 (by decide)) (and_yes (dr 3 (by decide)) (and_yes (g 3 (by decide)) (and_yes (dr 4 (by decide)) (and_yes (g 4 (by decide)) rfl)))))))))) (names_at 9) cR2 (p 1 (by decide)) (vV 1) (p 2 (by decide)) (vR 2) (p 3 (by decide)) (vR 3) (p 4 (by decide)) (vS 4)
  ·rw [if_neg h10]
   have f10 : (!(o == 10)) = true := by simp [h10]
   by_cases h11 : o = 11
   ·subst h11
    rw [if_pos rfl]
    exact geS_w0 (and_yes d0 (and_yes f10 (and_yes rfl (and_yes (dr 1 (by decide)) (and_yes (g 1 (by decide)) (and_yes (dr 2 (by decide)) (and_yes (g 2 (by decide)) (and_yes (dr 3 (by decide)) (and_yes (g 3 (by decide)) (and_yes (dr 4 (by decide)) (and_yes (g 4 (by decide)) rfl))))))))))) (names_at 9) cR2 (p 1 (by decide)) (vV 1) (p 2 (by decide)) (vR 2) (p 3 (by decide)) (vS 3) (p 4 (by decide)) (vR 4)
   ·rw [if_neg h11]
    have f11 : (!(o == 11)) = true := by simp [h11]
    by_cases h13 : o = 13 ∨ o = 14
    ·rw [if_pos h13]
     have cB2 : Ok 35 [.c (.i o)] (.c (.b true)) := ok_eq cB (by rcases h13 with e | e <;> rw [e] <;> rfl)
     exact geB_w0 (i := fromW ⟨o, regP (ws.getD 1 []), 0, 0, 0⟩ (ws.getD 2 [])) (and_yes d0 (and_yes f10 (and_yes f11 (and_yes (dr 1 (by decide)) (and_yes (g 1 (by decide)) (and_yes (dr 2 (by decide)) (and_yes (g 2 (by decide)) (and_yes (dr 3 (by decide)) (and_yes (g 3 (by decide)) rfl))))))))) (names_at 9) cR2 cB2 (p 1 (by decide)) (vR 1) (p 2 (by decide)) (gc_at (hs 2) ⟨o, regP (ws.getD 1 []), 0, 0, 0⟩ 6) (p 3 (by decide)) (vS 3)
    ·rw [if_neg h13]
     have cB2 : Ok 35 [.c (.i o)] (.c (.b false)) := ok_eq cB (by
      have e13 : (o == 13) = false := beq_eq_false_iff_ne.2 fun e => h13 (Or.inl e)
      have e14 : (o == 14) = false := beq_eq_false_iff_ne.2 fun e => h13 (Or.inr e)
      rw [e13, e14]; rfl)
     by_cases h12 : o = 12
     ·subst h12
      rw [if_pos rfl]
      exact geJ_w0 (and_yes d0 (and_yes f10 (and_yes f11 (and_yes rfl (and_yes (dr 1 (by decide)) (and_yes (g 1 (by decide)) rfl)))))) (names_at 9) cR2 cB2 (p 1 (by decide)) (vS 1)
     ·rw [if_neg h12]
      exact geE_w0 (and_yes d0 (and_yes f10 (and_yes f11 (and_yes (by simp [h12]) rfl)))) (names_at 9) cR2 cB2
theorem cut_word {l : List UInt8} {c : UInt8} {k : Nat} (j : Nat) : ((cutL c k [] l).getD j []).length ≤ l.length := by
 rw [List.getD_eq_getElem?_getD]
 cases h : (cutL c k [] l)[j]? with
 | none => simp
 | some x => exact cutL_sz c l [] k l.length (by simp) x (List.mem_of_getElem? h)
theorem guess_ok {t : ByteArray} (ht : t.size ≤ 4096) : Ok 24 [.c (.s t)] (.ag (guessP t.data.toList).cs) := by
 refine read_of Tryz.func24 rfl rfl (begin0 rfl) rfl (fun _ _ h => (nomatch h)) fun w β => ?_
 have hc := cut_at ht 32 (k := 5) (by omega) 2
 have hl := cutL_len 32 t.data.toList [] 6
 have h0 : 0 < (cutL 32 6 [] t.data.toList).length := List.length_pos_iff.2 (cutL_ne 32 5 _ _)
 have hs : ∀ k, (bs ((cutL 32 6 [] t.data.toList).getD k [])).size ≤ 4096 := fun k => by
  rw [bs_size]
  have := cut_word (l := t.data.toList) (c := 32) (k := 6) k
  rw [sz_list] at this
  omega
 unfold guessP
 generalize cutL 32 6 [] t.data.toList = ws at *
 have g0 : (Nat.beq (ws.length * 1) (wcell ws).length && decide (ws.length + 5 ≤ 137438953472) && Nat.blt 0 ws.length) = true := by
  rw [wcell_len, Nat.mul_one, Nat.beq_refl, decide_eq_true (by omega)]
  simpa using h0
 exact guTop_w0 (and_yes g0 rfl) hc rfl (gu_low ws 1 0) (fun k hk => absurd hk (Nat.not_lt_zero k)) (guLoop ws (fun k hk => absurd hk (Nat.not_lt_zero k)) (guEnd ws hs) 15 1 rfl (Nat.le_refl _))
/- a program in a slice that was put together -/
theorem p_sx {f : Nat} {L : List Ins} {v : AV} (h : ∀ c, CallOK Tryz.prog ⟨f, [.c (.sl 0 0 L.length c)], pH L, ⟨v, [], none⟩⟩) (hv : ∀ ρ, v.ren ρ = v) (K : Nat) (b : Bool) (r : Nat) : CallOK Tryz.prog ⟨f, [.c (.sx K L.length)], [(K, ⟨b, pcell L, r⟩)], ⟨v, [], none⟩⟩ := by
 refine CallOK.of_cap (xs := []) (bs := []) fun c => ?_
 refine CallOK.more (H := [(K, ⟨false, pcell L, 0⟩)]) ?_ ⟨fun j en hj => ?_⟩
 ·refine ((h c).ren (swp 0 K) (swp_inj 0 K)).congr ?_
  unfold CallRec.ren Eff.ren renH
  have e : AV.ren (swp 0 K) (.c (.sl 0 0 L.length c)) = .c (.sl K 0 L.length c) := by simp only [AV.ren, AC.ren, swp_fst]
  simp only [List.map_cons, List.map_nil, Option.map_none, Ent.ren, ren_nk _ (pcell_ks L), e, swp_fst, hv, List.nil_append]
 ·obtain ⟨rfl, rfl⟩ := one_look hj
  exact ⟨⟨b, pcell L, r⟩, by rw [look_cons, if_pos rfl], rfl, fun h => (by cases h), Or.inl rfl⟩
theorem cfN_low (t : ByteArray) (r j : Nat) (ws : List (List UInt8)) : Kn.Low (cfRNK t r j (wcell ws)) := low_n rfl rfl ⟨wcell_ks ws, trivial⟩
theorem cfX_low (t : ByteArray) (r j : Nat) (ws : List (List UInt8)) (M : List Ins) : Kn.Low (cfRXK t r j (wcell ws) M) := low_n rfl rfl ⟨wcell_ks ws, pcell_ks M, trivial⟩
abbrev cfYK (t : ByteArray) (r j q : Nat) (D : List AC) (M : List Ins) : Kn := ⟨[(0, .c (.s t)), (4, .c (.sx 6 r)), (5, .c (.sx 63 q)), (6, .c (.i (j : Int)))], [(6, Ent.mk true D 1), (63, Ent.mk true (pcell M) 5)], 64⟩
theorem cfY_low (t : ByteArray) (r j q : Nat) (ws : List (List UInt8)) (M : List Ins) : Kn.Low (cfYK t r j q (wcell ws) M) := low_n rfl rfl ⟨wcell_ks ws, pcell_ks M, trivial⟩
theorem cf_ren (t : ByteArray) (r j q : Nat) (ws : List (List UInt8)) (M : List Ins) (hq : q = M.length) : (cfYK t r j q (wcell ws) M).ren (swp 50 63) 51 = cfRXK t r j (wcell ws) M := by
 subst hq
 unfold Kn.ren renH
 simp only [List.map_cons, List.map_nil, Ent.ren, ren_nk _ (wcell_ks ws), ren_nk _ (pcell_ks M)]
 rfl
theorem wc_at {ws : List (List UInt8)} {j : Nat} (h : j < ws.length) : (wcell ws)[(j : Int).toNat * 1]? = some (.s (bs (ws.getD j []))) := by
 rw [Int.toNat_natCast, Nat.mul_one]
 unfold wcell
 rw [List.getElem?_map, List.getD_eq_getElem?_getD, List.getElem?_eq_getElem h]; rfl
theorem wc_is {ws : List (List UInt8)} {j : Nat} (h : j < ws.length) : (AC.isS ((wcell ws)[(j : Int).toNat * 1]?.getD (.b false)) && Nat.blt ((j : Int).toNat * 1) (wcell ws).length) = true := by
 rw [wc_at h, wcell_len]
 refine and_yes rfl ?_
 simpa using h
theorem wc_pe {ws : List (List UInt8)} {j : Nat} (h : j < ws.length) : pe (.c (.s (AC.asS ((wcell ws)[(j : Int).toNat * 1]?.getD (.b false))))) = pe (.c (.s (bs (ws.getD j [])))) := by rw [wc_at h]; rfl
theorem gm_take (ws : List (List UInt8)) {j : Nat} (h : j < ws.length) : (ws.take j).map guessP ++ [guessP (ws.getD j [])] = (ws.take (j + 1)).map guessP := by
 rw [List.take_add_one, List.map_append, List.getElem?_eq_getElem h, List.getD_eq_getElem?_getD, List.getElem?_eq_getElem h]; rfl
theorem pcell_one (i : Ins) : i.cs = pcell [i] := by simp [pcell]
theorem cfLoop {t : ByteArray} {ws : List (List UInt8)} (hs : ∀ k, (bs (ws.getD k [])).size ≤ 4096) (h66 : ws.length ≤ 66) {C : Cx} {R : Ending → World → Prop} (hF : ∀ k, C.F k → k < 0) (z : AR 8 Tryz.f8 C 0 (cfRXK t ws.length (ws.length - 1) (wcell ws) (ws.dropLast.map guessP)) R) : ∀ n j, j + n + 1 = ws.length → 1 ≤ j → AR 8 Tryz.f8 C 0 (cfRXK t ws.length j (wcell ws) ((ws.take j).map guessP)) R
 | 0, j, hj, _ => by
  obtain rfl : j = ws.length - 1 := by omega
  rw [← List.dropLast_eq_take]; exact z
 | n + 1, j, hj, h1 => by
  have hl : ((ws.take j).map guessP).length = j := by rw [List.length_map, List.length_take]; omega
  have d0 : decide (((j + 1 : Nat) : Int) < (ws.length : Int)) = true := decide_eq_true (by omega)
  have d1 : decide ((j : Int) < (ws.length : Int)) = true := decide_eq_true (by omega)
  have hjw : j < ws.length := by omega
  have da : (Nat.beq (((ws.take j).map guessP).length * 5) (pcell ((ws.take j).map guessP)).length && decide (((ws.take j).map guessP).length + 1 ≤ 137438953472) && Nat.blt 0 ((ws.take j).map guessP).length) = true := by
   rw [pcell_length, Nat.beq_refl, hl, decide_eq_true (by omega)]
   simp; omega
  have hg := guess_ok (hs j)
  refine cfRX_w0 (and_yes d0 (and_yes d1 (and_yes (wc_is hjw) (and_yes da rfl)))) (wrap1 (by omega)) (wc_pe hjw) hg ?_ (wrap1 (by omega)) (cfY_low _ _ _ _ _ _) (fun k hk => absurd (hF k hk) (Nat.not_lt_zero k)) ?_
  ·rw [pcell_app, ← pcell_one]; rfl
  ·have e := gm_take ws hjw
   refine ART.ren (swp 50 63) 51 (swp_swp 50 63) (cf_ren _ _ _ _ _ _ (by simp)) (fun k hk => absurd (hF k hk) (Nat.not_lt_zero k)) (cfX_low _ _ _ _ _) ?_
   show AR 8 Tryz.f8 C 0 (cfRXK t ws.length (j + 1) (wcell ws) ((ws.take j).map guessP ++ [guessP (bs (ws.getD j [])).data.toList])) R
   rw [show (bs (ws.getD j [])).data.toList = ws.getD j [] from rfl, e]
   exact cfLoop hs h66 hF z n (j + 1) (by omega) (by omega)
theorem cfAll {t : ByteArray} (ht : t.size ≤ 4096) {C : Cx} {R : Ending → World → Prop} (hF : ∀ k, C.F k → k < 0)
  (zn : fromL t = [] → AR 8 Tryz.f8 C 0 (cfRNK t 1 0 (wcell (cutL 10 66 [] t.data.toList))) R)
  (zx : AR 8 Tryz.f8 C 0 (cfRXK t (cutL 10 66 [] t.data.toList).length ((cutL 10 66 [] t.data.toList).length - 1) (wcell (cutL 10 66 [] t.data.toList)) (fromL t)) R) :
  BO 8 Tryz.f8 C [.c (.s t)] [] 0 R := by
 have hc := cut_at ht 10 (k := 65) (by omega) 6
 have hl := cutL_len 10 t.data.toList [] 66
 have h0 : 0 < (cutL 10 66 [] t.data.toList).length := List.length_pos_iff.2 (cutL_ne 10 65 _ _)
 have hs : ∀ k, (bs ((cutL 10 66 [] t.data.toList).getD k [])).size ≤ 4096 := fun k => by
  rw [bs_size]
  have := cut_word (l := t.data.toList) (c := 10) (k := 66) k
  rw [sz_list] at this
  omega
 unfold fromL at zn zx
 generalize cutL 10 66 [] t.data.toList = ws at *
 refine cfTop_w0 (and_yes (not_yes (decide_eq_false (by omega))) rfl) hc (cfN_low t ws.length 0 ws) (fun k hk => absurd (hF k hk) (Nat.not_lt_zero k)) ?_
 by_cases h1 : ws.length = 1
 ·have e : ws.dropLast = [] := List.length_eq_zero_iff.1 (by rw [List.length_dropLast]; omega)
  rw [h1]
  exact zn (by rw [e]; rfl)
 ·have hg := guess_ok (hs 0)
  have d0 : decide (((0 + 1 : Nat) : Int) < (ws.length : Int)) = true := decide_eq_true (by omega)
  have d1 : decide (((0 : Nat) : Int) < (ws.length : Int)) = true := decide_eq_true (by omega)
  refine cfRN_w0 (j := 0) (and_yes d0 (and_yes d1 (and_yes (wc_is h0) rfl))) (wrap1 (by omega)) (wc_pe h0) hg (by rw [pcell_one]) (wrap1 (by omega)) (cfY_low _ _ _ _ _ _) (fun k hk => absurd (hF k hk) (Nat.not_lt_zero k)) ?_
  refine ART.ren (swp 50 63) 51 (swp_swp 50 63) (cf_ren _ _ _ _ _ _ rfl) (fun k hk => absurd (hF k hk) (Nat.not_lt_zero k)) (cfX_low _ _ _ _ _) ?_
  have e := gm_take ws h0
  have e2 : [guessP (bs (ws.getD 0 [])).data.toList] = (ws.take 1).map guessP := by rw [← e]; rfl
  rw [e2]
  exact cfLoop hs hl hF zx (ws.length - 2) 1 (by omega) (Nat.le_refl _)
theorem cf_keys (L : List Ins) : EKeys 0 [] (some 50) ⟨.tu [.c (.sx 50 L.length), .c (.b true)], [], some (50, ⟨true, pcell L, 5⟩)⟩ := by
 refine ⟨fun k hk => Or.inr ?_, fun _ _ hm => (nomatch hm), fun k en' h' => ?_, fun _ h => (nomatch h), fun k h => ⟨Nat.zero_le _, rfl⟩⟩
 ·rw [List.mem_singleton.1 hk]
 ·injection h' with h'; injection h' with _ h'; subst h'; exact pcell_ks L
theorem check_sx (M : List Ins) : CallOK Tryz.prog ⟨5, [.c (.sx 50 M.length)], [(50, ⟨true, pcell M, 5⟩)], ⟨.c (.i (codeErr M)), [], none⟩⟩ := p_sx (fun c => checkCode_ok M c) (fun _ => rfl) 50 true 5
theorem codeFrom_some {t : ByteArray} {L : List Ins} (h : fromS t = some L) : CallOK Tryz.prog ⟨8, [.c (.s t)], [], ⟨.tu [.c (.sx 50 L.length), .c (.b true)], [], some (50, ⟨true, pcell L, 5⟩)⟩⟩ := by
 unfold fromS at h
 split at h
 ·rename_i ht
  split at h
  ·rename_i hL
   injection h with h
   subst h
   have h0 := cutL_ne 10 65 t.data.toList []
   have hl := List.length_pos_iff.2 h0
   have h66 := cutL_len 10 t.data.toList [] 66
   refine new_of Tryz.func8 rfl rfl rfl rfl (pcell_ks _) fun w β _ => ?_
   refine cfAll ht (fun k hk => hk) (fun e => ?_) ?_
   ·rw [e] at hL; exact absurd hL.1 (by decide)
   ·have hc := check_sx (fromL t)
    rw [hL.1] at hc
    refine cfEZ_w0 (u := t) (and_yes (not_yes (decide_eq_false (by omega))) (and_yes (by simp) rfl)) (wrap1 (by omega)) hc ?_ (cf_keys _)
    have := p_sx (fun c => codeText_ok c hL.1) (fun _ => rfl) 50 true 5
    rwa [show bs (shown (fromL t)) = t from hL.2] at this
  ·cases h
 ·cases h
theorem codeFrom_none {t : ByteArray} (h : fromS t = none) : Ok 8 [.c (.s t)] (.tu [.c nilSl, .c (.b false)]) := by
 unfold fromS at h
 split at h
 ·rename_i ht
  split at h
  ·cases h
  ·rename_i hL
   have h0 := cutL_ne 10 65 t.data.toList []
   have hl := List.length_pos_iff.2 h0
   have h66 := cutL_len 10 t.data.toList [] 66
   refine read_of Tryz.func8 rfl rfl (begin0 rfl) rfl (fun _ _ h => (nomatch h)) fun w β => ?_
   refine cfAll ht (fun k hk => hk) (fun _ => ?_) ?_
   ·exact cfEN_w0 (and_yes (not_yes (decide_eq_false (by omega))) rfl) (wrap1 (by omega)) checkCode_nil
   ·have hc := check_sx (fromL t)
    by_cases he : codeErr (fromL t) = 0
    ·rw [he] at hc
     have hne : (⟨(shown (fromL t)).toArray⟩ : ByteArray) ≠ t := fun e => hL ⟨he, e⟩
     refine cfEY_w0 (u := bs (shown (fromL t))) (and_yes (not_yes (decide_eq_false (by omega))) (and_yes (not_yes ?_) rfl)) (wrap1 (by omega)) hc (p_sx (fun c => codeText_ok c he) (fun _ => rfl) 50 true 5)
     rw [bs_list, bytes_list]
     exact beq_eq_false_iff_ne.2 fun e => hne ((congrArg (fun l => bs l) e).trans (bs_data t))
    ·refine cfEX_w0 (e := codeErr (fromL t)) (and_yes (not_yes (decide_eq_false (by omega))) (and_yes (by simpa using he) rfl)) (wrap1 (by omega)) hc
 ·exact cfBig_w0 (and_yes (decide_eq_true (by omega)) rfl)
end Go.Proofs.YtkigmocchaikgaaGreatDoor
/- The law CodeShows, as calls. -/
namespace Go.Proofs.YtkigmocchaikgaaGreatDoor
open Go.Shelf Go.RowKit Go.Sort Go.Lib
theorem from_some {s : ByteArray} {L : List Ins} (h : readS s = some L) {W : World} (hw : Gw W) : Calls Tryz.prog 8 #[.string s] W fun e w' => ∃ g o c, e = .returned (.tuple #[.slice (some ⟨g, o, none⟩) L.length c, .bool true]) ∧ PAt w' g o L ∧ Below W.heap.size W w' := by
 have := (codeFrom_some ((fromS_eq s).trans h)).call (fun _ => (0, 0, 0)) W hw (fun k e h => by cases h) (fun k e h => by cases h) (fun k e _ _ h => by cases h)
 refine this.mono fun e w' ⟨β', he, hu⟩ => ?_
 obtain ⟨x, o, c, h1, h2, h3, h4⟩ := hu.nw
 have hb : β' 50 = (x, o, c) := by rw [h3]; simp [bset]
 have hp : ∀ j, ptr β' 50 j = ⟨x, o + j, none⟩ := fun j => by unfold ptr; rw [hb]
 refine ⟨x, o, c, ?_, ⟨?_, fun j c hj β => ?_⟩, hu.frame.os, hu.frame.tape, hu.frame.output, hu.frame.size, fun k hk => hu.frame.block k hk fun ⟨_, _, hm, _⟩ => by cases hm⟩
 ·rw [he]
  show Ending.returned (.tuple #[.slice (some (ptr β' 50 0)) L.length (β' 50).2.2, .bool true]) = _
  rw [hp, hb]; rfl
 ·have := h4.lt
  rw [hb] at this
  exact this
 ·have := h4.cell j c hj
  rw [hp] at this
  rw [this]
  exact congrArg some (AC.g_congr c fun k hk => (nk_of (pcell_ks L) (List.mem_of_getElem? hj) hk).elim)
theorem from_none {s : ByteArray} (h : readS s = none) {W : World} (hw : Gw W) : Calls Tryz.prog 8 #[.string s] W fun e w' => e = .returned (.tuple #[.slice none 0 0, .bool false]) ∧ Below W.heap.size W w' :=
 calls_of_ok (fun _ => (0, 0, 0)) rfl (fun _ => rfl) (codeFrom_none ((fromS_eq s).trans h)) W hw
theorem same_nil {W : World} (hw : Gw W) : Calls Tryz.prog 11 #[.slice none 0 0, .slice none 0 0] W fun e w' => e = .returned (.bool true) ∧ Below W.heap.size W w' :=
 calls_of_ok (fun _ => (0, 0, 0)) rfl (fun _ => rfl) sameCode_nil W hw
theorem read_none {s : ByteArray} (h : readS s = none) {W : World} (hw : Gw W) : Calls Tryz.prog 7 #[.string s] W fun e w' => e = .returned (.tuple #[.slice none 0 0, .int .i64 1]) ∧ Below W.heap.size W w' := by
 have := read_ok s hw
 rw [h] at this
 exact this
theorem read_some {s : ByteArray} {L : List Ins} (h : readS s = some L) {W : World} (hw : Gw W) : Calls Tryz.prog 7 #[.string s] W fun e w' => ∃ g c, e = .returned (.tuple #[.slice (some ⟨g, 0, none⟩) L.length c, .int .i64 0]) ∧ PAt w' g 0 L ∧ Below W.heap.size W w' := by
 have := read_ok s hw
 rw [h] at this
 exact this.mono fun e w' ⟨⟨g, c, he, _, hp⟩, hb⟩ => ⟨g, c, he, hp, hb⟩
/- what is asked of a program, told in one -/
structure Tells (v : Value) (T : ByteArray) (n : Int) (w : World) : Prop where
 sh : ∀ W, Below w.heap.size w W → Calls Tryz.prog 4 #[v] W fun e w' => e = .returned (.tuple #[.string T, .int .i64 n]) ∧ Below W.heap.size W w'
 rc : ∀ W, Below w.heap.size w W → Calls Tryz.prog 5 #[v] W fun e w' => e = .returned (.int .i64 n) ∧ Below W.heap.size W w'
 ck : ∀ W, Below w.heap.size w W → Calls Tryz.prog 10 #[v] W fun e w' => e = .returned (.int .i64 n) ∧ Below W.heap.size W w'
 tx : n = 0 → ∀ W, Below w.heap.size w W → Calls Tryz.prog 6 #[v] W fun e w' => e = .returned (.string T) ∧ Below W.heap.size W w'
 no : n ≠ 0 → T = ⟨#[]⟩
theorem eq_self (s : ByteArray) : (s.toList == s.toList) = true := by simp
set_option maxHeartbeats 1000000 in
theorem shows_core {v : Value} {T : ByteArray} {n : Int} (s : ByteArray) {w : World} (hg : Gw w) (ht : Tells v T n w) : Calls Tryz.prog 3 #[v, .string s] w fun e w' => e = .returned (.bool true) ∧ Below w.heap.size w w' := by
 have hgB : ∀ W, Below w.heap.size w W → Gw W := fun W h => hg.below h hg.size'
 have HGB := Lib.hid hgB
 have hB : Below w.heap.size w w := Below.refl _ _
 have hes := eq_self T
 have HT := Lib.hid ht
 clear hgB ht
 by_cases hn : n = 0
 ·subst hn
  cases hS : readS s with
  | none =>
   have HS := Lib.hid hS
   clear hS
   go_enter Tryz.func3, Tryz.ntmps3
   go_wp2_with (first
    | (go_at_call 4; refine (HT.out.sh _ hB).mono ?_; rintro e w1 ⟨rfl, hb⟩; replace hB := hB.trans (hb.mono hB.size))
    | (go_at_call 5; refine (HT.out.rc _ hB).mono ?_; rintro e w2 ⟨rfl, hb⟩; replace hB := hB.trans (hb.mono hB.size))
    | (go_at_call 6; refine (HT.out.tx rfl _ hB).mono ?_; rintro e w3 ⟨rfl, hb⟩; replace hB := hB.trans (hb.mono hB.size))
    | (go_at_call 7; refine (read_none HS.out (HGB.out _ hB)).mono ?_; rintro e w4 ⟨rfl, hb⟩; replace hB := hB.trans (hb.mono hB.size))
    | (go_at_call 8; refine (from_none HS.out (HGB.out _ hB)).mono ?_; rintro e w5 ⟨rfl, hb⟩; replace hB := hB.trans (hb.mono hB.size))
    | (go_at_call 9; refine (begun_calls (HGB.out _ hB)).mono ?_; rintro e w6 ⟨rfl, hb⟩; replace hB := hB.trans (hb.mono hB.size))
    | (go_at_call 10; refine (HT.out.ck _ hB).mono ?_; rintro e w7 ⟨rfl, hb⟩; replace hB := hB.trans (hb.mono hB.size))
    | (go_at_call 11; refine (same_nil (HGB.out _ hB)).mono ?_; rintro e w8 ⟨rfl, hb⟩; replace hB := hB.trans (hb.mono hB.size))
    | go_in)
   go_ret
   exact ⟨rfl, hB⟩
  | some X =>
   have HS := Lib.hid hS
   have h64 := Lib.hid (flds_of (readS_err hS).1).1
   clear hS
   go_enter Tryz.func3, Tryz.ntmps3
   go_wp2_with (first
    | (go_at_call 4; refine (HT.out.sh _ hB).mono ?_; rintro e w1 ⟨rfl, hb⟩; replace hB := hB.trans (hb.mono hB.size))
    | (go_at_call 5; refine (HT.out.rc _ hB).mono ?_; rintro e w2 ⟨rfl, hb⟩; replace hB := hB.trans (hb.mono hB.size))
    | (go_at_call 6; refine (HT.out.tx rfl _ hB).mono ?_; rintro e w3 ⟨rfl, hb⟩; replace hB := hB.trans (hb.mono hB.size))
    | (go_at_call 7; refine (read_some HS.out (HGB.out _ hB)).mono ?_; rintro e w4 ⟨gm, cm, rfl, hm, hb⟩; replace hB := hB.trans (hb.mono hB.size))
    | (go_at_call 8; refine (from_some HS.out (HGB.out _ hB)).mono ?_; rintro e w5 ⟨gx, ox, cx, rfl, hx, hb⟩; replace hm := pat_below hm hb; replace hB := hB.trans (hb.mono hB.size))
    | (go_at_call 9; refine (begun_calls (HGB.out _ hB)).mono ?_; rintro e w6 ⟨rfl, hb⟩; replace hm := pat_below hm hb; replace hx := pat_below hx hb; replace hB := hB.trans (hb.mono hB.size))
    | (go_at_call 10; refine (HT.out.ck _ hB).mono ?_; rintro e w7 ⟨rfl, hb⟩; replace hm := pat_below hm hb; replace hx := pat_below hx hb; replace hB := hB.trans (hb.mono hB.size))
    | (go_at_call 11; refine (sameCode_calls h64.out cm cx hm hx (HGB.out _ hB)).mono ?_; rintro e w8 ⟨rfl, hb⟩; replace hB := hB.trans (hb.mono hB.size))
    | go_in)
   go_ret
   exact ⟨rfl, hB⟩
 ·obtain rfl := HT.out.no hn
  have hne : (n == 0) = false := beq_eq_false_iff_ne.2 hn
  clear hn
  cases hS : readS s with
  | none =>
   have HS := Lib.hid hS
   clear hS
   go_enter Tryz.func3, Tryz.ntmps3
   go_wp2_with (first
    | (go_at_call 4; refine (HT.out.sh _ hB).mono ?_; rintro e w1 ⟨rfl, hb⟩; replace hB := hB.trans (hb.mono hB.size))
    | (go_at_call 5; refine (HT.out.rc _ hB).mono ?_; rintro e w2 ⟨rfl, hb⟩; replace hB := hB.trans (hb.mono hB.size))
    | (go_at_call 7; refine (read_none HS.out (HGB.out _ hB)).mono ?_; rintro e w4 ⟨rfl, hb⟩; replace hB := hB.trans (hb.mono hB.size))
    | (go_at_call 8; refine (from_none HS.out (HGB.out _ hB)).mono ?_; rintro e w5 ⟨rfl, hb⟩; replace hB := hB.trans (hb.mono hB.size))
    | (go_at_call 9; refine (begun_calls (HGB.out _ hB)).mono ?_; rintro e w6 ⟨rfl, hb⟩; replace hB := hB.trans (hb.mono hB.size))
    | (go_at_call 10; refine (HT.out.ck _ hB).mono ?_; rintro e w7 ⟨rfl, hb⟩; replace hB := hB.trans (hb.mono hB.size))
    | (go_at_call 11; refine (same_nil (HGB.out _ hB)).mono ?_; rintro e w8 ⟨rfl, hb⟩; replace hB := hB.trans (hb.mono hB.size))
    | go_in)
   go_ret
   exact ⟨rfl, hB⟩
  | some X =>
   have HS := Lib.hid hS
   have h64 := Lib.hid (flds_of (readS_err hS).1).1
   clear hS
   go_enter Tryz.func3, Tryz.ntmps3
   go_wp2_with (first
    | (go_at_call 4; refine (HT.out.sh _ hB).mono ?_; rintro e w1 ⟨rfl, hb⟩; replace hB := hB.trans (hb.mono hB.size))
    | (go_at_call 5; refine (HT.out.rc _ hB).mono ?_; rintro e w2 ⟨rfl, hb⟩; replace hB := hB.trans (hb.mono hB.size))
    | (go_at_call 7; refine (read_some HS.out (HGB.out _ hB)).mono ?_; rintro e w4 ⟨gm, cm, rfl, hm, hb⟩; replace hB := hB.trans (hb.mono hB.size))
    | (go_at_call 8; refine (from_some HS.out (HGB.out _ hB)).mono ?_; rintro e w5 ⟨gx, ox, cx, rfl, hx, hb⟩; replace hm := pat_below hm hb; replace hB := hB.trans (hb.mono hB.size))
    | (go_at_call 9; refine (begun_calls (HGB.out _ hB)).mono ?_; rintro e w6 ⟨rfl, hb⟩; replace hm := pat_below hm hb; replace hx := pat_below hx hb; replace hB := hB.trans (hb.mono hB.size))
    | (go_at_call 10; refine (HT.out.ck _ hB).mono ?_; rintro e w7 ⟨rfl, hb⟩; replace hm := pat_below hm hb; replace hx := pat_below hx hb; replace hB := hB.trans (hb.mono hB.size))
    | (go_at_call 11; refine (sameCode_calls h64.out cm cx hm hx (HGB.out _ hB)).mono ?_; rintro e w8 ⟨rfl, hb⟩; replace hB := hB.trans (hb.mono hB.size))
    | go_in)
   go_ret
   exact ⟨rfl, hB⟩
theorem codeShows_nil (s : ByteArray) {w : World} (hg : Gw w) : Calls Tryz.prog 3 #[.slice none 0 0, .string s] w fun e w' => e = .returned (.bool true) ∧ Below w.heap.size w w' := by
 have hgB : ∀ W, Below w.heap.size w W → Gw W := fun W h => hg.below h hg.size'
 exact shows_core (T := ⟨#[]⟩) (n := 2) s hg ⟨fun W h => show_nil (hgB W h), fun W h => calls_of_ok (fun _ => (0, 0, 0)) rfl (fun _ => rfl) checkCode_nil W (hgB W h), fun W h => check_nil_calls (hgB W h), fun h => absurd h (by decide), fun _ => rfl⟩
theorem codeShows_prog {L : List Ins} (s : ByteArray) {w : World} {b o c : Nat} (hP : PAt w b o L) (hg : Gw w) : Calls Tryz.prog 3 #[.slice (some ⟨b, o, none⟩) L.length c, .string s] w fun e w' => e = .returned (.bool true) ∧ Below w.heap.size w w' := by
 have hgB : ∀ W, Below w.heap.size w W → Gw W := fun W h => hg.below h hg.size'
 by_cases he : codeErr L = 0
 ·exact shows_core (T := ⟨(shown L).toArray⟩) (n := 0) s hg ⟨fun W h => back_text (pat_below hP h) (hgB W h) he, fun W h => by rw [← he]; exact calls_readV (c := c) (pat_below hP h) rfl (fun _ => rfl) (checkCode_ok L c) (hgB W h), fun W h => by rw [← he]; exact check_calls (pat_below hP h) (hgB W h), fun _ W h => calls_readV (c := c) (pat_below hP h) rfl (fun _ => rfl) (codeText_ok c he) (hgB W h), fun h => absurd rfl h⟩
 ·exact shows_core (T := ⟨#[]⟩) (n := codeErr L) s hg ⟨fun W h => show_wrong (pat_below hP h) (hgB W h) he, fun W h => calls_readV (c := c) (pat_below hP h) rfl (fun _ => rfl) (checkCode_ok L c) (hgB W h), fun W h => check_calls (pat_below hP h) (hgB W h), fun h => absurd h he, fun _ => rfl⟩
end Go.Proofs.YtkigmocchaikgaaGreatDoor
