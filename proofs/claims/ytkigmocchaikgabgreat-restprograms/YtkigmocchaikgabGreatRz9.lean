import Derived.Test.YtkigmocchaikgabGreatRz4
import Derived.Test.YtkigmocchaikgabGreatRz8
import Derived.Test.YtkigmocchaikgabGreatRz2
import Derived.Test.YtkigmocchaikgabGreatProg
import Derived.Test.YtkigmocchaikgabGreatRz3
import Derived.OrdersIn
import Derived.RangeFuncWrites
import Derived.RangeFuncLeaves
import Derived.TacticsIn
import Derived.RangeFuncBox
import Derived.Shelf.Abstract
import Derived.WalkKit
import Derived.OwnWalkIn
import Derived.TacticsInMore
import Derived.LoopNIn
import Derived.LoopIn
/- The reference's FoldOf. -/
namespace Go.Proofs.YtkigmocchaikgabGreat
open Go.RowKit
/- keys that are known, block by block -/
def lowH (n : Nat) : List (Nat × Ent) → Prop
 | [] => True
 | x :: l => x.1 < n ∧ (∀ c, c ∈ x.2.cells → ∀ j, j ∈ AC.ks c → j < n) ∧ lowH n l
theorem ltB {a b : Nat} (h : Nat.blt a b = true) : a < b := by simpa using h
theorem lowNk {cs : List AC} {n : Nat} (h : cs.flatMap AC.ks = []) : ∀ c, c ∈ cs → ∀ j, j ∈ AC.ks c → j < n := fun _ hc _ hj => (nk_of h hc hj).elim
theorem lowKs {cs : List AC} {n : Nat} (h : (cs.flatMap AC.ks).all (fun k => Nat.blt k n) = true) : ∀ c, c ∈ cs → ∀ j, j ∈ AC.ks c → j < n := fun c hc j hj => by
 simpa using List.all_eq_true.1 h j (List.mem_flatMap.2 ⟨c, hc, hj⟩)
theorem lowH_look {n : Nat} : ∀ {H : List (Nat × Ent)} {k : Nat} {e : Ent}, lowH n H → look H k = some e → k < n ∧ ∀ c, c ∈ e.cells → ∀ j, j ∈ AC.ks c → j < n
 | [], _, _, _, h => by cases h
 | (j, x) :: l, k, e, hn, h => by
  rw [look_cons] at h
  split at h
  ·rename_i hk; injection h with h; subst h hk; exact ⟨hn.1, hn.2.1⟩
  ·exact lowH_look hn.2.2 h
theorem low_g {T : List (Nat × AV)} {H : List (Nat × Ent)} {n : Nat} (hT : (T.flatMap fun x => x.2.ks).all (fun k => Nat.blt k n) = true) (hH : lowH n H) : Kn.Low ⟨T, H, n⟩ := ⟨low_th hT, fun _ _ h => lowH_look hH h⟩
/- no trap: the states are the report's -/
theorem ver_same {L : List Ins} : ∀ (n k : Nat) (S : List St), (verL L n k S).trap = 0 → verF L n k S = (verL L n k S).sts
 | 0, _, _, _ => rfl
 | n + 1, k, S, h => by
  unfold verL verF at *
  by_cases h0 : (stepS (elt L k) (stAt S k)).2.2 = 0
  ·rw [if_pos h0] at h; rw [if_pos h0, if_pos h0]
   exact ver_same n (k + 1) _ h
  ·rw [if_neg h0] at h; exact absurd h h0
theorem verifyOf_K {L : List Ins} {c : Nat} (hP : RightP L) (K : Nat) (hK : K ≠ 0) : CallOK Tryz.prog ⟨14, [.c (.sl 0 0 L.length c)], pH L, voE K L (verifyS L) (verF L L.length 0 (firstS L.length))⟩ := by
 have h2 := (verifyOf_ok (c := c) hP).ren (swp 4 K) (swp_inj 4 K)
 have e0 : swp 4 K 0 = 0 := swp_other (by decide) (Ne.symm hK)
 unfold CallRec.ren at h2
 simp only [voE_ren, swp_fst, pH_ren e0] at h2
 refine h2.congr ?_
 show CallRec.mk _ [AV.c (AC.sl 0 0 L.length c)] _ _ = CallRec.mk _ [AV.c (AC.sl (swp 4 K 0) 0 L.length c)] _ _
 rw [e0]
theorem verifyOf_no {L : List Ins} {c : Nat} (hP : RightP L) (h0 : (verifyS L).trap = 0) (K : Nat) (hK : K ≠ 0) : CallOK Tryz.prog ⟨14, [.c (.sl 0 0 L.length c)], pH L, ⟨.ag [.i 0, .i 0, .sl K 0 L.length L.length], [], some (K, ⟨true, scell (verifyS L).sts, 0⟩)⟩⟩ := by
 have h := verifyOf_K (c := c) hP K hK
 have ho := (verify_out hP).none h0
 have e := ver_same (L := L) L.length 0 (firstS L.length) h0
 change verF L L.length 0 (firstS L.length) = (verifyS L).sts at e
 unfold voE at h
 rw [h0, ho.1, ho.2, e] at h
 exact h
theorem nothing_ok : Ok 57 [] (.ag onI.cs) := rno_w0
theorem copyE {L : List Ins} : Eff.mk (AV.c (AC.sx 4 (0 + List.length L))) [] (some (1 + 1 + 2, Ent.mk true (List.take 0 (List.drop 0 (rows 0 [AC.i 0, AC.i 0, AC.i 0, AC.u 0#64, AC.i 0])) ++ List.take (List.length L * 5) (List.drop 0 (pcell L))) 5)) = Eff.mk (AV.c (AC.sx 4 (List.length L))) [] (some (4, Ent.mk true (pcell L) 5)) := by
 have : List.take (List.length L * 5) (List.drop 0 (pcell L)) = pcell L := by rw [List.drop_zero, List.take_of_length_le (by rw [pcell_length]; omega)]
 rw [this, Nat.zero_add]
 rfl
theorem copyB {L : List Ins} (hP : RightP L) : (Nat.ble (0 + List.length L * 5) (List.length (pcell L)) && (decide (0 + List.length L ≤ 137438953472) && decide (0 < 0 + List.length L))) = true := by
 have h1 := hP.pos
 have h2 := hP.le
 rw [pcell_length]
 simp; omega
theorem set_elt_self {M : List Ins} {j : Nat} (h : j < M.length) : M.set j (elt M j) = M := by
 unfold elt
 rw [List.getD_eq_getElem?_getD, List.getElem?_eq_getElem h]
 exact List.set_getElem_self h
theorem st_live_ok {S : List St} {k : Nat} (h : k < S.length) : (AC.isB (Option.getD (scell S)[0 + Int.toNat (k : Int) * 31 + 0]? (AC.b false)) && Nat.blt (0 + Int.toNat (k : Int) * 31 + 0) (List.length (scell S))) = true ∧ Eff.mk (AV.c (AC.b (AC.asB (Option.getD (scell S)[0 + Int.toNat (k : Int) * 31 + 0]? (AC.b false))))) [] none = Eff.mk (AV.c (AC.b (St.live (stAt S k)))) [] none := by
 have h3 : (scell S)[0 + Int.toNat (k : Int) * 31 + 0]? = some (AC.b (St.live (stAt S k))) := by
  have h4 := sat_eff (S := S) (k := k) h
  injection h4 with h4
  injection h4 with h4
  injection h4 with h4
  have h5 := congrArg (fun l => l[0]?) h4
  simp only [List.getElem?_take, List.getElem?_drop] at h5
  rw [if_pos (by decide)] at h5
  rw [Int.toNat_natCast]
  exact h5
 rw [h3]
 refine ⟨?_, rfl⟩
 rw [Bool.and_eq_true]
 exact ⟨rfl, by rw [scell_len, Nat.blt_eq, Int.toNat_natCast]; omega⟩
abbrev foKn (L : List Ins) (c : Nat) (S : List St) (M : List Ins) (j r : Nat) : Kn := ⟨[(0, .c (.sl 0 0 L.length c)), (3, .c (.sx 4 L.length)), (4, .c (.w 8)), (5, .c (.i (j : Int)))], [(0, ⟨false, pcell L, 0⟩), (4, ⟨true, pcell M, r⟩), (7, ⟨true, scell S, 0⟩), (8, ⟨true, [.i 0, .i 0, .sl 7 0 L.length L.length], 0⟩)], 10⟩
theorem fo_low (L : List Ins) (c : Nat) (S : List St) (M : List Ins) (j r : Nat) : Kn.Low (foKn L c S M j r) := low_g rfl ⟨ltB rfl, lowNk (pcell_ks L), ltB rfl, lowNk (pcell_ks M), ltB rfl, lowNk (scell_ks S), ltB rfl, lowKs rfl, trivial⟩
theorem new_keys {K : Nat} {n : Nat} (L : List Ins) (r : Nat) (hK : 1 ≤ K) : EKeys 1 [] (some K) ⟨.c (.sx K n), [], some (K, ⟨true, pcell L, r⟩)⟩ := by
 refine ⟨fun k hk => Or.inr ?_, fun _ _ hm => (nomatch hm), fun k en' h' => ?_, fun _ h => (nomatch h), fun k h => ⟨?_, rfl⟩⟩
 ·have : k ∈ [K] := hk
  rw [List.mem_singleton.1 this]
 ·injection h' with h'; injection h' with _ h'; subst h'; exact pcell_ks L
 ·injection h with h; subst h; exact hK
theorem foLoop {L : List Ins} {c : Nat} {S : List St} (hP : RightP L) (hS : S.length = L.length) (hok : ∀ j, (stAt S j).Ok) {w : World} {β : Bs} : ∀ (m j r : Nat), j + m + 1 = L.length →
  ART Tryz.prog 19 (cx w β 1 []) Tryz.f19.ntmps (cutAt Tryz.f19 0) (foKn L c S ((foldL S L 0).take j ++ L.drop j) j r) (REff w β (newE 4 L.length (foldL S L 0)))
 | 0, j, r, hj => by
  have hle := hP.le
  obtain ⟨hl, hat⟩ := foldL_at S L 0
  have e : (foldL S L 0).take j ++ L.drop j = foldL S L 0 := by
   have hj' : j < L.length := by omega
   have h1 := hat j
   rw [if_neg (by omega)] at h1
   conv => rhs; rw [← List.take_append_drop j (foldL S L 0)]
   congr 1
   rw [List.drop_eq_getElem_cons hj', List.drop_eq_getElem_cons (by omega : j < (foldL S L 0).length), List.drop_of_length_le (by omega), List.drop_of_length_le (by omega)]
   unfold elt at h1
   rw [List.getD_eq_getElem?_getD, List.getD_eq_getElem?_getD, List.getElem?_eq_getElem hj', List.getElem?_eq_getElem (by omega : j < (foldL S L 0).length)] at h1
   simp only [Option.getD_some] at h1
   rw [h1]
  rw [e]
  exact art_mono (fqEnd_w0 (and_yes (by rw [decide_eq_false (by omega)]; rfl) rfl) (by rw [wrapS (by omega)]) (new_keys _ r (by decide))) fun _ _ h => reff_room h
 | m + 1, j, r, hj => by
  obtain ⟨hl, hat⟩ := foldL_at S L 0
  have hle := hP.le
  have hjL : j < L.length := by omega
  have h1 := hat j
  rw [if_pos (by omega), Nat.zero_add] at h1
  have hlen : ((foldL S L 0).take j ++ L.drop j).length = L.length := by rw [List.length_append, List.length_take, List.length_drop]; omega
  have ea : elt ((foldL S L 0).take j ++ L.drop j) j = elt L j := mix_at _ (by omega)
  have es : ((foldL S L 0).take j ++ L.drop j).set j (foldI (elt L j) (stAt S j)) = (foldL S L 0).take (j + 1) ++ L.drop (j + 1) := by
   rw [← h1]; exact mix_set _ (by omega) hjL
  have eself := set_elt_self (M := (foldL S L 0).take j ++ L.drop j) (j := j) (by omega)
  rw [ea] at eself
  have next := fun r' => foLoop (c := c) hP hS hok (w := w) (β := β) m (j + 1) r' (by omega)
  rw [← es] at next
  generalize (foldL S L 0).take j ++ L.drop j = M at *
  have hr := right_lt hP hjL
  have hreg := (right_regs hr).1
  have hst := stepState_ok (i := elt L j) (t := stAt S j) (hr.mono (by omega)) (hok j)
  unfold stE at hst
  have hop := ops_of hr
  have d0 : decide (((j + 1 : Nat) : Int) < (L.length : Int)) = true := decide_eq_true (by omega)
  have d1 : decide ((j : Int) < (L.length : Int)) = true := jl hjL
  have f1 : Nat.ble (0 + Int.toNat (j : Int) * 5 + 5) (pcell L).length = true := pble hjL
  have f2 : Nat.ble (0 + Int.toNat (j : Int) * 31 + 31) (scell S).length = true := sble (by omega)
  have f3 := elt_eff hjL
  have f4 : Eff.mk (AV.ag (List.take 31 (List.drop (0 + Int.toNat (j : Int) * 31) (scell S)))) [] none = Eff.mk (AV.ag (St.cs (stAt S j))) [] none := sat_eff (by omega)
  obtain ⟨f5, f6⟩ := st_live_ok (S := S) (k := j) (by omega)
  have f7 : Eff.mk (AV.c (AC.i (IntKind.wrap IntKind.i64 ((j : Int) + 1)))) [] none = Eff.mk (AV.c (AC.i ((j + 1 : Nat) : Int))) [] none := by rw [wrapS (by omega)]
  have g1 : Nat.ble (Int.toNat (j : Int) * 5 + 5) (pcell M).length = true := by rw [pcell_length, hlen, Nat.ble_eq]; omega
  have gs : ∀ i : Ins, Eff.mk (AV.raw undef) [(4, splice (pcell M) (Int.toNat (j : Int) * 5) (Ins.cs i))] none = Eff.mk (AV.raw undef) [(4, pcell (List.set M j i))] none := fun i => by rw [Int.toNat_natCast, pcell_set _ (by omega)]
  have hF : ∀ k, (cx w β 1 []).F k → k < 10 := fun _ h => Nat.lt_of_lt_of_le h (by decide)
  have cr := refReckons_ok (elt L j).op
  have cb := refBranches_ok (elt L j).op
  by_cases hlv : (stAt S j).live = true
  ·have n0 : (!!(stAt S j).live) = true := by rw [hlv]; rfl
   by_cases hrk : (elt L j).op ≤ 9
   ·have b1 : (decide (1 ≤ (elt L j).op) && decide ((elt L j).op ≤ 9)) = true := by
     rw [Bool.and_eq_true]
     exact ⟨decide_eq_true (by omega), decide_eq_true hrk⟩
    have b2 : ((elt L j).op == 13 || (elt L j).op == 14) = false := by
     rw [Bool.or_eq_false_iff]
     exact ⟨beq_eq_false_iff_ne.2 (by omega), beq_eq_false_iff_ne.2 (by omega)⟩
    rw [b1] at cr
    rw [b2] at cb
    have ca := refAlone_ok ((stepS (elt L j) (stAt S j)).1.r.get (elt L j).d.toNat)
    by_cases hal : ((stepS (elt L j) (stAt S j)).1.r.get (elt L j).d.toNat).alone = true
    ·have ef : foldI (elt L j) (stAt S j) = ⟨1, (elt L j).d, -1, ((stepS (elt L j) (stAt S j)).1.r.get (elt L j).d.toNat).l, 0⟩ := by
      unfold foldI; rw [if_pos hlv, if_pos (by rw [hal, decide_eq_true hrk]; rfl)]
     rw [ef] at next
     rw [hal] at ca
     refine fqA_w0 (i := elt L j) (and_yes d0 (and_yes d1 (and_yes f1 (and_yes d1 (and_yes f2 (and_yes d1 (and_yes f5 (and_yes n0 (and_yes hreg (and_yes (sr_ok _ hreg) (and_yes hreg (and_yes (st_low_ok _ hreg) (and_yes d1 ?_))))))))))))) f7 f3 f4 hst f6 cr (sr_eff _ hreg) ca (st_low_eff _ hreg) (gs ⟨1, (elt L j).d, -1, ((stepS (elt L j) (stAt S j)).1.r.get (elt L j).d.toNat).l, 0⟩) f7 (fo_low _ _ _ _ _ _) hF (next 0)
     exact and_yes (and_yes g1 rfl) rfl
    ·have hal' : ((stepS (elt L j) (stAt S j)).1.r.get (elt L j).d.toNat).alone = false := by simpa using hal
     have ef : foldI (elt L j) (stAt S j) = elt L j := by
      have hb : branchB (elt L j) = false := b2
      unfold foldI; rw [if_pos hlv, if_neg (by rw [hal']; simp), if_neg (by rw [hb]; simp), if_neg (by rw [hb]; simp)]
     rw [ef, eself] at next
     rw [hal'] at ca
     exact fqR_w0 (i := elt L j) (and_yes d0 (and_yes d1 (and_yes f1 (and_yes d1 (and_yes f2 (and_yes d1 (and_yes f5 (and_yes n0 (and_yes hreg (and_yes (sr_ok _ hreg) rfl)))))))))) f7 f3 f4 hst f6 cr (sr_eff _ hreg) ca cb cb f7 (fo_low _ _ _ _ _ _) hF (next r)
   ·have b1 : (decide (1 ≤ (elt L j).op) && decide ((elt L j).op ≤ 9)) = false := by
     rw [decide_eq_false hrk, Bool.and_false]
    rw [b1] at cr
    have f0 : ∀ x, foldI (elt L j) (stAt S j) = x ↔ (if branchB (elt L j) && !(stepS (elt L j) (stAt S j)).2.1.live then onI else if branchB (elt L j) && !(stepS (elt L j) (stAt S j)).1.live then ⟨12, 0, 0, 0#64, (elt L j).of⟩ else elt L j) = x := fun x => by
     unfold foldI; rw [if_pos hlv, if_neg (by rw [decide_eq_false hrk]; simp)]
    by_cases hb : branchB (elt L j) = true
    ·have hb' : ((elt L j).op == 13 || (elt L j).op == 14) = true := hb
     rw [hb'] at cb
     by_cases hj2 : (stepS (elt L j) (stAt S j)).2.1.live = true
     ·have n2 : (!!(stepS (elt L j) (stAt S j)).2.1.live) = true := by rw [hj2]; rfl
      by_cases hj1 : (stepS (elt L j) (stAt S j)).1.live = true
      ·have n1 : (!!(stepS (elt L j) (stAt S j)).1.live) = true := by rw [hj1]; rfl
       have ef := (f0 (elt L j)).2 (by rw [hb, hj2, hj1]; rfl)
       rw [ef, eself] at next
       exact fqE_w0 (i := elt L j) (and_yes d0 (and_yes d1 (and_yes f1 (and_yes d1 (and_yes f2 (and_yes d1 (and_yes f5 (and_yes n0 (and_yes n2 (and_yes n1 rfl)))))))))) f7 f3 f4 hst f6 cr cb cb f7 (fo_low _ _ _ _ _ _) hF (next r)
      ·have n1 : (!(stepS (elt L j) (stAt S j)).1.live) = true := by simpa using hj1
       have ef := (f0 ⟨12, 0, 0, 0#64, (elt L j).of⟩).2 (by rw [hb, hj2, n1]; rfl)
       rw [ef] at next
       exact fqC_w0 (i := elt L j) (and_yes d0 (and_yes d1 (and_yes f1 (and_yes d1 (and_yes f2 (and_yes d1 (and_yes f5 (and_yes n0 (and_yes n2 (and_yes n1 (and_yes d1 (and_yes (and_yes g1 rfl) rfl)))))))))))) f7 f3 f4 hst f6 cr cb cb (gs ⟨12, 0, 0, 0#64, (elt L j).of⟩) f7 (fo_low _ _ _ _ _ _) hF (next 0)
     ·have n2 : (!(stepS (elt L j) (stAt S j)).2.1.live) = true := by simpa using hj2
      have ef := (f0 onI).2 (by rw [hb, n2]; rfl)
      rw [ef] at next
      exact fqB_w0 (i := elt L j) (and_yes d0 (and_yes d1 (and_yes f1 (and_yes d1 (and_yes f2 (and_yes d1 (and_yes f5 (and_yes n0 (and_yes n2 (and_yes d1 (and_yes (and_yes g1 rfl) rfl))))))))))) f7 f3 f4 hst f6 cr cb nothing_ok (gs _) f7 (fo_low _ _ _ _ _ _) hF (next 0)
    ·have hb0 : branchB (elt L j) = false := by simpa using hb
     have hb' : ((elt L j).op == 13 || (elt L j).op == 14) = false := hb0
     rw [hb'] at cb
     have ef := (f0 (elt L j)).2 (by rw [hb0]; rfl)
     rw [ef, eself] at next
     exact fqN_w0 (i := elt L j) (and_yes d0 (and_yes d1 (and_yes f1 (and_yes d1 (and_yes f2 (and_yes d1 (and_yes f5 (and_yes n0 rfl)))))))) f7 f3 f4 hst f6 cr cb cb f7 (fo_low _ _ _ _ _ _) hF (next r)
  ·have n0 : (!(stAt S j).live) = true := by simpa using hlv
   have ef : foldI (elt L j) (stAt S j) = onI := by unfold foldI; rw [if_neg hlv]
   rw [ef] at next
   exact fqD_w0 (i := elt L j) (and_yes d0 (and_yes d1 (and_yes f1 (and_yes d1 (and_yes f2 (and_yes d1 (and_yes f5 (and_yes n0 (and_yes d1 (and_yes (and_yes g1 rfl) rfl)))))))))) f7 f3 f4 hst f6 nothing_ok (gs _) f7 (fo_low _ _ _ _ _ _) hF (next 0)
theorem foldOf_ok {L : List Ins} {c : Nat} (hP : RightP L) {K : Nat} (hK : K ≠ 0) : CallOK Tryz.prog ⟨19, [.c (.sl 0 0 L.length c)], pH L, newE K L.length (foldS L)⟩ := by
 have hpos := hP.pos
 have hout := verify_out hP
 refine newE_to (a := 4) ?_ (by decide) hK
 by_cases h0 : (verifyS L).trap = 0
 ·have e : foldS L = foldL (verifyS L).sts L 0 := by unfold foldS; rw [if_pos h0]
  rw [e]
  exact rnew_of Tryz.func19 rfl rfl rfl (pcell_ks L) (by decide) rfl (pcell_ks _) fun w β _ => fqTop_w0 (and_yes (copyB hP) rfl) copyE (verifyOf_no hP h0 7 (by decide)) (fo_low _ _ _ _ 0 _) (fun _ h => Nat.lt_of_lt_of_le h (by decide)) (foLoop hP (hout.none h0).2 hout.ok (L.length - 1) 0 5 (by omega))
 ·have e : foldS L = L := by unfold foldS; rw [if_neg h0]
  rw [e]
  exact call_room (r := 5) (rnew_of Tryz.func19 rfl rfl rfl (pcell_ks L) (by decide) rfl (pcell_ks _) fun w β hk => fqTr_w0 (and_yes (copyB hP) (and_yes (by simpa using h0) rfl)) copyE (verifyOf_K hP 7 (by decide)) hk)
theorem mixR_set {α : Type} {A B : List α} {x : Nat} (d : α) (hA : x < A.length) (hB : x < B.length) : (A.take (x + 1) ++ B.drop (x + 1)).set x (B.getD x d) = A.take x ++ B.drop x := by
 have h1 : (A.take x).length = x := by rw [List.length_take]; omega
 rw [List.take_succ_eq_append_getElem hA, List.append_assoc, List.set_append_right _ _ (by omega), h1, Nat.sub_self, List.drop_eq_getElem_cons hB, List.getD_eq_getElem?_getD, List.getElem?_eq_getElem hB]
 rfl
theorem mixR_low {α : Type} {A B : List α} {m j : Nat} (d : α) (hA : m ≤ A.length) (h : j < m) : (A.take m ++ B.drop m).getD j d = A.getD j d := by
 have h1 : (A.take m).length = m := by rw [List.length_take]; omega
 rw [List.getD_eq_getElem?_getD, List.getD_eq_getElem?_getD, List.getElem?_append_left (by omega), List.getElem?_take_of_lt h]
theorem mixR_high {α : Type} {A B : List α} {m j : Nat} (d : α) (hA : m ≤ A.length) (h : m ≤ j) : (A.take m ++ B.drop m).getD j d = B.getD j d := by
 have h1 : (A.take m).length = m := by rw [List.length_take]; omega
 rw [List.getD_eq_getElem?_getD, List.getD_eq_getElem?_getD, List.getElem?_append_right (by omega), h1, List.getElem?_drop, show m + (j - m) = j by omega]
theorem ridR_len : ∀ L : List Ins, (ridR L).2.length = L.length
 | [] => rfl
 | _ :: L => by
  show (ridR L).2.length + 1 = L.length + 1
  rw [ridR_len L]
theorem liveK_congr {i : Ins} {A B : List (V6 Bool)} {k : Nat} (h : ∀ j, k + 1 ≤ j → lvAt A j = lvAt B j) : liveK i A k = liveK i B k := by
 unfold liveK
 rw [h (k + 1) (Nat.le_refl _), h (k + 1 + i.of.toNat) (by omega)]
def stepD (s : List Ins × List (V6 Bool)) (x : Nat) : List Ins × List (V6 Bool) :=
 (s.1.set x (deadI (elt s.1 x) (liveK (elt s.1 x) s.2 x)), s.2.set x (liveA (deadI (elt s.1 x) (liveK (elt s.1 x) s.2 x)) (liveK (elt s.1 x) s.2 x)))
structure DOk (n : Nat) (s : List Ins × List (V6 Bool)) : Prop where
 l1 : s.1.length = n
 l2 : s.2.length = n
 right : ∀ k, k < n → Right (elt s.1 k) ((n - 1 - k : Nat) : Int)
 last : ∀ k, k < n → (elt s.1 k).op = 15 ∨ k + 1 < n
theorem DOk.start {L : List Ins} (hP : RightP L) : DOk L.length (L, List.replicate L.length no6) := by
 refine ⟨rfl, List.length_replicate, fun k hk => hP.step k hk, fun k hk => ?_⟩
 by_cases h : k + 1 < L.length
 ·exact Or.inr h
 ·have : k = L.length - 1 := by omega
  subst this
  exact Or.inl hP.last
theorem elt_set {L : List Ins} {x k : Nat} {i : Ins} (hx : x < L.length) : elt (L.set x i) k = if k = x then i else elt L k := by
 unfold elt
 rw [List.getD_eq_getElem?_getD, List.getD_eq_getElem?_getD, List.getElem?_set]
 by_cases h : x = k
 ·subst h; rw [if_pos rfl, if_pos hx, if_pos rfl]; rfl
 ·rw [if_neg h, if_neg (Ne.symm h)]
theorem DOk.step {n : Nat} {s : List Ins × List (V6 Bool)} (h : DOk n s) {x : Nat} (hx : x < n) : DOk n (stepD s x) := by
 have hr := h.right x hx
 have hl := h.last x hx
 refine ⟨?_, ?_, fun k hk => ?_, fun k hk => ?_⟩
 ·show (s.1.set _ _).length = n; rw [List.length_set]; exact h.l1
 ·show (s.2.set _ _).length = n; rw [List.length_set]; exact h.l2
 ·show Right (elt (s.1.set _ _) k) _
  rw [elt_set (by rw [h.l1]; exact hx)]
  by_cases e : k = x
  ·subst e
   rw [if_pos rfl]
   refine deadI_right ?_ hr
   rcases hl with h1 | h1
   ·exact Or.inr h1
   ·exact Or.inl (by omega)
  ·rw [if_neg e]; exact h.right k hk
 ·show (elt (s.1.set _ _) k).op = 15 ∨ _
  rw [elt_set (by rw [h.l1]; exact hx)]
  by_cases e : k = x
  ·subst e
   rw [if_pos rfl]
   rcases hl with h1 | h1
   ·refine Or.inl ?_
    unfold deadI
    rw [if_neg (by simp [h1])]
    exact h1
   ·exact Or.inr h1
  ·rw [if_neg e]; exact h.last k hk
def runD (L : List Ins) (pre : List Nat) : List Ins × List (V6 Bool) := pre.foldl stepD (L, List.replicate L.length no6)
theorem runD_snoc (L : List Ins) (pre : List Nat) (x : Nat) : runD L (pre ++ [x]) = stepD (runD L pre) x := by unfold runD; rw [List.foldl_append]; rfl
theorem runD_ok {L : List Ins} (hP : RightP L) : ∀ pre : List Nat, (∀ x, x ∈ pre → x < L.length) → DOk L.length (runD L pre) := by
 have : ∀ (pre : List Nat) (s : List Ins × List (V6 Bool)), DOk L.length s → (∀ x, x ∈ pre → x < L.length) → DOk L.length (pre.foldl stepD s) := by
  intro pre
  induction pre with
  | nil => intro s h _; exact h
  | cons x pre ih => intro s h hx; exact ih _ (h.step (hx x (by simp))) fun y hy => hx y (by simp [hy])
 exact fun pre h => this pre _ (DOk.start hP) h
theorem runD_down {L : List Ins} : ∀ k, k ≤ L.length → runD L ((List.range k).map fun j => L.length - 1 - j) = (L.take (L.length - k) ++ (ridR L).1.drop (L.length - k), (List.replicate L.length no6).take (L.length - k) ++ (ridR L).2.drop (L.length - k))
 | 0, _ => by
  obtain ⟨h1, _⟩ := ridR_at L
  show (L, List.replicate L.length no6) = _
  rw [Nat.sub_zero, List.drop_of_length_le (by omega), List.drop_of_length_le (by rw [ridR_len]; omega), List.append_nil, List.append_nil, List.take_of_length_le (Nat.le_refl _), List.take_of_length_le (by rw [List.length_replicate]; omega)]
 | k + 1, hk => by
  obtain ⟨h1, h2⟩ := ridR_at L
  have hl := ridR_len L
  rw [List.range_succ, List.map_append, List.map_cons, List.map_nil, runD_snoc, runD_down k (by omega)]
  have e : L.length - k = (L.length - (k + 1)) + 1 := by omega
  have e2 : L.length - 1 - k = L.length - (k + 1) := by omega
  rw [e, e2]
  have hx : L.length - (k + 1) < L.length := by omega
  generalize L.length - (k + 1) = x at *
  obtain ⟨g1, g2⟩ := h2 x hx
  have a1 : elt (L.take (x + 1) ++ (ridR L).1.drop (x + 1)) x = elt L x := mixR_low _ (by omega) (by omega)
  have a2 : ∀ i, liveK i ((List.replicate L.length no6).take (x + 1) ++ (ridR L).2.drop (x + 1)) x = liveK i (ridR L).2 x := fun i => liveK_congr fun j hj => mixR_high _ (by rw [List.length_replicate]; omega) hj
  unfold stepD
  simp only [a1, a2]
  rw [← g1, ← g2]
  exact Prod.ext (mixR_set _ (by omega) (by omega)) (mixR_set _ (by rw [List.length_replicate]; omega) (by omega))
theorem runD_all (L : List Ins) : (runD L ((List.range L.length).map fun j => L.length - 1 - j)).1 = (ridR L).1 := by
 rw [runD_down L.length (Nat.le_refl _), Nat.sub_self]
 rfl
/- which registers a step uses, in the reference's row -/
def useL (i : Ins) : List Int :=
 if i.op = 12 then [] else if i.op = 15 then [0] else if i.op = 1 ∨ i.op = 10 then (if i.s = -1 then [] else [i.s]) else if i.s = -1 then [i.d] else [i.d, i.s]
def setL (U : List Int) (u : V6 Bool) : V6 Bool := U.foldl (fun u d => u.set d.toNat true) u
theorem or_set {a b : V6 Bool} : ∀ d, d < 6 → orS (a.set d true) b = (orS a b).set d true :=
 lt6 (by simp [orS, V6.set]) (by simp [orS, V6.set]) (by simp [orS, V6.set]) (by simp [orS, V6.set]) (by simp [orS, V6.set]) (by simp [orS, V6.set])
theorem or_no (b : V6 Bool) : orS no6 b = b := rfl
structure UseOk (i : Ins) : Prop where
 nil : useL i = [] → Ok 36 [.ag i.cs] (.c nilSl)
 some : useL i ≠ [] → ∀ K, CallOK Tryz.prog ⟨36, [.ag i.cs], [], ⟨.c (.sx K (useL i).length), [], some (K, ⟨true, (useL i).map AC.i, 1⟩)⟩⟩
 reg : ∀ d, d ∈ useL i → regB d = true
 le : (useL i).length ≤ 2
 same : ∀ u, orS (useOf i) u = setL (useL i) u
theorem use_ok {i : Ins} {n : Int} (hr : Right i n) : UseOk i := by
 have hg := right_regs hr
 have hd := hg.1
 have so : i.s ≠ -1 → regB i.s = true := fun h => (srcB_iff.1 hg.2).resolve_left h
 have one : ∀ d, regB d = true → useL i = [d] → useOf i = (no6).set d.toNat true → (∀ K, CallOK Tryz.prog ⟨36, [.ag i.cs], [], ⟨.c (.sx K 1), [], some (K, ⟨true, [.i d], 1⟩)⟩⟩) → UseOk i := fun d h1 h2 h3 h4 => by
  refine ⟨fun h => (by rw [h2] at h; cases h), fun _ K => (by rw [h2]; exact h4 K), ?_, by rw [h2]; simp, fun u => ?_⟩
  ·rw [h2]; exact mem1 h1
  ·rw [h2, h3, or_set _ (reg_nat h1), or_no]; rfl
 have two : regB i.s = true → useL i = [i.d, i.s] → useOf i = ((no6).set i.d.toNat true).set i.s.toNat true → (∀ K, CallOK Tryz.prog ⟨36, [.ag i.cs], [], ⟨.c (.sx K 2), [], some (K, ⟨true, [.i i.d, .i i.s], 1⟩)⟩⟩) → UseOk i := fun h1 h2 h3 h4 => by
  refine ⟨fun h => (by rw [h2] at h; cases h), fun _ K => (by rw [h2]; exact h4 K), ?_, by rw [h2]; simp, fun u => ?_⟩
  ·rw [h2]; exact mem2 hd h1
  ·rw [h2, h3, or_set _ (reg_nat h1), or_set _ (reg_nat hd), or_no]; rfl
 have none : useL i = [] → useOf i = no6 → Ok 36 [.ag i.cs] (.c nilSl) → UseOk i := fun h2 h3 h4 => by
  refine ⟨fun _ => h4, fun h => absurd h2 h, ?_, by rw [h2]; simp, fun u => ?_⟩
  ·rw [h2]; exact fun _ h => (nomatch h)
  ·rw [h2, h3, or_no]; rfl
 have ds : ((2 ≤ i.op ∧ i.op ≤ 9) ∨ i.op = 13 ∨ i.op = 14) → UseOk i := fun c => by
  by_cases hs : i.s = -1
  ·refine one i.d hd ?_ (useE_d c hs) fun K => ?_
   ·unfold useL; rw [if_neg (by omega), if_neg (by omega), if_neg (by omega), if_pos hs]
   ·have := usesD_ok (op := i.op) (d := i.d) (of := i.of) (im := i.im) K c
    rw [← hs] at this
    exact this
  ·refine two (so hs) ?_ (useE_ds (by omega) hs) fun K => uses2_ok K (by omega) hs
   unfold useL; rw [if_neg (by omega), if_neg (by omega), if_neg (by omega), if_neg hs]
 rcases ops_of hr with c | c | c | c | c | c | c | c
 ·obtain ⟨_, hs, _, _⟩ := fits_reach hr (Or.inl c)
  have hn : i.s ≠ -1 := fun e => by rw [e] at hs; cases hs
  refine one i.s hs ?_ (useE_s (Or.inr c) hn) fun K => usesS_ok K (Or.inr c) hn
  unfold useL; rw [if_neg (by omega), if_neg (by omega), if_pos (Or.inr c), if_neg hn]
 ·obtain ⟨_, hs, _, _⟩ := fits_reach hr (Or.inr c)
  have hn : i.s ≠ -1 := fun e => by rw [e] at hs; cases hs
  refine two hs ?_ (useE_ds (by omega) hn) fun K => uses2_ok K (by omega) hn
  unfold useL; rw [if_neg (by omega), if_neg (by omega), if_neg (by omega), if_neg hn]
 ·refine none (by unfold useL; rw [if_pos c]) (by unfold useOf; rw [if_pos c]) ?_
  have := usesJ_ok (d := i.d) (s := i.s) (of := i.of) (im := i.im)
  rw [← c] at this
  exact this
 ·exact ds (by omega)
 ·exact ds (by omega)
 ·refine one 0 rfl (by unfold useL; rw [if_neg (by omega), if_pos c]) (by unfold useOf; rw [if_neg (by omega), if_pos c]; rfl) fun K => ?_
  have := usesX_ok (d := i.d) (s := i.s) (of := i.of) (im := i.im) K
  rw [← c] at this
  exact this
 ·by_cases hs : i.s = -1
  ·refine none (by unfold useL; rw [if_neg (by omega), if_neg (by omega), if_pos (Or.inl c), if_pos hs]) (by unfold useOf; rw [if_neg (by omega), if_neg (by omega), if_pos hs, if_pos (Or.inl c)]) ?_
   have := usesN_ok (d := i.d) (of := i.of) (im := i.im)
   rw [← hs, ← c] at this
   exact this
  ·refine one i.s (so hs) ?_ (useE_s (Or.inl c) hs) fun K => usesS_ok K (Or.inl c) hs
   unfold useL; rw [if_neg (by omega), if_neg (by omega), if_pos (Or.inl c), if_neg hs]
 ·exact ds (Or.inl c)
/- what is live, cell by cell -/
theorem rc_at {A : List (V6 Bool)} {k x : Nat} (hk : k < A.length) (hx : x < 6) : (AC.isB (Option.getD (rcell A)[0 + k * 6 + Int.toNat (x : Int) * 1]? (AC.b false)) && Nat.blt (0 + k * 6 + Int.toNat (x : Int) * 1) (List.length (rcell A))) = true ∧ Eff.mk (AV.c (AC.b (AC.asB (Option.getD (rcell A)[0 + k * 6 + Int.toNat (x : Int) * 1]? (AC.b false))))) [] none = Eff.mk (AV.c (AC.b ((lvAt A k).get x))) [] none := by
 have h1 : (rcell A)[0 + k * 6 + Int.toNat (x : Int) * 1]? = some (AC.b ((lvAt A k).get x)) := by
  have h4 := congrArg (fun l => l[x]?) (rcell_at (A := A) hk)
  simp only [List.getElem?_take, List.getElem?_drop] at h4
  rw [if_pos hx] at h4
  rw [Nat.zero_add, Int.toNat_natCast, Nat.mul_one, h4]
  revert x
  intro x hx _
  exact lt6 (P := fun x => (bcs (lvAt A k))[x]? = some (AC.b ((lvAt A k).get x))) rfl rfl rfl rfl rfl rfl x hx
 rw [h1]
 refine ⟨?_, rfl⟩
 rw [Bool.and_eq_true]
 exact ⟨rfl, by rw [rcell_len, Nat.blt_eq, Int.toNat_natCast]; omega⟩
theorem bg_eff (u : V6 Bool) {j : Int} (h : regB j = true) : Eff.mk (AV.c (AC.b (AC.asB (Option.getD (bcs u)[Int.toNat j * 1]? (AC.b false))))) [] none = Eff.mk (AV.c (AC.b (u.get j.toNat))) [] none :=
 reg_elim (P := fun j => Eff.mk (AV.c (AC.b (AC.asB (Option.getD (bcs u)[Int.toNat j * 1]? (AC.b false))))) [] none = Eff.mk (AV.c (AC.b (u.get j.toNat))) [] none) h rfl rfl rfl rfl rfl rfl
theorem bs_eff (K : Nat) (u : V6 Bool) {j : Int} (x : Bool) (h : regB j = true) : Eff.mk (AV.raw undef) [(K, splice (bcs u) (Int.toNat j * 1) [AC.b x])] none = Eff.mk (AV.raw undef) [(K, bcs (V6.set u (Int.toNat j) x))] none := by rw [bw_eff u x h]
theorem six_reg {x : Nat} (h : x < 6) : regB (x : Int) = true := regB_iff.2 ⟨by omega, by omega⟩
theorem get_set (u : V6 Bool) (g : Bool) : ∀ x, x < 6 → (u.set x g).get x = g := lt6 rfl rfl rfl rfl rfl rfl
theorem set_set (u : V6 Bool) (g h : Bool) : ∀ x, x < 6 → (u.set x g).set x h = u.set x h := lt6 rfl rfl rfl rfl rfl rfl
abbrev deKn1 (L M : List Ins) (A : List (V6 Bool)) (r : Nat) (q : Int) : Kn := ⟨[(3, .c (.sx 4 L.length)), (4, .c (.sl 12 0 L.length L.length)), (5, .c (.i q))], [(0, ⟨false, pcell L, 0⟩), (4, ⟨true, pcell M, r⟩), (12, ⟨true, rcell A, 0⟩)], 14⟩
abbrev deKn2 (L M : List Ins) (A : List (V6 Bool)) (r j : Nat) (i : Ins) (x : Int) (u : V6 Bool) : Kn := ⟨[(3, .c (.sx 4 L.length)), (4, .c (.sl 12 0 L.length L.length)), (5, .c (.i (j : Int))), (6, .c (.w 20)), (7, .c (.w 22)), (8, .c (.i x))], [(0, ⟨false, pcell L, 0⟩), (4, ⟨true, pcell M, r⟩), (12, ⟨true, rcell A, 0⟩), (20, ⟨true, i.cs, 0⟩), (22, ⟨true, bcs u, 0⟩)], 24⟩
abbrev deKn3 (L M : List Ins) (A : List (V6 Bool)) (r j : Nat) (u : V6 Bool) : Kn := ⟨[(3, .c (.sx 4 L.length)), (4, .c (.sl 12 0 L.length L.length)), (5, .c (.i (j : Int))), (7, .c (.w 22)), (9, .c nilSl), (10, .c (.i 0))], [(0, ⟨false, pcell L, 0⟩), (4, ⟨true, pcell M, r⟩), (12, ⟨true, rcell A, 0⟩), (22, ⟨true, bcs u, 0⟩)], 45⟩
abbrev deKn4 (K : Nat) (L M : List Ins) (A : List (V6 Bool)) (r j : Nat) (u : V6 Bool) (U : List Int) (x : Nat) : Kn := ⟨[(3, .c (.sx 4 L.length)), (4, .c (.sl 12 0 L.length L.length)), (5, .c (.i (j : Int))), (7, .c (.w 22)), (9, .c (.sx K U.length)), (10, .c (.i (x : Int)))], [(0, ⟨false, pcell L, 0⟩), (4, ⟨true, pcell M, r⟩), (12, ⟨true, rcell A, 0⟩), (22, ⟨true, bcs u, 0⟩), (K, ⟨true, U.map AC.i, 1⟩)], 45⟩
theorem de1_low (L M : List Ins) (A : List (V6 Bool)) (r : Nat) (q : Int) : Kn.Low (deKn1 L M A r q) := low_n rfl rfl ⟨pcell_ks L, pcell_ks M, rcell_ks A, trivial⟩
theorem de2_low (L M : List Ins) (A : List (V6 Bool)) (r j : Nat) (i : Ins) (x : Int) (u : V6 Bool) : Kn.Low (deKn2 L M A r j i x u) := low_n rfl rfl ⟨pcell_ks L, pcell_ks M, rcell_ks A, rfl, rfl, trivial⟩
theorem de3_low (L M : List Ins) (A : List (V6 Bool)) (r j : Nat) (u : V6 Bool) : Kn.Low (deKn3 L M A r j u) := low_n rfl rfl ⟨pcell_ks L, pcell_ks M, rcell_ks A, rfl, trivial⟩
theorem de4_low39 (L M : List Ins) (A : List (V6 Bool)) (r j : Nat) (u : V6 Bool) (U : List Int) (x : Nat) : Kn.Low (deKn4 39 L M A r j u U x) := low_n rfl rfl ⟨pcell_ks L, pcell_ks M, rcell_ks A, rfl, ucell_ks U, trivial⟩
theorem de4_low30 (L M : List Ins) (A : List (V6 Bool)) (r j : Nat) (u : V6 Bool) (U : List Int) (x : Nat) : Kn.Low (deKn4 30 L M A r j u U x) := low_n rfl rfl ⟨pcell_ks L, pcell_ks M, rcell_ks A, rfl, ucell_ks U, trivial⟩
section
variable {L M : List Ins} {A : List (V6 Bool)} {w : World} {β : Bs} {R : Ending → World → Prop}
abbrev DA (w : World) (β : Bs) (k : Nat) (σ : Kn) (R : Ending → World → Prop) : Prop := ART Tryz.prog 20 (cx w β 1 []) Tryz.f20.ntmps (cutAt Tryz.f20 k) σ R
theorem de_F {n : Nat} (h : 1 ≤ n) : ∀ k, (cx w β 1 []).F k → k < n := fun _ hk => Nat.lt_of_lt_of_le hk h
/- the sixfold loop -/
theorem deSix {r j : Nat} {i : Ins} {v : V6 Bool} (hM : L.length ≤ 64) (hA : A.length = L.length) (hj : j < L.length) (hr : Right i ((L.length - 1 - j : Nat) : Int)) (hl : i.op = 15 ∨ j + 1 < L.length) (hv : v = liveK i A j)
  (z : DA w β 1 (deKn2 L M A r j i 6 v) R) : DA w β 1 (deKn2 L M A r j i 0 no6) R := by
 have w1 : ∀ x : Nat, x < 6 → Eff.mk (AV.c (AC.i (IntKind.wrap IntKind.i64 ((x : Int) + 1)))) [] none = Eff.mk (AV.c (AC.i ((x + 1 : Nat) : Int))) [] none := fun x hx => by rw [wrapS (by omega)]
 have wj : Eff.mk (AV.c (AC.i (IntKind.wrap IntKind.i64 ((j : Int) + 1)))) [] none = Eff.mk (AV.c (AC.i ((j + 1 : Nat) : Int))) [] none := by rw [wrapS (by omega)]
 have d6 : ∀ x : Nat, x < 6 → decide ((x : Int) < 6) = true := fun x hx => decide_eq_true (by omega)
 have cb := refBranches_ok i.op
 have key : ∀ f : Nat → Bool → Bool, (∀ (x : Nat) (u : V6 Bool), x < 6 → DA w β 1 (deKn2 L M A r j i ((x + 1 : Nat) : Int) (u.set x (f x (u.get x)))) R → DA w β 1 (deKn2 L M A r j i (x : Int) u) R) → (⟨f 0 false, f 1 false, f 2 false, f 3 false, f 4 false, f 5 false⟩ : V6 Bool) = v → DA w β 1 (deKn2 L M A r j i 0 no6) R := by
  intro f hf hv'
  subst hv'
  exact hf 0 no6 (by decide) (hf 1 _ (by decide) (hf 2 _ (by decide) (hf 3 _ (by decide) (hf 4 _ (by decide) (hf 5 _ (by decide) z)))))
 by_cases h15 : i.op = 15
 ·have hb : (i.op == 13 || i.op == 14) = false := by rw [h15]; rfl
  rw [hb] at cb
  refine key (fun _ b => b) (fun x u hx z => ?_) ?_
  ·have e : u.set x (u.get x) = u := lt6 (P := fun x => u.set x (u.get x) = u) rfl rfl rfl rfl rfl rfl x hx
   rw [e] at z
   exact deLX_w0 (and_yes (d6 x hx) (and_yes (by rw [h15]; rfl) (and_yes (op_ne (by omega)) rfl))) cb (w1 x hx) (de2_low _ _ _ _ _ _ _ _) (de_F (by decide)) z
  ·rw [hv]; unfold liveK; rw [if_pos h15]; rfl
 ·have hj1 : j + 1 < L.length := hl.resolve_left h15
  have n15 : (i.op != 15) = true := by simpa using h15
  have dj : decide (((j + 1 : Nat) : Int) < (L.length : Int)) = true := decide_eq_true (by omega)
  have a1 : ∀ x : Nat, x < 6 → _ := fun x hx => rc_at (A := A) (k := j + 1) (x := x) (by omega) hx
  by_cases h12 : i.op = 12
  ·obtain ⟨o1, o2⟩ := goes_on hr (Or.inl h12)
   have ex : (((j + 1 : Nat) : Int) + i.of).toNat = j + 1 + i.of.toNat := by omega
   have hk : j + 1 + i.of.toNat < L.length := by omega
   have wo : Eff.mk (AV.c (AC.i (IntKind.wrap IntKind.i64 (((j + 1 : Nat) : Int) + i.of)))) [] none = Eff.mk (AV.c (AC.i (((j + 1 : Nat) : Int) + i.of))) [] none := by rw [wrapN (by omega) (by omega)]
   have dk : (decide (0 ≤ ((j + 1 : Nat) : Int) + i.of) && decide (((j + 1 : Nat) : Int) + i.of < (L.length : Int))) = true := and_yes (decide_eq_true (by omega)) (decide_eq_true (by omega))
   have n12 : (!i.op != 12) = true := by rw [h12]; rfl
   refine key (fun x b => b || (lvAt A (j + 1 + i.of.toNat)).get x) (fun x u hx z => ?_) ?_
   ·have hx' := six_reg hx
    have a2 := rc_at (A := A) (k := j + 1 + i.of.toNat) (x := x) (by omega) hx
    rw [← ex] at a2
    by_cases hg : u.get x = true
    ·rw [hg, Bool.true_or] at z
     exact deLJ1_w0 (g2 := u.get x) (and_yes (d6 x hx) (and_yes n15 (and_yes n12 (and_yes (op_is h12) (and_yes (d6 x hx) (and_yes (be_ok u hx') (and_yes hg (and_yes (d6 x hx) (and_yes (and_yes (bw_ok u hx') rfl) rfl))))))))) (bg_eff u hx') (bs_eff 22 u true hx') (w1 x hx) (de2_low _ _ _ _ _ _ _ _) (de_F (by decide)) z
    ·have hg' : u.get x = false := by simpa using hg
     rw [hg', Bool.false_or] at z
     exact deLJ0_w0 (g2 := u.get x) (and_yes (d6 x hx) (and_yes n15 (and_yes n12 (and_yes (op_is h12) (and_yes (d6 x hx) (and_yes (be_ok u hx') (and_yes (by rw [hg']; rfl) (and_yes dk (and_yes (d6 x hx) (and_yes a2.1 (and_yes (d6 x hx) (and_yes (and_yes (bw_ok u hx') rfl) rfl)))))))))))) (bg_eff u hx') wj wo a2.2 (bs_eff 22 u _ hx') (w1 x hx) (de2_low _ _ _ _ _ _ _ _) (de_F (by decide)) (by rw [ex]; exact z)
   ·rw [hv]; unfold liveK; rw [if_neg h15, if_pos h12]; rfl
  ·have n12 : (i.op != 12) = true := by simpa using h12
   by_cases hb : branchB i = true
   ·have hb' : (i.op == 13 || i.op == 14) = true := hb
    rw [hb'] at cb
    have hop : i.op = 13 ∨ i.op = 14 := by simpa using hb'
    obtain ⟨o1, o2⟩ := goes_on hr (Or.inr hop)
    have ex : (((j + 1 : Nat) : Int) + i.of).toNat = j + 1 + i.of.toNat := by omega
    have hk : j + 1 + i.of.toNat < L.length := by omega
    have wo : Eff.mk (AV.c (AC.i (IntKind.wrap IntKind.i64 (((j + 1 : Nat) : Int) + i.of)))) [] none = Eff.mk (AV.c (AC.i (((j + 1 : Nat) : Int) + i.of))) [] none := by rw [wrapN (by omega) (by omega)]
    have dk : (decide (0 ≤ ((j + 1 : Nat) : Int) + i.of) && decide (((j + 1 : Nat) : Int) + i.of < (L.length : Int))) = true := and_yes (decide_eq_true (by omega)) (decide_eq_true (by omega))
    refine key (fun x _ => (lvAt A (j + 1)).get x || (lvAt A (j + 1 + i.of.toNat)).get x) (fun x u hx z => ?_) ?_
    ·have hx' := six_reg hx
     have a0 := a1 x hx
     have a2 := rc_at (A := A) (k := j + 1 + i.of.toNat) (x := x) (by omega) hx
     rw [← ex] at a2
     have e2 := get_set u ((lvAt A (j + 1)).get x) x hx
     have b4 : Eff.mk (AV.c (AC.b (AC.asB (Option.getD (bcs (V6.set u x ((lvAt A (j + 1)).get x)))[Int.toNat (x : Int) * 1]? (AC.b false))))) [] none = Eff.mk (AV.c (AC.b ((lvAt A (j + 1)).get x))) [] none := (bg_eff (V6.set u x ((lvAt A (j + 1)).get x)) hx').trans (by rw [Int.toNat_natCast, e2])
     have b5 : ∀ g, Eff.mk (AV.raw undef) [(22, splice (bcs (V6.set u x ((lvAt A (j + 1)).get x))) (Int.toNat (x : Int) * 1) [AC.b g])] none = Eff.mk (AV.raw undef) [(22, bcs (u.set x g))] none := fun g => (bs_eff 22 (V6.set u x ((lvAt A (j + 1)).get x)) g hx').trans (by rw [Int.toNat_natCast, set_set _ _ _ x hx])
     by_cases hg : (lvAt A (j + 1)).get x = true
     ·rw [hg, Bool.true_or] at z
      exact deLB1_w0 (and_yes (d6 x hx) (and_yes n15 (and_yes n12 (and_yes dj (and_yes (d6 x hx) (and_yes a0.1 (and_yes (d6 x hx) (and_yes (and_yes (bw_ok u hx') rfl) (and_yes (op_ne h12) (and_yes (d6 x hx) (and_yes (be_ok _ hx') (and_yes hg (and_yes (d6 x hx) (and_yes (and_yes (bw_ok _ hx') rfl) rfl)))))))))))))) wj a0.2 (bs_eff 22 u _ hx') cb b4 (b5 true) (w1 x hx) (de2_low _ _ _ _ _ _ _ _) (de_F (by decide)) z
     ·have hg' : (lvAt A (j + 1)).get x = false := by simpa using hg
      rw [hg', Bool.false_or] at z
      exact deLB0_w0 (and_yes (d6 x hx) (and_yes n15 (and_yes n12 (and_yes dj (and_yes (d6 x hx) (and_yes a0.1 (and_yes (d6 x hx) (and_yes (and_yes (bw_ok u hx') rfl) (and_yes (op_ne h12) (and_yes (d6 x hx) (and_yes (be_ok _ hx') (and_yes (by rw [hg']; rfl) (and_yes dk (and_yes (d6 x hx) (and_yes a2.1 (and_yes (d6 x hx) (and_yes (and_yes (bw_ok _ hx') rfl) rfl))))))))))))))))) wj a0.2 (bs_eff 22 u _ hx') cb b4 wj wo a2.2 (b5 _) (w1 x hx) (de2_low _ _ _ _ _ _ _ _) (de_F (by decide)) (by rw [ex]; exact z)
    ·rw [hv]; unfold liveK; rw [if_neg h15, if_neg h12, if_pos hb]; rfl
   ·have hb0 : branchB i = false := by simpa using hb
    have hb' : (i.op == 13 || i.op == 14) = false := hb0
    rw [hb'] at cb
    refine key (fun x _ => (lvAt A (j + 1)).get x) (fun x u hx z => ?_) ?_
    ·have hx' := six_reg hx
     have a0 := a1 x hx
     exact deLN_w0 (and_yes (d6 x hx) (and_yes n15 (and_yes n12 (and_yes dj (and_yes (d6 x hx) (and_yes a0.1 (and_yes (d6 x hx) (and_yes (and_yes (bw_ok u hx') rfl) (and_yes (op_ne h12) rfl))))))))) wj a0.2 (bs_eff 22 u _ hx') cb (w1 x hx) (de2_low _ _ _ _ _ _ _ _) (de_F (by decide)) z
    ·rw [hv]; unfold liveK; rw [if_neg h15, if_neg h12, if_neg hb]; rfl
/- what is used, set one by one -/
theorem deUse {K r j : Nat} {U : List Int} (hround : ∀ (u : V6 Bool) (x : Nat), x < U.length → DA w β 2 (deKn4 K L M A r j (u.set (U.getD x 0).toNat true) U (x + 1)) R → DA w β 2 (deKn4 K L M A r j u U x) R) : ∀ (n x : Nat) (u : V6 Bool), x + n = U.length →
  DA w β 2 (deKn4 K L M A r j (setL (U.drop x) u) U U.length) R → DA w β 2 (deKn4 K L M A r j u U x) R
 | 0, x, u, hx, z => by
  obtain rfl : x = U.length := by omega
  rw [List.drop_of_length_le (Nat.le_refl _)] at z
  exact z
 | n + 1, x, u, hx, z => by
  refine hround u x (by omega) (deUse hround n (x + 1) _ (by omega) ?_)
  rw [List.drop_eq_getElem_cons (by omega : x < U.length)] at z
  rw [List.getD_eq_getElem?_getD, List.getElem?_eq_getElem (by omega : x < U.length)]
  exact z
theorem use_cell {U : List Int} {x : Nat} (h : x < U.length) : (AC.isI (Option.getD (U.map AC.i)[Int.toNat (x : Int) * 1]? (AC.b false)) && Nat.blt (Int.toNat (x : Int) * 1) (List.length (U.map AC.i))) = true ∧ Eff.mk (AV.c (AC.i (AC.asI (Option.getD (U.map AC.i)[Int.toNat (x : Int) * 1]? (AC.b false))))) [] none = Eff.mk (AV.c (AC.i (U.getD x 0))) [] none := by
 have hg : (U.map AC.i)[Int.toNat (x : Int) * 1]? = some (.i (U.getD x 0)) := by
  rw [Int.toNat_natCast, Nat.mul_one, List.getElem?_map, List.getD_eq_getElem?_getD, List.getElem?_eq_getElem h]; rfl
 rw [hg]
 refine ⟨?_, rfl⟩
 rw [Bool.and_eq_true]
 exact ⟨rfl, by rw [List.length_map, Nat.blt_eq]; omega⟩
theorem use_mem {U : List Int} {x : Nat} (h : x < U.length) : U.getD x 0 ∈ U := by
 rw [List.getD_eq_getElem?_getD, List.getElem?_eq_getElem h]; exact List.getElem_mem h
theorem deU39 {r j : Nat} {U : List Int} (h2 : U.length ≤ 2) (hU : ∀ d, d ∈ U → regB d = true) (u : V6 Bool) (z : DA w β 2 (deKn4 39 L M A r j (setL U u) U U.length) R) : DA w β 2 (deKn4 39 L M A r j u U 0) R := by
 refine deUse (fun u x hx z => ?_) U.length 0 u (by omega) (by rw [List.drop_zero]; exact z)
 have hd := hU _ (use_mem hx)
 have d0 : decide ((x : Int) < (U.length : Int)) = true := decide_eq_true (by omega)
 exact deU39__w0 (and_yes d0 (and_yes d0 (and_yes (use_cell hx).1 (and_yes hd (and_yes (and_yes (bw_ok u hd) rfl) rfl))))) (use_cell hx).2 (bs_eff 22 u true hd) (by rw [wrapS (by omega)]) (de4_low39 _ _ _ _ _ _ _ _) (de_F (by decide)) z
theorem deU30 {r j : Nat} {U : List Int} (h2 : U.length ≤ 2) (hU : ∀ d, d ∈ U → regB d = true) (u : V6 Bool) (z : DA w β 2 (deKn4 30 L M A r j (setL U u) U U.length) R) : DA w β 2 (deKn4 30 L M A r j u U 0) R := by
 refine deUse (fun u x hx z => ?_) U.length 0 u (by omega) (by rw [List.drop_zero]; exact z)
 have hd := hU _ (use_mem hx)
 have d0 : decide ((x : Int) < (U.length : Int)) = true := decide_eq_true (by omega)
 exact deU30__w0 (and_yes d0 (and_yes d0 (and_yes (use_cell hx).1 (and_yes hd (and_yes (and_yes (bw_ok u hd) rfl) rfl))))) (use_cell hx).2 (bs_eff 22 u true hd) (by rw [wrapS (by omega)]) (de4_low30 _ _ _ _ _ _ _ _) (de_F (by decide)) z
theorem deEndE {K j : Nat} {u : V6 Bool} (hA : A.length = L.length) (hj : j < L.length) : Eff.mk (AV.raw undef) [(K, splice (rcell A) (0 + Int.toNat (j : Int) * 6) (bcs u))] none = Eff.mk (AV.raw undef) [(K, rcell (List.set A j u))] none := by rw [Int.toNat_natCast, Nat.zero_add, rcell_set u (by omega)]
theorem deEndB {j : Nat} {u : V6 Bool} (hA : A.length = L.length) (hj : j < L.length) : (decide ((j : Int) < (L.length : Int)) && (Nat.ble (0 + Int.toNat (j : Int) * 6 + List.length (bcs u)) (List.length (rcell A)) && true && true)) = true := by
 have h : Nat.ble (0 + j * 6 + 6) (A.length * 6) = true := by rw [Nat.ble_eq]; omega
 rw [rcell_len, jl hj, show List.length (bcs u) = 6 from rfl, Int.toNat_natCast, h]; rfl
theorem deEndW {j : Nat} (hM : L.length ≤ 64) (hj : j < L.length) : Eff.mk (AV.c (AC.i (IntKind.wrap IntKind.i64 ((j : Int) - 1)))) [] none = Eff.mk (AV.c (AC.i ((j : Int) - 1))) [] none := by rw [wrapN (by omega) (by omega)]
/- a whole round -/
theorem deRound {r j : Nat} (hM : L.length ≤ 64) (hs : DOk L.length (M, A)) (hj : j < L.length) (z : ∀ r', DA w β 0 (deKn1 L (stepD (M, A) j).1 (stepD (M, A) j).2 r' ((j : Int) - 1)) R) : DA w β 0 (deKn1 L M A r (j : Int)) R := by
 have l1 : M.length = L.length := hs.l1
 have l2 : A.length = L.length := hs.l2
 have hr : Right (elt M j) ((L.length - 1 - j : Nat) : Int) := hs.right j hj
 have hl : (elt M j).op = 15 ∨ j + 1 < L.length := hs.last j hj
 have z : ∀ r', DA w β 0 (deKn1 L (M.set j (deadI (elt M j) (liveK (elt M j) A j))) (A.set j (liveA (deadI (elt M j) (liveK (elt M j) A j)) (liveK (elt M j) A j))) r' ((j : Int) - 1)) R := z
 have eself := set_elt_self (M := M) (j := j) (by omega)
 have e0 : Eff.mk (AV.ag (List.take 5 (List.drop (Int.toNat (j : Int) * 5) (pcell M)))) [] none = Eff.mk (AV.ag (Ins.cs (elt M j))) [] none := by rw [Int.toNat_natCast, pcell_elt (by omega)]
 have g1 : Nat.ble (Int.toNat (j : Int) * 5 + 5) (pcell M).length = true := by rw [pcell_length, Nat.ble_eq]; omega
 refine deA_w0 (i := elt M j) (and_yes (jl hj) (and_yes g1 rfl)) e0 (de2_low _ _ _ _ _ _ 0 no6) (de_F (by decide)) (deSix hM l2 hj hr hl rfl ?_)
 have hu := use_ok hr
 have hd := (right_regs hr).1
 have h1 : 1 ≤ (elt M j).op := by rcases ops_of hr with c | c | c | c | c | c | c | c <;> omega
 have cw := refWithin_ok (elt M j).op 1 10
 have wj := deEndW hM hj
 generalize hb : liveK (elt M j) A j = b at *
 generalize hi : elt M j = i at *
 have nl : ∀ {p : Nat}, (!decide ((p : Int) < (p : Int))) = true := fun {p} => by rw [decide_eq_false (by omega)]; rfl
 by_cases hop : i.op ≤ 10
 ·have b1 : (decide (1 ≤ i.op) && decide (i.op ≤ 10)) = true := by rw [decide_eq_true h1, decide_eq_true hop]; rfl
  rw [b1] at cw
  by_cases hg : b.get i.d.toNat = true
  ·have ed : deadI i b = i := by unfold deadI; rw [if_neg (by rw [hg]; simp)]
   have el : liveA i b = setL (useL i) (b.set i.d.toNat false) := by unfold liveA; rw [if_pos hop, hu.same]
   rw [ed, el, eself] at z
   have hh : (decide (0 ≤ i.d) && decide (i.d < 6) && (AC.isB (Option.getD (bcs b)[Int.toNat i.d * 1]? (AC.b false)) && Nat.blt (Int.toNat i.d * 1) (List.length (bcs b)) && (!!b.get i.d.toNat && (decide (0 ≤ i.d) && decide (i.d < 6) && (Nat.ble (Int.toNat i.d * 1 + 1) (List.length (bcs b)) && true && true))))) = true := and_yes hd (and_yes (be_ok b hd) (and_yes (by rw [hg]; rfl) (and_yes hd (and_yes (and_yes (bw_ok b hd) rfl) rfl))))
   by_cases hn : useL i = []
   ·rw [hn] at z
    exact deMS0_w0 hh cw (bg_eff b hd) (bs_eff 22 b false hd) (hu.nil hn) (de3_low _ _ _ _ _ _) (de_F (by decide)) (deE0__w0 (deEndB l2 hj) (deEndE l2 hj) wj (de1_low _ _ _ _ _) (de_F (by decide)) (z r))
   ·exact deMS1_w0 hh cw (bg_eff b hd) (bs_eff 22 b false hd) (hu.some hn 39) (de4_low39 _ _ _ _ _ _ _ 0) (de_F (by decide)) (deU39 hu.le hu.reg _ (deE39__w0 (and_yes nl (deEndB l2 hj)) (deEndE l2 hj) wj (de1_low _ _ _ _ _) (de_F (by decide)) (z r)))
  ·have hg' : b.get i.d.toNat = false := by simpa using hg
   have ed : deadI i b = onI := by unfold deadI; rw [if_pos (by rw [hg', decide_eq_true hop]; rfl)]
   have el : liveA onI b = b := rfl
   rw [ed, el] at z
   have e3 : Eff.mk (AV.raw undef) [(4, splice (pcell M) (Int.toNat (j : Int) * 5) (Ins.cs onI))] none = Eff.mk (AV.raw undef) [(4, pcell (List.set M j onI))] none := by rw [Int.toNat_natCast, pcell_set _ (by omega)]
   have e4 : Eff.mk (AV.ag (List.take 5 (List.drop (Int.toNat (j : Int) * 5) (pcell (List.set M j onI))))) [] none = Eff.mk (AV.ag (Ins.cs onI)) [] none := by rw [Int.toNat_natCast, pcell_elt (by rw [List.length_set]; omega), elt_set (by omega), if_pos rfl]
   have g2 : Nat.ble (Int.toNat (j : Int) * 5 + 5) (pcell (M.set j onI)).length = true := by rw [pcell_length, List.length_set, Nat.ble_eq]; omega
   exact deMD_w0 (and_yes hd (and_yes (be_ok b hd) (and_yes (by rw [hg']; rfl) (and_yes (jl hj) (and_yes (and_yes g1 rfl) (and_yes (jl hj) (and_yes g2 rfl))))))) cw (bg_eff b hd) nothing_ok e3 e4 usesJ_ok (de3_low _ _ _ _ _ _) (de_F (by decide)) (deE0__w0 (deEndB l2 hj) (deEndE l2 hj) wj (de1_low _ _ _ _ _) (de_F (by decide)) (z 0))
 ·have b1 : (decide (1 ≤ i.op) && decide (i.op ≤ 10)) = false := by rw [decide_eq_false hop, Bool.and_false]
  rw [b1] at cw
  have ed : deadI i b = i := by unfold deadI; rw [if_neg (by rw [decide_eq_false hop]; simp)]
  have el : liveA i b = setL (useL i) b := by unfold liveA; rw [if_neg hop, hu.same]
  rw [ed, el, eself] at z
  by_cases hn : useL i = []
  ·rw [hn] at z
   exact deMN0_w0 cw (hu.nil hn) (de3_low _ _ _ _ _ _) (de_F (by decide)) (deE0__w0 (deEndB l2 hj) (deEndE l2 hj) wj (de1_low _ _ _ _ _) (de_F (by decide)) (z r))
  ·exact deMN1_w0 cw (hu.some hn 30) (de4_low30 _ _ _ _ _ _ _ 0) (de_F (by decide)) (deU30 hu.le hu.reg _ (deE30__w0 (and_yes nl (deEndB l2 hj)) (deEndE l2 hj) wj (de1_low _ _ _ _ _) (de_F (by decide)) (z r)))
end
theorem deLoop {L : List Ins} (hP : RightP L) {w : World} {β : Bs} : ∀ (n k r : Nat), k + n = L.length →
  DA w β 0 (deKn1 L (runD L ((List.range k).map fun j => L.length - 1 - j)).1 (runD L ((List.range k).map fun j => L.length - 1 - j)).2 r ((n : Int) - 1)) (REff w β (newE 4 L.length (ridR L).1))
 | 0, k, r, hk => by
  obtain rfl : k = L.length := by omega
  rw [runD_all]
  exact art_mono (deEnd_w0 (new_keys _ r (by decide))) fun _ _ h => reff_room h
 | n + 1, k, r, hk => by
  have hs := runD_ok hP ((List.range k).map fun j => L.length - 1 - j) (fun x hx => by obtain ⟨y, hy, rfl⟩ := List.mem_map.1 hx; have := List.mem_range.1 hy; omega)
  have next := fun r' => deLoop hP (w := w) (β := β) n (k + 1) r' (by omega)
  rw [List.range_succ, List.map_append, List.map_cons, List.map_nil, runD_snoc] at next
  have e : ((n + 1 : Nat) : Int) - 1 = (n : Int) := by omega
  have e2 : L.length - 1 - k = n := by omega
  rw [e2] at next
  rw [e]
  generalize runD L ((List.range k).map fun j => L.length - 1 - j) = s at *
  obtain ⟨M, A⟩ := s
  exact deRound hP.le hs (by omega) next
theorem deadOf_ok {L : List Ins} {c : Nat} (hP : RightP L) {K : Nat} (hK : K ≠ 0) : CallOK Tryz.prog ⟨20, [.c (.sl 0 0 L.length c)], pH L, newE K L.length (deadS L)⟩ := by
 have hpos := hP.pos
 have hle := hP.le
 refine newE_to (a := 4) ?_ (by decide) hK
 by_cases h0 : (verifyS L).trap = 0
 ·have e : deadS L = (ridR L).1 := by unfold deadS; rw [if_pos h0]
  rw [e]
  refine rnew_of Tryz.func20 rfl rfl rfl (pcell_ks L) (by decide) rfl (pcell_ks _) fun w β _ => deTop_w0 (and_yes (copyB hP) ?_) copyE (verifyOf_no hP h0 7 (by decide)) ?_ (by rw [wrapN (by omega) (by omega)]) (de1_low _ _ _ _ _) (fun _ h => Nat.lt_of_lt_of_le h (by decide)) (deLoop hP L.length 0 5 (by omega))
  ·simp; omega
  ·rw [Int.toNat_natCast]
   have := rcell_rows L.length
   unfold bcs no6 at this
   rw [this]
   rfl
 ·have e : deadS L = L := by unfold deadS; rw [if_neg h0]
  rw [e]
  exact call_room (r := 5) (rnew_of Tryz.func20 rfl rfl rfl (pcell_ks L) (by decide) rfl (pcell_ks _) fun w β hk => deTr_w0 (and_yes (copyB hP) (and_yes (by simpa using h0) rfl)) copyE (verifyOf_K hP 7 (by decide)) hk)
section
variable {L L2 L3 L4 : List Ins} {c p n q : Nat} {w : World} {β : Bs} {S S2 S3 : List St} {s s1 : ByteArray} {x y : BitVec 64} {r1 : Outc} {e f tr t1 n1 : Int}
theorem foF_w0 (c0 : CO 52 [.c (.sl 0 0 p c), .c (.f 53 [])] [(0, Ent.mk false (pcell L) 0)] (Eff.mk (.tu [.c (.sx 4 p), .c (.i 0)]) [] (some (4, Ent.mk true (pcell L2) 0)))) (hk : EKeys n [] (some 4) ⟨.tu [.c (.sx 4 p), .c (.i 0)], [], some (4, Ent.mk true (pcell L2) 0)⟩) :
  BO 17 Tryz.f17 (cx w β n []) [.c (.sl 0 0 p c)] [(0, Ent.mk false (pcell L) 0)] 1 (REff w β ⟨.tu [.c (.sx 4 p), .c (.i 0)], [], some (4, Ent.mk true (pcell L2) 0)⟩) :=
 run_eff2 [] (some 4) [] ([]) [] Tryz.func17 hk (by kernel_rfl) rfl (cr_cons c0 cr_nil)
theorem foD_w0 (c0 : CO 52 [.c (.sl 0 0 p c), .c (.f 55 [])] [(0, Ent.mk false (pcell L) 0)] (Eff.mk (.tu [.c (.sx 4 p), .c (.i 0)]) [] (some (4, Ent.mk true (pcell L2) 0)))) (hk : EKeys n [] (some 4) ⟨.tu [.c (.sx 4 p), .c (.i 0)], [], some (4, Ent.mk true (pcell L2) 0)⟩) :
  BO 18 Tryz.f18 (cx w β n []) [.c (.sl 0 0 p c)] [(0, Ent.mk false (pcell L) 0)] 1 (REff w β ⟨.tu [.c (.sx 4 p), .c (.i 0)], [], some (4, Ent.mk true (pcell L2) 0)⟩) :=
 run_eff2 [] (some 4) [] ([]) [] Tryz.func18 hk (by kernel_rfl) rfl (cr_cons c0 cr_nil)
theorem d1_w0 (c0 : CO 56 [.c (.sx 0 p)] [(0, Ent.mk true (pcell L) 5)] (Eff.mk (.tu []) [(0, pcell L2)] none)) (hk : EKeys n [0] none ⟨.tu [], [(0, pcell L2)], none⟩) :
  BO 55 Tryz.f55 (cx w β n [0]) [.c (.sx 0 p), .c (.sl 1 0 p p)] [(0, Ent.mk true (pcell L) 5), (1, Ent.mk false (scell S) 0)] 2 (REff w β ⟨.tu [], [(0, pcell L2)], none⟩) :=
 run_eff2 [0] none [] ([]) [] Tryz.func55 hk (by kernel_rfl) rfl (cr_cons c0 cr_nil)
theorem folding_w0 (hk : EKeys n [] (some 7) ⟨.c (.sl 7 0 6 6), [], some (7, Ent.mk true (splice (splice (splice (splice (splice (splice (rows 6 [.i 0, .i 0, .i 0, .u 0#64, .i 0]) 0 (splice (splice (splice (splice [.i 0, .i 0, .i 0, .u 0#64, .i 0] 0 [.i 1]) 1 [.i 2]) 2 [.i (-1)]) 3 [.u 5#64])) 5 (splice (splice (splice (splice [.i 0, .i 0, .i 0, .u 0#64, .i 0] 0 [.i 5]) 1 [.i 1]) 2 [.i (-1)]) 3 [.u 3#64])) 10 (splice (splice (splice (splice [.i 0, .i 0, .i 0, .u 0#64, .i 0] 0 [.i 14]) 1 [.i 1]) 2 [.i 2]) 4 [.i 1])) 15 (splice (splice (splice (splice [.i 0, .i 0, .i 0, .u 0#64, .i 0] 0 [.i 1]) 1 [.i 1]) 2 [.i (-1)]) 3 [.u 9#64])) 20 (splice (splice (splice [.i 0, .i 0, .i 0, .u 0#64, .i 0] 0 [.i 1]) 1 [.i 0]) 2 [.i 2])) 25 (splice [.i 0, .i 0, .i 0, .u 0#64, .i 0] 0 [.i 15])) 0)⟩) :
  BO 61 Tryz.f61 (cx w β n []) [] [] 0 (REff w β ⟨.c (.sl 7 0 6 6), [], some (7, Ent.mk true (splice (splice (splice (splice (splice (splice (rows 6 [.i 0, .i 0, .i 0, .u 0#64, .i 0]) 0 (splice (splice (splice (splice [.i 0, .i 0, .i 0, .u 0#64, .i 0] 0 [.i 1]) 1 [.i 2]) 2 [.i (-1)]) 3 [.u 5#64])) 5 (splice (splice (splice (splice [.i 0, .i 0, .i 0, .u 0#64, .i 0] 0 [.i 5]) 1 [.i 1]) 2 [.i (-1)]) 3 [.u 3#64])) 10 (splice (splice (splice (splice [.i 0, .i 0, .i 0, .u 0#64, .i 0] 0 [.i 14]) 1 [.i 1]) 2 [.i 2]) 4 [.i 1])) 15 (splice (splice (splice (splice [.i 0, .i 0, .i 0, .u 0#64, .i 0] 0 [.i 1]) 1 [.i 1]) 2 [.i (-1)]) 3 [.u 9#64])) 20 (splice (splice (splice [.i 0, .i 0, .i 0, .u 0#64, .i 0] 0 [.i 1]) 1 [.i 0]) 2 [.i 2])) 25 (splice [.i 0, .i 0, .i 0, .u 0#64, .i 0] 0 [.i 15])) 0)⟩) :=
 run_eff2 [] (some 7) [] ([]) [] Tryz.func61 hk (by kernel_rfl) rfl cr_nil
theorem fBegun_w0 (c0 : CO 61 [] [] (Eff.mk (.c (.sl 1 0 6 6)) [] (some (1, Ent.mk true (pcell fL) 0)))) (c1 : CO 17 [.c (.sl 1 0 6 6)] [(1, Ent.mk true (pcell fL) 0)] (Eff.mk (.tu [.c (.sx 2 6), .c (.i 0)]) [] (some (2, Ent.mk true (pcell fF) 0)))) (c2 : CO 18 [.c (.sx 2 6)] [(2, Ent.mk true (pcell fF) 0)] (Eff.mk (.tu [.c (.sx 9 6), .c (.i 0)]) [] (some (9, Ent.mk true (pcell fD) 0)))) :
  Ok 21 [] (.c (.b true)) :=
 val_run2 [true, true, true, true, true, true, true, true, true] ([]) [] Tryz.func21 rfl rfl rfl rfl (by kernel_rfl) rfl (cr_cons c0 (cr_cons c1 (cr_cons c2 cr_nil)))
end
abbrev FW (ro : Option Nat) : Fence := { Fence.wide with round := ro }
def noDefer (ops : Array Oper) : Bool := ops.toList.all fun o => match o.op with
 | .defer _ => false
 | _ => true
theorem noDefer_at {ops : Array Oper} (h : noDefer ops = true) {i : Nat} {o : Oper} (ho : ops[i]? = some o) : ∀ c, o.op ≠ .defer c := by
 intro c hc
 have hm : o ∈ ops.toList := by
  obtain ⟨hi, rfl⟩ := Array.getElem?_eq_some_iff.1 ho
  simp
 have := List.all_eq_true.1 h o hm
 rw [hc] at this
 cases this
theorem sem_fw {ro : Option Nat} {ρ : Operand → Value} {o : Oper} (h : ∀ c, o.op ≠ .defer c) : Oper.semAt ro ρ o = execOp ρ o := by
 cases ro with
 | none => rfl
 | some l => exact Oper.semAt_some l ρ o h
theorem calls_fw {ro : Option Nat} {n : Nat} {P : Program} {f : FuncId} {args : Array Value} {w : World} {R : Ending → World → Prop} (h : Calls P f args w R) : CallsIn (FW ro) n P f args w R := (callsIn_wide (n := n)).2 h
theorem upon_fw {ro : Option Nat} {n : Nat} {P : Program} {o : Oper} {a : Act} {next : Act → World → Prop} {Q : Exit → Act → World → Prop} {r : Result Next} (h : o.upon P a next Q r) : o.uponIn (FW ro) n P a next Q r := by
 unfold Oper.upon at h
 split at h
 ·exact h
 ·exact h
 ·exact h
 ·exact ⟨fun h => (by cases h), calls_fw h⟩
 ·exact ⟨fun h => (by cases h), fun c cs _ => let ⟨v, w', r, s⟩ := h c cs; ⟨v, w', r, stepsIn_wide.2 s⟩⟩
 ·exact h
 ·exact h.elim
theorem wp_fw {ro : Option Nat} {n : Nat} {P : Program} {o : Oper} {a : Act} {w : World} {next : Act → World → Prop} {Q : Exit → Act → World → Prop} (hd : ∀ c, o.op ≠ .defer c) (h : o.wp P a w next Q) : o.wpIn (FW ro) n P a w next Q := by
 refine ⟨fun _ _ => trivial, ?_⟩
 rw [sem_fw hd]
 exact upon_fw h
theorem ops_fw {ro : Option Nat} {n : Nat} {P : Program} {ops : Array Oper} {Q : Exit → Act → World → Prop} (hd : noDefer ops = true) (hq : ¬ LetsOut Q) : ∀ (l : List Nat) (a : Act) (w : World), wpOps P ops Q l a w → wpOpsIn (FW ro) n P ops Q l a w
 | [], _, _, h => h
 | i :: l, a, w, h => by
  simp only [wpOps] at h
  simp only [wpOpsIn]
  cases ho : ops[i]? with
  | none => rw [ho] at h; exact ops_fw hd hq l a w h
  | some o =>
   rw [ho] at h
   simp only at h ⊢
   by_cases hw : Region.wanted o (yielded ops a.tmps) = true
   ·rw [if_pos hw] at h ⊢
    rcases h with h | h
    ·exact wp_fw (noDefer_at hd ho) (Oper.wp_mono (fun a w => ops_fw hd hq l a w) h)
    ·exact (hq h.2).elim
   ·rw [if_neg hw] at h ⊢
    exact ⟨fun _ _ => trivial, ops_fw hd hq l _ w h⟩
theorem any_fw {ro : Option Nat} {n : Nat} {P : Program} {md : Region.Mode} {ops : Array Oper} {Q : Exit → Act → World → Prop} (hd : noDefer ops = true) (hq : ¬ LetsOut Q) : ∀ (m : Nat) (listed : Array Bool) (a : Act) (w : World), wpAny P md ops Q m listed a w → wpAnyIn (FW ro) n P md ops Q m listed a w
 | 0, _, _, _, h => h
 | m + 1, listed, a, w, h => by
  refine ⟨h.1, fun i hi => ?_⟩
  have h := h.2 i hi
  unfold wpOp at h
  unfold wpOpIn
  cases ho : ops[i]? with
  | none => rw [ho] at h; exact any_fw hd hq m _ a w h
  | some o =>
   rw [ho] at h
   simp only at h ⊢
   by_cases hw : Region.wanted o (yielded ops a.tmps) = true
   ·rw [if_pos hw] at h ⊢
    rcases h with h | h
    ·exact wp_fw (noDefer_at hd ho) (Oper.wp_mono (fun a w => any_fw hd hq m _ a w) h)
    ·exact (hq h.2).elim
   ·rw [if_neg hw] at h ⊢
    exact ⟨fun _ _ => trivial, any_fw hd hq m _ _ w h⟩
theorem drw_anyS {P : Program} {N base : Nat} {rs : List Nat} {ops : Array Oper} {σ : Kn} {hs : List Eff} {ds : List Bool} {r : Drw} {Q : Exit → Act → World → Prop} {C : Cx} {β : Bs} {a : Act} {w : World}
  (h : drwOps P N base rs ops 0 ops.toList σ hs ds = some r) (hok : allB r.ok = true) (hcr : ∀ q, q ∈ r.cr → ObOK P q) (hB : Region.lexB .any ops = true) (hA : apartAll 0 ops.toList r.E = true) (hr : Rel C N β (fun k => k < base) σ a w)
  (hQ : ∀ β' a' w', Rel C N β' (fun k => k < base + ops.size) r.σ a' w' → Q .normal a' w') : wpAny P .any ops Q ops.size (Array.replicate ops.size false) a { w with drawn := w.drawn + 1 } := by
 obtain ⟨hlen, hspec⟩ := drwOps_spec h hok hcr
 have hsz : r.E.length = ops.size := by simpa using hlen
 let E : Nat → Kn × Eff := fun i => r.E.getD i (σ, ⟨undefV, [], none⟩)
 have hget : ∀ i o, ops[i]? = some o → r.E[i]? = some (E i) := by
  intro i o ho
  have hi : i < ops.size := by
   rcases Nat.lt_or_ge i ops.size with h3 | h3
   ·exact h3
   ·simp [Array.getElem?_eq_none h3] at ho
  simp only [E, List.getD_eq_getElem?_getD, List.getElem?_eq_getElem (show i < r.E.length by omega), Option.getD_some]
 have hlist : ∀ i o, ops[i]? = some o → ops.toList[i]? = some o := fun i o ho => by rw [Array.getElem?_toList]; exact ho
 have hE : ∀ i o, ops[i]? = some o → (∃ σ', (E i).1 = foot ops o σ') ∧ StEff P N ops o (E i).1 (E i).2 ∧ ∀ j cs, (E i).2.nw = some (j, cs) → j = base + i := by
  intro i o ho
  obtain ⟨o', σ', h1, h2, h3, h4⟩ := hspec i _ (hget i o ho)
  rw [hlist i o ho] at h1
  injection h1 with h1
  subst h1
  exact ⟨⟨σ', h2⟩, h3, fun j cs hn => by rw [h4 j cs hn]; omega⟩
 simp only [Region.lexB, Bool.and_eq_true] at hB
 have hr' : Rel C N β (keyIn base (Array.replicate ops.size false)) σ a { w with drawn := w.drawn + 1 } := by
  have h1 := hr.mono (S' := keyIn base (Array.replicate ops.size false)) fun k hk => Or.inl hk
  exact ⟨h1.size, h1.defers, h1.tmp, fun k e he => ⟨(h1.blk k e he).1, ⟨(h1.blk k e he).2.1.lt, (h1.blk k e he).2.1.cell, (h1.blk k e he).2.1.free, (h1.blk k e he).2.1.room⟩, (h1.blk k e he).2.2⟩, h1.inj, ⟨h1.frame.os, h1.frame.tape, h1.frame.output, h1.frame.size, h1.frame.block⟩, h1.fix⟩
 have hany := drw_any (P := P) (N := N) (base := base) (ops := ops) (E := E) (fun i o ho => (hE i o ho).1)
  (fun i j oi oj hi hj hlt => by
   have := apartAll_spec hA i j _ _ (hget i oi hi) (hget j oj hj) hlt
   simp only [Nat.zero_add] at this
   exact this)
  ops.toList 0 (Array.replicate ops.size false) σ hs ds r (by simp) (by simpa using hB.2) h
  (fun m x hx => by simp only [Nat.zero_add, E, List.getD_eq_getElem?_getD, hx, Option.getD_some]) (fun j hj => by omega) (fun j _ hj => by simp [hj])
 have hEn : ∀ i j cs, (E i).2.nw = some (j, cs) → j = base + i := by
  intro i j cs hn
  rcases Nat.lt_or_ge i ops.size with h3 | h3
  ·exact (hE i ops[i] (by simp [h3])).2.2 j cs hn
  ·simp only [E, List.getD_eq_getElem?_getD, List.getElem?_eq_none (show r.E.length ≤ i by omega), Option.getD_none] at hn
   cases hn
 have := AAny.sound (P := P) (Q := Q) (C := C) (fun i o ho => (hE i o ho).2.1) hEn ops.toList.length (Array.replicate ops.size false) σ β a _ (by simp) hany hr' hQ
 simpa using this
def RelAt (C : Cx) (N : Nat) (σ : Kn) (e : Exit) (a : Act) (w : World) : Prop := e = .normal ∧ ∃ β, Rel C N β (fun k => k < σ.n) σ a w
theorem relAt_lets {C : Cx} {N : Nat} {σ : Kn} : ¬ LetsOut (RelAt C N σ) := fun ⟨_, _, h, _⟩ => by cases h
theorem eRegion_fw {P : Program} {N id : Nat} {rs : List Nat} {ops : Array Oper} {dr : Bool} {σ : Kn} {hs : List Eff} {ds : List Bool} {q : Seq} (h : eRegion P N rs ops dr σ hs ds = some q) (hok : allB q.ok = true) (hcr : ∀ c, c ∈ q.cr → ObOK P c) (hd : noDefer ops = true)
  {C : Cx} {β : Bs} {a : Act} {w : World} {ro : Option Nat} {n : Nat} (hr : Rel C N β (fun k => k < σ.n) σ a w) : (Code.region id ops dr).wpIn (FW ro) n P (RelAt C N q.σ) a w := by
 unfold eRegion at h
 cases dr with
 | false =>
  simp only at h
  split at h
  ·rename_i r hrr
   injection h with h; subst h
   refine wpIn_region (ops_fw hd relAt_lets _ _ _ ?_)
   have := seqOps_sound (P := P) (N := N) (base := σ.n) (rs := rs) (ops := ops) (Q := RelAt C N { r.σ with n := σ.n + ops.size }) ops.toList 0 σ hs ds r β a w (by simp) hrr hok hcr (by simpa using hr)
    (fun β' a' w' hr' => ⟨rfl, β', by simpa using hr'.setn (σ.n + ops.size)⟩)
   simpa [List.range_eq_range'] using this
  ·cases h
 | true =>
  simp only at h
  split at h
  ·rename_i r hrr
   cases hc : (Region.lexB .any ops && apartAll 0 ops.toList r.E && P.follows .mixedOrders) with
   | false => rw [hc] at h; cases h
   | true =>
    rw [hc] at h
    simp only [cond_true, Option.some.injEq] at h
    subst h
    simp only [Bool.and_eq_true] at hc
    exact wpIn_region_any hc.2 (any_fw hd relAt_lets _ _ _ _ (drw_anyS hrr hok hcr hc.1.1 hc.1.2 hr (fun β' a' w' hr' => ⟨rfl, β', hr'.setn _⟩)))
  ·cases h
/- codes that are left by their end alone -/
def quiet : Code → Bool
 | .skip => true
 | .seq x y => quiet x && quiet y
 | .block _ c => quiet c
 | .cond _ x y => quiet x && quiet y
 | .region _ ops _ => noDefer ops
 | _ => false
structure Left (P : Program) (fn : Func) (N : Nat) (rw : List (Nat × Nat)) (C : Cx) (k : List Item) (st : List Bool) (out : Out) (e : Exit) (a : Act) (w : World) : Prop where
 e : e = .normal
 go : ∃ β σ m hs ds r, Rel C N β (fun k => k < σ.n) σ a w ∧ runT P fn N rw m k σ hs ds st = some r ∧ r.out = out ∧ allB r.ok = true ∧ ∀ c, c ∈ r.cr → ObOK P c
theorem runT_fw {P : Program} {fn : Func} {N : Nat} {rw : List (Nat × Nat)} {C : Cx} {ro : Option Nat} {n : Nat} {st : List Bool} : ∀ (c : Code) (k : List Item) (m : Nat) (σ : Kn) (hs : List Eff) (ds : List Bool) (r : Run) (β : Bs) (a : Act) (w : World), quiet c = true →
  runT P fn N rw m (.code c :: k) σ hs ds st = some r → allB r.ok = true → (∀ c, c ∈ r.cr → ObOK P c) → Rel C N β (fun k => k < σ.n) σ a w → c.wpIn (FW ro) n P (Left P fn N rw C k st r.out) a w := by
 intro c
 induction c with
 | skip =>
  intro k m σ hs ds r β a w _ h hok hcr hr
  cases m with
  | zero => cases h
  | succ m => exact wpIn_skip ⟨rfl, β, σ, m, hs, ds, r, hr, h, rfl, hok, hcr⟩
 | seq x y ihx ihy =>
  intro k m σ hs ds r β a w hq h hok hcr hr
  simp only [quiet, Bool.and_eq_true] at hq
  cases m with
  | zero => cases h
  | succ m =>
   refine wpIn_seq (wpIn_mono (ihx _ m σ hs ds r β a w hq.1 h hok hcr hr) fun e a' w' hl => ?_)
   obtain ⟨rfl, β', σ', m', hs', ds', r', hr', h', ho', hok', hcr'⟩ := hl
   show y.wpIn _ _ _ _ _ _
   rw [← ho']
   exact ihy _ m' σ' hs' ds' r' β' a' w' hq.2 h' hok' hcr' hr'
 | block id c ih =>
  intro k m σ hs ds r β a w hq h hok hcr hr
  cases m with
  | zero => cases h
  | succ m =>
   refine wpIn_block (wpIn_mono (ih _ m σ hs ds r β a w hq h hok hcr hr) fun e a' w' hl => ?_)
   obtain ⟨rfl, β', σ', m', hs', ds', r', hr', h', ho', hok', hcr'⟩ := hl
   cases m' with
   | zero => cases h'
   | succ m' => exact ⟨rfl, β', σ', m', hs', ds', r', hr', h', ho', hok', hcr'⟩
 | cond t x y ihx ihy =>
  intro k m σ hs ds r β a w hq h hok hcr hr
  simp only [quiet, Bool.and_eq_true] at hq
  cases m with
  | zero => cases h
  | succ m =>
   unfold runT at h
   simp only at h
   split at h
   ·rename_i b d ds' hx
    split at h
    ·rename_i q hq'
     injection h with h; subst h
     simp only [Run.and, List.cons_append, List.nil_append, allB, Bool.and_eq_true, same_iff] at hok
     have hx' : a.eval _ = .bool b := (hr.ev hx).1
     refine wpIn_cond hx' ?_
     have hc : ∀ c, c ∈ q.cr → ObOK P c := fun c hc => hcr c (by simp [Run.and, hc])
     rw [hok.1]
     cases d with
     | true => exact ihx _ m σ hs ds' q β a w hq.1 hq' hok.2 hc hr
     | false => exact ihy _ m σ hs ds' q β a w hq.2 hq' hok.2 hc hr
    ·cases h
   ·cases h
 | region id ops dr =>
  intro k m σ hs ds r β a w hq h hok hcr hr
  cases m with
  | zero => cases h
  | succ m =>
   unfold runT at h
   simp only at h
   split at h
   ·rename_i q hq'
    split at h
    ·rename_i r' hr'
     injection h with h; subst h
     simp only [Run.and, allB_append, Bool.and_eq_true] at hok
     refine wpIn_mono (eRegion_fw hq' hok.1 (fun c hc => hcr c (by simp [Run.and, hc])) hq hr) fun e a' w' hl => ?_
     obtain ⟨rfl, β', h'⟩ := hl
     exact ⟨rfl, β', q.σ, m, q.hs, q.ds, r', h', hr', rfl, hok.2, fun c hc => hcr c (by simp [Run.and, hc])⟩
    ·cases h
   ·cases h
 | _ => intro k m σ hs ds r β a w hq; cases hq
/- a part, from what is known ahead of it to what is known behind it -/
def PartIn (P : Program) (C : Cx) (N : Nat) (todo : List Item) (σ σ' : Kn) : Prop :=
 match todo with
 | .code c :: _ => ∀ (ro : Option Nat) (n : Nat) (β : Bs) (a : Act) (w : World), Rel C N β (fun k => k < σ.n) σ a w → c.wpIn (FW ro) n P (RelAt C N σ') a w
 | _ => False
theorem Rel.weaken {C : Cx} {N : Nat} {β : Bs} {σ σ' : Kn} {a : Act} {w : World} (hr : Rel C N β (fun k => k < σ.n) σ a w) (hle : Le σ' σ) (hlow : σ'.Low) (hF : ∀ k, C.F k → k < σ'.n) : Rel C N β (fun k => k < σ'.n) σ' a w :=
 ⟨hr.size, hr.defers, fun t v hv => ⟨(hr.tmp t v (hle.t t v hv)).1, hlow.t t v hv⟩, fun k e he => ⟨(hlow.h k e he).1, (hr.blk k e (hle.h k e he)).2.1, (hlow.h k e he).2, (hr.blk k e (hle.h k e he)).2.2.2⟩, fun k e k' e' he he' => hr.inj k e k' e' (hle.h k e he) (hle.h k' e' he'), hr.frame, fun k hk => ⟨hF k hk, (hr.fix k hk).2⟩⟩
theorem run_part {P : Program} {f : FuncId} {fn : Func} {N : Nat} {C : Cx} {todo : List Item} {σ : Kn} {ok : Bool} {cr : List Ob} (σ' : Kn) (m : Nat) (hs : List Eff) (ds st : List Bool) (rw : List (Nat × Nat)) (_hf : P.funcs[f]? = some fn)
  (h : cutOf (σ'.T.map (·.1)) (σ'.H.map (·.1)) (runT P fn N rw m todo σ hs ds st) = some ([.code .skip, .inLoop .skip], σ'.T.map (fun x => some x.2), σ'.H.map (fun x => some x.2), ok, cr)) (hok : ok = true) (hcr : ∀ c, c ∈ cr → ObOK P c) (hlow : σ'.Low) (hF : ∀ k, C.F k → k < σ'.n)
  (hq : (match todo with
   | [.code c, .inLoop _] => quiet c
   | _ => false) = true) (hst : st = [true]) : PartIn P C N todo σ σ' := by
 obtain ⟨σ1, oks, h1, ho, h2, h3⟩ := cutOf_some h
 subst hst
 split at hq
 ·rename_i _ c X _
  intro ro n β a w hr
  refine wpIn_mono (runT_fw c _ m σ hs ds _ β a w hq h1 (ho.trans hok) hcr hr) fun e a' w' hl => ?_
  obtain ⟨rfl, β', σ2, m', hs', ds', r', hr', h', ho', _, _⟩ := hl
  refine ⟨rfl, β', ?_⟩
  cases m' with
  | zero => cases h'
  | succ m' =>
   unfold runT at h'
   simp only at h'
   split at h'
   ·injection h' with h'
    subst h'
    injection ho' with ho'
    injection ho' with _ ho'
    subst ho'
    exact hr'.weaken ⟨map_look h2, map_look h3⟩ hlow hF
   ·cases h'
 ·cases hq
/- a part that more code follows -/
def HeadIn (P : Program) (C : Cx) (N : Nat) (todo : List Item) (σ σ' : Kn) : Prop :=
 match todo with
 | [.code (.seq x (.seq y z)), .inLoop _] => ∀ (ro : Option Nat) (n : Nat) (d : Code) (Q : Exit → Act → World → Prop), (∀ (β : Bs) (a : Act) (w : World), Rel C N β (fun k => k < σ'.n) σ' a w → d.wpIn (FW ro) n P Q a w) →
   ∀ (β : Bs) (a : Act) (w : World), Rel C N β (fun k => k < σ.n) σ a w → (Code.seq x (.seq y (.seq z d))).wpIn (FW ro) n P Q a w
 | _ => False
theorem run_head {P : Program} {f : FuncId} {fn : Func} {N : Nat} {C : Cx} {todo : List Item} {σ : Kn} {ok : Bool} {cr : List Ob} (σ' : Kn) (m : Nat) (hs : List Eff) (ds st : List Bool) (rw : List (Nat × Nat)) (_hf : P.funcs[f]? = some fn)
  (h : cutOf (σ'.T.map (·.1)) (σ'.H.map (·.1)) (runT P fn N rw m todo σ hs ds st) = some ([.code .skip, .inLoop .skip], σ'.T.map (fun x => some x.2), σ'.H.map (fun x => some x.2), ok, cr)) (hok : ok = true) (hcr : ∀ c, c ∈ cr → ObOK P c) (hlow : σ'.Low) (hF : ∀ k, C.F k → k < σ'.n)
  (hq : (match todo with
   | [.code (.seq x (.seq y z)), .inLoop _] => quiet x && (quiet y && quiet z)
   | _ => false) = true) (hst : st = [true]) : HeadIn P C N todo σ σ' := by
 obtain ⟨σ1, oks, h1, ho, h2, h3⟩ := cutOf_some h
 subst hst
 split at hq
 ·rename_i _ x y z X _
  intro ro n d Q hd β a w hr
  simp only [Bool.and_eq_true] at hq
  cases m with
  | zero => cases h1
  | succ m =>
   refine wpIn_seq (wpIn_mono (runT_fw x _ m σ hs ds _ β a w hq.1 h1 (ho.trans hok) hcr hr) fun e a' w' hl => ?_)
   obtain ⟨rfl, β', σ2, m', hs', ds', r', hr', h', ho', hok', hcr'⟩ := hl
   cases m' with
   | zero => cases h'
   | succ m' =>
    refine wpIn_seq (wpIn_mono (runT_fw y _ m' σ2 hs' ds' r' β' a' w' hq.2.1 h' hok' hcr' hr') fun e a' w' hl => ?_)
    obtain ⟨rfl, β', σ2, m', hs', ds', r', hr', h', ho2, hok', hcr'⟩ := hl
    refine wpIn_seq (wpIn_mono (runT_fw z _ m' σ2 hs' ds' r' β' a' w' hq.2.2 h' hok' hcr' hr') fun e a' w' hl => ?_)
    obtain ⟨rfl, β', σ2, m', hs', ds', r', hr', h', ho3, _, _⟩ := hl
    refine hd β' a' w' ?_
    cases m' with
    | zero => cases h'
    | succ m' =>
     unfold runT at h'
     simp only at h'
     split at h'
     ·injection h' with h'
      subst h'
      have ho4 := ho3.trans (ho2.trans ho')
      injection ho4 with ho4
      injection ho4 with _ ho4
      subst ho4
      exact hr'.weaken ⟨map_look h2, map_look h3⟩ hlow hF
     ·cases h'
 ·cases hq
/- the code of a range over a function: what lies ahead of it, its round -/
def headR (fn : Func) : Code :=
 match bodyOf fn with
 | .seq x (.seq y (.seq z _)) => .seq x (.seq y z)
 | c => c
def bodyR (fn : Func) : Code :=
 match bodyOf fn with
 | .seq _ (.seq _ (.seq _ (.block _ (.rangeFunc _ _ _ c)))) => c
 | c => c
section
variable {L : List Ins} {p r x : Nat} {C : Cx} {A : List (V6 Bool)} {b a1 : V6 Bool}
theorem rdTop_w0 (h : (decide ((p : Int) ≤ (p : Int)) && decide ((p : Int) ≤ 1099511627776) && true && true) = true) (c0 : Eff.mk (.c (.sl 4 0 (p : Int).toNat (p : Int).toNat)) [] (some (1 + 1 + 2, Ent.mk true (rows (p : Int).toNat [.b false, .b false, .b false, .b false, .b false, .b false]) 0)) = Eff.mk (.c (.sl 4 0 p p)) [] (some (4, Ent.mk true (rcell (List.replicate p no6)) 0))) (c1 : CO 94 [.c (.i (p : Int))] [] (Eff.mk (.c (.f 126 [9])) [] (some (9, Ent.mk true [.i (p : Int)] 0)))) (lo : Kn.Low ⟨[(1, .c (.w 1)), (2, .c (.w 5)), (10, .c (.f 126 [9]))], [(0, Ent.mk true (pcell L) 5), (1, Ent.mk true [.sx 0 p] 0), (4, Ent.mk true (rcell (List.replicate p no6)) 0), (5, Ent.mk true [.sl 4 0 p p] 0), (9, Ent.mk true [.i (p : Int)] 0)], 10⟩) (hF : ∀ k, C.F k → k < 10) :
  HeadIn Tryz.prog C Tryz.f56.ntmps ([Item.code (headR Tryz.f56), Item.inLoop Code.skip]) (Kn.start [.c (.sx 0 p)] [(0, Ent.mk true (pcell L) 5)] 1) ⟨[(1, .c (.w 1)), (2, .c (.w 5)), (10, .c (.f 126 [9]))], [(0, Ent.mk true (pcell L) 5), (1, Ent.mk true [.sx 0 p] 0), (4, Ent.mk true (rcell (List.replicate p no6)) 0), (5, Ent.mk true [.sl 4 0 p p] 0), (9, Ent.mk true [.i (p : Int)] 0)], 10⟩ :=
 run_head ⟨[(1, .c (.w 1)), (2, .c (.w 5)), (10, .c (.f 126 [9]))], [(0, Ent.mk true (pcell L) 5), (1, Ent.mk true [.sx 0 p] 0), (4, Ent.mk true (rcell (List.replicate p no6)) 0), (5, Ent.mk true [.sl 4 0 p p] 0), (9, Ent.mk true [.i (p : Int)] 0)], 10⟩ 2000 [Eff.mk (.c (.sl 4 0 p p)) [] (some (4, Ent.mk true (rcell (List.replicate p no6)) 0)), Eff.mk (.c (.f 126 [9])) [] (some (9, Ent.mk true [.i (p : Int)] 0))] [] ([true]) [(1, 2)] Tryz.func56 (by kernel_rfl) h (cr_same c0 (cr_cons c1 cr_nil)) lo hF rfl rfl
theorem rdD_w0 (h : (decide ((x : Int) < (p : Int)) && (Nat.ble ((x : Int).toNat * 5 + 5) (pcell L).length && (decide ((x : Int) ≤ (p : Int)) && decide ((p : Int) ≤ (p : Int)) && decide ((p : Int) ≤ (p : Int)) && decide ((x : Int) < (p : Int)) && (decide ((x : Int) < (p : Int)) && (Nat.ble ((x : Int).toNat * 5 + 5) (pcell L).length && (decide ((elt L x).op ≤ 10) && (decide ((x : Int) < (p : Int)) && (AC.isI ((pcell L)[(x : Int).toNat * 5 + 1]?.getD (.b false)) && Nat.blt ((x : Int).toNat * 5 + 1) (pcell L).length && (decide (0 ≤ (elt L x).d) && decide ((elt L x).d < 6) && (AC.isB ((bcs b)[((elt L x).d).toNat * 1]?.getD (.b false)) && Nat.blt (((elt L x).d).toNat * 1) (bcs b).length && (!b.get ((elt L x).d).toNat && (decide ((x : Int) < (p : Int)) && (Nat.ble ((x : Int).toNat * 5 + 5) (pcell L).length && true && (decide ((x : Int) < (p : Int)) && (Nat.ble ((x : Int).toNat * 5 + 5) (pcell (L.set x onI)).length && (decide ((x : Int) < (p : Int)) && (Nat.ble (0 + (x : Int).toNat * 6 + (bcs a1).length) (rcell A).length && true && true))))))))))))))))) = true) (c0 : pe (.ag (((pcell L).drop ((x : Int).toNat * 5)).take 5)) = pe (.ag (elt L x).cs)) (c1 : pe (.c (.sl 4 (0 + (x : Int).toNat * 6) (((p : Int)).toNat - (x : Int).toNat) (((p : Int)).toNat - (x : Int).toNat))) = pe (.c (.sl 4 (x * 6) (p - x) (p - x)))) (c2 : CO 95 [.ag (elt L x).cs, .c (.sl 4 (x * 6) (p - x) (p - x))] [(4, Ent.mk true (rcell A) 0)] (pe (.ag (bcs b)))) (c3 : pe (.ag (((pcell L).drop ((x : Int).toNat * 5)).take 5)) = pe (.ag (elt L x).cs)) (c4 : Ok 96 [.ag (elt L x).cs] (.c (.b (decide ((elt L x).op ≤ 10))))) (c5 : pe (.c (.i (AC.asI ((pcell L)[(x : Int).toNat * 5 + 1]?.getD (.b false))))) = pe (.c (.i (elt L x).d))) (c6 : pe (.c (.b (AC.asB ((bcs b)[((elt L x).d).toNat * 1]?.getD (.b false))))) = pe (.c (.b (b.get ((elt L x).d).toNat)))) (c7 : Ok 91 [] (.ag onI.cs)) (c8 : we 0 (splice (pcell L) ((x : Int).toNat * 5) onI.cs) = we 0 (pcell (L.set x onI))) (c9 : pe (.ag (((pcell (L.set x onI)).drop ((x : Int).toNat * 5)).take 5)) = pe (.ag onI.cs)) (c10 : Ok 97 [.ag onI.cs, .ag (bcs b)] (.ag (bcs a1))) (c11 : we 4 (splice (rcell A) (0 + (x : Int).toNat * 6) (bcs a1)) = we 4 (rcell (A.set x a1))) (lo : Kn.Low ⟨[(1, .c (.w 1)), (2, .c (.w 5))], [(0, Ent.mk true (pcell (L.set x onI)) 0), (1, Ent.mk true [.sx 0 p] 0), (4, Ent.mk true (rcell (A.set x a1)) 0), (5, Ent.mk true [.sl 4 0 p p] 0)], 10⟩) (hF : ∀ k, C.F k → k < 10) :
  PartIn Tryz.prog C Tryz.f56.ntmps ([Item.code (bodyR Tryz.f56), Item.inLoop Code.skip]) (Kn.mk [(1, .c (.w 1)), (2, .c (.w 5)), (3, .c (.i (x : Int)))] [(0, Ent.mk true (pcell L) r), (1, Ent.mk true [.sx 0 p] 0), (4, Ent.mk true (rcell A) 0), (5, Ent.mk true [.sl 4 0 p p] 0)] 10) ⟨[(1, .c (.w 1)), (2, .c (.w 5))], [(0, Ent.mk true (pcell (L.set x onI)) 0), (1, Ent.mk true [.sx 0 p] 0), (4, Ent.mk true (rcell (A.set x a1)) 0), (5, Ent.mk true [.sl 4 0 p p] 0)], 10⟩ :=
 run_part ⟨[(1, .c (.w 1)), (2, .c (.w 5))], [(0, Ent.mk true (pcell (L.set x onI)) 0), (1, Ent.mk true [.sx 0 p] 0), (4, Ent.mk true (rcell (A.set x a1)) 0), (5, Ent.mk true [.sl 4 0 p p] 0)], 10⟩ 2000 [pe (.ag (elt L x).cs), pe (.c (.sl 4 (x * 6) (p - x) (p - x))), pe (.ag (bcs b)), pe (.ag (elt L x).cs), pe (.c (.b (decide ((elt L x).op ≤ 10)))), pe (.c (.i (elt L x).d)), pe (.c (.b (b.get ((elt L x).d).toNat))), pe (.ag onI.cs), we 0 (pcell (L.set x onI)), pe (.ag onI.cs), pe (.ag (bcs a1)), we 4 (rcell (A.set x a1))] [true, true] ([true]) [(4, 3), (4, 6), (5, 3), (5, 10), (5, 12), (6, 4), (7, 5), (7, 9)] Tryz.func56 (by kernel_rfl) h (cr_same c0 (cr_same c1 (cr_cons c2 (cr_same c3 (cr_cons c4 (cr_same c5 (cr_same c6 (cr_cons c7 (cr_same c8 (cr_same c9 (cr_cons c10 (cr_same c11 cr_nil)))))))))))) lo hF rfl rfl
theorem rdK_w0 (h : (decide ((x : Int) < (p : Int)) && (Nat.ble ((x : Int).toNat * 5 + 5) (pcell L).length && (decide ((x : Int) ≤ (p : Int)) && decide ((p : Int) ≤ (p : Int)) && decide ((p : Int) ≤ (p : Int)) && decide ((x : Int) < (p : Int)) && (decide ((x : Int) < (p : Int)) && (Nat.ble ((x : Int).toNat * 5 + 5) (pcell L).length && (decide ((elt L x).op ≤ 10) && (decide ((x : Int) < (p : Int)) && (AC.isI ((pcell L)[(x : Int).toNat * 5 + 1]?.getD (.b false)) && Nat.blt ((x : Int).toNat * 5 + 1) (pcell L).length && (decide (0 ≤ (elt L x).d) && decide ((elt L x).d < 6) && (AC.isB ((bcs b)[((elt L x).d).toNat * 1]?.getD (.b false)) && Nat.blt (((elt L x).d).toNat * 1) (bcs b).length && (!!b.get ((elt L x).d).toNat && (decide ((x : Int) < (p : Int)) && (Nat.ble ((x : Int).toNat * 5 + 5) (pcell L).length && (decide ((x : Int) < (p : Int)) && (Nat.ble (0 + (x : Int).toNat * 6 + (bcs a1).length) (rcell A).length && true && true))))))))))))))) = true) (c0 : pe (.ag (((pcell L).drop ((x : Int).toNat * 5)).take 5)) = pe (.ag (elt L x).cs)) (c1 : pe (.c (.sl 4 (0 + (x : Int).toNat * 6) (((p : Int)).toNat - (x : Int).toNat) (((p : Int)).toNat - (x : Int).toNat))) = pe (.c (.sl 4 (x * 6) (p - x) (p - x)))) (c2 : CO 95 [.ag (elt L x).cs, .c (.sl 4 (x * 6) (p - x) (p - x))] [(4, Ent.mk true (rcell A) 0)] (pe (.ag (bcs b)))) (c3 : pe (.ag (((pcell L).drop ((x : Int).toNat * 5)).take 5)) = pe (.ag (elt L x).cs)) (c4 : Ok 96 [.ag (elt L x).cs] (.c (.b (decide ((elt L x).op ≤ 10))))) (c5 : pe (.c (.i (AC.asI ((pcell L)[(x : Int).toNat * 5 + 1]?.getD (.b false))))) = pe (.c (.i (elt L x).d))) (c6 : pe (.c (.b (AC.asB ((bcs b)[((elt L x).d).toNat * 1]?.getD (.b false))))) = pe (.c (.b (b.get ((elt L x).d).toNat)))) (c7 : pe (.ag (((pcell L).drop ((x : Int).toNat * 5)).take 5)) = pe (.ag (elt L x).cs)) (c8 : Ok 97 [.ag (elt L x).cs, .ag (bcs b)] (.ag (bcs a1))) (c9 : we 4 (splice (rcell A) (0 + (x : Int).toNat * 6) (bcs a1)) = we 4 (rcell (A.set x a1))) (lo : Kn.Low ⟨[(1, .c (.w 1)), (2, .c (.w 5))], [(0, Ent.mk true (pcell L) r), (1, Ent.mk true [.sx 0 p] 0), (4, Ent.mk true (rcell (A.set x a1)) 0), (5, Ent.mk true [.sl 4 0 p p] 0)], 10⟩) (hF : ∀ k, C.F k → k < 10) :
  PartIn Tryz.prog C Tryz.f56.ntmps ([Item.code (bodyR Tryz.f56), Item.inLoop Code.skip]) (Kn.mk [(1, .c (.w 1)), (2, .c (.w 5)), (3, .c (.i (x : Int)))] [(0, Ent.mk true (pcell L) r), (1, Ent.mk true [.sx 0 p] 0), (4, Ent.mk true (rcell A) 0), (5, Ent.mk true [.sl 4 0 p p] 0)] 10) ⟨[(1, .c (.w 1)), (2, .c (.w 5))], [(0, Ent.mk true (pcell L) r), (1, Ent.mk true [.sx 0 p] 0), (4, Ent.mk true (rcell (A.set x a1)) 0), (5, Ent.mk true [.sl 4 0 p p] 0)], 10⟩ :=
 run_part ⟨[(1, .c (.w 1)), (2, .c (.w 5))], [(0, Ent.mk true (pcell L) r), (1, Ent.mk true [.sx 0 p] 0), (4, Ent.mk true (rcell (A.set x a1)) 0), (5, Ent.mk true [.sl 4 0 p p] 0)], 10⟩ 2000 [pe (.ag (elt L x).cs), pe (.c (.sl 4 (x * 6) (p - x) (p - x))), pe (.ag (bcs b)), pe (.ag (elt L x).cs), pe (.c (.b (decide ((elt L x).op ≤ 10)))), pe (.c (.i (elt L x).d)), pe (.c (.b (b.get ((elt L x).d).toNat))), pe (.ag (elt L x).cs), pe (.ag (bcs a1)), we 4 (rcell (A.set x a1))] [true, false] ([true]) [(4, 3), (4, 6), (5, 3), (5, 10), (5, 12), (6, 4), (7, 5), (7, 9)] Tryz.func56 (by kernel_rfl) h (cr_same c0 (cr_same c1 (cr_cons c2 (cr_same c3 (cr_cons c4 (cr_same c5 (cr_same c6 (cr_same c7 (cr_cons c8 (cr_same c9 cr_nil)))))))))) lo hF rfl rfl
theorem rdN_w0 (h : (decide ((x : Int) < (p : Int)) && (Nat.ble ((x : Int).toNat * 5 + 5) (pcell L).length && (decide ((x : Int) ≤ (p : Int)) && decide ((p : Int) ≤ (p : Int)) && decide ((p : Int) ≤ (p : Int)) && decide ((x : Int) < (p : Int)) && (decide ((x : Int) < (p : Int)) && (Nat.ble ((x : Int).toNat * 5 + 5) (pcell L).length && (!decide ((elt L x).op ≤ 10) && (decide ((x : Int) < (p : Int)) && (Nat.ble ((x : Int).toNat * 5 + 5) (pcell L).length && (decide ((x : Int) < (p : Int)) && (Nat.ble (0 + (x : Int).toNat * 6 + (bcs a1).length) (rcell A).length && true && true)))))))))) = true) (c0 : pe (.ag (((pcell L).drop ((x : Int).toNat * 5)).take 5)) = pe (.ag (elt L x).cs)) (c1 : pe (.c (.sl 4 (0 + (x : Int).toNat * 6) (((p : Int)).toNat - (x : Int).toNat) (((p : Int)).toNat - (x : Int).toNat))) = pe (.c (.sl 4 (x * 6) (p - x) (p - x)))) (c2 : CO 95 [.ag (elt L x).cs, .c (.sl 4 (x * 6) (p - x) (p - x))] [(4, Ent.mk true (rcell A) 0)] (pe (.ag (bcs b)))) (c3 : pe (.ag (((pcell L).drop ((x : Int).toNat * 5)).take 5)) = pe (.ag (elt L x).cs)) (c4 : Ok 96 [.ag (elt L x).cs] (.c (.b (decide ((elt L x).op ≤ 10))))) (c5 : pe (.ag (((pcell L).drop ((x : Int).toNat * 5)).take 5)) = pe (.ag (elt L x).cs)) (c6 : Ok 97 [.ag (elt L x).cs, .ag (bcs b)] (.ag (bcs a1))) (c7 : we 4 (splice (rcell A) (0 + (x : Int).toNat * 6) (bcs a1)) = we 4 (rcell (A.set x a1))) (lo : Kn.Low ⟨[(1, .c (.w 1)), (2, .c (.w 5))], [(0, Ent.mk true (pcell L) r), (1, Ent.mk true [.sx 0 p] 0), (4, Ent.mk true (rcell (A.set x a1)) 0), (5, Ent.mk true [.sl 4 0 p p] 0)], 10⟩) (hF : ∀ k, C.F k → k < 10) :
  PartIn Tryz.prog C Tryz.f56.ntmps ([Item.code (bodyR Tryz.f56), Item.inLoop Code.skip]) (Kn.mk [(1, .c (.w 1)), (2, .c (.w 5)), (3, .c (.i (x : Int)))] [(0, Ent.mk true (pcell L) r), (1, Ent.mk true [.sx 0 p] 0), (4, Ent.mk true (rcell A) 0), (5, Ent.mk true [.sl 4 0 p p] 0)] 10) ⟨[(1, .c (.w 1)), (2, .c (.w 5))], [(0, Ent.mk true (pcell L) r), (1, Ent.mk true [.sx 0 p] 0), (4, Ent.mk true (rcell (A.set x a1)) 0), (5, Ent.mk true [.sl 4 0 p p] 0)], 10⟩ :=
 run_part ⟨[(1, .c (.w 1)), (2, .c (.w 5))], [(0, Ent.mk true (pcell L) r), (1, Ent.mk true [.sx 0 p] 0), (4, Ent.mk true (rcell (A.set x a1)) 0), (5, Ent.mk true [.sl 4 0 p p] 0)], 10⟩ 2000 [pe (.ag (elt L x).cs), pe (.c (.sl 4 (x * 6) (p - x) (p - x))), pe (.ag (bcs b)), pe (.ag (elt L x).cs), pe (.c (.b (decide ((elt L x).op ≤ 10)))), pe (.ag (elt L x).cs), pe (.ag (bcs a1)), we 4 (rcell (A.set x a1))] [false, false] ([true]) [(4, 3), (4, 6), (5, 3), (5, 10), (5, 12), (6, 4), (7, 5), (7, 9)] Tryz.func56 (by kernel_rfl) h (cr_same c0 (cr_same c1 (cr_cons c2 (cr_same c3 (cr_cons c4 (cr_same c5 (cr_cons c6 (cr_same c7 cr_nil)))))))) lo hF rfl rfl
end
abbrev rdH (L : List Ins) (A : List (V6 Bool)) (p r : Nat) : List (Nat × Ent) := [(0, ⟨true, pcell L, r⟩), (1, ⟨true, [.sx 0 p], 0⟩), (4, ⟨true, rcell A, 0⟩), (5, ⟨true, [.sl 4 0 p p], 0⟩)]
abbrev rdKn (L : List Ins) (A : List (V6 Bool)) (p r x : Nat) : Kn := ⟨[(1, .c (.w 1)), (2, .c (.w 5)), (3, .c (.i (x : Int)))], rdH L A p r, 10⟩
abbrev rdEnd (L : List Ins) (A : List (V6 Bool)) (p r : Nat) : Kn := ⟨[(1, .c (.w 1)), (2, .c (.w 5))], rdH L A p r, 10⟩
theorem rdH_look {L : List Ins} {A : List (V6 Bool)} {p r k : Nat} {e : Ent} (h : look (rdH L A p r) k = some e) : (k = 0 ∧ e = ⟨true, pcell L, r⟩) ∨ (k = 1 ∧ e = ⟨true, [.sx 0 p], 0⟩) ∨ (k = 4 ∧ e = ⟨true, rcell A, 0⟩) ∨ (k = 5 ∧ e = ⟨true, [.sl 4 0 p p], 0⟩) := by
 rw [look_cons] at h
 split at h
 ·rename_i hk; injection h with h; exact Or.inl ⟨hk, h.symm⟩
 ·rw [look_cons] at h
  split at h
  ·rename_i hk; injection h with h; exact Or.inr (Or.inl ⟨hk, h.symm⟩)
  ·rw [look_cons] at h
   split at h
   ·rename_i hk; injection h with h; exact Or.inr (Or.inr (Or.inl ⟨hk, h.symm⟩))
   ·exact Or.inr (Or.inr (Or.inr (one_look h)))
theorem rdH_low {L : List Ins} {A : List (V6 Bool)} {p r k : Nat} {e : Ent} (h : look (rdH L A p r) k = some e) : k < 10 ∧ ∀ c, c ∈ e.cells → ∀ j, j ∈ c.ks → j < 10 := by
 rcases rdH_look h with ⟨rfl, rfl⟩ | ⟨rfl, rfl⟩ | ⟨rfl, rfl⟩ | ⟨rfl, rfl⟩
 ·exact ⟨by decide, fun c hc j hj => (nk_of (pcell_ks L) hc hj).elim⟩
 ·refine ⟨by decide, fun c hc j hj => ?_⟩
  rw [List.mem_singleton.1 hc] at hj
  rw [List.mem_singleton.1 hj]; decide
 ·exact ⟨by decide, fun c hc j hj => (nk_of (rcell_ks A) hc hj).elim⟩
 ·refine ⟨by decide, fun c hc j hj => ?_⟩
  rw [List.mem_singleton.1 hc] at hj
  rw [List.mem_singleton.1 hj]; decide
theorem low_t {T : List (Nat × AV)} {n : Nat} (h : (T.flatMap fun x => x.2.ks).all (fun k => Nat.blt k n) = true) (t : Nat) (v : AV) (hv : look T t = some v) (k : Nat) (hk : k ∈ v.ks) : k < n := by
 have h1 : k ∈ T.flatMap fun x => x.2.ks := List.mem_flatMap.2 ⟨(t, v), look_mem hv, hk⟩
 have h2 := List.all_eq_true.1 h k h1
 simpa using h2
theorem rd_low (L : List Ins) (A : List (V6 Bool)) (p r : Nat) : Kn.Low (rdEnd L A p r) := ⟨low_t rfl, fun _ _ h => rdH_low h⟩
theorem liveBehind_4 {i : Ins} {A : List (V6 Bool)} {x c : Nat} (hx : x < A.length) (hA : A.length ≤ 64) (hr : Right i ((A.length - 1 - x : Nat) : Int)) (hl : i.op = 15 ∨ x + 1 < A.length) :
  CallOK Tryz.prog ⟨95, [.ag i.cs, .c (.sl 4 (x * 6) (A.length - x) c)], [(4, ⟨true, rcell A, 0⟩)], ⟨.ag (bcs (liveK i A x)), [], none⟩⟩ := by
 refine CallOK.more (H := [(4, ⟨false, rcell A, 0⟩)]) ?_ ⟨fun j en hj => ?_⟩
 ·refine ((liveBehind_ok (c := c) hx hA hr hl).ren (swp 0 4) (swp_inj 0 4)).congr ?_
  unfold CallRec.ren Eff.ren renH
  simp only [List.map_cons, List.map_nil, Option.map_none, Ent.ren, ren_nk _ (rcell_ks _)]
  rfl
 ·obtain ⟨rfl, rfl⟩ := one_look hj
  exact ⟨⟨true, rcell A, 0⟩, rfl, rfl, fun h => (by cases h), Or.inl rfl⟩
theorem set_self {L : List Ins} {x : Nat} (h : x < L.length) : L.set x (elt L x) = L := by
 unfold elt
 rw [List.getD_eq_getElem?_getD, List.getElem?_eq_getElem h]
 exact List.set_getElem_self h
theorem round_in {n r x : Nat} {s : List Ins × List (V6 Bool)} (h : DOk n s) (hn : n ≤ 64) (hx : x < n) {C : Cx} (hF : ∀ k, C.F k → k < 10) :
  ∃ r', PartIn Tryz.prog C Tryz.f56.ntmps [Item.code (bodyR Tryz.f56), Item.inLoop Code.skip] (rdKn s.1 s.2 n r x) (rdEnd (stepD s x).1 (stepD s x).2 n r') := by
 obtain ⟨L, A⟩ := s
 have h1 : L.length = n := h.l1
 have h2 : A.length = n := h.l2
 have hr : Right (elt L x) ((n - 1 - x : Nat) : Int) := h.right x hx
 have hl : (elt L x).op = 15 ∨ x + 1 < n := h.last x hx
 have hd : Right (deadI (elt L x) (liveK (elt L x) A x)) ((n - 1 - x : Nat) : Int) := by
  have := (h.step hx).right x hx
  change Right (elt (L.set x _) x) _ at this
  rwa [elt_set (by omega), if_pos rfl] at this
 have cB := liveBehind_4 (i := elt L x) (A := A) (x := x) (c := n - x) (by omega) (by omega) (by rw [h2]; exact hr) (by rw [h2]; exact hl)
 rw [h2] at cB
 have cA := liveAhead_ok hd (liveK (elt L x) A x)
 show ∃ r', PartIn _ _ _ _ _ (rdEnd (L.set x (deadI (elt L x) (liveK (elt L x) A x))) (A.set x (liveA (deadI (elt L x) (liveK (elt L x) A x)) (liveK (elt L x) A x))) n r')
 generalize liveK (elt L x) A x = b at *
 have d0 : decide ((x : Int) < (n : Int)) = true := decide_eq_true (by omega)
 have d1 : ∀ M : List Ins, M.length = n → Nat.ble (Int.toNat (x : Int) * 5 + 5) (pcell M).length = true := fun M hM => by rw [pcell_length, hM, Nat.ble_eq]; omega
 have d2 : (decide ((x : Int) ≤ (n : Int)) && decide ((n : Int) ≤ (n : Int)) && decide ((n : Int) ≤ (n : Int)) && decide ((x : Int) < (n : Int))) = true := by simp; omega
 have d3 : ∀ u : V6 Bool, (Nat.ble (0 + Int.toNat (x : Int) * 6 + List.length (bcs u)) (rcell A).length && true && true) = true := fun u => by
  rw [show List.length (bcs u) = 6 from rfl, rcell_len, Bool.and_true, Bool.and_true, Nat.ble_eq]; omega
 have e0 : ∀ M : List Ins, M.length = n → Eff.mk (AV.ag (List.take 5 (List.drop (Int.toNat (x : Int) * 5) (pcell M)))) [] none = Eff.mk (AV.ag (elt M x).cs) [] none := fun M hM => by rw [Int.toNat_natCast, pcell_elt (by omega)]
 have e1 : Eff.mk (AV.c (AC.sl 4 (0 + Int.toNat (x : Int) * 6) (Int.toNat (n : Int) - Int.toNat (x : Int)) (Int.toNat (n : Int) - Int.toNat (x : Int)))) [] none = Eff.mk (AV.c (AC.sl 4 (x * 6) (n - x) (n - x))) [] none := by
  rw [Int.toNat_natCast, Int.toNat_natCast, Nat.zero_add]
 have e2 : ∀ u : V6 Bool, Eff.mk (AV.raw undef) [(4, splice (rcell A) (0 + Int.toNat (x : Int) * 6) (bcs u))] none = Eff.mk (AV.raw undef) [(4, rcell (A.set x u))] none := fun u => by rw [Nat.zero_add, Int.toNat_natCast, rcell_set u (by omega)]
 have cS := sets_ok (elt L x)
 have hI : (elt L x).op ≤ 10 → (AC.isI (Option.getD (pcell L)[Int.toNat (x : Int) * 5 + 1]? (AC.b false)) && Nat.blt (Int.toNat (x : Int) * 5 + 1) (pcell L).length) = true ∧ Eff.mk (AV.c (AC.i (AC.asI (Option.getD (pcell L)[Int.toNat (x : Int) * 5 + 1]? (AC.b false))))) [] none = Eff.mk (AV.c (AC.i (elt L x).d)) [] none := fun _ => by
  have : (pcell L)[Int.toNat (x : Int) * 5 + 1]? = some (AC.i (elt L x).d) := by
   have := pcell_elt (L := L) (k := x) (by omega)
   have h3 := congrArg (fun l => l[1]?) this
   simp only [List.getElem?_take, List.getElem?_drop] at h3
   rw [if_pos (by decide)] at h3
   rw [Int.toNat_natCast]
   exact h3
  rw [this]
  refine ⟨?_, rfl⟩
  rw [Bool.and_eq_true]
  refine ⟨rfl, ?_⟩
  rw [pcell_length, h1, Nat.blt_eq]; omega
 by_cases ho : (elt L x).op ≤ 10
 ·have hB := sets_reg hr ho
  obtain ⟨g1, g2⟩ := hI ho
  cases hg : b.get (elt L x).d.toNat with
  | false =>
   have eD : deadI (elt L x) b = onI := by unfold deadI; rw [hg, decide_eq_true ho]; rfl
   rw [eD] at cA ⊢
   have hs : elt (L.set x onI) x = onI := by rw [elt_set (by omega), if_pos rfl]
   refine ⟨0, rdD_w0 (b := b) (a1 := liveA onI b) (and_yes d0 (and_yes (d1 L h1) (and_yes d2 (and_yes d0 (and_yes (d1 L h1) (and_yes (decide_eq_true ho) (and_yes d0 (and_yes g1 (and_yes hB (and_yes (be_ok b hB) (and_yes (by rw [hg]; rfl) (and_yes d0 (and_yes (by rw [d1 L h1]; rfl) (and_yes d0 (and_yes (d1 _ (by rw [List.length_set]; exact h1)) (and_yes d0 (d3 _))))))))))))))))) (e0 L h1) e1 cB (e0 L h1) cS g2 (b_eff b hB) on_ok (by rw [Int.toNat_natCast]; exact congrArg (fun l => Eff.mk (AV.raw undef) [(0, l)] none) (pcell_set (L := L) onI (by omega))) ((e0 _ (by rw [List.length_set]; exact h1)).trans (by rw [hs])) cA (e2 _) (rd_low _ _ _ _) hF⟩
  | true =>
   have eD : deadI (elt L x) b = elt L x := by unfold deadI; rw [hg, if_neg (by simp)]
   rw [eD] at cA ⊢
   rw [set_self (by omega)]
   exact ⟨r, rdK_w0 (b := b) (a1 := liveA (elt L x) b) (and_yes d0 (and_yes (d1 L h1) (and_yes d2 (and_yes d0 (and_yes (d1 L h1) (and_yes (decide_eq_true ho) (and_yes d0 (and_yes g1 (and_yes hB (and_yes (be_ok b hB) (and_yes (by rw [hg]; rfl) (and_yes d0 (and_yes (d1 L h1) (and_yes d0 (d3 _))))))))))))))) (e0 L h1) e1 cB (e0 L h1) cS g2 (b_eff b hB) (e0 L h1) cA (e2 _) (rd_low _ _ _ _) hF⟩
 ·have eD : deadI (elt L x) b = elt L x := by unfold deadI; rw [decide_eq_false ho, if_neg (by simp)]
  rw [eD] at cA ⊢
  rw [set_self (by omega)]
  exact ⟨r, rdN_w0 (b := b) (a1 := liveA (elt L x) b) (and_yes d0 (and_yes (d1 L h1) (and_yes d2 (and_yes d0 (and_yes (d1 L h1) (and_yes (by rw [decide_eq_false ho]; rfl) (and_yes d0 (and_yes (d1 L h1) (and_yes d0 (d3 _)))))))))) (e0 L h1) e1 cB (e0 L h1) cS (e0 L h1) cA (e2 _) (rd_low _ _ _ _) hF⟩
end Go.Proofs.YtkigmocchaikgabGreat
/- fold.fromBehind's closure: the numbers of n steps, from the last one to the first one, for every loop. -/
namespace Go.Proofs.YtkigmocchaikgabGreat
open Go.RowKit Go.Shelf
section
attribute [local go_sem] Oper.semAt_some
abbrev Upto (n : Nat) : Type := { x : Nat // x < n }
def downN (n : Nat) (h : 0 < n) (j : Nat) : Upto n := ⟨n - 1 - j, by omega⟩
def down (n : Nat) (h : 0 < n) (k : Nat) : List (Upto n) := (List.range k).map (downN n h)
theorem down_succ (n : Nat) (h : 0 < n) (k : Nat) : down n h (k + 1) = down n h k ++ [downN n h k] := by simp [down, List.range_succ]
theorem down_length (n : Nat) (h : 0 < n) (k : Nat) : (down n h k).length = k := by simp [down]
abbrev encN {n : Nat} (x : Upto n) : Array Value := #[Value.int .i64 (x.1 : Int)]
set_option maxRecDepth 100000 in
set_option maxHeartbeats 2000000 in
theorem behind_in {n : Nat} (hn : 0 < n) (h64 : n ≤ 64) (m l : Nat) (p : Addr) (hm : 1 ≤ m) (J Jx : List (Upto n) → World → Prop)
  (hY : ∀ pre x W, J pre W → pre.length < n → YieldAt Fence.wide (m - 1) Tryz.prog l (encN x) W fun e W' =>
   (e = .returned (.bool true) ∧ J (pre ++ [x]) W' ∧ True) ∨ (e = .returned (.bool false) ∧ Jx (pre ++ [x]) W'))
  (W : World) (hB : W.cell? p = some (.int .i64 (n : Int))) (h0 : J [] W) :
  CallsIn Fence.wide m Tryz.prog 126 #[.func (.yield l) #[] #[], .pointer (some p)] W fun e W' => (∃ v, e = .returned v) ∧
   ((∃ ys, ys = down n hn n ∧ J ys W') ∨ (∃ pre, True ∧ Jx pre W')) := by
 refine callsIn_of_wp Tryz.func126 rfl trivial ?_ rfl
 simp only [Tryz.ntmps126, List.size_toArray, List.length_cons, List.length_nil, Nat.reduceAdd, Nat.reduceSub, Array.replicate_succ, Array.replicate_zero, List.push_toArray, List.append_toArray, List.nil_append, List.cons_append]
 gi_wp2
 gi_loopw [3] (fun i wr => ∃ k : Nat, k ≤ n ∧ i = .int .i64 ((n : Int) - 1 - k) ∧ J (down n hn k) wr)
  (fun i _ => ((intOf i) + 1).toNat)
 case atStart => exact ⟨0, Nat.zero_le _, by simp, h0⟩
 case round =>
  obtain ⟨k, hk, rfl, hJs⟩ := hrel
  by_cases hlt : k < n
  ·obtain ⟨fn, tmps, assign, body, hy, hR⟩ := hY _ (downN n hn k) wr hJs (by rw [down_length]; exact hlt)
   have e1 : ((n - 1 - k : Nat) : Int) = (n : Int) - 1 - k := by omega
   simp only [encN, downN, e1] at hy
   gi_wp2
   refine hR.mono ?_
   rintro e W3 (⟨rfl, hJ3, _⟩ | ⟨rfl, hJx3⟩)
   ·gi_wp2
    go_roundw
    case rel => exact ⟨k + 1, by omega, by simp; omega, by rw [down_succ]; exact hJ3⟩
    case measure => simp [intOf]; omega
   ·gi_wp2
    refine bodyPost_ret (results_none rfl _ _ _) rfl ?_
    exact ⟨⟨_, rfl⟩, .inr ⟨_, trivial, hJx3⟩⟩
  ·obtain rfl : k = n := by omega
   gi_wp2
   go_end0
   exact ⟨⟨_, rfl⟩, .inl ⟨_, rfl, hJs⟩⟩
theorem behind_stops {n : Nat} (hn : 0 < n) (h64 : n ≤ 64) (m : Nat) (p : Addr) (hm : 1 ≤ m) (w : World) (hB : p.block < w.heap.size) (hc : w.cell? p = some (.int .i64 (n : Int))) :
  SeqStopsK Fence.wide m Tryz.prog 126 #[.pointer (some p)] (encN (n := n)) (fun _ _ => True) (fun ys => ys = down n hn n) (fun _ => True) n w := fun l J Jx W hW _ _ hY h0 =>
 behind_in hn h64 m l p hm J Jx hY W ((hW.cell (p := p) hB).trans hc) h0
end
def asR (fn : Func) : Code :=
 match bodyOf fn with
 | .seq _ (.seq _ (.seq _ (.block _ (.rangeFunc _ _ c _)))) => c
 | c => c
theorem assign_in {l m : Nat} {t : Array Value} {v : Value} {W : World} {K : Act → World → Prop} (h11 : t[11]? = some v) (hK : K { tmps := t.setIfInBounds 3 v, defers := [] } W) : (asR Tryz.f56).wpIn (FW (some l)) m Tryz.prog (Exit.then K (fun _ _ _ => False)) { tmps := t, defers := [] } W := by
 have e : asR Tryz.f56 = Code.region 3 #[{ dst := some 3, op := .assign (.tmp 11), type := 3, pos := "dead.go:16", after := #[], guard := none }] false := by kernel_rfl
 rw [e]
 refine wpIn_region ?_
 simp [wpOpsIn, Oper.wpIn, Oper.uponIn, Region.wanted, Oper.semAt, execOp, go_sem, Act.put]
 rw [h11]
 exact hK
/- between two rounds -/
structure RI (β : Bs) (L : List Ins) (w1 : World) (pre : List (Upto L.length)) (W : World) : Prop where
 blk : ∃ r, ∀ k e, look (rdH (runD L (pre.map (·.1))).1 (runD L (pre.map (·.1))).2 L.length r) k = some e → Blk β W k e
 fr : Fr (fun B => ∃ k, k ∈ [0, 1, 4, 5] ∧ B = (β k).1) w1 W
theorem rdH_in {L : List Ins} {A : List (V6 Bool)} {p r k : Nat} {e : Ent} (h : look (rdH L A p r) k = some e) : k ∈ [0, 1, 4, 5] := by
 rcases rdH_look h with ⟨rfl, rfl⟩ | ⟨rfl, rfl⟩ | ⟨rfl, rfl⟩ | ⟨rfl, rfl⟩ <;> decide
theorem RI.below {β : Bs} {L : List Ins} {w1 W W' : World} {pre : List (Upto L.length)} (h : RI β L w1 pre W) (hlt : ∀ k, k ∈ [0, 1, 4, 5] → (β k).1 < w1.heap.size) (hb : Below w1.heap.size W W') : RI β L w1 pre W' := by
 obtain ⟨r, hr⟩ := h.blk
 refine ⟨⟨r, fun k e he => (hr k e he).congr rfl hb.size (hb.block _ (hlt k (rdH_in he))) fun _ _ _ _ => rfl⟩, ⟨hb.os.trans h.fr.os, hb.tape.trans h.fr.tape, hb.output.trans h.fr.output, Nat.le_trans h.fr.size hb.size, fun k hk hx => (hb.block k hk).trans (h.fr.block k hk hx)⟩⟩
theorem rdT_look {β : Bs} {a : Act} {x t : Nat} {v : AV} (h1 : a.tmps[1]? = some ((AV.c (AC.w 1)).g β)) (h2 : a.tmps[2]? = some ((AV.c (AC.w 5)).g β)) (h3 : a.tmps[3]? = some (.int .i64 (x : Int))) (h : look [(1, AV.c (.w 1)), (2, .c (.w 5)), (3, .c (.i (x : Int)))] t = some v) : a.tmps[t]? = some (v.g β) := by
 rw [look_cons] at h
 split at h
 ·rename_i hk; injection h with h; subst h; rw [hk]; exact h1
 ·rw [look_cons] at h
  split at h
  ·rename_i hk; injection h with h; subst h; rw [hk]; exact h2
  ·rw [look_cons] at h
   split at h
   ·rename_i hk; injection h with h; subst h; rw [hk]; exact h3
   ·cases h
theorem RI.round {β : Bs} {L : List Ins} (hP : RightP L) {w1 : World} {pre : List (Upto L.length)} {x : Upto L.length} {W : World} (h : RI β L w1 pre W) {a : Act} (hsz : a.tmps.size = Tryz.f56.ntmps) (hd : a.defers = []) (h1 : a.tmps[1]? = some ((AV.c (AC.w 1)).g β)) (h2 : a.tmps[2]? = some ((AV.c (AC.w 5)).g β)) (h3 : a.tmps[3]? = some (.int .i64 (x.1 : Int)))
  (hlt : ∀ k, k ∈ [0, 1, 4, 5] → (β k).1 < w1.heap.size) (hinj : ∀ i j, i ∈ [0, 1, 4, 5] → j ∈ [0, 1, 4, 5] → i ≠ j → (β i).1 ≠ (β j).1) (l m : Nat) :
  (bodyR Tryz.f56).wpIn (FW (some l)) m Tryz.prog (ownPostG w1.heap.size (fun _ _ => True) (RI β L w1) (fun _ _ _ => False) (pre ++ [x]) W) a W := by
 obtain ⟨r, hr⟩ := h.blk
 have hs := runD_ok hP (pre.map (·.1)) (fun y hy => by obtain ⟨z, _, rfl⟩ := List.mem_map.1 hy; exact z.2)
 obtain ⟨r', hp⟩ := round_in (r := r) hs hP.le x.2 (C := cx W β 10 [0, 1, 4, 5]) (fun k hk => hk)
 unfold PartIn at hp
 simp only at hp
 have hrel : Rel (cx W β 10 [0, 1, 4, 5]) Tryz.f56.ntmps β (fun k => k < 10) (rdKn (runD L (pre.map (·.1))).1 (runD L (pre.map (·.1))).2 L.length r x.1) a W :=
  ⟨hsz, hd, fun t v hv => ⟨rdT_look h1 h2 h3 hv, low_t rfl t v hv⟩, fun k e he => ⟨(rdH_low he).1, hr k e he, (rdH_low he).2, fun _ => Or.inr ⟨k, rdH_in he, rfl⟩⟩, fun k e k' e' he he' hne _ _ _ => hinj k k' (rdH_in he) (rdH_in he') hne, Fr.refl _ _, fun k hk => ⟨hk, rfl⟩⟩
 refine wpIn_mono (hp (some l) m β a W hrel) fun e a' W' hl => ?_
 obtain ⟨rfl, β', h'⟩ := hl
 have hfix : ∀ k, k < 10 → β' k = β k := fun k hk => (h'.fix k hk).2
 refine ⟨⟨h'.frame.size, fun k o hB hk _ => ?_⟩, trivial, ⟨⟨r', fun k e he => ?_⟩, h.fr.trans h'.frame⟩⟩
 ·refine (h'.frame.block k (Array.getElem?_eq_some_iff.1 hk).1 ?_).trans hk
  rintro ⟨j, hj, rfl⟩
  have := hlt j hj
  omega
 ·rw [List.map_append, List.map_cons, List.map_nil, runD_snoc] at he
  exact (h'.blk k e he).2.1.congr (hfix k (rdH_low he).1).symm (Nat.le_refl _) rfl fun c hc j hj => (hfix j ((rdH_low he).2 c hc j hj)).symm
theorem rid_ok {L : List Ins} (hP : RightP L) : CallOK Tryz.prog ⟨56, [.c (.sx 0 L.length)], [(0, ⟨true, pcell L, 5⟩)], ⟨.tu [], [(0, pcell (ridR L).1)], none⟩⟩ := by
 have hpos := hP.pos
 have hle := hP.le
 refine ⟨⟨fun k hk => (nomatch hk), fun k cs hm c hc j hj => ?_, fun _ _ h => (nomatch h)⟩, fun k cs hm => ?_, fun β w hB hI => ?_⟩
 ·have := List.mem_singleton.1 hm; injection this with _ h2; subst h2
  exact (nk_of (pcell_ks _) hc hj).elim
 ·have := List.mem_singleton.1 hm; injection this with h1 _; subst h1
  exact ⟨⟨true, pcell L, 5⟩, rfl, rfl, pcell_ne hpos⟩
 have hrel := rel_start (N := Tryz.f56.ntmps) (args := [.c (.sx 0 L.length)]) (begin_one (b := true) (r := 5) (cs := pcell L) rfl (pcell_ks L)) (Nat.le_of_ble_eq_true rfl) hB hI (fun B => ∃ k, k ∈ [0] ∧ B = (β k).1) (fun k e he _ => by obtain ⟨rfl, _⟩ := one_look he; exact ⟨0, by simp, rfl⟩)
 refine (callsIn_wide (n := 4)).1 (callsIn_of_wp_marks (c := bodyOf Tryz.f56) Tryz.func56 rfl trivial ?_ rfl)
 have hb : bodyOf Tryz.f56 = .seq (match headR Tryz.f56 with | .seq x _ => x | c => c) (.seq (match headR Tryz.f56 with | .seq _ (.seq y _) => y | c => c) (.seq (match headR Tryz.f56 with | .seq _ (.seq _ z) => z | c => c) (.block 0 (.rangeFunc (.tmp 10) #[11] (asR Tryz.f56) (bodyR Tryz.f56))))) := by kernel_rfl
 rw [hb]
 have cF : CallOK Tryz.prog ⟨94, [.c (.i (L.length : Int))], [], ⟨.c (.f 126 [9]), [], some (9, ⟨true, [.i (L.length : Int)], 0⟩)⟩⟩ :=
  ((fromBehind_ok (L.length : Int)).ren (swp 0 9) (swp_inj 0 9)).congr rfl
 have hlow : Kn.Low ⟨[(1, AV.c (AC.w 1)), (2, AV.c (AC.w 5)), (10, AV.c (AC.f 126 [9]))], [(0, Ent.mk true (pcell L) 5), (1, Ent.mk true [AC.sx 0 L.length] 0), (4, Ent.mk true (rcell (List.replicate L.length no6)) 0), (5, Ent.mk true [AC.sl 4 0 L.length L.length] 0), (9, Ent.mk true [AC.i (L.length : Int)] 0)], 10⟩ := by
  refine ⟨low_t rfl, fun k e he => ?_⟩
  by_cases h9 : k = 9
  ·subst h9
   injection he with he; subst he
   refine ⟨show 9 < 10 by decide, fun c hc j hj => ?_⟩
   rw [List.mem_singleton.1 hc] at hj; cases hj
  ·refine rdH_low (L := L) (A := List.replicate L.length no6) (p := L.length) (r := 5) (e := e) ?_
   simp only [look_cons] at he ⊢
   rw [if_neg h9] at he
   exact he
 have hhead := rdTop_w0 (L := L) (p := L.length) (C := cx w β 1 [0]) (by simp; omega) (by rw [Int.toNat_natCast, ← rcell_rows]; rfl) cF hlow (fun k hk => Nat.lt_of_lt_of_le hk (by decide))
 refine hhead none 4 _ _ (fun β1 a w1 hr1 => ?_) β _ w hrel
 have lift : ∀ {k : Nat} {e : Ent}, look (rdH L (List.replicate L.length no6) L.length 5) k = some e → look [(0, Ent.mk true (pcell L) 5), (1, Ent.mk true [AC.sx 0 L.length] 0), (4, Ent.mk true (rcell (List.replicate L.length no6)) 0), (5, Ent.mk true [AC.sl 4 0 L.length L.length] 0), (9, Ent.mk true [AC.i (L.length : Int)] 0)] k = some e := fun {k e} he => by
  rcases rdH_look he with ⟨rfl, rfl⟩ | ⟨rfl, rfl⟩ | ⟨rfl, rfl⟩ | ⟨rfl, rfl⟩ <;> rfl
 have cne : ∀ {k : Nat} {e : Ent}, look (rdH L (List.replicate L.length no6) L.length 5) k = some e → e.cells ≠ [] := fun {k e} he => by
  rcases rdH_look he with ⟨rfl, rfl⟩ | ⟨rfl, rfl⟩ | ⟨rfl, rfl⟩ | ⟨rfl, rfl⟩
  ·exact pcell_ne hpos
  ·exact List.cons_ne_nil _ _
  ·intro h0
   have := congrArg List.length h0
   simp only [rcell_len, List.length_replicate, List.length_nil] at this
   omega
  ·exact List.cons_ne_nil _ _
 have hk : ∀ k e, look (rdH L (List.replicate L.length no6) L.length 5) k = some e → Blk β1 w1 k e ∧ (w.heap.size ≤ (β1 k).1 ∨ (β1 k).1 = (β 0).1) := fun k e he => by
  have hx := hr1.blk k e (lift he)
  refine ⟨hx.2.1, ?_⟩
  rcases hx.2.2.2 (by rcases rdH_look he with ⟨rfl, rfl⟩ | ⟨rfl, rfl⟩ | ⟨rfl, rfl⟩ | ⟨rfl, rfl⟩ <;> rfl) with h | ⟨j, hj, h⟩
  ·exact Or.inl h
  ·rw [List.mem_singleton.1 hj] at h; exact Or.inr h
 have hkk : ∀ k, k ∈ [0, 1, 4, 5] → ∃ e, look (rdH L (List.replicate L.length no6) L.length 5) k = some e := fun k hk => by
  simp only [List.mem_cons, List.not_mem_nil, or_false] at hk
  rcases hk with rfl | rfl | rfl | rfl <;> exact ⟨_, rfl⟩
 have hlt : ∀ k, k ∈ [0, 1, 4, 5] → (β1 k).1 < w1.heap.size := fun k h => by
  obtain ⟨e, he⟩ := hkk k h
  exact (hk k e he).1.lt
 have hinj : ∀ i j, i ∈ [0, 1, 4, 5] → j ∈ [0, 1, 4, 5] → i ≠ j → (β1 i).1 ≠ (β1 j).1 := fun i j hi hj hne => by
  obtain ⟨e, he⟩ := hkk i hi
  obtain ⟨e', he'⟩ := hkk j hj
  refine hr1.inj i e j e' (lift he) (lift he') hne ?_ (cne he) (cne he')
  rcases rdH_look he with ⟨rfl, rfl⟩ | ⟨rfl, rfl⟩ | ⟨rfl, rfl⟩ | ⟨rfl, rfl⟩ <;> rfl
 have h9 := hr1.blk 9 _ rfl
 have t1 := (hr1.tmp 1 _ rfl).1
 have t2 := (hr1.tmp 2 _ rfl).1
 have h48 : a.tmps.size = 48 := hr1.size
 refine wpIn_block (wpIn_rangeFunc_ownG (F := Fence.wide) (n := 4) (α := Upto L.length) rfl (by decide) (gf := 126) (lb := #[.pointer (some (ptr β1 9 0))]) ((hr1.ev (x := .tmp 10) rfl).1) trivial (enters_of Tryz.func126 (by kernel_rfl) rfl) (behind_stops hpos hle 3 (ptr β1 9 0) (by decide) w1 h9.2.1.lt (h9.2.1.cell 0 _ rfl)) (fun _ _ => trivial) (fun _ _ _ _ _ _ _ _ => trivial) (Below.refl _ _) (fun _ => rfl) (RI β1 L w1) (fun _ _ _ => False) ?own (fun _ _ _ _ _ h _ _ => h) ?h0 (fun x => ⟨(a.tmps.setIfInBounds 11 (.int .i64 (x.1 : Int))).setIfInBounds 3 (.int .i64 (x.1 : Int)), []⟩) ?assign ?body ?done ?stop)
 case own => exact fun s W W' row hs hg hr => hs.below hlt ((Below.refl _ W).grown hg hs.fr.size (fun k e => (hr k e).1))
 case h0 => exact ⟨⟨5, fun k e he => (hk k e he).1⟩, Fr.refl _ _⟩
 case assign =>
  intro l x W K hK
  have e : Array.foldl (fun t (x : Tmp × Value) => match x with | (p, v) => t.setIfInBounds p v) a.tmps (#[11].zip (encN x)) = a.tmps.setIfInBounds 11 (.int .i64 (x.1 : Int)) := by simp [encN]
  have := assign_in (l := l) (m := 2) (t := a.tmps.setIfInBounds 11 (.int .i64 (x.1 : Int))) (v := .int .i64 (x.1 : Int)) (W := W) (K := K) (by simp [h48]) hK
  rw [← e] at this
  exact this
 case body =>
  intro l pre x W hI hlen
  refine RI.round hP hI ?_ rfl ?_ ?_ ?_ hlt hinj l 2
  ·simp [h48]
  ·simp; exact t1
  ·simp; exact t2
  ·simp [h48]
 case done =>
  rintro D xs W hD rfl hI hK
  show LeavesInM Fence.wide 4 Tryz.prog Tryz.f56 a.tmps _ (_ :: a.defers) .returning W
  rw [hr1.defers]
  refine ⟨by simp, .inl ⟨_, _, rfl, run_takeDeferred hK, ?_⟩⟩
  refine ⟨_, results_none rfl _ _ _, ?_⟩
  have hw1 := hr1.frame.size
  have hW := hI.fr.size
  have hne : ∀ k, k < w1.heap.size → (W.putObj D (.deferred none)).heap[k]? = W.heap[k]? := fun k hk => World.putObj_heap_other (by omega)
  have hps : (W.putObj D (.deferred none)).heap.size = W.heap.size := by simp [World.putObj]
  have b0 : β1 0 = β 0 := (hr1.fix 0 (show 0 < 1 by decide)).2
  refine ⟨β, rfl, ⟨hI.fr.os.trans hr1.frame.os, hI.fr.tape.trans hr1.frame.tape, hI.fr.output.trans hr1.frame.output, by rw [hps]; exact Nat.le_trans hw1 hW, fun k hkw hx => ?_⟩, fun k cs hm => ?_, rfl⟩
  ·have hx0 : ¬ k = (β 0).1 := fun e => hx ⟨0, _, List.mem_singleton.2 rfl, e⟩
   refine (hne k (Nat.lt_of_lt_of_le hkw hw1)).trans ((hI.fr.block k (Nat.lt_of_lt_of_le hkw hw1) ?_).trans (hr1.frame.block k hkw ?_))
   ·rintro ⟨j, hj, rfl⟩
    obtain ⟨e, he⟩ := hkk j hj
    rcases (hk j e he).2 with h | h
    ·change w.heap.size ≤ _ at h
     exact absurd hkw (by change ¬ _ < w.heap.size; omega)
    ·exact hx0 h
   ·rintro ⟨j, hj, rfl⟩
    rw [List.mem_singleton.1 hj] at hx0
    exact hx0 rfl
  ·have := List.mem_singleton.1 hm
   injection this with h1 h2
   subst h1 h2
   obtain ⟨r, hr⟩ := hI.blk
   have hb := hr 0 _ rfl
   have hm : (down L.length hpos L.length).map (·.1) = (List.range L.length).map fun j => L.length - 1 - j := by
    unfold down
    rw [List.map_map]; rfl
   rw [hm, runD_all] at hb
   have hb' := hb.congr (β' := β) (w' := W.putObj D (.deferred none)) b0.symm (by rw [hps]; exact Nat.le_refl _) (hne _ (hlt 0 (by decide))) fun c hc j hj => (nk_of (pcell_ks _) hc hj).elim
   exact ⟨hb'.lt, hb'.cell, hb'.free, fun h => absurd rfl h⟩
 case stop =>
  rintro D c pre W _ _ h _
  exact h.elim
end Go.Proofs.YtkigmocchaikgabGreat
/- Ways of bodies, written by a program (ways.py): what each asks for, and hands back. -/
namespace Go.Proofs.YtkigmocchaikgabGreat
open Go.RowKit
section
variable {L : List Ins} {c n q : Nat} {s s1 : ByteArray} {x y : BitVec 64} {r1 : Outc} {e f tr p n1 : Int} {w : World} {β : Bs} {S : List St}
end

def foldE (K n : Nat) (L : List Ins) : Eff := ⟨.tu [.c (.sx K n), .c (.i 0)], [], some (K, ⟨true, pcell L, 0⟩)⟩
theorem foldE_ren (ρ : Nat → Nat) (K n : Nat) (L : List Ins) : (foldE K n L).ren ρ = foldE (ρ K) n L := by
 unfold foldE Eff.ren
 simp only [Option.map_some, Ent.ren, ren_nk ρ (pcell_ks L)]
 rfl
theorem clone_14 {L : List Ins} {c : Nat} (hP : RightP L) : CallOK Tryz.prog ⟨90, [.c (.sl 0 0 L.length c)], pH L, ⟨.c (.sx 14 L.length), [], some (14, ⟨true, pcell L, 5⟩)⟩⟩ := by
 refine ((cloneI_ok (c := c) hP.pos hP.le).ren (swp 6 14) (swp_inj 6 14)).congr ?_
 unfold CallRec.ren Eff.ren renH
 simp only [List.map_cons, List.map_nil, Option.map_some, Ent.ren, ren_nk _ (pcell_ks _)]
 rfl
theorem two_to {f n : Nat} {L M : List Ins} {S : List St} (h : CallOK Tryz.prog ⟨f, [.c (.sx 0 n), .c (.sl 1 0 n n)], [(0, ⟨true, pcell L, 5⟩), (1, ⟨false, scell S, 0⟩)], ⟨.tu [], [(0, pcell M)], none⟩⟩) :
  CallOK Tryz.prog ⟨f, [.c (.sx 14 n), .c (.sl 4 0 n n)], [(14, ⟨true, pcell L, 5⟩), (4, ⟨true, scell S, 0⟩)], ⟨.tu [], [(14, pcell M)], none⟩⟩ := by
 refine CallOK.more (H := [(14, ⟨true, pcell L, 5⟩), (4, ⟨false, scell S, 0⟩)]) ?_ ⟨fun j en hj => ?_⟩
 ·refine ((h.ren (swp 1 4) (swp_inj 1 4)).ren (swp 0 14) (swp_inj 0 14)).congr ?_
  unfold CallRec.ren Eff.ren renH
  simp only [List.map_cons, List.map_nil, Option.map_none, Ent.ren, ren_nk _ (pcell_ks _), ren_nk _ (scell_ks _)]
  rfl
 ·rw [look_cons] at hj
  split at hj
  ·rename_i hk; injection hj with hj; subst hj hk
   exact ⟨⟨true, pcell L, 5⟩, rfl, rfl, fun h => h, Or.inr rfl⟩
  ·obtain ⟨rfl, rfl⟩ := one_look hj
   exact ⟨⟨true, scell S, 0⟩, rfl, rfl, fun h => (by cases h), Or.inl rfl⟩
theorem dead1_ok {L : List Ins} {S : List St} (hP : RightP L) : CallOK Tryz.prog ⟨55, [.c (.sx 0 L.length), .c (.sl 1 0 L.length L.length)], [(0, ⟨true, pcell L, 5⟩), (1, ⟨false, scell S, 0⟩)], ⟨.tu [], [(0, pcell (ridR L).1)], none⟩⟩ :=
 wr2_of Tryz.func55 rfl rfl rfl (pcell_ks L) (scell_ks S) (pcell_ne hP.pos) rfl (pcell_ks _) fun _ _ hk => d1_w0 (rid_ok hP) hk
theorem changeF_ok {L : List Ins} {c : Nat} (hL : codeErr L = 0) (h0 : (verifyS L).trap = 0) : CallOK Tryz.prog ⟨52, [.c (.sl 0 0 L.length c), .c (.f 53 [])], pH L, foldE 14 L.length (foldS L)⟩ := by
 have hP := codeErr_zero hL
 have hout := verify_out hP
 have e : foldS L = foldL (verifyS L).sts L 0 := by unfold foldS; rw [if_pos h0]
 rw [e]
 exact rnew_of Tryz.func52 rfl rfl rfl (pcell_ks L) (by decide) rfl (pcell_ks _) fun _ _ hk => chFOk_w0 (verify_okK hL h0 (by decide)) (clone_14 hP) (two_to (fold1_ok hP (hout.none h0).2 hout.ok)) hk
theorem changeD_ok {L : List Ins} {c : Nat} (hL : codeErr L = 0) (h0 : (verifyS L).trap = 0) : CallOK Tryz.prog ⟨52, [.c (.sl 0 0 L.length c), .c (.f 55 [])], pH L, foldE 14 L.length (deadS L)⟩ := by
 have hP := codeErr_zero hL
 have e : deadS L = (ridR L).1 := by unfold deadS; rw [if_pos h0]
 rw [e]
 exact rnew_of Tryz.func52 rfl rfl rfl (pcell_ks L) (by decide) rfl (pcell_ks _) fun _ _ hk => chDOk_w0 (verify_okK hL h0 (by decide)) (clone_14 hP) (two_to (dead1_ok hP)) hk
theorem toK {f a : Nat} {L M : List Ins} {n c : Nat} (h : CallOK Tryz.prog ⟨f, [.c (.sl 0 0 n c)], pH L, foldE a n M⟩) (ha : a ≠ 0) {K : Nat} (hK : K ≠ 0) : CallOK Tryz.prog ⟨f, [.c (.sl 0 0 n c)], pH L, foldE K n M⟩ := by
 have h2 := h.ren (swp a K) (swp_inj a K)
 have e0 : swp a K 0 = 0 := swp_other (Ne.symm ha) (Ne.symm hK)
 unfold CallRec.ren at h2
 simp only [foldE_ren, swp_fst, pH_ren e0] at h2
 refine h2.congr ?_
 show CallRec.mk _ [AV.c (AC.sl 0 0 n c)] _ _ = CallRec.mk _ [AV.c (AC.sl (swp a K 0) 0 n c)] _ _
 rw [e0]
theorem toK2 {f g a : Nat} {L M : List Ins} {n c : Nat} (h : CallOK Tryz.prog ⟨f, [.c (.sl 0 0 n c), .c (.f g [])], pH L, foldE a n M⟩) (ha : a ≠ 0) {K : Nat} (hK : K ≠ 0) : CallOK Tryz.prog ⟨f, [.c (.sl 0 0 n c), .c (.f g [])], pH L, foldE K n M⟩ := by
 have h2 := h.ren (swp a K) (swp_inj a K)
 have e0 : swp a K 0 = 0 := swp_other (Ne.symm ha) (Ne.symm hK)
 unfold CallRec.ren at h2
 simp only [foldE_ren, swp_fst, pH_ren e0] at h2
 refine h2.congr ?_
 show CallRec.mk _ [AV.c (AC.sl 0 0 n c), AV.c (AC.f g [])] _ _ = CallRec.mk _ [AV.c (AC.sl (swp a K 0) 0 n c), AV.c (AC.f g [])] _ _
 rw [e0]
theorem fold_ok {L : List Ins} {c : Nat} (hL : codeErr L = 0) (h0 : (verifyS L).trap = 0) {K : Nat} (hK : K ≠ 0) : CallOK Tryz.prog ⟨17, [.c (.sl 0 0 L.length c)], pH L, foldE K L.length (foldS L)⟩ :=
 toK (a := 4) (rnew_of Tryz.func17 rfl rfl rfl (pcell_ks L) (by decide) rfl (pcell_ks _) fun _ _ hk => foF_w0 (toK2 (changeF_ok hL h0) (by decide) (by decide)) hk) (by decide) hK
theorem dead_ok {L : List Ins} {c : Nat} (hL : codeErr L = 0) (h0 : (verifyS L).trap = 0) {K : Nat} (hK : K ≠ 0) : CallOK Tryz.prog ⟨18, [.c (.sl 0 0 L.length c)], pH L, foldE K L.length (deadS L)⟩ :=
 toK (a := 4) (rnew_of Tryz.func18 rfl rfl rfl (pcell_ks L) (by decide) rfl (pcell_ks _) fun _ _ hk => foD_w0 (toK2 (changeD_ok hL h0) (by decide) (by decide)) hk) (by decide) hK
theorem folding_ok (K : Nat) : CallOK Tryz.prog ⟨61, [], [], ⟨.c (.sl K 0 6 6), [], some (K, ⟨true, pcell fL, 0⟩)⟩⟩ := by
 have key : CallOK Tryz.prog ⟨61, [], [], ⟨.c (.sl 7 0 6 6), [], some (7, ⟨true, pcell fL, 0⟩)⟩⟩ :=
  new_of Tryz.func61 rfl rfl rfl rfl rfl fun w β hk => folding_w0 hk
 refine (key.ren (swp 7 K) (swp_inj 7 K)).congr ?_
 unfold CallRec.ren Eff.ren renH
 simp only [List.map_nil, Option.map_some, Ent.ren, ren_nk _ (pcell_ks _), swp_fst]
 show _ = CallRec.mk _ _ _ (Eff.mk (.c (.sl (swp 7 K 7) 0 6 6)) _ _)
 rw [swp_fst]
theorem fL_trap : (verifyS fL).trap = 0 := by kernel_rfl
theorem fL_fold : foldS fL = fF := by kernel_rfl
theorem fF_dead : deadS fF = fD := by kernel_rfl
theorem foldBegun_ok : Ok 21 [] (.c (.b true)) := by
 have hL : codeErr fL = 0 := by kernel_rfl
 have hF : codeErr fF = 0 := by kernel_rfl
 have h1 := fold_same (codeErr_zero hL) fL_trap
 rw [fL_fold] at h1
 have r1 : CallOK Tryz.prog ⟨17, [.c (.sl 1 0 6 6)], [(1, ⟨true, pcell fL, 0⟩)], foldE 2 6 fF⟩ := by
  have := fold_ok (L := fL) (c := 6) hL fL_trap (K := 2) (by decide)
  rw [fL_fold] at this
  exact p_to this 1 true rfl (by rw [foldE_ren]; rfl)
 have r2 : CallOK Tryz.prog ⟨18, [.c (.sx 2 6)], [(2, ⟨true, pcell fF, 0⟩)], foldE 9 6 fD⟩ := by
  refine CallOK.of_cap (xs := []) (bs := []) fun c => ?_
  have := dead_ok (L := fF) (c := c) hF h1.trap (K := 9) (by decide)
  rw [fF_dead] at this
  exact p_to this 2 true rfl (by rw [foldE_ren]; rfl)
 exact fBegun_w0 (folding_ok 1) r1 r2
theorem foldS_len (L : List Ins) : (foldS L).length = L.length := by
 unfold foldS
 split
 ·exact (foldL_at _ L 0).1
 ·rfl
theorem deadS_len (L : List Ins) : (deadS L).length = L.length := by
 unfold deadS
 split
 ·exact (ridR_at L).1
 ·rfl
theorem fold_any {L : List Ins} {c : Nat} (hL : codeErr L = 0) {K : Nat} (hK : K ≠ 0) : CallOK Tryz.prog ⟨17, [.c (.sl 0 0 L.length c)], pH L, foldE K L.length (foldS L)⟩ := by
 by_cases h0 : (verifyS L).trap = 0
 ·exact fold_ok hL h0 hK
 ·have hP := codeErr_zero hL
  have e : foldS L = L := by unfold foldS; rw [if_neg h0]
  rw [e]
  have ch : CallOK Tryz.prog ⟨52, [.c (.sl 0 0 L.length c), .c (.f 53 [])], pH L, foldE 14 L.length L⟩ := call_room (r := 5) (rnew_of Tryz.func52 rfl rfl rfl (pcell_ks L) (by decide) rfl (pcell_ks _) fun _ _ hk => chFTr_w0 (and_yes (by simpa using h0) rfl) (verify_trK hL h0 (by decide)) (clone_14 hP) hk)
  exact toK (a := 4) (rnew_of Tryz.func17 rfl rfl rfl (pcell_ks L) (by decide) rfl (pcell_ks _) fun _ _ hk => foF_w0 (toK2 ch (by decide) (by decide)) hk) (by decide) hK
theorem dead_any {L : List Ins} {c : Nat} (hL : codeErr L = 0) {K : Nat} (hK : K ≠ 0) : CallOK Tryz.prog ⟨18, [.c (.sl 0 0 L.length c)], pH L, foldE K L.length (deadS L)⟩ := by
 by_cases h0 : (verifyS L).trap = 0
 ·exact dead_ok hL h0 hK
 ·have hP := codeErr_zero hL
  have e : deadS L = L := by unfold deadS; rw [if_neg h0]
  rw [e]
  have ch : CallOK Tryz.prog ⟨52, [.c (.sl 0 0 L.length c), .c (.f 55 [])], pH L, foldE 14 L.length L⟩ := call_room (r := 5) (rnew_of Tryz.func52 rfl rfl rfl (pcell_ks L) (by decide) rfl (pcell_ks _) fun _ _ hk => chDTr_w0 (and_yes (by simpa using h0) rfl) (verify_trK hL h0 (by decide)) (clone_14 hP) hk)
  exact toK (a := 4) (rnew_of Tryz.func18 rfl rfl rfl (pcell_ks L) (by decide) rfl (pcell_ks _) fun _ _ hk => foD_w0 (toK2 ch (by decide) (by decide)) hk) (by decide) hK
theorem err_ne {e : Int} (h : e ≠ 0) : (e != 0 && true) = true := and_yes (by simpa using h) rfl
section
variable {L : List Ins} {c : Nat} {w : World} {β : Bs} {R : Ending → World → Prop}
abbrev RA (w : World) (β : Bs) (k : Nat) (σ : Kn) (R : Ending → World → Prop) : Prop := ART Tryz.prog 6 (cx w β 1 []) Tryz.f6.ntmps (cutAt Tryz.f6 k) σ R
abbrev rpKn1 (L : List Ins) (c : Nat) (M : List Ins) (j : Nat) : Kn := ⟨[(0, .c (.sl 0 0 L.length c)), (3, .c (.sx 7 L.length)), (4, .c (.sx 10 L.length)), (5, .c (.i 0)), (6, .c (.i (j : Int)))], [(0, ⟨false, pcell L, 0⟩), (7, ⟨true, pcell L, 5⟩), (10, ⟨true, pcell M, 0⟩)], 17⟩
abbrev rpKn2 (L : List Ins) (c : Nat) (M : List Ins) (j : Nat) : Kn := ⟨[(0, .c (.sl 0 0 L.length c)), (3, .c (.sx 7 L.length)), (5, .c (.i 0)), (7, .c (.sx 22 L.length)), (8, .c (.i 0)), (9, .c (.i (j : Int)))], [(0, ⟨false, pcell L, 0⟩), (7, ⟨true, pcell L, 5⟩), (22, ⟨true, pcell M, 0⟩)], 29⟩
abbrev rpKn3 (L : List Ins) (c : Nat) (S : List St) (r : Nat) (tr p : Int) (sl : AC) (j : Nat) : Kn := ⟨[(0, .c (.sl 0 0 L.length c)), (3, .c (.sx 7 L.length)), (5, .c (.i 0)), (8, .c (.i 0)), (10, .c (.w 38)), (11, .c (.i 0)), (12, .c (.i (j : Int)))], [(0, ⟨false, pcell L, 0⟩), (7, ⟨true, pcell L, 5⟩), (34, ⟨true, scell S, r⟩), (38, ⟨true, [.i tr, .i p, sl], 0⟩)], 42⟩
theorem rp1_low (L : List Ins) (c : Nat) (M : List Ins) (j : Nat) : Kn.Low (rpKn1 L c M j) := low_n rfl rfl ⟨pcell_ks L, pcell_ks L, pcell_ks M, trivial⟩
theorem rp2_low (L : List Ins) (c : Nat) (M : List Ins) (j : Nat) : Kn.Low (rpKn2 L c M j) := low_n rfl rfl ⟨pcell_ks L, pcell_ks L, pcell_ks M, trivial⟩
theorem rp3_lowO (L : List Ins) (c : Nat) (S : List St) (r n m : Nat) (tr p : Int) (j : Nat) : Kn.Low (rpKn3 L c S r tr p (.sl 34 0 n m) j) := low_g rfl ⟨ltB rfl, lowNk (pcell_ks L), ltB rfl, lowNk (pcell_ks L), ltB rfl, lowNk (scell_ks S), ltB rfl, lowKs rfl, trivial⟩
theorem rp3_lowT (L : List Ins) (c : Nat) (S : List St) (r n : Nat) (tr p : Int) (j : Nat) : Kn.Low (rpKn3 L c S r tr p (.sx 34 n) j) := low_g rfl ⟨ltB rfl, lowNk (pcell_ks L), ltB rfl, lowNk (pcell_ks L), ltB rfl, lowNk (scell_ks S), ltB rfl, lowKs rfl, trivial⟩
theorem rp_F {n : Nat} (h : 1 ≤ n) : ∀ k, (cx w β 1 []).F k → k < n := fun _ hk => Nat.lt_of_lt_of_le hk h
theorem bad_set {K j : Nat} {M : List Ins} (h : j < M.length) : Eff.mk (AV.raw undef) [(K, splice (pcell M) (Int.toNat (j : Int) * 5) (splice [AC.i 0, AC.i 0, AC.i 0, AC.u 0#64, AC.i 0] 0 [AC.i (-1)]))] none = Eff.mk (AV.raw undef) [(K, pcell (List.set M j (Ins.mk (-1) 0 0 (0#64) 0)))] none := by
 rw [Int.toNat_natCast, ← pcell_set _ h]
 rfl
theorem bad_ok {j : Nat} {M : List Ins} (h : j < M.length) : (Nat.ble (Int.toNat (j : Int) * 5 + 5) (List.length (pcell M)) && true && true) = true := by
 have : Nat.ble (Int.toNat (j : Int) * 5 + 5) (List.length (pcell M)) = true := by rw [pcell_length, Nat.ble_eq]; omega
 rw [this]; rfl
theorem rp1Loop (hle : L.length ≤ 64) (z : ∀ M, RA w β 0 (rpKn1 L c M L.length) R) : ∀ (n j : Nat) (M : List Ins), j + n = L.length → M.length = L.length → RA w β 0 (rpKn1 L c M j) R
 | 0, j, M, hj, _ => by
  obtain rfl : j = L.length := by omega
  exact z M
 | n + 1, j, M, hj, hM => rp1R_w0 (and_yes (jl (by omega)) (and_yes (jl (by omega)) (bad_ok (by omega)))) (bad_set (by omega)) (by rw [wrapS (by omega)]) (rp1_low _ _ _ _) (rp_F (by decide)) (rp1Loop hle z n (j + 1) _ (by omega) (by rw [List.length_set]; exact hM))
theorem rp2Loop (hle : L.length ≤ 64) (z : ∀ M, RA w β 1 (rpKn2 L c M L.length) R) : ∀ (n j : Nat) (M : List Ins), j + n = L.length → M.length = L.length → RA w β 1 (rpKn2 L c M j) R
 | 0, j, M, hj, _ => by
  obtain rfl : j = L.length := by omega
  exact z M
 | n + 1, j, M, hj, hM => rp2R_w0 (and_yes (jl (by omega)) (and_yes (jl (by omega)) (bad_ok (by omega)))) (bad_set (by omega)) (by rw [wrapS (by omega)]) (rp2_low _ _ _ _) (rp_F (by decide)) (rp2Loop hle z n (j + 1) _ (by omega) (by rw [List.length_set]; exact hM))
theorem rp3LoopO (hle : L.length ≤ 64) (z : ∀ S r, RA w β 2 (rpKn3 L c S r 0 0 (.sl 34 0 L.length L.length) L.length) R) : ∀ (n j r : Nat) (S : List St), j + n = L.length → S.length = L.length → RA w β 2 (rpKn3 L c S r 0 0 (.sl 34 0 L.length L.length) j) R
 | 0, j, r, S, hj, _ => by
  obtain rfl : j = L.length := by omega
  exact z S r
 | n + 1, j, r, S, hj, hS => by
  refine rp3RO_w0 (and_yes (jl (by omega)) (and_yes (jl (by omega)) ?_)) ?_ (by rw [wrapS (by omega)]) (rp3_lowO _ _ _ _ _ _ _ _ _) (rp_F (by decide)) (rp3LoopO hle z n (j + 1) 0 _ (by omega) (by rw [List.length_set]; exact hS))
  ·rw [sble (by omega)]; rfl
  ·rw [Int.toNat_natCast, Nat.zero_add, ← scell_set _ (by omega)]; rfl
theorem rp3LoopT {q : Nat} {tr p : Int} (hle : q ≤ 64) (z : ∀ S r, RA w β 2 (rpKn3 L c S r tr p (.sx 34 q) q) R) : ∀ (n j r : Nat) (S : List St), j + n = q → S.length = q → RA w β 2 (rpKn3 L c S r tr p (.sx 34 q) j) R
 | 0, j, r, S, hj, _ => by
  obtain rfl : j = q := by omega
  exact z S r
 | n + 1, j, r, S, hj, hS => by
  have d0 : decide ((j : Int) < (q : Int)) = true := decide_eq_true (by omega)
  refine rp3RT_w0 (and_yes d0 (and_yes d0 ?_)) ?_ (by rw [wrapS (by omega)]) (rp3_lowT _ _ _ _ _ _ _ _) (rp_F (by decide)) (rp3LoopT hle z n (j + 1) 0 _ (by omega) (by rw [List.length_set]; exact hS))
  ·have := sble (S := S) (k := j) (by omega)
   rw [Nat.zero_add] at this
   rw [Int.toNat_natCast, this]; rfl
  ·rw [Int.toNat_natCast, ← scell_set _ (by omega)]; rfl
end
theorem sr_to {a b : AC} {L2 L3 : List AC} {r : Nat} {tr p : Int} (h : CallOK Tryz.prog ⟨16, [.ag [.i tr, .i p, a], .ag [.i tr, .i p, b]], [(3, ⟨true, L2, r⟩), (17, ⟨true, L3, 0⟩)], ⟨.c (.b true), [], none⟩⟩) (h2 : L2.flatMap AC.ks = []) (h3 : L3.flatMap AC.ks = []) :
  CallOK Tryz.prog ⟨16, [.ag [.i tr, .i p, (a.ren (swp 3 62)).ren (swp 17 105)], .ag [.i tr, .i p, (b.ren (swp 3 62)).ren (swp 17 105)]], [(62, ⟨true, L2, r⟩), (105, ⟨true, L3, 0⟩)], ⟨.c (.b true), [], none⟩⟩ := by
 refine ((h.ren (swp 3 62) (swp_inj 3 62)).ren (swp 17 105) (swp_inj 17 105)).congr ?_
 unfold CallRec.ren Eff.ren renH
 simp only [List.map_cons, List.map_nil, Option.map_none, Ent.ren, ren_nk _ h2, ren_nk _ h3]
 rfl
theorem restPrograms_ok (L : List Ins) (c : Nat) : CallOK Tryz.prog ⟨6, [.c (.sl 0 0 L.length c)], pH L, ⟨.c (.b true), [], none⟩⟩ := by
 refine read_of Tryz.func6 rfl rfl (begin_p rfl) rfl ro_p fun w β => ?_
 have hc := checkCode_ok L c
 by_cases hL : codeErr L = 0
 ·have hP := codeErr_zero hL
  have hle := hP.le
  have hout := verify_out hP
  rw [hL] at hc
  obtain ⟨l1, l2, l3⟩ := ver_full (L := L) L.length 0 (firstS L.length) (by omega) (firstS_len _)
  change (verifyS L).sts.length ≤ _ at l2
  change ∀ j, j < (verifyS L).sts.length → stAt (verifyS L).sts j = _ at l3
  have s1 := sameCode_xx (L := foldS L) (by rw [foldS_len]; exact hle) 48 93 (by decide) true true 0 0
  have s2 := sameCode_xx (L := deadS L) (by rw [deadS_len]; exact hle) 55 99 (by decide) true true 0 0
  rw [foldS_len] at s1
  rw [deadS_len] at s2
  have s0 := sameCode_sx hle 0 7 c (by decide) false true 0 5
  have cv := valCheck_ok V4.any
  rw [V4.any_ok] at cv
  have nl : ∀ {p : Nat}, (!decide ((p : Int) < (p : Int)) && true) = true := fun {p} => by rw [decide_eq_false (by omega)]; rfl
  refine rpTop_w0 (and_yes (copyB hP) rfl) hc ?_ (fold_any hL (by decide)) (rp1_low _ _ _ 0) (rp_F (by decide)) (rp1Loop hle (fun M => rp1E_w0 nl (dead_any hL (by decide)) (rp2_low _ _ _ 0) (rp_F (by decide)) (rp2Loop hle (fun M => ?_) L.length 0 _ (by omega) (deadS_len L))) L.length 0 _ (by omega) (foldS_len L))
  ·have : List.take (List.length L * 5) (List.drop 0 (pcell L)) = pcell L := by rw [List.drop_zero, List.take_of_length_le (by rw [pcell_length]; omega)]
   rw [this, Nat.zero_add]
   rfl
  ·by_cases h0 : (verifyS L).trap = 0
   ·have hl := (hout.none h0).2
    have so := sr_to (srO_ok (S := (verifyS L).sts) (S2 := (verifyS L).sts) (q := L.length) (d := L.length) (tr := 0) (p := 0) (by omega) (by omega) hle (fun _ _ => rfl) 0) (scell_ks _) (scell_ks _)
    exact rp2EO_w0 nl (verify_okK hL h0 (by decide)) (rp3_lowO _ _ _ _ _ _ _ _ 0) (rp_F (by decide)) (rp3LoopO hle (fun S r => rp3EO_w0 nl (fold_any hL (by decide)) (dead_any hL (by decide)) (verify_okK hL h0 (by decide)) foldBegun_ok s0 (foldOf_ok hP (by decide)) s1 (deadOf_ok hP (by decide)) s2 (verifyOf_no hP h0 105 (by decide)) so valAny_ok cv) L.length 0 0 _ (by omega) hl)
   ·have st := sr_to (srT_ok (S := (verifyS L).sts) (S2 := verF L L.length 0 (firstS L.length)) (q := (verifyS L).sts.length) (d := L.length) (tr := (verifyS L).trap) (p := (verifyS L).pos) (Nat.le_refl _) (by omega) (by omega) (fun j hj => l3 j hj) 31) (scell_ks _) (scell_ks _)
    exact rp2ET_w0 nl (verify_trK hL h0 (by decide)) (rp3_lowT _ _ _ _ _ _ _ 0) (rp_F (by decide)) (rp3LoopT (by omega) (fun S r => rp3ET_w0 nl (fold_any hL (by decide)) (dead_any hL (by decide)) (verify_trK hL h0 (by decide)) foldBegun_ok s0 (foldOf_ok hP (by decide)) s1 (deadOf_ok hP (by decide)) s2 (verifyOf_K hP 105 (by decide)) st valAny_ok cv) (verifyS L).sts.length 0 31 _ (by omega) rfl)
 ·exact rpErr_w0 (err_ne hL) hc foldBegun_ok
theorem restPrograms_nil : Ok 6 [.c nilSl] (.c (.b true)) := rpNil_w0 rfl checkCode_nil foldBegun_ok
end Go.Proofs.YtkigmocchaikgabGreat
