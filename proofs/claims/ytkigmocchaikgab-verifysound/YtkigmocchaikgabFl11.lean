import Derived.Test.YtkigmocchaikgabFl2
import Derived.Test.YtkigmocchaikgabProg
import Derived.Test.YtkigmocchaikgabFl8
import Derived.Test.YtkigmocchaikgabFl6
import Derived.Test.YtkigmocchaikgabFl3
import Derived.Test.YtkigmocchaikgabFl7
/- Ways of bodies, written by a program (ways.py): what each asks for, and hands back. -/
namespace Go.Proofs.Ytkigmocchaikgab
open Go.RowKit

theorem vBegun_w0 {S : List St} {S2 : List St} (h : (AC.isU (Option.getD (scell S)[107]? (AC.b false)) && Nat.blt 107 (List.length (scell S)) && (eqb (V4.h (V6.x1 (St.r (stAt S 3)))) 63#64 && true)) = true) (c0 : CallOK Try.prog (CallRec.mk 30 [] [] (Eff.mk (AV.c (AC.sl 1 0 6 6)) [] (some (1, Ent.mk true (pcell gL) 0))))) (c1 : CallOK Try.prog (CallRec.mk 23 [AV.c (AC.sl 1 0 6 6)] [(1, Ent.mk true (pcell gL) 0)] (Eff.mk (AV.tu [AT.ag [AC.i 0, AC.i 0, AC.sl 2 0 6 6], AT.c (AC.i 0)]) [] (some (2, Ent.mk true (scell S) 0))))) (c2 : CallOK Try.prog (CallRec.mk 30 [] [] (Eff.mk (AV.c (AC.sl 9 0 6 6)) [] (some (9, Ent.mk true (pcell gL) 0))))) (c3 : CallOK Try.prog (CallRec.mk 23 [AV.c (AC.sl 9 15 3 3)] [(9, Ent.mk true (pcell gL) 0)] (Eff.mk (AV.tu [AT.ag [AC.i 2, AC.i 0, AC.sx 11 1], AT.c (AC.i 0)]) [] (some (11, Ent.mk true (scell S2) 31))))) (c4 : Eff.mk (AV.c (AC.u (AC.asU (Option.getD (scell S)[107]? (AC.b false))))) [] none = Eff.mk (AV.c (AC.u (V4.h (V6.x1 (St.r (stAt S 3)))))) [] none) :
    CallOK Try.prog ⟨24, [], [], ⟨AV.c (AC.b true), [], none⟩⟩ :=
  val_run 2000 [Eff.mk (AV.c (AC.sl 1 0 6 6)) [] (some (1, Ent.mk true (pcell gL) 0)), Eff.mk (AV.tu [AT.ag [AC.i 0, AC.i 0, AC.sl 2 0 6 6], AT.c (AC.i 0)]) [] (some (2, Ent.mk true (scell S) 0)), Eff.mk (AV.c (AC.sl 9 0 6 6)) [] (some (9, Ent.mk true (pcell gL) 0)), Eff.mk (AV.tu [AT.ag [AC.i 2, AC.i 0, AC.sx 11 1], AT.c (AC.i 0)]) [] (some (11, Ent.mk true (scell S2) 31)), Eff.mk (AV.c (AC.u (V4.h (V6.x1 (St.r (stAt S 3)))))) [] none] [true, true, true, true, true, true, true] ([]) [(3, 24)] Try.func24 rfl rfl rfl rfl (by kernel_rfl) h (cr_cons c0 (cr_cons c1 (cr_cons c2 (cr_cons c3 (cr_same c4 cr_nil)))))
end Go.Proofs.Ytkigmocchaikgab

/- Contracts of verify.Verify under other keys, of a part of a row; verifyBegun. -/
namespace Go.Proofs.Ytkigmocchaikgab
open Go.RowKit

theorem CallOK.off {P : Program} {f n c o r : Nat} {b : Bool} {cs cells : List AC} {e : Eff} (h : CallOK P ⟨f, [.c (.sl 0 0 n c)], [(0, ⟨false, cs, 0⟩)], e⟩) (hwr : e.wr = []) (hv : ∀ k, k ∈ e.v.ks → k ≠ 0) (hn0 : ∀ k en, e.nw = some (k, en) → k ≠ 0) (hnk : ∀ k en, e.nw = some (k, en) → en.cells.flatMap AC.ks = [])
    (hcs : ∀ j x, cs[j]? = some x → cells[o + j]? = some x) (hks : cs.flatMap AC.ks = []) : CallOK P ⟨f, [.c (.sl 0 o n c)], [(0, ⟨b, cells, r⟩)], e⟩ := by
  have look0 : ∀ k, (∃ en, look [(0, (⟨false, cs, 0⟩ : Ent))] k = some en) → ∃ en, look [(0, (⟨b, cells, r⟩ : Ent))] k = some en := fun k ⟨en, hk⟩ => by
    obtain ⟨rfl, _⟩ := one_look hk
    exact ⟨_, rfl⟩
  refine ⟨⟨fun k hk => ext_mono look0 _ k (h.keys.v k hk), fun k x hm => (by rw [hwr] at hm; cases hm), fun k en hm x hx j hj => (nk_of (hnk k en hm) hx hj).elim⟩, fun k x hm => (by rw [hwr] at hm; cases hm), fun β w hB hI => ?_⟩
  have hb0 := hB 0 ⟨b, cells, r⟩ rfl
  have h1 := h.call (bset β 0 ((β 0).1, (β 0).2.1 + o, (β 0).2.2)) w (fun k en hk => ?_) (fun k en k' en' hk hk' hne => ?_)
  · have ha : ([AV.c (AC.sl 0 0 n c)].map (AV.g (bset β 0 ((β 0).1, (β 0).2.1 + o, (β 0).2.2)))).toArray = ([AV.c (AC.sl 0 o n c)].map (AV.g β)).toArray := by
      simp [AV.g, AC.g, ptr, bset]
    simp only at h1
    rw [ha] at h1
    refine h1.mono fun en w' ⟨β', he, hu⟩ => ?_
    have hnw := hu.nw
    have hfr : Fr (fun B => ∃ k x, (k, x) ∈ e.wr ∧ B = (β k).1) w w' := hu.frame.mono fun B ⟨k, x, hm, _⟩ => (by rw [hwr] at hm; cases hm)
    cases hn : e.nw with
    | none =>
      rw [hn] at hnw
      have hβ : β' = bset β 0 ((β 0).1, (β 0).2.1 + o, (β 0).2.2) := hnw
      refine ⟨β, ?_, ⟨hfr, fun k x hm => (by rw [hwr] at hm; cases hm), by rw [hn]; rfl⟩⟩
      rw [he, hβ, AV.g_congr e.v fun k hk => ?_]
      unfold bset
      rw [if_neg (hv k hk)]
    | some x =>
      obtain ⟨k, en'⟩ := x
      rw [hn] at hnw
      obtain ⟨b1, o1, c1, h2, h3, h4, h5⟩ := hnw
      have hk0 := hn0 k en' hn
      have hβ : ∀ j, j ≠ 0 → β' j = bset β k (b1, o1, c1) j := fun j hj => by
        rw [h4]
        unfold bset
        by_cases c : j = k
        · rw [if_pos c, if_pos c]
        · rw [if_neg c, if_neg c, if_neg hj]
      refine ⟨bset β k (b1, o1, c1), ?_, ⟨hfr, fun k x hm => (by rw [hwr] at hm; cases hm), ?_⟩⟩
      · rw [he]
        rw [AV.g_congr e.v fun j hj => hβ j (hv j hj)]
      · rw [hn]
        refine ⟨b1, o1, c1, Or.inl (h2.resolve_right fun ⟨k0, hk, _⟩ => (by rw [hwr] at hk; cases hk)), h3, rfl, ?_⟩
        exact h5.congr (hβ k hk0).symm (Nat.le_refl _) rfl fun x hx j hj => (nk_of (hnk k en' hn) hx hj).elim
  · obtain ⟨rfl, rfl⟩ := one_look hk
    refine ⟨hb0.lt, fun j x hj => ?_, (fun h => by cases h), fun h => absurd rfl h⟩
    have := hb0.cell (o + j) x (hcs j x hj)
    have e1 : ptr (bset β 0 ((β 0).1, (β 0).2.1 + o, (β 0).2.2)) 0 j = ptr β 0 (o + j) := by simp [ptr, bset, Nat.add_assoc]
    rw [e1, this, AC.g_congr x fun k hk => (nk_of hks (List.mem_of_getElem? hj) hk).elim]
  · obtain ⟨rfl, _⟩ := one_look hk
    obtain ⟨rfl, _⟩ := one_look hk'
    exact absurd rfl hne
theorem okE_ren (ρ : Nat → Nat) (K n : Nat) (S : List St) : (okE K n S).ren ρ = okE (ρ K) n S := by
  unfold okE Eff.ren
  simp only [Option.map_some, Ent.ren, ren_nk ρ (scell_ks S)]
  rfl
theorem trapE_ren (ρ : Nat → Nat) (K : Nat) (R : Rep) : (trapE K R).ren ρ = trapE (ρ K) R := by
  unfold trapE Eff.ren
  simp only [Option.map_some, Ent.ren, ren_nk ρ (scell_ks R.sts)]
  rfl
theorem p_to {P : Program} {f : Nat} {args args' : List AV} {L : List Ins} {e e' : Eff} (h : CallOK P ⟨f, args, pH L, e⟩) (K : Nat) (b : Bool) (ha : args.map (AV.ren (swp 0 K)) = args') (he : e.ren (swp 0 K) = e') : CallOK P ⟨f, args', [(K, ⟨b, pcell L, 0⟩)], e'⟩ := by
  have h1 := h.ren (swp 0 K) (swp_inj 0 K)
  unfold CallRec.ren at h1
  simp only [ha, he] at h1
  refine h1.more ⟨fun k en hk => ?_⟩
  have e1 : renH (swp 0 K) (pH L) = [(K, ⟨false, pcell L, 0⟩)] := by
    show [(swp 0 K 0, Ent.mk false ((pcell L).map (AC.ren (swp 0 K))) 0)] = _
    rw [ren_nk _ (pcell_ks L)]
    rfl
  rw [e1] at hk
  obtain ⟨rfl, rfl⟩ := one_look hk
  exact ⟨⟨b, pcell L, 0⟩, by rw [look_cons, if_pos rfl], rfl, fun h => (by cases h), Or.inl rfl⟩
theorem swp_fst (a b : Nat) : swp a b a = b := by unfold swp; rw [if_pos rfl]
theorem swp_other {a b j : Nat} (h1 : j ≠ a) (h2 : j ≠ b) : swp a b j = j := by unfold swp; rw [if_neg h1, if_neg h2]
theorem pH_ren {ρ : Nat → Nat} {L : List Ins} (h : ρ 0 = 0) : renH ρ (pH L) = pH L := by
  show [(ρ 0, Ent.mk false ((pcell L).map (AC.ren ρ)) 0)] = _
  rw [ren_nk _ (pcell_ks L), h]
theorem verify_okK {L : List Ins} {c : Nat} (h : codeErr L = 0) (h0 : (verifyS L).trap = 0) {K : Nat} (hK : K ≠ 0) : CallOK Try.prog ⟨23, [.c (.sl 0 0 L.length c)], pH L, okE K L.length (verifyS L).sts⟩ := by
  have h1 := verify_ret (c := c) h
  unfold verE at h1
  rw [if_pos h0] at h1
  have h2 := h1.ren (swp 10 K) (swp_inj 10 K)
  have e0 : swp 10 K 0 = 0 := swp_other (by decide) (Ne.symm hK)
  unfold CallRec.ren at h2
  simp only [okE_ren, swp_fst, pH_ren e0] at h2
  refine h2.congr ?_
  show CallRec.mk _ [AV.c (AC.sl 0 0 L.length c)] _ _ = CallRec.mk _ [AV.c (AC.sl (swp 10 K 0) 0 L.length c)] _ _
  rw [e0]
theorem verify_trK {L : List Ins} {c : Nat} (h : codeErr L = 0) (h0 : (verifyS L).trap ≠ 0) {K : Nat} (hK : K ≠ 0) : CallOK Try.prog ⟨23, [.c (.sl 0 0 L.length c)], pH L, trapE K (verifyS L)⟩ := by
  have h1 := verify_ret (c := c) h
  unfold verE at h1
  rw [if_neg h0] at h1
  have h2 := h1.ren (swp 43 K) (swp_inj 43 K)
  have e0 : swp 43 K 0 = 0 := swp_other (by decide) (Ne.symm hK)
  unfold CallRec.ren at h2
  simp only [trapE_ren, swp_fst, pH_ren e0] at h2
  refine h2.congr ?_
  show CallRec.mk _ [AV.c (AC.sl 0 0 L.length c)] _ _ = CallRec.mk _ [AV.c (AC.sl (swp 43 K 0) 0 L.length c)] _ _
  rw [e0]
def gL3 : List Ins := [⟨10, 0, 1, 1#64, 0⟩, ⟨2, 0, -1, 1#64, 0⟩, ⟨15, 0, 0, 0#64, 0⟩]
theorem verifyBegun_ok : Ok 24 [] (.c (.b true)) := by
  have r1 : CallOK Try.prog ⟨23, [.c (.sl 1 0 6 6)], [(1, ⟨true, pcell gL, 0⟩)], okE 2 6 (verifyS gL).sts⟩ :=
    p_to (verify_okK (L := gL) (c := 6) (by kernel_rfl) (by kernel_rfl) (K := 2) (by decide)) 1 true rfl (by rw [okE_ren]; rfl)
  have r2 : CallOK Try.prog ⟨23, [.c (.sl 9 15 3 3)], [(9, ⟨true, pcell gL, 0⟩)], ⟨.tu [.ag [.i 2, .i 0, .sx 11 1], .c (.i 0)], [], some (11, ⟨true, scell (verifyS gL3).sts, 31⟩)⟩⟩ := by
    have h1 := verify_trK (L := gL3) (c := 3) (by kernel_rfl) (by rw [show (verifyS gL3).trap = 2 by kernel_rfl]; decide) (K := 11) (by decide)
    have e1 : trapE 11 (verifyS gL3) = ⟨.tu [.ag [.i 2, .i 0, .sx 11 1], .c (.i 0)], [], some (11, ⟨true, scell (verifyS gL3).sts, 31⟩)⟩ := by
      unfold trapE
      rw [show (verifyS gL3).trap = 2 by kernel_rfl, show (verifyS gL3).pos = 0 by kernel_rfl, show (verifyS gL3).sts.length = 1 by kernel_rfl]
    rw [e1] at h1
    have h2 := h1.off (o := 15) (b := true) (r := 0) (cells := pcell gL) rfl (fun k hk => by have : k ∈ [11] := hk; rw [List.mem_singleton.1 this]; decide) (fun k en hk => by injection hk with hk; injection hk with hk _; subst hk; decide)
      (fun k en hk => by injection hk with hk; injection hk with _ hk; subst hk; exact scell_ks _) (fun j x hj => by
        have : (pcell gL)[15 + j]? = (pcell gL3)[j]? := by rw [← List.getElem?_drop]; rfl
        rw [this]; exact hj) (pcell_ks _)
    have h3 := h2.ren (swp 0 9) (swp_inj 0 9)
    refine h3.congr ?_
    unfold CallRec.ren Eff.ren renH
    simp only [List.map_cons, List.map_nil, Option.map_some, Ent.ren, ren_nk _ (scell_ks _), ren_nk _ (pcell_ks _)]
    rfl
  exact vBegun_w0 (by kernel_rfl) (guarded_ok 1) r1 (guarded_ok 9) r2 (by kernel_rfl)
end Go.Proofs.Ytkigmocchaikgab

/- Ridding: the program that is rid of what is dead is right, has no trap, and runs as it did: plain facts. -/
namespace Go.Proofs.Ytkigmocchaikgab

theorem orS_get {a b : V6 Bool} : ∀ j, j < 6 → (orS a b).get j = (a.get j || b.get j) := lt6 rfl rfl rfl rfl rfl rfl
/- what is live behind the k-th -/
/- the same as far as it is live -/
structure RelM (A : V6 Bool) (m m' : Mach) : Prop where
  t : m.t = m'.t
  mem : m.mem = m'.mem
  fin : m.fin = m'.fin
  reg : ∀ j, j < 6 → A.get j = true → m.s.get j = m'.s.get j ∧ m.r.get j = m'.r.get j
theorem RelM.sub {A B : V6 Bool} {m m' : Mach} (h : RelM A m m') (hs : ∀ j, j < 6 → B.get j = true → A.get j = true) : RelM B m m' := ⟨h.t, h.mem, h.fin, fun j hj hb => h.reg j hj (hs j hj hb)⟩
/- what is live ahead of a step that is kept: what it uses, and what is live behind it but for what it sets -/
theorem live_behind {i : Ins} {n : Int} {b : V6 Bool} {j : Nat} (hr : Right i n) (hj : j < 6) (h : b.get j = true) (hd : i.op ≤ 10 → j ≠ i.d.toNat) : (liveA i b).get j = true := by
  unfold liveA
  rw [orS_get j hj]
  split
  · rename_i c
    rw [V6.get_set _ _ _ _ (reg_nat (right_regs hr).1) hj, if_neg (fun e => hd c e.symm), h]
    cases (useOf i).get j <;> rfl
  · rw [h]; cases (useOf i).get j <;> rfl
theorem RelM.wth {i : Ins} {n : Int} {b : V6 Bool} {m m' : Mach} {x : BitVec 64} {o : Int} (hr : Right i n) (h : RelM (liveA i b) m m') : RelM b ((m.wth i.d.toNat x).on o) ((m'.wth i.d.toNat x).on o) := by
  have hd := reg_nat (right_regs hr).1
  refine ⟨by simp only [Mach.on, Mach.wth]; rw [h.t], h.mem, h.fin, fun j hj hb => ?_⟩
  simp only [Mach.on, Mach.wth]
  rw [V6.get_set _ _ _ _ hd hj, V6.get_set _ _ _ _ hd hj, V6.get_set _ _ _ _ hd hj, V6.get_set _ _ _ _ hd hj]
  by_cases c : i.d.toNat = j
  · rw [if_pos c, if_pos c, if_pos c, if_pos c]; exact ⟨rfl, rfl⟩
  · rw [if_neg c, if_neg c, if_neg c, if_neg c]
    exact h.reg j hj (live_behind hr hj hb fun _ e => c e.symm)
theorem RelM.on {i : Ins} {n : Int} {b : V6 Bool} {m m' : Mach} {o : Int} (hr : Right i n) (h : RelM (liveA i b) m m') (ho : 10 < i.op) : RelM b (m.on o) (m'.on o) :=
  ⟨by simp only [Mach.on]; rw [h.t], h.mem, h.fin, fun j hj hb => h.reg j hj (live_behind hr hj hb fun c => by omega)⟩
/- a step that is kept -/
/- a step that sets something and goes on -/
/- where a machine comes to, all is live behind that is live ahead there -/
theorem RelM.refl (A : V6 Bool) (m : Mach) : RelM A m m := ⟨rfl, rfl, rfl, fun _ _ _ => ⟨rfl, rfl⟩⟩
end Go.Proofs.Ytkigmocchaikgab

/- Ridding: the program that is rid of what is dead has no trap either; what comes of folding and ridding: plain facts. -/
namespace Go.Proofs.Ytkigmocchaikgab

structure RelS (A : V6 Bool) (t t' : St) : Prop where
  live : t.live = t'.live
  reg : ∀ j, j < 6 → A.get j = true → t.s.get j = t'.s.get j ∧ t.r.get j = t'.r.get j
theorem RelS.refl (A : V6 Bool) (t : St) : RelS A t t := ⟨rfl, fun _ _ _ => ⟨rfl, rfl⟩⟩
theorem RelS.sub {A B : V6 Bool} {t t' : St} (h : RelS A t t') (hs : ∀ j, j < 6 → B.get j = true → A.get j = true) : RelS B t t' := ⟨h.live, fun j hj hb => h.reg j hj (hs j hj hb)⟩
theorem RelS.join {A : V6 Bool} {t t' u u' : St} (h : RelS A t t') (k : RelS A u u') : RelS A (t.join u) (t'.join u') := by
  by_cases h1 : t.live = true
  · have h1' : t'.live = true := by rw [← h.live]; exact h1
    by_cases h2 : u.live = true
    · have h2' : u'.live = true := by rw [← k.live]; exact h2
      obtain ⟨a1, a2⟩ := St.join_live h1 h2
      obtain ⟨b1, b2⟩ := St.join_live h1' h2'
      refine ⟨a1.trans b1.symm, fun j hj hA => ?_⟩
      obtain ⟨x1, x2⟩ := a2 j hj
      obtain ⟨y1, y2⟩ := b2 j hj
      rw [x1, x2, y1, y2, (h.reg j hj hA).1, (h.reg j hj hA).2, (k.reg j hj hA).1, (k.reg j hj hA).2]
      exact ⟨rfl, rfl⟩
    · have h2' : ¬ u'.live = true := by rw [← k.live]; exact h2
      unfold St.join
      rw [if_pos h1, if_neg h2, if_pos h1', if_neg h2']; exact h
  · have h1' : ¬ t'.live = true := by rw [← h.live]; exact h1
    unfold St.join
    rw [if_neg h1, if_neg h1']; exact k
theorem RelS.wth {i : Ins} {n : Int} {b : V6 Bool} {t t' : St} {a : V4} (hr : Right i n) (h : RelS (liveA i b) t t') : RelS b (t.wth i.d.toNat a) (t'.wth i.d.toNat a) := by
  have hd := reg_nat (right_regs hr).1
  refine ⟨h.live, fun j hj hb => ?_⟩
  rw [St.wth_s hd hj, St.wth_s hd hj, St.wth_r hd hj, St.wth_r hd hj]
  by_cases c : i.d.toNat = j
  · rw [if_pos c, if_pos c, if_pos c, if_pos c]; exact ⟨rfl, rfl⟩
  · rw [if_neg c, if_neg c, if_neg c, if_neg c]
    exact h.reg j hj (live_behind hr hj hb fun _ e => c e.symm)
def RelL (A : List (V6 Bool)) (S S' : List St) : Prop := S.length = S'.length ∧ ∀ j, RelS (lvAt A j) (stAt S j) (stAt S' j)
theorem RelL.add {A : List (V6 Bool)} {S S' : List St} {k : Nat} {t t' : St} (h : RelL A S S') (ht : RelS (lvAt A k) t t') : RelL A (addS S k t) (addS S' k t') := by
  refine ⟨by rw [addS_len, addS_len]; exact h.1, fun j => ?_⟩
  rw [stAt_addS, stAt_addS, ← ht.live, ← h.1]
  by_cases c : t.live = true ∧ k = j ∧ k < S.length
  · rw [if_pos c, if_pos c]
    obtain ⟨_, rfl, _⟩ := c
    exact (h.2 k).join ht
  · rw [if_neg c, if_neg c]; exact h.2 j
/- what a step that is kept adds -/
/- what runs come to -/
theorem runOut_stops {L : List Ins} (hP : RightP L) (h0 : (verifyS L).trap = 0) {s : ByteArray} (hs : s.size = 64) (x : BitVec 64) : (runOut L s x).fin = 3 ∧ (runOut L s x).n ≤ L.length := by
  have := run_stops hP h0 L.length (startM s x) 0 (had_start hP hs) (Or.inl rfl) (fun _ => by show _ ≤ (0 : Int) + _; omega)
  unfold runOut outOf
  simp only
  exact ⟨this.1, by omega⟩
/- a program without traps, folded, rid, and both -/
end Go.Proofs.Ytkigmocchaikgab
