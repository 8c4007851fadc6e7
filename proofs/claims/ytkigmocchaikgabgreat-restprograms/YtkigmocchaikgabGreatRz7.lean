import Derived.Test.YtkigmocchaikgabGreatRz6
import Derived.Test.YtkigmocchaikgabGreatRz5
import Derived.Test.YtkigmocchaikgabGreatRz2
import Derived.Test.YtkigmocchaikgabGreatProg
import Derived.Test.YtkigmocchaikgabGreatRz3
import Derived.Test.YtkigmocchaikgabGreatRz4
/- States: which machines they have; joins: plain facts. -/
namespace Go.Proofs.YtkigmocchaikgabGreat
theorem anyFrom_no {p : Nat → Bool} : anyFrom p 6 = false ↔ ∀ j, j < 6 → p j = false := by
 simp only [anyFrom, Bool.or_eq_false_iff]
 constructor
 ·rintro ⟨h0, h1, h2, h3, h4, h5, _⟩
  exact lt6 h0 h1 h2 h3 h4 h5
 ·intro h
  exact ⟨h 0 (by decide), h 1 (by decide), h 2 (by decide), h 3 (by decide), h 4 (by decide), h 5 (by decide), trivial⟩
theorem St.z_iff {t : St} : eqCs t.cs St.z.cs = true ↔ t = St.z := by
 obtain ⟨l, ⟨s0, s1, s2, s3, s4, s5⟩, ⟨⟨a0, a1, a2, a3⟩, ⟨b0, b1, b2, b3⟩, ⟨c0, c1, c2, c3⟩, ⟨d0, d1, d2, d3⟩, ⟨e0, e1, e2, e3⟩, ⟨f0, f1, f2, f3⟩⟩⟩ := t
 simp [St.cs, St.z, no6, V6.rep, V4.z, eqCs, eqC, eqb, and_assoc]
theorem V4.z_iff {a : V4} : eqCs a.cs V4.z.cs = true ↔ a = V4.z := V4.eq_iff
structure St.Ok (t : St) : Prop where
 dead : t.live = false → t = St.z
 set : ∀ j, j < 6 → t.s.get j = true → (t.r.get j).ok = true
 unset : ∀ j, j < 6 → t.s.get j = false → t.r.get j = V4.z
theorem badR_no {t : St} {j : Nat} : badR t j = false ↔ ((t.s.get j = true → (t.r.get j).ok = true) ∧ (t.s.get j = false → t.r.get j = V4.z)) := by
 unfold badR
 cases h : t.s.get j with
 | true => simp
 | false =>
  rw [← V4.z_iff]
  simp
theorem St.ok_iff {t : St} : t.ok = true ↔ t.Ok := by
 unfold St.ok
 rw [Bool.and_eq_true, Bool.or_eq_true, St.z_iff, Bool.not_eq_true', anyFrom_no]
 constructor
 ·rintro ⟨h1, h2⟩
  exact ⟨fun h => h1.resolve_left (by rw [h]; decide), fun j hj => (badR_no.1 (h2 j hj)).1, fun j hj => (badR_no.1 (h2 j hj)).2⟩
 ·intro h
  refine ⟨?_, fun j hj => badR_no.2 ⟨h.set j hj, h.unset j hj⟩⟩
  cases hl : t.live with
  | true => exact Or.inl rfl
  | false => exact Or.inr (h.dead hl)
theorem rep_get {α : Type} (a : α) : ∀ j, j < 6 → (V6.rep a).get j = a := lt6 rfl rfl rfl rfl rfl rfl
theorem no6_get : ∀ j, j < 6 → no6.get j = false := lt6 rfl rfl rfl rfl rfl rfl
theorem St.z_Ok : St.z.Ok := ⟨fun _ => rfl, fun j hj h => (by rw [show St.z.s = no6 from rfl, no6_get j hj] at h; cases h), fun j hj _ => rep_get _ j hj⟩
theorem St.e_Ok : St.e.Ok := ⟨fun h => (by cases h), fun j hj h => (by rw [show St.e.s = no6 from rfl, no6_get j hj] at h; cases h), fun j hj _ => rep_get _ j hj⟩
theorem St.wth_s {t : St} {d j : Nat} {a : V4} (hd : d < 6) (hj : j < 6) : (t.wth d a).s.get j = if d = j then true else t.s.get j := V6.get_set _ _ _ _ hd hj
theorem St.wth_r {t : St} {d j : Nat} {a : V4} (hd : d < 6) (hj : j < 6) : (t.wth d a).r.get j = if d = j then a else t.r.get j := V6.get_set _ _ _ _ hd hj
theorem St.wth_Ok {t : St} {d : Nat} {a : V4} (hd : d < 6) (hl : t.live = true) (ha : a.ok = true) (h : t.Ok) : (t.wth d a).Ok := by
 refine ⟨fun hn => ?_, fun j hj hs => ?_, fun j hj hs => ?_⟩
 ·have : t.live = false := hn
  rw [hl] at this; cases this
 ·rw [St.wth_s hd hj] at hs
  rw [St.wth_r hd hj]
  split
  ·exact ha
  ·rename_i hne; rw [if_neg hne] at hs; exact h.set j hj hs
 ·rw [St.wth_s hd hj] at hs
  rw [St.wth_r hd hj]
  split
  ·rename_i hne; rw [if_pos hne] at hs; cases hs
  ·rename_i hne; rw [if_neg hne] at hs; exact h.unset j hj hs
theorem beginS_Ok : beginS.Ok := St.wth_Ok (by decide) rfl V4.any_ok St.e_Ok
/- a machine that the state has -/
structure St.Has (t : St) (m : Mach) : Prop where
 ok : t.Ok
 live : t.live = true
 mach : machErr m = 0
 fin : m.fin = 0
 reg : ∀ j, j < 6 → t.s.get j = true → m.s.get j = true ∧ (t.r.get j).has (m.r.get j) = true
theorem lackR_no {t : St} {m : Mach} {j : Nat} : lackR t m j = false ↔ (t.s.get j = true → m.s.get j = true ∧ (t.r.get j).has (m.r.get j) = true) := by
 unfold lackR
 cases t.s.get j <;> cases m.s.get j <;> cases (t.r.get j).has (m.r.get j) <;> simp
theorem St.has_iff {t : St} {m : Mach} : t.has m = true ↔ t.Has m := by
 unfold St.has
 rw [Bool.and_eq_true, Bool.and_eq_true, Bool.and_eq_true, Bool.and_eq_true, St.ok_iff, decide_eq_true_eq, decide_eq_true_eq, Bool.not_eq_true', anyFrom_no]
 constructor
 ·rintro ⟨h1, h2, h3, h4, h5⟩
  exact ⟨h1, h2, h3, h4, fun j hj => lackR_no.1 (h5 j hj)⟩
 ·intro h
  exact ⟨h.ok, h.live, h.mach, h.fin, fun j hj => lackR_no.2 (h.reg j hj)⟩
/- joins -/
theorem joinFrom_facts (t u : St) : ∀ n, n ≤ 6 → ∀ b : St, (joinFrom t u n b).live = b.live ∧ ∀ j, j < 6 →
  (joinFrom t u n b).s.get j = (if 6 - n ≤ j then ((t.s.get j && u.s.get j) || b.s.get j) else b.s.get j) ∧
  (joinFrom t u n b).r.get j = (if 6 - n ≤ j ∧ (t.s.get j && u.s.get j) = true then (t.r.get j).join (u.r.get j) else b.r.get j)
 | 0, _, b => ⟨rfl, fun j hj => ⟨by rw [if_neg (by omega)]; rfl, by rw [if_neg (by omega)]; rfl⟩⟩
 | n + 1, hn, b => by
  obtain ⟨h1, h2⟩ := joinFrom_facts t u n (by omega) (joinR t u (5 - n) b)
  have hk : 5 - n < 6 := by omega
  have hb : (joinR t u (5 - n) b).live = b.live ∧ ∀ j, j < 6 → (joinR t u (5 - n) b).s.get j = (if 5 - n = j then ((t.s.get j && u.s.get j) || b.s.get j) else b.s.get j) ∧
    (joinR t u (5 - n) b).r.get j = (if 5 - n = j ∧ (t.s.get j && u.s.get j) = true then (t.r.get j).join (u.r.get j) else b.r.get j) := by
   unfold joinR
   cases hc : (t.s.get (5 - n) && u.s.get (5 - n)) with
   | true =>
    rw [if_pos rfl]
    refine ⟨rfl, fun j hj => ?_⟩
    rw [St.wth_s hk hj, St.wth_r hk hj]
    by_cases hjj : 5 - n = j
    ·subst hjj; simp [hc]
    ·simp [hjj]
   | false =>
    rw [if_neg (by decide)]
    refine ⟨rfl, fun j hj => ?_⟩
    by_cases hjj : 5 - n = j
    ·subst hjj; simp [hc]
    ·simp [hjj]
  refine ⟨h1.trans hb.1, fun j hj => ?_⟩
  obtain ⟨h3, h4⟩ := h2 j hj
  obtain ⟨h5, h6⟩ := hb.2 j hj
  show (joinFrom t u n (joinR t u (5 - n) b)).s.get j = _ ∧ (joinFrom t u n (joinR t u (5 - n) b)).r.get j = _
  rw [h3, h4, h5, h6]
  have pick : ∀ {p q r : Prop} [Decidable p] [Decidable q] [Decidable r] (x y : Bool) (v w : V4), (r ↔ (p ∨ q)) → ¬ (p ∧ q) → ((if p then (x || (if q then (x || y) else y)) else (if q then (x || y) else y)) = (if r then (x || y) else y)) ∧
    ((if p ∧ x = true then v else (if q ∧ x = true then v else w)) = (if r ∧ x = true then v else w)) := by
   intro p q r _ _ _ x y v w h1 h2
   by_cases hp : p
   ·have hq : ¬ q := fun hq => h2 ⟨hp, hq⟩
    have hr : r := h1.2 (Or.inl hp)
    simp [hp, hq, hr]
   ·by_cases hq : q
    ·have hr : r := h1.2 (Or.inr hq)
     simp [hp, hq, hr]
    ·have hr : ¬ r := fun hr => (h1.1 hr).elim hp hq
     simp [hp, hq, hr]
  exact pick _ _ _ _ (by omega) (by omega)
theorem St.join_live {t u : St} (ht : t.live = true) (hu : u.live = true) : (t.join u).live = true ∧ ∀ j, j < 6 →
  (t.join u).s.get j = (t.s.get j && u.s.get j) ∧ (t.join u).r.get j = (if (t.s.get j && u.s.get j) = true then (t.r.get j).join (u.r.get j) else V4.z) := by
 unfold St.join
 rw [if_pos ht, if_pos hu]
 obtain ⟨h1, h2⟩ := joinFrom_facts t u 6 (Nat.le_refl 6) St.e
 refine ⟨h1, fun j hj => ?_⟩
 obtain ⟨h3, h4⟩ := h2 j hj
 rw [h3, h4, if_pos (by omega), show St.e.s = no6 from rfl, show St.e.r = V6.rep V4.z from rfl, no6_get j hj, rep_get _ j hj, Bool.or_false]
 exact ⟨rfl, by simp⟩
theorem St.join_Ok {t u : St} (ht : t.Ok) (hu : u.Ok) : (t.join u).Ok := by
 by_cases h1 : t.live = true
 ·by_cases h2 : u.live = true
  ·obtain ⟨h3, h4⟩ := St.join_live h1 h2
   refine ⟨fun h => (by rw [h3] at h; cases h), fun j hj hs => ?_, fun j hj hs => ?_⟩
   ·obtain ⟨h5, h6⟩ := h4 j hj
    rw [h5] at hs
    rw [h6, if_pos hs]
    rw [Bool.and_eq_true] at hs
    exact V4.join_ok (ht.set j hj hs.1) (hu.set j hj hs.2)
   ·obtain ⟨h5, h6⟩ := h4 j hj
    rw [h5] at hs
    rw [h6, if_neg (by rw [hs]; decide)]
  ·unfold St.join; rw [if_pos h1, if_neg h2]; exact ht
 ·unfold St.join; rw [if_neg h1]; exact hu
theorem St.join_Has {t u : St} {m : Mach} (ht : t.Ok) (hu : u.Ok) (h : t.Has m ∨ u.Has m) : (t.join u).Has m := by
 by_cases h1 : t.live = true
 ·by_cases h2 : u.live = true
  ·obtain ⟨h3, h4⟩ := St.join_live h1 h2
   have key : ∀ j, j < 6 → (t.join u).s.get j = true → m.s.get j = true ∧ ((t.join u).r.get j).has (m.r.get j) = true := by
    intro j hj hs
    obtain ⟨h5, h6⟩ := h4 j hj
    rw [h5] at hs
    rw [h6, if_pos hs]
    rw [Bool.and_eq_true] at hs
    rcases h with h | h
    ·exact ⟨(h.reg j hj hs.1).1, V4.join_has (ht.set j hj hs.1) (hu.set j hj hs.2) (Or.inl (h.reg j hj hs.1).2)⟩
    ·exact ⟨(h.reg j hj hs.2).1, V4.join_has (ht.set j hj hs.1) (hu.set j hj hs.2) (Or.inr (h.reg j hj hs.2).2)⟩
   rcases h with h | h
   ·exact ⟨St.join_Ok ht hu, h3, h.mach, h.fin, key⟩
   ·exact ⟨St.join_Ok ht hu, h3, h.mach, h.fin, key⟩
  ·have e : t.join u = t := by unfold St.join; rw [if_pos h1, if_neg h2]
   rw [e]
   exact h.resolve_right fun h => h2 h.live
 ·have e : t.join u = u := by unfold St.join; rw [if_neg h1]
  rw [e]
  exact h.resolve_left fun h => h1 h.live
end Go.Proofs.YtkigmocchaikgabGreat
/- The contracts of flow's Check, Begin, Has and Join. -/
namespace Go.Proofs.YtkigmocchaikgabGreat
open Go.RowKit
/- registers, looked up -/
section
variable {j : Int}
theorem lt_six (h : regB j = true) : decide (j < 6) = true := decide_eq_true (regB_iff.1 h).2
theorem b_ok (u : V6 Bool) (h : regB j = true) : (AC.isB (Option.getD (bcs u)[Int.toNat j * 1]? (AC.b false)) && Nat.blt (Int.toNat j * 1) (List.length (bcs u)) && (decide (0 ≤ j) && decide (j < 6))) = true :=
 reg_elim (P := fun j => (AC.isB (Option.getD (bcs u)[Int.toNat j * 1]? (AC.b false)) && Nat.blt (Int.toNat j * 1) (List.length (bcs u)) && (decide (0 ≤ j) && decide (j < 6))) = true) h rfl rfl rfl rfl rfl rfl
theorem b_eff (u : V6 Bool) (h : regB j = true) : Eff.mk (AV.c (AC.b (AC.asB (Option.getD (bcs u)[Int.toNat j * 1]? (AC.b false))))) [] none = Eff.mk (AV.c (AC.b (V6.get u (Int.toNat j)))) [] none :=
 reg_elim (P := fun j => Eff.mk (AV.c (AC.b (AC.asB (Option.getD (bcs u)[Int.toNat j * 1]? (AC.b false))))) [] none = Eff.mk (AV.c (AC.b (V6.get u (Int.toNat j)))) [] none) h rfl rfl rfl rfl rfl rfl
theorem ss_ok (t : St) (h : regB j = true) : (AC.isB (Option.getD (St.cs t)[1 + Int.toNat j * 1]? (AC.b false)) && Nat.blt (1 + Int.toNat j * 1) (List.length (St.cs t))) = true :=
 reg_elim (P := fun j => (AC.isB (Option.getD (St.cs t)[1 + Int.toNat j * 1]? (AC.b false)) && Nat.blt (1 + Int.toNat j * 1) (List.length (St.cs t))) = true) h rfl rfl rfl rfl rfl rfl
theorem ss_eff (t : St) (h : regB j = true) : Eff.mk (AV.c (AC.b (AC.asB (Option.getD (St.cs t)[1 + Int.toNat j * 1]? (AC.b false))))) [] none = Eff.mk (AV.c (AC.b (V6.get (St.s t) (Int.toNat j)))) [] none :=
 reg_elim (P := fun j => Eff.mk (AV.c (AC.b (AC.asB (Option.getD (St.cs t)[1 + Int.toNat j * 1]? (AC.b false))))) [] none = Eff.mk (AV.c (AC.b (V6.get (St.s t) (Int.toNat j)))) [] none) h rfl rfl rfl rfl rfl rfl
theorem sr_ok (t : St) (h : regB j = true) : Nat.ble (7 + Int.toNat j * 4 + 4) (List.length (St.cs t)) = true :=
 reg_elim (P := fun j => Nat.ble (7 + Int.toNat j * 4 + 4) (List.length (St.cs t)) = true) h rfl rfl rfl rfl rfl rfl
theorem sr_eff (t : St) (h : regB j = true) : Eff.mk (AV.ag (List.take 4 (List.drop (7 + Int.toNat j * 4) (St.cs t)))) [] none = Eff.mk (AV.ag (V4.cs (V6.get (St.r t) (Int.toNat j)))) [] none := by rw [st_get_r h]
end
/- the round that has n behind it -/
theorem rnd_reg {n : Nat} (hn : n + 1 ≤ 6) : regB ((6 - (n + 1) : Nat) : Int) = true := by rw [regB_iff]; omega
theorem rnd_nat {n : Nat} (hn : n + 1 ≤ 6) : ((6 - (n + 1) : Nat) : Int).toNat = 5 - n := by omega
theorem rnd_next {n : Nat} (hn : n + 1 ≤ 6) : IntKind.wrap IntKind.i64 (((6 - (n + 1) : Nat) : Int) + 1) = ((6 - n : Nat) : Int) := by rw [wrapN (by omega) (by omega)]; omega
theorem er_ne (b : Bool) : (er b != 0) = !b := by cases b <;> rfl
theorem fwith_ok {t : St} {d : Int} (a : V4) (h : regB d = true) : Ok 68 [.ag t.cs, .c (.i d), .ag a.cs] (.ag (t.wth d.toNat a).cs) := by
 have h1 := regB_iff.1 h
 have h2 := reg_nat h
 refine fwith_w0 ?_ ?_ ?_
 ·simp [h1.1, h1.2, st_len, V4.cs]; omega
 ·rw [st_set_s h]
 ·rw [st_set_r a h]; rfl
theorem fbegin_ok : Ok 33 [] (.ag beginS.cs) := fbegin_w0 (a := V4.any) (t := beginS) valAny_ok (fwith_ok (t := St.e) (d := 1) V4.any rfl)
abbrev fcKn (t : St) (j : Int) : Kn := ⟨[(1, .c (.w 0)), (14, .ag (bcs t.s)), (15, .c (.i j))], [(0, ⟨true, t.cs, 0⟩)], 1⟩
theorem fcLoop {t : St} {w : World} {β : Bs} {E : Eff} : ∀ n, n ≤ 6 → (anyFrom (badR t) n = true → ⟨.c (.i 1), [], none⟩ = E) → (anyFrom (badR t) n = false → ⟨.c (.i 0), [], none⟩ = E) →
  ART Tryz.prog 26 (cx w β 0 []) Tryz.f26.ntmps (cutAt Tryz.f26 0) (fcKn t (6 - n : Nat)) (REff w β E)
 | 0, _, _, hz => art_eq fcEnd_w0 (hz rfl)
 | n + 1, hn, hy, hz => by
  have hj := rnd_reg hn
  have ej := rnd_nat hn
  have f0 := lt_six hj
  have f1 := b_ok t.s hj
  have f2 : (decide (0 ≤ ((6 - (n + 1) : Nat) : Int)) && decide (((6 - (n + 1) : Nat) : Int) < 6)) = true := hj
  have f3 := sr_ok t hj
  have f4 := b_eff t.s hj
  have f5 := sr_eff t hj
  have yes : badR t (5 - n) = true → (⟨.c (.i 1), [], none⟩ : Eff) = E := fun h => hy (by rw [anyFrom, h]; rfl)
  have next : badR t (5 - n) = false → ART Tryz.prog 26 (cx w β 0 []) Tryz.f26.ntmps (cutAt Tryz.f26 0) (fcKn t (IntKind.wrap IntKind.i64 (((6 - (n + 1) : Nat) : Int) + 1))) (REff w β E) := by
   intro hb
   rw [rnd_next hn]
   refine fcLoop n (by omega) (fun h => hy ?_) (fun h => hz ?_)
   ·rw [anyFrom, hb, h]; rfl
   ·rw [anyFrom, hb, h]; rfl
  refine fcRound_all (by omega) (fun a b => ⟨f0, f1, f2, f3, f4, f5, valCheck_ok _, yes ?_⟩) (fun a b => ⟨f0, f1, f2, f3, ?_, f4, f5, valCheck_ok _, low_of rfl, next ?_⟩) (fun a b => ⟨f0, f1, f2, f3, f4, f5, yes ?_⟩) (fun a b => ⟨f0, f1, f2, f3, f4, f5, low_of rfl, next ?_⟩)
  ·rw [ej] at a b
   rw [er_ne] at b
   unfold badR; rw [a, b]; rfl
  ·rw [a]; rfl
  ·rw [ej] at a b
   rw [er_ne] at b
   unfold badR; rw [a, b]; rfl
  ·rw [ej] at a b
   unfold badR; rw [a]; exact b
  ·rw [ej] at a b
   unfold badR; rw [a]; exact b
theorem fcheck_ok (t : St) : Ok 26 [.ag t.cs] (.c (.i (er t.ok))) := by
 refine val_of Tryz.func26 rfl rfl rfl rfl fun w β => ?_
 have main : (t.live || eqCs t.cs St.z.cs) = true → ART Tryz.prog 26 (cx w β 0 []) Tryz.f26.ntmps (cutAt Tryz.f26 0) (fcKn t 0) (REff w β ⟨.c (.i (er t.ok)), [], none⟩) := by
  intro h
  refine fcLoop 6 (Nat.le_refl 6) (fun k => ?_) (fun k => ?_)
  ·unfold St.ok; rw [h, k]; rfl
  ·unfold St.ok; rw [h, k]; rfl
 refine fcTop_all (Nat.zero_le 1) (fun a b => ?_) (fun a b => ⟨low_of rfl, main ?_⟩) (fun a => ⟨low_of rfl, main ?_⟩)
 ·have b : (!eqCs t.cs St.z.cs) = true := b
  have h : (t.live || eqCs t.cs St.z.cs) = false := by
   revert a b
   cases t.live <;> cases eqCs t.cs St.z.cs <;> decide
  unfold St.ok; rw [h]; rfl
 ·have b : (!eqCs t.cs St.z.cs) = false := b
  rw [yes_not b]; cases t.live <;> rfl
 ·rw [yes_not a]; rfl
abbrev fjKn (t u b : St) (j : Int) : Kn := ⟨[(2, .c (.w 0)), (3, .c (.w 1)), (4, .c (.w 2)), (6, .c (.w 19)), (28, .c (.i j))], [(0, ⟨true, t.cs, 0⟩), (1, ⟨true, u.cs, 0⟩), (2, ⟨true, St.z.cs, 0⟩), (19, ⟨true, b.cs, 0⟩)], 20⟩
theorem fjLoop {t u : St} (ht : t.Ok) (hu : u.Ok) {w : World} {β : Bs} : ∀ n, n ≤ 6 → ∀ b : St,
  ART Tryz.prog 35 (cx w β 0 []) Tryz.f35.ntmps (cutAt Tryz.f35 0) (fjKn t u b (6 - n : Nat)) (REff w β ⟨.tu [.ag (joinFrom t u n b).cs, .c (.i 0)], [], none⟩)
 | 0, _, b => fjEnd_w0
 | n + 1, hn, b => by
  have hj := rnd_reg hn
  have ej := rnd_nat hn
  have hlt : 5 - n < 6 := by omega
  have f0 := lt_six hj
  have f1 := ss_ok t hj
  have f2 : (decide (0 ≤ ((6 - (n + 1) : Nat) : Int)) && decide (((6 - (n + 1) : Nat) : Int) < 6)) = true := hj
  have f3 := ss_ok u hj
  have f4 := sr_ok t hj
  have f5 := sr_ok u hj
  have f6 := ss_eff t hj
  have f7 := ss_eff u hj
  have f8 := sr_eff t hj
  have f9 := sr_eff u hj
  have next : ∀ b' : St, joinR t u (5 - n) b = b' → ART Tryz.prog 35 (cx w β 0 []) Tryz.f35.ntmps (cutAt Tryz.f35 0) (fjKn t u b' (IntKind.wrap IntKind.i64 (((6 - (n + 1) : Nat) : Int) + 1))) (REff w β ⟨.tu [.ag (joinFrom t u (n + 1) b).cs, .c (.i 0)], [], none⟩) := by
   intro b' hb
   rw [rnd_next hn, joinFrom, hb]
   exact fjLoop ht hu n (by omega) b'
  have hJ : t.s.get ((6 - (n + 1) : Nat) : Int).toNat = true → u.s.get ((6 - (n + 1) : Nat) : Int).toNat = true → Ok 79 [.ag (t.r.get ((6 - (n + 1) : Nat) : Int).toNat).cs, .ag (u.r.get ((6 - (n + 1) : Nat) : Int).toNat).cs] (.tu [.ag ((t.r.get ((6 - (n + 1) : Nat) : Int).toNat).join (u.r.get ((6 - (n + 1) : Nat) : Int).toNat)).cs, .c (.i 0)]) := fun a d => by
   rw [ej] at a d ⊢
   exact valJoin_ok (ht.set _ hlt a) (hu.set _ hlt d)
  refine fjRound_all (a := (t.r.get ((6 - (n + 1) : Nat) : Int).toNat).join (u.r.get ((6 - (n + 1) : Nat) : Int).toNat)) (b2 := b.wth ((6 - (n + 1) : Nat) : Int).toNat ((t.r.get ((6 - (n + 1) : Nat) : Int).toNat).join (u.r.get ((6 - (n + 1) : Nat) : Int).toNat))) (by omega)
   (fun a d => ⟨f0, f2, f1, f2, f3, f2, f4, f2, f5, f6, f7, f8, f9, hJ a d, fwith_ok _ hj, low_of rfl, next _ ?_⟩) (fun a d => ⟨f0, f2, f1, f2, f3, f6, f7, low_of rfl, next _ ?_⟩) (fun a => ⟨f0, f2, f1, f6, low_of rfl, next _ ?_⟩)
  ·rw [ej] at a d ⊢
   unfold joinR; rw [a, d]; rfl
  ·rw [ej] at a d
   unfold joinR; rw [a, d]; rfl
  ·rw [ej] at a
   unfold joinR; rw [a]; rfl
def joinE (t u : St) : Int := if t.ok && u.ok then 0 else 1
def joinA (t u : St) : St := if t.ok && u.ok then t.join u else St.z
theorem fjoin_ok (t u : St) : Ok 35 [.ag t.cs, .ag u.cs] (.tu [.ag (joinA t u).cs, .c (.i (joinE t u))]) := by
 refine val_of Tryz.func35 rfl rfl rfl rfl fun w β => ?_
 have bad : (t.ok && u.ok) = false → (⟨.tu [.ag St.z.cs, .c (.i 1)], [], none⟩ : Eff) = ⟨.tu [.ag (joinA t u).cs, .c (.i (joinE t u))], [], none⟩ := fun h => by unfold joinA joinE; rw [h]; rfl
 refine fjTop_all (e := er t.ok) (f := er u.ok) (Nat.zero_le 20) (fun a => ⟨fcheck_ok t, bad ?_⟩) (fun a b => ⟨fcheck_ok t, fcheck_ok u, bad ?_⟩) (fun a b d => ⟨fcheck_ok t, fcheck_ok u, ?_⟩) (fun a b d e => ⟨fcheck_ok t, fcheck_ok u, ?_⟩) (fun a b d e => ⟨fcheck_ok t, fcheck_ok u, low_of rfl, ?_⟩)
 ·rw [er_ne] at a
  rw [show t.ok = false by simpa using a]; rfl
 ·rw [er_ne] at b
  rw [show u.ok = false by simpa using b]; cases t.ok <;> rfl
 all_goals
  rw [er_ne] at a b
  have a : t.ok = true := by simpa using a
  have b : u.ok = true := by simpa using b
  have hA : joinA t u = t.join u := by unfold joinA; rw [a, b]; rfl
  have hE : joinE t u = 0 := by unfold joinE; rw [a, b]; rfl
  rw [hA, hE]
  unfold St.join
 ·rw [if_neg (by simpa using d)]
 ·rw [if_pos (by simpa using d), if_neg (by simpa using e)]
 ·rw [if_pos (by simpa using d), if_pos (by simpa using e)]
  exact fjLoop (St.ok_iff.1 a) (St.ok_iff.1 b) 6 (Nat.le_refl 6) St.e
end Go.Proofs.YtkigmocchaikgabGreat
/- A step on what may be: it is right, and no step of a machine that is had is left out: plain facts. -/
namespace Go.Proofs.YtkigmocchaikgabGreat
theorem fine_right {i : Ins} : fineI i = true ↔ Right i 65 := by
 unfold fineI
 rw [Bool.and_eq_true, Bool.and_eq_true]
 exact ⟨fun ⟨a, b, c⟩ => ⟨a, b, c⟩, fun h => ⟨h.kind, h.fits, h.bare⟩⟩
theorem goesB_mono {o n n' : Int} (h : n ≤ n') (hg : goesB o n = true) : goesB o n' = true := by
 simp only [goesB, Bool.and_eq_true, decide_eq_true_eq] at hg ⊢
 omega
theorem Right.mono {i : Ins} {n n' : Int} (h : n ≤ n') (hr : Right i n) : Right i n' := by
 refine ⟨hr.kind, ?_, hr.bare⟩
 have := hr.fits
 unfold inB at this ⊢
 by_cases c1 : i.op = 10 ∨ i.op = 11
 ·rw [if_pos c1] at this ⊢; exact this
 rw [if_neg c1] at this ⊢
 by_cases c2 : i.op = 12
 ·rw [if_pos c2] at this ⊢; exact goesB_mono h this
 rw [if_neg c2] at this ⊢
 by_cases c3 : i.op = 13 ∨ i.op = 14
 ·rw [if_pos c3] at this ⊢
  rw [Bool.and_eq_true] at this ⊢
  exact ⟨this.1, goesB_mono h this.2⟩
 rw [if_neg c3] at this ⊢
 exact this
theorem lacks_no {u s : V6 Bool} (h : lacks u s = false) : ∀ j, j < 6 → u.get j = true → s.get j = true := by
 rw [lacks_from, anyFrom_no] at h
 intro j hj hu
 have := h j hj
 rw [hu] at this
 simpa using this
theorem lacks_of {u s : V6 Bool} (h : ∀ j, j < 6 → u.get j = true → s.get j = true) : lacks u s = false := by
 rw [lacks_from, anyFrom_no]
 intro j hj
 cases hu : u.get j with
 | false => rfl
 | true => rw [h j hj hu]; rfl
theorem set_get {v : V6 Bool} {k j : Nat} (hk : k < 6) (hj : j < 6) : (v.set k true).get j = if k = j then true else v.get j := V6.get_set _ _ _ _ hk hj
theorem use_s {i : Ins} (h1 : i.op ≠ 12) (h2 : i.op ≠ 15) (hs : regB i.s = true) : (useOf i).get i.s.toNat = true := by
 have h3 := regB_iff.1 hs
 have h4 := reg_nat hs
 unfold useOf
 rw [if_neg h1, if_neg h2, if_neg (by omega), set_get h4 h4, if_pos rfl]
theorem use_d {i : Ins} (h1 : i.op ≠ 12) (h2 : i.op ≠ 15) (h3 : i.op ≠ 1) (h4 : i.op ≠ 10) (hd : regB i.d = true) (hs : srcB i.s = true) : (useOf i).get i.d.toNat = true := by
 have h5 := reg_nat hd
 unfold useOf
 rw [if_neg h1, if_neg h2, if_neg (by omega : ¬ (i.op = 1 ∨ i.op = 10))]
 by_cases c : i.s = -1
 ·rw [if_pos c, set_get h5 h5, if_pos rfl]
 ·rw [if_neg c]
  have h6 := reg_nat ((srcB_iff.1 hs).resolve_left c)
  rw [set_get h6 h5, set_get h5 h5, if_pos rfl]
  split <;> rfl
theorem srcV_ok {i : Ins} {n : Int} {t : St} (hr : Right i n) (ht : t.Ok) (hu : lacks (useOf i) t.s = false) (h1 : i.op ≠ 12) (h2 : i.op ≠ 15) : (srcV i t).ok = true := by
 have hg := right_regs hr
 unfold srcV
 by_cases c : i.s = -1
 ·rw [if_pos c]; exact V4.of_ok _
 ·rw [if_neg c]
  have hs := (srcB_iff.1 hg.2).resolve_left c
  exact ht.set _ (reg_nat hs) (lacks_no hu _ (reg_nat hs) (use_s h1 h2 hs))
theorem dstV_ok {i : Ins} {n : Int} {t : St} (hr : Right i n) (ht : t.Ok) (hu : lacks (useOf i) t.s = false) (h1 : i.op ≠ 12) (h2 : i.op ≠ 15) (h3 : i.op ≠ 1) (h4 : i.op ≠ 10) : (t.r.get i.d.toNat).ok = true := by
 have hg := right_regs hr
 exact ht.set _ (reg_nat hg.1) (lacks_no hu _ (reg_nat hg.1) (use_d h1 h2 h3 h4 hg.1 hg.2))
theorem trap_zero {i : Ins} {t : St} (h : trapS i t = 0) : lacks (useOf i) t.s = false ∧ (i.op = 10 → farS i (t.r.get i.s.toNat) = false) ∧ (i.op = 11 → farS i (t.r.get i.d.toNat) = false) := by
 unfold trapS at h
 by_cases c0 : lacks (useOf i) t.s = true
 ·rw [if_pos c0] at h; exact absurd h (by decide)
 rw [if_neg c0] at h
 refine ⟨by simpa using c0, fun h1 => ?_, fun h1 => ?_⟩
 ·rw [if_pos h1] at h
  cases hf : farS i (t.r.get i.s.toNat) with
  | false => rfl
  | true => rw [hf] at h; exact absurd h (by decide)
 ·rw [if_neg (by omega), if_pos h1] at h
  cases hf : farS i (t.r.get i.d.toNat) with
  | false => rfl
  | true => rw [hf] at h; exact absurd h (by decide)
/- a step, kind by kind -/
theorem ops_of {i : Ins} {n : Int} (h : Right i n) : i.op = 10 ∨ i.op = 11 ∨ i.op = 12 ∨ i.op = 13 ∨ i.op = 14 ∨ i.op = 15 ∨ i.op = 1 ∨ (2 ≤ i.op ∧ i.op ≤ 9) := by
 have := kind_iff.1 h.kind
 omega
section
variable {i : Ins} {t : St} {m : Mach}
theorem goS_load (h : i.op = 10) : goS i t = (t.wth i.d.toNat (V4.bytes (nv i.im)), St.z) := by unfold goS; rw [if_pos h]
theorem goS_store (h : i.op = 11) : goS i t = (t, St.z) := by unfold goS; rw [if_neg (by omega), if_pos h]
theorem goS_jump (h : i.op = 12) : goS i t = (St.z, t) := by unfold goS; rw [if_neg (by omega), if_neg (by omega), if_pos h]
theorem goS_eq (h : i.op = 13) : goS i t = (leftS i t ((t.r.get i.d.toNat).other (srcV i t)), leftS i t ((t.r.get i.d.toNat).equal (srcV i t))) := by
 unfold goS; rw [if_neg (by omega), if_neg (by omega), if_neg (by omega), if_pos h]
theorem goS_lt (h : i.op = 14) : goS i t = (leftS i t ((t.r.get i.d.toNat).notLess (srcV i t)), leftS i t ((t.r.get i.d.toNat).less (srcV i t))) := by
 unfold goS; rw [if_neg (by omega), if_neg (by omega), if_neg (by omega), if_neg (by omega), if_pos h]
theorem goS_exit (h : i.op = 15) : goS i t = (St.z, St.z) := by
 unfold goS; rw [if_neg (by omega), if_neg (by omega), if_neg (by omega), if_neg (by omega), if_neg (by omega), if_pos h]
theorem goS_mov (h : i.op = 1) : goS i t = (t.wth i.d.toNat (srcV i t), St.z) := by
 unfold goS; rw [if_neg (by omega), if_neg (by omega), if_neg (by omega), if_neg (by omega), if_neg (by omega), if_neg (by omega), if_pos h]
theorem goS_two (h : 2 ≤ i.op ∧ i.op ≤ 9) : goS i t = (t.wth i.d.toNat (V4.two i.op (t.r.get i.d.toNat) (srcV i t)), St.z) := by
 unfold goS; rw [if_neg (by omega), if_neg (by omega), if_neg (by omega), if_neg (by omega), if_neg (by omega), if_neg (by omega), if_neg (by omega)]
theorem stepM_reach (hu : lacks (useOf i) m.s = false) (h : i.op = 10 ∨ i.op = 11) : stepM i m = reachM i m := by unfold stepM; rw [if_neg (by rw [hu]; decide), if_pos h]
theorem reachM_load (hf : farB i m = false) (h : i.op = 10) : reachM i m = (m.wth i.d.toNat (loadL (memL m.mem (fromN i m).toNat i.im.toNat))).on 0 := by
 unfold reachM; rw [if_neg (by rw [hf]; decide), if_pos h]
theorem reachM_store (hf : farB i m = false) (h : i.op = 11) : reachM i m = Mach.on ⟨m.t, m.r, m.s, putMem m.mem (fromN i m).toNat i.im.toNat (m.r.get i.s.toNat), m.fin⟩ 0 := by
 unfold reachM; rw [if_neg (by rw [hf]; decide), if_neg (by omega)]
theorem stepM_jump (hu : lacks (useOf i) m.s = false) (h : i.op = 12) : stepM i m = m.on i.of := by
 unfold stepM; rw [if_neg (by rw [hu]; decide), if_neg (by omega), if_pos h]
theorem stepM_eq (hu : lacks (useOf i) m.s = false) (h : i.op = 13) : stepM i m = m.on (if eqb (m.r.get i.d.toNat) (srcN i m) then i.of else 0) := by
 unfold stepM; rw [if_neg (by rw [hu]; decide), if_neg (by omega), if_neg (by omega), if_pos h]
theorem stepM_lt (hu : lacks (useOf i) m.s = false) (h : i.op = 14) : stepM i m = m.on (if nv (m.r.get i.d.toNat) < nv (srcN i m) then i.of else 0) := by
 unfold stepM; rw [if_neg (by rw [hu]; decide), if_neg (by omega), if_neg (by omega), if_neg (by omega), if_pos h]
theorem stepM_exit (hu : lacks (useOf i) m.s = false) (h : i.op = 15) : stepM i m = m.fine 3 := by
 unfold stepM; rw [if_neg (by rw [hu]; decide), if_neg (by omega), if_neg (by omega), if_neg (by omega), if_neg (by omega), if_pos h]
theorem stepM_two (hu : lacks (useOf i) m.s = false) (h : 1 ≤ i.op ∧ i.op ≤ 9) : stepM i m = (m.wth i.d.toNat (numN i.op (m.r.get i.d.toNat) (srcN i m))).on 0 := by
 unfold stepM; rw [if_neg (by rw [hu]; decide), if_neg (by omega), if_neg (by omega), if_neg (by omega), if_neg (by omega), if_neg (by omega)]
theorem numN_mov (h : i.op = 1) (x y : BitVec 64) : numN i.op x y = y := by unfold numN; rw [if_pos h]
end
theorem leftS_Ok {i : Ins} {n : Int} {t : St} {x : V4 × V4 × Bool} (hr : Right i n) (ht : t.Ok) (hl : t.live = true) (hx : x.2.2 = true → x.1.ok = true ∧ x.2.1.ok = true) : (leftS i t x).Ok := by
 have hg := right_regs hr
 unfold leftS
 by_cases c : x.2.2 = true
 ·rw [if_pos c]
  have h1 := St.wth_Ok (reg_nat hg.1) hl (hx c).1 ht
  by_cases cs : i.s = -1
  ·rw [if_pos cs]; exact h1
  ·rw [if_neg cs]
   have hs := (srcB_iff.1 hg.2).resolve_left cs
   exact St.wth_Ok (reg_nat hs) hl (hx c).2 h1
 ·rw [if_neg c]; exact St.z_Ok
theorem goS_Ok {i : Ins} {n : Int} {t : St} (hr : Right i n) (ht : t.Ok) (hl : t.live = true) (h0 : trapS i t = 0) : (goS i t).1.Ok ∧ (goS i t).2.Ok := by
 have hd := reg_nat (right_regs hr).1
 obtain ⟨hu, h10, h11⟩ := trap_zero h0
 rcases ops_of hr with c | c | c | c | c | c | c | c
 ·rw [goS_load c]; exact ⟨St.wth_Ok hd hl (V4.bytes_ok _) ht, St.z_Ok⟩
 ·rw [goS_store c]; exact ⟨ht, St.z_Ok⟩
 ·rw [goS_jump c]; exact ⟨St.z_Ok, ht⟩
 ·have hs := srcV_ok hr ht hu (by omega) (by omega)
  have hdv := dstV_ok hr ht hu (by omega) (by omega) (by omega) (by omega)
  rw [goS_eq c]; exact ⟨leftS_Ok hr ht hl (V4.other_ok hdv hs), leftS_Ok hr ht hl (V4.equal_ok hdv hs)⟩
 ·have hs := srcV_ok hr ht hu (by omega) (by omega)
  have hdv := dstV_ok hr ht hu (by omega) (by omega) (by omega) (by omega)
  rw [goS_lt c]; exact ⟨leftS_Ok hr ht hl (V4.notLess_ok hdv hs), leftS_Ok hr ht hl (V4.less_ok hdv hs)⟩
 ·rw [goS_exit c]; exact ⟨St.z_Ok, St.z_Ok⟩
 ·rw [goS_mov c]; exact ⟨St.wth_Ok hd hl (srcV_ok hr ht hu (by omega) (by omega)) ht, St.z_Ok⟩
 ·have hs := srcV_ok hr ht hu (by omega) (by omega)
  have hdv := dstV_ok hr ht hu (by omega) (by omega) (by omega) (by omega)
  rw [goS_two c]; exact ⟨St.wth_Ok hd hl (V4.two_ok (by omega) hdv hs) ht, St.z_Ok⟩
theorem stepS_Ok {i : Ins} {n : Int} {t : St} (hr : Right i n) (ht : t.Ok) : (stepS i t).1.Ok ∧ (stepS i t).2.1.Ok := by
 unfold stepS
 by_cases hl : t.live = true
 ·rw [if_pos hl]
  by_cases h0 : trapS i t = 0
  ·rw [if_pos h0]; exact goS_Ok hr ht hl h0
  ·rw [if_neg h0]; exact ⟨St.z_Ok, St.z_Ok⟩
 ·rw [if_neg hl]; exact ⟨St.z_Ok, St.z_Ok⟩
/- machines that are had -/
theorem has_srcV {i : Ins} {n : Int} {t : St} {m : Mach} (hr : Right i n) (h : t.Has m) (hu : lacks (useOf i) t.s = false) (h1 : i.op ≠ 12) (h2 : i.op ≠ 15) : (srcV i t).has (srcN i m) = true := by
 have hg := right_regs hr
 unfold srcV srcN
 by_cases c : i.s = -1
 ·rw [if_pos c, if_pos c]; exact V4.of_has.2 rfl
 ·rw [if_neg c, if_neg c]
  have hs := (srcB_iff.1 hg.2).resolve_left c
  exact (h.reg _ (reg_nat hs) (lacks_no hu _ (reg_nat hs) (use_s h1 h2 hs))).2
theorem has_dstV {i : Ins} {n : Int} {t : St} {m : Mach} (hr : Right i n) (h : t.Has m) (hu : lacks (useOf i) t.s = false) (h1 : i.op ≠ 12) (h2 : i.op ≠ 15) (h3 : i.op ≠ 1) (h4 : i.op ≠ 10) : (t.r.get i.d.toNat).has (m.r.get i.d.toNat) = true := by
 have hg := right_regs hr
 exact (h.reg _ (reg_nat hg.1) (lacks_no hu _ (reg_nat hg.1) (use_d h1 h2 h3 h4 hg.1 hg.2))).2
theorem has_lacks {u : V6 Bool} {t : St} {m : Mach} (h : t.Has m) (hu : lacks u t.s = false) : lacks u m.s = false :=
 lacks_of fun j hj hj' => (h.reg j hj (lacks_no hu j hj hj')).1
theorem far_sound {i : Ins} {a : V4} {x : BitVec 64} (ha : a.has x = true) (h : farS i a = false) : ¬ nv (bsub 64#64 i.im) < nv (badd x (BitVec.ofInt 64 i.of)) := by
 have h1 := V4.two_has (op := 2) (by decide) ha (V4.of_has.2 (Eq.refl (BitVec.ofInt 64 i.of)))
 have e : numN 2 x (BitVec.ofInt 64 i.of) = badd x (BitVec.ofInt 64 i.of) := by
  unfold numN
  rw [if_neg (by decide), if_pos (by decide)]
  unfold numB
  rw [if_pos rfl]
 rw [e] at h1
 have h2 := (V4.has_iff.1 h1).2.2.2
 have h3 : ¬ nv (bsub 64#64 i.im) < nv (V4.two 2 a (V4.of (BitVec.ofInt 64 i.of))).h := by
  unfold farS at h
  simpa using h
 omega
theorem farB_no {i : Ins} {n : Int} {t : St} {m : Mach} (hr : Right i n) (h : t.Has m) (h0 : trapS i t = 0) (ho : i.op = 10 ∨ i.op = 11) : farB i m = false := by
 obtain ⟨hu, h10, h11⟩ := trap_zero h0
 obtain ⟨hd, hs, _⟩ := fits_reach hr ho
 unfold farB fromN
 rw [decide_eq_false_iff_not]
 rcases ho with ho | ho
 ·rw [if_neg (by omega)]
  exact far_sound (h.reg _ (reg_nat hs) (lacks_no hu _ (reg_nat hs) (use_s (by omega) (by omega) hs))).2 (h10 ho)
 ·rw [if_pos ho]
  exact far_sound (has_dstV hr h hu (by omega) (by omega) (by omega) (by omega)) (h11 ho)
theorem loadL_lt : ∀ l : List (BitVec 8), l.length ≤ 8 → (loadL l).toNat < 2 ^ (8 * l.length)
 | [], _ => by simp [loadL]
 | b :: l, h => by
  have ih := loadL_lt l (by simp at h; omega)
  simp only [loadL, bor, bshl, BitVec.toNat_or, BitVec.toNat_shiftLeft, BitVec.toNat_setWidth, List.length_cons]
  have hb := b.isLt
  apply Nat.or_lt_two_pow
  ·refine Nat.lt_of_le_of_lt (Nat.mod_le _ _) ?_
   rw [Nat.shiftLeft_eq, show 8 * (l.length + 1) = 8 * l.length + 8 by omega, Nat.pow_add]
   exact Nat.mul_lt_mul_of_pos_right ih (by decide)
  ·refine Nat.lt_of_le_of_lt (Nat.mod_le _ _) ?_
   exact Nat.lt_of_lt_of_le hb (Nat.pow_le_pow_right (by decide) (by omega))
theorem load_has {x : BitVec 64} (hs : sizeB x = true) (s : ByteArray) (a : Nat) : (V4.bytes (nv x)).has (loadL (memL s a x.toNat)) = true := by
 apply V4.bytes_has
 refine size_elim (P := fun x => nv (loadL (memL s a x.toNat)) ≤ nv (byteTop (nv x))) hs ?_ ?_ ?_ ?_
 ·have := loadL_lt (memL s a 1) (by rw [memL_length]; decide)
  rw [memL_length] at this
  show nv (loadL (memL s a 1)) ≤ 255
  unfold nv
  omega
 ·have := loadL_lt (memL s a 2) (by rw [memL_length]; decide)
  rw [memL_length] at this
  show nv (loadL (memL s a 2)) ≤ 65535
  unfold nv
  omega
 ·have := loadL_lt (memL s a 4) (by rw [memL_length]; decide)
  rw [memL_length] at this
  show nv (loadL (memL s a 4)) ≤ 4294967295
  unfold nv
  omega
 ·exact (ends _).2
/- a machine with a number put where the state has it -/
theorem Has_wth {t : St} {m m' : Mach} {d : Nat} {a : V4} {x : BitVec 64} (hd : d < 6) (h : t.Has m) (hx : a.has x = true) (hm : machErr m' = 0) (hf : m'.fin = 0) (hs : m'.s = m.s.set d true) (hr : m'.r = m.r.set d x) : (t.wth d a).Has m' := by
 refine ⟨St.wth_Ok hd h.live (V4.has_ok hx) h.ok, h.live, hm, hf, fun j hj hsj => ?_⟩
 rw [St.wth_s hd hj] at hsj
 rw [St.wth_r hd hj, hs, hr, V6.get_set _ _ _ _ hd hj, V6.get_set _ _ _ _ hd hj]
 by_cases c : d = j
 ·rw [if_pos c, if_pos c, if_pos c]; exact ⟨rfl, hx⟩
 ·rw [if_neg c] at hsj
  rw [if_neg c, if_neg c, if_neg c]; exact h.reg j hj hsj
/- what is known better of a register -/
theorem Has_know {t : St} {m m' : Mach} {d : Nat} {a : V4} (hd : d < 6) (h : t.Has m) (hset : m.s.get d = true) (hx : a.has (m.r.get d) = true) (hm : machErr m' = 0) (hf : m'.fin = 0) (hs : m'.s = m.s) (hr : m'.r = m.r) : (t.wth d a).Has m' := by
 refine ⟨St.wth_Ok hd h.live (V4.has_ok hx) h.ok, h.live, hm, hf, fun j hj hsj => ?_⟩
 rw [St.wth_s hd hj] at hsj
 rw [St.wth_r hd hj, hs, hr]
 by_cases c : d = j
 ·subst c; rw [if_pos rfl]; exact ⟨hset, hx⟩
 ·rw [if_neg c] at hsj
  rw [if_neg c]; exact h.reg j hj hsj
theorem Has_same {t : St} {m m' : Mach} (h : t.Has m) (hm : machErr m' = 0) (hf : m'.fin = 0) (hs : m'.s = m.s) (hr : m'.r = m.r) : t.Has m' :=
 ⟨h.ok, h.live, hm, hf, fun j hj => by rw [hs, hr]; exact h.reg j hj⟩
theorem Has_left {i : Ins} {n : Int} {t : St} {m m' : Mach} {x : V4 × V4 × Bool} (hr : Right i n) (h : t.Has m) (hu : lacks (useOf i) t.s = false) (ho : i.op = 13 ∨ i.op = 14) (hx : x.2.2 = true ∧ x.1.has (m.r.get i.d.toNat) = true ∧ x.2.1.has (srcN i m) = true)
  (hm : machErr m' = 0) (hf : m'.fin = 0) (hs : m'.s = m.s) (hr' : m'.r = m.r) : (leftS i t x).Has m' := by
 have hg := right_regs hr
 have hd := reg_nat hg.1
 have hds := (h.reg _ hd (lacks_no hu _ hd (use_d (by omega) (by omega) (by omega) (by omega) hg.1 hg.2))).1
 unfold leftS
 rw [if_pos hx.1]
 have h1 := Has_know hd h hds hx.2.1 h.mach h.fin rfl rfl
 by_cases cs : i.s = -1
 ·rw [if_pos cs]; exact Has_same h1 hm hf hs hr'
 ·rw [if_neg cs]
  have hsr := (srcB_iff.1 hg.2).resolve_left cs
  have h2 : x.2.1.has (m.r.get i.s.toNat) = true := by
   have := hx.2.2
   unfold srcN at this
   rwa [if_neg cs] at this
  exact Has_know (reg_nat hsr) h1 (h.reg _ (reg_nat hsr) (lacks_no hu _ (reg_nat hsr) (use_s (by omega) (by omega) hsr))).1 h2 hm hf hs hr'
/- a step that doesn't trap here, of a machine that is had: it doesn't trap there; it stops, or where it comes to, it is had -/
theorem stepS_sound {i : Ins} {n : Int} {t : St} {m : Mach} (hr : Right i n) (h : t.Has m) (h0 : trapS i t = 0) :
  ((stepM i m).fin = 3 ∧ i.op = 15) ∨ ((stepM i m).fin = 0 ∧ (machErr (stepM i m) = 0 → ((stepM i m).t = m.t + 1 ∧ (goS i t).1.Has (stepM i m)) ∨ ((i.op = 12 ∨ i.op = 13 ∨ i.op = 14) ∧ (stepM i m).t = m.t + 1 + i.of ∧ (goS i t).2.Has (stepM i m)))) := by
 have hd := reg_nat (right_regs hr).1
 obtain ⟨hu, h10, h11⟩ := trap_zero h0
 have hlm := has_lacks h hu
 have hfin := h.fin
 have t1 : ∀ m' : Mach, m'.t = m.t → (m'.on 0).t = m.t + 1 := fun m' e => by show m'.t + 1 + 0 = _; rw [e]; omega
 rcases ops_of hr with c | c | c | c | c | c | c | c
 ·have hf := farB_no hr h h0 (Or.inl c)
  obtain ⟨_, _, hz, _⟩ := fits_reach hr (Or.inl c)
  rw [stepM_reach hlm (Or.inl c), reachM_load hf c, goS_load c]
  exact Or.inr ⟨hfin, fun hm => Or.inl ⟨t1 _ rfl, Has_wth hd h (load_has hz _ _) hm hfin rfl rfl⟩⟩
 ·have hf := farB_no hr h h0 (Or.inr c)
  rw [stepM_reach hlm (Or.inr c), reachM_store hf c, goS_store c]
  exact Or.inr ⟨hfin, fun hm => Or.inl ⟨t1 _ rfl, Has_same h hm hfin rfl rfl⟩⟩
 ·rw [stepM_jump hlm c, goS_jump c]
  exact Or.inr ⟨hfin, fun hm => Or.inr ⟨Or.inl c, rfl, Has_same h hm hfin rfl rfl⟩⟩
 ·have hs := has_srcV hr h hu (by omega) (by omega)
  have hdv := has_dstV hr h hu (by omega) (by omega) (by omega) (by omega)
  rw [stepM_eq hlm c, goS_eq c]
  by_cases e : eqb (m.r.get i.d.toNat) (srcN i m) = true
  ·rw [if_pos e]
   have e' := (eqb_iff _ _).1 e
   refine Or.inr ⟨hfin, fun hm => Or.inr ⟨Or.inr (Or.inl c), rfl, Has_left hr h hu (Or.inl c) ?_ hm hfin rfl rfl⟩⟩
   have := V4.equal_has hdv (by rw [e']; exact hs)
   rw [← e']; exact this
  ·rw [if_neg e]
   have e' : m.r.get i.d.toNat ≠ srcN i m := fun h => e ((eqb_iff _ _).2 h)
   exact Or.inr ⟨hfin, fun hm => Or.inl ⟨t1 _ rfl, Has_left hr h hu (Or.inl c) (V4.other_has hdv hs e') hm hfin rfl rfl⟩⟩
 ·have hs := has_srcV hr h hu (by omega) (by omega)
  have hdv := has_dstV hr h hu (by omega) (by omega) (by omega) (by omega)
  rw [stepM_lt hlm c, goS_lt c]
  by_cases e : nv (m.r.get i.d.toNat) < nv (srcN i m)
  ·rw [if_pos e]
   exact Or.inr ⟨hfin, fun hm => Or.inr ⟨Or.inr (Or.inr c), rfl, Has_left hr h hu (Or.inr c) (V4.less_has hdv hs e) hm hfin rfl rfl⟩⟩
  ·rw [if_neg e]
   exact Or.inr ⟨hfin, fun hm => Or.inl ⟨t1 _ rfl, Has_left hr h hu (Or.inr c) (V4.notLess_has hdv hs (by omega)) hm hfin rfl rfl⟩⟩
 ·rw [stepM_exit hlm c]
  exact Or.inl ⟨rfl, c⟩
 ·have hs := has_srcV hr h hu (by omega) (by omega)
  rw [stepM_two hlm (by omega), goS_mov c, numN_mov c]
  exact Or.inr ⟨hfin, fun hm => Or.inl ⟨t1 _ rfl, Has_wth hd h hs hm hfin rfl rfl⟩⟩
 ·have hs := has_srcV hr h hu (by omega) (by omega)
  have hdv := has_dstV hr h hu (by omega) (by omega) (by omega) (by omega)
  rw [stepM_two hlm (by omega), goS_two c]
  exact Or.inr ⟨hfin, fun hm => Or.inl ⟨t1 _ rfl, Has_wth hd h (V4.two_has (by omega) hdv hs) hm hfin rfl rfl⟩⟩
end Go.Proofs.YtkigmocchaikgabGreat
/- The contract of flow.Step, and of what it calls. -/
namespace Go.Proofs.YtkigmocchaikgabGreat
open Go.RowKit
/- a step and an Exit behind it, as a program -/
theorem code2 (a : Ins) : (codeErr [a, exitI] == 0) = (kindB a && (inB a 1 && bareB a)) := by
 have e1 : kindB exitI = true := rfl
 have e2 : inB exitI 0 = true := rfl
 have e3 : bareB exitI = true := rfl
 have e4 : lastOp [a, exitI] = 15 := rfl
 cases h1 : kindB a <;> cases h2 : inB a 1 <;> cases h3 : bareB a <;> simp [codeErr, List.all, inAll, h1, h2, h3, e1, e2, e3, e4]
theorem in_any {i : Ins} {n n' : Int} (h : i.op ≠ 12) (h2 : i.op ≠ 13) (h3 : i.op ≠ 14) : inB i n = inB i n' := by
 unfold inB
 by_cases c : i.op = 10 ∨ i.op = 11
 ·rw [if_pos c, if_pos c]
 ·have h4 : ¬ (i.op = 13 ∨ i.op = 14) := by omega
  simp only [if_neg c, if_neg h, if_neg h4]
theorem fine_off {op d s of : Int} {im : BitVec 64} (ho : op = 12 ∨ op = 13 ∨ op = 14) : fineI ⟨op, d, s, im, of⟩ = ((codeErr [⟨op, d, s, im, 0⟩, exitI] == 0) && goesB of 65) := by
 rw [code2]
 unfold fineI
 have eb : bareB ⟨op, d, s, im, of⟩ = bareB ⟨op, d, s, im, 0⟩ := by
  unfold bareB
  simp only
  rcases ho with rfl | rfl | rfl <;> rfl
 have ek : kindB ⟨op, d, s, im, of⟩ = kindB ⟨op, d, s, im, 0⟩ := rfl
 have ei : inB ⟨op, d, s, im, of⟩ 65 = (inB ⟨op, d, s, im, 0⟩ 1 && goesB of 65) := by
  have g : goesB 0 1 = true := rfl
  unfold inB
  simp only
  rcases ho with rfl | rfl | rfl
  ·simp [g]
  ·simp [g]
  ·simp [g]
 rw [eb, ek, ei]
 cases kindB ⟨op, d, s, im, 0⟩ <;> cases inB ⟨op, d, s, im, 0⟩ 1 <;> cases bareB ⟨op, d, s, im, 0⟩ <;> cases goesB of 65 <;> rfl
theorem fis_ok (i : Ins) : Ok 25 [.ag i.cs] (.c (.b (fineI i))) := by
 have out : ∀ {b : Bool}, fineI i = b → AV.c (AC.b b) = AV.c (AC.b (fineI i)) := fun h => by rw [h]
 by_cases ho : i.op = 12 ∨ i.op = 13 ∨ i.op = 14
 ·have hf := fine_off (op := i.op) (d := i.d) (s := i.s) (of := i.of) (im := i.im) ho
  have hf : fineI i = ((codeErr [⟨i.op, i.d, i.s, i.im, 0⟩, exitI] == 0) && goesB i.of 65) := hf
  have low : decide (i.of < 0) = true → fineI i = false := fun h => by
   have : i.of < 0 := of_decide_eq_true h
   rw [hf, show goesB i.of 65 = false by unfold goesB; rw [decide_eq_false (by omega)]; rfl]; simp
  have high : decide (64 < i.of) = true → fineI i = false := fun h => by
   have : 64 < i.of := of_decide_eq_true h
   rw [hf, show goesB i.of 65 = false by unfold goesB; rw [decide_eq_false (by omega : ¬ i.of < 65)]; simp]; simp
  have mid : decide (i.of < 0) = false → decide (64 < i.of) = false → fineI i = (codeErr [⟨i.op, i.d, i.s, i.im, 0⟩, exitI] == 0) := fun h k => by
   have h : ¬ i.of < 0 := of_decide_eq_false h
   have k : ¬ 64 < i.of := of_decide_eq_false k
   rw [hf, show goesB i.of 65 = true by unfold goesB; rw [decide_eq_true (by omega : 0 ≤ i.of), decide_eq_true (by omega : i.of < 65)]; rfl]; simp
  have call : ∀ K, CallOK Tryz.prog ⟨47, [.c (.sl K 0 2 2)], [(K, ⟨true, pcell [⟨i.op, i.d, i.s, i.im, 0⟩, exitI], 0⟩)], ⟨.c (.i (codeErr [⟨i.op, i.d, i.s, i.im, 0⟩, exitI])), [], none⟩⟩ := fun K => by
   refine p_at (check_ok [⟨i.op, i.d, i.s, i.im, 0⟩, exitI] 2) K true ?_ rfl
   show [AV.c (AC.sl (swp 0 K 0) 0 2 2)] = _
   rfl
  exact fis_all (e := codeErr [⟨i.op, i.d, i.s, i.im, 0⟩, exitI])
   (fun a b => out (low b)) (fun a b c => out (high c)) (fun a b c => ⟨call 18, out (mid b c)⟩)
   (fun _ a b => out (low b)) (fun _ a b c => out (high c)) (fun _ a b c => ⟨call 20, out (mid b c)⟩)
   (fun _ _ a b => out (low b)) (fun _ _ a b c => out (high c)) (fun _ _ a b c => ⟨call 22, out (mid b c)⟩)
   (fun a b c => absurd ho (by simp at a b c; omega))
 ·have hf : fineI i = (codeErr [i, exitI] == 0) := by
   rw [code2]
   unfold fineI
   rw [in_any (n := 65) (n' := 1) (by omega) (by omega) (by omega)]
  have call : ∀ K, CallOK Tryz.prog ⟨47, [.c (.sl K 0 2 2)], [(K, ⟨true, pcell [i, exitI], 0⟩)], ⟨.c (.i (codeErr [i, exitI])), [], none⟩⟩ := fun K => by
   refine p_at (check_ok [i, exitI] 2) K true ?_ rfl
   show [AV.c (AC.sl (swp 0 K 0) 0 2 2)] = _
   rfl
  have no : ∀ {P : Prop}, i.op = 12 ∨ i.op = 13 ∨ i.op = 14 → P := fun h => absurd h ho
  exact fis_all (e := codeErr [i, exitI])
   (fun a b => no (Or.inl (by simpa using a))) (fun a b c => no (Or.inl (by simpa using a))) (fun a b c => no (Or.inl (by simpa using a)))
   (fun _ a b => no (Or.inr (Or.inl (by simpa using a)))) (fun _ a b c => no (Or.inr (Or.inl (by simpa using a)))) (fun _ a b c => no (Or.inr (Or.inl (by simpa using a))))
   (fun _ _ a b => no (Or.inr (Or.inr (by simpa using a)))) (fun _ _ a b c => no (Or.inr (Or.inr (by simpa using a)))) (fun _ _ a b c => no (Or.inr (Or.inr (by simpa using a))))
   (fun a b c => ⟨call 12, out hf⟩)
def farE (i : Ins) (a : V4) : Int := if farS i a then 2 else 0
theorem freach_ok {i : Ins} {a : V4} (ha : a.ok = true) : Ok 66 [.ag i.cs, .ag a.cs] (.c (.i (farE i a))) := by
 have h1 := valOf_ok (BitVec.ofInt 64 i.of)
 have h2 := calcTwo_ok (op := 2) (by decide) ha (V4.of_ok (BitVec.ofInt 64 i.of))
 refine freach_all (b := V4.of (BitVec.ofInt 64 i.of)) (c := V4.two 2 a (V4.of (BitVec.ofInt 64 i.of))) (fun h => ⟨h1, h2, ?_⟩) (fun h => ⟨h1, h2, ?_⟩)
 ·unfold farE farS; rw [h]; rfl
 ·unfold farE farS; rw [h]; rfl
theorem fsource_ok {i : Ins} {t : St} (h : srcB i.s = true) : Ok 74 [.ag i.cs, .ag t.cs] (.ag (srcV i t).cs) := by
 unfold srcV
 refine fsource_all (b := V4.of i.im) (fun a => ⟨valOf_ok _, ?_⟩) (fun a => ?_)
 ·rw [if_pos (by simpa using a)]
 ·have a : ¬ i.s = -1 := by simpa using a
  have hs := (srcB_iff.1 h).resolve_left a
  exact ⟨hs, sr_ok t hs, sr_eff t hs, by rw [if_neg a]⟩
section
variable {i : Ins} {t : St}
theorem left_z {x : V4 × V4 × Bool} (h : (!x.2.2) = true) : AV.ag St.z.cs = AV.ag (leftS i t x).cs := by
 unfold leftS; rw [if_neg (by simpa using h)]
theorem left_s {x : V4 × V4 × Bool} (h : (!x.2.2) = false) (k : (i.s != -1) = true) : AV.ag ((t.wth i.d.toNat x.1).wth i.s.toNat x.2.1).cs = AV.ag (leftS i t x).cs := by
 unfold leftS; rw [if_pos (by simpa using h), if_neg (by simpa using k)]
theorem left_c {x : V4 × V4 × Bool} (h : (!x.2.2) = false) (k : (i.s != -1) = false) : AV.ag (t.wth i.d.toNat x.1).cs = AV.ag (leftS i t x).cs := by
 unfold leftS; rw [if_pos (by simpa using h), if_pos (by simpa using k)]
theorem src_of (hs : srcB i.s = true) (k : (i.s != -1) = true) : regB i.s = true := (srcB_iff.1 hs).resolve_left (by simpa using k)
theorem fleftOt_ok (hd : regB i.d = true) (hs : srcB i.s = true) (hv : (t.r.get i.d.toNat).ok = true) (hw : (srcV i t).ok = true) : Ok 69 [.ag i.cs, .ag t.cs, .c (.f 70 [])] (.ag (leftS i t ((t.r.get i.d.toNat).other (srcV i t))).cs) :=
 fleftOt_all (b := srcV i t) (x := ((t.r.get i.d.toNat).other (srcV i t)).1) (y := ((t.r.get i.d.toNat).other (srcV i t)).2.1) (q := ((t.r.get i.d.toNat).other (srcV i t)).2.2) (t1 := t.wth i.d.toNat ((t.r.get i.d.toNat).other (srcV i t)).1) (t2 := (t.wth i.d.toNat ((t.r.get i.d.toNat).other (srcV i t)).1).wth i.s.toNat ((t.r.get i.d.toNat).other (srcV i t)).2.1)
  (fun a => ⟨hd, sr_ok t hd, sr_eff t hd, fsource_ok hs, calcOther_ok hv hw, left_z a⟩) (fun a k => ⟨hd, sr_ok t hd, sr_eff t hd, fsource_ok hs, calcOther_ok hv hw, fwith_ok _ hd, fwith_ok _ (src_of hs k), left_s a k⟩) (fun a k => ⟨hd, sr_ok t hd, sr_eff t hd, fsource_ok hs, calcOther_ok hv hw, fwith_ok _ hd, left_c a k⟩)
theorem fleftEq_ok (hd : regB i.d = true) (hs : srcB i.s = true) (hv : (t.r.get i.d.toNat).ok = true) (hw : (srcV i t).ok = true) : Ok 69 [.ag i.cs, .ag t.cs, .c (.f 71 [])] (.ag (leftS i t ((t.r.get i.d.toNat).equal (srcV i t))).cs) :=
 fleftEq_all (b := srcV i t) (x := ((t.r.get i.d.toNat).equal (srcV i t)).1) (y := ((t.r.get i.d.toNat).equal (srcV i t)).2.1) (q := ((t.r.get i.d.toNat).equal (srcV i t)).2.2) (t1 := t.wth i.d.toNat ((t.r.get i.d.toNat).equal (srcV i t)).1) (t2 := (t.wth i.d.toNat ((t.r.get i.d.toNat).equal (srcV i t)).1).wth i.s.toNat ((t.r.get i.d.toNat).equal (srcV i t)).2.1)
  (fun a => ⟨hd, sr_ok t hd, sr_eff t hd, fsource_ok hs, calcEqual_ok hv hw, left_z a⟩) (fun a k => ⟨hd, sr_ok t hd, sr_eff t hd, fsource_ok hs, calcEqual_ok hv hw, fwith_ok _ hd, fwith_ok _ (src_of hs k), left_s a k⟩) (fun a k => ⟨hd, sr_ok t hd, sr_eff t hd, fsource_ok hs, calcEqual_ok hv hw, fwith_ok _ hd, left_c a k⟩)
theorem fleftNl_ok (hd : regB i.d = true) (hs : srcB i.s = true) (hv : (t.r.get i.d.toNat).ok = true) (hw : (srcV i t).ok = true) : Ok 69 [.ag i.cs, .ag t.cs, .c (.f 72 [])] (.ag (leftS i t ((t.r.get i.d.toNat).notLess (srcV i t))).cs) :=
 fleftNl_all (b := srcV i t) (x := ((t.r.get i.d.toNat).notLess (srcV i t)).1) (y := ((t.r.get i.d.toNat).notLess (srcV i t)).2.1) (q := ((t.r.get i.d.toNat).notLess (srcV i t)).2.2) (t1 := t.wth i.d.toNat ((t.r.get i.d.toNat).notLess (srcV i t)).1) (t2 := (t.wth i.d.toNat ((t.r.get i.d.toNat).notLess (srcV i t)).1).wth i.s.toNat ((t.r.get i.d.toNat).notLess (srcV i t)).2.1)
  (fun a => ⟨hd, sr_ok t hd, sr_eff t hd, fsource_ok hs, calcNotLess_ok hv hw, left_z a⟩) (fun a k => ⟨hd, sr_ok t hd, sr_eff t hd, fsource_ok hs, calcNotLess_ok hv hw, fwith_ok _ hd, fwith_ok _ (src_of hs k), left_s a k⟩) (fun a k => ⟨hd, sr_ok t hd, sr_eff t hd, fsource_ok hs, calcNotLess_ok hv hw, fwith_ok _ hd, left_c a k⟩)
theorem fleftLe_ok (hd : regB i.d = true) (hs : srcB i.s = true) (hv : (t.r.get i.d.toNat).ok = true) (hw : (srcV i t).ok = true) : Ok 69 [.ag i.cs, .ag t.cs, .c (.f 73 [])] (.ag (leftS i t ((t.r.get i.d.toNat).less (srcV i t))).cs) :=
 fleftLe_all (b := srcV i t) (x := ((t.r.get i.d.toNat).less (srcV i t)).1) (y := ((t.r.get i.d.toNat).less (srcV i t)).2.1) (q := ((t.r.get i.d.toNat).less (srcV i t)).2.2) (t1 := t.wth i.d.toNat ((t.r.get i.d.toNat).less (srcV i t)).1) (t2 := (t.wth i.d.toNat ((t.r.get i.d.toNat).less (srcV i t)).1).wth i.s.toNat ((t.r.get i.d.toNat).less (srcV i t)).2.1)
  (fun a => ⟨hd, sr_ok t hd, sr_eff t hd, fsource_ok hs, calcLess_ok hv hw, left_z a⟩) (fun a k => ⟨hd, sr_ok t hd, sr_eff t hd, fsource_ok hs, calcLess_ok hv hw, fwith_ok _ hd, fwith_ok _ (src_of hs k), left_s a k⟩) (fun a k => ⟨hd, sr_ok t hd, sr_eff t hd, fsource_ok hs, calcLess_ok hv hw, fwith_ok _ hd, left_c a k⟩)
end
abbrev ftKn (i : Ins) (t : St) (u : V6 Bool) (j : Int) : Kn := ⟨[(2, .c (.w 0)), (3, .c (.w 1)), (8, .ag (bcs u)), (9, .c (.i j))], [(0, ⟨true, i.cs, 0⟩), (1, ⟨true, t.cs, 0⟩)], 2⟩
theorem ftLoop {i : Ins} {t : St} {u : V6 Bool} {w : World} {β : Bs} {E : Eff} : ∀ n, n ≤ 6 → (anyFrom (fun j => u.get j && !t.s.get j) n = true → ⟨.c (.i 1), [], none⟩ = E) →
  (anyFrom (fun j => u.get j && !t.s.get j) n = false → ART Tryz.prog 27 (cx w β 0 []) Tryz.f27.ntmps (cutAt Tryz.f27 0) (ftKn i t u 6) (REff w β E)) →
  ART Tryz.prog 27 (cx w β 0 []) Tryz.f27.ntmps (cutAt Tryz.f27 0) (ftKn i t u (6 - n : Nat)) (REff w β E)
 | 0, _, _, hz => hz rfl
 | n + 1, hn, hy, hz => by
  have hj := rnd_reg hn
  have ej := rnd_nat hn
  have f0 := lt_six hj
  have f1 := b_ok u hj
  have f2 : (decide (0 ≤ ((6 - (n + 1) : Nat) : Int)) && decide (((6 - (n + 1) : Nat) : Int) < 6)) = true := hj
  have f3 := ss_ok t hj
  have f4 := b_eff u hj
  have f5 := ss_eff t hj
  have yes : (u.get (5 - n) && !t.s.get (5 - n)) = true → (⟨.c (.i 1), [], none⟩ : Eff) = E := fun h => hy (by rw [anyFrom, h]; rfl)
  have next : (u.get (5 - n) && !t.s.get (5 - n)) = false → ART Tryz.prog 27 (cx w β 0 []) Tryz.f27.ntmps (cutAt Tryz.f27 0) (ftKn i t u (IntKind.wrap IntKind.i64 (((6 - (n + 1) : Nat) : Int) + 1))) (REff w β E) := by
   intro hb
   rw [rnd_next hn]
   refine ftLoop n (by omega) (fun h => hy ?_) (fun h => hz ?_)
   ·rw [anyFrom, hb, h]; rfl
   ·rw [anyFrom, hb, h]; rfl
  refine ftRound_all (by omega) (fun a b => ⟨f0, f1, f2, f3, f4, f5, yes ?_⟩) (fun a b => ⟨f0, f1, f2, f3, f4, f5, low_of rfl, next ?_⟩) (fun a => ⟨f0, f1, f4, low_of rfl, next ?_⟩)
  ·rw [ej] at a b; rw [a, b]; rfl
  ·rw [ej] at a b; rw [a, b]; rfl
  ·rw [ej] at a; rw [a]; rfl
theorem ftrap_ok {i : Ins} {t : St} (hr : Right i 65) (ht : t.Ok) : Ok 27 [.ag i.cs, .ag t.cs] (.c (.i (trapS i t))) := by
 refine val_of Tryz.func27 rfl rfl rfl rfl fun w β => ?_
 have hg := right_regs hr
 refine ftTop_w0 (u := useOf i) (use_of_ok (Or.inr (Or.inr hg))) (low_of rfl) (fun _ h => absurd h (by simp [cx])) (ftLoop 6 (Nat.le_refl 6) (fun h => ?_) (fun h => ?_))
 ·rw [← lacks_from] at h
  unfold trapS; rw [if_pos h]
 ·rw [← lacks_from] at h
  unfold trapS
  rw [if_neg (by rw [h]; decide)]
  by_cases c1 : i.op = 10
  ·obtain ⟨_, hs, _⟩ := fits_reach hr (Or.inl c1)
   have hok := ht.set _ (reg_nat hs) (lacks_no h _ (reg_nat hs) (use_s (by omega) (by omega) hs))
   rw [if_pos c1]
   exact ftEnd_all (e := farE i (t.r.get i.s.toNat)) (fun _ => ⟨hs, sr_ok t hs, sr_eff t hs, freach_ok hok, rfl⟩) (fun a _ => absurd c1 (by simpa using a)) (fun a _ => absurd c1 (by simpa using a))
  rw [if_neg c1]
  by_cases c2 : i.op = 11
  ·have hok := dstV_ok hr ht h (by omega) (by omega) (by omega) c1
   rw [if_pos c2]
   exact ftEnd_all (e := farE i (t.r.get i.d.toNat)) (fun a => absurd (show i.op = 10 by simpa using a) c1) (fun _ _ => ⟨hg.1, sr_ok t hg.1, sr_eff t hg.1, freach_ok hok, rfl⟩) (fun _ a => absurd c2 (by simpa using a))
  rw [if_neg c2]
  exact ftEnd_all (e := 0) (fun a => absurd (show i.op = 10 by simpa using a) c1) (fun _ a => absurd (show i.op = 11 by simpa using a) c2) (fun _ _ => rfl)
theorem op_ne {i : Ins} {k : Int} (h : i.op ≠ k) : (!i.op == k) = true := by simpa using h
theorem op_is {i : Ins} {k : Int} (h : i.op = k) : (i.op == k) = true := by simpa using h
theorem size_of {x : BitVec 64} (h : sizeB x = true) : nv x = 1 ∨ nv x = 2 ∨ nv x = 4 ∨ nv x = 8 :=
 size_elim (P := fun x => nv x = 1 ∨ nv x = 2 ∨ nv x = 4 ∨ nv x = 8) h (Or.inl rfl) (Or.inr (Or.inl rfl)) (Or.inr (Or.inr (Or.inl rfl))) (Or.inr (Or.inr (Or.inr rfl)))
theorem fgo_ok {i : Ins} {t : St} (hr : Right i 65) (ht : t.Ok) (h0 : trapS i t = 0) : Ok 28 [.ag i.cs, .ag t.cs] (.tu [.ag (goS i t).1.cs, .ag (goS i t).2.cs]) := by
 have hg := right_regs hr
 obtain ⟨hu, _, _⟩ := trap_zero h0
 rcases ops_of hr with c | c | c | c | c | c | c | c
 ·obtain ⟨_, _, hz, _⟩ := fits_reach hr (Or.inl c)
  rw [goS_load c]
  have hn := size_of hz
  exact fgoL_w0 (and_yes (op_is c) rfl) (by rw [wrapN (by omega) (by omega)]) (calcBytes_ok hn) (fwith_ok _ hg.1)
 ·rw [goS_store c]
  exact fgoS_w0 (and_yes (op_ne (by omega)) (and_yes (op_is c) rfl))
 ·rw [goS_jump c]
  exact fgoJ_w0 (and_yes (op_ne (by omega)) (and_yes (op_ne (by omega)) (and_yes (op_is c) rfl)))
 ·have hs := srcV_ok hr ht hu (by omega) (by omega)
  have hv := dstV_ok hr ht hu (by omega) (by omega) (by omega) (by omega)
  rw [goS_eq c]
  exact fgoEq_w0 (and_yes (op_ne (by omega)) (and_yes (op_ne (by omega)) (and_yes (op_ne (by omega)) (and_yes (op_is c) rfl)))) (fleftOt_ok hg.1 hg.2 hv hs) (fleftEq_ok hg.1 hg.2 hv hs)
 ·have hs := srcV_ok hr ht hu (by omega) (by omega)
  have hv := dstV_ok hr ht hu (by omega) (by omega) (by omega) (by omega)
  rw [goS_lt c]
  exact fgoLt_w0 (and_yes (op_ne (by omega)) (and_yes (op_ne (by omega)) (and_yes (op_ne (by omega)) (and_yes (op_ne (by omega)) (and_yes (op_is c) rfl))))) (fleftNl_ok hg.1 hg.2 hv hs) (fleftLe_ok hg.1 hg.2 hv hs)
 ·rw [goS_exit c]
  exact fgoX_w0 (and_yes (op_ne (by omega)) (and_yes (op_ne (by omega)) (and_yes (op_ne (by omega)) (and_yes (op_ne (by omega)) (and_yes (op_ne (by omega)) (and_yes (op_is c) rfl))))))
 ·rw [goS_mov c]
  exact fgoM_w0 (and_yes (op_ne (by omega)) (and_yes (op_ne (by omega)) (and_yes (op_ne (by omega)) (and_yes (op_ne (by omega)) (and_yes (op_ne (by omega)) (and_yes (op_ne (by omega)) (and_yes (op_is c) rfl))))))) (fsource_ok hg.2) (fwith_ok _ hg.1)
 ·have hs := srcV_ok hr ht hu (by omega) (by omega)
  have hv := dstV_ok hr ht hu (by omega) (by omega) (by omega) (by omega)
  rw [goS_two c]
  exact fgoT_w0 (and_yes (op_ne (by omega)) (and_yes (op_ne (by omega)) (and_yes (op_ne (by omega)) (and_yes (op_ne (by omega)) (and_yes (op_ne (by omega)) (and_yes (op_ne (by omega)) (and_yes (op_ne (by omega)) (and_yes hg.1 (and_yes (sr_ok t hg.1) rfl))))))))) (sr_eff t hg.1) (fsource_ok hg.2) (calcTwo_ok (by omega) hv hs) (fwith_ok _ hg.1)
theorem fstep_ok (i : Ins) (t : St) : Ok 7 [.ag i.cs, .ag t.cs] (.tu [.ag (stepA i t).1.cs, .ag (stepA i t).2.1.cs, .c (.i (stepA i t).2.2), .c (.i (stepE i t))]) := by
 have h1 := fis_ok i
 have h2 := fcheck_ok t
 have bad : (fineI i && t.ok) = false → AV.tu [AT.ag (St.cs St.z), AT.ag (St.cs St.z), AT.c (AC.i 0), AT.c (AC.i 1)] = .tu [.ag (stepA i t).1.cs, .ag (stepA i t).2.1.cs, .c (.i (stepA i t).2.2), .c (.i (stepE i t))] := fun h => by
  unfold stepA stepE; rw [h]; rfl
 by_cases hb : (fineI i && t.ok) = true
 ·have hb' := hb
  rw [Bool.and_eq_true] at hb'
  have hr := fine_right.1 hb'.1
  have ht := St.ok_iff.1 hb'.2
  have h3 := ftrap_ok hr ht
  have eA : stepA i t = stepS i t := by unfold stepA; rw [if_pos hb]
  have eE : stepE i t = 0 := by unfold stepE; rw [if_pos hb]
  rw [eA, eE]
  unfold stepS
  by_cases hl : t.live = true
  ·rw [if_pos hl]
   by_cases h0 : trapS i t = 0
   ·rw [if_pos h0]
    refine fstep_all (tr := trapS i t) (fun a => ?_) (fun _ a => ?_) (fun _ _ a => ?_) (fun _ _ _ a => ?_) (fun _ _ _ _ => ⟨h1, h2, h3, fgo_ok hr ht h0, rfl⟩)
    ·rw [hb'.1] at a; cases a
    ·rw [er_ne, hb'.2] at a; cases a
    ·rw [hl] at a; cases a
    ·rw [h0] at a; cases a
   ·rw [if_neg h0]
    refine fstep_all (t1 := t) (t2 := t) (tr := trapS i t) (fun a => ?_) (fun _ a => ?_) (fun _ _ a => ?_) (fun _ _ _ a => ⟨h1, h2, h3, rfl⟩) (fun _ _ _ a => ?_)
    ·rw [hb'.1] at a; cases a
    ·rw [er_ne, hb'.2] at a; cases a
    ·rw [hl] at a; cases a
    ·exact absurd (by simpa using a) h0
  ·rw [if_neg hl]
   refine fstep_all (t1 := t) (t2 := t) (tr := trapS i t) (fun a => ?_) (fun _ a => ?_) (fun _ _ _ => ⟨h1, h2, rfl⟩) (fun _ _ a => ?_) (fun _ _ a => ?_)
   ·rw [hb'.1] at a; cases a
   ·rw [er_ne, hb'.2] at a; cases a
   ·exact absurd (by simpa using a) hl
   ·exact absurd (by simpa using a) hl
 ·have hb : (fineI i && t.ok) = false := by simpa using hb
  refine fstep_all (t1 := t) (t2 := t) (tr := 0) (fun a => ⟨h1, bad hb⟩) (fun _ a => ⟨h1, h2, bad hb⟩) (fun a b => ?_) (fun a b => ?_) (fun a b => ?_)
  all_goals
   rw [er_ne] at b
   rw [show fineI i = true by simpa using a, show t.ok = true by simpa using b] at hb
   cases hb
section
abbrev rcAK (L : List Ins) (c j : Nat) : Kn := ⟨[(0, .c (.sl 0 0 L.length c)), (3, .c (.i (j : Int)))], [(0, Ent.mk false (pcell L) 0)], 1⟩
abbrev rcBK (L : List Ins) (c j : Nat) : Kn := ⟨[(0, .c (.sl 0 0 L.length c)), (4, .c (.i (j : Int)))], [(0, Ent.mk false (pcell L) 0)], 1⟩
abbrev rcCK (L : List Ins) (c j : Nat) : Kn := ⟨[(0, .c (.sl 0 0 L.length c)), (5, .c (.i (j : Int)))], [(0, Ent.mk false (pcell L) 0)], 1⟩
variable {op a lo hi d q s of : Int} {V : AV} {i : Ins} {L : List Ins} {c n : Nat} {w : World} {β : Bs} {C : Cx} {R : Ending → World → Prop} {E : Eff} {m : Mach} {mem : ByteArray} {x im : BitVec 64}
theorem refBranches_w0 (h : (op == 13 && true) = true) :
  Ok 60 [.c (.i op)] (.c (.b true)) :=
 val_run2 [true] [] [] Tryz.func60 rfl rfl rfl rfl (by kernel_rfl) h cr_nil
theorem refBranches_w1 (h : (!op == 13 && true) = true) :
  Ok 60 [.c (.i op)] (.c (.b (op == 14))) :=
 val_run2 [false] [] [] Tryz.func60 rfl rfl rfl rfl (by kernel_rfl) h cr_nil
theorem refBranches_all
  (l0 : (op == 13) = true → (AV.c (.b true) = V))
  (l1 : (op == 13) = false → (AV.c (.b (op == 14)) = V)) :
  Ok 60 [.c (.i op)] V :=
 (tf (op == 13)).elim (fun h0 => (match l0 h0 with | e => ok_eq (refBranches_w0 (and_yes h0 rfl)) e)) (fun h0 => (match l1 h0 with | e => ok_eq (refBranches_w1 (and_yes (not_yes h0) rfl)) e))
theorem refReaches_w0 (h : (op == 10 && true) = true) :
  Ok 38 [.c (.i op)] (.c (.b true)) :=
 val_run2 [true] [] [] Tryz.func38 rfl rfl rfl rfl (by kernel_rfl) h cr_nil
theorem refReaches_w1 (h : (!op == 10 && true) = true) :
  Ok 38 [.c (.i op)] (.c (.b (op == 11))) :=
 val_run2 [false] [] [] Tryz.func38 rfl rfl rfl rfl (by kernel_rfl) h cr_nil
theorem refReaches_all
  (l0 : (op == 10) = true → (AV.c (.b true) = V))
  (l1 : (op == 10) = false → (AV.c (.b (op == 11)) = V)) :
  Ok 38 [.c (.i op)] V :=
 (tf (op == 10)).elim (fun h0 => (match l0 h0 with | e => ok_eq (refReaches_w0 (and_yes h0 rfl)) e)) (fun h0 => (match l1 h0 with | e => ok_eq (refReaches_w1 (and_yes (not_yes h0) rfl)) e))
theorem refReckons_w0 (c0 : Ok 29 [.c (.i op), .c (.i 1), .c (.i 9)] (.c (.b (decide (1 ≤ op) && decide (op ≤ 9))))) :
  Ok 58 [.c (.i op)] (.c (.b (decide (1 ≤ op) && decide (op ≤ 9)))) :=
 val_run2 [] [] [] Tryz.func58 rfl rfl rfl rfl (by kernel_rfl) rfl (cr_cons c0 cr_nil)
theorem refWithin_w0 (h : (decide (lo ≤ a) && true) = true) :
  Ok 29 [.c (.i a), .c (.i lo), .c (.i hi)] (.c (.b (decide (a ≤ hi)))) :=
 val_run2 [true] [] [] Tryz.func29 rfl rfl rfl rfl (by kernel_rfl) h cr_nil
theorem refWithin_w1 (h : (!decide (lo ≤ a) && true) = true) :
  Ok 29 [.c (.i a), .c (.i lo), .c (.i hi)] (.c (.b false)) :=
 val_run2 [false] [] [] Tryz.func29 rfl rfl rfl rfl (by kernel_rfl) h cr_nil
theorem refWithin_all
  (l0 : (decide (lo ≤ a)) = true → (AV.c (.b (decide (a ≤ hi))) = V))
  (l1 : (decide (lo ≤ a)) = false → (AV.c (.b false) = V)) :
  Ok 29 [.c (.i a), .c (.i lo), .c (.i hi)] V :=
 (tf (decide (lo ≤ a))).elim (fun h0 => (match l0 h0 with | e => ok_eq (refWithin_w0 (and_yes h0 rfl)) e)) (fun h0 => (match l1 h0 with | e => ok_eq (refWithin_w1 (and_yes (not_yes h0) rfl)) e))
theorem refReg_w0 (c0 : Ok 29 [.c (.i d), .c (.i 0), .c (.i 5)] (.c (.b (decide (0 ≤ d) && decide (d ≤ 5))))) :
  Ok 76 [.c (.i d)] (.c (.b (decide (0 ≤ d) && decide (d ≤ 5)))) :=
 val_run2 [] [] [] Tryz.func76 rfl rfl rfl rfl (by kernel_rfl) rfl (cr_cons c0 cr_nil)
theorem refFields_w0 (h : (decide (1 ≤ i.op) && decide (i.op ≤ 9) && (regB i.d && (regB i.s && true))) = true) (c0 : Ok 58 [.c (.i i.op)] (.c (.b (decide (1 ≤ i.op) && decide (i.op ≤ 9))))) (c1 : Ok 76 [.c (.i i.d)] (.c (.b (regB i.d)))) (c2 : Ok 76 [.c (.i i.s)] (.c (.b (regB i.s)))) :
  Ok 30 [.ag i.cs, .c (.i q)] (.c (.b true)) :=
 val_run2 [true, true, true] [] [] Tryz.func30 rfl rfl rfl rfl (by kernel_rfl) h (cr_cons c0 (cr_cons c1 (cr_cons c2 cr_nil)))
theorem refFields_w1 (h : (decide (1 ≤ i.op) && decide (i.op ≤ 9) && (regB i.d && (!regB i.s && true))) = true) (c0 : Ok 58 [.c (.i i.op)] (.c (.b (decide (1 ≤ i.op) && decide (i.op ≤ 9))))) (c1 : Ok 76 [.c (.i i.d)] (.c (.b (regB i.d)))) (c2 : Ok 76 [.c (.i i.s)] (.c (.b (regB i.s)))) :
  Ok 30 [.ag i.cs, .c (.i q)] (.c (.b (i.s == -1))) :=
 val_run2 [true, true, false] [] [] Tryz.func30 rfl rfl rfl rfl (by kernel_rfl) h (cr_cons c0 (cr_cons c1 (cr_cons c2 cr_nil)))
theorem refFields_w2 (h : (decide (1 ≤ i.op) && decide (i.op ≤ 9) && (!regB i.d && true)) = true) (c0 : Ok 58 [.c (.i i.op)] (.c (.b (decide (1 ≤ i.op) && decide (i.op ≤ 9))))) (c1 : Ok 76 [.c (.i i.d)] (.c (.b (regB i.d)))) :
  Ok 30 [.ag i.cs, .c (.i q)] (.c (.b false)) :=
 val_run2 [true, false] [] [] Tryz.func30 rfl rfl rfl rfl (by kernel_rfl) h (cr_cons c0 (cr_cons c1 cr_nil))
theorem refFields_w3 (h : (!(decide (1 ≤ i.op) && decide (i.op ≤ 9)) && ((i.op == 10 || i.op == 11) && (regB i.d && (regB i.s && (decide (-64 ≤ i.of) && decide (i.of ≤ 64) && (eqb i.im 1#64 && true)))))) = true) (c0 : Ok 58 [.c (.i i.op)] (.c (.b (decide (1 ≤ i.op) && decide (i.op ≤ 9))))) (c1 : Ok 38 [.c (.i i.op)] (.c (.b (i.op == 10 || i.op == 11)))) (c2 : Ok 76 [.c (.i i.d)] (.c (.b (regB i.d)))) (c3 : Ok 76 [.c (.i i.s)] (.c (.b (regB i.s)))) (c4 : Ok 29 [.c (.i i.of), .c (.i (-64)), .c (.i 64)] (.c (.b (decide (-64 ≤ i.of) && decide (i.of ≤ 64))))) :
  Ok 30 [.ag i.cs, .c (.i q)] (.c (.b true)) :=
 val_run2 [false, true, true, true, true, true, true, true] [] [] Tryz.func30 rfl rfl rfl rfl (by kernel_rfl) h (cr_cons c0 (cr_cons c1 (cr_cons c2 (cr_cons c3 (cr_cons c4 cr_nil)))))
theorem refFields_w4 (h : (!(decide (1 ≤ i.op) && decide (i.op ≤ 9)) && ((i.op == 10 || i.op == 11) && (regB i.d && (regB i.s && (decide (-64 ≤ i.of) && decide (i.of ≤ 64) && (!eqb i.im 1#64 && (eqb i.im 2#64 && true))))))) = true) (c0 : Ok 58 [.c (.i i.op)] (.c (.b (decide (1 ≤ i.op) && decide (i.op ≤ 9))))) (c1 : Ok 38 [.c (.i i.op)] (.c (.b (i.op == 10 || i.op == 11)))) (c2 : Ok 76 [.c (.i i.d)] (.c (.b (regB i.d)))) (c3 : Ok 76 [.c (.i i.s)] (.c (.b (regB i.s)))) (c4 : Ok 29 [.c (.i i.of), .c (.i (-64)), .c (.i 64)] (.c (.b (decide (-64 ≤ i.of) && decide (i.of ≤ 64))))) :
  Ok 30 [.ag i.cs, .c (.i q)] (.c (.b true)) :=
 val_run2 [false, true, true, true, true, false, true, true] [] [] Tryz.func30 rfl rfl rfl rfl (by kernel_rfl) h (cr_cons c0 (cr_cons c1 (cr_cons c2 (cr_cons c3 (cr_cons c4 cr_nil)))))
theorem refFields_w5 (h : (!(decide (1 ≤ i.op) && decide (i.op ≤ 9)) && ((i.op == 10 || i.op == 11) && (regB i.d && (regB i.s && (decide (-64 ≤ i.of) && decide (i.of ≤ 64) && (!eqb i.im 1#64 && (!eqb i.im 2#64 && (eqb i.im 4#64 && true)))))))) = true) (c0 : Ok 58 [.c (.i i.op)] (.c (.b (decide (1 ≤ i.op) && decide (i.op ≤ 9))))) (c1 : Ok 38 [.c (.i i.op)] (.c (.b (i.op == 10 || i.op == 11)))) (c2 : Ok 76 [.c (.i i.d)] (.c (.b (regB i.d)))) (c3 : Ok 76 [.c (.i i.s)] (.c (.b (regB i.s)))) (c4 : Ok 29 [.c (.i i.of), .c (.i (-64)), .c (.i 64)] (.c (.b (decide (-64 ≤ i.of) && decide (i.of ≤ 64))))) :
  Ok 30 [.ag i.cs, .c (.i q)] (.c (.b true)) :=
 val_run2 [false, true, true, true, true, false, false, true] [] [] Tryz.func30 rfl rfl rfl rfl (by kernel_rfl) h (cr_cons c0 (cr_cons c1 (cr_cons c2 (cr_cons c3 (cr_cons c4 cr_nil)))))
theorem refFields_w6 (h : (!(decide (1 ≤ i.op) && decide (i.op ≤ 9)) && ((i.op == 10 || i.op == 11) && (regB i.d && (regB i.s && (decide (-64 ≤ i.of) && decide (i.of ≤ 64) && (!eqb i.im 1#64 && (!eqb i.im 2#64 && (!eqb i.im 4#64 && true)))))))) = true) (c0 : Ok 58 [.c (.i i.op)] (.c (.b (decide (1 ≤ i.op) && decide (i.op ≤ 9))))) (c1 : Ok 38 [.c (.i i.op)] (.c (.b (i.op == 10 || i.op == 11)))) (c2 : Ok 76 [.c (.i i.d)] (.c (.b (regB i.d)))) (c3 : Ok 76 [.c (.i i.s)] (.c (.b (regB i.s)))) (c4 : Ok 29 [.c (.i i.of), .c (.i (-64)), .c (.i 64)] (.c (.b (decide (-64 ≤ i.of) && decide (i.of ≤ 64))))) :
  Ok 30 [.ag i.cs, .c (.i q)] (.c (.b (eqb i.im 8#64))) :=
 val_run2 [false, true, true, true, true, false, false, false] [] [] Tryz.func30 rfl rfl rfl rfl (by kernel_rfl) h (cr_cons c0 (cr_cons c1 (cr_cons c2 (cr_cons c3 (cr_cons c4 cr_nil)))))
theorem refFields_w7 (h : (!(decide (1 ≤ i.op) && decide (i.op ≤ 9)) && ((i.op == 10 || i.op == 11) && (regB i.d && (regB i.s && (!(decide (-64 ≤ i.of) && decide (i.of ≤ 64)) && true))))) = true) (c0 : Ok 58 [.c (.i i.op)] (.c (.b (decide (1 ≤ i.op) && decide (i.op ≤ 9))))) (c1 : Ok 38 [.c (.i i.op)] (.c (.b (i.op == 10 || i.op == 11)))) (c2 : Ok 76 [.c (.i i.d)] (.c (.b (regB i.d)))) (c3 : Ok 76 [.c (.i i.s)] (.c (.b (regB i.s)))) (c4 : Ok 29 [.c (.i i.of), .c (.i (-64)), .c (.i 64)] (.c (.b (decide (-64 ≤ i.of) && decide (i.of ≤ 64))))) :
  Ok 30 [.ag i.cs, .c (.i q)] (.c (.b false)) :=
 val_run2 [false, true, true, true, false] [] [] Tryz.func30 rfl rfl rfl rfl (by kernel_rfl) h (cr_cons c0 (cr_cons c1 (cr_cons c2 (cr_cons c3 (cr_cons c4 cr_nil)))))
theorem refFields_w8 (h : (!(decide (1 ≤ i.op) && decide (i.op ≤ 9)) && ((i.op == 10 || i.op == 11) && (regB i.d && (!regB i.s && true)))) = true) (c0 : Ok 58 [.c (.i i.op)] (.c (.b (decide (1 ≤ i.op) && decide (i.op ≤ 9))))) (c1 : Ok 38 [.c (.i i.op)] (.c (.b (i.op == 10 || i.op == 11)))) (c2 : Ok 76 [.c (.i i.d)] (.c (.b (regB i.d)))) (c3 : Ok 76 [.c (.i i.s)] (.c (.b (regB i.s)))) :
  Ok 30 [.ag i.cs, .c (.i q)] (.c (.b false)) :=
 val_run2 [false, true, true, false, false] [] [] Tryz.func30 rfl rfl rfl rfl (by kernel_rfl) h (cr_cons c0 (cr_cons c1 (cr_cons c2 (cr_cons c3 cr_nil))))
theorem refFields_w9 (h : (!(decide (1 ≤ i.op) && decide (i.op ≤ 9)) && ((i.op == 10 || i.op == 11) && (!regB i.d && true))) = true) (c0 : Ok 58 [.c (.i i.op)] (.c (.b (decide (1 ≤ i.op) && decide (i.op ≤ 9))))) (c1 : Ok 38 [.c (.i i.op)] (.c (.b (i.op == 10 || i.op == 11)))) (c2 : Ok 76 [.c (.i i.d)] (.c (.b (regB i.d)))) :
  Ok 30 [.ag i.cs, .c (.i q)] (.c (.b false)) :=
 val_run2 [false, true, false, false, false] [] [] Tryz.func30 rfl rfl rfl rfl (by kernel_rfl) h (cr_cons c0 (cr_cons c1 (cr_cons c2 cr_nil)))
theorem refFields_w10 (h : (!(decide (1 ≤ i.op) && decide (i.op ≤ 9)) && (!(i.op == 10 || i.op == 11) && ((i.op == 13 || i.op == 14) && (regB i.d && (regB i.s && true))))) = true) (c0 : Ok 58 [.c (.i i.op)] (.c (.b (decide (1 ≤ i.op) && decide (i.op ≤ 9))))) (c1 : Ok 38 [.c (.i i.op)] (.c (.b (i.op == 10 || i.op == 11)))) (c2 : Ok 60 [.c (.i i.op)] (.c (.b (i.op == 13 || i.op == 14)))) (c3 : Ok 76 [.c (.i i.d)] (.c (.b (regB i.d)))) (c4 : Ok 76 [.c (.i i.s)] (.c (.b (regB i.s)))) (c5 : Ok 29 [.c (.i i.of), .c (.i 0), .c (.i q)] (.c (.b (decide (0 ≤ i.of) && decide (i.of ≤ q))))) :
  Ok 30 [.ag i.cs, .c (.i q)] (.c (.b (decide (0 ≤ i.of) && decide (i.of ≤ q)))) :=
 val_run2 [false, false, true, true, true, true] [] [] Tryz.func30 rfl rfl rfl rfl (by kernel_rfl) h (cr_cons c0 (cr_cons c1 (cr_cons c2 (cr_cons c3 (cr_cons c4 (cr_cons c5 cr_nil))))))
theorem refFields_w11 (h : (!(decide (1 ≤ i.op) && decide (i.op ≤ 9)) && (!(i.op == 10 || i.op == 11) && ((i.op == 13 || i.op == 14) && (regB i.d && (!regB i.s && (i.s == -1 && true)))))) = true) (c0 : Ok 58 [.c (.i i.op)] (.c (.b (decide (1 ≤ i.op) && decide (i.op ≤ 9))))) (c1 : Ok 38 [.c (.i i.op)] (.c (.b (i.op == 10 || i.op == 11)))) (c2 : Ok 60 [.c (.i i.op)] (.c (.b (i.op == 13 || i.op == 14)))) (c3 : Ok 76 [.c (.i i.d)] (.c (.b (regB i.d)))) (c4 : Ok 76 [.c (.i i.s)] (.c (.b (regB i.s)))) (c5 : Ok 29 [.c (.i i.of), .c (.i 0), .c (.i q)] (.c (.b (decide (0 ≤ i.of) && decide (i.of ≤ q))))) :
  Ok 30 [.ag i.cs, .c (.i q)] (.c (.b (decide (0 ≤ i.of) && decide (i.of ≤ q)))) :=
 val_run2 [false, false, true, true, false, true] [] [] Tryz.func30 rfl rfl rfl rfl (by kernel_rfl) h (cr_cons c0 (cr_cons c1 (cr_cons c2 (cr_cons c3 (cr_cons c4 (cr_cons c5 cr_nil))))))
theorem refFields_w12 (h : (!(decide (1 ≤ i.op) && decide (i.op ≤ 9)) && (!(i.op == 10 || i.op == 11) && ((i.op == 13 || i.op == 14) && (regB i.d && (!regB i.s && (!i.s == -1 && true)))))) = true) (c0 : Ok 58 [.c (.i i.op)] (.c (.b (decide (1 ≤ i.op) && decide (i.op ≤ 9))))) (c1 : Ok 38 [.c (.i i.op)] (.c (.b (i.op == 10 || i.op == 11)))) (c2 : Ok 60 [.c (.i i.op)] (.c (.b (i.op == 13 || i.op == 14)))) (c3 : Ok 76 [.c (.i i.d)] (.c (.b (regB i.d)))) (c4 : Ok 76 [.c (.i i.s)] (.c (.b (regB i.s)))) :
  Ok 30 [.ag i.cs, .c (.i q)] (.c (.b false)) :=
 val_run2 [false, false, true, true, false, false] [] [] Tryz.func30 rfl rfl rfl rfl (by kernel_rfl) h (cr_cons c0 (cr_cons c1 (cr_cons c2 (cr_cons c3 (cr_cons c4 cr_nil)))))
theorem refFields_w13 (h : (!(decide (1 ≤ i.op) && decide (i.op ≤ 9)) && (!(i.op == 10 || i.op == 11) && ((i.op == 13 || i.op == 14) && (!regB i.d && true)))) = true) (c0 : Ok 58 [.c (.i i.op)] (.c (.b (decide (1 ≤ i.op) && decide (i.op ≤ 9))))) (c1 : Ok 38 [.c (.i i.op)] (.c (.b (i.op == 10 || i.op == 11)))) (c2 : Ok 60 [.c (.i i.op)] (.c (.b (i.op == 13 || i.op == 14)))) (c3 : Ok 76 [.c (.i i.d)] (.c (.b (regB i.d)))) :
  Ok 30 [.ag i.cs, .c (.i q)] (.c (.b false)) :=
 val_run2 [false, false, true, false, false] [] [] Tryz.func30 rfl rfl rfl rfl (by kernel_rfl) h (cr_cons c0 (cr_cons c1 (cr_cons c2 (cr_cons c3 cr_nil))))
theorem refFields_w14 (h : (!(decide (1 ≤ i.op) && decide (i.op ≤ 9)) && (!(i.op == 10 || i.op == 11) && (!(i.op == 13 || i.op == 14) && (i.op == 12 && true)))) = true) (c0 : Ok 58 [.c (.i i.op)] (.c (.b (decide (1 ≤ i.op) && decide (i.op ≤ 9))))) (c1 : Ok 38 [.c (.i i.op)] (.c (.b (i.op == 10 || i.op == 11)))) (c2 : Ok 60 [.c (.i i.op)] (.c (.b (i.op == 13 || i.op == 14)))) (c3 : Ok 29 [.c (.i i.of), .c (.i 0), .c (.i q)] (.c (.b (decide (0 ≤ i.of) && decide (i.of ≤ q))))) :
  Ok 30 [.ag i.cs, .c (.i q)] (.c (.b (decide (0 ≤ i.of) && decide (i.of ≤ q)))) :=
 val_run2 [false, false, false, true] [] [] Tryz.func30 rfl rfl rfl rfl (by kernel_rfl) h (cr_cons c0 (cr_cons c1 (cr_cons c2 (cr_cons c3 cr_nil))))
theorem refFields_w15 (h : (!(decide (1 ≤ i.op) && decide (i.op ≤ 9)) && (!(i.op == 10 || i.op == 11) && (!(i.op == 13 || i.op == 14) && (!i.op == 12 && true)))) = true) (c0 : Ok 58 [.c (.i i.op)] (.c (.b (decide (1 ≤ i.op) && decide (i.op ≤ 9))))) (c1 : Ok 38 [.c (.i i.op)] (.c (.b (i.op == 10 || i.op == 11)))) (c2 : Ok 60 [.c (.i i.op)] (.c (.b (i.op == 13 || i.op == 14)))) :
  Ok 30 [.ag i.cs, .c (.i q)] (.c (.b true)) :=
 val_run2 [false, false, false, false] [] [] Tryz.func30 rfl rfl rfl rfl (by kernel_rfl) h (cr_cons c0 (cr_cons c1 (cr_cons c2 cr_nil)))
theorem refFields_all
  (l0 : (decide (1 ≤ i.op) && decide (i.op ≤ 9)) = true → (regB i.d) = true → (regB i.s) = true → (Ok 58 [.c (.i i.op)] (.c (.b (decide (1 ≤ i.op) && decide (i.op ≤ 9))))) ∧ (Ok 76 [.c (.i i.d)] (.c (.b (regB i.d)))) ∧ (Ok 76 [.c (.i i.s)] (.c (.b (regB i.s)))) ∧ (AV.c (.b true) = V))
  (l1 : (decide (1 ≤ i.op) && decide (i.op ≤ 9)) = true → (regB i.d) = true → (regB i.s) = false → (Ok 58 [.c (.i i.op)] (.c (.b (decide (1 ≤ i.op) && decide (i.op ≤ 9))))) ∧ (Ok 76 [.c (.i i.d)] (.c (.b (regB i.d)))) ∧ (Ok 76 [.c (.i i.s)] (.c (.b (regB i.s)))) ∧ (AV.c (.b (i.s == -1)) = V))
  (l2 : (decide (1 ≤ i.op) && decide (i.op ≤ 9)) = true → (regB i.d) = false → (Ok 58 [.c (.i i.op)] (.c (.b (decide (1 ≤ i.op) && decide (i.op ≤ 9))))) ∧ (Ok 76 [.c (.i i.d)] (.c (.b (regB i.d)))) ∧ (AV.c (.b false) = V))
  (l3 : (decide (1 ≤ i.op) && decide (i.op ≤ 9)) = false → (i.op == 10 || i.op == 11) = true → (regB i.d) = true → (regB i.s) = true → (decide (-64 ≤ i.of) && decide (i.of ≤ 64)) = true → (eqb i.im 1#64) = true → (Ok 58 [.c (.i i.op)] (.c (.b (decide (1 ≤ i.op) && decide (i.op ≤ 9))))) ∧ (Ok 38 [.c (.i i.op)] (.c (.b (i.op == 10 || i.op == 11)))) ∧ (Ok 76 [.c (.i i.d)] (.c (.b (regB i.d)))) ∧ (Ok 76 [.c (.i i.s)] (.c (.b (regB i.s)))) ∧ (Ok 29 [.c (.i i.of), .c (.i (-64)), .c (.i 64)] (.c (.b (decide (-64 ≤ i.of) && decide (i.of ≤ 64))))) ∧ (AV.c (.b true) = V))
  (l4 : (decide (1 ≤ i.op) && decide (i.op ≤ 9)) = false → (i.op == 10 || i.op == 11) = true → (regB i.d) = true → (regB i.s) = true → (decide (-64 ≤ i.of) && decide (i.of ≤ 64)) = true → (eqb i.im 1#64) = false → (eqb i.im 2#64) = true → (Ok 58 [.c (.i i.op)] (.c (.b (decide (1 ≤ i.op) && decide (i.op ≤ 9))))) ∧ (Ok 38 [.c (.i i.op)] (.c (.b (i.op == 10 || i.op == 11)))) ∧ (Ok 76 [.c (.i i.d)] (.c (.b (regB i.d)))) ∧ (Ok 76 [.c (.i i.s)] (.c (.b (regB i.s)))) ∧ (Ok 29 [.c (.i i.of), .c (.i (-64)), .c (.i 64)] (.c (.b (decide (-64 ≤ i.of) && decide (i.of ≤ 64))))) ∧ (AV.c (.b true) = V))
  (l5 : (decide (1 ≤ i.op) && decide (i.op ≤ 9)) = false → (i.op == 10 || i.op == 11) = true → (regB i.d) = true → (regB i.s) = true → (decide (-64 ≤ i.of) && decide (i.of ≤ 64)) = true → (eqb i.im 1#64) = false → (eqb i.im 2#64) = false → (eqb i.im 4#64) = true → (Ok 58 [.c (.i i.op)] (.c (.b (decide (1 ≤ i.op) && decide (i.op ≤ 9))))) ∧ (Ok 38 [.c (.i i.op)] (.c (.b (i.op == 10 || i.op == 11)))) ∧ (Ok 76 [.c (.i i.d)] (.c (.b (regB i.d)))) ∧ (Ok 76 [.c (.i i.s)] (.c (.b (regB i.s)))) ∧ (Ok 29 [.c (.i i.of), .c (.i (-64)), .c (.i 64)] (.c (.b (decide (-64 ≤ i.of) && decide (i.of ≤ 64))))) ∧ (AV.c (.b true) = V))
  (l6 : (decide (1 ≤ i.op) && decide (i.op ≤ 9)) = false → (i.op == 10 || i.op == 11) = true → (regB i.d) = true → (regB i.s) = true → (decide (-64 ≤ i.of) && decide (i.of ≤ 64)) = true → (eqb i.im 1#64) = false → (eqb i.im 2#64) = false → (eqb i.im 4#64) = false → (Ok 58 [.c (.i i.op)] (.c (.b (decide (1 ≤ i.op) && decide (i.op ≤ 9))))) ∧ (Ok 38 [.c (.i i.op)] (.c (.b (i.op == 10 || i.op == 11)))) ∧ (Ok 76 [.c (.i i.d)] (.c (.b (regB i.d)))) ∧ (Ok 76 [.c (.i i.s)] (.c (.b (regB i.s)))) ∧ (Ok 29 [.c (.i i.of), .c (.i (-64)), .c (.i 64)] (.c (.b (decide (-64 ≤ i.of) && decide (i.of ≤ 64))))) ∧ (AV.c (.b (eqb i.im 8#64)) = V))
  (l7 : (decide (1 ≤ i.op) && decide (i.op ≤ 9)) = false → (i.op == 10 || i.op == 11) = true → (regB i.d) = true → (regB i.s) = true → (decide (-64 ≤ i.of) && decide (i.of ≤ 64)) = false → (Ok 58 [.c (.i i.op)] (.c (.b (decide (1 ≤ i.op) && decide (i.op ≤ 9))))) ∧ (Ok 38 [.c (.i i.op)] (.c (.b (i.op == 10 || i.op == 11)))) ∧ (Ok 76 [.c (.i i.d)] (.c (.b (regB i.d)))) ∧ (Ok 76 [.c (.i i.s)] (.c (.b (regB i.s)))) ∧ (Ok 29 [.c (.i i.of), .c (.i (-64)), .c (.i 64)] (.c (.b (decide (-64 ≤ i.of) && decide (i.of ≤ 64))))) ∧ (AV.c (.b false) = V))
  (l8 : (decide (1 ≤ i.op) && decide (i.op ≤ 9)) = false → (i.op == 10 || i.op == 11) = true → (regB i.d) = true → (regB i.s) = false → (Ok 58 [.c (.i i.op)] (.c (.b (decide (1 ≤ i.op) && decide (i.op ≤ 9))))) ∧ (Ok 38 [.c (.i i.op)] (.c (.b (i.op == 10 || i.op == 11)))) ∧ (Ok 76 [.c (.i i.d)] (.c (.b (regB i.d)))) ∧ (Ok 76 [.c (.i i.s)] (.c (.b (regB i.s)))) ∧ (AV.c (.b false) = V))
  (l9 : (decide (1 ≤ i.op) && decide (i.op ≤ 9)) = false → (i.op == 10 || i.op == 11) = true → (regB i.d) = false → (Ok 58 [.c (.i i.op)] (.c (.b (decide (1 ≤ i.op) && decide (i.op ≤ 9))))) ∧ (Ok 38 [.c (.i i.op)] (.c (.b (i.op == 10 || i.op == 11)))) ∧ (Ok 76 [.c (.i i.d)] (.c (.b (regB i.d)))) ∧ (AV.c (.b false) = V))
  (l10 : (decide (1 ≤ i.op) && decide (i.op ≤ 9)) = false → (i.op == 10 || i.op == 11) = false → (i.op == 13 || i.op == 14) = true → (regB i.d) = true → (regB i.s) = true → (Ok 58 [.c (.i i.op)] (.c (.b (decide (1 ≤ i.op) && decide (i.op ≤ 9))))) ∧ (Ok 38 [.c (.i i.op)] (.c (.b (i.op == 10 || i.op == 11)))) ∧ (Ok 60 [.c (.i i.op)] (.c (.b (i.op == 13 || i.op == 14)))) ∧ (Ok 76 [.c (.i i.d)] (.c (.b (regB i.d)))) ∧ (Ok 76 [.c (.i i.s)] (.c (.b (regB i.s)))) ∧ (Ok 29 [.c (.i i.of), .c (.i 0), .c (.i q)] (.c (.b (decide (0 ≤ i.of) && decide (i.of ≤ q))))) ∧ (AV.c (.b (decide (0 ≤ i.of) && decide (i.of ≤ q))) = V))
  (l11 : (decide (1 ≤ i.op) && decide (i.op ≤ 9)) = false → (i.op == 10 || i.op == 11) = false → (i.op == 13 || i.op == 14) = true → (regB i.d) = true → (regB i.s) = false → (i.s == -1) = true → (Ok 58 [.c (.i i.op)] (.c (.b (decide (1 ≤ i.op) && decide (i.op ≤ 9))))) ∧ (Ok 38 [.c (.i i.op)] (.c (.b (i.op == 10 || i.op == 11)))) ∧ (Ok 60 [.c (.i i.op)] (.c (.b (i.op == 13 || i.op == 14)))) ∧ (Ok 76 [.c (.i i.d)] (.c (.b (regB i.d)))) ∧ (Ok 76 [.c (.i i.s)] (.c (.b (regB i.s)))) ∧ (Ok 29 [.c (.i i.of), .c (.i 0), .c (.i q)] (.c (.b (decide (0 ≤ i.of) && decide (i.of ≤ q))))) ∧ (AV.c (.b (decide (0 ≤ i.of) && decide (i.of ≤ q))) = V))
  (l12 : (decide (1 ≤ i.op) && decide (i.op ≤ 9)) = false → (i.op == 10 || i.op == 11) = false → (i.op == 13 || i.op == 14) = true → (regB i.d) = true → (regB i.s) = false → (i.s == -1) = false → (Ok 58 [.c (.i i.op)] (.c (.b (decide (1 ≤ i.op) && decide (i.op ≤ 9))))) ∧ (Ok 38 [.c (.i i.op)] (.c (.b (i.op == 10 || i.op == 11)))) ∧ (Ok 60 [.c (.i i.op)] (.c (.b (i.op == 13 || i.op == 14)))) ∧ (Ok 76 [.c (.i i.d)] (.c (.b (regB i.d)))) ∧ (Ok 76 [.c (.i i.s)] (.c (.b (regB i.s)))) ∧ (AV.c (.b false) = V))
  (l13 : (decide (1 ≤ i.op) && decide (i.op ≤ 9)) = false → (i.op == 10 || i.op == 11) = false → (i.op == 13 || i.op == 14) = true → (regB i.d) = false → (Ok 58 [.c (.i i.op)] (.c (.b (decide (1 ≤ i.op) && decide (i.op ≤ 9))))) ∧ (Ok 38 [.c (.i i.op)] (.c (.b (i.op == 10 || i.op == 11)))) ∧ (Ok 60 [.c (.i i.op)] (.c (.b (i.op == 13 || i.op == 14)))) ∧ (Ok 76 [.c (.i i.d)] (.c (.b (regB i.d)))) ∧ (AV.c (.b false) = V))
  (l14 : (decide (1 ≤ i.op) && decide (i.op ≤ 9)) = false → (i.op == 10 || i.op == 11) = false → (i.op == 13 || i.op == 14) = false → (i.op == 12) = true → (Ok 58 [.c (.i i.op)] (.c (.b (decide (1 ≤ i.op) && decide (i.op ≤ 9))))) ∧ (Ok 38 [.c (.i i.op)] (.c (.b (i.op == 10 || i.op == 11)))) ∧ (Ok 60 [.c (.i i.op)] (.c (.b (i.op == 13 || i.op == 14)))) ∧ (Ok 29 [.c (.i i.of), .c (.i 0), .c (.i q)] (.c (.b (decide (0 ≤ i.of) && decide (i.of ≤ q))))) ∧ (AV.c (.b (decide (0 ≤ i.of) && decide (i.of ≤ q))) = V))
  (l15 : (decide (1 ≤ i.op) && decide (i.op ≤ 9)) = false → (i.op == 10 || i.op == 11) = false → (i.op == 13 || i.op == 14) = false → (i.op == 12) = false → (Ok 58 [.c (.i i.op)] (.c (.b (decide (1 ≤ i.op) && decide (i.op ≤ 9))))) ∧ (Ok 38 [.c (.i i.op)] (.c (.b (i.op == 10 || i.op == 11)))) ∧ (Ok 60 [.c (.i i.op)] (.c (.b (i.op == 13 || i.op == 14)))) ∧ (AV.c (.b true) = V)) :
  Ok 30 [.ag i.cs, .c (.i q)] V :=
 (tf (decide (1 ≤ i.op) && decide (i.op ≤ 9))).elim (fun h0 => (tf (regB i.d)).elim (fun h1 => (tf (regB i.s)).elim (fun h2 => (match l0 h0 h1 h2 with | ⟨c0, c1, c2, e⟩ => ok_eq (refFields_w0 (and_yes h0 (and_yes h1 (and_yes h2 rfl))) c0 c1 c2) e)) (fun h2 => (match l1 h0 h1 h2 with | ⟨c0, c1, c2, e⟩ => ok_eq (refFields_w1 (and_yes h0 (and_yes h1 (and_yes (not_yes h2) rfl))) c0 c1 c2) e))) (fun h1 => (match l2 h0 h1 with | ⟨c0, c1, e⟩ => ok_eq (refFields_w2 (and_yes h0 (and_yes (not_yes h1) rfl)) c0 c1) e))) (fun h0 => (tf (i.op == 10 || i.op == 11)).elim (fun h1 => (tf (regB i.d)).elim (fun h2 => (tf (regB i.s)).elim (fun h3 => (tf (decide (-64 ≤ i.of) && decide (i.of ≤ 64))).elim (fun h4 => (tf (eqb i.im 1#64)).elim (fun h5 => (match l3 h0 h1 h2 h3 h4 h5 with | ⟨c0, c1, c2, c3, c4, e⟩ => ok_eq (refFields_w3 (and_yes (not_yes h0) (and_yes h1 (and_yes h2 (and_yes h3 (and_yes h4 (and_yes h5 rfl)))))) c0 c1 c2 c3 c4) e)) (fun h5 => (tf (eqb i.im 2#64)).elim (fun h6 => (match l4 h0 h1 h2 h3 h4 h5 h6 with | ⟨c0, c1, c2, c3, c4, e⟩ => ok_eq (refFields_w4 (and_yes (not_yes h0) (and_yes h1 (and_yes h2 (and_yes h3 (and_yes h4 (and_yes (not_yes h5) (and_yes h6 rfl))))))) c0 c1 c2 c3 c4) e)) (fun h6 => (tf (eqb i.im 4#64)).elim (fun h7 => (match l5 h0 h1 h2 h3 h4 h5 h6 h7 with | ⟨c0, c1, c2, c3, c4, e⟩ => ok_eq (refFields_w5 (and_yes (not_yes h0) (and_yes h1 (and_yes h2 (and_yes h3 (and_yes h4 (and_yes (not_yes h5) (and_yes (not_yes h6) (and_yes h7 rfl)))))))) c0 c1 c2 c3 c4) e)) (fun h7 => (match l6 h0 h1 h2 h3 h4 h5 h6 h7 with | ⟨c0, c1, c2, c3, c4, e⟩ => ok_eq (refFields_w6 (and_yes (not_yes h0) (and_yes h1 (and_yes h2 (and_yes h3 (and_yes h4 (and_yes (not_yes h5) (and_yes (not_yes h6) (and_yes (not_yes h7) rfl)))))))) c0 c1 c2 c3 c4) e))))) (fun h4 => (match l7 h0 h1 h2 h3 h4 with | ⟨c0, c1, c2, c3, c4, e⟩ => ok_eq (refFields_w7 (and_yes (not_yes h0) (and_yes h1 (and_yes h2 (and_yes h3 (and_yes (not_yes h4) rfl))))) c0 c1 c2 c3 c4) e))) (fun h3 => (match l8 h0 h1 h2 h3 with | ⟨c0, c1, c2, c3, e⟩ => ok_eq (refFields_w8 (and_yes (not_yes h0) (and_yes h1 (and_yes h2 (and_yes (not_yes h3) rfl)))) c0 c1 c2 c3) e))) (fun h2 => (match l9 h0 h1 h2 with | ⟨c0, c1, c2, e⟩ => ok_eq (refFields_w9 (and_yes (not_yes h0) (and_yes h1 (and_yes (not_yes h2) rfl))) c0 c1 c2) e))) (fun h1 => (tf (i.op == 13 || i.op == 14)).elim (fun h2 => (tf (regB i.d)).elim (fun h3 => (tf (regB i.s)).elim (fun h4 => (match l10 h0 h1 h2 h3 h4 with | ⟨c0, c1, c2, c3, c4, c5, e⟩ => ok_eq (refFields_w10 (and_yes (not_yes h0) (and_yes (not_yes h1) (and_yes h2 (and_yes h3 (and_yes h4 rfl))))) c0 c1 c2 c3 c4 c5) e)) (fun h4 => (tf (i.s == -1)).elim (fun h5 => (match l11 h0 h1 h2 h3 h4 h5 with | ⟨c0, c1, c2, c3, c4, c5, e⟩ => ok_eq (refFields_w11 (and_yes (not_yes h0) (and_yes (not_yes h1) (and_yes h2 (and_yes h3 (and_yes (not_yes h4) (and_yes h5 rfl)))))) c0 c1 c2 c3 c4 c5) e)) (fun h5 => (match l12 h0 h1 h2 h3 h4 h5 with | ⟨c0, c1, c2, c3, c4, e⟩ => ok_eq (refFields_w12 (and_yes (not_yes h0) (and_yes (not_yes h1) (and_yes h2 (and_yes h3 (and_yes (not_yes h4) (and_yes (not_yes h5) rfl)))))) c0 c1 c2 c3 c4) e)))) (fun h3 => (match l13 h0 h1 h2 h3 with | ⟨c0, c1, c2, c3, e⟩ => ok_eq (refFields_w13 (and_yes (not_yes h0) (and_yes (not_yes h1) (and_yes h2 (and_yes (not_yes h3) rfl)))) c0 c1 c2 c3) e))) (fun h2 => (tf (i.op == 12)).elim (fun h3 => (match l14 h0 h1 h2 h3 with | ⟨c0, c1, c2, c3, e⟩ => ok_eq (refFields_w14 (and_yes (not_yes h0) (and_yes (not_yes h1) (and_yes (not_yes h2) (and_yes h3 rfl)))) c0 c1 c2 c3) e)) (fun h3 => (match l15 h0 h1 h2 h3 with | ⟨c0, c1, c2, e⟩ => ok_eq (refFields_w15 (and_yes (not_yes h0) (and_yes (not_yes h1) (and_yes (not_yes h2) (and_yes (not_yes h3) rfl)))) c0 c1 c2) e)))))
theorem refOthers_w0 (h : (decide (1 ≤ i.op) && decide (i.op ≤ 9) && (i.of == 0 && (i.s == -1 && true))) = true) (c0 : Ok 58 [.c (.i i.op)] (.c (.b (decide (1 ≤ i.op) && decide (i.op ≤ 9))))) :
  Ok 31 [.ag i.cs] (.c (.b true)) :=
 val_run2 [true, true, true] [] [] Tryz.func31 rfl rfl rfl rfl (by kernel_rfl) h (cr_cons c0 cr_nil)
theorem refOthers_w1 (h : (decide (1 ≤ i.op) && decide (i.op ≤ 9) && (i.of == 0 && (!i.s == -1 && true))) = true) (c0 : Ok 58 [.c (.i i.op)] (.c (.b (decide (1 ≤ i.op) && decide (i.op ≤ 9))))) :
  Ok 31 [.ag i.cs] (.c (.b (eqb i.im 0#64))) :=
 val_run2 [true, true, false] [] [] Tryz.func31 rfl rfl rfl rfl (by kernel_rfl) h (cr_cons c0 cr_nil)
theorem refOthers_w2 (h : (decide (1 ≤ i.op) && decide (i.op ≤ 9) && (!i.of == 0 && true)) = true) (c0 : Ok 58 [.c (.i i.op)] (.c (.b (decide (1 ≤ i.op) && decide (i.op ≤ 9))))) :
  Ok 31 [.ag i.cs] (.c (.b false)) :=
 val_run2 [true, false] [] [] Tryz.func31 rfl rfl rfl rfl (by kernel_rfl) h (cr_cons c0 cr_nil)
theorem refOthers_w3 (h : (!(decide (1 ≤ i.op) && decide (i.op ≤ 9)) && ((i.op == 13 || i.op == 14) && (i.s == -1 && true))) = true) (c0 : Ok 58 [.c (.i i.op)] (.c (.b (decide (1 ≤ i.op) && decide (i.op ≤ 9))))) (c1 : Ok 60 [.c (.i i.op)] (.c (.b (i.op == 13 || i.op == 14)))) :
  Ok 31 [.ag i.cs] (.c (.b true)) :=
 val_run2 [false, true, true] [] [] Tryz.func31 rfl rfl rfl rfl (by kernel_rfl) h (cr_cons c0 (cr_cons c1 cr_nil))
theorem refOthers_w4 (h : (!(decide (1 ≤ i.op) && decide (i.op ≤ 9)) && ((i.op == 13 || i.op == 14) && (!i.s == -1 && true))) = true) (c0 : Ok 58 [.c (.i i.op)] (.c (.b (decide (1 ≤ i.op) && decide (i.op ≤ 9))))) (c1 : Ok 60 [.c (.i i.op)] (.c (.b (i.op == 13 || i.op == 14)))) :
  Ok 31 [.ag i.cs] (.c (.b (eqb i.im 0#64))) :=
 val_run2 [false, true, false] [] [] Tryz.func31 rfl rfl rfl rfl (by kernel_rfl) h (cr_cons c0 (cr_cons c1 cr_nil))
theorem refOthers_w5 (h : (!(decide (1 ≤ i.op) && decide (i.op ≤ 9)) && (!(i.op == 13 || i.op == 14) && (i.op == 12 && (i.d == 0 && (i.s == 0 && true))))) = true) (c0 : Ok 58 [.c (.i i.op)] (.c (.b (decide (1 ≤ i.op) && decide (i.op ≤ 9))))) (c1 : Ok 60 [.c (.i i.op)] (.c (.b (i.op == 13 || i.op == 14)))) :
  Ok 31 [.ag i.cs] (.c (.b (eqb i.im 0#64))) :=
 val_run2 [false, false, true, true, true] [] [] Tryz.func31 rfl rfl rfl rfl (by kernel_rfl) h (cr_cons c0 (cr_cons c1 cr_nil))
theorem refOthers_w6 (h : (!(decide (1 ≤ i.op) && decide (i.op ≤ 9)) && (!(i.op == 13 || i.op == 14) && (i.op == 12 && (i.d == 0 && (!i.s == 0 && true))))) = true) (c0 : Ok 58 [.c (.i i.op)] (.c (.b (decide (1 ≤ i.op) && decide (i.op ≤ 9))))) (c1 : Ok 60 [.c (.i i.op)] (.c (.b (i.op == 13 || i.op == 14)))) :
  Ok 31 [.ag i.cs] (.c (.b false)) :=
 val_run2 [false, false, true, true, false] [] [] Tryz.func31 rfl rfl rfl rfl (by kernel_rfl) h (cr_cons c0 (cr_cons c1 cr_nil))
theorem refOthers_w7 (h : (!(decide (1 ≤ i.op) && decide (i.op ≤ 9)) && (!(i.op == 13 || i.op == 14) && (i.op == 12 && (!i.d == 0 && true)))) = true) (c0 : Ok 58 [.c (.i i.op)] (.c (.b (decide (1 ≤ i.op) && decide (i.op ≤ 9))))) (c1 : Ok 60 [.c (.i i.op)] (.c (.b (i.op == 13 || i.op == 14)))) :
  Ok 31 [.ag i.cs] (.c (.b false)) :=
 val_run2 [false, false, true, false, false] [] [] Tryz.func31 rfl rfl rfl rfl (by kernel_rfl) h (cr_cons c0 (cr_cons c1 cr_nil))
theorem refOthers_w8 (h : (!(decide (1 ≤ i.op) && decide (i.op ≤ 9)) && (!(i.op == 13 || i.op == 14) && (!i.op == 12 && (i.op == 15 && true)))) = true) (c0 : Ok 58 [.c (.i i.op)] (.c (.b (decide (1 ≤ i.op) && decide (i.op ≤ 9))))) (c1 : Ok 60 [.c (.i i.op)] (.c (.b (i.op == 13 || i.op == 14)))) :
  Ok 31 [.ag i.cs] (.c (.b (eqCs i.cs (splice [.i 0, .i 0, .i 0, .u 0#64, .i 0] 0 [.i 15])))) :=
 val_run2 [false, false, false, true] [] [] Tryz.func31 rfl rfl rfl rfl (by kernel_rfl) h (cr_cons c0 (cr_cons c1 cr_nil))
theorem refOthers_w9 (h : (!(decide (1 ≤ i.op) && decide (i.op ≤ 9)) && (!(i.op == 13 || i.op == 14) && (!i.op == 12 && (!i.op == 15 && true)))) = true) (c0 : Ok 58 [.c (.i i.op)] (.c (.b (decide (1 ≤ i.op) && decide (i.op ≤ 9))))) (c1 : Ok 60 [.c (.i i.op)] (.c (.b (i.op == 13 || i.op == 14)))) :
  Ok 31 [.ag i.cs] (.c (.b true)) :=
 val_run2 [false, false, false, false] [] [] Tryz.func31 rfl rfl rfl rfl (by kernel_rfl) h (cr_cons c0 (cr_cons c1 cr_nil))
theorem refOthers_all
  (l0 : (decide (1 ≤ i.op) && decide (i.op ≤ 9)) = true → (i.of == 0) = true → (i.s == -1) = true → (Ok 58 [.c (.i i.op)] (.c (.b (decide (1 ≤ i.op) && decide (i.op ≤ 9))))) ∧ (AV.c (.b true) = V))
  (l1 : (decide (1 ≤ i.op) && decide (i.op ≤ 9)) = true → (i.of == 0) = true → (i.s == -1) = false → (Ok 58 [.c (.i i.op)] (.c (.b (decide (1 ≤ i.op) && decide (i.op ≤ 9))))) ∧ (AV.c (.b (eqb i.im 0#64)) = V))
  (l2 : (decide (1 ≤ i.op) && decide (i.op ≤ 9)) = true → (i.of == 0) = false → (Ok 58 [.c (.i i.op)] (.c (.b (decide (1 ≤ i.op) && decide (i.op ≤ 9))))) ∧ (AV.c (.b false) = V))
  (l3 : (decide (1 ≤ i.op) && decide (i.op ≤ 9)) = false → (i.op == 13 || i.op == 14) = true → (i.s == -1) = true → (Ok 58 [.c (.i i.op)] (.c (.b (decide (1 ≤ i.op) && decide (i.op ≤ 9))))) ∧ (Ok 60 [.c (.i i.op)] (.c (.b (i.op == 13 || i.op == 14)))) ∧ (AV.c (.b true) = V))
  (l4 : (decide (1 ≤ i.op) && decide (i.op ≤ 9)) = false → (i.op == 13 || i.op == 14) = true → (i.s == -1) = false → (Ok 58 [.c (.i i.op)] (.c (.b (decide (1 ≤ i.op) && decide (i.op ≤ 9))))) ∧ (Ok 60 [.c (.i i.op)] (.c (.b (i.op == 13 || i.op == 14)))) ∧ (AV.c (.b (eqb i.im 0#64)) = V))
  (l5 : (decide (1 ≤ i.op) && decide (i.op ≤ 9)) = false → (i.op == 13 || i.op == 14) = false → (i.op == 12) = true → (i.d == 0) = true → (i.s == 0) = true → (Ok 58 [.c (.i i.op)] (.c (.b (decide (1 ≤ i.op) && decide (i.op ≤ 9))))) ∧ (Ok 60 [.c (.i i.op)] (.c (.b (i.op == 13 || i.op == 14)))) ∧ (AV.c (.b (eqb i.im 0#64)) = V))
  (l6 : (decide (1 ≤ i.op) && decide (i.op ≤ 9)) = false → (i.op == 13 || i.op == 14) = false → (i.op == 12) = true → (i.d == 0) = true → (i.s == 0) = false → (Ok 58 [.c (.i i.op)] (.c (.b (decide (1 ≤ i.op) && decide (i.op ≤ 9))))) ∧ (Ok 60 [.c (.i i.op)] (.c (.b (i.op == 13 || i.op == 14)))) ∧ (AV.c (.b false) = V))
  (l7 : (decide (1 ≤ i.op) && decide (i.op ≤ 9)) = false → (i.op == 13 || i.op == 14) = false → (i.op == 12) = true → (i.d == 0) = false → (Ok 58 [.c (.i i.op)] (.c (.b (decide (1 ≤ i.op) && decide (i.op ≤ 9))))) ∧ (Ok 60 [.c (.i i.op)] (.c (.b (i.op == 13 || i.op == 14)))) ∧ (AV.c (.b false) = V))
  (l8 : (decide (1 ≤ i.op) && decide (i.op ≤ 9)) = false → (i.op == 13 || i.op == 14) = false → (i.op == 12) = false → (i.op == 15) = true → (Ok 58 [.c (.i i.op)] (.c (.b (decide (1 ≤ i.op) && decide (i.op ≤ 9))))) ∧ (Ok 60 [.c (.i i.op)] (.c (.b (i.op == 13 || i.op == 14)))) ∧ (AV.c (.b (eqCs i.cs (splice [.i 0, .i 0, .i 0, .u 0#64, .i 0] 0 [.i 15]))) = V))
  (l9 : (decide (1 ≤ i.op) && decide (i.op ≤ 9)) = false → (i.op == 13 || i.op == 14) = false → (i.op == 12) = false → (i.op == 15) = false → (Ok 58 [.c (.i i.op)] (.c (.b (decide (1 ≤ i.op) && decide (i.op ≤ 9))))) ∧ (Ok 60 [.c (.i i.op)] (.c (.b (i.op == 13 || i.op == 14)))) ∧ (AV.c (.b true) = V)) :
  Ok 31 [.ag i.cs] V :=
 (tf (decide (1 ≤ i.op) && decide (i.op ≤ 9))).elim (fun h0 => (tf (i.of == 0)).elim (fun h1 => (tf (i.s == -1)).elim (fun h2 => (match l0 h0 h1 h2 with | ⟨c0, e⟩ => ok_eq (refOthers_w0 (and_yes h0 (and_yes h1 (and_yes h2 rfl))) c0) e)) (fun h2 => (match l1 h0 h1 h2 with | ⟨c0, e⟩ => ok_eq (refOthers_w1 (and_yes h0 (and_yes h1 (and_yes (not_yes h2) rfl))) c0) e))) (fun h1 => (match l2 h0 h1 with | ⟨c0, e⟩ => ok_eq (refOthers_w2 (and_yes h0 (and_yes (not_yes h1) rfl)) c0) e))) (fun h0 => (tf (i.op == 13 || i.op == 14)).elim (fun h1 => (tf (i.s == -1)).elim (fun h2 => (match l3 h0 h1 h2 with | ⟨c0, c1, e⟩ => ok_eq (refOthers_w3 (and_yes (not_yes h0) (and_yes h1 (and_yes h2 rfl))) c0 c1) e)) (fun h2 => (match l4 h0 h1 h2 with | ⟨c0, c1, e⟩ => ok_eq (refOthers_w4 (and_yes (not_yes h0) (and_yes h1 (and_yes (not_yes h2) rfl))) c0 c1) e))) (fun h1 => (tf (i.op == 12)).elim (fun h2 => (tf (i.d == 0)).elim (fun h3 => (tf (i.s == 0)).elim (fun h4 => (match l5 h0 h1 h2 h3 h4 with | ⟨c0, c1, e⟩ => ok_eq (refOthers_w5 (and_yes (not_yes h0) (and_yes (not_yes h1) (and_yes h2 (and_yes h3 (and_yes h4 rfl))))) c0 c1) e)) (fun h4 => (match l6 h0 h1 h2 h3 h4 with | ⟨c0, c1, e⟩ => ok_eq (refOthers_w6 (and_yes (not_yes h0) (and_yes (not_yes h1) (and_yes h2 (and_yes h3 (and_yes (not_yes h4) rfl))))) c0 c1) e))) (fun h3 => (match l7 h0 h1 h2 h3 with | ⟨c0, c1, e⟩ => ok_eq (refOthers_w7 (and_yes (not_yes h0) (and_yes (not_yes h1) (and_yes h2 (and_yes (not_yes h3) rfl)))) c0 c1) e))) (fun h2 => (tf (i.op == 15)).elim (fun h3 => (match l8 h0 h1 h2 h3 with | ⟨c0, c1, e⟩ => ok_eq (refOthers_w8 (and_yes (not_yes h0) (and_yes (not_yes h1) (and_yes (not_yes h2) (and_yes h3 rfl)))) c0 c1) e)) (fun h3 => (match l9 h0 h1 h2 h3 with | ⟨c0, c1, e⟩ => ok_eq (refOthers_w9 (and_yes (not_yes h0) (and_yes (not_yes h1) (and_yes (not_yes h2) (and_yes (not_yes h3) rfl)))) c0 c1) e)))))
theorem rcTop_w0 (h : (!(decide (1 ≤ (L.length : Int)) && decide ((L.length : Int) ≤ 64)) && true) = true) (c0 : Ok 29 [.c (.i (L.length : Int)), .c (.i 1), .c (.i 64)] (.c (.b (decide (1 ≤ (L.length : Int)) && decide ((L.length : Int) ≤ 64))))) :
  BO 13 Tryz.f13 (cx w β n []) [.c (.sl 0 0 L.length c)] [(0, Ent.mk false (pcell L) 0)] 1 (REff w β ⟨.c (.i 2), [], none⟩) :=
 run_eff2 [] none [true] [true] [] Tryz.func13 (ekeys0 rfl n) (by kernel_rfl) h (cr_cons c0 cr_nil)
theorem rcTop_w1 (h : (!!(decide (1 ≤ (L.length : Int)) && decide ((L.length : Int) ≤ 64)) && true) = true) (c0 : Ok 29 [.c (.i (L.length : Int)), .c (.i 1), .c (.i 64)] (.c (.b (decide (1 ≤ (L.length : Int)) && decide ((L.length : Int) ≤ 64))))) (lo : Kn.Low ⟨[(0, .c (.sl 0 0 L.length c)), (3, .c (.i 0))], [(0, Ent.mk false (pcell L) 0)], 1⟩) (hF : ∀ k, C.F k → k < 1) (z : AR 13 Tryz.f13 C 0 ⟨[(0, .c (.sl 0 0 L.length c)), (3, .c (.i 0))], [(0, Ent.mk false (pcell L) 0)], 1⟩ R) :
  BO 13 Tryz.f13 C [.c (.sl 0 0 L.length c)] [(0, Ent.mk false (pcell L) 0)] 1 R :=
 run_cut2 [false] [true] [] Tryz.func13 (by kernel_rfl) h (cr_cons c0 cr_nil) lo hF z
theorem rcTop_all (hn : n ≤ 1)
  (l0 : (!(decide (1 ≤ (L.length : Int)) && decide ((L.length : Int) ≤ 64))) = true → (Ok 29 [.c (.i (L.length : Int)), .c (.i 1), .c (.i 64)] (.c (.b (decide (1 ≤ (L.length : Int)) && decide ((L.length : Int) ≤ 64))))) ∧ ((⟨.c (.i 2), [], none⟩ : Eff) = E))
  (l1 : (!(decide (1 ≤ (L.length : Int)) && decide ((L.length : Int) ≤ 64))) = false → (Ok 29 [.c (.i (L.length : Int)), .c (.i 1), .c (.i 64)] (.c (.b (decide (1 ≤ (L.length : Int)) && decide ((L.length : Int) ≤ 64))))) ∧ Kn.Low ⟨[(0, .c (.sl 0 0 L.length c)), (3, .c (.i 0))], [(0, Ent.mk false (pcell L) 0)], 1⟩ ∧ AR 13 Tryz.f13 (cx w β n []) 0 ⟨[(0, .c (.sl 0 0 L.length c)), (3, .c (.i 0))], [(0, Ent.mk false (pcell L) 0)], 1⟩ (REff w β E)) :
  BO 13 Tryz.f13 (cx w β n []) [.c (.sl 0 0 L.length c)] [(0, Ent.mk false (pcell L) 0)] 1 (REff w β E) :=
 (tf (!(decide (1 ≤ (L.length : Int)) && decide ((L.length : Int) ≤ 64)))).elim (fun h0 => (match l0 h0 with | ⟨c0, e⟩ => art_eq (rcTop_w0 (and_yes h0 rfl) c0) e)) (fun h0 => (match l1 h0 with | ⟨c0, lo, z⟩ => rcTop_w1 (and_yes (not_yes h0) rfl) c0 lo (fun _ hk => Nat.lt_of_lt_of_le hk hn) z))
theorem rcA_w0 {j : Nat} (h : (decide ((j : Int) < (L.length : Int)) && (decide ((j : Int) < (L.length : Int)) && (AC.isI ((pcell L)[0 + (j : Int).toNat * 5 + 0]?.getD (.b false)) && Nat.blt (0 + (j : Int).toNat * 5 + 0) (pcell L).length && (!(decide (1 ≤ (elt L j).op) && decide ((elt L j).op ≤ 15)) && true)))) = true) (c0 : pe (.c (.i (AC.asI ((pcell L)[0 + (j : Int).toNat * 5 + 0]?.getD (.b false))))) = pe (.c (.i (elt L j).op))) (c1 : Ok 29 [.c (.i (elt L j).op), .c (.i 1), .c (.i 15)] (.c (.b (decide (1 ≤ (elt L j).op) && decide ((elt L j).op ≤ 15))))) :
  AR 13 Tryz.f13 (cx w β n []) 0 (rcAK L c j) (REff w β ⟨.c (.i 4), [], none⟩) :=
 run_eff2 [] none [true, true] [true] [(6, 4)] Tryz.func13 (ekeys0 rfl n) (by kernel_rfl) h (cr_same c0 (cr_cons c1 cr_nil))
theorem rcA_w1 {j : Nat} (h : (decide ((j : Int) < (L.length : Int)) && (decide ((j : Int) < (L.length : Int)) && (AC.isI ((pcell L)[0 + (j : Int).toNat * 5 + 0]?.getD (.b false)) && Nat.blt (0 + (j : Int).toNat * 5 + 0) (pcell L).length && (!!(decide (1 ≤ (elt L j).op) && decide ((elt L j).op ≤ 15)) && true)))) = true) (c0 : pe (.c (.i (AC.asI ((pcell L)[0 + (j : Int).toNat * 5 + 0]?.getD (.b false))))) = pe (.c (.i (elt L j).op))) (c1 : Ok 29 [.c (.i (elt L j).op), .c (.i 1), .c (.i 15)] (.c (.b (decide (1 ≤ (elt L j).op) && decide ((elt L j).op ≤ 15))))) (lo : Kn.Low ⟨[(0, .c (.sl 0 0 L.length c)), (3, .c (.i (IntKind.i64.wrap ((j : Int) + 1))))], [(0, Ent.mk false (pcell L) 0)], 1⟩) (hF : ∀ k, C.F k → k < 1) (z : AR 13 Tryz.f13 C 0 ⟨[(0, .c (.sl 0 0 L.length c)), (3, .c (.i (IntKind.i64.wrap ((j : Int) + 1))))], [(0, Ent.mk false (pcell L) 0)], 1⟩ R) :
  AR 13 Tryz.f13 C 0 (rcAK L c j) R :=
 run_cut2 [true, false] [true] [(6, 4)] Tryz.func13 (by kernel_rfl) h (cr_same c0 (cr_cons c1 cr_nil)) lo hF z
theorem rcA_all {j : Nat} (hn : n ≤ 1)
  (l0 : (!(decide (1 ≤ (elt L j).op) && decide ((elt L j).op ≤ 15))) = true → (decide ((j : Int) < (L.length : Int))) = true ∧ (decide ((j : Int) < (L.length : Int))) = true ∧ (AC.isI ((pcell L)[0 + (j : Int).toNat * 5 + 0]?.getD (.b false)) && Nat.blt (0 + (j : Int).toNat * 5 + 0) (pcell L).length) = true ∧ (pe (.c (.i (AC.asI ((pcell L)[0 + (j : Int).toNat * 5 + 0]?.getD (.b false))))) = pe (.c (.i (elt L j).op))) ∧ (Ok 29 [.c (.i (elt L j).op), .c (.i 1), .c (.i 15)] (.c (.b (decide (1 ≤ (elt L j).op) && decide ((elt L j).op ≤ 15))))) ∧ ((⟨.c (.i 4), [], none⟩ : Eff) = E))
  (l1 : (!(decide (1 ≤ (elt L j).op) && decide ((elt L j).op ≤ 15))) = false → (decide ((j : Int) < (L.length : Int))) = true ∧ (decide ((j : Int) < (L.length : Int))) = true ∧ (AC.isI ((pcell L)[0 + (j : Int).toNat * 5 + 0]?.getD (.b false)) && Nat.blt (0 + (j : Int).toNat * 5 + 0) (pcell L).length) = true ∧ (pe (.c (.i (AC.asI ((pcell L)[0 + (j : Int).toNat * 5 + 0]?.getD (.b false))))) = pe (.c (.i (elt L j).op))) ∧ (Ok 29 [.c (.i (elt L j).op), .c (.i 1), .c (.i 15)] (.c (.b (decide (1 ≤ (elt L j).op) && decide ((elt L j).op ≤ 15))))) ∧ Kn.Low ⟨[(0, .c (.sl 0 0 L.length c)), (3, .c (.i (IntKind.i64.wrap ((j : Int) + 1))))], [(0, Ent.mk false (pcell L) 0)], 1⟩ ∧ AR 13 Tryz.f13 (cx w β n []) 0 ⟨[(0, .c (.sl 0 0 L.length c)), (3, .c (.i (IntKind.i64.wrap ((j : Int) + 1))))], [(0, Ent.mk false (pcell L) 0)], 1⟩ (REff w β E)) :
  AR 13 Tryz.f13 (cx w β n []) 0 (rcAK L c j) (REff w β E) :=
 (tf (!(decide (1 ≤ (elt L j).op) && decide ((elt L j).op ≤ 15)))).elim (fun h0 => (match l0 h0 with | ⟨o0, o1, o2, c0, c1, e⟩ => art_eq (rcA_w0 (and_yes o0 (and_yes o1 (and_yes o2 (and_yes h0 rfl)))) c0 c1) e)) (fun h0 => (match l1 h0 with | ⟨o0, o1, o2, c0, c1, lo, z⟩ => rcA_w1 (and_yes o0 (and_yes o1 (and_yes o2 (and_yes (not_yes h0) rfl)))) c0 c1 lo (fun _ hk => Nat.lt_of_lt_of_le hk hn) z))
theorem rcAx_w0 {j : Nat} (h : (!decide ((j : Int) < (L.length : Int)) && true) = true) (lo : Kn.Low ⟨[(0, .c (.sl 0 0 L.length c)), (4, .c (.i 0))], [(0, Ent.mk false (pcell L) 0)], 1⟩) (hF : ∀ k, C.F k → k < 1) (z : AR 13 Tryz.f13 C 1 ⟨[(0, .c (.sl 0 0 L.length c)), (4, .c (.i 0))], [(0, Ent.mk false (pcell L) 0)], 1⟩ R) :
  AR 13 Tryz.f13 C 0 (rcAK L c j) R :=
 run_cut2 [false] [true] [] Tryz.func13 (by kernel_rfl) h cr_nil lo hF z
theorem rcB_w0 {j : Nat} (h : (decide ((j : Int) < (L.length : Int)) && (decide ((j : Int) < (L.length : Int)) && (Nat.ble (0 + (j : Int).toNat * 5 + 5) (pcell L).length && (!inB (elt L j) (↑(L.length - 1 - j) : Int) && true)))) = true) (c0 : pe (.ag (((pcell L).drop (0 + (j : Int).toNat * 5)).take 5)) = pe (.ag (elt L j).cs)) (c1 : pe (.c (.i (IntKind.i64.wrap (IntKind.i64.wrap ((L.length : Int) - 2) - (j : Int))))) = pe (.c (.i ((↑(L.length - 1 - j) : Int) - 1)))) (c2 : pe (.c (.b (inB (elt L j) ((↑(L.length - 1 - j) : Int) - 1 + 1)))) = pe (.c (.b (inB (elt L j) (↑(L.length - 1 - j) : Int))))) (c3 : Ok 30 [.ag (elt L j).cs, .c (.i ((↑(L.length - 1 - j) : Int) - 1))] (.c (.b (inB (elt L j) ((↑(L.length - 1 - j) : Int) - 1 + 1))))) :
  AR 13 Tryz.f13 (cx w β n []) 1 (rcBK L c j) (REff w β ⟨.c (.i 3), [], none⟩) :=
 run_eff [] none 2000 [pe (.ag (elt L j).cs), pe (.c (.i ((↑(L.length - 1 - j) : Int) - 1))), pe (.c (.b (inB (elt L j) ((↑(L.length - 1 - j) : Int) - 1 + 1)))), pe (.c (.b (inB (elt L j) (↑(L.length - 1 - j) : Int))))] [true, true] [true] [(11, 3), (11, 8), (11, 9)] Tryz.func13 (ekeys0 rfl n) (by kernel_rfl) h (cr_same c0 (cr_same c1 (cr_same c2 (cr_cons c3 cr_nil))))
theorem rcB_w1 {j : Nat} (h : (decide ((j : Int) < (L.length : Int)) && (decide ((j : Int) < (L.length : Int)) && (Nat.ble (0 + (j : Int).toNat * 5 + 5) (pcell L).length && (!!inB (elt L j) (↑(L.length - 1 - j) : Int) && true)))) = true) (c0 : pe (.ag (((pcell L).drop (0 + (j : Int).toNat * 5)).take 5)) = pe (.ag (elt L j).cs)) (c1 : pe (.c (.i (IntKind.i64.wrap (IntKind.i64.wrap ((L.length : Int) - 2) - (j : Int))))) = pe (.c (.i ((↑(L.length - 1 - j) : Int) - 1)))) (c2 : pe (.c (.b (inB (elt L j) ((↑(L.length - 1 - j) : Int) - 1 + 1)))) = pe (.c (.b (inB (elt L j) (↑(L.length - 1 - j) : Int))))) (c3 : Ok 30 [.ag (elt L j).cs, .c (.i ((↑(L.length - 1 - j) : Int) - 1))] (.c (.b (inB (elt L j) ((↑(L.length - 1 - j) : Int) - 1 + 1))))) (lo : Kn.Low ⟨[(0, .c (.sl 0 0 L.length c)), (4, .c (.i (IntKind.i64.wrap ((j : Int) + 1))))], [(0, Ent.mk false (pcell L) 0)], 1⟩) (hF : ∀ k, C.F k → k < 1) (z : AR 13 Tryz.f13 C 1 ⟨[(0, .c (.sl 0 0 L.length c)), (4, .c (.i (IntKind.i64.wrap ((j : Int) + 1))))], [(0, Ent.mk false (pcell L) 0)], 1⟩ R) :
  AR 13 Tryz.f13 C 1 (rcBK L c j) R :=
 run_cut ⟨[(0, .c (.sl 0 0 L.length c)), (4, .c (.i (IntKind.i64.wrap ((j : Int) + 1))))], [(0, Ent.mk false (pcell L) 0)], 1⟩ 2000 [pe (.ag (elt L j).cs), pe (.c (.i ((↑(L.length - 1 - j) : Int) - 1))), pe (.c (.b (inB (elt L j) ((↑(L.length - 1 - j) : Int) - 1 + 1)))), pe (.c (.b (inB (elt L j) (↑(L.length - 1 - j) : Int))))] [true, false] [true] [(11, 3), (11, 8), (11, 9)] Tryz.func13 (by kernel_rfl) h (cr_same c0 (cr_same c1 (cr_same c2 (cr_cons c3 cr_nil)))) lo hF z
theorem rcB_all {j : Nat} (hn : n ≤ 1)
  (l0 : (!inB (elt L j) (↑(L.length - 1 - j) : Int)) = true → (decide ((j : Int) < (L.length : Int))) = true ∧ (decide ((j : Int) < (L.length : Int))) = true ∧ (Nat.ble (0 + (j : Int).toNat * 5 + 5) (pcell L).length) = true ∧ (pe (.ag (((pcell L).drop (0 + (j : Int).toNat * 5)).take 5)) = pe (.ag (elt L j).cs)) ∧ (pe (.c (.i (IntKind.i64.wrap (IntKind.i64.wrap ((L.length : Int) - 2) - (j : Int))))) = pe (.c (.i ((↑(L.length - 1 - j) : Int) - 1)))) ∧ (pe (.c (.b (inB (elt L j) ((↑(L.length - 1 - j) : Int) - 1 + 1)))) = pe (.c (.b (inB (elt L j) (↑(L.length - 1 - j) : Int))))) ∧ (Ok 30 [.ag (elt L j).cs, .c (.i ((↑(L.length - 1 - j) : Int) - 1))] (.c (.b (inB (elt L j) ((↑(L.length - 1 - j) : Int) - 1 + 1))))) ∧ ((⟨.c (.i 3), [], none⟩ : Eff) = E))
  (l1 : (!inB (elt L j) (↑(L.length - 1 - j) : Int)) = false → (decide ((j : Int) < (L.length : Int))) = true ∧ (decide ((j : Int) < (L.length : Int))) = true ∧ (Nat.ble (0 + (j : Int).toNat * 5 + 5) (pcell L).length) = true ∧ (pe (.ag (((pcell L).drop (0 + (j : Int).toNat * 5)).take 5)) = pe (.ag (elt L j).cs)) ∧ (pe (.c (.i (IntKind.i64.wrap (IntKind.i64.wrap ((L.length : Int) - 2) - (j : Int))))) = pe (.c (.i ((↑(L.length - 1 - j) : Int) - 1)))) ∧ (pe (.c (.b (inB (elt L j) ((↑(L.length - 1 - j) : Int) - 1 + 1)))) = pe (.c (.b (inB (elt L j) (↑(L.length - 1 - j) : Int))))) ∧ (Ok 30 [.ag (elt L j).cs, .c (.i ((↑(L.length - 1 - j) : Int) - 1))] (.c (.b (inB (elt L j) ((↑(L.length - 1 - j) : Int) - 1 + 1))))) ∧ Kn.Low ⟨[(0, .c (.sl 0 0 L.length c)), (4, .c (.i (IntKind.i64.wrap ((j : Int) + 1))))], [(0, Ent.mk false (pcell L) 0)], 1⟩ ∧ AR 13 Tryz.f13 (cx w β n []) 1 ⟨[(0, .c (.sl 0 0 L.length c)), (4, .c (.i (IntKind.i64.wrap ((j : Int) + 1))))], [(0, Ent.mk false (pcell L) 0)], 1⟩ (REff w β E)) :
  AR 13 Tryz.f13 (cx w β n []) 1 (rcBK L c j) (REff w β E) :=
 (tf (!inB (elt L j) (↑(L.length - 1 - j) : Int))).elim (fun h0 => (match l0 h0 with | ⟨o0, o1, o2, c0, c1, c2, c3, e⟩ => art_eq (rcB_w0 (and_yes o0 (and_yes o1 (and_yes o2 (and_yes h0 rfl)))) c0 c1 c2 c3) e)) (fun h0 => (match l1 h0 with | ⟨o0, o1, o2, c0, c1, c2, c3, lo, z⟩ => rcB_w1 (and_yes o0 (and_yes o1 (and_yes o2 (and_yes (not_yes h0) rfl)))) c0 c1 c2 c3 lo (fun _ hk => Nat.lt_of_lt_of_le hk hn) z))
theorem rcBx_w0 {j : Nat} (h : (!decide ((j : Int) < (L.length : Int)) && true) = true) (lo : Kn.Low ⟨[(0, .c (.sl 0 0 L.length c)), (5, .c (.i 0))], [(0, Ent.mk false (pcell L) 0)], 1⟩) (hF : ∀ k, C.F k → k < 1) (z : AR 13 Tryz.f13 C 2 ⟨[(0, .c (.sl 0 0 L.length c)), (5, .c (.i 0))], [(0, Ent.mk false (pcell L) 0)], 1⟩ R) :
  AR 13 Tryz.f13 C 1 (rcBK L c j) R :=
 run_cut2 [false] [true] [] Tryz.func13 (by kernel_rfl) h cr_nil lo hF z
theorem rcC_w0 {j : Nat} (h : (decide ((j : Int) < (L.length : Int)) && (decide ((j : Int) < (L.length : Int)) && (Nat.ble (0 + (j : Int).toNat * 5 + 5) (pcell L).length && (!bareB (elt L j) && true)))) = true) (c0 : pe (.ag (((pcell L).drop (0 + (j : Int).toNat * 5)).take 5)) = pe (.ag (elt L j).cs)) (c1 : Ok 31 [.ag (elt L j).cs] (.c (.b (bareB (elt L j))))) :
  AR 13 Tryz.f13 (cx w β n []) 2 (rcCK L c j) (REff w β ⟨.c (.i 1), [], none⟩) :=
 run_eff2 [] none [true, true] [true] [(16, 3)] Tryz.func13 (ekeys0 rfl n) (by kernel_rfl) h (cr_same c0 (cr_cons c1 cr_nil))
theorem rcC_w1 {j : Nat} (h : (decide ((j : Int) < (L.length : Int)) && (decide ((j : Int) < (L.length : Int)) && (Nat.ble (0 + (j : Int).toNat * 5 + 5) (pcell L).length && (!!bareB (elt L j) && true)))) = true) (c0 : pe (.ag (((pcell L).drop (0 + (j : Int).toNat * 5)).take 5)) = pe (.ag (elt L j).cs)) (c1 : Ok 31 [.ag (elt L j).cs] (.c (.b (bareB (elt L j))))) (lo : Kn.Low ⟨[(0, .c (.sl 0 0 L.length c)), (5, .c (.i (IntKind.i64.wrap ((j : Int) + 1))))], [(0, Ent.mk false (pcell L) 0)], 1⟩) (hF : ∀ k, C.F k → k < 1) (z : AR 13 Tryz.f13 C 2 ⟨[(0, .c (.sl 0 0 L.length c)), (5, .c (.i (IntKind.i64.wrap ((j : Int) + 1))))], [(0, Ent.mk false (pcell L) 0)], 1⟩ R) :
  AR 13 Tryz.f13 C 2 (rcCK L c j) R :=
 run_cut2 [true, false] [true] [(16, 3)] Tryz.func13 (by kernel_rfl) h (cr_same c0 (cr_cons c1 cr_nil)) lo hF z
theorem rcC_all {j : Nat} (hn : n ≤ 1)
  (l0 : (!bareB (elt L j)) = true → (decide ((j : Int) < (L.length : Int))) = true ∧ (decide ((j : Int) < (L.length : Int))) = true ∧ (Nat.ble (0 + (j : Int).toNat * 5 + 5) (pcell L).length) = true ∧ (pe (.ag (((pcell L).drop (0 + (j : Int).toNat * 5)).take 5)) = pe (.ag (elt L j).cs)) ∧ (Ok 31 [.ag (elt L j).cs] (.c (.b (bareB (elt L j))))) ∧ ((⟨.c (.i 1), [], none⟩ : Eff) = E))
  (l1 : (!bareB (elt L j)) = false → (decide ((j : Int) < (L.length : Int))) = true ∧ (decide ((j : Int) < (L.length : Int))) = true ∧ (Nat.ble (0 + (j : Int).toNat * 5 + 5) (pcell L).length) = true ∧ (pe (.ag (((pcell L).drop (0 + (j : Int).toNat * 5)).take 5)) = pe (.ag (elt L j).cs)) ∧ (Ok 31 [.ag (elt L j).cs] (.c (.b (bareB (elt L j))))) ∧ Kn.Low ⟨[(0, .c (.sl 0 0 L.length c)), (5, .c (.i (IntKind.i64.wrap ((j : Int) + 1))))], [(0, Ent.mk false (pcell L) 0)], 1⟩ ∧ AR 13 Tryz.f13 (cx w β n []) 2 ⟨[(0, .c (.sl 0 0 L.length c)), (5, .c (.i (IntKind.i64.wrap ((j : Int) + 1))))], [(0, Ent.mk false (pcell L) 0)], 1⟩ (REff w β E)) :
  AR 13 Tryz.f13 (cx w β n []) 2 (rcCK L c j) (REff w β E) :=
 (tf (!bareB (elt L j))).elim (fun h0 => (match l0 h0 with | ⟨o0, o1, o2, c0, c1, e⟩ => art_eq (rcC_w0 (and_yes o0 (and_yes o1 (and_yes o2 (and_yes h0 rfl)))) c0 c1) e)) (fun h0 => (match l1 h0 with | ⟨o0, o1, o2, c0, c1, lo, z⟩ => rcC_w1 (and_yes o0 (and_yes o1 (and_yes o2 (and_yes (not_yes h0) rfl)))) c0 c1 lo (fun _ hk => Nat.lt_of_lt_of_le hk hn) z))
theorem rcCx_w0 {j : Nat} (h : (!decide ((j : Int) < (L.length : Int)) && (decide (0 ≤ IntKind.i64.wrap ((L.length : Int) - 1)) && decide (IntKind.i64.wrap ((L.length : Int) - 1) < (L.length : Int)) && (AC.isI ((pcell L)[0 + (IntKind.i64.wrap ((L.length : Int) - 1)).toNat * 5 + 0]?.getD (.b false)) && Nat.blt (0 + (IntKind.i64.wrap ((L.length : Int) - 1)).toNat * 5 + 0) (pcell L).length && (lastOp L != 15 && true)))) = true) (c0 : pe (.c (.i (AC.asI ((pcell L)[0 + (IntKind.i64.wrap ((L.length : Int) - 1)).toNat * 5 + 0]?.getD (.b false))))) = pe (.c (.i (lastOp L)))) :
  AR 13 Tryz.f13 (cx w β n []) 2 (rcCK L c j) (REff w β ⟨.c (.i 1), [], none⟩) :=
 run_eff2 [] none [false, true] [true] [(18, 6)] Tryz.func13 (ekeys0 rfl n) (by kernel_rfl) h (cr_same c0 cr_nil)
theorem rcCx_w1 {j : Nat} (h : (!decide ((j : Int) < (L.length : Int)) && (decide (0 ≤ IntKind.i64.wrap ((L.length : Int) - 1)) && decide (IntKind.i64.wrap ((L.length : Int) - 1) < (L.length : Int)) && (AC.isI ((pcell L)[0 + (IntKind.i64.wrap ((L.length : Int) - 1)).toNat * 5 + 0]?.getD (.b false)) && Nat.blt (0 + (IntKind.i64.wrap ((L.length : Int) - 1)).toNat * 5 + 0) (pcell L).length && (!lastOp L != 15 && true)))) = true) (c0 : pe (.c (.i (AC.asI ((pcell L)[0 + (IntKind.i64.wrap ((L.length : Int) - 1)).toNat * 5 + 0]?.getD (.b false))))) = pe (.c (.i (lastOp L)))) :
  AR 13 Tryz.f13 (cx w β n []) 2 (rcCK L c j) (REff w β ⟨.c (.i 0), [], none⟩) :=
 run_eff2 [] none [false, false] [true] [(18, 6)] Tryz.func13 (ekeys0 rfl n) (by kernel_rfl) h (cr_same c0 cr_nil)
theorem rcCx_all {j : Nat}
  (l0 : (lastOp L != 15) = true → (!decide ((j : Int) < (L.length : Int))) = true ∧ (decide (0 ≤ IntKind.i64.wrap ((L.length : Int) - 1)) && decide (IntKind.i64.wrap ((L.length : Int) - 1) < (L.length : Int))) = true ∧ (AC.isI ((pcell L)[0 + (IntKind.i64.wrap ((L.length : Int) - 1)).toNat * 5 + 0]?.getD (.b false)) && Nat.blt (0 + (IntKind.i64.wrap ((L.length : Int) - 1)).toNat * 5 + 0) (pcell L).length) = true ∧ (pe (.c (.i (AC.asI ((pcell L)[0 + (IntKind.i64.wrap ((L.length : Int) - 1)).toNat * 5 + 0]?.getD (.b false))))) = pe (.c (.i (lastOp L)))) ∧ ((⟨.c (.i 1), [], none⟩ : Eff) = E))
  (l1 : (lastOp L != 15) = false → (!decide ((j : Int) < (L.length : Int))) = true ∧ (decide (0 ≤ IntKind.i64.wrap ((L.length : Int) - 1)) && decide (IntKind.i64.wrap ((L.length : Int) - 1) < (L.length : Int))) = true ∧ (AC.isI ((pcell L)[0 + (IntKind.i64.wrap ((L.length : Int) - 1)).toNat * 5 + 0]?.getD (.b false)) && Nat.blt (0 + (IntKind.i64.wrap ((L.length : Int) - 1)).toNat * 5 + 0) (pcell L).length) = true ∧ (pe (.c (.i (AC.asI ((pcell L)[0 + (IntKind.i64.wrap ((L.length : Int) - 1)).toNat * 5 + 0]?.getD (.b false))))) = pe (.c (.i (lastOp L)))) ∧ ((⟨.c (.i 0), [], none⟩ : Eff) = E)) :
  AR 13 Tryz.f13 (cx w β n []) 2 (rcCK L c j) (REff w β E) :=
 (tf (lastOp L != 15)).elim (fun h0 => (match l0 h0 with | ⟨o0, o1, o2, c0, e⟩ => art_eq (rcCx_w0 (and_yes o0 (and_yes o1 (and_yes o2 (and_yes h0 rfl)))) c0) e)) (fun h0 => (match l1 h0 with | ⟨o0, o1, o2, c0, e⟩ => art_eq (rcCx_w1 (and_yes o0 (and_yes o1 (and_yes o2 (and_yes (not_yes h0) rfl)))) c0) e))
theorem rcNil_w0 (c0 : Ok 29 [.c (.i 0), .c (.i 1), .c (.i 64)] (.c (.b false))) :
  Ok 13 [.c nilSl] (.c (.i 2)) :=
 val_run2 [true] [] [] Tryz.func13 rfl rfl rfl rfl (by kernel_rfl) rfl (cr_cons c0 cr_nil)
theorem usesA1_w0 (h : (decide (op < 12) && (op != 1 && (op != 10 && (decide (op < 12) && (s != -1 && (!op == 15 && true)))))) = true) (hk : EKeys n [] (some 44) ⟨.c (.sx 44 2), [], some (44, Ent.mk true [.i d, .i s] 1)⟩) :
  BO 36 Tryz.f36 (cx w β n []) [.ag (Ins.mk op d s im of).cs] [] 0 (REff w β ⟨.c (.sx 44 2), [], some (44, Ent.mk true [.i d, .i s] 1)⟩) :=
 run_eff2 [] (some 44) [true, true, true, true, true, true, true, false] [] [] Tryz.func36 hk (by kernel_rfl) h cr_nil
theorem usesA0_w0 (h : (decide (op < 12) && (op != 1 && (op != 10 && (decide (op < 12) && (!s != -1 && (!op == 15 && true)))))) = true) (hk : EKeys n [] (some 25) ⟨.c (.sx 25 1), [], some (25, Ent.mk true [.i d] 1)⟩) :
  BO 36 Tryz.f36 (cx w β n []) [.ag (Ins.mk op d s im of).cs] [] 0 (REff w β ⟨.c (.sx 25 1), [], some (25, Ent.mk true [.i d] 1)⟩) :=
 run_eff2 [] (some 25) [true, true, true, true, true, true, false, false] [] [] Tryz.func36 hk (by kernel_rfl) h cr_nil
theorem uses13_1_w0 (h : (s != -1 && true) = true) (c0 : Ok 60 [.c (.i 13)] (.c (.b true))) (c1 : Ok 60 [.c (.i 13)] (.c (.b true))) (hk : EKeys n [] (some 44) ⟨.c (.sx 44 2), [], some (44, Ent.mk true [.i d, .i s] 1)⟩) :
  BO 36 Tryz.f36 (cx w β n []) [.ag (Ins.mk 13 d s im of).cs] [] 0 (REff w β ⟨.c (.sx 44 2), [], some (44, Ent.mk true [.i d, .i s] 1)⟩) :=
 run_eff2 [] (some 44) [false, false, false, true, false, true, true, false] [] [] Tryz.func36 hk (by kernel_rfl) h (cr_cons c0 (cr_cons c1 cr_nil))
theorem uses13_0_w0 (h : (!s != -1 && true) = true) (c0 : Ok 60 [.c (.i 13)] (.c (.b true))) (c1 : Ok 60 [.c (.i 13)] (.c (.b true))) (hk : EKeys n [] (some 25) ⟨.c (.sx 25 1), [], some (25, Ent.mk true [.i d] 1)⟩) :
  BO 36 Tryz.f36 (cx w β n []) [.ag (Ins.mk 13 d s im of).cs] [] 0 (REff w β ⟨.c (.sx 25 1), [], some (25, Ent.mk true [.i d] 1)⟩) :=
 run_eff2 [] (some 25) [false, false, false, true, false, true, false, false] [] [] Tryz.func36 hk (by kernel_rfl) h (cr_cons c0 (cr_cons c1 cr_nil))
theorem uses14_1_w0 (h : (s != -1 && true) = true) (c0 : Ok 60 [.c (.i 14)] (.c (.b true))) (c1 : Ok 60 [.c (.i 14)] (.c (.b true))) (hk : EKeys n [] (some 44) ⟨.c (.sx 44 2), [], some (44, Ent.mk true [.i d, .i s] 1)⟩) :
  BO 36 Tryz.f36 (cx w β n []) [.ag (Ins.mk 14 d s im of).cs] [] 0 (REff w β ⟨.c (.sx 44 2), [], some (44, Ent.mk true [.i d, .i s] 1)⟩) :=
 run_eff2 [] (some 44) [false, false, false, true, false, true, true, false] [] [] Tryz.func36 hk (by kernel_rfl) h (cr_cons c0 (cr_cons c1 cr_nil))
theorem uses14_0_w0 (h : (!s != -1 && true) = true) (c0 : Ok 60 [.c (.i 14)] (.c (.b true))) (c1 : Ok 60 [.c (.i 14)] (.c (.b true))) (hk : EKeys n [] (some 25) ⟨.c (.sx 25 1), [], some (25, Ent.mk true [.i d] 1)⟩) :
  BO 36 Tryz.f36 (cx w β n []) [.ag (Ins.mk 14 d s im of).cs] [] 0 (REff w β ⟨.c (.sx 25 1), [], some (25, Ent.mk true [.i d] 1)⟩) :=
 run_eff2 [] (some 25) [false, false, false, true, false, true, false, false] [] [] Tryz.func36 hk (by kernel_rfl) h (cr_cons c0 (cr_cons c1 cr_nil))
theorem uses1_1_w0 (h : (s != -1 && true) = true) (c0 : Ok 60 [.c (.i 1)] (.c (.b false))) (hk : EKeys n [] (some 38) ⟨.c (.sx 38 1), [], some (38, Ent.mk true [.i s] 1)⟩) :
  BO 36 Tryz.f36 (cx w β n []) [.ag (Ins.mk 1 d s im of).cs] [] 0 (REff w β ⟨.c (.sx 38 1), [], some (38, Ent.mk true [.i s] 1)⟩) :=
 run_eff2 [] (some 38) [true, false, false, false, true, true, true, false] [] [] Tryz.func36 hk (by kernel_rfl) h (cr_cons c0 cr_nil)
theorem uses1_0_w0 (h : (!s != -1 && true) = true) (c0 : Ok 60 [.c (.i 1)] (.c (.b false))) :
  Ok 36 [.ag (Ins.mk 1 d s im of).cs] (.c nilSl) :=
 val_run2 [true, false, false, false, true, true, false, false] [] [] Tryz.func36 rfl rfl rfl rfl (by kernel_rfl) h (cr_cons c0 cr_nil)
theorem uses10_1_w0 (h : (s != -1 && true) = true) (c0 : Ok 60 [.c (.i 10)] (.c (.b false))) (hk : EKeys n [] (some 38) ⟨.c (.sx 38 1), [], some (38, Ent.mk true [.i s] 1)⟩) :
  BO 36 Tryz.f36 (cx w β n []) [.ag (Ins.mk 10 d s im of).cs] [] 0 (REff w β ⟨.c (.sx 38 1), [], some (38, Ent.mk true [.i s] 1)⟩) :=
 run_eff2 [] (some 38) [true, true, false, false, true, true, true, false] [] [] Tryz.func36 hk (by kernel_rfl) h (cr_cons c0 cr_nil)
theorem uses12_w0 (c0 : Ok 60 [.c (.i 12)] (.c (.b false))) (c1 : Ok 60 [.c (.i 12)] (.c (.b false))) :
  Ok 36 [.ag (Ins.mk 12 d s im of).cs] (.c nilSl) :=
 val_run2 [false, false, false, false, false, false, false, false] [] [] Tryz.func36 rfl rfl rfl rfl (by kernel_rfl) rfl (cr_cons c0 (cr_cons c1 cr_nil))
theorem uses15_w0 (c0 : Ok 60 [.c (.i 15)] (.c (.b false))) (c1 : Ok 60 [.c (.i 15)] (.c (.b false))) (hk : EKeys n [] (some 39) ⟨.c (.sx 39 1), [], some (39, Ent.mk true [.i 0] 1)⟩) :
  BO 36 Tryz.f36 (cx w β n []) [.ag (Ins.mk 15 d s im of).cs] [] 0 (REff w β ⟨.c (.sx 39 1), [], some (39, Ent.mk true [.i 0] 1)⟩) :=
 run_eff2 [] (some 39) [false, false, false, false, false, false, false, true] [] [] Tryz.func36 hk (by kernel_rfl) rfl (cr_cons c0 (cr_cons c1 cr_nil))
end
theorem refBranches_ok (op : Int) : Ok 60 [.c (.i op)] (.c (.b (op == 13 || op == 14))) := by
 apply refBranches_all <;> (intros; simp_all)
theorem refReaches_ok (op : Int) : Ok 38 [.c (.i op)] (.c (.b (op == 10 || op == 11))) := by
 apply refReaches_all <;> (intros; simp_all)
theorem refWithin_ok (a lo hi : Int) : Ok 29 [.c (.i a), .c (.i lo), .c (.i hi)] (.c (.b (decide (lo ≤ a) && decide (a ≤ hi)))) := by
 apply refWithin_all <;> (intro h; rw [h]; rfl)
theorem refReckons_ok (op : Int) : Ok 58 [.c (.i op)] (.c (.b (decide (1 ≤ op) && decide (op ≤ 9)))) := refReckons_w0 (refWithin_ok _ _ _)
theorem within_reg (d : Int) : (decide (0 ≤ d) && decide (d ≤ 5)) = regB d := by
 unfold regB
 congr 1
 exact decide_eq_decide.2 (by omega)
theorem refReg_ok (d : Int) : Ok 76 [.c (.i d)] (.c (.b (regB d))) := by
 rw [← within_reg]
 exact refReg_w0 (refWithin_ok _ _ _)
theorem inB_two {i : Ins} {q : Int} (h : 1 ≤ i.op ∧ i.op ≤ 9) : inB i q = (regB i.d && srcB i.s) := by
 unfold inB
 rw [if_neg (by omega), if_neg (by omega), if_neg (by omega), if_neg (by omega)]
theorem bareB_two {i : Ins} (h : 1 ≤ i.op ∧ i.op ≤ 9) : bareB i = (decide (i.of = 0) && (decide (i.s = -1) || eqb i.im 0#64)) := by
 unfold bareB
 rw [if_neg (by omega), if_neg (by omega), if_neg (by omega), if_neg (by omega)]
theorem refFields_ok {i : Ins} (q : Int) (hk : kindB i = true) : Ok 30 [.ag i.cs, .c (.i q)] (.c (.b (inB i (q + 1)))) := by
 have hw : (decide (i.of < q + 1)) = decide (i.of ≤ q) := decide_eq_decide.2 (by omega)
 have hr := kind_iff.1 hk
 have hc : (1 ≤ i.op ∧ i.op ≤ 9) ∨ i.op = 10 ∨ i.op = 11 ∨ i.op = 12 ∨ i.op = 13 ∨ i.op = 14 ∨ i.op = 15 := by omega
 apply refFields_all
 all_goals intros
 all_goals repeat' apply And.intro
 all_goals first
  | exact refReg_ok _
  | exact refBranches_ok _
  | exact refReaches_ok _
  | exact refReckons_ok _
  | exact refWithin_ok _ _ _
  | skip
 all_goals (refine congrArg (fun b => AV.c (AC.b b)) ?_)
 all_goals
  rcases hc with hc | hc | hc | hc | hc | hc | hc
  ·rw [inB_two hc]
   simp_all [srcB]
   try first | rfl | omega
  all_goals (simp_all [inB, srcB, goesB, sizeB]; try first | rfl | omega)
theorem refOthers_ok {i : Ins} (hk : kindB i = true) : Ok 31 [.ag i.cs] (.c (.b (bareB i))) := by
 have hr := kind_iff.1 hk
 have hc : (1 ≤ i.op ∧ i.op ≤ 9) ∨ i.op = 10 ∨ i.op = 11 ∨ i.op = 12 ∨ i.op = 13 ∨ i.op = 14 ∨ i.op = 15 := by omega
 apply refOthers_all
 all_goals intros
 all_goals repeat' apply And.intro
 all_goals first
  | exact refBranches_ok _
  | exact refReckons_ok _
  | skip
 all_goals (refine congrArg (fun b => AV.c (AC.b b)) ?_)
 all_goals
  rcases hc with hc | hc | hc | hc | hc | hc | hc
  ·rw [bareB_two hc]
   simp_all
   try omega
  all_goals (simp_all [bareB, eqCs, eqC, splice, Ins.cs, Bool.and_assoc]; try rfl; try omega)
/- CheckCode -/
section
variable {L : List Ins} {c : Nat} {w : World} {β : Bs} {E : Eff}
abbrev rcKn (L : List Ins) (c a : Nat) (j : Int) : Kn := ⟨[(0, .c (.sl 0 0 L.length c)), (a, .c (.i j))], pH L, 1⟩
theorem elt_op {j : Nat} (h : j < L.length) : (pcell L)[0 + Int.toNat (j : Int) * 5 + 0]? = some (.i (elt L j).op) := by
 have h1 := pcell_op (L := L) (k := j) h (.b false)
 have h2 : j * 5 < (pcell L).length := by rw [pcell_length]; omega
 rw [List.getD_eq_getElem?_getD, List.getElem?_eq_getElem h2] at h1
 rw [show 0 + Int.toNat (j : Int) * 5 + 0 = j * 5 by omega, List.getElem?_eq_getElem h2]
 exact congrArg some h1
theorem rcA_loop (hL : L.length ≤ 64) : ∀ n j : Nat, j + n = L.length → ((L.drop j).all kindB = false → ⟨.c (.i 4), [], none⟩ = E) →
  ((L.drop j).all kindB = true → ART Tryz.prog 13 (cx w β 1 []) Tryz.f13.ntmps (cutAt Tryz.f13 1) (rcKn L c 4 0) (REff w β E)) →
  ART Tryz.prog 13 (cx w β 1 []) Tryz.f13.ntmps (cutAt Tryz.f13 0) (rcKn L c 3 j) (REff w β E)
 | 0, j, h, hy, hz => by
  refine rcAx_w0 (by rw [jn (by omega)]; rfl) (low_p rfl) (fun _ h => h) (hz ?_)
  rw [List.drop_eq_nil_of_le (by omega)]; rfl
 | n + 1, j, h, hy, hz => by
  have hj : j < L.length := by omega
  rw [drop_elt hj, List.all_cons] at hy hz
  have o2 : (AC.isI (Option.getD (pcell L)[0 + Int.toNat (j : Int) * 5 + 0]? (AC.b false)) && Nat.blt (0 + Int.toNat (j : Int) * 5 + 0) (pcell L).length) = true := by
   rw [elt_op hj, pcell_length]; simp [AC.isI]; omega
  have c0 : Eff.mk (AV.c (AC.i (AC.asI (Option.getD (pcell L)[0 + Int.toNat (j : Int) * 5 + 0]? (AC.b false))))) [] none = Eff.mk (AV.c (AC.i (elt L j).op)) [] none := by rw [elt_op hj]; rfl
  refine rcA_all (by omega) (fun a => ⟨jl hj, jl hj, o2, c0, refWithin_ok _ _ _, hy ?_⟩) (fun a => ⟨jl hj, jl hj, o2, c0, refWithin_ok _ _ _, low_p rfl, ?_⟩)
  ·have : kindB (elt L j) = false := by simp at a; simp [kindB]; omega
   rw [this]; rfl
  ·have : kindB (elt L j) = true := by simpa [kindB] using a
   rw [this] at hy hz
   rw [wrapS (by omega)]
   exact rcA_loop hL n (j + 1) (by omega) (fun h => hy h) (fun h => hz h)
theorem rcB_loop (hL : L.length ≤ 64) (hK : L.all kindB = true) : ∀ n j : Nat, j + n = L.length → (inAll (L.drop j) = false → ⟨.c (.i 3), [], none⟩ = E) →
  (inAll (L.drop j) = true → ART Tryz.prog 13 (cx w β 1 []) Tryz.f13.ntmps (cutAt Tryz.f13 2) (rcKn L c 5 0) (REff w β E)) →
  ART Tryz.prog 13 (cx w β 1 []) Tryz.f13.ntmps (cutAt Tryz.f13 1) (rcKn L c 4 j) (REff w β E)
 | 0, j, h, hy, hz => by
  refine rcBx_w0 (by rw [jn (by omega)]; rfl) (low_p rfl) (fun _ h => h) (hz ?_)
  rw [List.drop_eq_nil_of_le (by omega)]; rfl
 | n + 1, j, h, hy, hz => by
  have hj : j < L.length := by omega
  have el : ((L.drop (j + 1)).length : Int) = ((L.length - 1 - j : Nat) : Int) := by rw [List.length_drop]; omega
  rw [drop_elt hj, inAll, el] at hy hz
  have hk : kindB (elt L j) = true := all_at hK hj
  have ew : IntKind.wrap IntKind.i64 (IntKind.wrap IntKind.i64 ((L.length : Int) - 2) - (j : Int)) = ((L.length - 1 - j : Nat) : Int) - 1 := by
   rw [wrapN (n := (L.length : Int) - 2) (by omega) (by omega), wrapN (by omega) (by omega)]; omega
  have c1 : Eff.mk (AV.c (AC.i (IntKind.wrap IntKind.i64 (IntKind.wrap IntKind.i64 ((L.length : Int) - 2) - (j : Int))))) [] none = Eff.mk (AV.c (AC.i (((L.length - 1 - j : Nat) : Int) - 1))) [] none := by rw [ew]
  have c2 : Eff.mk (AV.c (AC.b (inB (elt L j) (((L.length - 1 - j : Nat) : Int) - 1 + 1)))) [] none = Eff.mk (AV.c (AC.b (inB (elt L j) ((L.length - 1 - j : Nat) : Int)))) [] none := by
   rw [show ((L.length - 1 - j : Nat) : Int) - 1 + 1 = ((L.length - 1 - j : Nat) : Int) by omega]
  refine rcB_all (by omega) (fun a => ⟨jl hj, jl hj, pble hj, elt_eff hj, c1, c2, refFields_ok _ hk, hy ?_⟩) (fun a => ⟨jl hj, jl hj, pble hj, elt_eff hj, c1, c2, refFields_ok _ hk, low_p rfl, ?_⟩)
  ·have : inB (elt L j) ((L.length - 1 - j : Nat) : Int) = false := by simpa using a
   rw [this]; rfl
  ·have : inB (elt L j) ((L.length - 1 - j : Nat) : Int) = true := by simpa using a
   rw [this] at hy hz
   rw [wrapS (by omega)]
   exact rcB_loop hL hK n (j + 1) (by omega) (fun h => hy h) (fun h => hz h)
theorem rcC_loop (h0 : 0 < L.length) (hL : L.length ≤ 64) (hK : L.all kindB = true) : ∀ n j : Nat, j + n = L.length → ((L.drop j).all bareB = false → ⟨.c (.i 1), [], none⟩ = E) →
  ((L.drop j).all bareB = true → ⟨.c (.i (if lastOp L ≠ 15 then 1 else 0)), [], none⟩ = E) →
  ART Tryz.prog 13 (cx w β 1 []) Tryz.f13.ntmps (cutAt Tryz.f13 2) (rcKn L c 5 j) (REff w β E)
 | 0, j, h, hy, hz => by
  have hz := hz (by rw [List.drop_eq_nil_of_le (by omega)]; rfl)
  have o0 : (!decide ((j : Int) < (L.length : Int))) = true := by rw [jn (by omega)]; rfl
  have o1 : (decide (0 ≤ IntKind.wrap IntKind.i64 ((L.length : Int) - 1)) && decide (IntKind.wrap IntKind.i64 ((L.length : Int) - 1) < (L.length : Int))) = true := by
   rw [wrapN (by omega) (by omega)]; simp; omega
  have o2 : (AC.isI (Option.getD (pcell L)[0 + Int.toNat (IntKind.wrap IntKind.i64 ((L.length : Int) - 1)) * 5 + 0]? (AC.b false)) && Nat.blt (0 + Int.toNat (IntKind.wrap IntKind.i64 ((L.length : Int) - 1)) * 5 + 0) (pcell L).length) = true := by
   rw [lastOp_eff h0 hL, wrapN (by omega) (by omega), pcell_length]; simp [AC.isI]; omega
  have c0 : Eff.mk (AV.c (AC.i (AC.asI (Option.getD (pcell L)[0 + Int.toNat (IntKind.wrap IntKind.i64 ((L.length : Int) - 1)) * 5 + 0]? (AC.b false))))) [] none = Eff.mk (AV.c (AC.i (lastOp L))) [] none := by rw [lastOp_eff h0 hL]; rfl
  refine rcCx_all (fun a => ⟨o0, o1, o2, c0, ?_⟩) (fun a => ⟨o0, o1, o2, c0, ?_⟩)
  ·rw [← hz, if_pos (by simpa using a)]
  ·rw [← hz, if_neg (by simpa using a)]
 | n + 1, j, h, hy, hz => by
  have hj : j < L.length := by omega
  have hk : kindB (elt L j) = true := all_at hK hj
  rw [drop_elt hj, List.all_cons] at hy hz
  refine rcC_all (by omega) (fun a => ⟨jl hj, jl hj, pble hj, elt_eff hj, refOthers_ok hk, hy ?_⟩) (fun a => ⟨jl hj, jl hj, pble hj, elt_eff hj, refOthers_ok hk, low_p rfl, ?_⟩)
  ·have : bareB (elt L j) = false := by simpa using a
   rw [this]; rfl
  ·have : bareB (elt L j) = true := by simpa using a
   rw [this] at hy hz
   rw [wrapS (by omega)]
   exact rcC_loop h0 hL hK n (j + 1) (by omega) (fun h => hy h) (fun h => hz h)
end
theorem checkCode_ok (L : List Ins) (c : Nat) : CallOK Tryz.prog ⟨13, [.c (.sl 0 0 L.length c)], pH L, ⟨.c (.i (codeErr L)), [], none⟩⟩ := by
 refine read_of Tryz.func13 rfl rfl (begin_p rfl) rfl ro_p fun w β => ?_
 refine rcTop_all (Nat.le_refl 1) (fun a => ⟨refWithin_ok _ _ _, ?_⟩) (fun a => ⟨refWithin_ok _ _ _, low_p rfl, ?_⟩)
 ·unfold codeErr
  rw [if_pos (by simp at a; omega)]
 ·have h : 1 ≤ (L.length : Int) ∧ (L.length : Int) ≤ 64 := by simpa using a
  have h0 : 0 < L.length := by omega
  have h1 : L.length ≤ 64 := by omega
  unfold codeErr
  rw [if_neg (by omega)]
  refine rcA_loop h1 L.length 0 (by omega) (fun h => ?_) (fun h => ?_)
  ·rw [if_pos (by simpa using h)]
  ·have hK : L.all kindB = true := by simpa using h
   rw [if_neg (by simpa using h)]
   refine rcB_loop h1 hK L.length 0 (by omega) (fun h => ?_) (fun h => ?_)
   ·rw [if_pos (by simpa using h)]
   ·rw [if_neg (by simpa using h)]
    refine rcC_loop h0 h1 hK L.length 0 (by omega) (fun h => ?_) (fun h => ?_)
    ·rw [if_pos (by simpa using h)]
    ·have e : ¬ (L.all bareB = false) := by simpa using h
     rw [if_neg e]
theorem checkCode_nil : Ok 13 [.c nilSl] (.c (.i (codeErr []))) := rcNil_w0 (refWithin_ok _ _ _)
/- CheckMachine, StartOf -/
/- uses -/
theorem uses2_ok {op d s of : Int} {im : BitVec 64} (K : Nat) (h : (2 ≤ op ∧ op ≤ 9) ∨ op = 11 ∨ op = 13 ∨ op = 14) (hs : s ≠ -1) :
  CallOK Tryz.prog ⟨36, [.ag (Ins.mk op d s im of).cs], [], ⟨.c (.sx K 2), [], some (K, ⟨true, [.i d, .i s], 1⟩)⟩⟩ := by
 have b : (s != -1) = true := by simpa using hs
 have key : CallOK Tryz.prog ⟨36, [.ag (Ins.mk op d s im of).cs], [], ⟨.c (.sx 44 2), [], some (44, ⟨true, [.i d, .i s], 1⟩)⟩⟩ := by
  refine new_of Tryz.func36 rfl rfl rfl rfl rfl fun w β hk => ?_
  rcases h with h | h | h | h
  ·exact usesA1_w0 (by simp [b]; omega) hk
  ·exact usesA1_w0 (by simp [b]; omega) hk
  ·subst h; exact uses13_1_w0 (by rw [b]; rfl) (refBranches_ok 13) (refBranches_ok 13) hk
  ·subst h; exact uses14_1_w0 (by rw [b]; rfl) (refBranches_ok 14) (refBranches_ok 14) hk
 exact key.ren (swp 44 K) (swp_inj 44 K)
theorem usesD_ok {op d of : Int} {im : BitVec 64} (K : Nat) (h : (2 ≤ op ∧ op ≤ 9) ∨ op = 13 ∨ op = 14) :
  CallOK Tryz.prog ⟨36, [.ag (Ins.mk op d (-1) im of).cs], [], ⟨.c (.sx K 1), [], some (K, ⟨true, [.i d], 1⟩)⟩⟩ := by
 have key : CallOK Tryz.prog ⟨36, [.ag (Ins.mk op d (-1) im of).cs], [], ⟨.c (.sx 25 1), [], some (25, ⟨true, [.i d], 1⟩)⟩⟩ := by
  refine new_of Tryz.func36 rfl rfl rfl rfl rfl fun w β hk => ?_
  rcases h with h | h | h
  ·exact usesA0_w0 (by simp; omega) hk
  ·subst h; exact uses13_0_w0 rfl (refBranches_ok 13) (refBranches_ok 13) hk
  ·subst h; exact uses14_0_w0 rfl (refBranches_ok 14) (refBranches_ok 14) hk
 exact key.ren (swp 25 K) (swp_inj 25 K)
theorem usesS_ok {op d s of : Int} {im : BitVec 64} (K : Nat) (h : op = 1 ∨ op = 10) (hs : s ≠ -1) :
  CallOK Tryz.prog ⟨36, [.ag (Ins.mk op d s im of).cs], [], ⟨.c (.sx K 1), [], some (K, ⟨true, [.i s], 1⟩)⟩⟩ := by
 have b : (s != -1) = true := by simpa using hs
 have key : CallOK Tryz.prog ⟨36, [.ag (Ins.mk op d s im of).cs], [], ⟨.c (.sx 38 1), [], some (38, ⟨true, [.i s], 1⟩)⟩⟩ := by
  refine new_of Tryz.func36 rfl rfl rfl rfl rfl fun w β hk => ?_
  rcases h with h | h
  ·subst h; exact uses1_1_w0 (by rw [b]; rfl) (refBranches_ok 1) hk
  ·subst h; exact uses10_1_w0 (by rw [b]; rfl) (refBranches_ok 10) hk
 exact key.ren (swp 38 K) (swp_inj 38 K)
theorem usesN_ok {d of : Int} {im : BitVec 64} : Ok 36 [.ag (Ins.mk 1 d (-1) im of).cs] (.c nilSl) := uses1_0_w0 rfl (refBranches_ok 1)
theorem usesJ_ok {d s of : Int} {im : BitVec 64} : Ok 36 [.ag (Ins.mk 12 d s im of).cs] (.c nilSl) := uses12_w0 (refBranches_ok 12) (refBranches_ok 12)
theorem usesX_ok {d s of : Int} {im : BitVec 64} (K : Nat) : CallOK Tryz.prog ⟨36, [.ag (Ins.mk 15 d s im of).cs], [], ⟨.c (.sx K 1), [], some (K, ⟨true, [.i 0], 1⟩)⟩⟩ := by
 have key : CallOK Tryz.prog ⟨36, [.ag (Ins.mk 15 d s im of).cs], [], ⟨.c (.sx 39 1), [], some (39, ⟨true, [.i 0], 1⟩)⟩⟩ :=
  new_of Tryz.func36 rfl rfl rfl rfl rfl fun w β hk => uses15_w0 (refBranches_ok 15) (refBranches_ok 15) hk
 exact key.ren (swp 39 K) (swp_inj 39 K)
theorem rwith_ok {t : St} {d : Int} (a : V4) (h : regB d = true) : Ok 45 [.ag t.cs, .c (.i d), .ag a.cs] (.ag (t.wth d.toNat a).cs) := by
 have h1 := regB_iff.1 h
 have h2 := reg_nat h
 refine rwith_w0 ?_ ?_ ?_
 ·simp [h1.1, h1.2, st_len, V4.cs]; omega
 ·rw [st_set_s h]
 ·rw [st_set_r a h]; rfl
theorem rleft_ok {i : Ins} {t : St} (x : V4 × V4 × Bool) (hd : regB i.d = true) (hs : srcB i.s = true) : Ok 42 [.ag i.cs, .ag t.cs, .ag x.1.cs, .ag x.2.1.cs, .c (.b x.2.2)] (.ag (leftS i t x).cs) := by
 refine rleft_all (t1 := t.wth i.d.toNat x.1) (t2 := (t.wth i.d.toNat x.1).wth i.s.toNat x.2.1) (fun a => ?_) (fun a b => ?_) (fun a b => ?_)
 ·unfold leftS; rw [if_neg (by simpa using a)]
 ·have hn : i.s ≠ -1 := by simpa using b
  refine ⟨rwith_ok _ hd, rwith_ok _ ((srcB_iff.1 hs).resolve_left hn), ?_⟩
  unfold leftS; rw [if_pos (by simpa using a), if_neg hn]
 ·have hn : i.s = -1 := by simpa using b
  refine ⟨rwith_ok _ hd, ?_⟩
  unfold leftS; rw [if_pos (by simpa using a), if_pos hn]
/- what is lacked, register by register -/
theorem lacks_set {u s : V6 Bool} : ∀ d, d < 6 → lacks (u.set d true) s = (lacks u s || !s.get d) :=
 lt6 (by cases h : s.x0 <;> simp [lacks, V6.set, V6.get, h]) (by cases h : s.x1 <;> simp [lacks, V6.set, V6.get, h]) (by cases h : s.x2 <;> simp [lacks, V6.set, V6.get, h]) (by cases h : s.x3 <;> simp [lacks, V6.set, V6.get, h]) (by cases h : s.x4 <;> simp [lacks, V6.set, V6.get, h]) (by cases h : s.x5 <;> simp [lacks, V6.set, V6.get, h])
theorem lacks_6 (s : V6 Bool) : lacks no6 s = false := rfl
def lackL (Us : List Int) (t : St) : Bool := Us.any fun d => !t.s.get d.toNat
def stE (i : Ins) (t : St) : Eff := ⟨.tu [.ag (stepS i t).1.cs, .ag (stepS i t).2.1.cs, .c (.i (stepS i t).2.2)], [], none⟩
theorem stE_lack {i : Ins} {t : St} (hl : t.live = true) (h : lacks (useOf i) t.s = true) : stE i t = ⟨.tu [.ag St.z.cs, .ag St.z.cs, .c (.i 1)], [], none⟩ := by
 have e : trapS i t = 1 := by unfold trapS; rw [if_pos h]
 unfold stE stepS
 rw [if_pos hl, e, if_neg (by decide)]
theorem stE_go {i : Ins} {t : St} (hl : t.live = true) (h : trapS i t = 0) : stE i t = ⟨.tu [.ag (goS i t).1.cs, .ag (goS i t).2.cs, .c (.i 0)], [], none⟩ := by
 unfold stE stepS
 rw [if_pos hl, if_pos h]
theorem stE_far {i : Ins} {t : St} (hl : t.live = true) (h : trapS i t = 2) : stE i t = ⟨.tu [.ag St.z.cs, .ag St.z.cs, .c (.i 2)], [], none⟩ := by
 unfold stE stepS
 rw [if_pos hl, h, if_neg (by decide)]
abbrev ssKn (i : Ins) (t : St) (q k : Nat) (U : List AC) : Kn := ⟨[(2, .c (.w 0)), (3, .c (.w 1)), (4, .c (.w 2)), (5, .c (.w 3)), (7, .c (.sx 9 q)), (8, .c (.i (k : Int)))], [(0, ⟨true, i.cs, 0⟩), (1, ⟨true, t.cs, 0⟩), (2, ⟨true, St.z.cs, 0⟩), (3, ⟨true, St.z.cs, 0⟩), (9, ⟨true, U, 1⟩)], 10⟩
theorem ucell_ks (Us : List Int) : (Us.map AC.i).flatMap AC.ks = [] := by
 induction Us with
 | nil => rfl
 | cons d l ih => rw [List.map_cons, List.flatMap_cons, ih]; rfl
theorem ss_low (i : Ins) (t : St) (q k : Nat) (Us : List Int) : Kn.Low (ssKn i t q k (Us.map AC.i)) := low_n rfl rfl ⟨rfl, rfl, rfl, rfl, ucell_ks Us, trivial⟩
theorem ssLoop {i : Ins} {t : St} {Us : List Int} (hl : t.live = true) (h2 : Us.length ≤ 2) (hU : ∀ d, d ∈ Us → regB d = true) (hlk : lacks (useOf i) t.s = lackL Us t) {w : World} {β : Bs}
  (z : lacks (useOf i) t.s = false → ART Tryz.prog 11 (cx w β 0 []) Tryz.f11.ntmps (cutAt Tryz.f11 0) (ssKn i t Us.length Us.length (Us.map AC.i)) (REff w β (stE i t))) : ∀ n k, k + n = Us.length → (∀ j, j < k → t.s.get (Us.getD j 0).toNat = true) →
  ART Tryz.prog 11 (cx w β 0 []) Tryz.f11.ntmps (cutAt Tryz.f11 0) (ssKn i t Us.length k (Us.map AC.i)) (REff w β (stE i t))
 | 0, k, hk, ha => by
  obtain rfl : k = Us.length := by omega
  refine z ?_
  rw [hlk]
  unfold lackL
  rw [List.any_eq_false]
  intro d hd
  obtain ⟨j, hj, rfl⟩ := List.mem_iff_getElem.1 hd
  have := ha j hj
  rw [List.getD_eq_getElem?_getD, List.getElem?_eq_getElem hj] at this
  simpa using this
 | n + 1, k, hk, ha => by
  have hlt : k < Us.length := by omega
  have hm : Us.getD k 0 ∈ Us := by rw [List.getD_eq_getElem?_getD, List.getElem?_eq_getElem hlt]; exact List.getElem_mem hlt
  have hr := hU _ hm
  have hg : (Us.map AC.i)[Int.toNat (k : Int) * 1]? = some (.i (Us.getD k 0)) := by
   rw [Int.toNat_natCast, Nat.mul_one, List.getElem?_map, List.getD_eq_getElem?_getD, List.getElem?_eq_getElem hlt]; rfl
  have d0 : decide ((k : Int) < (Us.length : Int)) = true := decide_eq_true (by omega)
  have d1 : (AC.isI (Option.getD (Us.map AC.i)[Int.toNat (k : Int) * 1]? (AC.b false)) && Nat.blt (Int.toNat (k : Int) * 1) (Us.map AC.i).length) = true := by
   rw [hg, Bool.and_eq_true]
   exact ⟨rfl, by rw [List.length_map, Nat.blt_eq]; omega⟩
  have e0 : Eff.mk (AV.c (AC.i (AC.asI (Option.getD (Us.map AC.i)[Int.toNat (k : Int) * 1]? (AC.b false))))) [] none = Eff.mk (AV.c (AC.i (Us.getD k 0))) [] none := by rw [hg]; rfl
  refine ssRound_all (d := Us.getD k 0) (by decide) (fun a => ⟨d0, d0, d1, hr, ss_ok t hr, e0, ss_eff t hr, ?_⟩) (fun a => ⟨d0, d0, d1, hr, ss_ok t hr, e0, ss_eff t hr, by rw [wrapS (by omega)], ss_low _ _ _ _ _, ?_⟩)
  ·refine (stE_lack hl ?_).symm
   rw [hlk]
   exact List.any_eq_true.2 ⟨_, hm, a⟩
  ·refine ssLoop hl h2 hU hlk z n (k + 1) (by omega) fun j hj => ?_
   by_cases e : j = k
   ·subst e; simpa using a
   ·exact ha j (by omega)
theorem ssGo {i : Ins} {t : St} {Us : List Int} (hl : t.live = true) (h2 : Us.length ≤ 2) (hU : ∀ d, d ∈ Us → regB d = true) (hlk : lacks (useOf i) t.s = lackL Us t) (hu : CallOK Tryz.prog ⟨36, [.ag i.cs], [], ⟨.c (.sx 9 Us.length), [], some (9, ⟨true, Us.map AC.i, 1⟩)⟩⟩)
  (z : ∀ w β, lacks (useOf i) t.s = false → ART Tryz.prog 11 (cx w β 0 []) Tryz.f11.ntmps (cutAt Tryz.f11 0) (ssKn i t Us.length Us.length (Us.map AC.i)) (REff w β (stE i t))) : Ok 11 [.ag i.cs, .ag t.cs] (stE i t).v :=
 val_of Tryz.func11 rfl rfl rfl rfl fun w β => ssTop_w1 (and_yes (by rw [hl]; rfl) rfl) hu (ss_low i t _ 0 Us) (fun _ h => absurd h (Nat.not_lt_zero _)) (ssLoop hl h2 hU hlk (z w β) Us.length 0 (by omega) fun _ h => absurd h (Nat.not_lt_zero _))
section
variable {i : Ins} {t : St}
theorem dn (q : Nat) : (!decide ((q : Int) < (q : Int))) = true := by rw [decide_eq_false (by omega)]; rfl
theorem reach_no (h : i.op ≠ 10) (h' : i.op ≠ 11) : Ok 38 [.c (.i i.op)] (.c (.b false)) := ok_eq (refReaches_ok i.op) (by rw [beq_eq_false_iff_ne.2 h, beq_eq_false_iff_ne.2 h']; rfl)
theorem reach_yes (h : i.op = 10 ∨ i.op = 11) : Ok 38 [.c (.i i.op)] (.c (.b true)) := ok_eq (refReaches_ok i.op) (by rcases h with h | h <;> rw [h] <;> rfl)
theorem trap_no (hu : lacks (useOf i) t.s = false) (h : i.op ≠ 10) (h' : i.op ≠ 11) : trapS i t = 0 := by
 unfold trapS; rw [if_neg (by rw [hu]; decide), if_neg h, if_neg h']
theorem s_ne (h : i.s ≠ -1) : (i.s != -1) = true := by simpa using h
theorem s_is (h : i.s = -1) : (!i.s != -1) = true := by simp [h]
theorem src_c (h : i.s = -1) : srcV i t = V4.of i.im := by unfold srcV; rw [if_pos h]
theorem src_r (h : i.s ≠ -1) : srcV i t = t.r.get i.s.toNat := by unfold srcV; rw [if_neg h]
theorem lack1 {d : Int} (h : regB d = true) : lacks ((no6).set d.toNat true) t.s = lackL [d] t := by
 rw [lacks_set _ (reg_nat h), lacks_6]; simp [lackL]
theorem lack2 {d s : Int} (h : regB d = true) (h' : regB s = true) : lacks (((no6).set d.toNat true).set s.toNat true) t.s = lackL [d, s] t := by
 rw [lacks_set _ (reg_nat h'), lacks_set _ (reg_nat h), lacks_6]; simp [lackL]
theorem mem1 {d : Int} (h : regB d = true) : ∀ e, e ∈ [d] → regB e = true := fun e he => by rw [List.mem_singleton.1 he]; exact h
theorem mem2 {d s : Int} (h : regB d = true) (h' : regB s = true) : ∀ e, e ∈ [d, s] → regB e = true := fun e he => by
 rcases List.mem_cons.1 he with h1 | h1
 ·rw [h1]; exact h
 ·rw [List.mem_singleton.1 h1]; exact h'
theorem useE_d (h : (2 ≤ i.op ∧ i.op ≤ 9) ∨ i.op = 13 ∨ i.op = 14) (hs : i.s = -1) : useOf i = (no6).set i.d.toNat true := by
 unfold useOf; rw [if_neg (by omega), if_neg (by omega), if_pos hs, if_neg (by omega)]
theorem useE_ds (h : (2 ≤ i.op ∧ i.op ≤ 9) ∨ i.op = 11 ∨ i.op = 13 ∨ i.op = 14) (hs : i.s ≠ -1) : useOf i = ((no6).set i.d.toNat true).set i.s.toNat true := by
 unfold useOf; rw [if_neg (by omega), if_neg (by omega), if_neg hs, if_neg (by omega)]
theorem useE_s (h : i.op = 1 ∨ i.op = 10) (hs : i.s ≠ -1) : useOf i = (no6).set i.s.toNat true := by
 unfold useOf; rw [if_neg (by omega), if_neg (by omega), if_neg hs, if_pos h]
end
theorem stepState_ok {i : Ins} {t : St} (hr : Right i 65) (ht : t.Ok) : Ok 11 [.ag i.cs, .ag t.cs] (stE i t).v := by
 by_cases hl : t.live = true
 ·have hg := right_regs hr
  have hd := hg.1
  have so : i.s ≠ -1 → regB i.s = true := fun h => (srcB_iff.1 hg.2).resolve_left h
  have cI := refOf_ok i.im
  have cO := refOf_ok (BitVec.ofInt 64 i.of)
  rcases ops_of hr with c | c | c | c | c | c | c | c
  ·-- load
   obtain ⟨_, hs, hz, _⟩ := fits_reach hr (Or.inl c)
   have hn : i.s ≠ -1 := fun e => by rw [e] at hs; cases hs
   refine ssGo (Us := [i.s]) hl (by simp) (mem1 hs) (by rw [useE_s (Or.inr c) hn]; exact lack1 hs) (usesS_ok 9 (Or.inr c) hn) fun w β hu => ?_
   have hv : (t.r.get i.s.toNat).ok = true := by have := srcV_ok hr ht hu (by omega) (by omega); rwa [src_r hn] at this
   have cT := refTwo_ok (op := 2) (by decide) hv (V4.of_ok (BitVec.ofInt 64 i.of))
   have hn8 := size_of hz
   have cB : Ok 46 [.c (.i (IntKind.wrap IntKind.i64 (nv i.im)))] (.ag (V4.bytes (nv i.im)).cs) := by rw [wrapN (by omega) (by omega)]; exact refBytes_ok hn8
   refine ssL1_all (fun a => ⟨dn _, s_ne hn, hs, sr_ok t hs, hd, sr_ok t hd, op_is c, cI, sr_eff t hs, sr_eff t hd, reach_yes (Or.inl c), cO, cT, ?_⟩) (fun a => ⟨dn _, s_ne hn, hs, sr_ok t hs, hd, sr_ok t hd, op_is c, hd, sr_ok t hd, op_ne (by omega), op_ne (by omega), op_ne (by omega), op_ne (by omega), op_is c, cI, sr_eff t hs, sr_eff t hd, reach_yes (Or.inl c), cO, cT, sr_eff t hd, cB, rwith_ok _ hd, ?_⟩)
   ·refine (stE_far hl ?_).symm
    unfold trapS farS; rw [if_neg (by rw [hu]; decide), if_pos c, if_pos a]
   ·rw [stE_go hl ?_, goS_load c]
    unfold trapS farS; rw [if_neg (by rw [hu]; decide), if_pos c, if_neg (by rw [a]; decide)]
  ·-- store
   obtain ⟨_, hs, hz, _⟩ := fits_reach hr (Or.inr c)
   have hn : i.s ≠ -1 := fun e => by rw [e] at hs; cases hs
   refine ssGo (Us := [i.d, i.s]) hl (by simp) (mem2 hd hs) (by rw [useE_ds (Or.inr (Or.inl c)) hn]; exact lack2 hd hs) (uses2_ok 9 (Or.inr (Or.inl c)) hn) fun w β hu => ?_
   have hv := dstV_ok hr ht hu (by omega) (by omega) (by omega) (by omega)
   have cT := refTwo_ok (op := 2) (by decide) hv (V4.of_ok (BitVec.ofInt 64 i.of))
   refine ssS1_all (fun a => ⟨dn _, s_ne hn, hs, sr_ok t hs, hd, sr_ok t hd, op_ne (by omega), cI, sr_eff t hs, sr_eff t hd, reach_yes (Or.inr c), cO, cT, ?_⟩) (fun a => ⟨dn _, s_ne hn, hs, sr_ok t hs, hd, sr_ok t hd, op_ne (by omega), hd, sr_ok t hd, op_ne (by omega), op_ne (by omega), op_ne (by omega), op_ne (by omega), op_ne (by omega), op_is c, cI, sr_eff t hs, sr_eff t hd, reach_yes (Or.inr c), cO, cT, sr_eff t hd, ?_⟩)
   ·refine (stE_far hl ?_).symm
    unfold trapS farS; rw [if_neg (by rw [hu]; decide), if_neg (by omega), if_pos c, if_pos a]
   ·rw [stE_go hl ?_, goS_store c]
    unfold trapS farS; rw [if_neg (by rw [hu]; decide), if_neg (by omega), if_pos c, if_neg (by rw [a]; decide)]
  ·-- jump
   obtain ⟨_, _, d0, s0⟩ := fits_jump hr c
   have hs : regB i.s = true := by rw [s0]; rfl
   have hu : lacks (useOf i) t.s = false := by unfold useOf; rw [if_pos c]; rfl
   have e := stE_go hl (trap_no hu (by omega) (by omega))
   rw [goS_jump c] at e
   rw [e]
   refine ssJ1_w0 (and_yes (by rw [hl]; rfl) (and_yes (s_ne (by omega)) (and_yes hs (and_yes (sr_ok t hs) (and_yes hd (and_yes (sr_ok t hd) (and_yes (op_ne (by omega)) (and_yes hd (and_yes (sr_ok t hd) (and_yes (op_ne (by omega)) (and_yes (op_is c) rfl))))))))))) ?_ cI (sr_eff t hs) (sr_eff t hd) (reach_no (by omega) (by omega)) (sr_eff t hd)
   have := usesJ_ok (d := i.d) (s := i.s) (of := i.of) (im := i.im)
   rw [← c] at this
   exact this
  ·-- ifeq
   by_cases hs : i.s = -1
   ·refine ssGo (Us := [i.d]) hl (by simp) (mem1 hd) (by rw [useE_d (Or.inr (Or.inl c)) hs]; exact lack1 hd) (by rw [show AV.ag i.cs = AV.ag (Ins.mk i.op i.d (-1) i.im i.of).cs from by unfold Ins.cs; rw [hs]]; exact usesD_ok 9 (Or.inr (Or.inl c))) fun w β hu => ?_
    have hv := dstV_ok hr ht hu (by omega) (by omega) (by omega) (by omega)
    refine art_eq (ssEq0_w0 (and_yes (dn _) (and_yes (s_is hs) (and_yes hd (and_yes (sr_ok t hd) (and_yes (op_ne (by omega)) (and_yes hd (and_yes (sr_ok t hd) (and_yes (op_ne (by omega)) (and_yes (op_ne (by omega)) (and_yes (op_is c) rfl)))))))))) cI (sr_eff t hd) (reach_no (by omega) (by omega)) (sr_eff t hd) (refOther_ok hv (V4.of_ok _)) (refEqual_ok hv (V4.of_ok _)) (rleft_ok ((t.r.get i.d.toNat).other (V4.of i.im)) hd hg.2) (rleft_ok ((t.r.get i.d.toNat).equal (V4.of i.im)) hd hg.2)) ?_
    rw [stE_go hl (trap_no hu (by omega) (by omega)), goS_eq c, src_c hs]
   ·have h1 := so hs
    refine ssGo (Us := [i.d, i.s]) hl (by simp) (mem2 hd h1) (by rw [useE_ds (Or.inr (Or.inr (Or.inl c))) hs]; exact lack2 hd h1) (uses2_ok 9 (Or.inr (Or.inr (Or.inl c))) hs) fun w β hu => ?_
    have hv := dstV_ok hr ht hu (by omega) (by omega) (by omega) (by omega)
    have hw : (t.r.get i.s.toNat).ok = true := by have := srcV_ok hr ht hu (by omega) (by omega); rwa [src_r hs] at this
    refine art_eq (ssEq1_w0 (and_yes (dn _) (and_yes (s_ne hs) (and_yes h1 (and_yes (sr_ok t h1) (and_yes hd (and_yes (sr_ok t hd) (and_yes (op_ne (by omega)) (and_yes hd (and_yes (sr_ok t hd) (and_yes (op_ne (by omega)) (and_yes (op_ne (by omega)) (and_yes (op_is c) rfl)))))))))))) cI (sr_eff t h1) (sr_eff t hd) (reach_no (by omega) (by omega)) (sr_eff t hd) (refOther_ok hv hw) (refEqual_ok hv hw) (rleft_ok ((t.r.get i.d.toNat).other (t.r.get i.s.toNat)) hd hg.2) (rleft_ok ((t.r.get i.d.toNat).equal (t.r.get i.s.toNat)) hd hg.2)) ?_
    rw [stE_go hl (trap_no hu (by omega) (by omega)), goS_eq c, src_r hs]
  ·-- iflt
   by_cases hs : i.s = -1
   ·refine ssGo (Us := [i.d]) hl (by simp) (mem1 hd) (by rw [useE_d (Or.inr (Or.inr c)) hs]; exact lack1 hd) (by rw [show AV.ag i.cs = AV.ag (Ins.mk i.op i.d (-1) i.im i.of).cs from by unfold Ins.cs; rw [hs]]; exact usesD_ok 9 (Or.inr (Or.inr c))) fun w β hu => ?_
    have hv := dstV_ok hr ht hu (by omega) (by omega) (by omega) (by omega)
    refine art_eq (ssLt0_w0 (and_yes (dn _) (and_yes (s_is hs) (and_yes hd (and_yes (sr_ok t hd) (and_yes (op_ne (by omega)) (and_yes hd (and_yes (sr_ok t hd) (and_yes (op_ne (by omega)) (and_yes (op_ne (by omega)) (and_yes (op_ne (by omega)) (and_yes (op_is c) rfl))))))))))) cI (sr_eff t hd) (reach_no (by omega) (by omega)) (sr_eff t hd) (refNotLess_ok hv (V4.of_ok _)) (refLess_ok hv (V4.of_ok _)) (rleft_ok ((t.r.get i.d.toNat).notLess (V4.of i.im)) hd hg.2) (rleft_ok ((t.r.get i.d.toNat).less (V4.of i.im)) hd hg.2)) ?_
    rw [stE_go hl (trap_no hu (by omega) (by omega)), goS_lt c, src_c hs]
   ·have h1 := so hs
    refine ssGo (Us := [i.d, i.s]) hl (by simp) (mem2 hd h1) (by rw [useE_ds (Or.inr (Or.inr (Or.inr c))) hs]; exact lack2 hd h1) (uses2_ok 9 (Or.inr (Or.inr (Or.inr c))) hs) fun w β hu => ?_
    have hv := dstV_ok hr ht hu (by omega) (by omega) (by omega) (by omega)
    have hw : (t.r.get i.s.toNat).ok = true := by have := srcV_ok hr ht hu (by omega) (by omega); rwa [src_r hs] at this
    refine art_eq (ssLt1_w0 (and_yes (dn _) (and_yes (s_ne hs) (and_yes h1 (and_yes (sr_ok t h1) (and_yes hd (and_yes (sr_ok t hd) (and_yes (op_ne (by omega)) (and_yes hd (and_yes (sr_ok t hd) (and_yes (op_ne (by omega)) (and_yes (op_ne (by omega)) (and_yes (op_ne (by omega)) (and_yes (op_is c) rfl))))))))))))) cI (sr_eff t h1) (sr_eff t hd) (reach_no (by omega) (by omega)) (sr_eff t hd) (refNotLess_ok hv hw) (refLess_ok hv hw) (rleft_ok ((t.r.get i.d.toNat).notLess (t.r.get i.s.toNat)) hd hg.2) (rleft_ok ((t.r.get i.d.toNat).less (t.r.get i.s.toNat)) hd hg.2)) ?_
    rw [stE_go hl (trap_no hu (by omega) (by omega)), goS_lt c, src_r hs]
  ·-- exit
   obtain ⟨d0, s0, _, _⟩ := fits_exit hr c
   have hs : regB i.s = true := by rw [s0]; rfl
   have eu : useOf i = (no6).set (0 : Int).toNat true := by unfold useOf; rw [if_neg (by omega), if_pos c]; rfl
   refine ssGo (Us := [0]) hl (by decide) (mem1 rfl) (by rw [eu]; exact lack1 rfl) ?_ fun w β hu => ?_
   ·have := usesX_ok (d := i.d) (s := i.s) (of := i.of) (im := i.im) 9
    rw [← c] at this
    exact this
   ·refine art_eq (ssX1_w0 (and_yes (dn _) (and_yes (s_ne (by omega)) (and_yes hs (and_yes (sr_ok t hs) (and_yes hd (and_yes (sr_ok t hd) (and_yes (op_ne (by omega)) (and_yes hd (and_yes (sr_ok t hd) (and_yes (op_is c) rfl)))))))))) cI (sr_eff t hs) (sr_eff t hd) (reach_no (by omega) (by omega)) (sr_eff t hd)) ?_
    rw [stE_go hl (trap_no hu (by omega) (by omega)), goS_exit c]
  ·-- mov
   by_cases hs : i.s = -1
   ·have hu : lacks (useOf i) t.s = false := by unfold useOf; rw [if_neg (by omega), if_neg (by omega), if_pos hs, if_pos (Or.inl c)]; rfl
    have e := stE_go hl (trap_no hu (by omega) (by omega))
    rw [goS_mov c, src_c hs] at e
    rw [e]
    refine ssM0_w0 (and_yes (by rw [hl]; rfl) (and_yes (s_is hs) (and_yes hd (and_yes (sr_ok t hd) (and_yes (op_ne (by omega)) (and_yes hd (and_yes (sr_ok t hd) (and_yes (op_ne (by omega)) (and_yes (op_ne (by omega)) (and_yes (op_ne (by omega)) (and_yes (op_ne (by omega)) (and_yes (op_ne (by omega)) (and_yes (op_ne (by omega)) (and_yes (op_is c) rfl)))))))))))))) ?_ cI (sr_eff t hd) (reach_no (by omega) (by omega)) (sr_eff t hd) (rwith_ok _ hd)
    rw [show AV.ag i.cs = AV.ag (Ins.mk 1 i.d (-1) i.im i.of).cs from by unfold Ins.cs; rw [c, hs]]
    exact usesN_ok
   ·have h1 := so hs
    refine ssGo (Us := [i.s]) hl (by simp) (mem1 h1) (by rw [useE_s (Or.inl c) hs]; exact lack1 h1) (usesS_ok 9 (Or.inl c) hs) fun w β hu => ?_
    refine art_eq (ssM1_w0 (and_yes (dn _) (and_yes (s_ne hs) (and_yes h1 (and_yes (sr_ok t h1) (and_yes hd (and_yes (sr_ok t hd) (and_yes (op_ne (by omega)) (and_yes hd (and_yes (sr_ok t hd) (and_yes (op_ne (by omega)) (and_yes (op_ne (by omega)) (and_yes (op_ne (by omega)) (and_yes (op_ne (by omega)) (and_yes (op_ne (by omega)) (and_yes (op_ne (by omega)) (and_yes (op_is c) rfl)))))))))))))))) cI (sr_eff t h1) (sr_eff t hd) (reach_no (by omega) (by omega)) (sr_eff t hd) (rwith_ok _ hd)) ?_
    rw [stE_go hl (trap_no hu (by omega) (by omega)), goS_mov c, src_r hs]
  ·-- reckons
   by_cases hs : i.s = -1
   ·refine ssGo (Us := [i.d]) hl (by simp) (mem1 hd) (by rw [useE_d (Or.inl c) hs]; exact lack1 hd) (by rw [show AV.ag i.cs = AV.ag (Ins.mk i.op i.d (-1) i.im i.of).cs from by unfold Ins.cs; rw [hs]]; exact usesD_ok 9 (Or.inl c)) fun w β hu => ?_
    have hv := dstV_ok hr ht hu (by omega) (by omega) (by omega) (by omega)
    refine art_eq (ssT0_w0 (and_yes (dn _) (and_yes (s_is hs) (and_yes hd (and_yes (sr_ok t hd) (and_yes (op_ne (by omega)) (and_yes hd (and_yes (sr_ok t hd) (and_yes (op_ne (by omega)) (and_yes (op_ne (by omega)) (and_yes (op_ne (by omega)) (and_yes (op_ne (by omega)) (and_yes (op_ne (by omega)) (and_yes (op_ne (by omega)) (and_yes (op_ne (by omega)) rfl)))))))))))))) cI (sr_eff t hd) (reach_no (by omega) (by omega)) (sr_eff t hd) (refTwo_ok c hv (V4.of_ok _)) (rwith_ok _ hd)) ?_
    rw [stE_go hl (trap_no hu (by omega) (by omega)), goS_two c, src_c hs]
   ·have h1 := so hs
    refine ssGo (Us := [i.d, i.s]) hl (by simp) (mem2 hd h1) (by rw [useE_ds (Or.inl c) hs]; exact lack2 hd h1) (uses2_ok 9 (Or.inl c) hs) fun w β hu => ?_
    have hv := dstV_ok hr ht hu (by omega) (by omega) (by omega) (by omega)
    have hw : (t.r.get i.s.toNat).ok = true := by have := srcV_ok hr ht hu (by omega) (by omega); rwa [src_r hs] at this
    refine art_eq (ssT1_w0 (and_yes (dn _) (and_yes (s_ne hs) (and_yes h1 (and_yes (sr_ok t h1) (and_yes hd (and_yes (sr_ok t hd) (and_yes (op_ne (by omega)) (and_yes hd (and_yes (sr_ok t hd) (and_yes (op_ne (by omega)) (and_yes (op_ne (by omega)) (and_yes (op_ne (by omega)) (and_yes (op_ne (by omega)) (and_yes (op_ne (by omega)) (and_yes (op_ne (by omega)) (and_yes (op_ne (by omega)) rfl)))))))))))))))) cI (sr_eff t h1) (sr_eff t hd) (reach_no (by omega) (by omega)) (sr_eff t hd) (refTwo_ok c hv hw) (rwith_ok _ hd)) ?_
    rw [stE_go hl (trap_no hu (by omega) (by omega)), goS_two c, src_r hs]
 ·have hl : t.live = false := by simpa using hl
  refine val_of Tryz.func11 rfl rfl rfl rfl fun w β => art_eq (ssTop_w0 (and_yes (by rw [hl]; rfl) rfl)) ?_
  unfold stE stepS
  rw [if_neg (by rw [hl]; decide)]
section
variable {a b p : V4} {i : Bool}
theorem refJoinV_w0 (c0 : Ok 125 [.ag [.u a.v, .u a.m], .ag [.u b.v, .u b.m]] (.ag [.u (jV a.v a.m b.v b.m), .u (jM a.v a.m b.v b.m)])) (c1 : Ok 78 [.ag [.u (jV a.v a.m b.v b.m), .u (jM a.v a.m b.v b.m), .u (bmin a.l b.l), .u (bmax a.h b.h)]] (.tu [.ag p.cs, .c (.b i)])) :
  Ok 89 [.ag a.cs, .ag b.cs] (.ag p.cs) :=
 val_run2 [] ([]) [] Tryz.func89 rfl rfl rfl rfl (by kernel_rfl) rfl (cr_cons c0 (cr_cons c1 cr_nil))
end
section
abbrev rjRoundK (t u b : St) (j : Int) : Kn := ⟨[(2, .c (.w 0)), (3, .c (.w 1)), (4, .c (.w 2)), (5, .c (.w 10)), (6, .c (.i j))], [(0, Ent.mk true t.cs 0), (1, Ent.mk true u.cs 0), (2, Ent.mk true St.z.cs 0), (10, Ent.mk true b.cs 0)], 11⟩
variable {a : V4} {t u b : St} {w : World} {β : Bs} {n : Nat} {C : Cx} {R : Ending → World → Prop} {E : Eff} {j : Int}
theorem rbegin_w0 (c0 : Ok 86 [] (.ag a.cs)) :
  Ok 50 [] (.ag [.b true, .b false, .b true, .b false, .b false, .b false, .b false, .u 0#64, .u 0#64, .u 0#64, .u 0#64, .u a.v, .u a.m, .u a.l, .u a.h, .u 0#64, .u 0#64, .u 0#64, .u 0#64, .u 0#64, .u 0#64, .u 0#64, .u 0#64, .u 0#64, .u 0#64, .u 0#64, .u 0#64, .u 0#64, .u 0#64, .u 0#64, .u 0#64]) :=
 val_run2 [] ([]) [] Tryz.func50 rfl rfl rfl rfl (by kernel_rfl) rfl (cr_cons c0 cr_nil)
theorem rjTop_w0 (h : (!t.live && true) = true) :
  BO 51 Tryz.f51 (cx w β n []) [.ag t.cs, .ag u.cs] [] 0 (REff w β ⟨.ag u.cs, [], none⟩) :=
 run_eff2 [] none [true] ([true]) [] Tryz.func51 (ekeys0 rfl n) (by kernel_rfl) h cr_nil
theorem rjTop_w1 (h : (!!t.live && (!u.live && true)) = true) :
  BO 51 Tryz.f51 (cx w β n []) [.ag t.cs, .ag u.cs] [] 0 (REff w β ⟨.ag t.cs, [], none⟩) :=
 run_eff2 [] none [false, true] ([true]) [] Tryz.func51 (ekeys0 rfl n) (by kernel_rfl) h cr_nil
theorem rjTop_w2 (h : (!!t.live && (!!u.live && true)) = true) (lo : Kn.Low ⟨[(2, .c (.w 0)), (3, .c (.w 1)), (4, .c (.w 2)), (5, .c (.w 10)), (6, .c (.i 0))], [(0, Ent.mk true t.cs 0), (1, Ent.mk true u.cs 0), (2, Ent.mk true St.z.cs 0), (10, Ent.mk true St.e.cs 0)], 11⟩) (hF : ∀ k, C.F k → k < 11) (z : AR 51 Tryz.f51 C 0 ⟨[(2, .c (.w 0)), (3, .c (.w 1)), (4, .c (.w 2)), (5, .c (.w 10)), (6, .c (.i 0))], [(0, Ent.mk true t.cs 0), (1, Ent.mk true u.cs 0), (2, Ent.mk true St.z.cs 0), (10, Ent.mk true St.e.cs 0)], 11⟩ R) :
  BO 51 Tryz.f51 C [.ag t.cs, .ag u.cs] [] 0 R :=
 run_cut2 [false, false] ([true]) [] Tryz.func51 (by kernel_rfl) h cr_nil lo hF z
theorem rjTop_all (hn : n ≤ 11)
  (l0 : (!t.live) = true → ((⟨.ag u.cs, [], none⟩ : Eff) = E))
  (l1 : (!t.live) = false → (!u.live) = true → ((⟨.ag t.cs, [], none⟩ : Eff) = E))
  (l2 : (!t.live) = false → (!u.live) = false → Kn.Low ⟨[(2, .c (.w 0)), (3, .c (.w 1)), (4, .c (.w 2)), (5, .c (.w 10)), (6, .c (.i 0))], [(0, Ent.mk true t.cs 0), (1, Ent.mk true u.cs 0), (2, Ent.mk true St.z.cs 0), (10, Ent.mk true St.e.cs 0)], 11⟩ ∧ AR 51 Tryz.f51 (cx w β n []) 0 ⟨[(2, .c (.w 0)), (3, .c (.w 1)), (4, .c (.w 2)), (5, .c (.w 10)), (6, .c (.i 0))], [(0, Ent.mk true t.cs 0), (1, Ent.mk true u.cs 0), (2, Ent.mk true St.z.cs 0), (10, Ent.mk true St.e.cs 0)], 11⟩ (REff w β E)) :
  BO 51 Tryz.f51 (cx w β n []) [.ag t.cs, .ag u.cs] [] 0 (REff w β E) :=
 (tf (!t.live)).elim (fun h0 => (match l0 h0 with | e => art_eq (rjTop_w0 (and_yes h0 rfl)) e)) (fun h0 => (tf (!u.live)).elim (fun h1 => (match l1 h0 h1 with | e => art_eq (rjTop_w1 (and_yes (not_yes h0) (and_yes h1 rfl))) e)) (fun h1 => (match l2 h0 h1 with | ⟨lo, z⟩ => rjTop_w2 (and_yes (not_yes h0) (and_yes (not_yes h1) rfl)) lo (fun _ hk => Nat.lt_of_lt_of_le hk hn) z)))
theorem rjRound_w0 (h : (decide (j < 6) && (decide (0 ≤ j) && decide (j < 6) && (AC.isB ((t.cs)[1 + j.toNat * 1]?.getD (.b false)) && Nat.blt (1 + j.toNat * 1) (t.cs).length && ((t.s).get j.toNat && (decide (0 ≤ j) && decide (j < 6) && (AC.isB ((u.cs)[1 + j.toNat * 1]?.getD (.b false)) && Nat.blt (1 + j.toNat * 1) (u.cs).length && ((u.s).get j.toNat && (decide (0 ≤ j) && decide (j < 6) && (Nat.ble (1 + j.toNat * 1 + 1) (b.cs).length && true && (decide (0 ≤ j) && decide (j < 6) && (Nat.ble (7 + j.toNat * 4 + 4) (t.cs).length && (decide (0 ≤ j) && decide (j < 6) && (Nat.ble (7 + j.toNat * 4 + 4) (u.cs).length && (decide (0 ≤ j) && decide (j < 6) && (Nat.ble (7 + j.toNat * 4 + (a.cs).length) ((St.mk b.live ((b.s).set j.toNat true) b.r).cs).length && true && true))))))))))))))) = true) (c0 : pe (.c (.b (AC.asB ((t.cs)[1 + j.toNat * 1]?.getD (.b false))))) = pe (.c (.b ((t.s).get j.toNat)))) (c1 : pe (.c (.b (AC.asB ((u.cs)[1 + j.toNat * 1]?.getD (.b false))))) = pe (.c (.b ((u.s).get j.toNat)))) (c2 : we 10 ((b.cs).set (1 + j.toNat * 1) (.b true)) = we 10 ((St.mk b.live ((b.s).set j.toNat true) b.r).cs)) (c3 : pe (.ag (((t.cs).drop (7 + j.toNat * 4)).take 4)) = pe (.ag ((t.r).get j.toNat).cs)) (c4 : pe (.ag (((u.cs).drop (7 + j.toNat * 4)).take 4)) = pe (.ag ((u.r).get j.toNat).cs)) (c5 : Ok 89 [.ag ((t.r).get j.toNat).cs, .ag ((u.r).get j.toNat).cs] (.ag a.cs)) (c6 : we 10 (splice (St.mk b.live ((b.s).set j.toNat true) b.r).cs (7 + j.toNat * 4) a.cs) = we 10 ((St.wth b j.toNat a).cs)) (lo : Kn.Low ⟨[(2, .c (.w 0)), (3, .c (.w 1)), (4, .c (.w 2)), (5, .c (.w 10)), (6, .c (.i (IntKind.i64.wrap (j + 1))))], [(0, Ent.mk true t.cs 0), (1, Ent.mk true u.cs 0), (2, Ent.mk true St.z.cs 0), (10, Ent.mk true [.b b.live, .b ((b.s).set j.toNat true).x0, .b ((b.s).set j.toNat true).x1, .b ((b.s).set j.toNat true).x2, .b ((b.s).set j.toNat true).x3, .b ((b.s).set j.toNat true).x4, .b ((b.s).set j.toNat true).x5, .u (((b.r).set j.toNat a).x0).v, .u (((b.r).set j.toNat a).x0).m, .u (((b.r).set j.toNat a).x0).l, .u (((b.r).set j.toNat a).x0).h, .u (((b.r).set j.toNat a).x1).v, .u (((b.r).set j.toNat a).x1).m, .u (((b.r).set j.toNat a).x1).l, .u (((b.r).set j.toNat a).x1).h, .u (((b.r).set j.toNat a).x2).v, .u (((b.r).set j.toNat a).x2).m, .u (((b.r).set j.toNat a).x2).l, .u (((b.r).set j.toNat a).x2).h, .u (((b.r).set j.toNat a).x3).v, .u (((b.r).set j.toNat a).x3).m, .u (((b.r).set j.toNat a).x3).l, .u (((b.r).set j.toNat a).x3).h, .u (((b.r).set j.toNat a).x4).v, .u (((b.r).set j.toNat a).x4).m, .u (((b.r).set j.toNat a).x4).l, .u (((b.r).set j.toNat a).x4).h, .u (((b.r).set j.toNat a).x5).v, .u (((b.r).set j.toNat a).x5).m, .u (((b.r).set j.toNat a).x5).l, .u (((b.r).set j.toNat a).x5).h] 0)], 11⟩) (hF : ∀ k, C.F k → k < 11) (z : AR 51 Tryz.f51 C 0 ⟨[(2, .c (.w 0)), (3, .c (.w 1)), (4, .c (.w 2)), (5, .c (.w 10)), (6, .c (.i (IntKind.i64.wrap (j + 1))))], [(0, Ent.mk true t.cs 0), (1, Ent.mk true u.cs 0), (2, Ent.mk true St.z.cs 0), (10, Ent.mk true [.b b.live, .b ((b.s).set j.toNat true).x0, .b ((b.s).set j.toNat true).x1, .b ((b.s).set j.toNat true).x2, .b ((b.s).set j.toNat true).x3, .b ((b.s).set j.toNat true).x4, .b ((b.s).set j.toNat true).x5, .u (((b.r).set j.toNat a).x0).v, .u (((b.r).set j.toNat a).x0).m, .u (((b.r).set j.toNat a).x0).l, .u (((b.r).set j.toNat a).x0).h, .u (((b.r).set j.toNat a).x1).v, .u (((b.r).set j.toNat a).x1).m, .u (((b.r).set j.toNat a).x1).l, .u (((b.r).set j.toNat a).x1).h, .u (((b.r).set j.toNat a).x2).v, .u (((b.r).set j.toNat a).x2).m, .u (((b.r).set j.toNat a).x2).l, .u (((b.r).set j.toNat a).x2).h, .u (((b.r).set j.toNat a).x3).v, .u (((b.r).set j.toNat a).x3).m, .u (((b.r).set j.toNat a).x3).l, .u (((b.r).set j.toNat a).x3).h, .u (((b.r).set j.toNat a).x4).v, .u (((b.r).set j.toNat a).x4).m, .u (((b.r).set j.toNat a).x4).l, .u (((b.r).set j.toNat a).x4).h, .u (((b.r).set j.toNat a).x5).v, .u (((b.r).set j.toNat a).x5).m, .u (((b.r).set j.toNat a).x5).l, .u (((b.r).set j.toNat a).x5).h] 0)], 11⟩ R) :
  AR 51 Tryz.f51 C 0 (rjRoundK t u b j) R :=
 run_cut2 [true, true, true] ([true]) [(9, 3), (9, 8), (10, 3), (11, 4), (11, 8), (11, 12)] Tryz.func51 (by kernel_rfl) h (cr_same c0 (cr_same c1 (cr_same c2 (cr_same c3 (cr_same c4 (cr_cons c5 (cr_same c6 cr_nil))))))) lo hF z
theorem rjRound_w1 (h : (decide (j < 6) && (decide (0 ≤ j) && decide (j < 6) && (AC.isB ((t.cs)[1 + j.toNat * 1]?.getD (.b false)) && Nat.blt (1 + j.toNat * 1) (t.cs).length && ((t.s).get j.toNat && (decide (0 ≤ j) && decide (j < 6) && (AC.isB ((u.cs)[1 + j.toNat * 1]?.getD (.b false)) && Nat.blt (1 + j.toNat * 1) (u.cs).length && (!(u.s).get j.toNat && true))))))) = true) (c0 : pe (.c (.b (AC.asB ((t.cs)[1 + j.toNat * 1]?.getD (.b false))))) = pe (.c (.b ((t.s).get j.toNat)))) (c1 : pe (.c (.b (AC.asB ((u.cs)[1 + j.toNat * 1]?.getD (.b false))))) = pe (.c (.b ((u.s).get j.toNat)))) (lo : Kn.Low (rjRoundK t u b (IntKind.i64.wrap (j + 1)))) (hF : ∀ k, C.F k → k < 11) (z : AR 51 Tryz.f51 C 0 (rjRoundK t u b (IntKind.i64.wrap (j + 1))) R) :
  AR 51 Tryz.f51 C 0 (rjRoundK t u b j) R :=
 run_cut2 [true, true, false] ([true]) [(9, 3), (9, 8), (10, 3), (11, 4), (11, 8), (11, 12)] Tryz.func51 (by kernel_rfl) h (cr_same c0 (cr_same c1 cr_nil)) lo hF z
theorem rjRound_w2 (h : (decide (j < 6) && (decide (0 ≤ j) && decide (j < 6) && (AC.isB ((t.cs)[1 + j.toNat * 1]?.getD (.b false)) && Nat.blt (1 + j.toNat * 1) (t.cs).length && (!(t.s).get j.toNat && true)))) = true) (c0 : pe (.c (.b (AC.asB ((t.cs)[1 + j.toNat * 1]?.getD (.b false))))) = pe (.c (.b ((t.s).get j.toNat)))) (lo : Kn.Low (rjRoundK t u b (IntKind.i64.wrap (j + 1)))) (hF : ∀ k, C.F k → k < 11) (z : AR 51 Tryz.f51 C 0 (rjRoundK t u b (IntKind.i64.wrap (j + 1))) R) :
  AR 51 Tryz.f51 C 0 (rjRoundK t u b j) R :=
 run_cut2 [true, false, false] ([true]) [(9, 3), (9, 8), (10, 3), (11, 4), (11, 8), (11, 12)] Tryz.func51 (by kernel_rfl) h (cr_same c0 cr_nil) lo hF z
theorem rjRound_all (hn : n ≤ 11)
  (l0 : ((t.s).get j.toNat) = true → ((u.s).get j.toNat) = true → (decide (j < 6)) = true ∧ (decide (0 ≤ j) && decide (j < 6)) = true ∧ (AC.isB ((t.cs)[1 + j.toNat * 1]?.getD (.b false)) && Nat.blt (1 + j.toNat * 1) (t.cs).length) = true ∧ (decide (0 ≤ j) && decide (j < 6)) = true ∧ (AC.isB ((u.cs)[1 + j.toNat * 1]?.getD (.b false)) && Nat.blt (1 + j.toNat * 1) (u.cs).length) = true ∧ (decide (0 ≤ j) && decide (j < 6)) = true ∧ (Nat.ble (1 + j.toNat * 1 + 1) (b.cs).length && true) = true ∧ (decide (0 ≤ j) && decide (j < 6)) = true ∧ (Nat.ble (7 + j.toNat * 4 + 4) (t.cs).length) = true ∧ (decide (0 ≤ j) && decide (j < 6)) = true ∧ (Nat.ble (7 + j.toNat * 4 + 4) (u.cs).length) = true ∧ (decide (0 ≤ j) && decide (j < 6)) = true ∧ (Nat.ble (7 + j.toNat * 4 + (a.cs).length) ((St.mk b.live ((b.s).set j.toNat true) b.r).cs).length && true) = true ∧ (pe (.c (.b (AC.asB ((t.cs)[1 + j.toNat * 1]?.getD (.b false))))) = pe (.c (.b ((t.s).get j.toNat)))) ∧ (pe (.c (.b (AC.asB ((u.cs)[1 + j.toNat * 1]?.getD (.b false))))) = pe (.c (.b ((u.s).get j.toNat)))) ∧ (we 10 ((b.cs).set (1 + j.toNat * 1) (.b true)) = we 10 ((St.mk b.live ((b.s).set j.toNat true) b.r).cs)) ∧ (pe (.ag (((t.cs).drop (7 + j.toNat * 4)).take 4)) = pe (.ag ((t.r).get j.toNat).cs)) ∧ (pe (.ag (((u.cs).drop (7 + j.toNat * 4)).take 4)) = pe (.ag ((u.r).get j.toNat).cs)) ∧ (Ok 89 [.ag ((t.r).get j.toNat).cs, .ag ((u.r).get j.toNat).cs] (.ag a.cs)) ∧ (we 10 (splice (St.mk b.live ((b.s).set j.toNat true) b.r).cs (7 + j.toNat * 4) a.cs) = we 10 ((St.wth b j.toNat a).cs)) ∧ Kn.Low ⟨[(2, .c (.w 0)), (3, .c (.w 1)), (4, .c (.w 2)), (5, .c (.w 10)), (6, .c (.i (IntKind.i64.wrap (j + 1))))], [(0, Ent.mk true t.cs 0), (1, Ent.mk true u.cs 0), (2, Ent.mk true St.z.cs 0), (10, Ent.mk true [.b b.live, .b ((b.s).set j.toNat true).x0, .b ((b.s).set j.toNat true).x1, .b ((b.s).set j.toNat true).x2, .b ((b.s).set j.toNat true).x3, .b ((b.s).set j.toNat true).x4, .b ((b.s).set j.toNat true).x5, .u (((b.r).set j.toNat a).x0).v, .u (((b.r).set j.toNat a).x0).m, .u (((b.r).set j.toNat a).x0).l, .u (((b.r).set j.toNat a).x0).h, .u (((b.r).set j.toNat a).x1).v, .u (((b.r).set j.toNat a).x1).m, .u (((b.r).set j.toNat a).x1).l, .u (((b.r).set j.toNat a).x1).h, .u (((b.r).set j.toNat a).x2).v, .u (((b.r).set j.toNat a).x2).m, .u (((b.r).set j.toNat a).x2).l, .u (((b.r).set j.toNat a).x2).h, .u (((b.r).set j.toNat a).x3).v, .u (((b.r).set j.toNat a).x3).m, .u (((b.r).set j.toNat a).x3).l, .u (((b.r).set j.toNat a).x3).h, .u (((b.r).set j.toNat a).x4).v, .u (((b.r).set j.toNat a).x4).m, .u (((b.r).set j.toNat a).x4).l, .u (((b.r).set j.toNat a).x4).h, .u (((b.r).set j.toNat a).x5).v, .u (((b.r).set j.toNat a).x5).m, .u (((b.r).set j.toNat a).x5).l, .u (((b.r).set j.toNat a).x5).h] 0)], 11⟩ ∧ AR 51 Tryz.f51 (cx w β n []) 0 ⟨[(2, .c (.w 0)), (3, .c (.w 1)), (4, .c (.w 2)), (5, .c (.w 10)), (6, .c (.i (IntKind.i64.wrap (j + 1))))], [(0, Ent.mk true t.cs 0), (1, Ent.mk true u.cs 0), (2, Ent.mk true St.z.cs 0), (10, Ent.mk true [.b b.live, .b ((b.s).set j.toNat true).x0, .b ((b.s).set j.toNat true).x1, .b ((b.s).set j.toNat true).x2, .b ((b.s).set j.toNat true).x3, .b ((b.s).set j.toNat true).x4, .b ((b.s).set j.toNat true).x5, .u (((b.r).set j.toNat a).x0).v, .u (((b.r).set j.toNat a).x0).m, .u (((b.r).set j.toNat a).x0).l, .u (((b.r).set j.toNat a).x0).h, .u (((b.r).set j.toNat a).x1).v, .u (((b.r).set j.toNat a).x1).m, .u (((b.r).set j.toNat a).x1).l, .u (((b.r).set j.toNat a).x1).h, .u (((b.r).set j.toNat a).x2).v, .u (((b.r).set j.toNat a).x2).m, .u (((b.r).set j.toNat a).x2).l, .u (((b.r).set j.toNat a).x2).h, .u (((b.r).set j.toNat a).x3).v, .u (((b.r).set j.toNat a).x3).m, .u (((b.r).set j.toNat a).x3).l, .u (((b.r).set j.toNat a).x3).h, .u (((b.r).set j.toNat a).x4).v, .u (((b.r).set j.toNat a).x4).m, .u (((b.r).set j.toNat a).x4).l, .u (((b.r).set j.toNat a).x4).h, .u (((b.r).set j.toNat a).x5).v, .u (((b.r).set j.toNat a).x5).m, .u (((b.r).set j.toNat a).x5).l, .u (((b.r).set j.toNat a).x5).h] 0)], 11⟩ (REff w β E))
  (l1 : ((t.s).get j.toNat) = true → ((u.s).get j.toNat) = false → (decide (j < 6)) = true ∧ (decide (0 ≤ j) && decide (j < 6)) = true ∧ (AC.isB ((t.cs)[1 + j.toNat * 1]?.getD (.b false)) && Nat.blt (1 + j.toNat * 1) (t.cs).length) = true ∧ (decide (0 ≤ j) && decide (j < 6)) = true ∧ (AC.isB ((u.cs)[1 + j.toNat * 1]?.getD (.b false)) && Nat.blt (1 + j.toNat * 1) (u.cs).length) = true ∧ (pe (.c (.b (AC.asB ((t.cs)[1 + j.toNat * 1]?.getD (.b false))))) = pe (.c (.b ((t.s).get j.toNat)))) ∧ (pe (.c (.b (AC.asB ((u.cs)[1 + j.toNat * 1]?.getD (.b false))))) = pe (.c (.b ((u.s).get j.toNat)))) ∧ Kn.Low (rjRoundK t u b (IntKind.i64.wrap (j + 1))) ∧ AR 51 Tryz.f51 (cx w β n []) 0 (rjRoundK t u b (IntKind.i64.wrap (j + 1))) (REff w β E))
  (l2 : ((t.s).get j.toNat) = false → (decide (j < 6)) = true ∧ (decide (0 ≤ j) && decide (j < 6)) = true ∧ (AC.isB ((t.cs)[1 + j.toNat * 1]?.getD (.b false)) && Nat.blt (1 + j.toNat * 1) (t.cs).length) = true ∧ (pe (.c (.b (AC.asB ((t.cs)[1 + j.toNat * 1]?.getD (.b false))))) = pe (.c (.b ((t.s).get j.toNat)))) ∧ Kn.Low (rjRoundK t u b (IntKind.i64.wrap (j + 1))) ∧ AR 51 Tryz.f51 (cx w β n []) 0 (rjRoundK t u b (IntKind.i64.wrap (j + 1))) (REff w β E)) :
  AR 51 Tryz.f51 (cx w β n []) 0 (rjRoundK t u b j) (REff w β E) :=
 (tf ((t.s).get j.toNat)).elim (fun h0 => (tf ((u.s).get j.toNat)).elim (fun h1 => (match l0 h0 h1 with | ⟨o0, o1, o2, o3, o4, o5, o6, o7, o8, o9, o10, o11, o12, c0, c1, c2, c3, c4, c5, c6, lo, z⟩ => rjRound_w0 (and_yes o0 (and_yes o1 (and_yes o2 (and_yes h0 (and_yes o3 (and_yes o4 (and_yes h1 (and_yes o5 (and_yes o6 (and_yes o7 (and_yes o8 (and_yes o9 (and_yes o10 (and_yes o11 (and_yes o12 rfl))))))))))))))) c0 c1 c2 c3 c4 c5 c6 lo (fun _ hk => Nat.lt_of_lt_of_le hk hn) z)) (fun h1 => (match l1 h0 h1 with | ⟨o0, o1, o2, o3, o4, c0, c1, lo, z⟩ => rjRound_w1 (and_yes o0 (and_yes o1 (and_yes o2 (and_yes h0 (and_yes o3 (and_yes o4 (and_yes (not_yes h1) rfl))))))) c0 c1 lo (fun _ hk => Nat.lt_of_lt_of_le hk hn) z))) (fun h0 => (match l2 h0 with | ⟨o0, o1, o2, c0, lo, z⟩ => rjRound_w2 (and_yes o0 (and_yes o1 (and_yes o2 (and_yes (not_yes h0) rfl)))) c0 lo (fun _ hk => Nat.lt_of_lt_of_le hk hn) z))
theorem rjEnd_w0 :
  AR 51 Tryz.f51 (cx w β n []) 0 (rjRoundK t u b 6) (REff w β ⟨.ag b.cs, [], none⟩) :=
 run_eff2 [] none [false] ([true]) [] Tryz.func51 (ekeys0 rfl n) (by kernel_rfl) rfl cr_nil
end
theorem refJoin_ok {a b : V4} (ha : a.ok = true) (hb : b.ok = true) : Ok 89 [.ag a.cs, .ag b.cs] (.ag (a.join b).cs) := by
 have h1 : Ok 125 [.ag [.u a.v, .u a.m], .ag [.u b.v, .u b.m]] (.ag [.u (jV a.v a.m b.v b.m), .u (jM a.v a.m b.v b.m)]) := by
  refine okc (A := #[Bt a.v a.m, Bt b.v b.m]) (V := Bt (jV a.v a.m b.v b.m) (jM a.v a.m b.v b.m)) (fun w => ?_) (fun _ => rfl) (fun _ => rfl) rfl
  have hj := joinBits_any a.v a.m b.v b.m w
  rw [(join_eq (both_rt (V4.rt_of ha) (V4.rt_of hb))).1, (join_eq (both_rt (V4.rt_of ha) (V4.rt_of hb))).2] at hj
  exact hj
 have hf := (join_facts ha hb).1
 have h2 := refNorm_ok (a := a.rawJoin b) ((rt_iff _ _).2 (join_rt a.v a.m b.v b.m))
 unfold V4.norm at h2
 rw [if_pos (show (a.rawJoin b).nok = true from hf)] at h2
 exact refJoinV_w0 h1 h2
theorem rbegin_ok : Ok 50 [] (.ag beginS.cs) := rbegin_w0 (a := V4.any) refAny_ok
abbrev rjKn (t u b : St) (j : Int) : Kn := ⟨[(2, .c (.w 0)), (3, .c (.w 1)), (4, .c (.w 2)), (5, .c (.w 10)), (6, .c (.i j))], [(0, ⟨true, t.cs, 0⟩), (1, ⟨true, u.cs, 0⟩), (2, ⟨true, St.z.cs, 0⟩), (10, ⟨true, b.cs, 0⟩)], 11⟩
theorem rjLoop {t u : St} (ht : t.Ok) (hu : u.Ok) {w : World} {β : Bs} : ∀ n, n ≤ 6 → ∀ b : St,
  ART Tryz.prog 51 (cx w β 0 []) Tryz.f51.ntmps (cutAt Tryz.f51 0) (rjKn t u b (6 - n : Nat)) (REff w β ⟨.ag (joinFrom t u n b).cs, [], none⟩)
 | 0, _, b => rjEnd_w0
 | n + 1, hn, b => by
  have hj := rnd_reg hn
  have ej := rnd_nat hn
  have hlt : 5 - n < 6 := by omega
  have f0 := lt_six hj
  have f1 := ss_ok t hj
  have f2 : (decide (0 ≤ ((6 - (n + 1) : Nat) : Int)) && decide (((6 - (n + 1) : Nat) : Int) < 6)) = true := hj
  have f3 := ss_ok u hj
  have f4 := sr_ok t hj
  have f5 := sr_ok u hj
  have f6 := ss_eff t hj
  have f7 := ss_eff u hj
  have f8 := sr_eff t hj
  have f9 := sr_eff u hj
  have next : ∀ b' : St, joinR t u (5 - n) b = b' → ART Tryz.prog 51 (cx w β 0 []) Tryz.f51.ntmps (cutAt Tryz.f51 0) (rjKn t u b' (IntKind.wrap IntKind.i64 (((6 - (n + 1) : Nat) : Int) + 1))) (REff w β ⟨.ag (joinFrom t u (n + 1) b).cs, [], none⟩) := by
   intro b' hb
   rw [rnd_next hn, joinFrom, hb]
   exact rjLoop ht hu n (by omega) b'
  have hJ : t.s.get ((6 - (n + 1) : Nat) : Int).toNat = true → u.s.get ((6 - (n + 1) : Nat) : Int).toNat = true → Ok 89 [.ag (t.r.get ((6 - (n + 1) : Nat) : Int).toNat).cs, .ag (u.r.get ((6 - (n + 1) : Nat) : Int).toNat).cs] (.ag ((t.r.get ((6 - (n + 1) : Nat) : Int).toNat).join (u.r.get ((6 - (n + 1) : Nat) : Int).toNat)).cs) := fun a d => by
   rw [ej] at a d ⊢
   exact refJoin_ok (ht.set _ hlt a) (hu.set _ hlt d)
  have g1 : (Nat.ble (1 + Int.toNat ((6 - (n + 1) : Nat) : Int) * 1 + 1) (List.length (St.cs b)) && true) = true :=
   reg_elim (P := fun j => (Nat.ble (1 + Int.toNat j * 1 + 1) (List.length (St.cs b)) && true) = true) hj rfl rfl rfl rfl rfl rfl
  have g2 : ∀ (b : St) (a : V4), (Nat.ble (7 + Int.toNat ((6 - (n + 1) : Nat) : Int) * 4 + List.length (V4.cs a)) (List.length (St.cs b)) && true) = true := fun b a =>
   reg_elim (P := fun j => (Nat.ble (7 + Int.toNat j * 4 + List.length (V4.cs a)) (List.length (St.cs b)) && true) = true) hj rfl rfl rfl rfl rfl rfl
  have g3 : Eff.mk (AV.raw undef) [(10, List.set (St.cs b) (1 + Int.toNat ((6 - (n + 1) : Nat) : Int) * 1) (AC.b true))] none = Eff.mk (AV.raw undef) [(10, St.cs (St.mk (St.live b) (V6.set (St.s b) (Int.toNat ((6 - (n + 1) : Nat) : Int)) true) (St.r b)))] none := by rw [st_set_s hj]
  have g4 : ∀ (b : St) (a : V4), Eff.mk (AV.raw undef) [(10, splice (St.cs (St.mk (St.live b) (V6.set (St.s b) (Int.toNat ((6 - (n + 1) : Nat) : Int)) true) (St.r b))) (7 + Int.toNat ((6 - (n + 1) : Nat) : Int) * 4) (V4.cs a))] none = Eff.mk (AV.raw undef) [(10, St.cs (St.wth b (Int.toNat ((6 - (n + 1) : Nat) : Int)) a))] none := fun b a => by rw [st_set_r a hj]; rfl
  refine rjRound_all (a := (t.r.get ((6 - (n + 1) : Nat) : Int).toNat).join (u.r.get ((6 - (n + 1) : Nat) : Int).toNat)) (by omega) (fun a d => ?_) (fun a d => ?_) (fun a => ?_)
  ·refine ⟨f0, f2, f1, f2, f3, f2, g1, f2, f4, f2, f5, f2, g2 _ _, f6, f7, g3, f8, f9, hJ a d, g4 _ _, low_of rfl, ?_⟩
   refine next (b.wth ((6 - (n + 1) : Nat) : Int).toNat ((t.r.get ((6 - (n + 1) : Nat) : Int).toNat).join (u.r.get ((6 - (n + 1) : Nat) : Int).toNat))) ?_
   rw [ej] at a d ⊢
   unfold joinR; rw [a, d]; rfl
  ·repeat' apply And.intro
   all_goals first | assumption | exact low_of rfl | exact next b (by rw [ej] at a d; unfold joinR; rw [a, d]; rfl)
  ·repeat' apply And.intro
   all_goals first | assumption | exact low_of rfl | exact next b (by rw [ej] at a; unfold joinR; rw [a]; rfl)
theorem refJoinS_ok {t u : St} (ht : t.Ok) (hu : u.Ok) : Ok 51 [.ag t.cs, .ag u.cs] (.ag (t.join u).cs) := by
 refine val_of Tryz.func51 rfl rfl rfl rfl fun w β => ?_
 unfold St.join
 refine rjTop_all (Nat.zero_le 11) (fun a => ?_) (fun a b => ?_) (fun a b => ⟨low_of rfl, ?_⟩)
 ·rw [if_neg (by simpa using a)]
 ·rw [if_pos (by simpa using a), if_neg (by simpa using b)]
 ·rw [if_pos (by simpa using a), if_pos (by simpa using b)]
  exact rjLoop ht hu 6 (Nat.le_refl 6) St.e
end Go.Proofs.YtkigmocchaikgabGreat
