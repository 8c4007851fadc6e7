import Derived.Test.YtkigmocchaikgabGreatGz8
import Derived.Test.YtkigmocchaikgabGreatGz7
import Derived.Test.YtkigmocchaikgabGreatGz2
import Derived.Test.YtkigmocchaikgabGreatProg
import Derived.Test.YtkigmocchaikgabGreatGz4
import Derived.Test.YtkigmocchaikgabGreatGz6
/- The contracts of the reference's CheckState, BeginOf and JoinStates. -/
namespace Go.Proofs.YtkigmocchaikgabGreat
open Go.RowKit

theorem refJoin_ok {a b : V4} (ha : a.ok = true) (hb : b.ok = true) : Ok 89 [.ag a.cs, .ag b.cs] (.ag (a.join b).cs) := by
  have h1 : Ok 125 [.ag [.u a.v, .u a.m], .ag [.u b.v, .u b.m]] (.ag [.u (jV a.v a.m b.v b.m), .u (jM a.v a.m b.v b.m)]) := by
    refine okc (A := #[Bt a.v a.m, Bt b.v b.m]) (V := Bt (jV a.v a.m b.v b.m) (jM a.v a.m b.v b.m)) (fun w => ?_) (fun _ => rfl) (fun _ => rfl) rfl
    have hj := joinBits_any a.v a.m b.v b.m w
    rw [(join_eq (both_rt (V4.rt_of ha) (V4.rt_of hb))).1, (join_eq (both_rt (V4.rt_of ha) (V4.rt_of hb))).2] at hj
    exact hj
  have hf := (join_facts ha hb).1
  have h2 := refNorm_ok (a := a.rawJoin b) ((rt_iff _ _).2 (join_rt a.v a.m b.v b.m))
  unfold V4.norm at h2
  rw [if_pos (show (a.rawJoin b).nok = true from hf)] at h2
  exact refJoinV_w0 h1 h2
theorem rbegin_ok : Ok 50 [] (.ag beginS.cs) := rbegin_w0 (a := V4.any) refAny_ok
abbrev rcsKn (t : St) (j : Int) : Kn := ⟨[(1, .c (.w 0)), (3, .c (.i j))], [(0, ⟨true, t.cs, 0⟩)], 1⟩
theorem rcsLoop {t : St} {w : World} {β : Bs} {E : Eff} : ∀ n, n ≤ 6 → (anyFrom (badR t) n = true → ⟨.c (.i 1), [], none⟩ = E) → (anyFrom (badR t) n = false → ⟨.c (.i 0), [], none⟩ = E) →
    ART Tryz.prog 9 (cx w β 0 []) Tryz.f9.ntmps (cutAt Tryz.f9 0) (rcsKn t (6 - n : Nat)) (REff w β E)
  | 0, _, _, hz => art_eq rcsEnd_w0 (hz rfl)
  | n + 1, hn, hy, hz => by
    have hj := rnd_reg hn
    have ej := rnd_nat hn
    have f0 := lt_six hj
    have f1 := ss_ok t hj
    have f2 : (decide (0 ≤ ((6 - (n + 1) : Nat) : Int)) && decide (((6 - (n + 1) : Nat) : Int) < 6)) = true := hj
    have f3 := sr_ok t hj
    have f4 := ss_eff t hj
    have f5 := sr_eff t hj
    have yes : badR t ((6 - (n + 1) : Nat) : Int).toNat = true → (⟨.c (.i 1), [], none⟩ : Eff) = E := fun h => hy (by rw [ej] at h; rw [anyFrom, h]; rfl)
    have next : badR t ((6 - (n + 1) : Nat) : Int).toNat = false → ART Tryz.prog 9 (cx w β 0 []) Tryz.f9.ntmps (cutAt Tryz.f9 0) (rcsKn t (IntKind.wrap IntKind.i64 (((6 - (n + 1) : Nat) : Int) + 1))) (REff w β E) := by
      intro hb
      rw [ej] at hb
      rw [rnd_next hn]
      refine rcsLoop n (by omega) (fun h => hy ?_) (fun h => hz ?_)
      · rw [anyFrom, hb, h]; rfl
      · rw [anyFrom, hb, h]; rfl
    refine rcsRound_all (by omega) (fun a b => ?_) (fun a b => ?_) (fun a b => ?_) (fun a b => ?_)
    all_goals (repeat' apply And.intro)
    all_goals first | assumption | exact low_of rfl | exact refRight_ok _ | exact yes (by unfold badR; rw [a]; exact b) | exact next (by unfold badR; rw [a]; exact b) | (rw [a]; rfl)
theorem refCheck_ok (t : St) : Ok 9 [.ag t.cs] (.c (.i (er t.ok))) := by
  refine val_of Tryz.func9 rfl rfl rfl rfl fun w β => ?_
  have main : (t.live || eqCs t.cs St.z.cs) = true → ART Tryz.prog 9 (cx w β 0 []) Tryz.f9.ntmps (cutAt Tryz.f9 0) (rcsKn t 0) (REff w β ⟨.c (.i (er t.ok)), [], none⟩) := by
    intro h
    refine rcsLoop 6 (Nat.le_refl 6) (fun k => ?_) (fun k => ?_)
    · unfold St.ok; rw [h, k]; rfl
    · unfold St.ok; rw [h, k]; rfl
  refine rcsTop_all (Nat.zero_le 1) (fun a b => ?_) (fun a b => ⟨low_of rfl, main ?_⟩) (fun a => ⟨low_of rfl, main ?_⟩)
  · have h : (t.live || eqCs t.cs St.z.cs) = false := by
      revert a b
      cases t.live <;> cases eqCs t.cs St.z.cs <;> decide
    unfold St.ok; rw [h]; rfl
  · rw [yes_not b]; cases t.live <;> rfl
  · rw [yes_not a]; rfl
abbrev rjKn (t u b : St) (j : Int) : Kn := ⟨[(2, .c (.w 0)), (3, .c (.w 1)), (4, .c (.w 2)), (5, .c (.w 10)), (6, .c (.i j))], [(0, ⟨true, t.cs, 0⟩), (1, ⟨true, u.cs, 0⟩), (2, ⟨true, St.z.cs, 0⟩), (10, ⟨true, b.cs, 0⟩)], 11⟩
theorem rjLoop {t u : St} (ht : t.Ok) (hu : u.Ok) {w : World} {β : Bs} : ∀ n, n ≤ 6 → ∀ b : St,
    ART Tryz.prog 51 (cx w β 0 []) Tryz.f51.ntmps (cutAt Tryz.f51 0) (rjKn t u b (6 - n : Nat)) (REff w β ⟨.ag (joinFrom t u n b).cs, [], none⟩)
  | 0, _, b => rjEnd_w0
  | n + 1, hn, b => by
    have hj := rnd_reg hn
    have ej := rnd_nat hn
    have hlt : 5 - n < 6 := by omega
    have f0 := lt_six hj
    have f1 := ss_ok t hj
    have f2 : (decide (0 ≤ ((6 - (n + 1) : Nat) : Int)) && decide (((6 - (n + 1) : Nat) : Int) < 6)) = true := hj
    have f3 := ss_ok u hj
    have f4 := sr_ok t hj
    have f5 := sr_ok u hj
    have f6 := ss_eff t hj
    have f7 := ss_eff u hj
    have f8 := sr_eff t hj
    have f9 := sr_eff u hj
    have next : ∀ b' : St, joinR t u (5 - n) b = b' → ART Tryz.prog 51 (cx w β 0 []) Tryz.f51.ntmps (cutAt Tryz.f51 0) (rjKn t u b' (IntKind.wrap IntKind.i64 (((6 - (n + 1) : Nat) : Int) + 1))) (REff w β ⟨.ag (joinFrom t u (n + 1) b).cs, [], none⟩) := by
      intro b' hb
      rw [rnd_next hn, joinFrom, hb]
      exact rjLoop ht hu n (by omega) b'
    have hJ : t.s.get ((6 - (n + 1) : Nat) : Int).toNat = true → u.s.get ((6 - (n + 1) : Nat) : Int).toNat = true → Ok 89 [.ag (t.r.get ((6 - (n + 1) : Nat) : Int).toNat).cs, .ag (u.r.get ((6 - (n + 1) : Nat) : Int).toNat).cs] (.ag ((t.r.get ((6 - (n + 1) : Nat) : Int).toNat).join (u.r.get ((6 - (n + 1) : Nat) : Int).toNat)).cs) := fun a d => by
      rw [ej] at a d ⊢
      exact refJoin_ok (ht.set _ hlt a) (hu.set _ hlt d)
    have g1 : (Nat.ble (1 + Int.toNat ((6 - (n + 1) : Nat) : Int) * 1 + 1) (List.length (St.cs b)) && true) = true :=
      reg_elim (P := fun j => (Nat.ble (1 + Int.toNat j * 1 + 1) (List.length (St.cs b)) && true) = true) hj rfl rfl rfl rfl rfl rfl
    have g2 : ∀ (b : St) (a : V4), (Nat.ble (7 + Int.toNat ((6 - (n + 1) : Nat) : Int) * 4 + List.length (V4.cs a)) (List.length (St.cs b)) && true) = true := fun b a =>
      reg_elim (P := fun j => (Nat.ble (7 + Int.toNat j * 4 + List.length (V4.cs a)) (List.length (St.cs b)) && true) = true) hj rfl rfl rfl rfl rfl rfl
    have g3 : Eff.mk (AV.raw undef) [(10, List.set (St.cs b) (1 + Int.toNat ((6 - (n + 1) : Nat) : Int) * 1) (AC.b true))] none = Eff.mk (AV.raw undef) [(10, St.cs (St.mk (St.live b) (V6.set (St.s b) (Int.toNat ((6 - (n + 1) : Nat) : Int)) true) (St.r b)))] none := by rw [st_set_s hj]
    have g4 : ∀ (b : St) (a : V4), Eff.mk (AV.raw undef) [(10, splice (St.cs (St.mk (St.live b) (V6.set (St.s b) (Int.toNat ((6 - (n + 1) : Nat) : Int)) true) (St.r b))) (7 + Int.toNat ((6 - (n + 1) : Nat) : Int) * 4) (V4.cs a))] none = Eff.mk (AV.raw undef) [(10, St.cs (St.wth b (Int.toNat ((6 - (n + 1) : Nat) : Int)) a))] none := fun b a => by rw [st_set_r a hj]; rfl
    refine rjRound_all (a := (t.r.get ((6 - (n + 1) : Nat) : Int).toNat).join (u.r.get ((6 - (n + 1) : Nat) : Int).toNat)) (by omega) (fun a d => ?_) (fun a d => ?_) (fun a => ?_)
    · refine ⟨f0, f2, f1, f2, f3, f2, g1, f2, f4, f2, f5, f2, g2 _ _, f6, f7, g3, f8, f9, hJ a d, g4 _ _, low_of rfl, ?_⟩
      refine next (b.wth ((6 - (n + 1) : Nat) : Int).toNat ((t.r.get ((6 - (n + 1) : Nat) : Int).toNat).join (u.r.get ((6 - (n + 1) : Nat) : Int).toNat))) ?_
      rw [ej] at a d ⊢
      unfold joinR; rw [a, d]; rfl
    · repeat' apply And.intro
      all_goals first | assumption | exact low_of rfl | exact next b (by rw [ej] at a d; unfold joinR; rw [a, d]; rfl)
    · repeat' apply And.intro
      all_goals first | assumption | exact low_of rfl | exact next b (by rw [ej] at a; unfold joinR; rw [a]; rfl)
theorem refJoinS_ok {t u : St} (ht : t.Ok) (hu : u.Ok) : Ok 51 [.ag t.cs, .ag u.cs] (.ag (t.join u).cs) := by
  refine val_of Tryz.func51 rfl rfl rfl rfl fun w β => ?_
  unfold St.join
  refine rjTop_all (Nat.zero_le 11) (fun a => ?_) (fun a b => ?_) (fun a b => ⟨low_of rfl, ?_⟩)
  · rw [if_neg (by simpa using a)]
  · rw [if_pos (by simpa using a), if_neg (by simpa using b)]
  · rw [if_pos (by simpa using a), if_pos (by simpa using b)]
    exact rjLoop ht hu 6 (Nat.le_refl 6) St.e
end Go.Proofs.YtkigmocchaikgabGreat

/- Ways of bodies, written by a program (ways.py): what each asks for, and hands back. -/
namespace Go.Proofs.YtkigmocchaikgabGreat
open Go.RowKit

theorem flowBegun_w0 {s : St} {a : St} {b : St} {c : St} {d : St} {e : St} {f : St} {j : St} (h : (St.live a && (eqb (V4.l (V6.x1 (St.r a))) 64#64 && (St.live b && (eqb (V4.h (V6.x1 (St.r b))) 63#64 && (eqCs (St.cs j) (St.cs s) && true))))) = true) (c0 : CallOK Tryz.prog (CallRec.mk 33 [] [] (Eff.mk (AV.ag (St.cs s)) [] none))) (c1 : CallOK Tryz.prog (CallRec.mk 34 [] [] (Eff.mk (AV.c (AC.sl 4 0 6 6)) [] (some (4, Ent.mk true (pcell gL) 0))))) (c2 : CallOK Tryz.prog (CallRec.mk 7 [AV.ag [AC.i 14, AC.i 1, AC.i (-1), AC.u 64#64, AC.i 1], AV.ag (St.cs s)] [] (Eff.mk (AV.tu [AT.ag (St.cs a), AT.ag (St.cs b), AT.c (AC.i 0), AT.c (AC.i 0)]) [] none))) (c3 : CallOK Tryz.prog (CallRec.mk 34 [] [] (Eff.mk (AV.c (AC.sl 20 0 6 6)) [] (some (20, Ent.mk true (pcell gL) 0))))) (c4 : CallOK Tryz.prog (CallRec.mk 7 [AV.ag [AC.i 10, AC.i 0, AC.i 1, AC.u 1#64, AC.i 0], AV.ag (St.cs s)] [] (Eff.mk (AV.tu [AT.ag (St.cs c), AT.ag (St.cs d), AT.c (AC.i 2), AT.c (AC.i 0)]) [] none))) (c5 : CallOK Tryz.prog (CallRec.mk 34 [] [] (Eff.mk (AV.c (AC.sl 36 0 6 6)) [] (some (36, Ent.mk true (pcell gL) 0))))) (c6 : CallOK Tryz.prog (CallRec.mk 7 [AV.ag [AC.i 2, AC.i 0, AC.i (-1), AC.u 1#64, AC.i 0], AV.ag (St.cs s)] [] (Eff.mk (AV.tu [AT.ag (St.cs e), AT.ag (St.cs f), AT.c (AC.i 1), AT.c (AC.i 0)]) [] none))) (c7 : CallOK Tryz.prog (CallRec.mk 35 [AV.ag (St.cs a), AV.ag (St.cs b)] [] (Eff.mk (AV.tu [AT.ag (St.cs j), AT.c (AC.i 0)]) [] none))) (c8 : CallOK Tryz.prog (CallRec.mk 26 [AV.ag (St.cs s)] [] (Eff.mk (AV.c (AC.i 0)) [] none))) :
    CallOK Tryz.prog ⟨10, [], [], ⟨AV.c (AC.b true), [], none⟩⟩ :=
  val_run 2000 [Eff.mk (AV.ag (St.cs s)) [] none, Eff.mk (AV.c (AC.sl 4 0 6 6)) [] (some (4, Ent.mk true (pcell gL) 0)), Eff.mk (AV.tu [AT.ag (St.cs a), AT.ag (St.cs b), AT.c (AC.i 0), AT.c (AC.i 0)]) [] none, Eff.mk (AV.c (AC.sl 20 0 6 6)) [] (some (20, Ent.mk true (pcell gL) 0)), Eff.mk (AV.tu [AT.ag (St.cs c), AT.ag (St.cs d), AT.c (AC.i 2), AT.c (AC.i 0)]) [] none, Eff.mk (AV.c (AC.sl 36 0 6 6)) [] (some (36, Ent.mk true (pcell gL) 0)), Eff.mk (AV.tu [AT.ag (St.cs e), AT.ag (St.cs f), AT.c (AC.i 1), AT.c (AC.i 0)]) [] none, Eff.mk (AV.tu [AT.ag (St.cs j), AT.c (AC.i 0)]) [] none, Eff.mk (AV.c (AC.i 0)) [] none] [true, true, true, true, true, true, true, true, true, true, true, true] ([]) [] Tryz.func10 rfl rfl rfl rfl (by kernel_rfl) h (cr_cons c0 (cr_cons c1 (cr_cons c2 (cr_cons c3 (cr_cons c4 (cr_cons c5 (cr_cons c6 (cr_cons c7 (cr_cons c8 cr_nil)))))))))
end Go.Proofs.YtkigmocchaikgabGreat

/- The contract of flowBegun. -/
namespace Go.Proofs.YtkigmocchaikgabGreat
open Go.RowKit

theorem flowBegun_ok : Ok 10 [] (.c (.b true)) := by
  have s1 := fstep_ok ⟨14, 1, -1, 64#64, 1⟩ beginS
  have s2 := fstep_ok ⟨10, 0, 1, 1#64, 0⟩ beginS
  have s3 := fstep_ok ⟨2, 0, -1, 1#64, 0⟩ beginS
  have j1 := fjoin_ok (stepA ⟨14, 1, -1, 64#64, 1⟩ beginS).1 (stepA ⟨14, 1, -1, 64#64, 1⟩ beginS).2.1
  have k1 := fcheck_ok beginS
  rw [show (stepA ⟨14, 1, -1, 64#64, 1⟩ beginS).2.2 = 0 by kernel_rfl, show stepE ⟨14, 1, -1, 64#64, 1⟩ beginS = 0 by kernel_rfl] at s1
  rw [show (stepA ⟨10, 0, 1, 1#64, 0⟩ beginS).2.2 = 2 by kernel_rfl, show stepE ⟨10, 0, 1, 1#64, 0⟩ beginS = 0 by kernel_rfl] at s2
  rw [show (stepA ⟨2, 0, -1, 1#64, 0⟩ beginS).2.2 = 1 by kernel_rfl, show stepE ⟨2, 0, -1, 1#64, 0⟩ beginS = 0 by kernel_rfl] at s3
  rw [show joinE (stepA ⟨14, 1, -1, 64#64, 1⟩ beginS).1 (stepA ⟨14, 1, -1, 64#64, 1⟩ beginS).2.1 = 0 by kernel_rfl] at j1
  rw [show er beginS.ok = 0 by kernel_rfl] at k1
  exact flowBegun_w0 (by kernel_rfl) fbegin_ok (guarded_ok 4) s1 (guarded_ok 20) s2 (guarded_ok 36) s3 j1 k1
end Go.Proofs.YtkigmocchaikgabGreat

/- The law FlowSteps, as a contract. -/
namespace Go.Proofs.YtkigmocchaikgabGreat
open Go.RowKit

theorem pC_u (x : BitVec 64) : eqC (.u x) (.u x) = true := by simp [eqC, eqb]
theorem pC_b (x : Bool) : eqC (.b x) (.b x) = true := by simp [eqC]
theorem pCs_cons {a : AC} {l : List AC} (h : eqC a a = true) (k : eqCs l l = true) : eqCs (a :: l) (a :: l) = true := by rw [eqCs, h, k]; rfl
theorem peq_v4 (a : V4) {l : List AC} (h : eqCs l l = true) : eqCs (.u a.v :: .u a.m :: .u a.l :: .u a.h :: l) (.u a.v :: .u a.m :: .u a.l :: .u a.h :: l) = true := pCs_cons (pC_u _) (pCs_cons (pC_u _) (pCs_cons (pC_u _) (pCs_cons (pC_u _) h)))
theorem peq_st (t : St) : eqCs t.cs t.cs = true :=
  pCs_cons (pC_b _) (pCs_cons (pC_b _) (pCs_cons (pC_b _) (pCs_cons (pC_b _) (pCs_cons (pC_b _) (pCs_cons (pC_b _) (pCs_cons (pC_b _) (peq_v4 _ (peq_v4 _ (peq_v4 _ (peq_v4 _ (peq_v4 _ (peq_v4 _ rfl))))))))))))
theorem flowSteps_ok (i : Ins) (t : St) : Ok 3 [.ag i.cs, .ag t.cs] (.c (.b true)) := by
  have hb := flowBegun_ok
  have hs := fstep_ok i t
  have hf := rfine_ok i
  have hc := refCheck_ok t
  unfold stepA stepE at hs
  by_cases h : (fineI i && t.ok) = true
  · have h' := h
    rw [Bool.and_eq_true] at h'
    rw [if_pos h, if_pos h] at hs
    rw [h'.1] at hf
    rw [h'.2] at hc
    refine ok_eq (fpC_w0 (and_yes (peq_st _) (and_yes (peq_st _) rfl)) hs hf hc (stepState_ok (fine_right.1 h'.1) (St.ok_iff.1 h'.2)) hb) ?_
    simp
  · rw [if_neg h, if_neg h] at hs
    cases h1 : fineI i with
    | false => rw [h1] at hf; exact fpA_w0 hs hf hb
    | true =>
      have h2 : t.ok = false := by rw [h1] at h; simpa using h
      rw [h1] at hf
      rw [h2] at hc
      exact fpB_w0 hs hf hc hb
end Go.Proofs.YtkigmocchaikgabGreat
