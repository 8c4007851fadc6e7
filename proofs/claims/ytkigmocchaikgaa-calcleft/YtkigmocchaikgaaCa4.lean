import Derived.Test.YtkigmocchaikgaaCa3
import Derived.Test.YtkigmocchaikgaaCa1
import Derived.Test.YtkigmocchaikgaaCa2
import Derived.Test.YtkigmocchaikgaaProg
import Derived.BigRegion
import Derived.Deep.CutBlock
import Derived.Deep.DeepCutAuto
import Derived.Deep.RegionHeld3
/- What the one has and the other has, reckoned together, is within what reckon answers; what is left of both has them: plain facts. -/
namespace Go.Proofs.Ytkigmocchaikgaa

theorem has_facts {v m l h x : BitVec 64} (hx : hasV v m l h x = true) : valB v m l h = true ∧ RtB v m ∧ hasB v m x = true ∧ nv l ≤ nv x ∧ nv x ≤ nv h := by
  unfold hasV at hx
  simp only [Bool.and_eq_true, decide_eq_true_eq] at hx
  exact ⟨hx.1, (val_facts hx.1).1, hx.2.1, hx.2.2.1, hx.2.2.2⟩
theorem raw_mk {v m l h x : BitVec 64} (h1 : hasB v m x = true) (h2 : nv l ≤ nv x) (h3 : nv x ≤ nv h) : rawV v m l h x = true := by
  unfold rawV; rw [h1]; simp only [Bool.true_and, Bool.and_eq_true, decide_eq_true_eq]; exact ⟨h2, h3⟩
theorem top_has (x : BitVec 64) : RtB zero top ∧ hasB zero top x = true := by
  have hr : RtB zero top := zero_rt top
  refine ⟨hr, (hasB_iff _ _ _).2 ⟨hr, fun j hj => ?_⟩⟩
  rw [bit_top _ hj, bit_zero]; cases bit x j <;> rfl
theorem rk_sound {op : Int} (hop : 2 ≤ op ∧ op ≤ 9) {v m l h v' m' l' h' x y : BitVec 64} (hx : hasV v m l h x = true) (hy : hasV v' m' l' h' y = true) :
    RtB (rk op v m l h v' m' l' h').1 (rk op v m l h v' m' l' h').2.1 ∧ rawV (rk op v m l h v' m' l' h').1 (rk op v m l h v' m' l' h').2.1 (rk op v m l h v' m' l' h').2.2.1 (rk op v m l h v' m' l' h').2.2.2 (numN op x y) = true := by
  obtain ⟨_, r1, b1, p1, p2⟩ := has_facts hx
  obtain ⟨_, r2, b2, q1, q2⟩ := has_facts hy
  by_cases h8 : op = 8
  · subst h8
    have hn : numN 8 x y = bshl x (six y) := by unfold numN; rw [if_neg (by decide), if_neg (by decide), if_pos rfl]
    rw [hn]
    cases ha : eqb l' h'
    · have e : rk 8 v m l h v' m' l' h' = (zero, top, zero, top) := by unfold rk; rw [if_pos rfl, ha]; rfl
      rw [e]
      exact ⟨(top_has zero).1, raw_mk (top_has _).2 (ends _).1 (ends _).2⟩
    · have e : rk 8 v m l h v' m' l' h' = (bshl v (six l'), bshl m (six l'), (shlB l h (six l')).1, (shlB l h (six l')).2) := by unfold rk; rw [if_pos rfl, ha]; rfl
      have hl : y = l' := by
        have := (eqb_iff _ _).1 ha
        rw [← this] at q2
        exact nv_inj _ _ (by omega)
      rw [e, hl]
      exact ⟨shl_rt r1 _, raw_mk (sound_shl b1 _) (shl_bounds _ p1 p2).1 (shl_bounds _ p1 p2).2⟩
  · by_cases h9 : op = 9
    · subst h9
      have hn : numN 9 x y = bshr x (six y) := by unfold numN; rw [if_neg (by decide), if_neg (by decide), if_neg (by decide)]
      rw [hn]
      cases ha : eqb l' h'
      · have e : rk 9 v m l h v' m' l' h' = (zero, top, zero, h) := by unfold rk; rw [if_neg (by decide), if_pos rfl, ha]; rfl
        rw [e]
        exact ⟨(top_has zero).1, raw_mk (top_has _).2 (ends _).1 (Int.le_trans (shr_le _ _) p2)⟩
      · have e : rk 9 v m l h v' m' l' h' = (bshr v (six l'), bshr m (six l'), bshr l (six l'), bshr h (six l')) := by unfold rk; rw [if_neg (by decide), if_pos rfl, ha]; rfl
        have hl : y = l' := by
          have := (eqb_iff _ _).1 ha
          rw [← this] at q2
          exact nv_inj _ _ (by omega)
        rw [e, hl]
        have hs := sound_shr b1 (six l')
        exact ⟨((hasB_iff _ _ _).1 hs).1, raw_mk hs (shr_bounds _ p1 p2).1 (shr_bounds _ p1 p2).2⟩
    · have h27 : 2 ≤ op ∧ op ≤ 7 := by omega
      have hn : numN op x y = numB op x y := by unfold numN; rw [if_neg (by omega), if_pos h27]
      have e : rk op v m l h v' m' l' h' = ((twoP op v m v' m').1, (twoP op v m v' m').2, (boundsP op l h l' h').1, (boundsP op l h l' h').2) := by
        unfold rk; rw [if_neg h8, if_neg h9]
      rw [hn, e]
      exact ⟨two_rt h27, raw_mk (sound_two h27 b1 b2) (bounds_sound h27 p1 p2 q1 q2).1 (bounds_sound h27 p1 p2 q1 q2).2⟩

/- Equal -/
/- Other -/
/- Less -/
/- NotLess -/
end Go.Proofs.Ytkigmocchaikgaa

/- Values and reckoning with them, as plain functions. -/
namespace Go.Proofs.Ytkigmocchaikgaa

structure V4 where
  v : BitVec 64
  m : BitVec 64
  l : BitVec 64
  h : BitVec 64
theorem V4.ext' {a b : V4} (h1 : a.v = b.v) (h2 : a.m = b.m) (h3 : a.l = b.l) (h4 : a.h = b.h) : a = b := by cases a; cases b; simp_all
def V4.cs (a : V4) : List AC := [.u a.v, .u a.m, .u a.l, .u a.h]
def V4.z : V4 := ⟨zero, zero, zero, zero⟩
def V4.rt (a : V4) : Bool := eqb (band a.v a.m) zero
def V4.ok (a : V4) : Bool := valB a.v a.m a.l a.h
def V4.nok (a : V4) : Bool := normOk a.v a.m a.l a.h
def V4.nrm (a : V4) : V4 := ⟨nV a.v a.m a.l a.h, nM a.m (nLo a.v a.m a.l) (nHi a.v a.m a.h), nLo a.v a.m a.l, nHi a.v a.m a.h⟩
def V4.norm (a : V4) : V4 := if a.nok then a.nrm else V4.z
def V4.has (a : V4) (x : BitVec 64) : Bool := hasV a.v a.m a.l a.h x
def V4.of (x : BitVec 64) : V4 := ⟨x, zero, x, x⟩
def V4.any : V4 := ⟨zero, top, zero, top⟩
def V4.alone (a : V4) : Bool := eqb a.l a.h
def V4.raw2 (op : Int) (a b : V4) : V4 :=
  ⟨(rk op a.v a.m a.l a.h b.v b.m b.l b.h).1, (rk op a.v a.m a.l a.h b.v b.m b.l b.h).2.1, (rk op a.v a.m a.l a.h b.v b.m b.l b.h).2.2.1, (rk op a.v a.m a.l a.h b.v b.m b.l b.h).2.2.2⟩
def V4.two (op : Int) (a b : V4) : V4 := (V4.raw2 op a b).norm
def lvV (p : Bool) (a : V4) : V4 := if p then a else V4.z
def left2 (may : Bool) (x y : V4) : V4 × V4 × Bool := (lvV (may && (x.nok && y.nok)) x.nrm, lvV (may && (x.nok && y.nok)) y.nrm, may && (x.nok && y.nok))
def V4.meets (a b : V4) : Bool := eqb (bandn (bxor a.v b.v) (bor a.m b.m)) zero
def V4.rawEqual (a b : V4) : V4 := ⟨bor a.v b.v, band a.m b.m, bmax a.l b.l, bmin a.h b.h⟩
def V4.equal (a b : V4) : V4 × V4 × Bool := if a.meets b then left2 true (a.rawEqual b) (a.rawEqual b) else (V4.z, V4.z, false)
def V4.without (a b : V4) : V4 := ⟨a.v, a.m, woL a.l b.l b.h, woH a.l a.h b.l b.h⟩
def V4.other (a b : V4) : V4 × V4 × Bool := left2 (!(a.alone && (b.alone && eqb a.l b.l))) (a.without b) (b.without a)
def V4.less (a b : V4) : V4 × V4 × Bool :=
  if eqb b.h zero || eqb a.l top then (V4.z, V4.z, false)
  else left2 true ⟨a.v, a.m, a.l, bmin a.h (bsub b.h one)⟩ ⟨b.v, b.m, bmax b.l (badd a.l one), b.h⟩
def V4.notLess (a b : V4) : V4 × V4 × Bool := left2 true ⟨a.v, a.m, bmax a.l b.l, a.h⟩ ⟨b.v, b.m, b.l, bmin b.h a.h⟩
def byteTop (n : Int) : BitVec 64 := if n = 8 then top else if n = 4 then 4294967295#64 else if n = 2 then 65535#64 else 255#64
def V4.bytes (n : Int) : V4 := ⟨zero, byteTop n, zero, byteTop n⟩

theorem bmax_self (x : BitVec 64) : bmax x x = x := by unfold bmax; split <;> rfl
theorem bmin_self (x : BitVec 64) : bmin x x = x := by unfold bmin; split <;> rfl
end Go.Proofs.Ytkigmocchaikgaa

/- Ways of bodies, written by a program (ways.py): what each asks for, and hands back. -/
namespace Go.Proofs.Ytkigmocchaikgaa
open Go.RowKit

theorem refAlone_w0 {a : V4} :
    CallOK Try.prog ⟨90, [AV.ag (V4.cs a)], [], ⟨AV.c (AC.b (eqb (V4.l a) (V4.h a))), [], none⟩⟩ :=
  val_run 2000 [] [] ([]) [] Try.func90 rfl rfl rfl rfl (by kernel_rfl) rfl cr_nil
theorem refBoth_w0 {a : V4} {b : V4} {i1 : Bool} {i2 : Bool} (h : (!i1 && true) = true) :
    CallOK Try.prog ⟨99, [AV.ag (V4.cs a), AV.c (AC.b i1), AV.ag (V4.cs b), AV.c (AC.b i2)], [], ⟨AV.tu [AT.ag [AC.u 0#64, AC.u 0#64, AC.u 0#64, AC.u 0#64], AT.ag [AC.u 0#64, AC.u 0#64, AC.u 0#64, AC.u 0#64], AT.c (AC.b false)], [], none⟩⟩ :=
  val_run 2000 [] [true, true] ([]) [] Try.func99 rfl rfl rfl rfl (by kernel_rfl) h cr_nil
theorem refBoth_w1 {a : V4} {b : V4} {i1 : Bool} {i2 : Bool} (h : (!!i1 && (!i2 && true)) = true) :
    CallOK Try.prog ⟨99, [AV.ag (V4.cs a), AV.c (AC.b i1), AV.ag (V4.cs b), AV.c (AC.b i2)], [], ⟨AV.tu [AT.ag [AC.u 0#64, AC.u 0#64, AC.u 0#64, AC.u 0#64], AT.ag [AC.u 0#64, AC.u 0#64, AC.u 0#64, AC.u 0#64], AT.c (AC.b false)], [], none⟩⟩ :=
  val_run 2000 [] [false, true] ([]) [] Try.func99 rfl rfl rfl rfl (by kernel_rfl) h cr_nil
theorem refBoth_w2 {a : V4} {b : V4} {i1 : Bool} {i2 : Bool} (h : (!!i1 && (!!i2 && true)) = true) :
    CallOK Try.prog ⟨99, [AV.ag (V4.cs a), AV.c (AC.b i1), AV.ag (V4.cs b), AV.c (AC.b i2)], [], ⟨AV.tu [AT.ag (V4.cs a), AT.ag (V4.cs b), AT.c (AC.b true)], [], none⟩⟩ :=
  val_run 2000 [] [false, false] ([]) [] Try.func99 rfl rfl rfl rfl (by kernel_rfl) h cr_nil
theorem refRid_w0 {a : V4} {x : BitVec 64} {al : Bool} (h : (al && (eqb (V4.l a) x && true)) = true) (c0 : CallOK Try.prog (CallRec.mk 90 [AV.ag (V4.cs a)] [] (Eff.mk (AV.c (AC.b al)) [] none))) :
    CallOK Try.prog ⟨100, [AV.ag (V4.cs a), AV.c (AC.u x)], [], ⟨AV.tu [AT.ag [AC.u 0#64, AC.u 0#64, AC.u 0#64, AC.u 0#64], AT.c (AC.b false)], [], none⟩⟩ :=
  val_run 2000 [Eff.mk (AV.c (AC.b al)) [] none] [true, true] ([]) [] Try.func100 rfl rfl rfl rfl (by kernel_rfl) h (cr_cons c0 cr_nil)
theorem refRid_w1 {a : V4} {n : V4} {x : BitVec 64} {al : Bool} {i : Bool} (h : (al && (!eqb (V4.l a) x && (!eqb (V4.l a) x && (eqb (V4.h a) x && true)))) = true) (c0 : CallOK Try.prog (CallRec.mk 90 [AV.ag (V4.cs a)] [] (Eff.mk (AV.c (AC.b al)) [] none))) (c1 : CallOK Try.prog (CallRec.mk 33 [AV.ag [AC.u (V4.v a), AC.u (V4.m a), AC.u (V4.l a), AC.u (bsub (V4.h a) 1#64)]] [] (Eff.mk (AV.tu [AT.ag (V4.cs n), AT.c (AC.b i)]) [] none))) :
    CallOK Try.prog ⟨100, [AV.ag (V4.cs a), AV.c (AC.u x)], [], ⟨AV.tu [AT.ag (V4.cs n), AT.c (AC.b i)], [], none⟩⟩ :=
  val_run 2000 [Eff.mk (AV.c (AC.b al)) [] none, Eff.mk (AV.tu [AT.ag (V4.cs n), AT.c (AC.b i)]) [] none] [true, false, false, true] ([]) [] Try.func100 rfl rfl rfl rfl (by kernel_rfl) h (cr_cons c0 (cr_cons c1 cr_nil))
theorem refRid_w2 {a : V4} {n : V4} {x : BitVec 64} {al : Bool} {i : Bool} (h : (al && (!eqb (V4.l a) x && (!eqb (V4.l a) x && (!eqb (V4.h a) x && true)))) = true) (c0 : CallOK Try.prog (CallRec.mk 90 [AV.ag (V4.cs a)] [] (Eff.mk (AV.c (AC.b al)) [] none))) (c1 : CallOK Try.prog (CallRec.mk 33 [AV.ag (V4.cs a)] [] (Eff.mk (AV.tu [AT.ag (V4.cs n), AT.c (AC.b i)]) [] none))) :
    CallOK Try.prog ⟨100, [AV.ag (V4.cs a), AV.c (AC.u x)], [], ⟨AV.tu [AT.ag (V4.cs n), AT.c (AC.b i)], [], none⟩⟩ :=
  val_run 2000 [Eff.mk (AV.c (AC.b al)) [] none, Eff.mk (AV.tu [AT.ag (V4.cs n), AT.c (AC.b i)]) [] none] [true, false, false, false] ([]) [] Try.func100 rfl rfl rfl rfl (by kernel_rfl) h (cr_cons c0 (cr_cons c1 cr_nil))
theorem refRid_w3 {a : V4} {n : V4} {x : BitVec 64} {al : Bool} {i : Bool} (h : (!al && (eqb (V4.l a) x && true)) = true) (c0 : CallOK Try.prog (CallRec.mk 90 [AV.ag (V4.cs a)] [] (Eff.mk (AV.c (AC.b al)) [] none))) (c1 : CallOK Try.prog (CallRec.mk 33 [AV.ag [AC.u (V4.v a), AC.u (V4.m a), AC.u (badd (V4.l a) 1#64), AC.u (V4.h a)]] [] (Eff.mk (AV.tu [AT.ag (V4.cs n), AT.c (AC.b i)]) [] none))) :
    CallOK Try.prog ⟨100, [AV.ag (V4.cs a), AV.c (AC.u x)], [], ⟨AV.tu [AT.ag (V4.cs n), AT.c (AC.b i)], [], none⟩⟩ :=
  val_run 2000 [Eff.mk (AV.c (AC.b al)) [] none, Eff.mk (AV.tu [AT.ag (V4.cs n), AT.c (AC.b i)]) [] none] [false, false, true] ([]) [] Try.func100 rfl rfl rfl rfl (by kernel_rfl) h (cr_cons c0 (cr_cons c1 cr_nil))
theorem refRid_w4 {a : V4} {n : V4} {x : BitVec 64} {al : Bool} {i : Bool} (h : (!al && (!eqb (V4.l a) x && (eqb (V4.h a) x && true))) = true) (c0 : CallOK Try.prog (CallRec.mk 90 [AV.ag (V4.cs a)] [] (Eff.mk (AV.c (AC.b al)) [] none))) (c1 : CallOK Try.prog (CallRec.mk 33 [AV.ag [AC.u (V4.v a), AC.u (V4.m a), AC.u (V4.l a), AC.u (bsub (V4.h a) 1#64)]] [] (Eff.mk (AV.tu [AT.ag (V4.cs n), AT.c (AC.b i)]) [] none))) :
    CallOK Try.prog ⟨100, [AV.ag (V4.cs a), AV.c (AC.u x)], [], ⟨AV.tu [AT.ag (V4.cs n), AT.c (AC.b i)], [], none⟩⟩ :=
  val_run 2000 [Eff.mk (AV.c (AC.b al)) [] none, Eff.mk (AV.tu [AT.ag (V4.cs n), AT.c (AC.b i)]) [] none] [false, false, false, true] ([]) [] Try.func100 rfl rfl rfl rfl (by kernel_rfl) h (cr_cons c0 (cr_cons c1 cr_nil))
theorem refRid_w5 {a : V4} {n : V4} {x : BitVec 64} {al : Bool} {i : Bool} (h : (!al && (!eqb (V4.l a) x && (!eqb (V4.h a) x && true))) = true) (c0 : CallOK Try.prog (CallRec.mk 90 [AV.ag (V4.cs a)] [] (Eff.mk (AV.c (AC.b al)) [] none))) (c1 : CallOK Try.prog (CallRec.mk 33 [AV.ag (V4.cs a)] [] (Eff.mk (AV.tu [AT.ag (V4.cs n), AT.c (AC.b i)]) [] none))) :
    CallOK Try.prog ⟨100, [AV.ag (V4.cs a), AV.c (AC.u x)], [], ⟨AV.tu [AT.ag (V4.cs n), AT.c (AC.b i)], [], none⟩⟩ :=
  val_run 2000 [Eff.mk (AV.c (AC.b al)) [] none, Eff.mk (AV.tu [AT.ag (V4.cs n), AT.c (AC.b i)]) [] none] [false, false, false, false] ([]) [] Try.func100 rfl rfl rfl rfl (by kernel_rfl) h (cr_cons c0 (cr_cons c1 cr_nil))
theorem refEqual_w0 {a : V4} {b : V4} {kv : BitVec 64} {km : BitVec 64} {may : Bool} (h : (!may && true) = true) (c0 : CallOK Try.prog (CallRec.mk 19 [AV.ag [AC.u (V4.v a), AC.u (V4.m a)], AV.ag [AC.u (V4.v b), AC.u (V4.m b)]] [] (Eff.mk (AV.tu [AT.ag [AC.u kv, AC.u km], AT.c (AC.b may)]) [] none))) :
    CallOK Try.prog ⟨55, [AV.ag (V4.cs a), AV.ag (V4.cs b)], [], ⟨AV.tu [AT.ag [AC.u 0#64, AC.u 0#64, AC.u 0#64, AC.u 0#64], AT.ag [AC.u 0#64, AC.u 0#64, AC.u 0#64, AC.u 0#64], AT.c (AC.b false)], [], none⟩⟩ :=
  val_run 2000 [Eff.mk (AV.tu [AT.ag [AC.u kv, AC.u km], AT.c (AC.b may)]) [] none] [true] ([]) [] Try.func55 rfl rfl rfl rfl (by kernel_rfl) h (cr_cons c0 cr_nil)
theorem refEqual_w1 {a : V4} {b : V4} {n : V4} {p : V4} {q : V4} {kv : BitVec 64} {km : BitVec 64} {may : Bool} {i : Bool} {r : Bool} (h : (!!may && true) = true) (c0 : CallOK Try.prog (CallRec.mk 19 [AV.ag [AC.u (V4.v a), AC.u (V4.m a)], AV.ag [AC.u (V4.v b), AC.u (V4.m b)]] [] (Eff.mk (AV.tu [AT.ag [AC.u kv, AC.u km], AT.c (AC.b may)]) [] none))) (c1 : CallOK Try.prog (CallRec.mk 33 [AV.ag [AC.u kv, AC.u km, AC.u (bmax (V4.l a) (V4.l b)), AC.u (bmin (V4.h a) (V4.h b))]] [] (Eff.mk (AV.tu [AT.ag (V4.cs n), AT.c (AC.b i)]) [] none))) (c2 : CallOK Try.prog (CallRec.mk 99 [AV.ag (V4.cs n), AV.c (AC.b i), AV.ag (V4.cs n), AV.c (AC.b i)] [] (Eff.mk (AV.tu [AT.ag (V4.cs p), AT.ag (V4.cs q), AT.c (AC.b r)]) [] none))) :
    CallOK Try.prog ⟨55, [AV.ag (V4.cs a), AV.ag (V4.cs b)], [], ⟨AV.tu [AT.ag (V4.cs p), AT.ag (V4.cs q), AT.c (AC.b r)], [], none⟩⟩ :=
  val_run 2000 [Eff.mk (AV.tu [AT.ag [AC.u kv, AC.u km], AT.c (AC.b may)]) [] none, Eff.mk (AV.tu [AT.ag (V4.cs n), AT.c (AC.b i)]) [] none, Eff.mk (AV.tu [AT.ag (V4.cs p), AT.ag (V4.cs q), AT.c (AC.b r)]) [] none] [false] ([]) [] Try.func55 rfl rfl rfl rfl (by kernel_rfl) h (cr_cons c0 (cr_cons c1 (cr_cons c2 cr_nil)))
theorem refLess_w0 {a : V4} {b : V4} (h : (eqb (V4.h b) 0#64 && true) = true) :
    CallOK Try.prog ⟨57, [AV.ag (V4.cs a), AV.ag (V4.cs b)], [], ⟨AV.tu [AT.ag [AC.u 0#64, AC.u 0#64, AC.u 0#64, AC.u 0#64], AT.ag [AC.u 0#64, AC.u 0#64, AC.u 0#64, AC.u 0#64], AT.c (AC.b false)], [], none⟩⟩ :=
  val_run 2000 [] [true, true] ([]) [] Try.func57 rfl rfl rfl rfl (by kernel_rfl) h cr_nil
theorem refLess_w1 {a : V4} {b : V4} (h : (!eqb (V4.h b) 0#64 && (eqb (V4.l a) 18446744073709551615#64 && true)) = true) :
    CallOK Try.prog ⟨57, [AV.ag (V4.cs a), AV.ag (V4.cs b)], [], ⟨AV.tu [AT.ag [AC.u 0#64, AC.u 0#64, AC.u 0#64, AC.u 0#64], AT.ag [AC.u 0#64, AC.u 0#64, AC.u 0#64, AC.u 0#64], AT.c (AC.b false)], [], none⟩⟩ :=
  val_run 2000 [] [false, true] ([]) [] Try.func57 rfl rfl rfl rfl (by kernel_rfl) h cr_nil
theorem refLess_w2 {a : V4} {b : V4} {n : V4} {n2 : V4} {p : V4} {q : V4} {i : Bool} {i2 : Bool} {r : Bool} (h : (!eqb (V4.h b) 0#64 && (!eqb (V4.l a) 18446744073709551615#64 && true)) = true) (c0 : CallOK Try.prog (CallRec.mk 33 [AV.ag [AC.u (V4.v a), AC.u (V4.m a), AC.u (V4.l a), AC.u (bmin (V4.h a) (bsub (V4.h b) 1#64))]] [] (Eff.mk (AV.tu [AT.ag (V4.cs n), AT.c (AC.b i)]) [] none))) (c1 : CallOK Try.prog (CallRec.mk 33 [AV.ag [AC.u (V4.v b), AC.u (V4.m b), AC.u (bmax (V4.l b) (badd (V4.l a) 1#64)), AC.u (V4.h b)]] [] (Eff.mk (AV.tu [AT.ag (V4.cs n2), AT.c (AC.b i2)]) [] none))) (c2 : CallOK Try.prog (CallRec.mk 99 [AV.ag (V4.cs n), AV.c (AC.b i), AV.ag (V4.cs n2), AV.c (AC.b i2)] [] (Eff.mk (AV.tu [AT.ag (V4.cs p), AT.ag (V4.cs q), AT.c (AC.b r)]) [] none))) :
    CallOK Try.prog ⟨57, [AV.ag (V4.cs a), AV.ag (V4.cs b)], [], ⟨AV.tu [AT.ag (V4.cs p), AT.ag (V4.cs q), AT.c (AC.b r)], [], none⟩⟩ :=
  val_run 2000 [Eff.mk (AV.tu [AT.ag (V4.cs n), AT.c (AC.b i)]) [] none, Eff.mk (AV.tu [AT.ag (V4.cs n2), AT.c (AC.b i2)]) [] none, Eff.mk (AV.tu [AT.ag (V4.cs p), AT.ag (V4.cs q), AT.c (AC.b r)]) [] none] [false, false] ([]) [] Try.func57 rfl rfl rfl rfl (by kernel_rfl) h (cr_cons c0 (cr_cons c1 (cr_cons c2 cr_nil)))
theorem refNotLess_w0 {a : V4} {b : V4} {n : V4} {n2 : V4} {p : V4} {q : V4} {i : Bool} {i2 : Bool} {r : Bool} (c0 : CallOK Try.prog (CallRec.mk 33 [AV.ag [AC.u (V4.v a), AC.u (V4.m a), AC.u (bmax (V4.l a) (V4.l b)), AC.u (V4.h a)]] [] (Eff.mk (AV.tu [AT.ag (V4.cs n), AT.c (AC.b i)]) [] none))) (c1 : CallOK Try.prog (CallRec.mk 33 [AV.ag [AC.u (V4.v b), AC.u (V4.m b), AC.u (V4.l b), AC.u (bmin (V4.h b) (V4.h a))]] [] (Eff.mk (AV.tu [AT.ag (V4.cs n2), AT.c (AC.b i2)]) [] none))) (c2 : CallOK Try.prog (CallRec.mk 99 [AV.ag (V4.cs n), AV.c (AC.b i), AV.ag (V4.cs n2), AV.c (AC.b i2)] [] (Eff.mk (AV.tu [AT.ag (V4.cs p), AT.ag (V4.cs q), AT.c (AC.b r)]) [] none))) :
    CallOK Try.prog ⟨58, [AV.ag (V4.cs a), AV.ag (V4.cs b)], [], ⟨AV.tu [AT.ag (V4.cs p), AT.ag (V4.cs q), AT.c (AC.b r)], [], none⟩⟩ :=
  val_run 2000 [Eff.mk (AV.tu [AT.ag (V4.cs n), AT.c (AC.b i)]) [] none, Eff.mk (AV.tu [AT.ag (V4.cs n2), AT.c (AC.b i2)]) [] none, Eff.mk (AV.tu [AT.ag (V4.cs p), AT.ag (V4.cs q), AT.c (AC.b r)]) [] none] [] ([]) [] Try.func58 rfl rfl rfl rfl (by kernel_rfl) rfl (cr_cons c0 (cr_cons c1 (cr_cons c2 cr_nil)))
theorem refOther_w0 {a : V4} {b : V4} {n : V4} {n2 : V4} {p : V4} {q : V4} {al : Bool} {bl : Bool} {i : Bool} {i2 : Bool} {r : Bool} (h : (bl && (al && true)) = true) (c0 : CallOK Try.prog (CallRec.mk 90 [AV.ag (V4.cs b)] [] (Eff.mk (AV.c (AC.b bl)) [] none))) (c1 : CallOK Try.prog (CallRec.mk 100 [AV.ag (V4.cs a), AV.c (AC.u (V4.l b))] [] (Eff.mk (AV.tu [AT.ag (V4.cs n), AT.c (AC.b i)]) [] none))) (c2 : CallOK Try.prog (CallRec.mk 90 [AV.ag (V4.cs a)] [] (Eff.mk (AV.c (AC.b al)) [] none))) (c3 : CallOK Try.prog (CallRec.mk 100 [AV.ag (V4.cs b), AV.c (AC.u (V4.l a))] [] (Eff.mk (AV.tu [AT.ag (V4.cs n2), AT.c (AC.b i2)]) [] none))) (c4 : CallOK Try.prog (CallRec.mk 99 [AV.ag (V4.cs n), AV.c (AC.b i), AV.ag (V4.cs n2), AV.c (AC.b i2)] [] (Eff.mk (AV.tu [AT.ag (V4.cs p), AT.ag (V4.cs q), AT.c (AC.b r)]) [] none))) :
    CallOK Try.prog ⟨56, [AV.ag (V4.cs a), AV.ag (V4.cs b)], [], ⟨AV.tu [AT.ag (V4.cs p), AT.ag (V4.cs q), AT.c (AC.b r)], [], none⟩⟩ :=
  val_run 2000 [Eff.mk (AV.c (AC.b bl)) [] none, Eff.mk (AV.tu [AT.ag (V4.cs n), AT.c (AC.b i)]) [] none, Eff.mk (AV.c (AC.b al)) [] none, Eff.mk (AV.tu [AT.ag (V4.cs n2), AT.c (AC.b i2)]) [] none, Eff.mk (AV.tu [AT.ag (V4.cs p), AT.ag (V4.cs q), AT.c (AC.b r)]) [] none] [true, true] ([]) [] Try.func56 rfl rfl rfl rfl (by kernel_rfl) h (cr_cons c0 (cr_cons c1 (cr_cons c2 (cr_cons c3 (cr_cons c4 cr_nil)))))
theorem refOtherB_w0 {a : V4} {b : V4} {n : V4} {p : V4} {q : V4} {al : Bool} {bl : Bool} {i : Bool} {r : Bool} (h : (bl && (!al && true)) = true) (c0 : CallOK Try.prog (CallRec.mk 90 [AV.ag (V4.cs b)] [] (Eff.mk (AV.c (AC.b bl)) [] none))) (c1 : CallOK Try.prog (CallRec.mk 100 [AV.ag (V4.cs a), AV.c (AC.u (V4.l b))] [] (Eff.mk (AV.tu [AT.ag (V4.cs n), AT.c (AC.b i)]) [] none))) (c2 : CallOK Try.prog (CallRec.mk 90 [AV.ag (V4.cs a)] [] (Eff.mk (AV.c (AC.b al)) [] none))) (c3 : CallOK Try.prog (CallRec.mk 99 [AV.ag (V4.cs n), AV.c (AC.b i), AV.ag (V4.cs b), AV.c (AC.b true)] [] (Eff.mk (AV.tu [AT.ag (V4.cs p), AT.ag (V4.cs q), AT.c (AC.b r)]) [] none))) :
    CallOK Try.prog ⟨56, [AV.ag (V4.cs a), AV.ag (V4.cs b)], [], ⟨AV.tu [AT.ag (V4.cs p), AT.ag (V4.cs q), AT.c (AC.b r)], [], none⟩⟩ :=
  val_run 2000 [Eff.mk (AV.c (AC.b bl)) [] none, Eff.mk (AV.tu [AT.ag (V4.cs n), AT.c (AC.b i)]) [] none, Eff.mk (AV.c (AC.b al)) [] none, Eff.mk (AV.tu [AT.ag (V4.cs p), AT.ag (V4.cs q), AT.c (AC.b r)]) [] none] [true, false] ([]) [] Try.func56 rfl rfl rfl rfl (by kernel_rfl) h (cr_cons c0 (cr_cons c1 (cr_cons c2 (cr_cons c3 cr_nil))))
theorem refOtherA_w0 {a : V4} {b : V4} {n2 : V4} {p : V4} {q : V4} {al : Bool} {bl : Bool} {i2 : Bool} {r : Bool} (h : (!bl && (al && true)) = true) (c0 : CallOK Try.prog (CallRec.mk 90 [AV.ag (V4.cs b)] [] (Eff.mk (AV.c (AC.b bl)) [] none))) (c1 : CallOK Try.prog (CallRec.mk 90 [AV.ag (V4.cs a)] [] (Eff.mk (AV.c (AC.b al)) [] none))) (c2 : CallOK Try.prog (CallRec.mk 100 [AV.ag (V4.cs b), AV.c (AC.u (V4.l a))] [] (Eff.mk (AV.tu [AT.ag (V4.cs n2), AT.c (AC.b i2)]) [] none))) (c3 : CallOK Try.prog (CallRec.mk 99 [AV.ag (V4.cs a), AV.c (AC.b true), AV.ag (V4.cs n2), AV.c (AC.b i2)] [] (Eff.mk (AV.tu [AT.ag (V4.cs p), AT.ag (V4.cs q), AT.c (AC.b r)]) [] none))) :
    CallOK Try.prog ⟨56, [AV.ag (V4.cs a), AV.ag (V4.cs b)], [], ⟨AV.tu [AT.ag (V4.cs p), AT.ag (V4.cs q), AT.c (AC.b r)], [], none⟩⟩ :=
  val_run 2000 [Eff.mk (AV.c (AC.b bl)) [] none, Eff.mk (AV.c (AC.b al)) [] none, Eff.mk (AV.tu [AT.ag (V4.cs n2), AT.c (AC.b i2)]) [] none, Eff.mk (AV.tu [AT.ag (V4.cs p), AT.ag (V4.cs q), AT.c (AC.b r)]) [] none] [false, true] ([]) [] Try.func56 rfl rfl rfl rfl (by kernel_rfl) h (cr_cons c0 (cr_cons c1 (cr_cons c2 (cr_cons c3 cr_nil))))
theorem refOtherN_w0 {a : V4} {b : V4} {p : V4} {q : V4} {al : Bool} {bl : Bool} {r : Bool} (h : (!bl && (!al && true)) = true) (c0 : CallOK Try.prog (CallRec.mk 90 [AV.ag (V4.cs b)] [] (Eff.mk (AV.c (AC.b bl)) [] none))) (c1 : CallOK Try.prog (CallRec.mk 90 [AV.ag (V4.cs a)] [] (Eff.mk (AV.c (AC.b al)) [] none))) (c2 : CallOK Try.prog (CallRec.mk 99 [AV.ag (V4.cs a), AV.c (AC.b true), AV.ag (V4.cs b), AV.c (AC.b true)] [] (Eff.mk (AV.tu [AT.ag (V4.cs p), AT.ag (V4.cs q), AT.c (AC.b r)]) [] none))) :
    CallOK Try.prog ⟨56, [AV.ag (V4.cs a), AV.ag (V4.cs b)], [], ⟨AV.tu [AT.ag (V4.cs p), AT.ag (V4.cs q), AT.c (AC.b r)], [], none⟩⟩ :=
  val_run 2000 [Eff.mk (AV.c (AC.b bl)) [] none, Eff.mk (AV.c (AC.b al)) [] none, Eff.mk (AV.tu [AT.ag (V4.cs p), AT.ag (V4.cs q), AT.c (AC.b r)]) [] none] [false, false] ([]) [] Try.func56 rfl rfl rfl rfl (by kernel_rfl) h (cr_cons c0 (cr_cons c1 (cr_cons c2 cr_nil)))
theorem refBytes_w0 {n : Int} {p : V4} (h : (n == 8 && true) = true) (c0 : CallOK Try.prog (CallRec.mk 43 [] [] (Eff.mk (AV.ag (V4.cs p)) [] none))) :
    CallOK Try.prog ⟨49, [AV.c (AC.i n)], [], ⟨AV.ag (V4.cs p), [], none⟩⟩ :=
  val_run 2000 [Eff.mk (AV.ag (V4.cs p)) [] none] [true] ([]) [] Try.func49 rfl rfl rfl rfl (by kernel_rfl) h (cr_cons c0 cr_nil)
theorem refBytes_w1 {n : Int} (h : (!n == 8 && (decide (0 ≤ IntKind.wrap IntKind.i64 (8 * n)) && decide (IntKind.wrap IntKind.i64 (8 * n) ≤ 64) && true)) = true) :
    CallOK Try.prog ⟨49, [AV.c (AC.i n)], [], ⟨AV.ag [AC.u 0#64, AC.u (bsub (bshl (1#64) (Int.toNat (IntKind.wrap IntKind.i64 (8 * n)))) 1#64), AC.u 0#64, AC.u (bsub (bshl (1#64) (Int.toNat (IntKind.wrap IntKind.i64 (8 * n)))) 1#64)], [], none⟩⟩ :=
  val_run 2000 [] [false] ([]) [] Try.func49 rfl rfl rfl rfl (by kernel_rfl) h cr_nil
theorem calcBytes_w0 {n : Int} (h : (n == 1 && (n == 1 && (decide (nv (BitVec.ofInt 64 (IntKind.wrap IntKind.i64 (64 - IntKind.wrap IntKind.i64 (8 * n)))) ≤ 64) && true))) = true) :
    CallOK Try.prog ⟨48, [AV.c (AC.i n)], [], ⟨AV.tu [AT.ag [AC.u 0#64, AC.u (bshr (18446744073709551615#64) (Int.toNat (nv (BitVec.ofInt 64 (IntKind.wrap IntKind.i64 (64 - IntKind.wrap IntKind.i64 (8 * n))))))), AC.u 0#64, AC.u (bshr (18446744073709551615#64) (Int.toNat (nv (BitVec.ofInt 64 (IntKind.wrap IntKind.i64 (64 - IntKind.wrap IntKind.i64 (8 * n)))))))], AT.c (AC.i 0)], [], none⟩⟩ :=
  val_run 2000 [] [true, true] ([]) [] Try.func48 rfl rfl rfl rfl (by kernel_rfl) h cr_nil
theorem calcBytes_w1 {n : Int} (h : (!n == 1 && (n == 2 && (n == 2 && (decide (nv (BitVec.ofInt 64 (IntKind.wrap IntKind.i64 (64 - IntKind.wrap IntKind.i64 (8 * n)))) ≤ 64) && true)))) = true) :
    CallOK Try.prog ⟨48, [AV.c (AC.i n)], [], ⟨AV.tu [AT.ag [AC.u 0#64, AC.u (bshr (18446744073709551615#64) (Int.toNat (nv (BitVec.ofInt 64 (IntKind.wrap IntKind.i64 (64 - IntKind.wrap IntKind.i64 (8 * n))))))), AC.u 0#64, AC.u (bshr (18446744073709551615#64) (Int.toNat (nv (BitVec.ofInt 64 (IntKind.wrap IntKind.i64 (64 - IntKind.wrap IntKind.i64 (8 * n)))))))], AT.c (AC.i 0)], [], none⟩⟩ :=
  val_run 2000 [] [false, true, true] ([]) [] Try.func48 rfl rfl rfl rfl (by kernel_rfl) h cr_nil
theorem calcBytes_w2 {n : Int} (h : (!n == 1 && (!n == 2 && (n == 4 && (n == 4 && (decide (nv (BitVec.ofInt 64 (IntKind.wrap IntKind.i64 (64 - IntKind.wrap IntKind.i64 (8 * n)))) ≤ 64) && true))))) = true) :
    CallOK Try.prog ⟨48, [AV.c (AC.i n)], [], ⟨AV.tu [AT.ag [AC.u 0#64, AC.u (bshr (18446744073709551615#64) (Int.toNat (nv (BitVec.ofInt 64 (IntKind.wrap IntKind.i64 (64 - IntKind.wrap IntKind.i64 (8 * n))))))), AC.u 0#64, AC.u (bshr (18446744073709551615#64) (Int.toNat (nv (BitVec.ofInt 64 (IntKind.wrap IntKind.i64 (64 - IntKind.wrap IntKind.i64 (8 * n)))))))], AT.c (AC.i 0)], [], none⟩⟩ :=
  val_run 2000 [] [false, false, true, true] ([]) [] Try.func48 rfl rfl rfl rfl (by kernel_rfl) h cr_nil
theorem calcBytes_w3 {n : Int} (h : (!n == 1 && (!n == 2 && (!n == 4 && (n == 8 && (decide (nv (BitVec.ofInt 64 (IntKind.wrap IntKind.i64 (64 - IntKind.wrap IntKind.i64 (8 * n)))) ≤ 64) && true))))) = true) :
    CallOK Try.prog ⟨48, [AV.c (AC.i n)], [], ⟨AV.tu [AT.ag [AC.u 0#64, AC.u (bshr (18446744073709551615#64) (Int.toNat (nv (BitVec.ofInt 64 (IntKind.wrap IntKind.i64 (64 - IntKind.wrap IntKind.i64 (8 * n))))))), AC.u 0#64, AC.u (bshr (18446744073709551615#64) (Int.toNat (nv (BitVec.ofInt 64 (IntKind.wrap IntKind.i64 (64 - IntKind.wrap IntKind.i64 (8 * n)))))))], AT.c (AC.i 0)], [], none⟩⟩ :=
  val_run 2000 [] [false, false, false, true] ([]) [] Try.func48 rfl rfl rfl rfl (by kernel_rfl) h cr_nil
theorem calcBytes_w4 {n : Int} (h : (!n == 1 && (!n == 2 && (!n == 4 && (!n == 8 && true)))) = true) :
    CallOK Try.prog ⟨48, [AV.c (AC.i n)], [], ⟨AV.tu [AT.ag [AC.u 0#64, AC.u 0#64, AC.u 0#64, AC.u 0#64], AT.c (AC.i 3)], [], none⟩⟩ :=
  val_run 2000 [] [false, false, false, false] ([]) [] Try.func48 rfl rfl rfl rfl (by kernel_rfl) h cr_nil
theorem refOver_w0 {x : BitVec 64} {y : BitVec 64} (h : (!eqb y 0#64 && (!eqb y zero && true)) = true) :
    CallOK Try.prog ⟨89, [AV.c (AC.u x), AV.c (AC.u y)], [], ⟨AV.c (AC.b (decide (nv (18446744073709551615#64 / y) < nv x))), [], none⟩⟩ :=
  val_run 2000 [] [true] ([]) [] Try.func89 rfl rfl rfl rfl (by kernel_rfl) h cr_nil
theorem refOver_w1 {x : BitVec 64} {y : BitVec 64} (h : (!!eqb y 0#64 && true) = true) :
    CallOK Try.prog ⟨89, [AV.c (AC.u x), AV.c (AC.u y)], [], ⟨AV.c (AC.b false), [], none⟩⟩ :=
  val_run 2000 [] [false] ([]) [] Try.func89 rfl rfl rfl rfl (by kernel_rfl) h cr_nil
theorem refTwo2_w0 {a : V4} {b : V4} {p : V4} {kv : BitVec 64} {km : BitVec 64} {i : Bool} (h : (decide (nv (badd (V4.l a) (V4.l b)) < nv (V4.l a)) == decide (nv (badd (V4.h a) (V4.h b)) < nv (V4.h a)) && true) = true) (c0 : CallOK Try.prog (CallRec.mk 29 [AV.c (AC.i 2), AV.ag [AC.u (V4.v a), AC.u (V4.m a)], AV.ag [AC.u (V4.v b), AC.u (V4.m b)]] [] (Eff.mk (AV.ag [AC.u kv, AC.u km]) [] none))) (c1 : CallOK Try.prog (CallRec.mk 33 [AV.ag [AC.u kv, AC.u km, AC.u (badd (V4.l a) (V4.l b)), AC.u (badd (V4.h a) (V4.h b))]] [] (Eff.mk (AV.tu [AT.ag (V4.cs p), AT.c (AC.b i)]) [] none))) :
    CallOK Try.prog ⟨47, [AV.c (AC.i 2), AV.ag (V4.cs a), AV.ag (V4.cs b)], [], ⟨AV.ag (V4.cs p), [], none⟩⟩ :=
  val_run 2000 [Eff.mk (AV.ag [AC.u kv, AC.u km]) [] none, Eff.mk (AV.tu [AT.ag (V4.cs p), AT.c (AC.b i)]) [] none] [true, true, true] ([]) [] Try.func47 rfl rfl rfl rfl (by kernel_rfl) h (cr_cons c0 (cr_cons c1 cr_nil))
theorem refTwo2_w1 {a : V4} {b : V4} {p : V4} {kv : BitVec 64} {km : BitVec 64} {i : Bool} (h : (!decide (nv (badd (V4.l a) (V4.l b)) < nv (V4.l a)) == decide (nv (badd (V4.h a) (V4.h b)) < nv (V4.h a)) && true) = true) (c0 : CallOK Try.prog (CallRec.mk 29 [AV.c (AC.i 2), AV.ag [AC.u (V4.v a), AC.u (V4.m a)], AV.ag [AC.u (V4.v b), AC.u (V4.m b)]] [] (Eff.mk (AV.ag [AC.u kv, AC.u km]) [] none))) (c1 : CallOK Try.prog (CallRec.mk 33 [AV.ag [AC.u kv, AC.u km, AC.u 0#64, AC.u 18446744073709551615#64]] [] (Eff.mk (AV.tu [AT.ag (V4.cs p), AT.c (AC.b i)]) [] none))) :
    CallOK Try.prog ⟨47, [AV.c (AC.i 2), AV.ag (V4.cs a), AV.ag (V4.cs b)], [], ⟨AV.ag (V4.cs p), [], none⟩⟩ :=
  val_run 2000 [Eff.mk (AV.ag [AC.u kv, AC.u km]) [] none, Eff.mk (AV.tu [AT.ag (V4.cs p), AT.c (AC.b i)]) [] none] [true, true, false] ([]) [] Try.func47 rfl rfl rfl rfl (by kernel_rfl) h (cr_cons c0 (cr_cons c1 cr_nil))
theorem refTwo3_w0 {a : V4} {b : V4} {p : V4} {kv : BitVec 64} {km : BitVec 64} {i : Bool} (h : (decide (nv (V4.l a) < nv (V4.h b)) == decide (nv (V4.h a) < nv (V4.l b)) && true) = true) (c0 : CallOK Try.prog (CallRec.mk 29 [AV.c (AC.i 3), AV.ag [AC.u (V4.v a), AC.u (V4.m a)], AV.ag [AC.u (V4.v b), AC.u (V4.m b)]] [] (Eff.mk (AV.ag [AC.u kv, AC.u km]) [] none))) (c1 : CallOK Try.prog (CallRec.mk 33 [AV.ag [AC.u kv, AC.u km, AC.u (bsub (V4.l a) (V4.h b)), AC.u (bsub (V4.h a) (V4.l b))]] [] (Eff.mk (AV.tu [AT.ag (V4.cs p), AT.c (AC.b i)]) [] none))) :
    CallOK Try.prog ⟨47, [AV.c (AC.i 3), AV.ag (V4.cs a), AV.ag (V4.cs b)], [], ⟨AV.ag (V4.cs p), [], none⟩⟩ :=
  val_run 2000 [Eff.mk (AV.ag [AC.u kv, AC.u km]) [] none, Eff.mk (AV.tu [AT.ag (V4.cs p), AT.c (AC.b i)]) [] none] [true, false, true, true] ([]) [] Try.func47 rfl rfl rfl rfl (by kernel_rfl) h (cr_cons c0 (cr_cons c1 cr_nil))
theorem refTwo3_w1 {a : V4} {b : V4} {p : V4} {kv : BitVec 64} {km : BitVec 64} {i : Bool} (h : (!decide (nv (V4.l a) < nv (V4.h b)) == decide (nv (V4.h a) < nv (V4.l b)) && true) = true) (c0 : CallOK Try.prog (CallRec.mk 29 [AV.c (AC.i 3), AV.ag [AC.u (V4.v a), AC.u (V4.m a)], AV.ag [AC.u (V4.v b), AC.u (V4.m b)]] [] (Eff.mk (AV.ag [AC.u kv, AC.u km]) [] none))) (c1 : CallOK Try.prog (CallRec.mk 33 [AV.ag [AC.u kv, AC.u km, AC.u 0#64, AC.u 18446744073709551615#64]] [] (Eff.mk (AV.tu [AT.ag (V4.cs p), AT.c (AC.b i)]) [] none))) :
    CallOK Try.prog ⟨47, [AV.c (AC.i 3), AV.ag (V4.cs a), AV.ag (V4.cs b)], [], ⟨AV.ag (V4.cs p), [], none⟩⟩ :=
  val_run 2000 [Eff.mk (AV.ag [AC.u kv, AC.u km]) [] none, Eff.mk (AV.tu [AT.ag (V4.cs p), AT.c (AC.b i)]) [] none] [true, false, true, false] ([]) [] Try.func47 rfl rfl rfl rfl (by kernel_rfl) h (cr_cons c0 (cr_cons c1 cr_nil))
theorem refTwo5_w0 {a : V4} {b : V4} {p : V4} {kv : BitVec 64} {km : BitVec 64} {i : Bool} (c0 : CallOK Try.prog (CallRec.mk 29 [AV.c (AC.i 5), AV.ag [AC.u (V4.v a), AC.u (V4.m a)], AV.ag [AC.u (V4.v b), AC.u (V4.m b)]] [] (Eff.mk (AV.ag [AC.u kv, AC.u km]) [] none))) (c1 : CallOK Try.prog (CallRec.mk 33 [AV.ag [AC.u kv, AC.u km, AC.u 0#64, AC.u (bmin (V4.h a) (V4.h b))]] [] (Eff.mk (AV.tu [AT.ag (V4.cs p), AT.c (AC.b i)]) [] none))) :
    CallOK Try.prog ⟨47, [AV.c (AC.i 5), AV.ag (V4.cs a), AV.ag (V4.cs b)], [], ⟨AV.ag (V4.cs p), [], none⟩⟩ :=
  val_run 2000 [Eff.mk (AV.ag [AC.u kv, AC.u km]) [] none, Eff.mk (AV.tu [AT.ag (V4.cs p), AT.c (AC.b i)]) [] none] [true, false, false, false, true] ([]) [] Try.func47 rfl rfl rfl rfl (by kernel_rfl) rfl (cr_cons c0 (cr_cons c1 cr_nil))
theorem refTwo6_w0 {a : V4} {b : V4} {p : V4} {kv : BitVec 64} {km : BitVec 64} {i : Bool} (c0 : CallOK Try.prog (CallRec.mk 29 [AV.c (AC.i 6), AV.ag [AC.u (V4.v a), AC.u (V4.m a)], AV.ag [AC.u (V4.v b), AC.u (V4.m b)]] [] (Eff.mk (AV.ag [AC.u kv, AC.u km]) [] none))) (c1 : CallOK Try.prog (CallRec.mk 33 [AV.ag [AC.u kv, AC.u km, AC.u (bmax (V4.l a) (V4.l b)), AC.u 18446744073709551615#64]] [] (Eff.mk (AV.tu [AT.ag (V4.cs p), AT.c (AC.b i)]) [] none))) :
    CallOK Try.prog ⟨47, [AV.c (AC.i 6), AV.ag (V4.cs a), AV.ag (V4.cs b)], [], ⟨AV.ag (V4.cs p), [], none⟩⟩ :=
  val_run 2000 [Eff.mk (AV.ag [AC.u kv, AC.u km]) [] none, Eff.mk (AV.tu [AT.ag (V4.cs p), AT.c (AC.b i)]) [] none] [true, false, false, false, false, true] ([]) [] Try.func47 rfl rfl rfl rfl (by kernel_rfl) rfl (cr_cons c0 (cr_cons c1 cr_nil))
theorem refTwo7_w0 {a : V4} {b : V4} {p : V4} {kv : BitVec 64} {km : BitVec 64} {i : Bool} (c0 : CallOK Try.prog (CallRec.mk 29 [AV.c (AC.i 7), AV.ag [AC.u (V4.v a), AC.u (V4.m a)], AV.ag [AC.u (V4.v b), AC.u (V4.m b)]] [] (Eff.mk (AV.ag [AC.u kv, AC.u km]) [] none))) (c1 : CallOK Try.prog (CallRec.mk 33 [AV.ag [AC.u kv, AC.u km, AC.u 0#64, AC.u 18446744073709551615#64]] [] (Eff.mk (AV.tu [AT.ag (V4.cs p), AT.c (AC.b i)]) [] none))) :
    CallOK Try.prog ⟨47, [AV.c (AC.i 7), AV.ag (V4.cs a), AV.ag (V4.cs b)], [], ⟨AV.ag (V4.cs p), [], none⟩⟩ :=
  val_run 2000 [Eff.mk (AV.ag [AC.u kv, AC.u km]) [] none, Eff.mk (AV.tu [AT.ag (V4.cs p), AT.c (AC.b i)]) [] none] [true, false, false, false, false, false, false, false] ([]) [] Try.func47 rfl rfl rfl rfl (by kernel_rfl) rfl (cr_cons c0 (cr_cons c1 cr_nil))
theorem refTwo4_w0 {a : V4} {b : V4} {p : V4} {kv : BitVec 64} {km : BitVec 64} {i : Bool} {ov : Bool} (h : (!ov && true) = true) (c0 : CallOK Try.prog (CallRec.mk 29 [AV.c (AC.i 4), AV.ag [AC.u (V4.v a), AC.u (V4.m a)], AV.ag [AC.u (V4.v b), AC.u (V4.m b)]] [] (Eff.mk (AV.ag [AC.u kv, AC.u km]) [] none))) (c1 : CallOK Try.prog (CallRec.mk 89 [AV.c (AC.u (V4.h a)), AV.c (AC.u (V4.h b))] [] (Eff.mk (AV.c (AC.b ov)) [] none))) (c2 : CallOK Try.prog (CallRec.mk 33 [AV.ag [AC.u kv, AC.u km, AC.u (bmul (V4.l a) (V4.l b)), AC.u (bmul (V4.h a) (V4.h b))]] [] (Eff.mk (AV.tu [AT.ag (V4.cs p), AT.c (AC.b i)]) [] none))) :
    CallOK Try.prog ⟨47, [AV.c (AC.i 4), AV.ag (V4.cs a), AV.ag (V4.cs b)], [], ⟨AV.ag (V4.cs p), [], none⟩⟩ :=
  val_run 2000 [Eff.mk (AV.ag [AC.u kv, AC.u km]) [] none, Eff.mk (AV.c (AC.b ov)) [] none, Eff.mk (AV.tu [AT.ag (V4.cs p), AT.c (AC.b i)]) [] none] [true, false, false, true, true] ([]) [] Try.func47 rfl rfl rfl rfl (by kernel_rfl) h (cr_cons c0 (cr_cons c1 (cr_cons c2 cr_nil)))
theorem refTwo4_w1 {a : V4} {b : V4} {p : V4} {kv : BitVec 64} {km : BitVec 64} {i : Bool} {ov : Bool} (h : (!!ov && true) = true) (c0 : CallOK Try.prog (CallRec.mk 29 [AV.c (AC.i 4), AV.ag [AC.u (V4.v a), AC.u (V4.m a)], AV.ag [AC.u (V4.v b), AC.u (V4.m b)]] [] (Eff.mk (AV.ag [AC.u kv, AC.u km]) [] none))) (c1 : CallOK Try.prog (CallRec.mk 89 [AV.c (AC.u (V4.h a)), AV.c (AC.u (V4.h b))] [] (Eff.mk (AV.c (AC.b ov)) [] none))) (c2 : CallOK Try.prog (CallRec.mk 33 [AV.ag [AC.u kv, AC.u km, AC.u 0#64, AC.u 18446744073709551615#64]] [] (Eff.mk (AV.tu [AT.ag (V4.cs p), AT.c (AC.b i)]) [] none))) :
    CallOK Try.prog ⟨47, [AV.c (AC.i 4), AV.ag (V4.cs a), AV.ag (V4.cs b)], [], ⟨AV.ag (V4.cs p), [], none⟩⟩ :=
  val_run 2000 [Eff.mk (AV.ag [AC.u kv, AC.u km]) [] none, Eff.mk (AV.c (AC.b ov)) [] none, Eff.mk (AV.tu [AT.ag (V4.cs p), AT.c (AC.b i)]) [] none] [true, false, false, true, false] ([]) [] Try.func47 rfl rfl rfl rfl (by kernel_rfl) h (cr_cons c0 (cr_cons c1 (cr_cons c2 cr_nil)))
theorem refTwo8n_w0 {a : V4} {b : V4} {p : V4} {i : Bool} {al : Bool} (h : (!al && true) = true) (c0 : CallOK Try.prog (CallRec.mk 90 [AV.ag (V4.cs b)] [] (Eff.mk (AV.c (AC.b al)) [] none))) (c1 : CallOK Try.prog (CallRec.mk 33 [AV.ag [AC.u 0#64, AC.u 18446744073709551615#64, AC.u 0#64, AC.u 18446744073709551615#64]] [] (Eff.mk (AV.tu [AT.ag (V4.cs p), AT.c (AC.b i)]) [] none))) :
    CallOK Try.prog ⟨47, [AV.c (AC.i 8), AV.ag (V4.cs a), AV.ag (V4.cs b)], [], ⟨AV.ag (V4.cs p), [], none⟩⟩ :=
  val_run 2000 [Eff.mk (AV.c (AC.b al)) [] none, Eff.mk (AV.tu [AT.ag (V4.cs p), AT.c (AC.b i)]) [] none] [false, false, false, false, false, false, true, false] ([]) [] Try.func47 rfl rfl rfl rfl (by kernel_rfl) h (cr_cons c0 (cr_cons c1 cr_nil))
theorem refTwo8y_w0 {a : V4} {b : V4} {p : V4} {kv : BitVec 64} {km : BitVec 64} {i : Bool} {al : Bool} (h : (al && (decide (0 ≤ IntKind.wrap IntKind.i64 (nv (band (V4.l b) 63#64))) && decide (IntKind.wrap IntKind.i64 (nv (band (V4.l b) 63#64)) ≤ 64) && (decide (0 ≤ IntKind.wrap IntKind.i64 (nv (band (V4.l b) 63#64))) && decide (IntKind.wrap IntKind.i64 (nv (band (V4.l b) 63#64)) ≤ 64) && (eqb (bshr (bshl (V4.h a) (Int.toNat (IntKind.wrap IntKind.i64 (nv (band (V4.l b) 63#64))))) (Int.toNat (IntKind.wrap IntKind.i64 (nv (band (V4.l b) 63#64))))) (V4.h a) && (decide (0 ≤ IntKind.wrap IntKind.i64 (nv (band (V4.l b) 63#64))) && decide (IntKind.wrap IntKind.i64 (nv (band (V4.l b) 63#64)) ≤ 64) && (decide (0 ≤ IntKind.wrap IntKind.i64 (nv (band (V4.l b) 63#64))) && decide (IntKind.wrap IntKind.i64 (nv (band (V4.l b) 63#64)) ≤ 64) && true)))))) = true) (c0 : CallOK Try.prog (CallRec.mk 90 [AV.ag (V4.cs b)] [] (Eff.mk (AV.c (AC.b al)) [] none))) (c1 : CallOK Try.prog (CallRec.mk 20 [AV.c (AC.i 8), AV.ag [AC.u (V4.v a), AC.u (V4.m a)], AV.c (AC.i (IntKind.wrap IntKind.i64 (nv (band (V4.l b) 63#64))))] [] (Eff.mk (AV.ag [AC.u kv, AC.u km]) [] none))) (c2 : CallOK Try.prog (CallRec.mk 33 [AV.ag [AC.u kv, AC.u km, AC.u (bshl (V4.l a) (Int.toNat (IntKind.wrap IntKind.i64 (nv (band (V4.l b) 63#64))))), AC.u (bshl (V4.h a) (Int.toNat (IntKind.wrap IntKind.i64 (nv (band (V4.l b) 63#64)))))]] [] (Eff.mk (AV.tu [AT.ag (V4.cs p), AT.c (AC.b i)]) [] none))) :
    CallOK Try.prog ⟨47, [AV.c (AC.i 8), AV.ag (V4.cs a), AV.ag (V4.cs b)], [], ⟨AV.ag (V4.cs p), [], none⟩⟩ :=
  val_run 2000 [Eff.mk (AV.c (AC.b al)) [] none, Eff.mk (AV.ag [AC.u kv, AC.u km]) [] none, Eff.mk (AV.tu [AT.ag (V4.cs p), AT.c (AC.b i)]) [] none] [false, false, false, false, false, false, true, true, true] ([]) [] Try.func47 rfl rfl rfl rfl (by kernel_rfl) h (cr_cons c0 (cr_cons c1 (cr_cons c2 cr_nil)))
theorem refTwo8y_w1 {a : V4} {b : V4} {p : V4} {kv : BitVec 64} {km : BitVec 64} {i : Bool} {al : Bool} (h : (al && (decide (0 ≤ IntKind.wrap IntKind.i64 (nv (band (V4.l b) 63#64))) && decide (IntKind.wrap IntKind.i64 (nv (band (V4.l b) 63#64)) ≤ 64) && (decide (0 ≤ IntKind.wrap IntKind.i64 (nv (band (V4.l b) 63#64))) && decide (IntKind.wrap IntKind.i64 (nv (band (V4.l b) 63#64)) ≤ 64) && (!eqb (bshr (bshl (V4.h a) (Int.toNat (IntKind.wrap IntKind.i64 (nv (band (V4.l b) 63#64))))) (Int.toNat (IntKind.wrap IntKind.i64 (nv (band (V4.l b) 63#64))))) (V4.h a) && true)))) = true) (c0 : CallOK Try.prog (CallRec.mk 90 [AV.ag (V4.cs b)] [] (Eff.mk (AV.c (AC.b al)) [] none))) (c1 : CallOK Try.prog (CallRec.mk 20 [AV.c (AC.i 8), AV.ag [AC.u (V4.v a), AC.u (V4.m a)], AV.c (AC.i (IntKind.wrap IntKind.i64 (nv (band (V4.l b) 63#64))))] [] (Eff.mk (AV.ag [AC.u kv, AC.u km]) [] none))) (c2 : CallOK Try.prog (CallRec.mk 33 [AV.ag [AC.u kv, AC.u km, AC.u 0#64, AC.u 18446744073709551615#64]] [] (Eff.mk (AV.tu [AT.ag (V4.cs p), AT.c (AC.b i)]) [] none))) :
    CallOK Try.prog ⟨47, [AV.c (AC.i 8), AV.ag (V4.cs a), AV.ag (V4.cs b)], [], ⟨AV.ag (V4.cs p), [], none⟩⟩ :=
  val_run 2000 [Eff.mk (AV.c (AC.b al)) [] none, Eff.mk (AV.ag [AC.u kv, AC.u km]) [] none, Eff.mk (AV.tu [AT.ag (V4.cs p), AT.c (AC.b i)]) [] none] [false, false, false, false, false, false, true, true, false] ([]) [] Try.func47 rfl rfl rfl rfl (by kernel_rfl) h (cr_cons c0 (cr_cons c1 (cr_cons c2 cr_nil)))
theorem refTwo9n_w0 {a : V4} {b : V4} {p : V4} {i : Bool} {al : Bool} (h : (!al && true) = true) (c0 : CallOK Try.prog (CallRec.mk 90 [AV.ag (V4.cs b)] [] (Eff.mk (AV.c (AC.b al)) [] none))) (c1 : CallOK Try.prog (CallRec.mk 33 [AV.ag [AC.u 0#64, AC.u 18446744073709551615#64, AC.u 0#64, AC.u (V4.h a)]] [] (Eff.mk (AV.tu [AT.ag (V4.cs p), AT.c (AC.b i)]) [] none))) :
    CallOK Try.prog ⟨47, [AV.c (AC.i 9), AV.ag (V4.cs a), AV.ag (V4.cs b)], [], ⟨AV.ag (V4.cs p), [], none⟩⟩ :=
  val_run 2000 [Eff.mk (AV.c (AC.b al)) [] none, Eff.mk (AV.tu [AT.ag (V4.cs p), AT.c (AC.b i)]) [] none] [false, false, false, false, false, false, false, true, false] ([]) [] Try.func47 rfl rfl rfl rfl (by kernel_rfl) h (cr_cons c0 (cr_cons c1 cr_nil))
theorem refTwo9y_w0 {a : V4} {b : V4} {p : V4} {kv : BitVec 64} {km : BitVec 64} {i : Bool} {al : Bool} (h : (al && (decide (0 ≤ IntKind.wrap IntKind.i64 (nv (band (V4.l b) 63#64))) && decide (IntKind.wrap IntKind.i64 (nv (band (V4.l b) 63#64)) ≤ 64) && (decide (0 ≤ IntKind.wrap IntKind.i64 (nv (band (V4.l b) 63#64))) && decide (IntKind.wrap IntKind.i64 (nv (band (V4.l b) 63#64)) ≤ 64) && true))) = true) (c0 : CallOK Try.prog (CallRec.mk 90 [AV.ag (V4.cs b)] [] (Eff.mk (AV.c (AC.b al)) [] none))) (c1 : CallOK Try.prog (CallRec.mk 20 [AV.c (AC.i 9), AV.ag [AC.u (V4.v a), AC.u (V4.m a)], AV.c (AC.i (IntKind.wrap IntKind.i64 (nv (band (V4.l b) 63#64))))] [] (Eff.mk (AV.ag [AC.u kv, AC.u km]) [] none))) (c2 : CallOK Try.prog (CallRec.mk 33 [AV.ag [AC.u kv, AC.u km, AC.u (bshr (V4.l a) (Int.toNat (IntKind.wrap IntKind.i64 (nv (band (V4.l b) 63#64))))), AC.u (bshr (V4.h a) (Int.toNat (IntKind.wrap IntKind.i64 (nv (band (V4.l b) 63#64)))))]] [] (Eff.mk (AV.tu [AT.ag (V4.cs p), AT.c (AC.b i)]) [] none))) :
    CallOK Try.prog ⟨47, [AV.c (AC.i 9), AV.ag (V4.cs a), AV.ag (V4.cs b)], [], ⟨AV.ag (V4.cs p), [], none⟩⟩ :=
  val_run 2000 [Eff.mk (AV.c (AC.b al)) [] none, Eff.mk (AV.ag [AC.u kv, AC.u km]) [] none, Eff.mk (AV.tu [AT.ag (V4.cs p), AT.c (AC.b i)]) [] none] [false, false, false, false, false, false, false, true, true] ([]) [] Try.func47 rfl rfl rfl rfl (by kernel_rfl) h (cr_cons c0 (cr_cons c1 (cr_cons c2 cr_nil)))
end Go.Proofs.Ytkigmocchaikgaa

/- The contract of package calc's leave, over each of the four functions that it is handed. (Written by gen_w26.py.) -/
namespace Go.Proofs.Ytkigmocchaikgaa
open Go.RowKit
attribute [local go_sem] w_and w_or w_xor w_andNot w_and1 w_and63 w_add w_sub w_mul w_sub1 w_add1 w_shl w_shl1 w_shr c_beq c_bne c_beq0 c_bne0 c_beq1 c_bne1 wrap_nv

abbrev PT (b : Nat) : Value := .pointer (some ⟨b, 0, none⟩)
/- what is left of both -/
def lv (p : Bool) (a : Value) : Value := if p then a else V0

set_option maxRecDepth 100000 in
set_option maxHeartbeats 1000000 in
theorem leave_wrongEqual {p1 p2 : Value} {v m l g v' m' l' g' : BitVec 64} (hr : Hid ((valB v m l g && valB v' m' l' g') = false)) (w : World) :
    Calls Try.prog 91 #[Vl v m l g, Vl v' m' l' g', .func (.func 92) #[] #[p1, p2]] w fun e w' => e = .returned (.tuple #[V0, V0, .bool false, N 1]) ∧ Below w.heap.size w w' := by
  obtain ⟨z1, H1⟩ : ∃ b, Hid (valB v m l g = b) := ⟨_, rfl⟩
  obtain ⟨z2, H2⟩ : ∃ b, Hid (valB v' m' l' g' = b) := ⟨_, rfl⟩
  rw [H1.out, H2.out] at hr
  go_enter Try.func91, Try.ntmps91
  go_wp2_with fail
  refine (vcheck2 H1 H2 (by simp) (by simp [go_sem]) (by simp [go_sem]) (by simp [go_sem]) (by simp [go_sem]) (by simp [go_sem]) (by simp [go_sem]) (by simp [go_sem]) (by simp [go_sem])).mono ?_
  rw [hr.out, er_f]
  rintro e w1 ⟨rfl, hb1⟩
  have hK := ((((((Kp.start w).add4 _ _ _ _ _).add4 _ _ _ _ _).add4 _ _ _ _ _).add4 _ _ _ _ _).keep ((Below.refl _ _).alloc (Nat.le_refl _) _)).keep hb1
  simp only [World.size_alloc] at hK
  obtain ⟨s0, s1, s2, s3, s4, s5, s6, s7, s8⟩ := hK.box.head.four
  obtain ⟨r0, r1, r2, r3, r4, r5, r6, r7, r8⟩ := hK.box.tail.head.four
  obtain ⟨b0, b1, b2, b3, b4, b5, b6, b7, b8⟩ := hK.box.tail.tail.head.four
  obtain ⟨a0, a1, a2, a3, a4, a5, a6, a7, a8⟩ := hK.box.tail.tail.tail.head.four
  go_wp2_with fail
  exact bodyPost_ret (v := .tuple #[V0, V0, .bool false, N 1]) (by simp [results, Try.results91, go_sem, nv_zero, s0, s1, s2, s3, r0, r1, r2, r3]) rfl ⟨rfl, ((hK.set4 1 rfl).set4 0 rfl).bel⟩
set_option maxRecDepth 100000 in
set_option maxHeartbeats 4000000 in
theorem leave_Equal {p1 p2 : Value} {v m l g v' m' l' g' a b c d a' b' c' d' x y z t x' y' z' t' : BitVec 64} {may i1 i2 : Bool} {e1 e2 : Int} (hr : Hid ((valB v m l g && valB v' m' l' g') = true)) (w : World)
    (HR : Hid (∀ w', Below w.heap.size w w' → Calls Try.prog 92 #[p1, p2] w' fun e w'' => e = .returned (.tuple #[Vl a b c d, Vl a' b' c' d', .bool may]) ∧ Below w'.heap.size w' w''))
    (N1 : Hid (∀ w, Calls Try.prog 31 #[Vl a b c d] w fun e w' => e = .returned (.tuple #[Vl x y z t, .bool i1, N e1]) ∧ Below w.heap.size w w'))
    (N2 : Hid (∀ w, Calls Try.prog 31 #[Vl a' b' c' d'] w fun e w' => e = .returned (.tuple #[Vl x' y' z' t', .bool i2, N e2]) ∧ Below w.heap.size w w')) :
    Calls Try.prog 91 #[Vl v m l g, Vl v' m' l' g', .func (.func 92) #[] #[p1, p2]] w fun e w' => e = .returned (.tuple #[lv (may && (i1 && i2)) (Vl x y z t), lv (may && (i1 && i2)) (Vl x' y' z' t'), .bool (may && (i1 && i2)), N 0]) ∧ Below w.heap.size w w' := by
  obtain ⟨z1, H1⟩ : ∃ b, Hid (valB v m l g = b) := ⟨_, rfl⟩
  obtain ⟨z2, H2⟩ : ∃ b, Hid (valB v' m' l' g' = b) := ⟨_, rfl⟩
  rw [H1.out, H2.out] at hr
  obtain ⟨q, hq⟩ : ∃ q, Hid (q = (may && (i1 && i2))) := ⟨_, rfl⟩
  rw [← hq.out]
  go_enter Try.func91, Try.ntmps91
  go_wp2_with fail
  refine (vcheck2 H1 H2 (by simp) (by simp [go_sem]) (by simp [go_sem]) (by simp [go_sem]) (by simp [go_sem]) (by simp [go_sem]) (by simp [go_sem]) (by simp [go_sem]) (by simp [go_sem])).mono ?_
  rw [hr.out, er_t]
  rintro e w1 ⟨rfl, hb1⟩
  have hK := ((((((Kp.start w).add4 _ _ _ _ _).add4 _ _ _ _ _).add4 _ _ _ _ _).add4 _ _ _ _ _).keep ((Below.refl _ _).alloc (Nat.le_refl _) _)).keep hb1
  simp only [World.size_alloc] at hK
  clear hb1
  go_wp2_with fail
  refine (HR.out _ hK.bel).mono ?_
  rintro e w2 ⟨rfl, hb2⟩
  have hK2 := hK.keep hb2
  have hK3 := (hK2.set4 (x := U a) (y := U b) (z := U c) (t := U d) 3 rfl).set4 (x := U a') (y := U b') (z := U c') (t := U d') 2 rfl
  obtain ⟨s0, s1, s2, s3, s4, s5, s6, s7, s8⟩ := hK2.box.head.four
  obtain ⟨r0, r1, r2, r3, r4, r5, r6, r7, r8⟩ := hK2.box.tail.head.four
  obtain ⟨b0, b1, b2, b3, b4, b5, b6, b7, b8⟩ := hK2.box.tail.tail.head.four
  obtain ⟨a0, a1, a2, a3, a4, a5, a6, a7, a8⟩ := hK2.box.tail.tail.tail.head.four
  clear hb2 hK
  go_wp2_with fail
  refine (N1.out _).mono ?_
  rintro e w3 ⟨rfl, hb3⟩
  have hK4 := hK3.keep hb3
  have hK5 := hK4.set4 (x := U x) (y := U y) (z := U z) (t := U t) 3 rfl
  clear s0 s1 s2 s3 s4 s5 s6 s7 s8 r0 r1 r2 r3 r4 r5 r6 r7 r8 b0 b1 b2 b3 b4 b5 b6 b7 b8 a0 a1 a2 a3 a4 a5 a6 a7 a8
  obtain ⟨s0, s1, s2, s3, s4, s5, s6, s7, s8⟩ := hK4.box.head.four
  obtain ⟨r0, r1, r2, r3, r4, r5, r6, r7, r8⟩ := hK4.box.tail.head.four
  obtain ⟨b0, b1, b2, b3, b4, b5, b6, b7, b8⟩ := hK4.box.tail.tail.head.four
  obtain ⟨a0, a1, a2, a3, a4, a5, a6, a7, a8⟩ := hK4.box.tail.tail.tail.head.four
  clear hb3 hK2 hK3
  go_wp2_with fail
  refine (N2.out _).mono ?_
  rintro e w4 ⟨rfl, hb4⟩
  have hK6 := hK5.keep hb4
  have hK7 := hK6.set4 (x := U x') (y := U y') (z := U z') (t := U t') 2 rfl
  clear s0 s1 s2 s3 s4 s5 s6 s7 s8 r0 r1 r2 r3 r4 r5 r6 r7 r8 b0 b1 b2 b3 b4 b5 b6 b7 b8 a0 a1 a2 a3 a4 a5 a6 a7 a8
  obtain ⟨s0, s1, s2, s3, s4, s5, s6, s7, s8⟩ := hK6.box.head.four
  obtain ⟨r0, r1, r2, r3, r4, r5, r6, r7, r8⟩ := hK6.box.tail.head.four
  obtain ⟨b0, b1, b2, b3, b4, b5, b6, b7, b8⟩ := hK6.box.tail.tail.head.four
  obtain ⟨a0, a1, a2, a3, a4, a5, a6, a7, a8⟩ := hK6.box.tail.tail.tail.head.four
  clear hb4 hK4 hK5
  go_upto_region 7 with fail
  clear s0 s1 s2 s3 s4 s5 s6 s7 s8 r0 r1 r2 r3 r4 r5 r6 r7 r8 b0 b1 b2 b3 b4 b5 b6 b7 b8 a0 a1 a2 a3 a4 a5 a6 a7 a8
  clear hK6
  go_cut [52] (fun u wc => u = .bool (!q) ∧ Kp w wc [(w.heap.size + 1 + 1 + 1, [.int .u64 0, .int .u64 0, .int .u64 0, .int .u64 0]), (w.heap.size + 1 + 1, [.int .u64 0, .int .u64 0, .int .u64 0, .int .u64 0]), (w.heap.size + 1, [U x', U y', U z', U t']), (w.heap.size, [U x, U y, U z, U t])])
  case first =>
    cases may
    · go_wp2_with fail
      go_meet
      case rel => exact ⟨by rw [hq.out]; rfl, hK7⟩
    · cases i1
      · go_wp2_with fail
        go_meet
        case rel => exact ⟨by rw [hq.out]; rfl, hK7⟩
      · cases i2
        all_goals
          go_wp2_with fail
          go_meet
          case rel => exact ⟨by rw [hq.out]; rfl, hK7⟩
  case rest =>
    clear hK7 hq
    obtain ⟨rfl, hK8⟩ := hcut
    obtain ⟨s0, s1, s2, s3, s4, s5, s6, s7, s8⟩ := hK8.box.head.four
    obtain ⟨r0, r1, r2, r3, r4, r5, r6, r7, r8⟩ := hK8.box.tail.head.four
    obtain ⟨b0, b1, b2, b3, b4, b5, b6, b7, b8⟩ := hK8.box.tail.tail.head.four
    obtain ⟨a0, a1, a2, a3, a4, a5, a6, a7, a8⟩ := hK8.box.tail.tail.tail.head.four
    cases q
    · go_wp2_with fail
      exact bodyPost_ret (v := .tuple #[V0, V0, .bool false, N 0]) (by simp [results, Try.results91, go_sem, nv_zero, s0, s1, s2, s3, r0, r1, r2, r3]) rfl ⟨rfl, ((hK8.set4 1 rfl).set4 0 rfl).bel⟩
    · go_wp2_with fail
      go_region
      all_goals
        go_wp2_with fail
        exact bodyPost_ret (v := .tuple #[Vl x y z t, Vl x' y' z' t', .bool true, N 0]) (by simp [results, Try.results91, go_sem, s0, s1, s2, s3, r0, r1, r2, r3]) rfl ⟨rfl, Below.drew ((hK8.set4 1 rfl).set4 0 rfl).bel⟩

set_option maxRecDepth 100000 in
set_option maxHeartbeats 1000000 in
theorem leave_wrongOther {p1 p2 : Value} {v m l g v' m' l' g' : BitVec 64} (hr : Hid ((valB v m l g && valB v' m' l' g') = false)) (w : World) :
    Calls Try.prog 91 #[Vl v m l g, Vl v' m' l' g', .func (.func 93) #[] #[p1, p2]] w fun e w' => e = .returned (.tuple #[V0, V0, .bool false, N 1]) ∧ Below w.heap.size w w' := by
  obtain ⟨z1, H1⟩ : ∃ b, Hid (valB v m l g = b) := ⟨_, rfl⟩
  obtain ⟨z2, H2⟩ : ∃ b, Hid (valB v' m' l' g' = b) := ⟨_, rfl⟩
  rw [H1.out, H2.out] at hr
  go_enter Try.func91, Try.ntmps91
  go_wp2_with fail
  refine (vcheck2 H1 H2 (by simp) (by simp [go_sem]) (by simp [go_sem]) (by simp [go_sem]) (by simp [go_sem]) (by simp [go_sem]) (by simp [go_sem]) (by simp [go_sem]) (by simp [go_sem])).mono ?_
  rw [hr.out, er_f]
  rintro e w1 ⟨rfl, hb1⟩
  have hK := ((((((Kp.start w).add4 _ _ _ _ _).add4 _ _ _ _ _).add4 _ _ _ _ _).add4 _ _ _ _ _).keep ((Below.refl _ _).alloc (Nat.le_refl _) _)).keep hb1
  simp only [World.size_alloc] at hK
  obtain ⟨s0, s1, s2, s3, s4, s5, s6, s7, s8⟩ := hK.box.head.four
  obtain ⟨r0, r1, r2, r3, r4, r5, r6, r7, r8⟩ := hK.box.tail.head.four
  obtain ⟨b0, b1, b2, b3, b4, b5, b6, b7, b8⟩ := hK.box.tail.tail.head.four
  obtain ⟨a0, a1, a2, a3, a4, a5, a6, a7, a8⟩ := hK.box.tail.tail.tail.head.four
  go_wp2_with fail
  exact bodyPost_ret (v := .tuple #[V0, V0, .bool false, N 1]) (by simp [results, Try.results91, go_sem, nv_zero, s0, s1, s2, s3, r0, r1, r2, r3]) rfl ⟨rfl, ((hK.set4 1 rfl).set4 0 rfl).bel⟩
set_option maxRecDepth 100000 in
set_option maxHeartbeats 4000000 in
theorem leave_Other {p1 p2 : Value} {v m l g v' m' l' g' a b c d a' b' c' d' x y z t x' y' z' t' : BitVec 64} {may i1 i2 : Bool} {e1 e2 : Int} (hr : Hid ((valB v m l g && valB v' m' l' g') = true)) (w : World)
    (HR : Hid (∀ w', Below w.heap.size w w' → Calls Try.prog 93 #[p1, p2] w' fun e w'' => e = .returned (.tuple #[Vl a b c d, Vl a' b' c' d', .bool may]) ∧ Below w'.heap.size w' w''))
    (N1 : Hid (∀ w, Calls Try.prog 31 #[Vl a b c d] w fun e w' => e = .returned (.tuple #[Vl x y z t, .bool i1, N e1]) ∧ Below w.heap.size w w'))
    (N2 : Hid (∀ w, Calls Try.prog 31 #[Vl a' b' c' d'] w fun e w' => e = .returned (.tuple #[Vl x' y' z' t', .bool i2, N e2]) ∧ Below w.heap.size w w')) :
    Calls Try.prog 91 #[Vl v m l g, Vl v' m' l' g', .func (.func 93) #[] #[p1, p2]] w fun e w' => e = .returned (.tuple #[lv (may && (i1 && i2)) (Vl x y z t), lv (may && (i1 && i2)) (Vl x' y' z' t'), .bool (may && (i1 && i2)), N 0]) ∧ Below w.heap.size w w' := by
  obtain ⟨z1, H1⟩ : ∃ b, Hid (valB v m l g = b) := ⟨_, rfl⟩
  obtain ⟨z2, H2⟩ : ∃ b, Hid (valB v' m' l' g' = b) := ⟨_, rfl⟩
  rw [H1.out, H2.out] at hr
  obtain ⟨q, hq⟩ : ∃ q, Hid (q = (may && (i1 && i2))) := ⟨_, rfl⟩
  rw [← hq.out]
  go_enter Try.func91, Try.ntmps91
  go_wp2_with fail
  refine (vcheck2 H1 H2 (by simp) (by simp [go_sem]) (by simp [go_sem]) (by simp [go_sem]) (by simp [go_sem]) (by simp [go_sem]) (by simp [go_sem]) (by simp [go_sem]) (by simp [go_sem])).mono ?_
  rw [hr.out, er_t]
  rintro e w1 ⟨rfl, hb1⟩
  have hK := ((((((Kp.start w).add4 _ _ _ _ _).add4 _ _ _ _ _).add4 _ _ _ _ _).add4 _ _ _ _ _).keep ((Below.refl _ _).alloc (Nat.le_refl _) _)).keep hb1
  simp only [World.size_alloc] at hK
  clear hb1
  go_wp2_with fail
  refine (HR.out _ hK.bel).mono ?_
  rintro e w2 ⟨rfl, hb2⟩
  have hK2 := hK.keep hb2
  have hK3 := (hK2.set4 (x := U a) (y := U b) (z := U c) (t := U d) 3 rfl).set4 (x := U a') (y := U b') (z := U c') (t := U d') 2 rfl
  obtain ⟨s0, s1, s2, s3, s4, s5, s6, s7, s8⟩ := hK2.box.head.four
  obtain ⟨r0, r1, r2, r3, r4, r5, r6, r7, r8⟩ := hK2.box.tail.head.four
  obtain ⟨b0, b1, b2, b3, b4, b5, b6, b7, b8⟩ := hK2.box.tail.tail.head.four
  obtain ⟨a0, a1, a2, a3, a4, a5, a6, a7, a8⟩ := hK2.box.tail.tail.tail.head.four
  clear hb2 hK
  go_wp2_with fail
  refine (N1.out _).mono ?_
  rintro e w3 ⟨rfl, hb3⟩
  have hK4 := hK3.keep hb3
  have hK5 := hK4.set4 (x := U x) (y := U y) (z := U z) (t := U t) 3 rfl
  clear s0 s1 s2 s3 s4 s5 s6 s7 s8 r0 r1 r2 r3 r4 r5 r6 r7 r8 b0 b1 b2 b3 b4 b5 b6 b7 b8 a0 a1 a2 a3 a4 a5 a6 a7 a8
  obtain ⟨s0, s1, s2, s3, s4, s5, s6, s7, s8⟩ := hK4.box.head.four
  obtain ⟨r0, r1, r2, r3, r4, r5, r6, r7, r8⟩ := hK4.box.tail.head.four
  obtain ⟨b0, b1, b2, b3, b4, b5, b6, b7, b8⟩ := hK4.box.tail.tail.head.four
  obtain ⟨a0, a1, a2, a3, a4, a5, a6, a7, a8⟩ := hK4.box.tail.tail.tail.head.four
  clear hb3 hK2 hK3
  go_wp2_with fail
  refine (N2.out _).mono ?_
  rintro e w4 ⟨rfl, hb4⟩
  have hK6 := hK5.keep hb4
  have hK7 := hK6.set4 (x := U x') (y := U y') (z := U z') (t := U t') 2 rfl
  clear s0 s1 s2 s3 s4 s5 s6 s7 s8 r0 r1 r2 r3 r4 r5 r6 r7 r8 b0 b1 b2 b3 b4 b5 b6 b7 b8 a0 a1 a2 a3 a4 a5 a6 a7 a8
  obtain ⟨s0, s1, s2, s3, s4, s5, s6, s7, s8⟩ := hK6.box.head.four
  obtain ⟨r0, r1, r2, r3, r4, r5, r6, r7, r8⟩ := hK6.box.tail.head.four
  obtain ⟨b0, b1, b2, b3, b4, b5, b6, b7, b8⟩ := hK6.box.tail.tail.head.four
  obtain ⟨a0, a1, a2, a3, a4, a5, a6, a7, a8⟩ := hK6.box.tail.tail.tail.head.four
  clear hb4 hK4 hK5
  go_upto_region 7 with fail
  clear s0 s1 s2 s3 s4 s5 s6 s7 s8 r0 r1 r2 r3 r4 r5 r6 r7 r8 b0 b1 b2 b3 b4 b5 b6 b7 b8 a0 a1 a2 a3 a4 a5 a6 a7 a8
  clear hK6
  go_cut [52] (fun u wc => u = .bool (!q) ∧ Kp w wc [(w.heap.size + 1 + 1 + 1, [.int .u64 0, .int .u64 0, .int .u64 0, .int .u64 0]), (w.heap.size + 1 + 1, [.int .u64 0, .int .u64 0, .int .u64 0, .int .u64 0]), (w.heap.size + 1, [U x', U y', U z', U t']), (w.heap.size, [U x, U y, U z, U t])])
  case first =>
    cases may
    · go_wp2_with fail
      go_meet
      case rel => exact ⟨by rw [hq.out]; rfl, hK7⟩
    · cases i1
      · go_wp2_with fail
        go_meet
        case rel => exact ⟨by rw [hq.out]; rfl, hK7⟩
      · cases i2
        all_goals
          go_wp2_with fail
          go_meet
          case rel => exact ⟨by rw [hq.out]; rfl, hK7⟩
  case rest =>
    clear hK7 hq
    obtain ⟨rfl, hK8⟩ := hcut
    obtain ⟨s0, s1, s2, s3, s4, s5, s6, s7, s8⟩ := hK8.box.head.four
    obtain ⟨r0, r1, r2, r3, r4, r5, r6, r7, r8⟩ := hK8.box.tail.head.four
    obtain ⟨b0, b1, b2, b3, b4, b5, b6, b7, b8⟩ := hK8.box.tail.tail.head.four
    obtain ⟨a0, a1, a2, a3, a4, a5, a6, a7, a8⟩ := hK8.box.tail.tail.tail.head.four
    cases q
    · go_wp2_with fail
      exact bodyPost_ret (v := .tuple #[V0, V0, .bool false, N 0]) (by simp [results, Try.results91, go_sem, nv_zero, s0, s1, s2, s3, r0, r1, r2, r3]) rfl ⟨rfl, ((hK8.set4 1 rfl).set4 0 rfl).bel⟩
    · go_wp2_with fail
      go_region
      all_goals
        go_wp2_with fail
        exact bodyPost_ret (v := .tuple #[Vl x y z t, Vl x' y' z' t', .bool true, N 0]) (by simp [results, Try.results91, go_sem, s0, s1, s2, s3, r0, r1, r2, r3]) rfl ⟨rfl, Below.drew ((hK8.set4 1 rfl).set4 0 rfl).bel⟩

set_option maxRecDepth 100000 in
set_option maxHeartbeats 1000000 in
theorem leave_wrongLess {p1 p2 : Value} {v m l g v' m' l' g' : BitVec 64} (hr : Hid ((valB v m l g && valB v' m' l' g') = false)) (w : World) :
    Calls Try.prog 91 #[Vl v m l g, Vl v' m' l' g', .func (.func 96) #[] #[p1, p2]] w fun e w' => e = .returned (.tuple #[V0, V0, .bool false, N 1]) ∧ Below w.heap.size w w' := by
  obtain ⟨z1, H1⟩ : ∃ b, Hid (valB v m l g = b) := ⟨_, rfl⟩
  obtain ⟨z2, H2⟩ : ∃ b, Hid (valB v' m' l' g' = b) := ⟨_, rfl⟩
  rw [H1.out, H2.out] at hr
  go_enter Try.func91, Try.ntmps91
  go_wp2_with fail
  refine (vcheck2 H1 H2 (by simp) (by simp [go_sem]) (by simp [go_sem]) (by simp [go_sem]) (by simp [go_sem]) (by simp [go_sem]) (by simp [go_sem]) (by simp [go_sem]) (by simp [go_sem])).mono ?_
  rw [hr.out, er_f]
  rintro e w1 ⟨rfl, hb1⟩
  have hK := ((((((Kp.start w).add4 _ _ _ _ _).add4 _ _ _ _ _).add4 _ _ _ _ _).add4 _ _ _ _ _).keep ((Below.refl _ _).alloc (Nat.le_refl _) _)).keep hb1
  simp only [World.size_alloc] at hK
  obtain ⟨s0, s1, s2, s3, s4, s5, s6, s7, s8⟩ := hK.box.head.four
  obtain ⟨r0, r1, r2, r3, r4, r5, r6, r7, r8⟩ := hK.box.tail.head.four
  obtain ⟨b0, b1, b2, b3, b4, b5, b6, b7, b8⟩ := hK.box.tail.tail.head.four
  obtain ⟨a0, a1, a2, a3, a4, a5, a6, a7, a8⟩ := hK.box.tail.tail.tail.head.four
  go_wp2_with fail
  exact bodyPost_ret (v := .tuple #[V0, V0, .bool false, N 1]) (by simp [results, Try.results91, go_sem, nv_zero, s0, s1, s2, s3, r0, r1, r2, r3]) rfl ⟨rfl, ((hK.set4 1 rfl).set4 0 rfl).bel⟩
set_option maxRecDepth 100000 in
set_option maxHeartbeats 4000000 in
theorem leave_Less {p1 p2 : Value} {v m l g v' m' l' g' a b c d a' b' c' d' x y z t x' y' z' t' : BitVec 64} {may i1 i2 : Bool} {e1 e2 : Int} (hr : Hid ((valB v m l g && valB v' m' l' g') = true)) (w : World)
    (HR : Hid (∀ w', Below w.heap.size w w' → Calls Try.prog 96 #[p1, p2] w' fun e w'' => e = .returned (.tuple #[Vl a b c d, Vl a' b' c' d', .bool may]) ∧ Below w'.heap.size w' w''))
    (N1 : Hid (∀ w, Calls Try.prog 31 #[Vl a b c d] w fun e w' => e = .returned (.tuple #[Vl x y z t, .bool i1, N e1]) ∧ Below w.heap.size w w'))
    (N2 : Hid (∀ w, Calls Try.prog 31 #[Vl a' b' c' d'] w fun e w' => e = .returned (.tuple #[Vl x' y' z' t', .bool i2, N e2]) ∧ Below w.heap.size w w')) :
    Calls Try.prog 91 #[Vl v m l g, Vl v' m' l' g', .func (.func 96) #[] #[p1, p2]] w fun e w' => e = .returned (.tuple #[lv (may && (i1 && i2)) (Vl x y z t), lv (may && (i1 && i2)) (Vl x' y' z' t'), .bool (may && (i1 && i2)), N 0]) ∧ Below w.heap.size w w' := by
  obtain ⟨z1, H1⟩ : ∃ b, Hid (valB v m l g = b) := ⟨_, rfl⟩
  obtain ⟨z2, H2⟩ : ∃ b, Hid (valB v' m' l' g' = b) := ⟨_, rfl⟩
  rw [H1.out, H2.out] at hr
  obtain ⟨q, hq⟩ : ∃ q, Hid (q = (may && (i1 && i2))) := ⟨_, rfl⟩
  rw [← hq.out]
  go_enter Try.func91, Try.ntmps91
  go_wp2_with fail
  refine (vcheck2 H1 H2 (by simp) (by simp [go_sem]) (by simp [go_sem]) (by simp [go_sem]) (by simp [go_sem]) (by simp [go_sem]) (by simp [go_sem]) (by simp [go_sem]) (by simp [go_sem])).mono ?_
  rw [hr.out, er_t]
  rintro e w1 ⟨rfl, hb1⟩
  have hK := ((((((Kp.start w).add4 _ _ _ _ _).add4 _ _ _ _ _).add4 _ _ _ _ _).add4 _ _ _ _ _).keep ((Below.refl _ _).alloc (Nat.le_refl _) _)).keep hb1
  simp only [World.size_alloc] at hK
  clear hb1
  go_wp2_with fail
  refine (HR.out _ hK.bel).mono ?_
  rintro e w2 ⟨rfl, hb2⟩
  have hK2 := hK.keep hb2
  have hK3 := (hK2.set4 (x := U a) (y := U b) (z := U c) (t := U d) 3 rfl).set4 (x := U a') (y := U b') (z := U c') (t := U d') 2 rfl
  obtain ⟨s0, s1, s2, s3, s4, s5, s6, s7, s8⟩ := hK2.box.head.four
  obtain ⟨r0, r1, r2, r3, r4, r5, r6, r7, r8⟩ := hK2.box.tail.head.four
  obtain ⟨b0, b1, b2, b3, b4, b5, b6, b7, b8⟩ := hK2.box.tail.tail.head.four
  obtain ⟨a0, a1, a2, a3, a4, a5, a6, a7, a8⟩ := hK2.box.tail.tail.tail.head.four
  clear hb2 hK
  go_wp2_with fail
  refine (N1.out _).mono ?_
  rintro e w3 ⟨rfl, hb3⟩
  have hK4 := hK3.keep hb3
  have hK5 := hK4.set4 (x := U x) (y := U y) (z := U z) (t := U t) 3 rfl
  clear s0 s1 s2 s3 s4 s5 s6 s7 s8 r0 r1 r2 r3 r4 r5 r6 r7 r8 b0 b1 b2 b3 b4 b5 b6 b7 b8 a0 a1 a2 a3 a4 a5 a6 a7 a8
  obtain ⟨s0, s1, s2, s3, s4, s5, s6, s7, s8⟩ := hK4.box.head.four
  obtain ⟨r0, r1, r2, r3, r4, r5, r6, r7, r8⟩ := hK4.box.tail.head.four
  obtain ⟨b0, b1, b2, b3, b4, b5, b6, b7, b8⟩ := hK4.box.tail.tail.head.four
  obtain ⟨a0, a1, a2, a3, a4, a5, a6, a7, a8⟩ := hK4.box.tail.tail.tail.head.four
  clear hb3 hK2 hK3
  go_wp2_with fail
  refine (N2.out _).mono ?_
  rintro e w4 ⟨rfl, hb4⟩
  have hK6 := hK5.keep hb4
  have hK7 := hK6.set4 (x := U x') (y := U y') (z := U z') (t := U t') 2 rfl
  clear s0 s1 s2 s3 s4 s5 s6 s7 s8 r0 r1 r2 r3 r4 r5 r6 r7 r8 b0 b1 b2 b3 b4 b5 b6 b7 b8 a0 a1 a2 a3 a4 a5 a6 a7 a8
  obtain ⟨s0, s1, s2, s3, s4, s5, s6, s7, s8⟩ := hK6.box.head.four
  obtain ⟨r0, r1, r2, r3, r4, r5, r6, r7, r8⟩ := hK6.box.tail.head.four
  obtain ⟨b0, b1, b2, b3, b4, b5, b6, b7, b8⟩ := hK6.box.tail.tail.head.four
  obtain ⟨a0, a1, a2, a3, a4, a5, a6, a7, a8⟩ := hK6.box.tail.tail.tail.head.four
  clear hb4 hK4 hK5
  go_upto_region 7 with fail
  clear s0 s1 s2 s3 s4 s5 s6 s7 s8 r0 r1 r2 r3 r4 r5 r6 r7 r8 b0 b1 b2 b3 b4 b5 b6 b7 b8 a0 a1 a2 a3 a4 a5 a6 a7 a8
  clear hK6
  go_cut [52] (fun u wc => u = .bool (!q) ∧ Kp w wc [(w.heap.size + 1 + 1 + 1, [.int .u64 0, .int .u64 0, .int .u64 0, .int .u64 0]), (w.heap.size + 1 + 1, [.int .u64 0, .int .u64 0, .int .u64 0, .int .u64 0]), (w.heap.size + 1, [U x', U y', U z', U t']), (w.heap.size, [U x, U y, U z, U t])])
  case first =>
    cases may
    · go_wp2_with fail
      go_meet
      case rel => exact ⟨by rw [hq.out]; rfl, hK7⟩
    · cases i1
      · go_wp2_with fail
        go_meet
        case rel => exact ⟨by rw [hq.out]; rfl, hK7⟩
      · cases i2
        all_goals
          go_wp2_with fail
          go_meet
          case rel => exact ⟨by rw [hq.out]; rfl, hK7⟩
  case rest =>
    clear hK7 hq
    obtain ⟨rfl, hK8⟩ := hcut
    obtain ⟨s0, s1, s2, s3, s4, s5, s6, s7, s8⟩ := hK8.box.head.four
    obtain ⟨r0, r1, r2, r3, r4, r5, r6, r7, r8⟩ := hK8.box.tail.head.four
    obtain ⟨b0, b1, b2, b3, b4, b5, b6, b7, b8⟩ := hK8.box.tail.tail.head.four
    obtain ⟨a0, a1, a2, a3, a4, a5, a6, a7, a8⟩ := hK8.box.tail.tail.tail.head.four
    cases q
    · go_wp2_with fail
      exact bodyPost_ret (v := .tuple #[V0, V0, .bool false, N 0]) (by simp [results, Try.results91, go_sem, nv_zero, s0, s1, s2, s3, r0, r1, r2, r3]) rfl ⟨rfl, ((hK8.set4 1 rfl).set4 0 rfl).bel⟩
    · go_wp2_with fail
      go_region
      all_goals
        go_wp2_with fail
        exact bodyPost_ret (v := .tuple #[Vl x y z t, Vl x' y' z' t', .bool true, N 0]) (by simp [results, Try.results91, go_sem, s0, s1, s2, s3, r0, r1, r2, r3]) rfl ⟨rfl, Below.drew ((hK8.set4 1 rfl).set4 0 rfl).bel⟩

set_option maxRecDepth 100000 in
set_option maxHeartbeats 1000000 in
theorem leave_wrongNotLess {p1 p2 : Value} {v m l g v' m' l' g' : BitVec 64} (hr : Hid ((valB v m l g && valB v' m' l' g') = false)) (w : World) :
    Calls Try.prog 91 #[Vl v m l g, Vl v' m' l' g', .func (.func 98) #[] #[p1, p2]] w fun e w' => e = .returned (.tuple #[V0, V0, .bool false, N 1]) ∧ Below w.heap.size w w' := by
  obtain ⟨z1, H1⟩ : ∃ b, Hid (valB v m l g = b) := ⟨_, rfl⟩
  obtain ⟨z2, H2⟩ : ∃ b, Hid (valB v' m' l' g' = b) := ⟨_, rfl⟩
  rw [H1.out, H2.out] at hr
  go_enter Try.func91, Try.ntmps91
  go_wp2_with fail
  refine (vcheck2 H1 H2 (by simp) (by simp [go_sem]) (by simp [go_sem]) (by simp [go_sem]) (by simp [go_sem]) (by simp [go_sem]) (by simp [go_sem]) (by simp [go_sem]) (by simp [go_sem])).mono ?_
  rw [hr.out, er_f]
  rintro e w1 ⟨rfl, hb1⟩
  have hK := ((((((Kp.start w).add4 _ _ _ _ _).add4 _ _ _ _ _).add4 _ _ _ _ _).add4 _ _ _ _ _).keep ((Below.refl _ _).alloc (Nat.le_refl _) _)).keep hb1
  simp only [World.size_alloc] at hK
  obtain ⟨s0, s1, s2, s3, s4, s5, s6, s7, s8⟩ := hK.box.head.four
  obtain ⟨r0, r1, r2, r3, r4, r5, r6, r7, r8⟩ := hK.box.tail.head.four
  obtain ⟨b0, b1, b2, b3, b4, b5, b6, b7, b8⟩ := hK.box.tail.tail.head.four
  obtain ⟨a0, a1, a2, a3, a4, a5, a6, a7, a8⟩ := hK.box.tail.tail.tail.head.four
  go_wp2_with fail
  exact bodyPost_ret (v := .tuple #[V0, V0, .bool false, N 1]) (by simp [results, Try.results91, go_sem, nv_zero, s0, s1, s2, s3, r0, r1, r2, r3]) rfl ⟨rfl, ((hK.set4 1 rfl).set4 0 rfl).bel⟩
set_option maxRecDepth 100000 in
set_option maxHeartbeats 4000000 in
theorem leave_NotLess {p1 p2 : Value} {v m l g v' m' l' g' a b c d a' b' c' d' x y z t x' y' z' t' : BitVec 64} {may i1 i2 : Bool} {e1 e2 : Int} (hr : Hid ((valB v m l g && valB v' m' l' g') = true)) (w : World)
    (HR : Hid (∀ w', Below w.heap.size w w' → Calls Try.prog 98 #[p1, p2] w' fun e w'' => e = .returned (.tuple #[Vl a b c d, Vl a' b' c' d', .bool may]) ∧ Below w'.heap.size w' w''))
    (N1 : Hid (∀ w, Calls Try.prog 31 #[Vl a b c d] w fun e w' => e = .returned (.tuple #[Vl x y z t, .bool i1, N e1]) ∧ Below w.heap.size w w'))
    (N2 : Hid (∀ w, Calls Try.prog 31 #[Vl a' b' c' d'] w fun e w' => e = .returned (.tuple #[Vl x' y' z' t', .bool i2, N e2]) ∧ Below w.heap.size w w')) :
    Calls Try.prog 91 #[Vl v m l g, Vl v' m' l' g', .func (.func 98) #[] #[p1, p2]] w fun e w' => e = .returned (.tuple #[lv (may && (i1 && i2)) (Vl x y z t), lv (may && (i1 && i2)) (Vl x' y' z' t'), .bool (may && (i1 && i2)), N 0]) ∧ Below w.heap.size w w' := by
  obtain ⟨z1, H1⟩ : ∃ b, Hid (valB v m l g = b) := ⟨_, rfl⟩
  obtain ⟨z2, H2⟩ : ∃ b, Hid (valB v' m' l' g' = b) := ⟨_, rfl⟩
  rw [H1.out, H2.out] at hr
  obtain ⟨q, hq⟩ : ∃ q, Hid (q = (may && (i1 && i2))) := ⟨_, rfl⟩
  rw [← hq.out]
  go_enter Try.func91, Try.ntmps91
  go_wp2_with fail
  refine (vcheck2 H1 H2 (by simp) (by simp [go_sem]) (by simp [go_sem]) (by simp [go_sem]) (by simp [go_sem]) (by simp [go_sem]) (by simp [go_sem]) (by simp [go_sem]) (by simp [go_sem])).mono ?_
  rw [hr.out, er_t]
  rintro e w1 ⟨rfl, hb1⟩
  have hK := ((((((Kp.start w).add4 _ _ _ _ _).add4 _ _ _ _ _).add4 _ _ _ _ _).add4 _ _ _ _ _).keep ((Below.refl _ _).alloc (Nat.le_refl _) _)).keep hb1
  simp only [World.size_alloc] at hK
  clear hb1
  go_wp2_with fail
  refine (HR.out _ hK.bel).mono ?_
  rintro e w2 ⟨rfl, hb2⟩
  have hK2 := hK.keep hb2
  have hK3 := (hK2.set4 (x := U a) (y := U b) (z := U c) (t := U d) 3 rfl).set4 (x := U a') (y := U b') (z := U c') (t := U d') 2 rfl
  obtain ⟨s0, s1, s2, s3, s4, s5, s6, s7, s8⟩ := hK2.box.head.four
  obtain ⟨r0, r1, r2, r3, r4, r5, r6, r7, r8⟩ := hK2.box.tail.head.four
  obtain ⟨b0, b1, b2, b3, b4, b5, b6, b7, b8⟩ := hK2.box.tail.tail.head.four
  obtain ⟨a0, a1, a2, a3, a4, a5, a6, a7, a8⟩ := hK2.box.tail.tail.tail.head.four
  clear hb2 hK
  go_wp2_with fail
  refine (N1.out _).mono ?_
  rintro e w3 ⟨rfl, hb3⟩
  have hK4 := hK3.keep hb3
  have hK5 := hK4.set4 (x := U x) (y := U y) (z := U z) (t := U t) 3 rfl
  clear s0 s1 s2 s3 s4 s5 s6 s7 s8 r0 r1 r2 r3 r4 r5 r6 r7 r8 b0 b1 b2 b3 b4 b5 b6 b7 b8 a0 a1 a2 a3 a4 a5 a6 a7 a8
  obtain ⟨s0, s1, s2, s3, s4, s5, s6, s7, s8⟩ := hK4.box.head.four
  obtain ⟨r0, r1, r2, r3, r4, r5, r6, r7, r8⟩ := hK4.box.tail.head.four
  obtain ⟨b0, b1, b2, b3, b4, b5, b6, b7, b8⟩ := hK4.box.tail.tail.head.four
  obtain ⟨a0, a1, a2, a3, a4, a5, a6, a7, a8⟩ := hK4.box.tail.tail.tail.head.four
  clear hb3 hK2 hK3
  go_wp2_with fail
  refine (N2.out _).mono ?_
  rintro e w4 ⟨rfl, hb4⟩
  have hK6 := hK5.keep hb4
  have hK7 := hK6.set4 (x := U x') (y := U y') (z := U z') (t := U t') 2 rfl
  clear s0 s1 s2 s3 s4 s5 s6 s7 s8 r0 r1 r2 r3 r4 r5 r6 r7 r8 b0 b1 b2 b3 b4 b5 b6 b7 b8 a0 a1 a2 a3 a4 a5 a6 a7 a8
  obtain ⟨s0, s1, s2, s3, s4, s5, s6, s7, s8⟩ := hK6.box.head.four
  obtain ⟨r0, r1, r2, r3, r4, r5, r6, r7, r8⟩ := hK6.box.tail.head.four
  obtain ⟨b0, b1, b2, b3, b4, b5, b6, b7, b8⟩ := hK6.box.tail.tail.head.four
  obtain ⟨a0, a1, a2, a3, a4, a5, a6, a7, a8⟩ := hK6.box.tail.tail.tail.head.four
  clear hb4 hK4 hK5
  go_upto_region 7 with fail
  clear s0 s1 s2 s3 s4 s5 s6 s7 s8 r0 r1 r2 r3 r4 r5 r6 r7 r8 b0 b1 b2 b3 b4 b5 b6 b7 b8 a0 a1 a2 a3 a4 a5 a6 a7 a8
  clear hK6
  go_cut [52] (fun u wc => u = .bool (!q) ∧ Kp w wc [(w.heap.size + 1 + 1 + 1, [.int .u64 0, .int .u64 0, .int .u64 0, .int .u64 0]), (w.heap.size + 1 + 1, [.int .u64 0, .int .u64 0, .int .u64 0, .int .u64 0]), (w.heap.size + 1, [U x', U y', U z', U t']), (w.heap.size, [U x, U y, U z, U t])])
  case first =>
    cases may
    · go_wp2_with fail
      go_meet
      case rel => exact ⟨by rw [hq.out]; rfl, hK7⟩
    · cases i1
      · go_wp2_with fail
        go_meet
        case rel => exact ⟨by rw [hq.out]; rfl, hK7⟩
      · cases i2
        all_goals
          go_wp2_with fail
          go_meet
          case rel => exact ⟨by rw [hq.out]; rfl, hK7⟩
  case rest =>
    clear hK7 hq
    obtain ⟨rfl, hK8⟩ := hcut
    obtain ⟨s0, s1, s2, s3, s4, s5, s6, s7, s8⟩ := hK8.box.head.four
    obtain ⟨r0, r1, r2, r3, r4, r5, r6, r7, r8⟩ := hK8.box.tail.head.four
    obtain ⟨b0, b1, b2, b3, b4, b5, b6, b7, b8⟩ := hK8.box.tail.tail.head.four
    obtain ⟨a0, a1, a2, a3, a4, a5, a6, a7, a8⟩ := hK8.box.tail.tail.tail.head.four
    cases q
    · go_wp2_with fail
      exact bodyPost_ret (v := .tuple #[V0, V0, .bool false, N 0]) (by simp [results, Try.results91, go_sem, nv_zero, s0, s1, s2, s3, r0, r1, r2, r3]) rfl ⟨rfl, ((hK8.set4 1 rfl).set4 0 rfl).bel⟩
    · go_wp2_with fail
      go_region
      all_goals
        go_wp2_with fail
        exact bodyPost_ret (v := .tuple #[Vl x y z t, Vl x' y' z' t', .bool true, N 0]) (by simp [results, Try.results91, go_sem, s0, s1, s2, s3, r0, r1, r2, r3]) rfl ⟨rfl, Below.drew ((hK8.set4 1 rfl).set4 0 rfl).bel⟩

end Go.Proofs.Ytkigmocchaikgaa

/- The contract of the reference's JoinVal, of right ones. -/
namespace Go.Proofs.Ytkigmocchaikgaa
open Go.RowKit
attribute [local go_sem] w_and w_or w_xor w_andNot w_and1 w_and63 w_add w_sub w_mul w_sub1 w_add1 w_shl w_shl1 w_shr c_beq c_bne c_beq0 c_bne0 c_beq1 c_bne1 wrap_nv
theorem Kp.drop' {w0 w : World} {p : Nat × List Value} {L : List (Nat × List Value)} (h : Kp w0 w (p :: L)) : Kp w0 w L := ⟨h.bel, h.box.tail, fun q hq => h.lo q (List.mem_cons_of_mem _ hq)⟩
theorem Kp.other1 {w0 w : World} {L : List (Nat × List Value)} (h : Kp w0 w L) {b i : Nat} (v : Value) (hlo : w0.heap.size ≤ b) (hne : ∀ p, p ∈ L → p.1 ≠ b) : Kp w0 (w.setCell ⟨b, i, none⟩ v) L :=
  ⟨h.bel.setCell hlo v, h.box.other hne, h.lo⟩
theorem Kp.other4 {w0 w : World} {L : List (Nat × List Value)} (h : Kp w0 w L) {b : Nat} (x y z t : Value) (hlo : w0.heap.size ≤ b) (hne : ∀ p, p ∈ L → p.1 ≠ b) :
    Kp w0 ((((w.setCell ⟨b, 0, none⟩ x).setCell ⟨b, 1, none⟩ y).setCell ⟨b, 2, none⟩ z).setCell ⟨b, 3, none⟩ t) L :=
  (((h.other1 x hlo hne).other1 y hlo hne).other1 z hlo hne).other1 t hlo hne
end Go.Proofs.Ytkigmocchaikgaa

/- The contracts of the functions that Equal and Less hand to leave. -/
namespace Go.Proofs.Ytkigmocchaikgaa
open Go.RowKit
attribute [local go_sem] w_and w_or w_xor w_andNot w_and1 w_and63 w_add w_sub w_mul w_sub1 w_add1 w_shl w_shl1 w_shr c_beq c_bne c_beq0 c_bne0 c_beq1 c_bne1 wrap_nv

/- the two that are captured -/
def Cap (w : World) (b1 b2 : Nat) (v m l g v' m' l' g' : BitVec 64) : Prop :=
  b1 < w.heap.size ∧ b2 < w.heap.size ∧ w.cell? ⟨b1, 0, none⟩ = some (U v) ∧ w.cell? ⟨b1, 1, none⟩ = some (U m) ∧ w.cell? ⟨b1, 2, none⟩ = some (U l) ∧ w.cell? ⟨b1, 3, none⟩ = some (U g)
  ∧ w.cell? ⟨b2, 0, none⟩ = some (U v') ∧ w.cell? ⟨b2, 1, none⟩ = some (U m') ∧ w.cell? ⟨b2, 2, none⟩ = some (U l') ∧ w.cell? ⟨b2, 3, none⟩ = some (U g')
theorem Cap.keep {w w' : World} {b1 b2 : Nat} {v m l g v' m' l' g' : BitVec 64} (h : Cap w b1 b2 v m l g v' m' l' g') (hb : Below w.heap.size w w') : Cap w' b1 b2 v m l g v' m' l' g' := by
  obtain ⟨s1, s2, a0, a1, a2, a3, c0, c1, c2, c3⟩ := h
  exact ⟨Nat.lt_of_lt_of_le s1 hb.size, Nat.lt_of_lt_of_le s2 hb.size, (hb.cell (p := ⟨b1, 0, none⟩) s1).trans a0, (hb.cell (p := ⟨b1, 1, none⟩) s1).trans a1, (hb.cell (p := ⟨b1, 2, none⟩) s1).trans a2, (hb.cell (p := ⟨b1, 3, none⟩) s1).trans a3,
    (hb.cell (p := ⟨b2, 0, none⟩) s2).trans c0, (hb.cell (p := ⟨b2, 1, none⟩) s2).trans c1, (hb.cell (p := ⟨b2, 2, none⟩) s2).trans c2, (hb.cell (p := ⟨b2, 3, none⟩) s2).trans c3⟩

set_option maxRecDepth 100000 in
set_option maxHeartbeats 4000000 in
theorem equal1_is {b1 b2 : Nat} {v m l g v' m' l' g' kv km lo hi : BitVec 64} {may : Bool} {w : World} (hc : Hid (Cap w b1 b2 v m l g v' m' l' g'))
    (HM : Hid (∀ w, Calls Try.prog 14 #[Bt v m, Bt v' m'] w fun e w' => e = .returned (.tuple #[Bt kv km, .bool may, N 0]) ∧ Below w.heap.size w w'))
    (m1 : Hid (bmax l l' = lo)) (m2 : Hid (bmin g g' = hi)) :
    Calls Try.prog 92 #[PT b1, PT b2] w fun e w' => e = .returned (.tuple #[Vl kv km lo hi, Vl kv km lo hi, .bool may]) ∧ Below w.heap.size w w' := by
  have e1 : (if nv l < nv l' then nv l' else nv l) = nv lo := by rw [← m1.out]; unfold bmax; split <;> rfl
  have e2 : (if nv g' < nv g then nv g' else nv g) = nv hi := by rw [← m2.out]; unfold bmin; split <;> rfl
  obtain ⟨s1, s2, a0, a1, a2, a3, c0, c1, c2, c3⟩ := hc.out
  go_enter Try.func92, Try.ntmps92
  go_wp2_with fail
  refine (HM.out _).mono ?_
  rintro e w1 ⟨rfl, hb1⟩
  have hK := (((Kp.start w).add4 _ _ _ _ _).add4 _ _ _ _ _).keep hb1
  simp only [World.size_alloc] at hK
  have hcc := hc.out.keep hK.bel
  clear s1 s2 a0 a1 a2 a3 c0 c1 c2 c3
  obtain ⟨s1, s2, a0, a1, a2, a3, c0, c1, c2, c3⟩ := hcc
  obtain ⟨t0, t1, t2, t3, t4, t5, t6, t7, t8⟩ := hK.box.head.four
  obtain ⟨r0, r1, r2, r3, r4, r5, r6, r7, r8⟩ := hK.box.tail.head.four
  go_wp2_with fail
  have hK2 := (hK.add2 (U kv) (U km) 24).add4 (U kv) (U km) (U lo) (U hi) 49
  simp only [World.size_alloc] at hK2
  have n1 : w.heap.size ≠ w1.heap.size + 1 := by omega
  have n2 : w1.heap.size + 1 ≠ w.heap.size := by omega
  have n3 : w.heap.size ≠ w1.heap.size := by omega
  have n4 : w1.heap.size ≠ w.heap.size := by omega
  have n5 : w.heap.size + 1 ≠ w1.heap.size := by omega
  have n6 : w1.heap.size ≠ w.heap.size + 1 := by omega
  clear t0 t1 t2 t3 t4 t5 t6 t7 t8 r0 r1 r2 r3 r4 r5 r6 r7 r8
  obtain ⟨k0, k1, k2, k3, k4, k5, k6, k7, k8⟩ := hK2.box.head.four
  obtain ⟨t0, t1, t2, t3, t4, t5, t6, t7, t8⟩ := hK2.box.tail.tail.head.four
  obtain ⟨r0, r1, r2, r3, r4, r5, r6, r7, r8⟩ := hK2.box.tail.tail.tail.head.four
  go_region
  all_goals
    go_wp2_with fail
    refine bodyPost_ret (v := .tuple #[Vl kv km lo hi, Vl kv km lo hi, .bool may]) ?_ rfl ⟨rfl, ?_⟩
    · simp [results, Try.results92, go_sem, t0, t1, t2, t3, r0, r1, r2, r3]
    · exact Below.drew ((hK2.set4 3 rfl).set4 2 rfl).bel

set_option maxRecDepth 100000 in
set_option maxHeartbeats 4000000 in
theorem notLess1_is {b1 b2 : Nat} {v m l g v' m' l' g' : BitVec 64} {w : World} (hc : Hid (Cap w b1 b2 v m l g v' m' l' g')) :
    Calls Try.prog 98 #[PT b1, PT b2] w fun e w' => e = .returned (.tuple #[Vl v m (bmax l l') (bmin g g), Vl v' m' (bmax l' l') (bmin g' g), .bool true]) ∧ Below w.heap.size w w' := by
  obtain ⟨s1, s2, a0, a1, a2, a3, c0, c1, c2, c3⟩ := hc.out
  have hK0 := ((Kp.start w).add4 (.int .u64 0) (.int .u64 0) (.int .u64 0) (.int .u64 0) 49).add4 (.int .u64 0) (.int .u64 0) (.int .u64 0) (.int .u64 0) 49
  simp only [World.size_alloc] at hK0
  go_enter Try.func98, Try.ntmps98
  go_wp2_with fail
  have hS0 : Kp w _ [] := (hK0).drop'.drop'.keep (Below.drew (Below.refl _ _))
  have hR0 := (hK0).keep (Below.drew (Below.refl _ _))
  have HS : Hid (∀ w', Kp w w' [] → Kp w w' [] ∧ w'.cell? ⟨b1, 0, none⟩ = some (U v) ∧ w'.cell? ⟨b1, 1, none⟩ = some (U m) ∧ w'.cell? ⟨b1, 2, none⟩ = some (U l) ∧ w'.cell? ⟨b1, 3, none⟩ = some (U g) ∧ w'.cell? ⟨b2, 0, none⟩ = some (U v') ∧ w'.cell? ⟨b2, 1, none⟩ = some (U m') ∧ w'.cell? ⟨b2, 2, none⟩ = some (U l') ∧ w'.cell? ⟨b2, 3, none⟩ = some (U g')) := by
    intro w' hk
    obtain ⟨_, _, d0, d1, d2, d3, f0, f1, f2, f3⟩ := hc.out.keep hk.bel
    exact ⟨hk, d0, d1, d2, d3, f0, f1, f2, f3⟩
  go_region_held3 (fun w' => Kp w w' [] ∧ w'.cell? ⟨b1, 0, none⟩ = some (U v) ∧ w'.cell? ⟨b1, 1, none⟩ = some (U m) ∧ w'.cell? ⟨b1, 2, none⟩ = some (U l) ∧ w'.cell? ⟨b1, 3, none⟩ = some (U g) ∧ w'.cell? ⟨b2, 0, none⟩ = some (U v') ∧ w'.cell? ⟨b2, 1, none⟩ = some (U m') ∧ w'.cell? ⟨b2, 2, none⟩ = some (U l') ∧ w'.cell? ⟨b2, 3, none⟩ = some (U g'))
    ((refine HS.out _ ?_; repeat (first | refine Kp.other4 ?_ _ _ _ _ (by first | exact Nat.le_refl _ | omega) (by simp) | exact hS0 | refine Kp.keep ?_ (by assumption) | refine Kp.keep ?_ (Below.drew (Below.refl _ _)))))
    (first
      | (go_at_call 97; refine (between_any _ _ _ _ _ _ _).mono ?_; rintro e wk ⟨rfl, hb⟩; first | (have hR2 := hR1.keep hb; obtain ⟨t0, t1, t2, t3, t4, t5, t6, t7, t8⟩ := hR2.box.head.four; obtain ⟨r0, r1, r2, r3, r4, r5, r6, r7, r8⟩ := hR2.box.tail.head.four) | (have hR1 := hR0.keep hb)))
  all_goals
    go_wp2_with fail
    refine bodyPost_ret (v := .tuple #[Vl v m (bmax l l') (bmin g g), Vl v' m' (bmax l' l') (bmin g' g), .bool true]) ?_ rfl ⟨rfl, ?_⟩
    · simp [results, Try.results98, go_sem, t0, t1, t2, t3, r0, r1, r2, r3]
    · exact ((hR2.set4 1 rfl).set4 0 rfl).bel

end Go.Proofs.Ytkigmocchaikgaa

/- The contracts of the functions that Less and Other hand to leave. (Written by gen_w28.py.) -/
namespace Go.Proofs.Ytkigmocchaikgaa
open Go.RowKit
attribute [local go_sem] w_and w_or w_xor w_andNot w_and1 w_and63 w_add w_sub w_mul w_sub1 w_add1 w_shl w_shl1 w_shr c_beq c_bne c_beq0 c_bne0 c_beq1 c_bne1 wrap_nv
theorem c_beqT (x : BitVec 64) : (nv x == 18446744073709551615) = eqb x top := by rw [← nv_top]; exact c_beq x top
attribute [local go_sem] c_beqT

set_option maxRecDepth 100000 in
set_option maxHeartbeats 4000000 in
theorem less1_no {b1 b2 : Nat} {v m l g v' m' l' g' : BitVec 64} {w : World} (hc : Hid (Cap w b1 b2 v' m' l' g' v m l g)) (hn : Hid ((eqb g' zero || eqb l top) = true)) :
    Calls Try.prog 96 #[PT b1, PT b2] w fun e w' => e = .returned (.tuple #[Vl v m l g, Vl v' m' l' g', .bool false]) ∧ Below w.heap.size w w' := by
  obtain ⟨s1, s2, a0, a1, a2, a3, c0, c1, c2, c3⟩ := hc.out
  have hK0 := ((Kp.start w).add4 (.int .u64 0) (.int .u64 0) (.int .u64 0) (.int .u64 0) 49).add4 (.int .u64 0) (.int .u64 0) (.int .u64 0) (.int .u64 0) 49
  simp only [World.size_alloc] at hK0
  obtain ⟨t0, t1, t2, t3, t4, t5, t6, t7, t8⟩ := hK0.box.head.four
  obtain ⟨r0, r1, r2, r3, r4, r5, r6, r7, r8⟩ := hK0.box.tail.head.four
  have n1 : b1 ≠ w.heap.size := by omega
  have n2 : b2 ≠ w.heap.size := by omega
  have n3 : w.heap.size ≠ b1 := by omega
  have n4 : w.heap.size ≠ b2 := by omega
  have n5 : b1 ≠ w.heap.size + 1 := by omega
  have n6 : b2 ≠ w.heap.size + 1 := by omega
  have n7 : w.heap.size + 1 ≠ b1 := by omega
  have n8 : w.heap.size + 1 ≠ b2 := by omega
  cases z1 : eqb g' zero
  · have z2 : eqb l top = true := by have := hn.out; rw [z1] at this; simpa using this
    go_enter Try.func96, Try.ntmps96
    go_wp2_with fail
    go_region
    all_goals
      go_wp2_with fail
      refine bodyPost_ret (v := .tuple #[Vl v m l g, Vl v' m' l' g', .bool false]) ?_ rfl ⟨rfl, ?_⟩
      · simp [results, Try.results96, go_sem]
      · exact (by repeat (first | exact Below.refl _ _ | assumption | refine below_drewN ?_ _ | refine Below.drew ?_ | refine Below.alloc ?_ (by first | exact Nat.le_refl _ | (simp; done) | (simp; omega) | omega) _ | refine Below.setCell ?_ (by first | exact Nat.le_refl _ | (simp; done) | (simp; omega) | omega) _ | refine Below.trans ?_ (Below.mono (by assumption) (by first | exact Nat.le_refl _ | (simp; done) | (simp; omega) | omega))))
  · go_enter Try.func96, Try.ntmps96
    go_wp2_with fail
    go_region
    all_goals
      go_wp2_with fail
      refine bodyPost_ret (v := .tuple #[Vl v m l g, Vl v' m' l' g', .bool false]) ?_ rfl ⟨rfl, ?_⟩
      · simp [results, Try.results96, go_sem]
      · exact (by repeat (first | exact Below.refl _ _ | assumption | refine below_drewN ?_ _ | refine Below.drew ?_ | refine Below.alloc ?_ (by first | exact Nat.le_refl _ | (simp; done) | (simp; omega) | omega) _ | refine Below.setCell ?_ (by first | exact Nat.le_refl _ | (simp; done) | (simp; omega) | omega) _ | refine Below.trans ?_ (Below.mono (by assumption) (by first | exact Nat.le_refl _ | (simp; done) | (simp; omega) | omega))))
set_option maxRecDepth 100000 in
set_option maxHeartbeats 4000000 in
theorem less1_yes {b1 b2 : Nat} {v m l g v' m' l' g' : BitVec 64} {w : World} (hc : Hid (Cap w b1 b2 v' m' l' g' v m l g)) (z1 : eqb g' zero = false) (z2 : eqb l top = false) :
    Calls Try.prog 96 #[PT b1, PT b2] w fun e w' => e = .returned (.tuple #[Vl v m (bmax l l) (bmin g (bsub g' one)), Vl v' m' (bmax l' (badd l one)) (bmin g' g'), .bool true]) ∧ Below w.heap.size w w' := by
  obtain ⟨s1, s2, a0, a1, a2, a3, c0, c1, c2, c3⟩ := hc.out
  have hK0 := ((Kp.start w).add4 (.int .u64 0) (.int .u64 0) (.int .u64 0) (.int .u64 0) 49).add4 (.int .u64 0) (.int .u64 0) (.int .u64 0) (.int .u64 0) 49
  simp only [World.size_alloc] at hK0
  go_enter Try.func96, Try.ntmps96
  go_wp2_with fail
  go_quiet (fail)
  go_wp2_with fail
  have hS0 : Kp w _ [] := (hK0.drew nq).drop'.drop'.keep (Below.drew (Below.refl _ _))
  have hR0 := (hK0.drew nq).keep (Below.drew (Below.refl _ _))
  have HS : Hid (∀ w', Kp w w' [] → Kp w w' [] ∧ w'.cell? ⟨b1, 0, none⟩ = some (U v') ∧ w'.cell? ⟨b1, 1, none⟩ = some (U m') ∧ w'.cell? ⟨b1, 2, none⟩ = some (U l') ∧ w'.cell? ⟨b1, 3, none⟩ = some (U g') ∧ w'.cell? ⟨b2, 0, none⟩ = some (U v) ∧ w'.cell? ⟨b2, 1, none⟩ = some (U m) ∧ w'.cell? ⟨b2, 2, none⟩ = some (U l) ∧ w'.cell? ⟨b2, 3, none⟩ = some (U g)) := by
    intro w' hk
    obtain ⟨_, _, d0, d1, d2, d3, f0, f1, f2, f3⟩ := hc.out.keep hk.bel
    exact ⟨hk, d0, d1, d2, d3, f0, f1, f2, f3⟩
  go_region_held3 (fun w' => Kp w w' [] ∧ w'.cell? ⟨b1, 0, none⟩ = some (U v') ∧ w'.cell? ⟨b1, 1, none⟩ = some (U m') ∧ w'.cell? ⟨b1, 2, none⟩ = some (U l') ∧ w'.cell? ⟨b1, 3, none⟩ = some (U g') ∧ w'.cell? ⟨b2, 0, none⟩ = some (U v) ∧ w'.cell? ⟨b2, 1, none⟩ = some (U m) ∧ w'.cell? ⟨b2, 2, none⟩ = some (U l) ∧ w'.cell? ⟨b2, 3, none⟩ = some (U g))
    ((refine HS.out _ ?_; repeat (first | refine Kp.other4 ?_ _ _ _ _ (by first | exact Nat.le_refl _ | omega) (by simp) | exact hS0 | refine Kp.keep ?_ (by assumption) | refine Kp.keep ?_ (Below.drew (Below.refl _ _)))))
    (first
      | (go_at_call 97; refine (between_any _ _ _ _ _ _ _).mono ?_; rintro e wk ⟨rfl, hb⟩; first | (have hR2 := hR1.keep hb; obtain ⟨t0, t1, t2, t3, t4, t5, t6, t7, t8⟩ := hR2.box.head.four; obtain ⟨r0, r1, r2, r3, r4, r5, r6, r7, r8⟩ := hR2.box.tail.head.four) | (have hR1 := hR0.keep hb)))
  all_goals
    go_wp2_with fail
    refine bodyPost_ret (v := .tuple #[Vl v m (bmax l l) (bmin g (bsub g' one)), Vl v' m' (bmax l' (badd l one)) (bmin g' g'), .bool true]) ?_ rfl ⟨rfl, ?_⟩
    · simp [results, Try.results96, go_sem, t0, t1, t2, t3, r0, r1, r2, r3]
    · exact ((hR2.set4 1 rfl).set4 0 rfl).bel

set_option maxRecDepth 100000 in
set_option maxHeartbeats 4000000 in
theorem other1_is {b1 b2 : Nat} {v m l g v' m' l' g' : BitVec 64} {w : World} {q : Bool} (hc : Hid (Cap w b1 b2 v m l g v' m' l' g')) (hq : Hid (q = (eqb l g && (eqb l' g' && eqb l l')))) :
    Calls Try.prog 93 #[PT b1, PT b2] w fun e w' => e = .returned (.tuple #[Vl v m (woL l l' g') (woH l g l' g'), Vl v' m' (woL l' l g) (woH l' g' l g), .bool (!q)]) ∧ Below w.heap.size w w' := by
  obtain ⟨s1, s2, a0, a1, a2, a3, c0, c1, c2, c3⟩ := hc.out
  obtain ⟨y1, Y1⟩ : ∃ b, Hid (eqb l g = b) := ⟨_, rfl⟩
  obtain ⟨y2, Y2⟩ : ∃ b, Hid (eqb l' g' = b) := ⟨_, rfl⟩
  obtain ⟨y3, Y3⟩ : ∃ b, eqb l l' = b := ⟨_, rfl⟩
  rw [Y1.out, Y2.out, Y3] at hq
  have hK0 := ((Kp.start w).add4 (.int .u64 0) (.int .u64 0) (.int .u64 0) (.int .u64 0) 49).add4 (.int .u64 0) (.int .u64 0) (.int .u64 0) (.int .u64 0) 49
  simp only [World.size_alloc] at hK0
  go_enter Try.func93, Try.ntmps93
  go_upto_region 1 with fail
  go_cut [5] (fun u wc => u = .bool q ∧ Kp w wc [(w.heap.size + 1, [.int .u64 0, .int .u64 0, .int .u64 0, .int .u64 0]), (w.heap.size, [.int .u64 0, .int .u64 0, .int .u64 0, .int .u64 0])])
  case first =>
    go_wp2_with fail
    refine (alone_is Y1.out _).mono ?_
    rintro e w1 ⟨rfl, hb1⟩
    have hK1 := hK0.keep hb1
    clear s1 s2 a0 a1 a2 a3 c0 c1 c2 c3
    obtain ⟨s1, s2, a0, a1, a2, a3, c0, c1, c2, c3⟩ := hc.out.keep hK1.bel
    cases y1
    · go_wp2_with fail
      go_meet
      case rel => exact ⟨by rw [hq.out]; rfl, hK1⟩
    · go_wp2_with fail
      refine (alone_is Y2.out _).mono ?_
      rintro e w2 ⟨rfl, hb2⟩
      have hK2 := hK1.keep hb2
      clear s1 s2 a0 a1 a2 a3 c0 c1 c2 c3
      obtain ⟨s1, s2, a0, a1, a2, a3, c0, c1, c2, c3⟩ := hc.out.keep hK2.bel
      cases y2
      · go_wp2_with fail
        go_meet
        case rel => exact ⟨by rw [hq.out]; rfl, hK2⟩
      · cases y3
        all_goals
          go_wp2_with fail
          go_meet
          case rel => exact ⟨by rw [hq.out]; rfl, hK2⟩
  case rest =>
    clear hK0 hq Y1 Y2 Y3 s1 s2 a0 a1 a2 a3 c0 c1 c2 c3
    obtain ⟨rfl, hK0⟩ := hcut
    obtain ⟨s1, s2, a0, a1, a2, a3, c0, c1, c2, c3⟩ := hc.out.keep hK0.bel
    go_wp2_with fail
    have hS0 : Kp w _ [] := (hK0).drop'.drop'.keep (Below.drew (Below.refl _ _))
    have hR0 := (hK0).keep (Below.drew (Below.refl _ _))
    have HS : Hid (∀ w', Kp w w' [] → Kp w w' [] ∧ w'.cell? ⟨b1, 0, none⟩ = some (U v) ∧ w'.cell? ⟨b1, 1, none⟩ = some (U m) ∧ w'.cell? ⟨b1, 2, none⟩ = some (U l) ∧ w'.cell? ⟨b1, 3, none⟩ = some (U g) ∧ w'.cell? ⟨b2, 0, none⟩ = some (U v') ∧ w'.cell? ⟨b2, 1, none⟩ = some (U m') ∧ w'.cell? ⟨b2, 2, none⟩ = some (U l') ∧ w'.cell? ⟨b2, 3, none⟩ = some (U g')) := by
      intro w' hk
      obtain ⟨_, _, d0, d1, d2, d3, f0, f1, f2, f3⟩ := hc.out.keep hk.bel
      exact ⟨hk, d0, d1, d2, d3, f0, f1, f2, f3⟩
    go_region_held3 (fun w' => Kp w w' [] ∧ w'.cell? ⟨b1, 0, none⟩ = some (U v) ∧ w'.cell? ⟨b1, 1, none⟩ = some (U m) ∧ w'.cell? ⟨b1, 2, none⟩ = some (U l) ∧ w'.cell? ⟨b1, 3, none⟩ = some (U g) ∧ w'.cell? ⟨b2, 0, none⟩ = some (U v') ∧ w'.cell? ⟨b2, 1, none⟩ = some (U m') ∧ w'.cell? ⟨b2, 2, none⟩ = some (U l') ∧ w'.cell? ⟨b2, 3, none⟩ = some (U g'))
      ((refine HS.out _ ?_; repeat (first | refine Kp.other4 ?_ _ _ _ _ (by first | exact Nat.le_refl _ | omega) (by simp) | exact hS0 | refine Kp.keep ?_ (by assumption) | refine Kp.keep ?_ (Below.drew (Below.refl _ _)))))
      (first
        | (go_at_call 95; refine (without_is _ _ _ _ _ _ _ _ _).mono ?_; rintro e wk ⟨rfl, hb⟩; first | (have hR2 := hR1.keep hb; obtain ⟨t0, t1, t2, t3, t4, t5, t6, t7, t8⟩ := hR2.box.head.four; obtain ⟨r0, r1, r2, r3, r4, r5, r6, r7, r8⟩ := hR2.box.tail.head.four) | (have hR1 := hR0.keep hb)))
    all_goals
      go_wp2_with fail
      refine bodyPost_ret (v := .tuple #[Vl v m (woL l l' g') (woH l g l' g'), Vl v' m' (woL l' l g) (woH l' g' l g), .bool (!q)]) ?_ rfl ⟨rfl, ?_⟩
      · simp [results, Try.results93, go_sem, t0, t1, t2, t3, r0, r1, r2, r3]
      · exact ((hR2.set4 1 rfl).set4 0 rfl).bel

end Go.Proofs.Ytkigmocchaikgaa

/- The contracts of package calc's Equal, Other, Less and NotLess, over what leave is handed. (Written by gen_w29.py.) -/
namespace Go.Proofs.Ytkigmocchaikgaa
open Go.RowKit
attribute [local go_sem] w_and w_or w_xor w_andNot w_and1 w_and63 w_add w_sub w_mul w_sub1 w_add1 w_shl w_shl1 w_shr c_beq c_bne c_beq0 c_bne0 c_beq1 c_bne1 wrap_nv

set_option maxRecDepth 100000 in
set_option maxHeartbeats 4000000 in
theorem calcEqual_wrong {v m l g v' m' l' g' : BitVec 64} (hr : Hid ((valB v m l g && valB v' m' l' g') = false)) (w : World) :
    Calls Try.prog 51 #[Vl v m l g, Vl v' m' l' g'] w fun e w' => e = .returned (.tuple #[V0, V0, .bool false, N 1]) ∧ Below w.heap.size w w' := by
  go_enter Try.func51, Try.ntmps51
  go_wp2_with fail
  refine (leave_wrongEqual hr _).mono ?_
  rintro e w1 ⟨rfl, hb1⟩
  have hK := (((((Kp.start w).add4 _ _ _ _ _).add4 _ _ _ _ _).add4 _ _ _ _ _).add4 _ _ _ _ _).keep hb1
  simp only [World.size_alloc] at hK
  obtain ⟨s0, s1, s2, s3, s4, s5, s6, s7, s8⟩ := hK.box.head.four
  obtain ⟨r0, r1, r2, r3, r4, r5, r6, r7, r8⟩ := hK.box.tail.head.four
  obtain ⟨b0, b1, b2, b3, b4, b5, b6, b7, b8⟩ := hK.box.tail.tail.head.four
  obtain ⟨a0, a1, a2, a3, a4, a5, a6, a7, a8⟩ := hK.box.tail.tail.tail.head.four
  go_wp2_with fail
  exact bodyPost_ret (v := .tuple #[V0, V0, .bool false, N 1]) (by simp [results, Try.results51, go_sem, s0, s1, s2, s3, r0, r1, r2, r3]) rfl ⟨rfl, ((hK.set4 1 rfl).set4 0 rfl).bel⟩
set_option maxRecDepth 100000 in
set_option maxHeartbeats 4000000 in
theorem calcEqual_right {v m l g v' m' l' g' a b c d a' b' c' d' x y z t x' y' z' t' : BitVec 64} {may i1 i2 : Bool} {e1 e2 : Int} (hr : Hid ((valB v m l g && valB v' m' l' g') = true)) (w : World)
    (HR : Hid (∀ (B : Nat) w', Cap w' B (B + 1) v m l g v' m' l' g' → Calls Try.prog 92 #[PT B, PT (B + 1)] w' fun e w'' => e = .returned (.tuple #[Vl a b c d, Vl a' b' c' d', .bool may]) ∧ Below w'.heap.size w' w''))
    (N1 : Hid (∀ w, Calls Try.prog 31 #[Vl a b c d] w fun e w' => e = .returned (.tuple #[Vl x y z t, .bool i1, N e1]) ∧ Below w.heap.size w w'))
    (N2 : Hid (∀ w, Calls Try.prog 31 #[Vl a' b' c' d'] w fun e w' => e = .returned (.tuple #[Vl x' y' z' t', .bool i2, N e2]) ∧ Below w.heap.size w w')) :
    Calls Try.prog 51 #[Vl v m l g, Vl v' m' l' g'] w fun e w' => e = .returned (.tuple #[lv (may && (i1 && i2)) (Vl x y z t), lv (may && (i1 && i2)) (Vl x' y' z' t'), .bool (may && (i1 && i2)), N 0]) ∧ Below w.heap.size w w' := by
  have hK0 := ((((Kp.start w).add4 (U v) (U m) (U l) (U g) 49).add4 (U v') (U m') (U l') (U g') 49).add4 (.int .u64 0) (.int .u64 0) (.int .u64 0) (.int .u64 0) 49).add4 (.int .u64 0) (.int .u64 0) (.int .u64 0) (.int .u64 0) 49
  simp only [World.size_alloc] at hK0
  have HC : Hid (∀ w', Below ((((w.alloc (.cells #[U v, U m, U l, U g] 49)).alloc (.cells #[U v', U m', U l', U g'] 49)).alloc (.cells #[.int .u64 0, .int .u64 0, .int .u64 0, .int .u64 0] 49)).alloc (.cells #[.int .u64 0, .int .u64 0, .int .u64 0, .int .u64 0] 49)).heap.size ((((w.alloc (.cells #[U v, U m, U l, U g] 49)).alloc (.cells #[U v', U m', U l', U g'] 49)).alloc (.cells #[.int .u64 0, .int .u64 0, .int .u64 0, .int .u64 0] 49)).alloc (.cells #[.int .u64 0, .int .u64 0, .int .u64 0, .int .u64 0] 49)) w' → Cap w' w.heap.size (w.heap.size + 1) v m l g v' m' l' g') := by
    intro w' hb
    have hk := hK0.keep hb
    obtain ⟨b0, b1, b2, b3, _, _, _, _, b8⟩ := hk.box.tail.tail.head.four
    obtain ⟨a0, a1, a2, a3, _, _, _, _, a8⟩ := hk.box.tail.tail.tail.head.four
    exact ⟨a8, b8, a0, a1, a2, a3, b0, b1, b2, b3⟩
  obtain ⟨q, hq⟩ : ∃ q, Hid (q = (may && (i1 && i2))) := ⟨_, rfl⟩
  have HL : Hid (Calls Try.prog 91 #[Vl v m l g, Vl v' m' l' g', .func (.func 92) #[] #[PT w.heap.size, PT (w.heap.size + 1)]] ((((w.alloc (.cells #[U v, U m, U l, U g] 49)).alloc (.cells #[U v', U m', U l', U g'] 49)).alloc (.cells #[.int .u64 0, .int .u64 0, .int .u64 0, .int .u64 0] 49)).alloc (.cells #[.int .u64 0, .int .u64 0, .int .u64 0, .int .u64 0] 49)) fun e w' => e = .returned (.tuple #[lv q (Vl x y z t), lv q (Vl x' y' z' t'), .bool q, N 0]) ∧ Below ((((w.alloc (.cells #[U v, U m, U l, U g] 49)).alloc (.cells #[U v', U m', U l', U g'] 49)).alloc (.cells #[.int .u64 0, .int .u64 0, .int .u64 0, .int .u64 0] 49)).alloc (.cells #[.int .u64 0, .int .u64 0, .int .u64 0, .int .u64 0] 49)).heap.size ((((w.alloc (.cells #[U v, U m, U l, U g] 49)).alloc (.cells #[U v', U m', U l', U g'] 49)).alloc (.cells #[.int .u64 0, .int .u64 0, .int .u64 0, .int .u64 0] 49)).alloc (.cells #[.int .u64 0, .int .u64 0, .int .u64 0, .int .u64 0] 49)) w') := by
    show Calls _ _ _ _ _
    rw [hq.out]
    exact leave_Equal hr _ (hid (fun w' hb => HR.out w.heap.size w' (HC.out w' hb))) N1 N2
  rw [← hq.out]
  clear hq N1 N2 HR HC hr
  go_enter Try.func51, Try.ntmps51
  go_wp2_with fail
  refine HL.out.mono ?_
  rintro e w1 ⟨rfl, hb1⟩
  have hK := hK0.keep hb1
  clear HL
  obtain ⟨s0, s1, s2, s3, s4, s5, s6, s7, s8⟩ := hK.box.head.four
  obtain ⟨r0, r1, r2, r3, r4, r5, r6, r7, r8⟩ := hK.box.tail.head.four
  obtain ⟨b0, b1, b2, b3, b4, b5, b6, b7, b8⟩ := hK.box.tail.tail.head.four
  obtain ⟨a0, a1, a2, a3, a4, a5, a6, a7, a8⟩ := hK.box.tail.tail.tail.head.four
  cases q
  · have e0 : ∀ a, lv false a = V0 := fun a => rfl
    simp only [e0]
    go_wp2_with fail
    exact bodyPost_ret (v := .tuple #[V0, V0, .bool false, N 0]) (by simp [results, Try.results51, go_sem, s0, s1, s2, s3, r0, r1, r2, r3]) rfl ⟨rfl, ((hK.set4 1 rfl).set4 0 rfl).bel⟩
  · have e0 : ∀ a, lv true a = a := fun a => rfl
    simp only [e0]
    go_wp2_with fail
    exact bodyPost_ret (v := .tuple #[Vl x y z t, Vl x' y' z' t', .bool true, N 0]) (by simp [results, Try.results51, go_sem, s0, s1, s2, s3, r0, r1, r2, r3]) rfl ⟨rfl, ((hK.set4 1 rfl).set4 0 rfl).bel⟩

set_option maxRecDepth 100000 in
set_option maxHeartbeats 4000000 in
theorem calcOther_wrong {v m l g v' m' l' g' : BitVec 64} (hr : Hid ((valB v m l g && valB v' m' l' g') = false)) (w : World) :
    Calls Try.prog 52 #[Vl v m l g, Vl v' m' l' g'] w fun e w' => e = .returned (.tuple #[V0, V0, .bool false, N 1]) ∧ Below w.heap.size w w' := by
  go_enter Try.func52, Try.ntmps52
  go_wp2_with fail
  refine (leave_wrongOther hr _).mono ?_
  rintro e w1 ⟨rfl, hb1⟩
  have hK := (((((Kp.start w).add4 _ _ _ _ _).add4 _ _ _ _ _).add4 _ _ _ _ _).add4 _ _ _ _ _).keep hb1
  simp only [World.size_alloc] at hK
  obtain ⟨s0, s1, s2, s3, s4, s5, s6, s7, s8⟩ := hK.box.head.four
  obtain ⟨r0, r1, r2, r3, r4, r5, r6, r7, r8⟩ := hK.box.tail.head.four
  obtain ⟨b0, b1, b2, b3, b4, b5, b6, b7, b8⟩ := hK.box.tail.tail.head.four
  obtain ⟨a0, a1, a2, a3, a4, a5, a6, a7, a8⟩ := hK.box.tail.tail.tail.head.four
  go_wp2_with fail
  exact bodyPost_ret (v := .tuple #[V0, V0, .bool false, N 1]) (by simp [results, Try.results52, go_sem, s0, s1, s2, s3, r0, r1, r2, r3]) rfl ⟨rfl, ((hK.set4 1 rfl).set4 0 rfl).bel⟩
set_option maxRecDepth 100000 in
set_option maxHeartbeats 4000000 in
theorem calcOther_right {v m l g v' m' l' g' a b c d a' b' c' d' x y z t x' y' z' t' : BitVec 64} {may i1 i2 : Bool} {e1 e2 : Int} (hr : Hid ((valB v m l g && valB v' m' l' g') = true)) (w : World)
    (HR : Hid (∀ (B : Nat) w', Cap w' B (B + 1) v m l g v' m' l' g' → Calls Try.prog 93 #[PT B, PT (B + 1)] w' fun e w'' => e = .returned (.tuple #[Vl a b c d, Vl a' b' c' d', .bool may]) ∧ Below w'.heap.size w' w''))
    (N1 : Hid (∀ w, Calls Try.prog 31 #[Vl a b c d] w fun e w' => e = .returned (.tuple #[Vl x y z t, .bool i1, N e1]) ∧ Below w.heap.size w w'))
    (N2 : Hid (∀ w, Calls Try.prog 31 #[Vl a' b' c' d'] w fun e w' => e = .returned (.tuple #[Vl x' y' z' t', .bool i2, N e2]) ∧ Below w.heap.size w w')) :
    Calls Try.prog 52 #[Vl v m l g, Vl v' m' l' g'] w fun e w' => e = .returned (.tuple #[lv (may && (i1 && i2)) (Vl x y z t), lv (may && (i1 && i2)) (Vl x' y' z' t'), .bool (may && (i1 && i2)), N 0]) ∧ Below w.heap.size w w' := by
  have hK0 := ((((Kp.start w).add4 (U v) (U m) (U l) (U g) 49).add4 (U v') (U m') (U l') (U g') 49).add4 (.int .u64 0) (.int .u64 0) (.int .u64 0) (.int .u64 0) 49).add4 (.int .u64 0) (.int .u64 0) (.int .u64 0) (.int .u64 0) 49
  simp only [World.size_alloc] at hK0
  have HC : Hid (∀ w', Below ((((w.alloc (.cells #[U v, U m, U l, U g] 49)).alloc (.cells #[U v', U m', U l', U g'] 49)).alloc (.cells #[.int .u64 0, .int .u64 0, .int .u64 0, .int .u64 0] 49)).alloc (.cells #[.int .u64 0, .int .u64 0, .int .u64 0, .int .u64 0] 49)).heap.size ((((w.alloc (.cells #[U v, U m, U l, U g] 49)).alloc (.cells #[U v', U m', U l', U g'] 49)).alloc (.cells #[.int .u64 0, .int .u64 0, .int .u64 0, .int .u64 0] 49)).alloc (.cells #[.int .u64 0, .int .u64 0, .int .u64 0, .int .u64 0] 49)) w' → Cap w' w.heap.size (w.heap.size + 1) v m l g v' m' l' g') := by
    intro w' hb
    have hk := hK0.keep hb
    obtain ⟨b0, b1, b2, b3, _, _, _, _, b8⟩ := hk.box.tail.tail.head.four
    obtain ⟨a0, a1, a2, a3, _, _, _, _, a8⟩ := hk.box.tail.tail.tail.head.four
    exact ⟨a8, b8, a0, a1, a2, a3, b0, b1, b2, b3⟩
  obtain ⟨q, hq⟩ : ∃ q, Hid (q = (may && (i1 && i2))) := ⟨_, rfl⟩
  have HL : Hid (Calls Try.prog 91 #[Vl v m l g, Vl v' m' l' g', .func (.func 93) #[] #[PT w.heap.size, PT (w.heap.size + 1)]] ((((w.alloc (.cells #[U v, U m, U l, U g] 49)).alloc (.cells #[U v', U m', U l', U g'] 49)).alloc (.cells #[.int .u64 0, .int .u64 0, .int .u64 0, .int .u64 0] 49)).alloc (.cells #[.int .u64 0, .int .u64 0, .int .u64 0, .int .u64 0] 49)) fun e w' => e = .returned (.tuple #[lv q (Vl x y z t), lv q (Vl x' y' z' t'), .bool q, N 0]) ∧ Below ((((w.alloc (.cells #[U v, U m, U l, U g] 49)).alloc (.cells #[U v', U m', U l', U g'] 49)).alloc (.cells #[.int .u64 0, .int .u64 0, .int .u64 0, .int .u64 0] 49)).alloc (.cells #[.int .u64 0, .int .u64 0, .int .u64 0, .int .u64 0] 49)).heap.size ((((w.alloc (.cells #[U v, U m, U l, U g] 49)).alloc (.cells #[U v', U m', U l', U g'] 49)).alloc (.cells #[.int .u64 0, .int .u64 0, .int .u64 0, .int .u64 0] 49)).alloc (.cells #[.int .u64 0, .int .u64 0, .int .u64 0, .int .u64 0] 49)) w') := by
    show Calls _ _ _ _ _
    rw [hq.out]
    exact leave_Other hr _ (hid (fun w' hb => HR.out w.heap.size w' (HC.out w' hb))) N1 N2
  rw [← hq.out]
  clear hq N1 N2 HR HC hr
  go_enter Try.func52, Try.ntmps52
  go_wp2_with fail
  refine HL.out.mono ?_
  rintro e w1 ⟨rfl, hb1⟩
  have hK := hK0.keep hb1
  clear HL
  obtain ⟨s0, s1, s2, s3, s4, s5, s6, s7, s8⟩ := hK.box.head.four
  obtain ⟨r0, r1, r2, r3, r4, r5, r6, r7, r8⟩ := hK.box.tail.head.four
  obtain ⟨b0, b1, b2, b3, b4, b5, b6, b7, b8⟩ := hK.box.tail.tail.head.four
  obtain ⟨a0, a1, a2, a3, a4, a5, a6, a7, a8⟩ := hK.box.tail.tail.tail.head.four
  cases q
  · have e0 : ∀ a, lv false a = V0 := fun a => rfl
    simp only [e0]
    go_wp2_with fail
    exact bodyPost_ret (v := .tuple #[V0, V0, .bool false, N 0]) (by simp [results, Try.results52, go_sem, s0, s1, s2, s3, r0, r1, r2, r3]) rfl ⟨rfl, ((hK.set4 1 rfl).set4 0 rfl).bel⟩
  · have e0 : ∀ a, lv true a = a := fun a => rfl
    simp only [e0]
    go_wp2_with fail
    exact bodyPost_ret (v := .tuple #[Vl x y z t, Vl x' y' z' t', .bool true, N 0]) (by simp [results, Try.results52, go_sem, s0, s1, s2, s3, r0, r1, r2, r3]) rfl ⟨rfl, ((hK.set4 1 rfl).set4 0 rfl).bel⟩

set_option maxRecDepth 100000 in
set_option maxHeartbeats 4000000 in
theorem calcLess_wrong {v m l g v' m' l' g' : BitVec 64} (hr : Hid ((valB v m l g && valB v' m' l' g') = false)) (w : World) :
    Calls Try.prog 53 #[Vl v m l g, Vl v' m' l' g'] w fun e w' => e = .returned (.tuple #[V0, V0, .bool false, N 1]) ∧ Below w.heap.size w w' := by
  go_enter Try.func53, Try.ntmps53
  go_wp2_with fail
  refine (leave_wrongLess hr _).mono ?_
  rintro e w1 ⟨rfl, hb1⟩
  have hK := (((((Kp.start w).add4 _ _ _ _ _).add4 _ _ _ _ _).add4 _ _ _ _ _).add4 _ _ _ _ _).keep hb1
  simp only [World.size_alloc] at hK
  obtain ⟨s0, s1, s2, s3, s4, s5, s6, s7, s8⟩ := hK.box.head.four
  obtain ⟨r0, r1, r2, r3, r4, r5, r6, r7, r8⟩ := hK.box.tail.head.four
  obtain ⟨b0, b1, b2, b3, b4, b5, b6, b7, b8⟩ := hK.box.tail.tail.head.four
  obtain ⟨a0, a1, a2, a3, a4, a5, a6, a7, a8⟩ := hK.box.tail.tail.tail.head.four
  go_wp2_with fail
  exact bodyPost_ret (v := .tuple #[V0, V0, .bool false, N 1]) (by simp [results, Try.results53, go_sem, s0, s1, s2, s3, r0, r1, r2, r3]) rfl ⟨rfl, ((hK.set4 1 rfl).set4 0 rfl).bel⟩
set_option maxRecDepth 100000 in
set_option maxHeartbeats 4000000 in
theorem calcLess_right {v m l g v' m' l' g' a b c d a' b' c' d' x y z t x' y' z' t' : BitVec 64} {may i1 i2 : Bool} {e1 e2 : Int} (hr : Hid ((valB v m l g && valB v' m' l' g') = true)) (w : World)
    (HR : Hid (∀ (B : Nat) w', Cap w' (B + 1) B v' m' l' g' v m l g → Calls Try.prog 96 #[PT (B + 1), PT B] w' fun e w'' => e = .returned (.tuple #[Vl a b c d, Vl a' b' c' d', .bool may]) ∧ Below w'.heap.size w' w''))
    (N1 : Hid (∀ w, Calls Try.prog 31 #[Vl a b c d] w fun e w' => e = .returned (.tuple #[Vl x y z t, .bool i1, N e1]) ∧ Below w.heap.size w w'))
    (N2 : Hid (∀ w, Calls Try.prog 31 #[Vl a' b' c' d'] w fun e w' => e = .returned (.tuple #[Vl x' y' z' t', .bool i2, N e2]) ∧ Below w.heap.size w w')) :
    Calls Try.prog 53 #[Vl v m l g, Vl v' m' l' g'] w fun e w' => e = .returned (.tuple #[lv (may && (i1 && i2)) (Vl x y z t), lv (may && (i1 && i2)) (Vl x' y' z' t'), .bool (may && (i1 && i2)), N 0]) ∧ Below w.heap.size w w' := by
  have hK0 := ((((Kp.start w).add4 (U v) (U m) (U l) (U g) 49).add4 (U v') (U m') (U l') (U g') 49).add4 (.int .u64 0) (.int .u64 0) (.int .u64 0) (.int .u64 0) 49).add4 (.int .u64 0) (.int .u64 0) (.int .u64 0) (.int .u64 0) 49
  simp only [World.size_alloc] at hK0
  have HC : Hid (∀ w', Below ((((w.alloc (.cells #[U v, U m, U l, U g] 49)).alloc (.cells #[U v', U m', U l', U g'] 49)).alloc (.cells #[.int .u64 0, .int .u64 0, .int .u64 0, .int .u64 0] 49)).alloc (.cells #[.int .u64 0, .int .u64 0, .int .u64 0, .int .u64 0] 49)).heap.size ((((w.alloc (.cells #[U v, U m, U l, U g] 49)).alloc (.cells #[U v', U m', U l', U g'] 49)).alloc (.cells #[.int .u64 0, .int .u64 0, .int .u64 0, .int .u64 0] 49)).alloc (.cells #[.int .u64 0, .int .u64 0, .int .u64 0, .int .u64 0] 49)) w' → Cap w' (w.heap.size + 1) w.heap.size v' m' l' g' v m l g) := by
    intro w' hb
    have hk := hK0.keep hb
    obtain ⟨b0, b1, b2, b3, _, _, _, _, b8⟩ := hk.box.tail.tail.head.four
    obtain ⟨a0, a1, a2, a3, _, _, _, _, a8⟩ := hk.box.tail.tail.tail.head.four
    exact ⟨b8, a8, b0, b1, b2, b3, a0, a1, a2, a3⟩
  obtain ⟨q, hq⟩ : ∃ q, Hid (q = (may && (i1 && i2))) := ⟨_, rfl⟩
  have HL : Hid (Calls Try.prog 91 #[Vl v m l g, Vl v' m' l' g', .func (.func 96) #[] #[PT (w.heap.size + 1), PT w.heap.size]] ((((w.alloc (.cells #[U v, U m, U l, U g] 49)).alloc (.cells #[U v', U m', U l', U g'] 49)).alloc (.cells #[.int .u64 0, .int .u64 0, .int .u64 0, .int .u64 0] 49)).alloc (.cells #[.int .u64 0, .int .u64 0, .int .u64 0, .int .u64 0] 49)) fun e w' => e = .returned (.tuple #[lv q (Vl x y z t), lv q (Vl x' y' z' t'), .bool q, N 0]) ∧ Below ((((w.alloc (.cells #[U v, U m, U l, U g] 49)).alloc (.cells #[U v', U m', U l', U g'] 49)).alloc (.cells #[.int .u64 0, .int .u64 0, .int .u64 0, .int .u64 0] 49)).alloc (.cells #[.int .u64 0, .int .u64 0, .int .u64 0, .int .u64 0] 49)).heap.size ((((w.alloc (.cells #[U v, U m, U l, U g] 49)).alloc (.cells #[U v', U m', U l', U g'] 49)).alloc (.cells #[.int .u64 0, .int .u64 0, .int .u64 0, .int .u64 0] 49)).alloc (.cells #[.int .u64 0, .int .u64 0, .int .u64 0, .int .u64 0] 49)) w') := by
    show Calls _ _ _ _ _
    rw [hq.out]
    exact leave_Less hr _ (hid (fun w' hb => HR.out w.heap.size w' (HC.out w' hb))) N1 N2
  rw [← hq.out]
  clear hq N1 N2 HR HC hr
  go_enter Try.func53, Try.ntmps53
  go_wp2_with fail
  refine HL.out.mono ?_
  rintro e w1 ⟨rfl, hb1⟩
  have hK := hK0.keep hb1
  clear HL
  obtain ⟨s0, s1, s2, s3, s4, s5, s6, s7, s8⟩ := hK.box.head.four
  obtain ⟨r0, r1, r2, r3, r4, r5, r6, r7, r8⟩ := hK.box.tail.head.four
  obtain ⟨b0, b1, b2, b3, b4, b5, b6, b7, b8⟩ := hK.box.tail.tail.head.four
  obtain ⟨a0, a1, a2, a3, a4, a5, a6, a7, a8⟩ := hK.box.tail.tail.tail.head.four
  cases q
  · have e0 : ∀ a, lv false a = V0 := fun a => rfl
    simp only [e0]
    go_wp2_with fail
    exact bodyPost_ret (v := .tuple #[V0, V0, .bool false, N 0]) (by simp [results, Try.results53, go_sem, s0, s1, s2, s3, r0, r1, r2, r3]) rfl ⟨rfl, ((hK.set4 1 rfl).set4 0 rfl).bel⟩
  · have e0 : ∀ a, lv true a = a := fun a => rfl
    simp only [e0]
    go_wp2_with fail
    exact bodyPost_ret (v := .tuple #[Vl x y z t, Vl x' y' z' t', .bool true, N 0]) (by simp [results, Try.results53, go_sem, s0, s1, s2, s3, r0, r1, r2, r3]) rfl ⟨rfl, ((hK.set4 1 rfl).set4 0 rfl).bel⟩

set_option maxRecDepth 100000 in
set_option maxHeartbeats 4000000 in
theorem calcNotLess_wrong {v m l g v' m' l' g' : BitVec 64} (hr : Hid ((valB v m l g && valB v' m' l' g') = false)) (w : World) :
    Calls Try.prog 54 #[Vl v m l g, Vl v' m' l' g'] w fun e w' => e = .returned (.tuple #[V0, V0, .bool false, N 1]) ∧ Below w.heap.size w w' := by
  go_enter Try.func54, Try.ntmps54
  go_wp2_with fail
  refine (leave_wrongNotLess hr _).mono ?_
  rintro e w1 ⟨rfl, hb1⟩
  have hK := (((((Kp.start w).add4 _ _ _ _ _).add4 _ _ _ _ _).add4 _ _ _ _ _).add4 _ _ _ _ _).keep hb1
  simp only [World.size_alloc] at hK
  obtain ⟨s0, s1, s2, s3, s4, s5, s6, s7, s8⟩ := hK.box.head.four
  obtain ⟨r0, r1, r2, r3, r4, r5, r6, r7, r8⟩ := hK.box.tail.head.four
  obtain ⟨b0, b1, b2, b3, b4, b5, b6, b7, b8⟩ := hK.box.tail.tail.head.four
  obtain ⟨a0, a1, a2, a3, a4, a5, a6, a7, a8⟩ := hK.box.tail.tail.tail.head.four
  go_wp2_with fail
  exact bodyPost_ret (v := .tuple #[V0, V0, .bool false, N 1]) (by simp [results, Try.results54, go_sem, s0, s1, s2, s3, r0, r1, r2, r3]) rfl ⟨rfl, ((hK.set4 1 rfl).set4 0 rfl).bel⟩
set_option maxRecDepth 100000 in
set_option maxHeartbeats 4000000 in
theorem calcNotLess_right {v m l g v' m' l' g' a b c d a' b' c' d' x y z t x' y' z' t' : BitVec 64} {may i1 i2 : Bool} {e1 e2 : Int} (hr : Hid ((valB v m l g && valB v' m' l' g') = true)) (w : World)
    (HR : Hid (∀ (B : Nat) w', Cap w' B (B + 1) v m l g v' m' l' g' → Calls Try.prog 98 #[PT B, PT (B + 1)] w' fun e w'' => e = .returned (.tuple #[Vl a b c d, Vl a' b' c' d', .bool may]) ∧ Below w'.heap.size w' w''))
    (N1 : Hid (∀ w, Calls Try.prog 31 #[Vl a b c d] w fun e w' => e = .returned (.tuple #[Vl x y z t, .bool i1, N e1]) ∧ Below w.heap.size w w'))
    (N2 : Hid (∀ w, Calls Try.prog 31 #[Vl a' b' c' d'] w fun e w' => e = .returned (.tuple #[Vl x' y' z' t', .bool i2, N e2]) ∧ Below w.heap.size w w')) :
    Calls Try.prog 54 #[Vl v m l g, Vl v' m' l' g'] w fun e w' => e = .returned (.tuple #[lv (may && (i1 && i2)) (Vl x y z t), lv (may && (i1 && i2)) (Vl x' y' z' t'), .bool (may && (i1 && i2)), N 0]) ∧ Below w.heap.size w w' := by
  have hK0 := ((((Kp.start w).add4 (U v) (U m) (U l) (U g) 49).add4 (U v') (U m') (U l') (U g') 49).add4 (.int .u64 0) (.int .u64 0) (.int .u64 0) (.int .u64 0) 49).add4 (.int .u64 0) (.int .u64 0) (.int .u64 0) (.int .u64 0) 49
  simp only [World.size_alloc] at hK0
  have HC : Hid (∀ w', Below ((((w.alloc (.cells #[U v, U m, U l, U g] 49)).alloc (.cells #[U v', U m', U l', U g'] 49)).alloc (.cells #[.int .u64 0, .int .u64 0, .int .u64 0, .int .u64 0] 49)).alloc (.cells #[.int .u64 0, .int .u64 0, .int .u64 0, .int .u64 0] 49)).heap.size ((((w.alloc (.cells #[U v, U m, U l, U g] 49)).alloc (.cells #[U v', U m', U l', U g'] 49)).alloc (.cells #[.int .u64 0, .int .u64 0, .int .u64 0, .int .u64 0] 49)).alloc (.cells #[.int .u64 0, .int .u64 0, .int .u64 0, .int .u64 0] 49)) w' → Cap w' w.heap.size (w.heap.size + 1) v m l g v' m' l' g') := by
    intro w' hb
    have hk := hK0.keep hb
    obtain ⟨b0, b1, b2, b3, _, _, _, _, b8⟩ := hk.box.tail.tail.head.four
    obtain ⟨a0, a1, a2, a3, _, _, _, _, a8⟩ := hk.box.tail.tail.tail.head.four
    exact ⟨a8, b8, a0, a1, a2, a3, b0, b1, b2, b3⟩
  obtain ⟨q, hq⟩ : ∃ q, Hid (q = (may && (i1 && i2))) := ⟨_, rfl⟩
  have HL : Hid (Calls Try.prog 91 #[Vl v m l g, Vl v' m' l' g', .func (.func 98) #[] #[PT w.heap.size, PT (w.heap.size + 1)]] ((((w.alloc (.cells #[U v, U m, U l, U g] 49)).alloc (.cells #[U v', U m', U l', U g'] 49)).alloc (.cells #[.int .u64 0, .int .u64 0, .int .u64 0, .int .u64 0] 49)).alloc (.cells #[.int .u64 0, .int .u64 0, .int .u64 0, .int .u64 0] 49)) fun e w' => e = .returned (.tuple #[lv q (Vl x y z t), lv q (Vl x' y' z' t'), .bool q, N 0]) ∧ Below ((((w.alloc (.cells #[U v, U m, U l, U g] 49)).alloc (.cells #[U v', U m', U l', U g'] 49)).alloc (.cells #[.int .u64 0, .int .u64 0, .int .u64 0, .int .u64 0] 49)).alloc (.cells #[.int .u64 0, .int .u64 0, .int .u64 0, .int .u64 0] 49)).heap.size ((((w.alloc (.cells #[U v, U m, U l, U g] 49)).alloc (.cells #[U v', U m', U l', U g'] 49)).alloc (.cells #[.int .u64 0, .int .u64 0, .int .u64 0, .int .u64 0] 49)).alloc (.cells #[.int .u64 0, .int .u64 0, .int .u64 0, .int .u64 0] 49)) w') := by
    show Calls _ _ _ _ _
    rw [hq.out]
    exact leave_NotLess hr _ (hid (fun w' hb => HR.out w.heap.size w' (HC.out w' hb))) N1 N2
  rw [← hq.out]
  clear hq N1 N2 HR HC hr
  go_enter Try.func54, Try.ntmps54
  go_wp2_with fail
  refine HL.out.mono ?_
  rintro e w1 ⟨rfl, hb1⟩
  have hK := hK0.keep hb1
  clear HL
  obtain ⟨s0, s1, s2, s3, s4, s5, s6, s7, s8⟩ := hK.box.head.four
  obtain ⟨r0, r1, r2, r3, r4, r5, r6, r7, r8⟩ := hK.box.tail.head.four
  obtain ⟨b0, b1, b2, b3, b4, b5, b6, b7, b8⟩ := hK.box.tail.tail.head.four
  obtain ⟨a0, a1, a2, a3, a4, a5, a6, a7, a8⟩ := hK.box.tail.tail.tail.head.four
  cases q
  · have e0 : ∀ a, lv false a = V0 := fun a => rfl
    simp only [e0]
    go_wp2_with fail
    exact bodyPost_ret (v := .tuple #[V0, V0, .bool false, N 0]) (by simp [results, Try.results54, go_sem, s0, s1, s2, s3, r0, r1, r2, r3]) rfl ⟨rfl, ((hK.set4 1 rfl).set4 0 rfl).bel⟩
  · have e0 : ∀ a, lv true a = a := fun a => rfl
    simp only [e0]
    go_wp2_with fail
    exact bodyPost_ret (v := .tuple #[Vl x y z t, Vl x' y' z' t', .bool true, N 0]) (by simp [results, Try.results54, go_sem, s0, s1, s2, s3, r0, r1, r2, r3]) rfl ⟨rfl, ((hK.set4 1 rfl).set4 0 rfl).bel⟩

end Go.Proofs.Ytkigmocchaikgaa

/- The contract of the reference's bitOf; what twoBits comes to, as plain functions. -/
namespace Go.Proofs.Ytkigmocchaikgaa
open Go.RowKit
attribute [local go_sem] w_and w_or w_xor w_andNot w_and1 w_and63 w_add w_sub w_mul w_sub1 w_add1 w_shl w_shl1 w_shr c_beq c_bne c_beq0 c_bne0 c_beq1 c_bne1 wrap_nv

def bi (b : Bool) : Int := if b then 1 else 0
/- one bit of an operation, and what goes over -/
def bo (op : Int) (x y c : Bool) : Bool × Bool :=
  if op = 2 then ((x ^^ y) ^^ c, (x && y) || (c && (x || y)))
  else if op = 3 then ((x ^^ y) ^^ c, (!x && y) || (c && (!x || y)))
  else if op = 5 then (x && y, false)
  else if op = 6 then (x || y, false)
  else (x ^^ y, false)

theorem bo_else {op : Int} (h2 : op ≠ 2) (h3 : op ≠ 3) (h5 : op ≠ 5) (h6 : op ≠ 6) (x y c : Bool) : bo op x y c = (x ^^ y, false) := by
  unfold bo; rw [if_neg h2, if_neg h3, if_neg h5, if_neg h6]
set_option maxHeartbeats 4000000 in
theorem bitOf_any (op : Int) (x y c : Bool) (w : World) :
    Calls Try.prog 111 #[N op, N (bi x), N (bi y), N (bi c)] w fun e w' => e = .returned (.tuple #[N (bi (bo op x y c).1), N (bi (bo op x y c).2)]) ∧ w = w' := by
  by_cases hop : op = 2 ∨ op = 3 ∨ op = 5 ∨ op = 6
  · generalize h1 : bi (bo op x y c).1 = r1
    generalize h2 : bi (bo op x y c).2 = r2
    have H1 : Hid (bi (bo op x y c).1 = r1) := h1
    have H2 : Hid (bi (bo op x y c).2 = r2) := h2
    clear h1 h2
    rcases hop with rfl | rfl | rfl | rfl <;> cases x <;> cases y <;> cases c
    all_goals
      simp only [bi, if_true, if_false, Bool.false_eq_true]
      go_enter Try.func111, Try.ntmps111
      go_wp2_with fail
      go_ret2
      rw [← H1.out, ← H2.out]
      exact ⟨rfl, rfl⟩
  · have h2 : op ≠ 2 := by omega
    have h3 : op ≠ 3 := by omega
    have h5 : op ≠ 5 := by omega
    have h6 : op ≠ 6 := by omega
    generalize g1 : bi (bo op x y c).1 = r1
    generalize g2 : bi (bo op x y c).2 = r2
    rw [bo_else h2 h3 h5 h6] at g1 g2
    have H1 : Hid (bi (x ^^ y) = r1) := g1
    have H2 : Hid (bi false = r2) := g2
    clear g1 g2
    have e2 : (op == 2) = false := by simpa using h2
    have e3 : (op == 3) = false := by simpa using h3
    have e5 : (op == 5) = false := by simpa using h5
    have e6 : (op == 6) = false := by simpa using h6
    clear h2 h3 h5 h6 hop
    cases x <;> cases y <;> cases c
    all_goals
      simp only [bi, if_true, if_false, Bool.false_eq_true]
      go_enter Try.func111, Try.ntmps111
      go_wp2_with fail
      go_ret2
      rw [← H1.out, ← H2.out]
      exact ⟨rfl, rfl⟩

end Go.Proofs.Ytkigmocchaikgaa

/- What twoBits comes to, as plain functions; one cell of a box written. -/
namespace Go.Proofs.Ytkigmocchaikgaa
open Go.RowKit

theorem Kp.set1 {w0 w : World} {b i : Nat} {v u : Value} {vs : List Value} {L : List (Nat × List Value)} (k : Nat) (h : Kp w0 w L) (e : L[k]? = some (b, vs)) (hi : vs[i]? = some u) :
    Kp w0 (w.setCell ⟨b, i, none⟩ v) (L.set k (b, vs.set i v)) := by
  have hlo : w0.heap.size ≤ b := h.lo _ (List.mem_of_getElem? e)
  refine ⟨h.bel.setCell hlo v, Boxes.setOne k h.box e hi, fun p hp => ?_⟩
  rcases List.mem_or_eq_of_mem_set hp with h1 | h1
  · exact h.lo p h1
  · rw [h1]; exact hlo

def kx (k : Nat) : Bool := k % 2 == 1
def ky (k : Nat) : Bool := k / 2 % 2 == 1
def kc (k : Nat) : Bool := k / 4 == 1
def alw (z o u p c0 c1 : Bool) (k : Nat) : Bool := (if kx k then o else z) && (if ky k then p else u) && (if kc k then c1 else c0)
def put1 (q : Bool × Bool) (b : Bool) : Bool × Bool := if b then (q.1, true) else (true, q.2)
/- the inner loop: which results, and which that go over, the first k of the eight ways give -/
def inn (op : Int) (z o u p c0 c1 : Bool) : Nat → (Bool × Bool) × (Bool × Bool)
  | 0 => ((false, false), (false, false))
  | k + 1 => if alw z o u p c0 c1 k then (put1 (inn op z o u p c0 c1 k).1 (bo op (kx k) (ky k) (kc k)).1, put1 (inn op z o u p c0 c1 k).2 (bo op (kx k) (ky k) (kc k)).2) else inn op z o u p c0 c1 k
theorem inn_no {op : Int} {z o u p c0 c1 : Bool} {k : Nat} {s : (Bool × Bool) × (Bool × Bool)} (h : inn op z o u p c0 c1 k = s) (ha : alw z o u p c0 c1 k = false) : inn op z o u p c0 c1 (k + 1) = s := by
  simp only [inn]; rw [if_neg (by rw [ha]; decide), h]
theorem inn_yes {op : Int} {z o u p c0 c1 : Bool} {k : Nat} {s : (Bool × Bool) × (Bool × Bool)} {b1 b2 x y c : Bool} (h : inn op z o u p c0 c1 k = s) (ha : alw z o u p c0 c1 k = true)
    (hx : kx k = x) (hy : ky k = y) (hc : kc k = c) (hb : bo op x y c = (b1, b2)) : inn op z o u p c0 c1 (k + 1) = (put1 s.1 b1, put1 s.2 b2) := by
  simp only [inn]; rw [if_pos ha, h, hx, hy, hc, hb]
/- the outer loop -/
def twoC (op : Int) (av am bv bm : BitVec 64) : Nat → Bool × Bool
  | 0 => (true, false)
  | i + 1 => (inn op (mz av i) (mo av am i) (mz bv i) (mo bv bm i) (twoC op av am bv bm i).1 (twoC op av am bv bm i).2 8).2
def twoR (op : Int) (av am bv bm : BitVec 64) (i : Nat) : Bool × Bool :=
  (inn op (mz av i) (mo av am i) (mz bv i) (mo bv bm i) (twoC op av am bv bm i).1 (twoC op av am bv bm i).2 8).1
def twoV (op : Int) (av am bv bm : BitVec 64) (k : Nat) : BitVec 64 := acc (fun j => (twoR op av am bv bm j).2 && !(twoR op av am bv bm j).1) k
def twoM (op : Int) (av am bv bm : BitVec 64) (k : Nat) : BitVec 64 := acc (fun j => (twoR op av am bv bm j).2 && (twoR op av am bv bm j).1) k
theorem twoV_succ (op : Int) (av am bv bm : BitVec 64) (k : Nat) : putV (twoV op av am bv bm k) k (twoR op av am bv bm k).1 (twoR op av am bv bm k).2 = twoV op av am bv bm (k + 1) := putV_acc (fun j => (twoR op av am bv bm j).1) (fun j => (twoR op av am bv bm j).2) k
theorem twoM_succ (op : Int) (av am bv bm : BitVec 64) (k : Nat) : putM (twoM op av am bv bm k) k (twoR op av am bv bm k).1 (twoR op av am bv bm k).2 = twoM op av am bv bm (k + 1) := putM_acc (fun j => (twoR op av am bv bm j).1) (fun j => (twoR op av am bv bm j).2) k
theorem bitOf_is {op : Int} {x y c b1 b2 : Bool} (h : Hid (bo op x y c = (b1, b2))) (w : World) :
    Calls Try.prog 111 #[N op, N (bi x), N (bi y), N (bi c)] w fun e w' => e = .returned (.tuple #[N (bi b1), N (bi b2)]) ∧ w = w' := by
  have := bitOf_any op x y c w
  rw [h.out] at this
  exact this
theorem bo_ex (op : Int) (x y c : Bool) : ∃ b1 b2, Hid (bo op x y c = (b1, b2)) := ⟨_, _, rfl⟩

end Go.Proofs.Ytkigmocchaikgaa

/- The contract of the reference's twoBits. -/
namespace Go.Proofs.Ytkigmocchaikgaa
open Go.RowKit
attribute [local go_sem] w_and w_or w_xor w_andNot w_and1 w_and63 w_add w_sub w_mul w_sub1 w_add1 w_shl w_shl1 w_shr c_beq c_bne c_beq0 c_bne0 c_beq1 c_bne1 wrap_nv

theorem ba0 : bits .and .i64 0 1 = 0 := by decide
theorem ba1 : bits .and .i64 1 1 = 1 := by decide
theorem ba2 : bits .and .i64 2 1 = 0 := by decide
theorem ba3 : bits .and .i64 3 1 = 1 := by decide
theorem ba4 : bits .and .i64 4 1 = 0 := by decide
theorem ba5 : bits .and .i64 5 1 = 1 := by decide
theorem ba6 : bits .and .i64 6 1 = 0 := by decide
theorem ba7 : bits .and .i64 7 1 = 1 := by decide
attribute [local go_sem] ba0 ba1 ba2 ba3 ba4 ba5 ba6 ba7
theorem bi_t : bi true = 1 := rfl
theorem bi_f : bi false = 0 := rfl
theorem k_cases {k : Nat} (h : k < 8) : k = 0 ∨ k = 1 ∨ k = 2 ∨ k = 3 ∨ k = 4 ∨ k = 5 ∨ k = 6 ∨ k = 7 := by omega

set_option maxRecDepth 100000 in
set_option maxHeartbeats 8000000 in
theorem twoBits_any (op : Int) (av am bv bm : BitVec 64) (w : World) :
    Calls Try.prog 81 #[N op, Bt av am, Bt bv bm] w fun e w' => e = .returned (Bt (twoV op av am bv bm 64) (twoM op av am bv bm 64)) ∧ Below w.heap.size w w' := by
  go_enter Try.func81, Try.ntmps81
  go_wp2_with fail
  have hK0 := (((((Kp.start w).add2 (U av) (U am) 24).add2 (U bv) (U bm) 24).add2 (.int .u64 0) (.int .u64 0) 24).add2 (.int .u64 0) (.int .u64 0) 24).add2 (.bool true) (.bool false) 123
  simp only [World.size_alloc] at hK0
  go_loopw [9] (fun t wr => ∃ (i : Nat) (c0 c1 : Bool) (V M : BitVec 64), i ≤ 64 ∧ t = N i ∧ twoC op av am bv bm i = (c0, c1) ∧ twoV op av am bv bm i = V ∧ twoM op av am bv bm i = M
      ∧ Kp w wr [(w.heap.size + 1 + 1 + 1 + 1, [.bool c0, .bool c1]), (w.heap.size + 1 + 1 + 1, [U V, U M]), (w.heap.size + 1 + 1, [.int .u64 0, .int .u64 0]), (w.heap.size + 1, [U bv, U bm]), (w.heap.size, [U av, U am])]) (fun t _ => 64 - (intOf t).toNat)
  case atStart => exact ⟨0, true, false, zero, zero, by omega, rfl, rfl, rfl, rfl, hK0⟩
  case round =>
    clear hK0
    obtain ⟨i, c0, c1, V, M, hi, rfl, hC, hV, hM, hK⟩ := hrel
    have HC : Hid _ := hC
    have HV : Hid _ := hV
    have HM : Hid _ := hM
    clear hC hV hM
    by_cases hlt : i < 64
    · obtain ⟨z, o, H1, H2⟩ := may_eq av am i
      obtain ⟨u, p, H3, H4⟩ := may_eq bv bm i
      obtain ⟨R, hR⟩ : ∃ R, R = wr.heap.size := ⟨_, rfl⟩
      have hK1 := (hK.add2 (.bool false) (.bool false) 123).add2 (.bool false) (.bool false) 123
      simp only [World.size_alloc] at hK1
      rw [← hR] at hK1
      have hR' : wr.heap.size = R := hR.symm
      clear hR hK
      have hd : decide ((i : Int) < 64) = true := by simp; omega
      go_wp2_with fail
      clear hR'
      go_loopw [12] (fun t ws => ∃ (k : Nat) (r0 r1 v0 v1 : Bool), k ≤ 8 ∧ t = N k ∧ inn op z o u p c0 c1 k = ((r0, r1), (v0, v1))
          ∧ Kp w ws [(R + 1, [.bool v0, .bool v1]), (R, [.bool r0, .bool r1]), (w.heap.size + 1 + 1 + 1 + 1, [.bool c0, .bool c1]), (w.heap.size + 1 + 1 + 1, [U V, U M]), (w.heap.size + 1 + 1, [.int .u64 0, .int .u64 0]), (w.heap.size + 1, [U bv, U bm]), (w.heap.size, [U av, U am])]) (fun t _ => 8 - (intOf t).toNat)
      case atStart => exact ⟨0, false, false, false, false, by omega, rfl, rfl, hK1⟩
      case round =>
        clear hK1
        obtain ⟨k, r0, r1, v0, v1, hk, rfl, hs, hK⟩ := hrel
        have Hs : Hid _ := hs
        clear hs
        obtain ⟨vv0, vv1, vv2, vv3, vv4⟩ := hK.box.head.two
        obtain ⟨rr0, rr1, rr2, rr3, rr4⟩ := hK.box.tail.head.two
        obtain ⟨cc0, cc1, cc2, cc3, cc4⟩ := hK.box.tail.tail.head.two
        obtain ⟨oo0, oo1, oo2, oo3, oo4⟩ := hK.box.tail.tail.tail.head.two
        obtain ⟨b0, b1, b2, b3, b4⟩ := hK.box.tail.tail.tail.tail.tail.head.two
        obtain ⟨a0, a1, a2, a3, a4⟩ := hK.box.tail.tail.tail.tail.tail.tail.head.two
        by_cases hk8 : k < 8
        · rcases k_cases hk8 with rfl | rfl | rfl | rfl | rfl | rfl | rfl | rfl
          · as_aux_lemma =>
            obtain ⟨q1, q2, Hb⟩ := bo_ex op false false false
            go_wp2_with fail
            refine (may_any hlt H1 H2 _).mono ?_
            rintro e w1 ⟨rfl, hb1⟩
            have hK1 := hK.keep hb1
            clear vv0 vv1 vv2 vv3 vv4 rr0 rr1 rr2 rr3 rr4 cc0 cc1 cc2 cc3 cc4 oo0 oo1 oo2 oo3 oo4 b0 b1 b2 b3 b4 a0 a1 a2 a3 a4
            obtain ⟨vv0, vv1, vv2, vv3, vv4⟩ := hK1.box.head.two
            obtain ⟨rr0, rr1, rr2, rr3, rr4⟩ := hK1.box.tail.head.two
            obtain ⟨cc0, cc1, cc2, cc3, cc4⟩ := hK1.box.tail.tail.head.two
            obtain ⟨oo0, oo1, oo2, oo3, oo4⟩ := hK1.box.tail.tail.tail.head.two
            obtain ⟨b0, b1, b2, b3, b4⟩ := hK1.box.tail.tail.tail.tail.tail.head.two
            obtain ⟨a0, a1, a2, a3, a4⟩ := hK1.box.tail.tail.tail.tail.tail.tail.head.two
            go_wp2_with fail
            refine (may_any hlt H3 H4 _).mono ?_
            rintro e w2 ⟨rfl, hb2⟩
            have hK2 := hK1.keep hb2
            clear vv0 vv1 vv2 vv3 vv4 rr0 rr1 rr2 rr3 rr4 cc0 cc1 cc2 cc3 cc4 oo0 oo1 oo2 oo3 oo4 b0 b1 b2 b3 b4 a0 a1 a2 a3 a4
            obtain ⟨vv0, vv1, vv2, vv3, vv4⟩ := hK2.box.head.two
            obtain ⟨rr0, rr1, rr2, rr3, rr4⟩ := hK2.box.tail.head.two
            obtain ⟨cc0, cc1, cc2, cc3, cc4⟩ := hK2.box.tail.tail.head.two
            obtain ⟨oo0, oo1, oo2, oo3, oo4⟩ := hK2.box.tail.tail.tail.head.two
            obtain ⟨b0, b1, b2, b3, b4⟩ := hK2.box.tail.tail.tail.tail.tail.head.two
            obtain ⟨a0, a1, a2, a3, a4⟩ := hK2.box.tail.tail.tail.tail.tail.tail.head.two
            clear hb1 hb2 hK1 hK H1 H2 H3 H4
            cases z
            · as_aux_lemma =>
                go_wp2_with fail
                go_roundw
                case rel => exact ⟨0 + 1, r0, r1, v0, v1, by omega, rfl, inn_no Hs.out rfl, hK2⟩
                case measure => simp [intOf]
            · cases u
              · as_aux_lemma =>
                  go_wp2_with fail
                  go_roundw
                  case rel => exact ⟨0 + 1, r0, r1, v0, v1, by omega, rfl, inn_no Hs.out rfl, hK2⟩
                  case measure => simp [intOf]
              · cases c0
                · as_aux_lemma =>
                    go_wp2_with fail
                    go_roundw
                    case rel => exact ⟨0 + 1, r0, r1, v0, v1, by omega, rfl, inn_no Hs.out rfl, hK2⟩
                    case measure => simp [intOf]
                · as_aux_lemma =>
                    go_wp2_with fail
                    refine (bitOf_is Hb _).mono ?_
                    rintro e w3 ⟨rfl, rfl⟩
                    cases q1 <;> cases q2
                    all_goals
                      first | rw [bi_t] | rw [bi_f]
                      try first | rw [bi_t] | rw [bi_f]
                      go_wp2_with fail
                      go_roundw
                      case rel => exact ⟨0 + 1, _, _, _, _, by omega, rfl, inn_yes Hs.out rfl rfl rfl rfl Hb.out, (hK2.set1 1 rfl rfl).set1 0 rfl rfl⟩
                      case measure => simp [intOf]
          · as_aux_lemma =>
            obtain ⟨q1, q2, Hb⟩ := bo_ex op true false false
            go_wp2_with fail
            refine (may_any hlt H1 H2 _).mono ?_
            rintro e w1 ⟨rfl, hb1⟩
            have hK1 := hK.keep hb1
            clear vv0 vv1 vv2 vv3 vv4 rr0 rr1 rr2 rr3 rr4 cc0 cc1 cc2 cc3 cc4 oo0 oo1 oo2 oo3 oo4 b0 b1 b2 b3 b4 a0 a1 a2 a3 a4
            obtain ⟨vv0, vv1, vv2, vv3, vv4⟩ := hK1.box.head.two
            obtain ⟨rr0, rr1, rr2, rr3, rr4⟩ := hK1.box.tail.head.two
            obtain ⟨cc0, cc1, cc2, cc3, cc4⟩ := hK1.box.tail.tail.head.two
            obtain ⟨oo0, oo1, oo2, oo3, oo4⟩ := hK1.box.tail.tail.tail.head.two
            obtain ⟨b0, b1, b2, b3, b4⟩ := hK1.box.tail.tail.tail.tail.tail.head.two
            obtain ⟨a0, a1, a2, a3, a4⟩ := hK1.box.tail.tail.tail.tail.tail.tail.head.two
            go_wp2_with fail
            refine (may_any hlt H3 H4 _).mono ?_
            rintro e w2 ⟨rfl, hb2⟩
            have hK2 := hK1.keep hb2
            clear vv0 vv1 vv2 vv3 vv4 rr0 rr1 rr2 rr3 rr4 cc0 cc1 cc2 cc3 cc4 oo0 oo1 oo2 oo3 oo4 b0 b1 b2 b3 b4 a0 a1 a2 a3 a4
            obtain ⟨vv0, vv1, vv2, vv3, vv4⟩ := hK2.box.head.two
            obtain ⟨rr0, rr1, rr2, rr3, rr4⟩ := hK2.box.tail.head.two
            obtain ⟨cc0, cc1, cc2, cc3, cc4⟩ := hK2.box.tail.tail.head.two
            obtain ⟨oo0, oo1, oo2, oo3, oo4⟩ := hK2.box.tail.tail.tail.head.two
            obtain ⟨b0, b1, b2, b3, b4⟩ := hK2.box.tail.tail.tail.tail.tail.head.two
            obtain ⟨a0, a1, a2, a3, a4⟩ := hK2.box.tail.tail.tail.tail.tail.tail.head.two
            clear hb1 hb2 hK1 hK H1 H2 H3 H4
            cases o
            · as_aux_lemma =>
                go_wp2_with fail
                go_roundw
                case rel => exact ⟨1 + 1, r0, r1, v0, v1, by omega, rfl, inn_no Hs.out rfl, hK2⟩
                case measure => simp [intOf]
            · cases u
              · as_aux_lemma =>
                  go_wp2_with fail
                  go_roundw
                  case rel => exact ⟨1 + 1, r0, r1, v0, v1, by omega, rfl, inn_no Hs.out rfl, hK2⟩
                  case measure => simp [intOf]
              · cases c0
                · as_aux_lemma =>
                    go_wp2_with fail
                    go_roundw
                    case rel => exact ⟨1 + 1, r0, r1, v0, v1, by omega, rfl, inn_no Hs.out rfl, hK2⟩
                    case measure => simp [intOf]
                · as_aux_lemma =>
                    go_wp2_with fail
                    refine (bitOf_is Hb _).mono ?_
                    rintro e w3 ⟨rfl, rfl⟩
                    cases q1 <;> cases q2
                    all_goals
                      first | rw [bi_t] | rw [bi_f]
                      try first | rw [bi_t] | rw [bi_f]
                      go_wp2_with fail
                      go_roundw
                      case rel => exact ⟨1 + 1, _, _, _, _, by omega, rfl, inn_yes Hs.out rfl rfl rfl rfl Hb.out, (hK2.set1 1 rfl rfl).set1 0 rfl rfl⟩
                      case measure => simp [intOf]
          · as_aux_lemma =>
            obtain ⟨q1, q2, Hb⟩ := bo_ex op false true false
            go_wp2_with fail
            refine (may_any hlt H1 H2 _).mono ?_
            rintro e w1 ⟨rfl, hb1⟩
            have hK1 := hK.keep hb1
            clear vv0 vv1 vv2 vv3 vv4 rr0 rr1 rr2 rr3 rr4 cc0 cc1 cc2 cc3 cc4 oo0 oo1 oo2 oo3 oo4 b0 b1 b2 b3 b4 a0 a1 a2 a3 a4
            obtain ⟨vv0, vv1, vv2, vv3, vv4⟩ := hK1.box.head.two
            obtain ⟨rr0, rr1, rr2, rr3, rr4⟩ := hK1.box.tail.head.two
            obtain ⟨cc0, cc1, cc2, cc3, cc4⟩ := hK1.box.tail.tail.head.two
            obtain ⟨oo0, oo1, oo2, oo3, oo4⟩ := hK1.box.tail.tail.tail.head.two
            obtain ⟨b0, b1, b2, b3, b4⟩ := hK1.box.tail.tail.tail.tail.tail.head.two
            obtain ⟨a0, a1, a2, a3, a4⟩ := hK1.box.tail.tail.tail.tail.tail.tail.head.two
            go_wp2_with fail
            refine (may_any hlt H3 H4 _).mono ?_
            rintro e w2 ⟨rfl, hb2⟩
            have hK2 := hK1.keep hb2
            clear vv0 vv1 vv2 vv3 vv4 rr0 rr1 rr2 rr3 rr4 cc0 cc1 cc2 cc3 cc4 oo0 oo1 oo2 oo3 oo4 b0 b1 b2 b3 b4 a0 a1 a2 a3 a4
            obtain ⟨vv0, vv1, vv2, vv3, vv4⟩ := hK2.box.head.two
            obtain ⟨rr0, rr1, rr2, rr3, rr4⟩ := hK2.box.tail.head.two
            obtain ⟨cc0, cc1, cc2, cc3, cc4⟩ := hK2.box.tail.tail.head.two
            obtain ⟨oo0, oo1, oo2, oo3, oo4⟩ := hK2.box.tail.tail.tail.head.two
            obtain ⟨b0, b1, b2, b3, b4⟩ := hK2.box.tail.tail.tail.tail.tail.head.two
            obtain ⟨a0, a1, a2, a3, a4⟩ := hK2.box.tail.tail.tail.tail.tail.tail.head.two
            clear hb1 hb2 hK1 hK H1 H2 H3 H4
            cases z
            · as_aux_lemma =>
                go_wp2_with fail
                go_roundw
                case rel => exact ⟨2 + 1, r0, r1, v0, v1, by omega, rfl, inn_no Hs.out rfl, hK2⟩
                case measure => simp [intOf]
            · cases p
              · as_aux_lemma =>
                  go_wp2_with fail
                  go_roundw
                  case rel => exact ⟨2 + 1, r0, r1, v0, v1, by omega, rfl, inn_no Hs.out rfl, hK2⟩
                  case measure => simp [intOf]
              · cases c0
                · as_aux_lemma =>
                    go_wp2_with fail
                    go_roundw
                    case rel => exact ⟨2 + 1, r0, r1, v0, v1, by omega, rfl, inn_no Hs.out rfl, hK2⟩
                    case measure => simp [intOf]
                · as_aux_lemma =>
                    go_wp2_with fail
                    refine (bitOf_is Hb _).mono ?_
                    rintro e w3 ⟨rfl, rfl⟩
                    cases q1 <;> cases q2
                    all_goals
                      first | rw [bi_t] | rw [bi_f]
                      try first | rw [bi_t] | rw [bi_f]
                      go_wp2_with fail
                      go_roundw
                      case rel => exact ⟨2 + 1, _, _, _, _, by omega, rfl, inn_yes Hs.out rfl rfl rfl rfl Hb.out, (hK2.set1 1 rfl rfl).set1 0 rfl rfl⟩
                      case measure => simp [intOf]
          · as_aux_lemma =>
            obtain ⟨q1, q2, Hb⟩ := bo_ex op true true false
            go_wp2_with fail
            refine (may_any hlt H1 H2 _).mono ?_
            rintro e w1 ⟨rfl, hb1⟩
            have hK1 := hK.keep hb1
            clear vv0 vv1 vv2 vv3 vv4 rr0 rr1 rr2 rr3 rr4 cc0 cc1 cc2 cc3 cc4 oo0 oo1 oo2 oo3 oo4 b0 b1 b2 b3 b4 a0 a1 a2 a3 a4
            obtain ⟨vv0, vv1, vv2, vv3, vv4⟩ := hK1.box.head.two
            obtain ⟨rr0, rr1, rr2, rr3, rr4⟩ := hK1.box.tail.head.two
            obtain ⟨cc0, cc1, cc2, cc3, cc4⟩ := hK1.box.tail.tail.head.two
            obtain ⟨oo0, oo1, oo2, oo3, oo4⟩ := hK1.box.tail.tail.tail.head.two
            obtain ⟨b0, b1, b2, b3, b4⟩ := hK1.box.tail.tail.tail.tail.tail.head.two
            obtain ⟨a0, a1, a2, a3, a4⟩ := hK1.box.tail.tail.tail.tail.tail.tail.head.two
            go_wp2_with fail
            refine (may_any hlt H3 H4 _).mono ?_
            rintro e w2 ⟨rfl, hb2⟩
            have hK2 := hK1.keep hb2
            clear vv0 vv1 vv2 vv3 vv4 rr0 rr1 rr2 rr3 rr4 cc0 cc1 cc2 cc3 cc4 oo0 oo1 oo2 oo3 oo4 b0 b1 b2 b3 b4 a0 a1 a2 a3 a4
            obtain ⟨vv0, vv1, vv2, vv3, vv4⟩ := hK2.box.head.two
            obtain ⟨rr0, rr1, rr2, rr3, rr4⟩ := hK2.box.tail.head.two
            obtain ⟨cc0, cc1, cc2, cc3, cc4⟩ := hK2.box.tail.tail.head.two
            obtain ⟨oo0, oo1, oo2, oo3, oo4⟩ := hK2.box.tail.tail.tail.head.two
            obtain ⟨b0, b1, b2, b3, b4⟩ := hK2.box.tail.tail.tail.tail.tail.head.two
            obtain ⟨a0, a1, a2, a3, a4⟩ := hK2.box.tail.tail.tail.tail.tail.tail.head.two
            clear hb1 hb2 hK1 hK H1 H2 H3 H4
            cases o
            · as_aux_lemma =>
                go_wp2_with fail
                go_roundw
                case rel => exact ⟨3 + 1, r0, r1, v0, v1, by omega, rfl, inn_no Hs.out rfl, hK2⟩
                case measure => simp [intOf]
            · cases p
              · as_aux_lemma =>
                  go_wp2_with fail
                  go_roundw
                  case rel => exact ⟨3 + 1, r0, r1, v0, v1, by omega, rfl, inn_no Hs.out rfl, hK2⟩
                  case measure => simp [intOf]
              · cases c0
                · as_aux_lemma =>
                    go_wp2_with fail
                    go_roundw
                    case rel => exact ⟨3 + 1, r0, r1, v0, v1, by omega, rfl, inn_no Hs.out rfl, hK2⟩
                    case measure => simp [intOf]
                · as_aux_lemma =>
                    go_wp2_with fail
                    refine (bitOf_is Hb _).mono ?_
                    rintro e w3 ⟨rfl, rfl⟩
                    cases q1 <;> cases q2
                    all_goals
                      first | rw [bi_t] | rw [bi_f]
                      try first | rw [bi_t] | rw [bi_f]
                      go_wp2_with fail
                      go_roundw
                      case rel => exact ⟨3 + 1, _, _, _, _, by omega, rfl, inn_yes Hs.out rfl rfl rfl rfl Hb.out, (hK2.set1 1 rfl rfl).set1 0 rfl rfl⟩
                      case measure => simp [intOf]
          · as_aux_lemma =>
            obtain ⟨q1, q2, Hb⟩ := bo_ex op false false true
            go_wp2_with fail
            refine (may_any hlt H1 H2 _).mono ?_
            rintro e w1 ⟨rfl, hb1⟩
            have hK1 := hK.keep hb1
            clear vv0 vv1 vv2 vv3 vv4 rr0 rr1 rr2 rr3 rr4 cc0 cc1 cc2 cc3 cc4 oo0 oo1 oo2 oo3 oo4 b0 b1 b2 b3 b4 a0 a1 a2 a3 a4
            obtain ⟨vv0, vv1, vv2, vv3, vv4⟩ := hK1.box.head.two
            obtain ⟨rr0, rr1, rr2, rr3, rr4⟩ := hK1.box.tail.head.two
            obtain ⟨cc0, cc1, cc2, cc3, cc4⟩ := hK1.box.tail.tail.head.two
            obtain ⟨oo0, oo1, oo2, oo3, oo4⟩ := hK1.box.tail.tail.tail.head.two
            obtain ⟨b0, b1, b2, b3, b4⟩ := hK1.box.tail.tail.tail.tail.tail.head.two
            obtain ⟨a0, a1, a2, a3, a4⟩ := hK1.box.tail.tail.tail.tail.tail.tail.head.two
            go_wp2_with fail
            refine (may_any hlt H3 H4 _).mono ?_
            rintro e w2 ⟨rfl, hb2⟩
            have hK2 := hK1.keep hb2
            clear vv0 vv1 vv2 vv3 vv4 rr0 rr1 rr2 rr3 rr4 cc0 cc1 cc2 cc3 cc4 oo0 oo1 oo2 oo3 oo4 b0 b1 b2 b3 b4 a0 a1 a2 a3 a4
            obtain ⟨vv0, vv1, vv2, vv3, vv4⟩ := hK2.box.head.two
            obtain ⟨rr0, rr1, rr2, rr3, rr4⟩ := hK2.box.tail.head.two
            obtain ⟨cc0, cc1, cc2, cc3, cc4⟩ := hK2.box.tail.tail.head.two
            obtain ⟨oo0, oo1, oo2, oo3, oo4⟩ := hK2.box.tail.tail.tail.head.two
            obtain ⟨b0, b1, b2, b3, b4⟩ := hK2.box.tail.tail.tail.tail.tail.head.two
            obtain ⟨a0, a1, a2, a3, a4⟩ := hK2.box.tail.tail.tail.tail.tail.tail.head.two
            clear hb1 hb2 hK1 hK H1 H2 H3 H4
            cases z
            · as_aux_lemma =>
                go_wp2_with fail
                go_roundw
                case rel => exact ⟨4 + 1, r0, r1, v0, v1, by omega, rfl, inn_no Hs.out rfl, hK2⟩
                case measure => simp [intOf]
            · cases u
              · as_aux_lemma =>
                  go_wp2_with fail
                  go_roundw
                  case rel => exact ⟨4 + 1, r0, r1, v0, v1, by omega, rfl, inn_no Hs.out rfl, hK2⟩
                  case measure => simp [intOf]
              · cases c1
                · as_aux_lemma =>
                    go_wp2_with fail
                    go_roundw
                    case rel => exact ⟨4 + 1, r0, r1, v0, v1, by omega, rfl, inn_no Hs.out rfl, hK2⟩
                    case measure => simp [intOf]
                · as_aux_lemma =>
                    go_wp2_with fail
                    refine (bitOf_is Hb _).mono ?_
                    rintro e w3 ⟨rfl, rfl⟩
                    cases q1 <;> cases q2
                    all_goals
                      first | rw [bi_t] | rw [bi_f]
                      try first | rw [bi_t] | rw [bi_f]
                      go_wp2_with fail
                      go_roundw
                      case rel => exact ⟨4 + 1, _, _, _, _, by omega, rfl, inn_yes Hs.out rfl rfl rfl rfl Hb.out, (hK2.set1 1 rfl rfl).set1 0 rfl rfl⟩
                      case measure => simp [intOf]
          · as_aux_lemma =>
            obtain ⟨q1, q2, Hb⟩ := bo_ex op true false true
            go_wp2_with fail
            refine (may_any hlt H1 H2 _).mono ?_
            rintro e w1 ⟨rfl, hb1⟩
            have hK1 := hK.keep hb1
            clear vv0 vv1 vv2 vv3 vv4 rr0 rr1 rr2 rr3 rr4 cc0 cc1 cc2 cc3 cc4 oo0 oo1 oo2 oo3 oo4 b0 b1 b2 b3 b4 a0 a1 a2 a3 a4
            obtain ⟨vv0, vv1, vv2, vv3, vv4⟩ := hK1.box.head.two
            obtain ⟨rr0, rr1, rr2, rr3, rr4⟩ := hK1.box.tail.head.two
            obtain ⟨cc0, cc1, cc2, cc3, cc4⟩ := hK1.box.tail.tail.head.two
            obtain ⟨oo0, oo1, oo2, oo3, oo4⟩ := hK1.box.tail.tail.tail.head.two
            obtain ⟨b0, b1, b2, b3, b4⟩ := hK1.box.tail.tail.tail.tail.tail.head.two
            obtain ⟨a0, a1, a2, a3, a4⟩ := hK1.box.tail.tail.tail.tail.tail.tail.head.two
            go_wp2_with fail
            refine (may_any hlt H3 H4 _).mono ?_
            rintro e w2 ⟨rfl, hb2⟩
            have hK2 := hK1.keep hb2
            clear vv0 vv1 vv2 vv3 vv4 rr0 rr1 rr2 rr3 rr4 cc0 cc1 cc2 cc3 cc4 oo0 oo1 oo2 oo3 oo4 b0 b1 b2 b3 b4 a0 a1 a2 a3 a4
            obtain ⟨vv0, vv1, vv2, vv3, vv4⟩ := hK2.box.head.two
            obtain ⟨rr0, rr1, rr2, rr3, rr4⟩ := hK2.box.tail.head.two
            obtain ⟨cc0, cc1, cc2, cc3, cc4⟩ := hK2.box.tail.tail.head.two
            obtain ⟨oo0, oo1, oo2, oo3, oo4⟩ := hK2.box.tail.tail.tail.head.two
            obtain ⟨b0, b1, b2, b3, b4⟩ := hK2.box.tail.tail.tail.tail.tail.head.two
            obtain ⟨a0, a1, a2, a3, a4⟩ := hK2.box.tail.tail.tail.tail.tail.tail.head.two
            clear hb1 hb2 hK1 hK H1 H2 H3 H4
            cases o
            · as_aux_lemma =>
                go_wp2_with fail
                go_roundw
                case rel => exact ⟨5 + 1, r0, r1, v0, v1, by omega, rfl, inn_no Hs.out rfl, hK2⟩
                case measure => simp [intOf]
            · cases u
              · as_aux_lemma =>
                  go_wp2_with fail
                  go_roundw
                  case rel => exact ⟨5 + 1, r0, r1, v0, v1, by omega, rfl, inn_no Hs.out rfl, hK2⟩
                  case measure => simp [intOf]
              · cases c1
                · as_aux_lemma =>
                    go_wp2_with fail
                    go_roundw
                    case rel => exact ⟨5 + 1, r0, r1, v0, v1, by omega, rfl, inn_no Hs.out rfl, hK2⟩
                    case measure => simp [intOf]
                · as_aux_lemma =>
                    go_wp2_with fail
                    refine (bitOf_is Hb _).mono ?_
                    rintro e w3 ⟨rfl, rfl⟩
                    cases q1 <;> cases q2
                    all_goals
                      first | rw [bi_t] | rw [bi_f]
                      try first | rw [bi_t] | rw [bi_f]
                      go_wp2_with fail
                      go_roundw
                      case rel => exact ⟨5 + 1, _, _, _, _, by omega, rfl, inn_yes Hs.out rfl rfl rfl rfl Hb.out, (hK2.set1 1 rfl rfl).set1 0 rfl rfl⟩
                      case measure => simp [intOf]
          · as_aux_lemma =>
            obtain ⟨q1, q2, Hb⟩ := bo_ex op false true true
            go_wp2_with fail
            refine (may_any hlt H1 H2 _).mono ?_
            rintro e w1 ⟨rfl, hb1⟩
            have hK1 := hK.keep hb1
            clear vv0 vv1 vv2 vv3 vv4 rr0 rr1 rr2 rr3 rr4 cc0 cc1 cc2 cc3 cc4 oo0 oo1 oo2 oo3 oo4 b0 b1 b2 b3 b4 a0 a1 a2 a3 a4
            obtain ⟨vv0, vv1, vv2, vv3, vv4⟩ := hK1.box.head.two
            obtain ⟨rr0, rr1, rr2, rr3, rr4⟩ := hK1.box.tail.head.two
            obtain ⟨cc0, cc1, cc2, cc3, cc4⟩ := hK1.box.tail.tail.head.two
            obtain ⟨oo0, oo1, oo2, oo3, oo4⟩ := hK1.box.tail.tail.tail.head.two
            obtain ⟨b0, b1, b2, b3, b4⟩ := hK1.box.tail.tail.tail.tail.tail.head.two
            obtain ⟨a0, a1, a2, a3, a4⟩ := hK1.box.tail.tail.tail.tail.tail.tail.head.two
            go_wp2_with fail
            refine (may_any hlt H3 H4 _).mono ?_
            rintro e w2 ⟨rfl, hb2⟩
            have hK2 := hK1.keep hb2
            clear vv0 vv1 vv2 vv3 vv4 rr0 rr1 rr2 rr3 rr4 cc0 cc1 cc2 cc3 cc4 oo0 oo1 oo2 oo3 oo4 b0 b1 b2 b3 b4 a0 a1 a2 a3 a4
            obtain ⟨vv0, vv1, vv2, vv3, vv4⟩ := hK2.box.head.two
            obtain ⟨rr0, rr1, rr2, rr3, rr4⟩ := hK2.box.tail.head.two
            obtain ⟨cc0, cc1, cc2, cc3, cc4⟩ := hK2.box.tail.tail.head.two
            obtain ⟨oo0, oo1, oo2, oo3, oo4⟩ := hK2.box.tail.tail.tail.head.two
            obtain ⟨b0, b1, b2, b3, b4⟩ := hK2.box.tail.tail.tail.tail.tail.head.two
            obtain ⟨a0, a1, a2, a3, a4⟩ := hK2.box.tail.tail.tail.tail.tail.tail.head.two
            clear hb1 hb2 hK1 hK H1 H2 H3 H4
            cases z
            · as_aux_lemma =>
                go_wp2_with fail
                go_roundw
                case rel => exact ⟨6 + 1, r0, r1, v0, v1, by omega, rfl, inn_no Hs.out rfl, hK2⟩
                case measure => simp [intOf]
            · cases p
              · as_aux_lemma =>
                  go_wp2_with fail
                  go_roundw
                  case rel => exact ⟨6 + 1, r0, r1, v0, v1, by omega, rfl, inn_no Hs.out rfl, hK2⟩
                  case measure => simp [intOf]
              · cases c1
                · as_aux_lemma =>
                    go_wp2_with fail
                    go_roundw
                    case rel => exact ⟨6 + 1, r0, r1, v0, v1, by omega, rfl, inn_no Hs.out rfl, hK2⟩
                    case measure => simp [intOf]
                · as_aux_lemma =>
                    go_wp2_with fail
                    refine (bitOf_is Hb _).mono ?_
                    rintro e w3 ⟨rfl, rfl⟩
                    cases q1 <;> cases q2
                    all_goals
                      first | rw [bi_t] | rw [bi_f]
                      try first | rw [bi_t] | rw [bi_f]
                      go_wp2_with fail
                      go_roundw
                      case rel => exact ⟨6 + 1, _, _, _, _, by omega, rfl, inn_yes Hs.out rfl rfl rfl rfl Hb.out, (hK2.set1 1 rfl rfl).set1 0 rfl rfl⟩
                      case measure => simp [intOf]
          · as_aux_lemma =>
            obtain ⟨q1, q2, Hb⟩ := bo_ex op true true true
            go_wp2_with fail
            refine (may_any hlt H1 H2 _).mono ?_
            rintro e w1 ⟨rfl, hb1⟩
            have hK1 := hK.keep hb1
            clear vv0 vv1 vv2 vv3 vv4 rr0 rr1 rr2 rr3 rr4 cc0 cc1 cc2 cc3 cc4 oo0 oo1 oo2 oo3 oo4 b0 b1 b2 b3 b4 a0 a1 a2 a3 a4
            obtain ⟨vv0, vv1, vv2, vv3, vv4⟩ := hK1.box.head.two
            obtain ⟨rr0, rr1, rr2, rr3, rr4⟩ := hK1.box.tail.head.two
            obtain ⟨cc0, cc1, cc2, cc3, cc4⟩ := hK1.box.tail.tail.head.two
            obtain ⟨oo0, oo1, oo2, oo3, oo4⟩ := hK1.box.tail.tail.tail.head.two
            obtain ⟨b0, b1, b2, b3, b4⟩ := hK1.box.tail.tail.tail.tail.tail.head.two
            obtain ⟨a0, a1, a2, a3, a4⟩ := hK1.box.tail.tail.tail.tail.tail.tail.head.two
            go_wp2_with fail
            refine (may_any hlt H3 H4 _).mono ?_
            rintro e w2 ⟨rfl, hb2⟩
            have hK2 := hK1.keep hb2
            clear vv0 vv1 vv2 vv3 vv4 rr0 rr1 rr2 rr3 rr4 cc0 cc1 cc2 cc3 cc4 oo0 oo1 oo2 oo3 oo4 b0 b1 b2 b3 b4 a0 a1 a2 a3 a4
            obtain ⟨vv0, vv1, vv2, vv3, vv4⟩ := hK2.box.head.two
            obtain ⟨rr0, rr1, rr2, rr3, rr4⟩ := hK2.box.tail.head.two
            obtain ⟨cc0, cc1, cc2, cc3, cc4⟩ := hK2.box.tail.tail.head.two
            obtain ⟨oo0, oo1, oo2, oo3, oo4⟩ := hK2.box.tail.tail.tail.head.two
            obtain ⟨b0, b1, b2, b3, b4⟩ := hK2.box.tail.tail.tail.tail.tail.head.two
            obtain ⟨a0, a1, a2, a3, a4⟩ := hK2.box.tail.tail.tail.tail.tail.tail.head.two
            clear hb1 hb2 hK1 hK H1 H2 H3 H4
            cases o
            · as_aux_lemma =>
                go_wp2_with fail
                go_roundw
                case rel => exact ⟨7 + 1, r0, r1, v0, v1, by omega, rfl, inn_no Hs.out rfl, hK2⟩
                case measure => simp [intOf]
            · cases p
              · as_aux_lemma =>
                  go_wp2_with fail
                  go_roundw
                  case rel => exact ⟨7 + 1, r0, r1, v0, v1, by omega, rfl, inn_no Hs.out rfl, hK2⟩
                  case measure => simp [intOf]
              · cases c1
                · as_aux_lemma =>
                    go_wp2_with fail
                    go_roundw
                    case rel => exact ⟨7 + 1, r0, r1, v0, v1, by omega, rfl, inn_no Hs.out rfl, hK2⟩
                    case measure => simp [intOf]
                · as_aux_lemma =>
                    go_wp2_with fail
                    refine (bitOf_is Hb _).mono ?_
                    rintro e w3 ⟨rfl, rfl⟩
                    cases q1 <;> cases q2
                    all_goals
                      first | rw [bi_t] | rw [bi_f]
                      try first | rw [bi_t] | rw [bi_f]
                      go_wp2_with fail
                      go_roundw
                      case rel => exact ⟨7 + 1, _, _, _, _, by omega, rfl, inn_yes Hs.out rfl rfl rfl rfl Hb.out, (hK2.set1 1 rfl rfl).set1 0 rfl rfl⟩
                      case measure => simp [intOf]
        · have e8 : k = 8 := by omega
          subst e8
          go_wp2_with fail
          refine (put_any _ _ i hlt _ _ _).mono ?_
          rintro e w1 ⟨rfl, hb1⟩
          have hK1 := hK.keep hb1
          clear vv0 vv1 vv2 vv3 vv4 rr0 rr1 rr2 rr3 rr4 cc0 cc1 cc2 cc3 cc4 oo0 oo1 oo2 oo3 oo4 b0 b1 b2 b3 b4 a0 a1 a2 a3 a4
          obtain ⟨vv0, vv1, vv2, vv3, vv4⟩ := hK1.box.head.two
          obtain ⟨rr0, rr1, rr2, rr3, rr4⟩ := hK1.box.tail.head.two
          obtain ⟨cc0, cc1, cc2, cc3, cc4⟩ := hK1.box.tail.tail.head.two
          obtain ⟨oo0, oo1, oo2, oo3, oo4⟩ := hK1.box.tail.tail.tail.head.two
          obtain ⟨b0, b1, b2, b3, b4⟩ := hK1.box.tail.tail.tail.tail.tail.head.two
          obtain ⟨a0, a1, a2, a3, a4⟩ := hK1.box.tail.tail.tail.tail.tail.tail.head.two
          have hK2 := hK1.set2 (x := U (putV V i r0 r1)) (y := U (putM M i r0 r1)) 3 rfl
          obtain ⟨vvv0, vvv1, vvv2, vvv3, vvv4⟩ := hK2.box.head.two
          obtain ⟨ccc0, ccc1, ccc2, ccc3, ccc4⟩ := hK2.box.tail.tail.head.two
          go_wp2_with fail
          have hS : inn op (mz av i) (mo av am i) (mz bv i) (mo bv bm i) (twoC op av am bv bm i).1 (twoC op av am bv bm i).2 8 = ((r0, r1), (v0, v1)) := by
            rw [← H1.out, ← H2.out, ← H3.out, ← H4.out, HC.out]; exact Hs.out
          have hR1 : twoR op av am bv bm i = (r0, r1) := by unfold twoR; rw [hS]
          exact ⟨⟨i + 1, v0, v1, _, _, by omega, by go_num, by show (inn op (mz av i) (mo av am i) (mz bv i) (mo bv bm i) (twoC op av am bv bm i).1 (twoC op av am bv bm i).2 8).2 = _; rw [hS],
            by rw [← twoV_succ, hR1, HV.out], by rw [← twoM_succ, hR1, HM.out], ⟨((hK2.set2 (x := .bool v0) (y := .bool v1) 2 rfl)).bel, ((hK2.set2 (x := .bool v0) (y := .bool v1) 2 rfl)).box.tail.tail, fun q hq => ((hK2.set2 (x := .bool v0) (y := .bool v1) 2 rfl)).lo q (List.mem_cons_of_mem _ (List.mem_cons_of_mem _ hq))⟩⟩, by simp [intOf]; omega⟩
    · have e64 : i = 64 := by omega
      subst e64
      obtain ⟨cc0, cc1, cc2, cc3, cc4⟩ := hK.box.head.two
      obtain ⟨oo0, oo1, oo2, oo3, oo4⟩ := hK.box.tail.head.two
      obtain ⟨zz0, zz1, zz2, zz3, zz4⟩ := hK.box.tail.tail.head.two
      obtain ⟨b0, b1, b2, b3, b4⟩ := hK.box.tail.tail.tail.head.two
      obtain ⟨a0, a1, a2, a3, a4⟩ := hK.box.tail.tail.tail.tail.head.two
      go_wp2_with fail
      rw [← HV.out, ← HM.out] at *
      exact bodyPost_ret (v := Bt (twoV op av am bv bm 64) (twoM op av am bv bm 64)) (by simp [results, Try.results81, go_sem, zz0, zz1]) rfl ⟨rfl, (hK.set2 (x := _) (y := _) 2 rfl).bel⟩

end Go.Proofs.Ytkigmocchaikgaa

/- That twoBits' answers are package bits' own: add, sub, and, or, xor; plain facts. -/
namespace Go.Proofs.Ytkigmocchaikgaa

/- the eight ways of one bit, decided -/
theorem inn_add : ∀ a m b n cm cM : Bool, (a && m) = false → (b && n) = false → (cm = true → cM = true) →
    (inn 2 (!a) (a || m) (!b) (b || n) (!cm) cM 8).2 = (!((a && b) || (cm && (a || b))), ((a || m) && (b || n)) || (cM && ((a || m) || (b || n))))
    ∧ ((inn 2 (!a) (a || m) (!b) (b || n) (!cm) cM 8).1.2 && (inn 2 (!a) (a || m) (!b) (b || n) (!cm) cM 8).1.1) = (m || n || (!cm && cM))
    ∧ ((inn 2 (!a) (a || m) (!b) (b || n) (!cm) cM 8).1.2 && !(inn 2 (!a) (a || m) (!b) (b || n) (!cm) cM 8).1.1) = (((a ^^ b) ^^ cm) && !(m || n || (!cm && cM))) := by
  decide
theorem inn_sub : ∀ a m b n cm cM : Bool, (a && m) = false → (b && n) = false → (cm = true → cM = true) →
    (inn 3 (!a) (a || m) (!b) (b || n) (!cm) cM 8).2 = (!((!(a || m) && b) || (cm && (!(a || m) || b))), (!a && (b || n)) || (cM && (!a || (b || n))))
    ∧ ((inn 3 (!a) (a || m) (!b) (b || n) (!cm) cM 8).1.2 && (inn 3 (!a) (a || m) (!b) (b || n) (!cm) cM 8).1.1) = (m || n || (!cm && cM))
    ∧ ((inn 3 (!a) (a || m) (!b) (b || n) (!cm) cM 8).1.2 && !(inn 3 (!a) (a || m) (!b) (b || n) (!cm) cM 8).1.1) = (((a ^^ b) ^^ cm) && !(m || n || (!cm && cM))) := by
  decide
theorem inn_and : ∀ a m b n : Bool, (a && m) = false → (b && n) = false →
    (inn 5 (!a) (a || m) (!b) (b || n) true false 8).2 = (true, false)
    ∧ ((inn 5 (!a) (a || m) (!b) (b || n) true false 8).1.2 && (inn 5 (!a) (a || m) (!b) (b || n) true false 8).1.1) = (((a || m) && (b || n)) && !(a && b))
    ∧ ((inn 5 (!a) (a || m) (!b) (b || n) true false 8).1.2 && !(inn 5 (!a) (a || m) (!b) (b || n) true false 8).1.1) = (a && b) := by
  decide
theorem inn_or : ∀ a m b n : Bool, (a && m) = false → (b && n) = false →
    (inn 6 (!a) (a || m) (!b) (b || n) true false 8).2 = (true, false)
    ∧ ((inn 6 (!a) (a || m) (!b) (b || n) true false 8).1.2 && (inn 6 (!a) (a || m) (!b) (b || n) true false 8).1.1) = ((m || n) && !(a || b))
    ∧ ((inn 6 (!a) (a || m) (!b) (b || n) true false 8).1.2 && !(inn 6 (!a) (a || m) (!b) (b || n) true false 8).1.1) = (a || b) := by
  decide
theorem inn_xor : ∀ a m b n : Bool, (a && m) = false → (b && n) = false →
    (inn 7 (!a) (a || m) (!b) (b || n) true false 8).2 = (true, false)
    ∧ ((inn 7 (!a) (a || m) (!b) (b || n) true false 8).1.2 && (inn 7 (!a) (a || m) (!b) (b || n) true false 8).1.1) = (m || n)
    ∧ ((inn 7 (!a) (a || m) (!b) (b || n) true false 8).1.2 && !(inn 7 (!a) (a || m) (!b) (b || n) true false 8).1.1) = ((a ^^ b) && !(m || n)) := by
  decide


theorem cy_le (av am bv bm : BitVec 64) (i : Nat) : cy av bv i = true → cy (bor av am) (bor bv bm) i = true :=
  cy_mono av bv (bor av am) (bor bv bm) (fun i h => by rw [bit_or, h]; rfl) (fun i h => by rw [bit_or, h]; rfl) i
theorem bw_le (av am bv bm : BitVec 64) (i : Nat) : bw (bor av am) bv i = true → bw av (bor bv bm) i = true :=
  bw_mono (bor av am) bv av (bor bv bm) (fun i h => by rw [bit_or, h]; rfl) (fun i h => by rw [bit_or, h]; rfl) i

theorem twoC_add {av am bv bm : BitVec 64} (ha : ∀ j, (bit av j && bit am j) = false) (hb : ∀ j, (bit bv j && bit bm j) = false) (i : Nat) : twoC 2 av am bv bm i = (!cy av bv i, cy (bor av am) (bor bv bm) i) := by
  induction i with
  | zero => rw [cy_zero, cy_zero]; rfl
  | succ i ih =>
    simp only [twoC]
    rw [ih, cy_succ, cy_succ, bit_or, bit_or]
    exact (inn_add (bit av i) (bit am i) (bit bv i) (bit bm i) (cy av bv i) (cy (bor av am) (bor bv bm) i) (ha i) (hb i) (cy_le av am bv bm i)).1
theorem two_add {av am bv bm : BitVec 64} (ha : ∀ j, (bit av j && bit am j) = false) (hb : ∀ j, (bit bv j && bit bm j) = false) : twoV 2 av am bv bm 64 = bandn (badd av bv) (addM av am bv bm) ∧ twoM 2 av am bv bm 64 = addM av am bv bm := by
  have key := fun j => inn_add (bit av j) (bit am j) (bit bv j) (bit bm j) (cy av bv j) (cy (bor av am) (bor bv bm) j) (ha j) (hb j) (cy_le av am bv bm j)
  constructor
  · apply acc_eq; intro j hj
    simp only [twoR]
    rw [twoC_add ha hb j, bit_andn _ _ _ hj, bit_add _ _ _ hj]
    unfold addM
    rw [addM_bit ha hb j hj]
    exact (key j).2.2
  · apply acc_eq; intro j hj
    simp only [twoR]
    rw [twoC_add ha hb j]
    unfold addM
    rw [addM_bit ha hb j hj]
    exact (key j).2.1
theorem twoC_sub {av am bv bm : BitVec 64} (ha : ∀ j, (bit av j && bit am j) = false) (hb : ∀ j, (bit bv j && bit bm j) = false) (i : Nat) (hi : i ≤ 64) : twoC 3 av am bv bm i = (!bw (bor av am) bv i, bw av (bor bv bm) i) := by
  induction i with
  | zero => rw [bw_zero, bw_zero]; rfl
  | succ i ih =>
    simp only [twoC]
    rw [ih (by omega), bw_succ _ _ _ (by omega), bw_succ _ _ _ (by omega), bit_or, bit_or]
    exact (inn_sub (bit av i) (bit am i) (bit bv i) (bit bm i) (bw (bor av am) bv i) (bw av (bor bv bm) i) (ha i) (hb i) (bw_le av am bv bm i)).1
theorem two_sub {av am bv bm : BitVec 64} (ha : ∀ j, (bit av j && bit am j) = false) (hb : ∀ j, (bit bv j && bit bm j) = false) : twoV 3 av am bv bm 64 = bandn (bsub av bv) (subM av am bv bm) ∧ twoM 3 av am bv bm 64 = subM av am bv bm := by
  have key := fun j => inn_sub (bit av j) (bit am j) (bit bv j) (bit bm j) (bw (bor av am) bv j) (bw av (bor bv bm) j) (ha j) (hb j) (bw_le av am bv bm j)
  constructor
  · apply acc_eq; intro j hj
    simp only [twoR]
    rw [twoC_sub ha hb j (by omega), bit_andn _ _ _ hj, bit_sub _ _ _ hj]
    unfold subM
    rw [subM_bit ha hb j hj]
    have h1 := (key j).2.2
    have m3 := bw_mono (bor av am) bv av bv (fun i h => by rw [bit_or, h]; rfl) (fun i h => h) j
    have m4 := bw_mono av bv av (bor bv bm) (fun i h => h) (fun i h => by rw [bit_or, h]; rfl) j
    refine h1.trans ?_
    revert m3 m4
    cases bit av j <;> cases bit am j <;> cases bit bv j <;> cases bit bm j <;> cases bw (bor av am) bv j <;> cases bw av bv j <;> cases bw av (bor bv bm) j <;> simp
  · apply acc_eq; intro j hj
    simp only [twoR]
    rw [twoC_sub ha hb j (by omega)]
    unfold subM
    rw [subM_bit ha hb j hj]
    exact (key j).2.1
theorem twoC_and {av am bv bm : BitVec 64} (ha : ∀ j, (bit av j && bit am j) = false) (hb : ∀ j, (bit bv j && bit bm j) = false) (i : Nat) : twoC 5 av am bv bm i = (true, false) := by
  induction i with
  | zero => rfl
  | succ i ih => simp only [twoC]; rw [ih]; exact (inn_and (bit av i) (bit am i) (bit bv i) (bit bm i) (ha i) (hb i)).1
theorem two_and {av am bv bm : BitVec 64} (ha : ∀ j, (bit av j && bit am j) = false) (hb : ∀ j, (bit bv j && bit bm j) = false) : twoV 5 av am bv bm 64 = band av bv ∧ twoM 5 av am bv bm 64 = bandn (band (bor av am) (bor bv bm)) (band av bv) := by
  have key := fun j => inn_and (bit av j) (bit am j) (bit bv j) (bit bm j) (ha j) (hb j)
  constructor
  · apply acc_eq; intro j hj
    simp only [twoR]
    rw [twoC_and ha hb j, bit_and']
    exact (key j).2.2
  · apply acc_eq; intro j hj
    simp only [twoR]
    rw [twoC_and ha hb j, bit_andn _ _ _ hj, bit_and', bit_and', bit_or, bit_or]
    exact (key j).2.1
theorem twoC_or {av am bv bm : BitVec 64} (ha : ∀ j, (bit av j && bit am j) = false) (hb : ∀ j, (bit bv j && bit bm j) = false) (i : Nat) : twoC 6 av am bv bm i = (true, false) := by
  induction i with
  | zero => rfl
  | succ i ih => simp only [twoC]; rw [ih]; exact (inn_or (bit av i) (bit am i) (bit bv i) (bit bm i) (ha i) (hb i)).1
theorem two_or {av am bv bm : BitVec 64} (ha : ∀ j, (bit av j && bit am j) = false) (hb : ∀ j, (bit bv j && bit bm j) = false) : twoV 6 av am bv bm 64 = bor av bv ∧ twoM 6 av am bv bm 64 = bandn (bor am bm) (bor av bv) := by
  have key := fun j => inn_or (bit av j) (bit am j) (bit bv j) (bit bm j) (ha j) (hb j)
  constructor
  · apply acc_eq; intro j hj
    simp only [twoR]
    rw [twoC_or ha hb j, bit_or]
    exact (key j).2.2
  · apply acc_eq; intro j hj
    simp only [twoR]
    rw [twoC_or ha hb j, bit_andn _ _ _ hj, bit_or, bit_or]
    exact (key j).2.1
theorem twoC_xor {av am bv bm : BitVec 64} (ha : ∀ j, (bit av j && bit am j) = false) (hb : ∀ j, (bit bv j && bit bm j) = false) (i : Nat) : twoC 7 av am bv bm i = (true, false) := by
  induction i with
  | zero => rfl
  | succ i ih => simp only [twoC]; rw [ih]; exact (inn_xor (bit av i) (bit am i) (bit bv i) (bit bm i) (ha i) (hb i)).1
theorem two_xor {av am bv bm : BitVec 64} (ha : ∀ j, (bit av j && bit am j) = false) (hb : ∀ j, (bit bv j && bit bm j) = false) : twoV 7 av am bv bm 64 = bandn (bxor av bv) (bor am bm) ∧ twoM 7 av am bv bm 64 = bor am bm := by
  have key := fun j => inn_xor (bit av j) (bit am j) (bit bv j) (bit bm j) (ha j) (hb j)
  constructor
  · apply acc_eq; intro j hj
    simp only [twoR]
    rw [twoC_xor ha hb j, bit_andn _ _ _ hj, bit_xor, bit_or]
    exact (key j).2.2
  · apply acc_eq; intro j hj
    simp only [twoR]
    rw [twoC_xor ha hb j, bit_or]
    exact (key j).2.1
end Go.Proofs.Ytkigmocchaikgaa

/- The contract of the reference's TwoBits. -/
namespace Go.Proofs.Ytkigmocchaikgaa
open Go.RowKit
attribute [local go_sem] w_and w_or w_xor w_andNot w_and1 w_and63 w_add w_sub w_mul w_sub1 w_add1 w_shl w_shl1 w_shr c_beq c_bne c_beq0 c_bne0 c_beq1 c_bne1 wrap_nv

/- what comes of sums is right again -/
theorem addP_right {a b : BitVec 64 × BitVec 64} : eqb (band (addP a b).1 (addP a b).2) zero = true := by
  rw [right_iff]; intro j
  by_cases hj : j < 64
  · simp only [addP]; rw [bit_andn _ _ _ hj]; cases bit (badd a.1 b.1) j <;> cases bit (addM a.1 a.2 b.1 b.2) j <;> rfl
  · rw [bit_big _ _ (by omega)]; rfl
theorem mulS_right (av am bv bm : BitVec 64) (k : Nat) : eqb (band (mulS av am bv bm k).1 (mulS av am bv bm k).2) zero = true := by
  induction k with
  | zero => exact (by decide : eqb (band zero zero) zero = true)
  | succ k ih =>
    simp only [mulS]
    by_cases h1 : bit av k = true
    · rw [if_pos h1]; exact addP_right
    · rw [if_neg h1]
      by_cases h2 : bit am k = true
      · rw [if_pos h2]; exact addP_right
      · rw [if_neg h2]; exact ih
theorem shl_right {v m : BitVec 64} (h : eqb (band v m) zero = true) (k : Nat) : eqb (band (bshl v k) (bshl m k)) zero = true := by
  rw [right_iff] at h ⊢
  intro j
  by_cases hj : j < 64
  · rw [bit_shl _ _ _ hj, bit_shl _ _ _ hj]
    have := h (j - k)
    revert this
    cases decide (k ≤ j) <;> cases bit v (j - k) <;> cases bit m (j - k) <;> simp
  · rw [bit_big _ _ (by omega)]; rfl
theorem zero_right (m : BitVec 64) : eqb (band zero m) zero = true := by
  rw [right_iff]; intro j; rw [bit_zero]; rfl
/- a sum, by twoBits -/
theorem twoBits_add {av am bv bm : BitVec 64} (ha : eqb (band av am) zero = true) (hb : eqb (band bv bm) zero = true) (w : World) :
    Calls Try.prog 81 #[N 2, Bt av am, Bt bv bm] w fun e w' => e = .returned (Bt (addP (av, am) (bv, bm)).1 (addP (av, am) (bv, bm)).2) ∧ Below w.heap.size w w' := by
  have h := twoBits_any 2 av am bv bm w
  rw [(two_add ((right_iff _ _).1 ha) ((right_iff _ _).1 hb)).1, (two_add ((right_iff _ _).1 ha) ((right_iff _ _).1 hb)).2] at h
  exact h
theorem twoBits_is {op : Int} {av am bv bm : BitVec 64} (hop : op = 2 ∨ op = 3 ∨ op = 5 ∨ op = 6 ∨ op = 7) (ha : eqb (band av am) zero = true) (hb : eqb (band bv bm) zero = true) (w : World) :
    Calls Try.prog 81 #[N op, Bt av am, Bt bv bm] w fun e w' => e = .returned (Bt (twoP op av am bv bm).1 (twoP op av am bv bm).2) ∧ Below w.heap.size w w' := by
  have h := twoBits_any op av am bv bm w
  have ra := (right_iff _ _).1 ha
  have rb := (right_iff _ _).1 hb
  rcases hop with rfl | rfl | rfl | rfl | rfl
  · rw [(two_add ra rb).1, (two_add ra rb).2] at h; exact h
  · rw [(two_sub ra rb).1, (two_sub ra rb).2] at h; exact h
  · rw [(two_and ra rb).1, (two_and ra rb).2] at h; exact h
  · rw [(two_or ra rb).1, (two_or ra rb).2] at h; exact h
  · rw [(two_xor ra rb).1, (two_xor ra rb).2] at h; exact h
theorem shiftUp_is {v m : BitVec 64} (h : eqb (band v m) zero = true) {n : Nat} (hn : n < 64) (w : World) :
    Calls Try.prog 20 #[N 8, Bt v m, N n] w fun e w' => e = .returned (Bt (bshl v n) (bshl m n)) ∧ Below w.heap.size w w' := by
  have hh := shiftBits_any true 8 rfl v m n hn w
  rw [(sh_up_eq h n).1, (sh_up_eq h n).2] at hh
  exact hh

set_option maxRecDepth 100000 in
set_option maxHeartbeats 2000000 in
theorem TwoBits_plain {op : Int} {av am bv bm : BitVec 64} (hop : Hid (op = 2 ∨ op = 3 ∨ op = 5 ∨ op = 6 ∨ op = 7)) (ha : Hid (eqb (band av am) zero = true)) (hb : Hid (eqb (band bv bm) zero = true)) (w : World) :
    Calls Try.prog 29 #[N op, Bt av am, Bt bv bm] w fun e w' => e = .returned (Bt (twoP op av am bv bm).1 (twoP op av am bv bm).2) ∧ Below w.heap.size w w' := by
  have h4 : (op != 4) = true := by rcases hop.out with rfl | rfl | rfl | rfl | rfl <;> decide
  go_enter Try.func29, Try.ntmps29
  go_wp2_with fail
  refine (twoBits_is hop.out ha.out hb.out _).mono ?_
  rintro e w1 ⟨rfl, hb1⟩
  obtain ⟨hc1, hf1, hs1⟩ := bk (w.heap.size + 1 + 1 + 1) hb1 (by simp)
  go_wp2_with fail
  exact bodyPost_ret (v := Bt (twoP op av am bv bm).1 (twoP op av am bv bm).2) (by simp [results, Try.results29, go_sem, hc1]) rfl ⟨rfl, (by repeat (first | exact Below.refl _ _ | assumption | refine below_drewN ?_ _ | refine Below.drew ?_ | refine Below.alloc ?_ (by first | exact Nat.le_refl _ | (simp; done) | (simp; omega) | omega) _ | refine Below.setCell ?_ (by first | exact Nat.le_refl _ | (simp; done) | (simp; omega) | omega) _ | refine Below.trans ?_ (Below.mono (by assumption) (by first | exact Nat.le_refl _ | (simp; done) | (simp; omega) | omega))))⟩

set_option maxRecDepth 100000 in
set_option maxHeartbeats 2000000 in
theorem TwoBits_mul {av am bv bm : BitVec 64} (hb : Hid (eqb (band bv bm) zero = true)) (w : World) :
    Calls Try.prog 29 #[N 4, Bt av am, Bt bv bm] w fun e w' => e = .returned (Bt (mulS av am bv bm 64).1 (mulS av am bv bm 64).2) ∧ Below w.heap.size w w' := by
  go_enter Try.func29, Try.ntmps29
  go_wp2_with fail
  go_loopw [8] (fun i wr => ∃ k : Nat, k ≤ 64 ∧ i = N k
      ∧ Below (w.heap.size + 1 + 1 + 1) (((w.alloc (.cells #[U av, U am] 24)).alloc (.cells #[U bv, U bm] 24)).alloc (.cells #[.int .u64 0, .int .u64 0] 24)) wr
      ∧ wr.cell? ⟨w.heap.size + 1 + 1 + 1, 0, none⟩ = some (U (mulS av am bv bm k).1) ∧ wr.cell? ⟨w.heap.size + 1 + 1 + 1, 1, none⟩ = some (U (mulS av am bv bm k).2)
      ∧ (∀ o, wr.frozen? ⟨w.heap.size + 1 + 1 + 1, o, none⟩ = false)
      ∧ w.heap.size + 1 + 1 + 1 + 1 ≤ wr.heap.size) (fun i _ => 64 - (intOf i).toNat)
  case atStart =>
    exact ⟨0, by omega, rfl, (by repeat (first | exact Below.refl _ _ | assumption | refine below_drewN ?_ _ | refine Below.drew ?_ | refine Below.alloc ?_ (by first | exact Nat.le_refl _ | (simp; done) | (simp; omega) | omega) _ | refine Below.setCell ?_ (by first | exact Nat.le_refl _ | (simp; done) | (simp; omega) | omega) _ | refine Below.trans ?_ (Below.mono (by assumption) (by first | exact Nat.le_refl _ | (simp; done) | (simp; omega) | omega)))), by simp [mulS, nv_zero, go_sem], by simp [mulS, nv_zero, go_sem], by simp [go_sem], by simp⟩
  case round =>
    obtain ⟨k, hk, rfl, hbel, ho0, ho1, hfo, hsz⟩ := hrel
    obtain ⟨hc, hf⟩ := bl hbel
    by_cases hlt : k < 64
    · obtain ⟨z, o, H1, H2⟩ := may_eq av am k
      have Hr : Hid (eqb (band (mulS av am bv bm k).1 (mulS av am bv bm k).2) zero = true) := mulS_right av am bv bm k
      have Hs : Hid (mulS av am bv bm (k + 1) = if bit av k then addP (mulS av am bv bm k) (bshl bv k, bshl bm k)
        else if bit am k then addP (mulS av am bv bm k) (zero, bor (bshl bv k) (bshl bm k)) else mulS av am bv bm k) := rfl
      generalize mulS av am bv bm k = S at ho0 ho1 Hs Hr
      obtain ⟨sv, sm⟩ := S
      simp only at ho0 ho1
      have Hu : Hid (eqb (band (bshl bv k) (bshl bm k)) zero = true) := shl_right hb.out k
      go_wp2_with fail
      refine (may_any hlt H1 H2 _).mono ?_
      rintro e w1 ⟨rfl, hb1⟩
      obtain ⟨hc1, hf1, hs1⟩ := bk _ hb1 hsz
      go_wp2_with fail
      refine (shiftUp_is hb.out hlt _).mono ?_
      rintro e w2 ⟨rfl, hb2⟩
      obtain ⟨hc2, hf2, hs2⟩ := bk _ hb2 hs1
      have hlt1 : w.heap.size + 1 + 1 + 1 < w2.heap.size := by omega
      have hlt2 : w.heap.size + 1 + 1 < w2.heap.size := by omega
      have hlt3 : w.heap.size + 1 < w2.heap.size := by omega
      have hlt4 : w.heap.size < w2.heap.size := by omega
      have hb12 : Below wr.heap.size wr w2 := hb1.trans (hb2.mono hb1.size)
      have Hz := H1.out
      have Ho := H2.out
      unfold mz at Hz
      unfold mo at Ho
      cases hA : bit av k <;> cases hM : bit am k
      all_goals
        rw [hA] at Hz
        rw [hA, hM] at Ho
        rw [hA, hM] at Hs
        simp only [Bool.not_true, Bool.not_false, Bool.or_false, Bool.or_true] at Hz Ho
        subst Hz
        subst Ho
        clear H1 H2 hA hM
      · go_wp2_with fail
        exact ⟨⟨k + 1, by omega, by go_num, keep_rel hbel (hb12.trans (((Below.refl _ _).alloc (Nat.le_refl _) _).mono hb12.size)) hsz ho0 ho1 hfo (by rw [Hs.out]; rfl) (by rw [Hs.out]; rfl)⟩, by simp [intOf]; omega⟩
      · go_wp2_with fail
        refine (twoBits_add (bv := zero) Hr.out (zero_right _) _).mono ?_
        rintro e w3 ⟨rfl, hb3⟩
        obtain ⟨hc3, hf3, hs3⟩ := bk (w.heap.size + 1 + 1 + 1 + 1) hb3 (by simp; omega)
        go_wp2_with fail
        exact ⟨⟨k + 1, by omega, by go_num, out_rel hbel (hb12.trans ((((Below.refl _ _).alloc (Nat.le_refl _) _).trans (hb3.mono (by simp))).mono hb12.size)) hsz ho0 ho1 hfo (by rw [Hs.out]; rfl) (by rw [Hs.out]; rfl)⟩, by simp [intOf]; omega⟩
      all_goals
        go_wp2_with fail
        refine (twoBits_add Hr.out Hu.out _).mono ?_
        rintro e w3 ⟨rfl, hb3⟩
        obtain ⟨hc3, hf3, hs3⟩ := bk (w.heap.size + 1 + 1 + 1 + 1) hb3 (by simp; omega)
        go_wp2_with fail
        exact ⟨⟨k + 1, by omega, by go_num, out_rel hbel (hb12.trans ((((Below.refl _ _).alloc (Nat.le_refl _) _).trans (hb3.mono (by simp))).mono hb12.size)) hsz ho0 ho1 hfo (by rw [Hs.out]; rfl) (by rw [Hs.out]; rfl)⟩, by simp [intOf]; omega⟩
    · have hk64 : k = 64 := by omega
      subst hk64
      go_wp2_with fail
      exact bodyPost_ret (v := Bt (mulS av am bv bm 64).1 (mulS av am bv bm 64).2) (by simp [results, Try.results29, go_sem, hc]) rfl ⟨rfl, (by repeat (first | exact Below.refl _ _ | assumption | refine below_drewN ?_ _ | refine Below.drew ?_ | refine Below.alloc ?_ (by first | exact Nat.le_refl _ | (simp; done) | (simp; omega) | omega) _ | refine Below.setCell ?_ (by first | exact Nat.le_refl _ | (simp; done) | (simp; omega) | omega) _ | refine Below.trans ?_ (Below.mono (by assumption) (by first | exact Nat.le_refl _ | (simp; done) | (simp; omega) | omega))))⟩

end Go.Proofs.Ytkigmocchaikgaa

/- The contracts of val and calc, and of the reference's, over plain values. -/
namespace Go.Proofs.Ytkigmocchaikgaa
open Go.RowKit

theorem okc {f : Nat} {A : Array Value} {V : Value} {args : List AV} {v : AV} (h : ∀ w, Calls Try.prog f A w fun e w' => e = .returned V ∧ Below w.heap.size w w') (hA : ∀ β, (args.map (AV.g β)).toArray = A) (hV : ∀ β, v.g β = V) (hv : v.ks = []) : Ok f args v :=
  ok_of_calls hA hV hv h

theorem V4.rt_of {a : V4} (h : a.ok = true) : a.rt = true := (rt_iff _ _).2 (val_facts h).1
theorem both_rt {a b : V4} (ha : a.rt = true) (hb : b.rt = true) : (eqb (band a.v a.m) zero && eqb (band b.v b.m) zero) = true := by
  rw [show eqb (band a.v a.m) zero = true from ha, show eqb (band b.v b.m) zero = true from hb]; rfl
theorem both_ok {a b : V4} (ha : a.ok = true) (hb : b.ok = true) : (valB a.v a.m a.l a.h && valB b.v b.m b.l b.h) = true := by
  rw [show valB a.v a.m a.l a.h = true from ha, show valB b.v b.m b.l b.h = true from hb]; rfl

theorem refRight_ok (a : V4) : Ok 34 [.ag a.cs] (.c (.b a.ok)) := okc (rightVal_any a.v a.m a.l a.h) (fun _ => rfl) (fun _ => rfl) rfl
theorem refAny_ok : Ok 43 [] (.ag V4.any.cs) := okc refValAny_any (fun _ => rfl) (fun _ => rfl) rfl
theorem refNorm_ok {a : V4} (hr : a.rt = true) : Ok 33 [.ag a.cs] (.tu [.ag a.norm.cs, .c (.b a.nok)]) := by
  unfold V4.norm
  cases hn : a.nok
  · exact okc (normVal_none hr hn) (fun _ => rfl) (fun _ => rfl) rfl
  · exact okc (normVal_yes hr hn) (fun _ => rfl) (fun _ => rfl) rfl
theorem refMeet_ok {a b : V4} (ha : a.rt = true) (hb : b.rt = true) :
    Ok 19 [.ag [.u a.v, .u a.m], .ag [.u b.v, .u b.m]] (.tu [.ag (if a.meets b then [.u (bor a.v b.v), .u (band a.m b.m)] else [.u zero, .u zero]), .c (.b (a.meets b))]) := by
  cases hm : a.meets b
  · obtain ⟨j, hj, hno, hok⟩ := meet_ne hm
    exact okc (fun w => meetBits_no a.v a.m b.v b.m j hj hno hok w) (fun _ => rfl) (fun _ => rfl) rfl
  · obtain ⟨h1, h2, h3⟩ := meet_eq (both_rt ha hb) hm
    refine okc (A := #[Bt a.v a.m, Bt b.v b.m]) (V := .tuple #[Bt (bor a.v b.v) (band a.m b.m), .bool true]) (fun w => ?_) (fun _ => rfl) (fun _ => rfl) rfl
    have h := meetBits_ok a.v a.m b.v b.m h1 w
    rw [h2, h3] at h
    exact h
theorem refShift_ok {a : V4} {op : Int} (hop : op = 8 ∨ op = 9) (hr : a.rt = true) {n : Nat} (hn : n < 64) :
    Ok 20 [.c (.i op), .ag [.u a.v, .u a.m], .c (.i n)] (.ag (if op = 8 then [.u (bshl a.v n), .u (bshl a.m n)] else [.u (bshr a.v n), .u (bshr a.m n)])) := by
  rcases hop with rfl | rfl
  · refine okc (A := #[N 8, Bt a.v a.m, N n]) (V := Bt (bshl a.v n) (bshl a.m n)) (fun w => ?_) (fun _ => rfl) (fun _ => rfl) rfl
    have h := shiftBits_any true 8 rfl a.v a.m n hn w
    rw [(sh_up_eq hr n).1, (sh_up_eq hr n).2] at h
    exact h
  · refine okc (A := #[N 9, Bt a.v a.m, N n]) (V := Bt (bshr a.v n) (bshr a.m n)) (fun w => ?_) (fun _ => rfl) (fun _ => rfl) rfl
    have h := shiftBits_any false 9 rfl a.v a.m n hn w
    rw [(sh_down_eq hr n).1, (sh_down_eq hr n).2] at h
    exact h
theorem refTwoBits_ok {a b : V4} {op : Int} (hop : 2 ≤ op ∧ op ≤ 7) (ha : a.rt = true) (hb : b.rt = true) :
    Ok 29 [.c (.i op), .ag [.u a.v, .u a.m], .ag [.u b.v, .u b.m]] (.ag [.u (twoP op a.v a.m b.v b.m).1, .u (twoP op a.v a.m b.v b.m).2]) := by
  by_cases h4 : op = 4
  · subst h4; exact okc (TwoBits_mul hb) (fun _ => rfl) (fun _ => rfl) rfl
  · exact okc (TwoBits_plain (hid (by omega)) ha hb) (fun _ => rfl) (fun _ => rfl) rfl

/- the reference's functions on two values -/
theorem refAlone_ok (a : V4) : Ok 90 [.ag a.cs] (.c (.b a.alone)) := refAlone_w0
theorem refBoth_ok (a b : V4) (i1 i2 : Bool) : Ok 99 [.ag a.cs, .c (.b i1), .ag b.cs, .c (.b i2)] (.tu [.ag (lvV (i1 && i2) a).cs, .ag (lvV (i1 && i2) b).cs, .c (.b (i1 && i2))]) := by
  cases i1
  · exact refBoth_w0 rfl
  · cases i2
    · exact refBoth_w1 rfl
    · exact refBoth_w2 rfl
theorem norm_lv (a : V4) : a.norm = lvV a.nok a.nrm := rfl
theorem lv_lv (p q : Bool) (a : V4) : lvV p (lvV q a) = lvV (p && q) a := by cases p <;> cases q <;> rfl
theorem refEqual_ok {a b : V4} (ha : a.ok = true) (hb : b.ok = true) : Ok 55 [.ag a.cs, .ag b.cs] (.tu [.ag (a.equal b).1.cs, .ag (a.equal b).2.1.cs, .c (.b (a.equal b).2.2)]) := by
  have hm := refMeet_ok (V4.rt_of ha) (V4.rt_of hb)
  unfold V4.equal
  cases h : a.meets b with
  | false => rw [h] at hm; exact refEqual_w0 rfl hm
  | true =>
    rw [h] at hm
    have hrt : (a.rawEqual b).rt = true := (rt_iff _ _).2 (by
      have r1 := (val_facts ha).1
      have r2 := (val_facts hb).1
      intro j
      have h3 := r1 j; have h4 := r2 j
      show (bit (bor a.v b.v) j && bit (band a.m b.m) j) = false
      rw [bit_or, bit_and']
      revert h3 h4
      cases bit a.v j <;> cases bit a.m j <;> cases bit b.v j <;> cases bit b.m j <;> simp)
    have hn := refNorm_ok hrt
    have hbt := refBoth_ok (a.rawEqual b).norm (a.rawEqual b).norm (a.rawEqual b).nok (a.rawEqual b).nok
    have := refEqual_w1 rfl hm hn hbt
    rw [norm_lv, lv_lv] at this
    simp only [if_true, left2, Bool.true_and]
    cases hk : (a.rawEqual b).nok <;> rw [hk] at this <;> exact this
theorem refLess_ok {a b : V4} (ha : a.ok = true) (hb : b.ok = true) : Ok 57 [.ag a.cs, .ag b.cs] (.tu [.ag (a.less b).1.cs, .ag (a.less b).2.1.cs, .c (.b (a.less b).2.2)]) := by
  unfold V4.less
  cases h1 : eqb b.h zero with
  | true => exact refLess_w0 (by rw [show eqb b.h 0#64 = true from h1]; rfl)
  | false =>
    cases h2 : eqb a.l top with
    | true => exact refLess_w1 (by rw [show eqb b.h 0#64 = false from h1, show eqb a.l 18446744073709551615#64 = true from h2]; rfl)
    | false =>
      have n1 := refNorm_ok (a := ⟨a.v, a.m, a.l, bmin a.h (bsub b.h one)⟩) (show a.rt = true from V4.rt_of ha)
      have n2 := refNorm_ok (a := ⟨b.v, b.m, bmax b.l (badd a.l one), b.h⟩) (show b.rt = true from V4.rt_of hb)
      have := refLess_w2 (a := a) (b := b) (by rw [show eqb b.h 0#64 = false from h1, show eqb a.l 18446744073709551615#64 = false from h2]; rfl) n1 n2 (refBoth_ok _ _ _ _)
      rw [norm_lv, norm_lv, lv_lv, lv_lv] at this
      simp only [Bool.or_self, Bool.false_eq_true, if_false, left2, Bool.true_and]
      revert this
      generalize V4.nok _ = k1
      generalize V4.nok _ = k2
      intro this
      cases k1 <;> cases k2 <;> exact this
theorem refNotLess_ok {a b : V4} (ha : a.ok = true) (hb : b.ok = true) : Ok 58 [.ag a.cs, .ag b.cs] (.tu [.ag (a.notLess b).1.cs, .ag (a.notLess b).2.1.cs, .c (.b (a.notLess b).2.2)]) := by
  have n1 := refNorm_ok (a := ⟨a.v, a.m, bmax a.l b.l, a.h⟩) (show a.rt = true from V4.rt_of ha)
  have n2 := refNorm_ok (a := ⟨b.v, b.m, b.l, bmin b.h a.h⟩) (show b.rt = true from V4.rt_of hb)
  have := refNotLess_w0 (a := a) (b := b) n1 n2 (refBoth_ok _ _ _ _)
  rw [norm_lv, norm_lv, lv_lv, lv_lv] at this
  unfold V4.notLess
  simp only [left2, Bool.true_and]
  revert this
  generalize V4.nok _ = k1
  generalize V4.nok _ = k2
  intro this
  cases k1 <;> cases k2 <;> exact this
end Go.Proofs.Ytkigmocchaikgaa
