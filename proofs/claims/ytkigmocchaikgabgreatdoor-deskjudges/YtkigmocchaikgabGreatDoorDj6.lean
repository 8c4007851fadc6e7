import Derived.Test.YtkigmocchaikgabGreatDoorDj5
import Derived.Test.YtkigmocchaikgabGreatDoorDj2
import Derived.Laws.MathBits
import Derived.Laws.StructEq
import Derived.Deep.RegionWith
import Derived.Deep.CutBlock
import Derived.Deep.DeepCutAuto
import Derived.Test.YtkigmocchaikgabGreatDoorDj1
import Derived.Test.YtkigmocchaikgabGreatDoorProg
/- What Norm answers has just the same numbers, and stays; Join has what one has: plain facts. -/
namespace Go.Proofs.YtkigmocchaikgabGreatDoor
def hasV (v m l h x:BitVec 64):Bool:=valB v m l h&&(hasB v m x&&(decide (nv l≤nv x)&&decide (nv x≤nv h)))
def rawV (v m l h x:BitVec 64):Bool:=hasB v m x&&(decide (nv l≤nv x)&&decide (nv x≤nv h))
def insV (v m l h v' m' l' h':BitVec 64):Bool:=valB v m l h&&(valB v' m' l' h'&&(insB v m v' m'&&(decide (nv l'≤nv l)&&decide (nv h≤nv h'))))
theorem zep {v m l h:BitVec 64} (hr:RtB v m) (ho:zc6 v m l h=true) :
  hasB v m (nLo v m l)=true∧hasB v m (nHi v m h)=true∧nv (nLo v m l)≤nv (nHi v m h)∧nv l≤nv (nLo v m l)∧nv (nHi v m h)≤nv h
  ∧ (∀ x,hasB (nV v m l h) (nM m (nLo v m l) (nHi v m h)) x=(hasB v m x&&hasB (spV (nLo v m l) (nHi v m h)) (sM (nLo v m l) (nHi v m h)) x)):=by
 unfold zc6 at ho
 simp only [Bool.and_eq_true,decide_eq_true_eq] at ho
 obtain ⟨h1,h2,h3⟩:=ho
 obtain ⟨a1,a2,_⟩:=zi7 hr h1
 obtain ⟨b1,b2,_⟩:=zly hr h2
 refine ⟨a1,b1,h3,a2,b2,fun x=>?_⟩
 have hs:=zqg (x:=x) hr (zes (nLo v m l) (nHi v m h))
 rw [zol hr (x:=nLo v m l) a1 (Int.le_refl _) h3,Bool.true_and] at hs
 exact hs.symm
theorem zfi {v m l h:BitVec 64} (hr:RtB v m) (ho:zc6 v m l h=true):valB (nV v m l h) (nM m (nLo v m l) (nHi v m h)) (nLo v m l) (nHi v m h)=true:=by
 obtain ⟨h1,h2,h3,h4,h5,h6⟩:=zep hr ho
 unfold valB
 rw [h6,h6,h1,h2,zf9 (Int.le_refl _) h3,zf9 h3 (Int.le_refl _)]
 simp only [Bool.true_and,Bool.and_eq_true,decide_eq_true_eq]
 refine ⟨h3,(zmy _ _ _ _).2 ⟨?_,zes _ _,fun j hj=>?_⟩⟩
 ·intro j
  have g1:=hr j
  have g2:=zes (nLo v m l) (nHi v m h) j
  unfold nV nM
  rw [zaq,zaz]
  revert g1 g2
  cases bit v j <;> cases bit m j <;> cases bit (spV (nLo v m l) (nHi v m h)) j <;> cases bit (sM (nLo v m l) (nHi v m h)) j <;> simp
 ·have g1:=((za0 _ _ _).1 h1).2 j hj
  have g2:bit (spV (nLo v m l) (nHi v m h)) j=(bit (nLo v m l) j&&!bit (sM (nLo v m l) (nHi v m h)) j):=by unfold spV;rw [zas _ _ _ hj]
  unfold nV nM
  rw [zaq,zaz,g2]
  revert g1
  cases bit v j <;> cases bit m j <;> cases bit (nLo v m l) j <;> cases bit (sM (nLo v m l) (nHi v m h)) j <;> simp
theorem zsk {v m l h:BitVec 64} (hr:RtB v m) (x:BitVec 64) :
  rawV v m l h x=(zc6 v m l h&&hasV (nV v m l h) (nM m (nLo v m l) (nHi v m h)) (nLo v m l) (nHi v m h) x):=by
 rw [Bool.eq_iff_iff]
 constructor
 ·intro hx
  unfold rawV at hx
  simp only [Bool.and_eq_true,decide_eq_true_eq] at hx
  obtain ⟨h1,h2,h3⟩:=hx
  have ho1:(zbr v m l).2=true:=by
   cases e:(zbr v m l).2
   ·have:=zpm hr e x h1;omega
   ·rfl
  have ho2:(zcg v m h).2=true:=by
   cases e:(zcg v m h).2
   ·have:=yafm hr e x h1;omega
   ·rfl
  have g1:nv (nLo v m l)≤nv x:=(zi7 hr ho1).2.2 x h1 h2
  have g2:nv x≤nv (nHi v m h):=(zly hr ho2).2.2 x h1 h3
  have ho:zc6 v m l h=true:=by
   unfold zc6
   rw [ho1,ho2]
   simp only [Bool.true_and,decide_eq_true_eq];omega
  rw [ho,Bool.true_and]
  unfold hasV
  rw [zfi hr ho,(zep hr ho).2.2.2.2.2 x,h1,zf9 g1 g2]
  simp [g1,g2]
 ·intro hx
  rw [Bool.and_eq_true] at hx
  obtain ⟨ho,hx⟩:=hx
  obtain ⟨_,_,_,h4,h5,h6⟩:=zep hr ho
  unfold hasV at hx
  rw [zfi hr ho,h6 x] at hx
  simp only [Bool.true_and,Bool.and_eq_true,decide_eq_true_eq] at hx
  unfold rawV
  simp only [Bool.and_eq_true,decide_eq_true_eq]
  exact ⟨hx.1.1,by omega,by omega⟩
theorem zbe {v m l h:BitVec 64} (hv:valB v m l h=true):RtB v m∧hasB v m l=true∧hasB v m h=true∧nv l≤nv h∧insB v m (spV l h) (sM l h)=true:=by
 unfold valB at hv
 simp only [Bool.and_eq_true,decide_eq_true_eq] at hv
 obtain ⟨h1,h2,h3,h4⟩:=hv
 exact ⟨((za0 _ _ _).1 h1).1,h1,h2,h3,h4⟩
theorem zp2 {v m l h:BitVec 64} (hv:valB v m l h=true):zc6 v m l h=true∧nV v m l h=v∧nM m (nLo v m l) (nHi v m h)=m∧nLo v m l=l∧nHi v m h=h:=by
 have hr:=(zbe hv).1
 have:=yart hr l h
 rw [hv] at this
 have h2:=this.symm
 unfold zrd at h2
 simp only [Bool.and_eq_true,zdl] at h2
 exact ⟨h2.1,h2.2.1,h2.2.2.1,h2.2.2.2.1,h2.2.2.2.2⟩
theorem zhj {av am bv bm:BitVec 64} (ha:RtB av am) (hb:RtB bv bm) (hall:∀ x,hasB av am x=true→hasB bv bm x=true):insB av am bv bm=true:=by
 rw [zmy]
 refine ⟨ha,hb,fun j hj=>?_⟩
 have h1:hasB av am av=true:=by
  rw [za0];refine ⟨ha,fun i _=>?_⟩
  have:=ha i;revert this;cases bit av i <;> cases bit am i <;> simp
 have h2:hasB av am (bor av am)=true:=by
  rw [za0];refine ⟨ha,fun i _=>?_⟩
  rw [zaq]
  have:=ha i;revert this;cases bit av i <;> cases bit am i <;> simp
 have g1:=((za0 _ _ _).1 (hall _ h1)).2 j hj
 have g2:=((za0 _ _ _).1 (hall _ h2)).2 j hj
 rw [zaq] at g2
 have g3:=ha j;have g4:=hb j
 revert g1 g2 g3 g4
 cases bit av j <;> cases bit am j <;> cases bit bv j <;> cases bit bm j <;> simp
theorem zj1 {av am bv bm:BitVec 64} (hi:insB av am bv bm=true) (x:BitVec 64) (hx:hasB av am x=true):hasB bv bm x=true:=zwk hi hx
theorem yafc {l h l' h':BitVec 64} (h1:nv l'≤nv l) (h2:nv l≤nv h) (h3:nv h≤nv h'):insB (spV l h) (sM l h) (spV l' h') (sM l' h')=true:=by
 have hl:=((za0 _ _ _).1 (zf9 (l:=l') (h:=h') (x:=l) h1 (by omega))).2
 have hh:=((za0 _ _ _).1 (zf9 (l:=l') (h:=h') (x:=h) (by omega) h3)).2
 rw [zmy]
 refine ⟨zes _ _,zes _ _,fun j hj=>?_⟩
 have g0:bit (spV l h) j=(bit l j&&!bit (sM l h) j):=by unfold spV;rw [zas _ _ _ hj]
 rw [g0]
 cases hs:bit (sM l' h') j
 ·have hsl:bit (sM l h) j=false:=by
   rw [zm5 _ _ _ hj]
   intro i hi
   by_cases h64:i<64
   ·have hsi:bit (sM l' h') i=false:=by
     rw [zm5 _ _ _ h64]
     exact fun k hk=>(zm5 _ _ _ hj).1 hs k (by omega)
    have a:=hl i h64
    have b:=hh i h64
    rw [hsi] at a b
    simp only [Bool.not_false,Bool.and_true] at a b
    rw [a,b]
   ·rw [zba _ _ (by omega),zba _ _ (by omega)]
  have a:=hl j hj
  rw [hs] at a
  simp only [Bool.not_false,Bool.and_true] at a
  rw [hsl,a];simp
 ·have:=zes l' h' j
  rw [hs] at this
  simp at this
  simp [this]
theorem zl7 {v m l h v' m' l' h':BitVec 64} (hv:valB v m l h=true) (hr:RtB v' m') (hi:insB v m v' m'=true) (h1:nv l'≤nv l) (h2:nv h≤nv h') :
  zc6 v' m' l' h'=true∧insV v m l h (nV v' m' l' h') (nM m' (nLo v' m' l') (nHi v' m' h')) (nLo v' m' l') (nHi v' m' h')=true:=by
 obtain ⟨a1,a2,a3,a4,a5⟩:=zbe hv
 have b2:=zj1 hi _ a2
 have b3:=zj1 hi _ a3
 have hx:=zsk hr (l:=l') (h:=h') l
 have hraw:rawV v' m' l' h' l=true:=by
  unfold rawV;rw [b2];simp only [Bool.true_and,Bool.and_eq_true,decide_eq_true_eq];omega
 rw [hraw] at hx
 have hx:=hx.symm
 rw [Bool.and_eq_true] at hx
 have ho:=hx.1
 have hx2:=zsk hr (l:=l') (h:=h') h
 have hraw2:rawV v' m' l' h' h=true:=by
  unfold rawV;rw [b3];simp only [Bool.true_and,Bool.and_eq_true,decide_eq_true_eq];omega
 rw [hraw2] at hx2
 have hx2:=hx2.symm
 rw [Bool.and_eq_true] at hx2
 have g1:=hx.2
 have g2:=hx2.2
 unfold hasV at g1 g2
 simp only [Bool.and_eq_true,decide_eq_true_eq] at g1 g2
 refine ⟨ho,?_⟩
 unfold insV
 rw [hv,zfi hr ho]
 simp only [Bool.true_and,Bool.and_eq_true,decide_eq_true_eq]
 refine ⟨zhj a1 (zbe (zfi hr ho)).1 fun x hx=>?_,g1.2.2.1,g2.2.2.2⟩
 rw [(zep hr ho).2.2.2.2.2 x,zj1 hi _ hx,Bool.true_and]
 exact zj1 (yafc g1.2.2.1 a4 g2.2.2.2) _ (zj1 a5 _ hx)
theorem yazr (x y:BitVec 64):min (nv x) (nv y)=nv (bmin x y):=by
 unfold bmin;split <;> omega
theorem yawc (x y:BitVec 64):max (nv x) (nv y)=nv (bmax x y):=by
 unfold bmax;split <;> omega
theorem yak7 (x y:BitVec 64):nv (bmin x y)≤nv x∧nv (bmin x y)≤nv y:=by rw [← yazr];omega
theorem yalw (x y:BitVec 64):nv x≤nv (bmax x y)∧nv y≤nv (bmax x y):=by rw [← yawc];omega
theorem yasy {x y z:BitVec 64} (h1:nv z≤nv x) (h2:nv z≤nv y):nv z≤nv (bmin x y):=by rw [← yazr];omega
theorem yaut {x y z:BitVec 64} (h1:nv x≤nv z) (h2:nv y≤nv z):nv (bmax x y)≤nv z:=by rw [← yawc];omega
def jV (av am bv bm:BitVec 64):BitVec 64:=bandn av (jM av am bv bm)
theorem zkd (av am bv bm:BitVec 64):RtB (jV av am bv bm) (jM av am bv bm):=by
 intro j
 unfold jV
 by_cases hj:j<64
 ·rw [zas _ _ _ hj];cases bit av j <;> cases bit (jM av am bv bm) j <;> rfl
 ·rw [zba _ _ (by omega)];rfl
theorem yaco {av am bv bm:BitVec 64} (ha:RtB av am) (hb:RtB bv bm):insB av am (jV av am bv bm) (jM av am bv bm)=true∧insB bv bm (jV av am bv bm) (jM av am bv bm)=true :=
 ⟨zhj ha (zkd _ _ _ _) fun x hx=>zqd ha hb (by rw [hx];rfl),zhj hb (zkd _ _ _ _) fun x hx=>zqd ha hb (by rw [hx];cases hasB av am x <;> rfl)⟩
theorem yabo {v m l h v' m' l' h' x:BitVec 64} (hi:insV v m l h v' m' l' h'=true) (hx:hasV v m l h x=true):hasV v' m' l' h' x=true:=by
 unfold insV at hi
 unfold hasV at hx ⊢
 simp only [Bool.and_eq_true,decide_eq_true_eq] at hi hx ⊢
 exact ⟨hi.2.1,zj1 hi.2.2.1 _ hx.2.1,by omega,by omega⟩
theorem zkf {v m l h v' m' l' h':BitVec 64} (hv:valB v m l h=true) (hw:valB v' m' l' h'=true) :
  zc6 (jV v m v' m') (jM v m v' m') (bmin l l') (bmax h h')=true
  ∧ insV v m l h (nV (jV v m v' m') (jM v m v' m') (bmin l l') (bmax h h')) (nM (jM v m v' m') (nLo (jV v m v' m') (jM v m v' m') (bmin l l')) (nHi (jV v m v' m') (jM v m v' m') (bmax h h'))) (nLo (jV v m v' m') (jM v m v' m') (bmin l l')) (nHi (jV v m v' m') (jM v m v' m') (bmax h h'))=true
  ∧ insV v' m' l' h' (nV (jV v m v' m') (jM v m v' m') (bmin l l') (bmax h h')) (nM (jM v m v' m') (nLo (jV v m v' m') (jM v m v' m') (bmin l l')) (nHi (jV v m v' m') (jM v m v' m') (bmax h h'))) (nLo (jV v m v' m') (jM v m v' m') (bmin l l')) (nHi (jV v m v' m') (jM v m v' m') (bmax h h'))=true:=by
 have ha:=(zbe hv).1
 have hb:=(zbe hw).1
 have h1:=zl7 hv (zkd v m v' m') (yaco ha hb).1 (yak7 l l').1 (yalw h h').1
 have h2:=zl7 hw (zkd v m v' m') (yaco ha hb).2 (yak7 l l').2 (yalw h h').2
 exact ⟨h1.1,h1.2,h2.2⟩
end Go.Proofs.YtkigmocchaikgabGreatDoor
namespace Go.Proofs.YtkigmocchaikgabGreatDoor
open Go.RowKit
section
attribute [local go_sem] zc9 w_or zdb za3 zbw zbc zc7 zcy zc8 zbz zb1 zc2 zb0 zda zcn zcz zb2 zby zbx zb3 za1
theorem hasC {v m x:BitVec 64} {b:Bool} (h:hasB v m x=b) (w:World) :
  Calls Tryz.prog 141 #[Bt v m,U x] w fun e w'=>e=.returned (.bool b)∧Below w.heap.size w w':=h ▸ yarq v m x w
theorem insC {av am bv bm:BitVec 64} {b:Bool} (h:insB av am bv bm=b) (w:World) :
  Calls Tryz.prog 143 #[Bt av am,Bt bv bm] w fun e w'=>e=.returned (.bool b)∧Below w.heap.size w w':=h ▸ yae0 av am bv bm w
end
end Go.Proofs.YtkigmocchaikgabGreatDoor
namespace Go.Proofs.YtkigmocchaikgabGreatDoor
theorem yav6 (x y:BitVec 64):nv (badd x y)=(nv x+nv y) % 18446744073709551616:=by
 unfold nv badd;rw [BitVec.toNat_add];omega
theorem yaxt (x y:BitVec 64):nv (bsub x y)=(nv x - nv y) % 18446744073709551616:=by
 rw [← zcy,IntKind.wrap_u64]
theorem yayi (x y:BitVec 64):nv (bmul x y)=(nv x*nv y) % 18446744073709551616:=by
 rw [← zc8,IntKind.wrap_u64]
theorem yaqn (x:BitVec 64) (n:Nat):nv (bshl x n)=(nv x*2 ^ n) % 18446744073709551616:=by
 rw [← zc2,IntKind.wrap_u64]
theorem yai5 (x:BitVec 64) (n:Nat):nv (bshr x n)=nv x / 2 ^ n:=(zda x n).symm
def addB (l h l' h':BitVec 64):BitVec 64×BitVec 64:=if decide (nv (badd l l')<nv l)=decide (nv (badd h h')<nv h) then (badd l l',badd h h') else (zero,top)
def subB (l h l' h':BitVec 64):BitVec 64×BitVec 64:=if decide (nv l<nv h')=decide (nv h<nv l') then (bsub l h',bsub h l') else (zero,top)
def zyo (x y:BitVec 64):Bool:=!eqb y zero&&decide (18446744073709551615 / nv y<nv x)
def mulB (l h l' h':BitVec 64):BitVec 64×BitVec 64:=if zyo h h' then (zero,top) else (bmul l l',bmul h h')
def zce (op:Int) (l h l' h':BitVec 64):BitVec 64×BitVec 64 :=
 if op=2 then addB l h l' h' else if op=3 then subB l h l' h' else if op=4 then mulB l h l' h'
 else if op=5 then (zero,bmin h h') else if op=6 then (bmax l l',top) else (zero,top)
def shlB (l h:BitVec 64) (n:Nat):BitVec 64×BitVec 64:=if eqb (bshr (bshl h n) n) h then (bshl l n,bshl h n) else (zero,top)
theorem ends (x:BitVec 64):nv zero≤nv x∧nv x≤nv top:=by
 rw [za4,zmi]
 have:=zb7 x
 have:=zx3 x
 omega
theorem yafp {l h l' h' x y:BitVec 64} (h1:nv l≤nv x) (h2:nv x≤nv h) (h3:nv l'≤nv y) (h4:nv y≤nv h'):nv (addB l h l' h').1≤nv (badd x y)∧nv (badd x y)≤nv (addB l h l' h').2:=by
 unfold addB
 split
 ·rename_i he
  have a1:=zb7 l;have a2:=zx3 h;have a3:=zb7 l';have a4:=zx3 h'
  have he':nv (badd l l')<nv l↔nv (badd h h')<nv h:=by simpa using he
  simp only [yav6] at he' ⊢
  omega
 ·exact ends _
theorem yad9 {l h l' h' x y:BitVec 64} (h1:nv l≤nv x) (h2:nv x≤nv h) (h3:nv l'≤nv y) (h4:nv y≤nv h'):nv (subB l h l' h').1≤nv (bsub x y)∧nv (bsub x y)≤nv (subB l h l' h').2:=by
 unfold subB
 split
 ·rename_i he
  have a1:=zb7 l;have a2:=zx3 h;have a3:=zb7 l';have a4:=zx3 h'
  have he':nv l<nv h'↔nv h<nv l':=by simpa using he
  simp only [yaxt]
  omega
 ·exact ends _
theorem yado {l h l' h' x y:BitVec 64} (h1:nv l≤nv x) (h2:nv x≤nv h) (h3:nv l'≤nv y) (h4:nv y≤nv h'):nv (mulB l h l' h').1≤nv (bmul x y)∧nv (bmul x y)≤nv (mulB l h l' h').2:=by
 unfold mulB
 split
 ·exact ends _
 ·rename_i ho
  have a1:=zb7 l;have a3:=zb7 l'
  have hx0:0≤nv x:=by omega
  have hy0:0≤nv y:=by omega
  have hbig:nv h*nv h'≤18446744073709551615:=by
   unfold zyo at ho
   cases hz:eqb h' zero
   ·rw [hz] at ho
    simp only [Bool.not_false,Bool.true_and,decide_eq_true_eq,Int.not_lt] at ho
    have hp:0<nv h':=by
     have hne:h'≠zero:=(yagv _ _).1 hz
     have:nv h'≠0:=fun e=>hne (zkr _ _ (by rw [e,za4]))
     have:=zb7 h'
     omega
    have hm:nv h*nv h'≤(18446744073709551615 / nv h')*nv h':=Int.mul_le_mul_of_nonneg_right ho (by omega)
    have hd:(18446744073709551615 / nv h')*nv h'≤18446744073709551615:=Int.ediv_mul_le _ (by omega)
    omega
   ·rw [(zdl _ _).1 hz,za4];omega
  have hlo:nv l*nv l'≤nv x*nv y:=Int.mul_le_mul h1 h3 a3 hx0
  have hhi:nv x*nv y≤nv h*nv h':=Int.mul_le_mul h2 h4 hy0 (by omega)
  have h00:0≤nv l*nv l':=Int.mul_nonneg a1 a3
  simp only [yayi]
  generalize nv l*nv l'=p at *
  generalize nv x*nv y=q at *
  generalize nv h*nv h'=r at *
  omega
theorem yawl (x y:BitVec 64):nv (band x y)≤nv x∧nv (band x y)≤nv y:=by
 unfold nv band
 rw [BitVec.toNat_and]
 have h1:x.toNat &&& y.toNat≤x.toNat:=Nat.and_le_left
 have h2:x.toNat &&& y.toNat≤y.toNat:=Nat.and_le_right
 omega
theorem yaz1 (x y:BitVec 64):nv x≤nv (bor x y)∧nv y≤nv (bor x y):=by
 unfold nv bor
 rw [BitVec.toNat_or]
 have h1:x.toNat≤x.toNat ||| y.toNat:=Nat.left_le_or
 have h2:y.toNat≤x.toNat ||| y.toNat:=Nat.right_le_or
 omega
theorem zk4 {op:Int} (hop:2≤op∧op≤7) {l h l' h' x y:BitVec 64} (h1:nv l≤nv x) (h2:nv x≤nv h) (h3:nv l'≤nv y) (h4:nv y≤nv h') :
  nv (zce op l h l' h').1≤nv (numB op x y)∧nv (numB op x y)≤nv (zce op l h l' h').2:=by
 rcases zi1 hop with rfl | rfl | rfl | rfl | rfl | rfl
 ·exact yafp h1 h2 h3 h4
 ·exact yad9 h1 h2 h3 h4
 ·exact yado h1 h2 h3 h4
 ·show nv zero≤nv (band x y)∧nv (band x y)≤nv (bmin h h')
  have ha:=yawl x y
  exact ⟨(ends _).1,yasy (by omega) (by omega)⟩
 ·show nv (bmax l l')≤nv (bor x y)∧nv (bor x y)≤nv top
  have ha:=yaz1 x y
  exact ⟨yaut (by omega) (by omega),(ends _).2⟩
 ·exact ends _
theorem zqf {l h x:BitVec 64} (n:Nat) (h1:nv l≤nv x) (h2:nv x≤nv h):nv (bshr l n)≤nv (bshr x n)∧nv (bshr x n)≤nv (bshr h n):=by
 simp only [yai5]
 have hp:(0:Int)<2 ^ n:=Int.pow_pos (by decide)
 exact ⟨Int.ediv_le_ediv hp h1,Int.ediv_le_ediv hp h2⟩
theorem yawr (x:BitVec 64) (n:Nat):nv (bshr x n)≤nv x:=by
 rw [yai5]
 exact Int.ediv_le_self _ (zb7 x)
theorem zo6 {l h x:BitVec 64} (n:Nat) (h1:nv l≤nv x) (h2:nv x≤nv h):nv (shlB l h n).1≤nv (bshl x n)∧nv (bshl x n)≤nv (shlB l h n).2:=by
 unfold shlB
 split
 ·rename_i he
  have he':=(zdl _ _).1 he
  have hn:nv (bshr (bshl h n) n)=nv h:=by rw [he']
  rw [yai5,yaqn] at hn
  have hp:(0:Int)<2 ^ n:=Int.pow_pos (by decide)
  have hh0:=zb7 h
  have hlt:nv h*2 ^ n<18446744073709551616:=by
   have hd:=Int.ediv_mul_le (nv h*2 ^ n % 18446744073709551616) (b:=2 ^ n) (by omega)
   rw [hn] at hd
   have hm:=Int.emod_lt_of_pos (nv h*2 ^ n) (show (0:Int)<18446744073709551616 by decide)
   omega
  have a1:=zb7 l
  have g1:nv l*2 ^ n≤nv x*2 ^ n:=Int.mul_le_mul_of_nonneg_right h1 (by omega)
  have g2:nv x*2 ^ n≤nv h*2 ^ n:=Int.mul_le_mul_of_nonneg_right h2 (by omega)
  have g0:0≤nv l*2 ^ n:=Int.mul_nonneg a1 (by omega)
  simp only [yaqn]
  generalize nv l*2 ^ n=p at *
  generalize nv x*2 ^ n=q at *
  generalize nv h*2 ^ n=r at *
  omega
 ·exact ends _
theorem yapx {v m l h x:BitVec 64} (hr:RtB v m) (hx:rawV v m l h x=true) :
  zc6 v m l h=true∧hasV (nV v m l h) (nM m (nLo v m l) (nHi v m h)) (nLo v m l) (nHi v m h) x=true:=by
 have:=zsk hr (l:=l) (h:=h) x
 rw [hx] at this
 have h2:=this.symm
 rw [Bool.and_eq_true] at h2
 exact h2
end Go.Proofs.YtkigmocchaikgabGreatDoor
namespace Go.Proofs.YtkigmocchaikgabGreatDoor
open Go.RowKit
section
attribute [local go_sem] zc9 w_or zdb za3 zbw zbc zc7 zcy zc8 zbz zb1 zc2 zb0 zda zcn zcz zb2 zby zbx zb3 za1
set_option maxHeartbeats 1000000 in
theorem zq6 (v m l h v' m' l' h':BitVec 64) (w:World) :
  Calls Tryz.prog 207 #[Vl v m l h,Vl v' m' l' h'] w fun e w'=>e=.returned (.tuple #[U (addB l h l' h').1,U (addB l h l' h').2])∧Below w.heap.size w w':=by
 have Ha:Hid (addB l h l' h'=if decide (nv (badd l l')<nv l)=decide (nv (badd h h')<nv h) then (badd l l',badd h h') else (zero,top)):=rfl
 obtain ⟨p,hp⟩:∃ b,decide (nv (badd l l')<nv l)=b:=⟨_,rfl⟩
 obtain ⟨q,hq⟩:∃ b,decide (nv (badd h h')<nv h)=b:=⟨_,rfl⟩
 rw [hp,hq] at Ha
 cases p <;> cases q
 all_goals
  go_enter Tryz.func207,Tryz.ntmps207
  go_wp2_with fail
  go_quiet (fail)
  go_wp2_with fail
  go_quiet (fail)
  go_wp2_with fail
  go_ret2
  rw [Ha.out]
  exact ⟨rfl,(by repeat (first | exact Below.refl _ _ | assumption | refine below_drewN ?_ _ | refine Below.drew ?_ | refine Below.alloc ?_ (by first | exact Nat.le_refl _ | (simp;done) | (simp;omega) | omega) _ | refine Below.setCell ?_ (by first | exact Nat.le_refl _ | (simp;done) | (simp;omega) | omega) _ | refine Below.trans ?_ (Below.mono (by assumption) (by first | exact Nat.le_refl _ | (simp;done) | (simp;omega) | omega))))⟩
set_option maxHeartbeats 1000000 in
theorem zrm (v m l h v' m' l' h':BitVec 64) (w:World) :
  Calls Tryz.prog 208 #[Vl v m l h,Vl v' m' l' h'] w fun e w'=>e=.returned (.tuple #[U (subB l h l' h').1,U (subB l h l' h').2])∧Below w.heap.size w w':=by
 have Ha:Hid (subB l h l' h'=if decide (nv l<nv h')=decide (nv h<nv l') then (bsub l h',bsub h l') else (zero,top)):=rfl
 obtain ⟨p,hp⟩:∃ b,decide (nv l<nv h')=b:=⟨_,rfl⟩
 obtain ⟨q,hq⟩:∃ b,decide (nv h<nv l')=b:=⟨_,rfl⟩
 rw [hp,hq] at Ha
 cases p <;> cases q
 all_goals
  go_enter Tryz.func208,Tryz.ntmps208
  go_wp2_with fail
  go_quiet (fail)
  go_wp2_with fail
  first | (go_quiet (fail);go_wp2_with fail) | skip
  go_ret2
  rw [Ha.out]
  exact ⟨rfl,(by repeat (first | exact Below.refl _ _ | assumption | refine below_drewN ?_ _ | refine Below.drew ?_ | refine Below.alloc ?_ (by first | exact Nat.le_refl _ | (simp;done) | (simp;omega) | omega) _ | refine Below.setCell ?_ (by first | exact Nat.le_refl _ | (simp;done) | (simp;omega) | omega) _ | refine Below.trans ?_ (Below.mono (by assumption) (by first | exact Nat.le_refl _ | (simp;done) | (simp;omega) | omega))))⟩
set_option maxRecDepth 100000 in
set_option maxHeartbeats 1000000 in
theorem zrv (v m l h v' m' l' h':BitVec 64) (w:World) :
  Calls Tryz.prog 209 #[Vl v m l h,Vl v' m' l' h'] w fun e w'=>e=.returned (.tuple #[U (mulB l h l' h').1,U (mulB l h l' h').2])∧Below w.heap.size w w':=by
 have Ha:Hid (mulB l h l' h'=if zyo h h' then (zero,top) else (bmul l l',bmul h h')):=rfl
 have Ho:Hid (zyo h h'=(!eqb h' zero&&decide (18446744073709551615 / nv h' < nv h))):=rfl
 obtain ⟨z,hz⟩:∃ b,eqb h' zero=b:=⟨_,rfl⟩
 rw [hz] at Ho
 rw [Ho.out] at Ha
 cases z
 ·have hne:nv h'≠0:=fun e=>by
   have:=zkr h' zero (by rw [e,za4])
   rw [this] at hz;revert hz;decide
  have hpos:0<nv h':=by have:=zb7 h';omega
  have hnn:0≤nv h':=by omega
  have hcv:=zx3 h'
  obtain ⟨D,hD⟩:∃ D,18446744073709551615 / nv h'=D:=⟨_,rfl⟩
  rw [hD] at Ha
  by_cases hd:D<nv h
  ·have Hd:Hid (decide (D<nv h)=true):=decide_eq_true hd
   rw [Hd.out] at Ha
   go_enter Tryz.func209,Tryz.ntmps209
   go_wp2_with fail
   go_quiet (fail)
   go_wp2_with fail
   go_ret2
   rw [Ha.out]
   exact ⟨rfl,(by repeat (first | exact Below.refl _ _ | assumption | refine below_drewN ?_ _ | refine Below.drew ?_ | refine Below.alloc ?_ (by first | exact Nat.le_refl _ | (simp;done) | (simp;omega) | omega) _ | refine Below.setCell ?_ (by first | exact Nat.le_refl _ | (simp;done) | (simp;omega) | omega) _ | refine Below.trans ?_ (Below.mono (by assumption) (by first | exact Nat.le_refl _ | (simp;done) | (simp;omega) | omega))))⟩
  ·have Hd:Hid (decide (D<nv h)=false):=decide_eq_false hd
   rw [Hd.out] at Ha
   have hle:decide (D<nv h)=false:=decide_eq_false hd
   clear hd
   go_enter Tryz.func209,Tryz.ntmps209
   go_wp2_with fail
   go_quiet (fail)
   go_wp2_with fail
   go_quiet (fail)
   go_wp2_with fail
   go_ret2
   rw [Ha.out]
   exact ⟨rfl,(by repeat (first | exact Below.refl _ _ | assumption | refine below_drewN ?_ _ | refine Below.drew ?_ | refine Below.alloc ?_ (by first | exact Nat.le_refl _ | (simp;done) | (simp;omega) | omega) _ | refine Below.setCell ?_ (by first | exact Nat.le_refl _ | (simp;done) | (simp;omega) | omega) _ | refine Below.trans ?_ (Below.mono (by assumption) (by first | exact Nat.le_refl _ | (simp;done) | (simp;omega) | omega))))⟩
 ·go_enter Tryz.func209,Tryz.ntmps209
  go_wp2_with fail
  go_quiet (fail)
  go_wp2_with fail
  go_quiet (fail)
  go_wp2_with fail
  go_ret2
  rw [Ha.out]
  exact ⟨rfl,(by repeat (first | exact Below.refl _ _ | assumption | refine below_drewN ?_ _ | refine Below.drew ?_ | refine Below.alloc ?_ (by first | exact Nat.le_refl _ | (simp;done) | (simp;omega) | omega) _ | refine Below.setCell ?_ (by first | exact Nat.le_refl _ | (simp;done) | (simp;omega) | omega) _ | refine Below.trans ?_ (Below.mono (by assumption) (by first | exact Nat.le_refl _ | (simp;done) | (simp;omega) | omega))))⟩
end
def BoxAt (w:World) (b:Nat) (vs:List Value):Prop :=
 (∀ i v,vs[i]?=some v→w.cell? ⟨b,i,none⟩=some v)∧(∀ i v,vs[i]?=some v→w.frozen? ⟨b,i,none⟩=false)∧b<w.heap.size
def Boxes (w:World):List (Nat×List Value)→Prop
 | []=>True
 | p::L=>BoxAt w p.1 p.2∧(∀ q,q∈L→q.1<p.1)∧Boxes w L
theorem BoxAt.keep {w w':World} {b:Nat} {vs:List Value} (h:BoxAt w b vs) (hb:Below w.heap.size w w'):BoxAt w' b vs :=
 ⟨fun i v e=>(hb.cell (p:=⟨b,i,none⟩) h.2.2).trans (h.1 i v e),fun i v e=>(hb.frozen (p:=⟨b,i,none⟩) h.2.2).trans (h.2.1 i v e),Nat.lt_of_lt_of_le h.2.2 hb.size⟩
theorem Boxes.keep {w w':World}:∀ {L:List (Nat×List Value)},Boxes w L→Below w.heap.size w w'→Boxes w' L
 | [],_,_=>trivial
 | _::_,h,hb=>⟨h.1.keep hb,h.2.1,Boxes.keep h.2.2 hb⟩
theorem Boxes.nil (w:World):Boxes w []:=trivial
theorem Boxes.lt {w:World}:∀ {L:List (Nat×List Value)},Boxes w L→∀ q,q∈L→q.1<w.heap.size
 | [],_,_,hq=>absurd hq (by simp)
 | p::L,h,q,hq=>by
  rcases List.mem_cons.1 hq with e | e
  ·rw [e];exact h.1.2.2
  ·exact Boxes.lt h.2.2 q e
theorem Boxes.add {w:World} {L:List (Nat×List Value)} (h:Boxes w L) (cs:List Value) (t:TypeId):Boxes (w.alloc (.cells cs.toArray t)) ((w.heap.size,cs)::L):=by
 refine ⟨⟨fun i v e=>?_,fun i v e=>?_,by simp⟩,fun q hq=>h.lt q hq,h.keep ((Below.refl _ _).alloc (Nat.le_refl _) _)⟩
 ·rw [World.cell?_alloc_new];simpa using e
 ·rw [World.frozen?_alloc_new]
theorem Boxes.add2 {w:World} {L:List (Nat×List Value)} (h:Boxes w L) (x y:Value) (t:TypeId):Boxes (w.alloc (.cells #[x,y] t)) ((w.heap.size,[x,y])::L):=h.add [x,y] t
theorem Boxes.add4 {w:World} {L:List (Nat×List Value)} (h:Boxes w L) (x y z u:Value) (t:TypeId):Boxes (w.alloc (.cells #[x,y,z,u] t)) ((w.heap.size,[x,y,z,u])::L):=h.add [x,y,z,u] t
theorem Boxes.drew {w:World} {L:List (Nat×List Value)} (h:Boxes w L) (n:Nat):Boxes (w.drewN n) L:=h.keep (below_drewN (Below.refl _ _) n)
theorem BoxAt.other {w:World} {b b' i:Nat} {v:Value} {vs:List Value} (h:BoxAt w b vs) (hne:b≠b'):BoxAt (w.setCell ⟨b',i,none⟩ v) b vs:=by
 refine ⟨fun j u e=>?_,fun j u e=>?_,by simpa using h.2.2⟩
 ·rw [World.cell?_setCell_other _ _ _ _ (by intro h;injection h with h1;exact hne h1.symm)];exact h.1 j u e
 ·rw [World.frozen?_setCell];exact h.2.1 j u e
theorem Boxes.other {w:World} {b' i:Nat} {v:Value}:∀ {L:List (Nat×List Value)},Boxes w L→(∀ q,q∈L→q.1≠b')→Boxes (w.setCell ⟨b',i,none⟩ v) L
 | [],_,_=>trivial
 | p::_,h,hn=>⟨h.1.other (hn p (by simp)),h.2.1,Boxes.other h.2.2 fun q hq=>hn q (by simp [hq])⟩
theorem BoxAt.setOne {w:World} {b i:Nat} {v u:Value} {vs:List Value} (h:BoxAt w b vs) (hi:vs[i]?=some u):BoxAt (w.setCell ⟨b,i,none⟩ v) b (vs.set i v):=by
 have hlt:i<vs.length:=by
  rcases Nat.lt_or_ge i vs.length with h1 | h1
  ·exact h1
  ·rw [List.getElem?_eq_none h1] at hi;cases hi
 refine ⟨fun j y e=>?_,fun j y e=>?_,by simpa using h.2.2⟩
 ·by_cases hj:i=j
  ·subst hj
   rw [List.getElem?_set_self hlt] at e
   rw [World.cell?_setCell_same _ _ _ (h.1 i u hi)];exact e
  ·rw [List.getElem?_set_ne hj] at e
   rw [World.cell?_setCell_other _ _ _ _ (by intro h;injection h with _ h2;exact hj h2)];exact h.1 j y e
 ·rw [World.frozen?_setCell]
  by_cases hj:i=j
  ·subst hj;exact h.2.1 i u hi
  ·rw [List.getElem?_set_ne hj] at e;exact h.2.1 j y e
theorem Boxes.setOne {w:World} {b i:Nat} {v u:Value} {vs:List Value}:∀ {L:List (Nat×List Value)} (k:Nat),Boxes w L→L[k]?=some (b,vs)→vs[i]?=some u→Boxes (w.setCell ⟨b,i,none⟩ v) (L.set k (b,vs.set i v))
 | [],_,_,e,_=>by simp at e
 | p::L,0,h,e,hi=>by
  simp only [List.getElem?_cons_zero,Option.some.injEq] at e
  subst e
  exact ⟨h.1.setOne hi,h.2.1,h.2.2.other fun q hq=>Nat.ne_of_lt (h.2.1 q hq)⟩
 | p::L,k+1,h,e,hi=>by
  simp only [List.getElem?_cons_succ] at e
  have hm:(b,vs)∈L:=List.mem_of_getElem? e
  refine ⟨h.1.other (Nat.ne_of_gt (h.2.1 _ hm)),fun q hq=>?_,Boxes.setOne k h.2.2 e hi⟩
  rcases List.mem_or_eq_of_mem_set hq with h1 | h1
  ·exact h.2.1 q h1
  ·rw [h1];have:=h.2.1 (b,vs) hm;exact this
theorem Boxes.set2 {w:World} {b:Nat} {x y u0 u1:Value} {L:List (Nat×List Value)} (k:Nat) (h:Boxes w L) (e:L[k]?=some (b,[u0,u1])) :
  Boxes ((w.setCell ⟨b,0,none⟩ x).setCell ⟨b,1,none⟩ y) (L.set k (b,[x,y])):=by
 have h1:=Boxes.setOne (i:=0) (v:=x) k h e rfl
 have e1:(L.set k (b,[u0,u1].set 0 x))[k]?=some (b,[x,u1]):=by
  have:k<L.length:=by
   rcases Nat.lt_or_ge k L.length with h2 | h2
   ·exact h2
   ·rw [List.getElem?_eq_none h2] at e;cases e
  rw [List.getElem?_set_self this];rfl
 have h2:=Boxes.setOne (i:=1) (v:=y) k h1 e1 rfl
 rw [List.set_set] at h2
 exact h2
theorem Boxes.set4 {w:World} {b:Nat} {x y z t u0 u1 u2 u3:Value} {L:List (Nat×List Value)} (k:Nat) (h:Boxes w L) (e:L[k]?=some (b,[u0,u1,u2,u3])) :
  Boxes ((((w.setCell ⟨b,0,none⟩ x).setCell ⟨b,1,none⟩ y).setCell ⟨b,2,none⟩ z).setCell ⟨b,3,none⟩ t) (L.set k (b,[x,y,z,t])):=by
 have hk:k<L.length:=by
  rcases Nat.lt_or_ge k L.length with h2 | h2
  ·exact h2
  ·rw [List.getElem?_eq_none h2] at e;cases e
 have h1:=Boxes.setOne (i:=0) (v:=x) k h e rfl
 have h2:=Boxes.setOne (i:=1) (v:=y) (vs:=[x,u1,u2,u3]) k h1 (by rw [List.getElem?_set_self hk];rfl) rfl
 rw [List.set_set] at h2
 have h3:=Boxes.setOne (i:=2) (v:=z) (vs:=[x,y,u2,u3]) k h2 (by rw [List.getElem?_set_self hk];rfl) rfl
 rw [List.set_set] at h3
 have h4:=Boxes.setOne (i:=3) (v:=t) (vs:=[x,y,z,u3]) k h3 (by rw [List.getElem?_set_self hk];rfl) rfl
 rw [List.set_set] at h4
 exact h4
theorem BoxAt.one {w:World} {b:Nat} {x:Value} (h:BoxAt w b [x]):w.cell? ⟨b,0,none⟩=some x∧w.frozen? ⟨b,0,none⟩=false∧b<w.heap.size :=
 ⟨h.1 0 x rfl,h.2.1 0 x rfl,h.2.2⟩
theorem BoxAt.two {w:World} {b:Nat} {x y:Value} (h:BoxAt w b [x,y]):w.cell? ⟨b,0,none⟩=some x∧w.cell? ⟨b,1,none⟩=some y∧w.frozen? ⟨b,0,none⟩=false∧w.frozen? ⟨b,1,none⟩=false∧b<w.heap.size :=
 ⟨h.1 0 x rfl,h.1 1 y rfl,h.2.1 0 x rfl,h.2.1 1 y rfl,h.2.2⟩
theorem BoxAt.four {w:World} {b:Nat} {x y z t:Value} (h:BoxAt w b [x,y,z,t]):w.cell? ⟨b,0,none⟩=some x∧w.cell? ⟨b,1,none⟩=some y∧w.cell? ⟨b,2,none⟩=some z∧w.cell? ⟨b,3,none⟩=some t
  ∧ w.frozen? ⟨b,0,none⟩=false∧w.frozen? ⟨b,1,none⟩=false∧w.frozen? ⟨b,2,none⟩=false∧w.frozen? ⟨b,3,none⟩=false∧b<w.heap.size :=
 ⟨h.1 0 x rfl,h.1 1 y rfl,h.1 2 z rfl,h.1 3 t rfl,h.2.1 0 x rfl,h.2.1 1 y rfl,h.2.1 2 z rfl,h.2.1 3 t rfl,h.2.2⟩
theorem Boxes.head {w:World} {p:Nat×List Value} {L:List (Nat×List Value)} (h:Boxes w (p::L)):BoxAt w p.1 p.2:=h.1
theorem Boxes.tail {w:World} {p:Nat×List Value} {L:List (Nat×List Value)} (h:Boxes w (p::L)):Boxes w L:=h.2.2
structure Kp (w0 w:World) (L:List (Nat×List Value)):Prop where
 bel:Below w0.heap.size w0 w
 box:Boxes w L
 lo:∀ p,p∈L→w0.heap.size≤p.1
theorem Kp.start (w:World):Kp w w []:=⟨Below.refl _ _,trivial,by simp⟩
theorem Kp.keep {w0 w w':World} {L:List (Nat×List Value)} (h:Kp w0 w L) (hb:Below w.heap.size w w'):Kp w0 w' L:=⟨h.bel.trans (hb.mono h.bel.size),h.box.keep hb,h.lo⟩
theorem Kp.drew {w0 w:World} {L:List (Nat×List Value)} (h:Kp w0 w L) (n:Nat):Kp w0 (w.drewN n) L:=h.keep (below_drewN (Below.refl _ _) n)
theorem Kp.add2 {w0 w:World} {L:List (Nat×List Value)} (h:Kp w0 w L) (x y:Value) (t:TypeId):Kp w0 (w.alloc (.cells #[x,y] t)) ((w.heap.size,[x,y])::L) :=
 ⟨h.bel.alloc h.bel.size _,h.box.add2 x y t,fun p hp=>by
  rcases List.mem_cons.1 hp with e | e
  ·rw [e];exact h.bel.size
  ·exact h.lo p e⟩
theorem Kp.add4 {w0 w:World} {L:List (Nat×List Value)} (h:Kp w0 w L) (x y z u:Value) (t:TypeId):Kp w0 (w.alloc (.cells #[x,y,z,u] t)) ((w.heap.size,[x,y,z,u])::L) :=
 ⟨h.bel.alloc h.bel.size _,h.box.add4 x y z u t,fun p hp=>by
  rcases List.mem_cons.1 hp with e | e
  ·rw [e];exact h.bel.size
  ·exact h.lo p e⟩
theorem Kp.skip {w0 w:World} {L:List (Nat×List Value)} (h:Kp w0 w L) (o:Obj):Kp w0 (w.alloc o) L:=h.keep ((Below.refl _ _).alloc (Nat.le_refl _) _)
theorem Kp.set2 {w0 w:World} {b:Nat} {x y u0 u1:Value} {L:List (Nat×List Value)} (k:Nat) (h:Kp w0 w L) (e:L[k]?=some (b,[u0,u1])) :
  Kp w0 ((w.setCell ⟨b,0,none⟩ x).setCell ⟨b,1,none⟩ y) (L.set k (b,[x,y])):=by
 have hlo:w0.heap.size≤b:=h.lo _ (List.mem_of_getElem? e)
 refine ⟨(h.bel.setCell hlo x).setCell hlo y,h.box.set2 k e,fun p hp=>?_⟩
 rcases List.mem_or_eq_of_mem_set hp with h1 | h1
 ·exact h.lo p h1
 ·rw [h1];exact hlo
theorem Kp.set4 {w0 w:World} {b:Nat} {x y z t u0 u1 u2 u3:Value} {L:List (Nat×List Value)} (k:Nat) (h:Kp w0 w L) (e:L[k]?=some (b,[u0,u1,u2,u3])) :
  Kp w0 ((((w.setCell ⟨b,0,none⟩ x).setCell ⟨b,1,none⟩ y).setCell ⟨b,2,none⟩ z).setCell ⟨b,3,none⟩ t) (L.set k (b,[x,y,z,t])):=by
 have hlo:w0.heap.size≤b:=h.lo _ (List.mem_of_getElem? e)
 refine ⟨(((h.bel.setCell hlo x).setCell hlo y).setCell hlo z).setCell hlo t,h.box.set4 k e,fun p hp=>?_⟩
 rcases List.mem_or_eq_of_mem_set hp with h1 | h1
 ·exact h.lo p h1
 ·rw [h1];exact hlo
section
attribute [local go_sem] zc9 w_or zdb za3 zbw zbc zc7 zcy zc8 zbz zb1 zc2 zb0 zda zcn zcz zb2 zby zbx zb3 za1
attribute [local go_sem] yaz6 ybam
set_option maxHeartbeats 1000000 in
theorem zhb (v m x:BitVec 64) (w:World) :
  Calls Tryz.prog 185 #[Bt v m,U x] w fun e w'=>e=.returned (.tuple #[U (zbr v m x).1,.bool (zbr v m x).2])∧Below w.heap.size w w':=by
 have Hl:Hid (zbr v m x=if eqb (zh0 v m x) zero then (x,true)
  else if nv (band x (zfw v m x))<nv (band v (zfw v m x)) then (bor (bandn x (zfw v m x)) (band v (zfw v m x)),true)
  else if eqb (zgn v m x) zero then (zero,false)
  else (bor (bor (bandn x (bsub (lowB (zgn v m x)) one)) (lowB (zgn v m x))) (band v (bsub (lowB (zgn v m x)) one)),true)):=rfl
 obtain ⟨c1,h1⟩:∃ b,eqb (bandn (bxor x v) m) zero=b:=⟨_,rfl⟩
 have H1:Hid (eqb (zh0 v m x) zero=c1):=h1
 rw [H1.out] at Hl
 cases c1
 ·have h64:=zni (bandn (bxor x v) m)
  obtain ⟨n,hn⟩:∃ n,Hid (blen (bandn (bxor x v) m)=n):=⟨_,rfl⟩
  have hn64:n≤64:=by rw [← hn.out];exact h64
  clear h64
  have Hr:Hid (zfw v m x=bsub (bshl one n) one):=by show zd0 (blen (bandn (bxor x v) m))=_;rw [hn.out];rfl
  have Hf:Hid (zgn v m x=bandn (bandn m x) (bsub (bshl one n) one)):=by show bandn (bandn m x) (zfw v m x)=_;rw [Hr.out]
  rw [Hr.out,Hf.out] at Hl
  go_enter Tryz.func185,Tryz.ntmps185
  go_wp2_with fail
  refine (yaya _ _).mono ?_
  rintro e w1 ⟨rfl,rfl⟩
  rw [hn.out]
  by_cases hlt:nv (band x (bsub (bshl one n) one))<nv (band v (bsub (bshl one n) one))
  ·rw [if_pos hlt] at Hl
   go_wp2_with fail
   go_ret2
   rw [Hl.out]
   exact ⟨rfl,(by repeat (first | exact Below.refl _ _ | assumption | refine below_drewN ?_ _ | refine Below.drew ?_ | refine Below.alloc ?_ (by first | exact Nat.le_refl _ | (simp;done) | (simp;omega) | omega) _ | refine Below.setCell ?_ (by first | exact Nat.le_refl _ | (simp;done) | (simp;omega) | omega) _ | refine Below.trans ?_ (Below.mono (by assumption) (by first | exact Nat.le_refl _ | (simp;done) | (simp;omega) | omega))))⟩
  ·rw [if_neg hlt] at Hl
   have hle:nv (band v (bsub (bshl one n) one))≤nv (band x (bsub (bshl one n) one)):=by omega
   clear hlt
   obtain ⟨c2,h2⟩:∃ b,eqb (bandn (bandn m x) (bsub (bshl one n) one)) zero=b:=⟨_,rfl⟩
   rw [h2] at Hl
   cases c2
   ·go_wp2_with fail
    go_ret2
    rw [Hl.out]
    exact ⟨rfl,(by repeat (first | exact Below.refl _ _ | assumption | refine below_drewN ?_ _ | refine Below.drew ?_ | refine Below.alloc ?_ (by first | exact Nat.le_refl _ | (simp;done) | (simp;omega) | omega) _ | refine Below.setCell ?_ (by first | exact Nat.le_refl _ | (simp;done) | (simp;omega) | omega) _ | refine Below.trans ?_ (Below.mono (by assumption) (by first | exact Nat.le_refl _ | (simp;done) | (simp;omega) | omega))))⟩
   ·go_wp2_with fail
    go_ret2
    rw [Hl.out]
    exact ⟨rfl,(by repeat (first | exact Below.refl _ _ | assumption | refine below_drewN ?_ _ | refine Below.drew ?_ | refine Below.alloc ?_ (by first | exact Nat.le_refl _ | (simp;done) | (simp;omega) | omega) _ | refine Below.setCell ?_ (by first | exact Nat.le_refl _ | (simp;done) | (simp;omega) | omega) _ | refine Below.trans ?_ (Below.mono (by assumption) (by first | exact Nat.le_refl _ | (simp;done) | (simp;omega) | omega))))⟩
 ·go_enter Tryz.func185,Tryz.ntmps185
  go_wp2_with fail
  go_ret2
  rw [Hl.out]
  exact ⟨rfl,(by repeat (first | exact Below.refl _ _ | assumption | refine below_drewN ?_ _ | refine Below.drew ?_ | refine Below.alloc ?_ (by first | exact Nat.le_refl _ | (simp;done) | (simp;omega) | omega) _ | refine Below.setCell ?_ (by first | exact Nat.le_refl _ | (simp;done) | (simp;omega) | omega) _ | refine Below.trans ?_ (Below.mono (by assumption) (by first | exact Nat.le_refl _ | (simp;done) | (simp;omega) | omega))))⟩
set_option maxHeartbeats 1000000 in
theorem zlc (v m x:BitVec 64) (w:World) :
  Calls Tryz.prog 186 #[Bt v m,U x] w fun e w'=>e=.returned (.tuple #[U (zcg v m x).1,.bool (zcg v m x).2])∧Below w.heap.size w w':=by
 have Hg:Hid (zcg v m x=if (zbr (turn v m) m (bnot x)).2 then (bnot (zbr (turn v m) m (bnot x)).1,true) else (zero,false)):=rfl
 have Hc:Hid (∀ w,Calls Tryz.prog 185 #[Bt (bnot (bor v m)) m,U (bnot x)] w fun e w'=>e=.returned (.tuple #[U (zbr (turn v m) m (bnot x)).1,.bool (zbr (turn v m) m (bnot x)).2])∧Below w.heap.size w w'):=fun w=>zhb (turn v m) m (bnot x) w
 generalize zbr (turn v m) m (bnot x)=S at Hg Hc
 obtain ⟨sb,sf⟩:=S
 cases sf
 all_goals
  go_enter Tryz.func186,Tryz.ntmps186
  go_wp2_with fail
  refine (Hc.out _).mono ?_
  rintro e w1 ⟨rfl,hb1⟩
  go_wp2_with fail
  go_ret2
  rw [Hg.out]
  exact ⟨rfl,(by repeat (first | exact Below.refl _ _ | assumption | refine below_drewN ?_ _ | refine Below.drew ?_ | refine Below.alloc ?_ (by first | exact Nat.le_refl _ | (simp;done) | (simp;omega) | omega) _ | refine Below.setCell ?_ (by first | exact Nat.le_refl _ | (simp;done) | (simp;omega) | omega) _ | refine Below.trans ?_ (Below.mono (by assumption) (by first | exact Nat.le_refl _ | (simp;done) | (simp;omega) | omega))))⟩
end
section
attribute [local go_sem] zc9 w_or zdb za3 zbw zbc zc7 zcy zc8 zbz zb1 zc2 zb0 zda zcn zcz zb2 zby zbx zb3 za1
abbrev V0:Value:=Vl zero zero zero zero
set_option maxHeartbeats 1000000 in
theorem zvo {v m l h:BitVec 64} (hr:Hid (eqb (band v m) zero=true)) (ho:Hid (zc6 v m l h=false)) (w:World) :
  Calls Tryz.prog 156 #[Vl v m l h] w fun e w'=>e=.returned (.tuple #[V0,.bool false,N 0])∧Below w.heap.size w w':=by
 have HL:Hid (∀ w,Calls Tryz.prog 185 #[Bt v m,U l] w fun e w'=>e=.returned (.tuple #[U (zbr v m l).1,.bool (zbr v m l).2])∧Below w.heap.size w w'):=fun w=>zhb v m l w
 have HG:Hid (∀ w,Calls Tryz.prog 186 #[Bt v m,U h] w fun e w'=>e=.returned (.tuple #[U (zcg v m h).1,.bool (zcg v m h).2])∧Below w.heap.size w w'):=fun w=>zlc v m h w
 have Ho:Hid (((zbr v m l).2&&((zcg v m h).2&&decide (nv (zbr v m l).1≤nv (zcg v m h).1)))=false):=ho
 clear ho
 generalize zbr v m l=L at HL Ho
 generalize zcg v m h=G at HG Ho
 obtain ⟨lo,lb⟩:=L
 obtain ⟨hi,gb⟩:=G
 go_enter Tryz.func156,Tryz.ntmps156
 go_wp2_with fail
 refine (zuw hr _).mono ?_
 rintro e w1 ⟨rfl,hb1⟩
 have hK:=(((Kp.start w).add4 _ _ _ _ _).add4 _ _ _ _ _).keep hb1
 simp only [World.size_alloc] at hK
 obtain ⟨r0,r1,r2,r3,r4,r5,r6,r7,r8⟩:=hK.box.head.four
 obtain ⟨a0,a1,a2,a3,a4,a5,a6,a7,a8⟩:=hK.box.tail.head.four
 first | rw [er_t] | rw [er_f]
 go_wp2_with fail
 refine (HL.out _).mono ?_
 rintro e w2 ⟨rfl,hb2⟩
 have hK2:=hK.keep hb2
 clear r0 r1 r2 r3 r4 r5 r6 r7 r8 a0 a1 a2 a3 a4 a5 a6 a7 a8
 obtain ⟨r0,r1,r2,r3,r4,r5,r6,r7,r8⟩:=hK2.box.head.four
 obtain ⟨a0,a1,a2,a3,a4,a5,a6,a7,a8⟩:=hK2.box.tail.head.four
 go_wp2_with fail
 refine (HG.out _).mono ?_
 rintro e w3 ⟨rfl,hb3⟩
 have hK3:=hK2.keep hb3
 clear r0 r1 r2 r3 r4 r5 r6 r7 r8 a0 a1 a2 a3 a4 a5 a6 a7 a8
 obtain ⟨r0,r1,r2,r3,r4,r5,r6,r7,r8⟩:=hK3.box.head.four
 obtain ⟨a0,a1,a2,a3,a4,a5,a6,a7,a8⟩:=hK3.box.tail.head.four
 cases lb
 ·go_wp2_with fail
  exact bodyPost_ret (v:=.tuple #[V0,.bool false,N 0]) (by simp [results,Tryz.results156,go_sem,za4,r0,r1,r2,r3]) rfl ⟨rfl,(hK3.set4 0 rfl).bel⟩
 ·cases gb
  ·go_wp2_with fail
   exact bodyPost_ret (v:=.tuple #[V0,.bool false,N 0]) (by simp [results,Tryz.results156,go_sem,za4,r0,r1,r2,r3]) rfl ⟨rfl,(hK3.set4 0 rfl).bel⟩
  ·have hlt:nv hi<nv lo:=by
    have:=Ho.out
    simp only [Bool.true_and,decide_eq_false_iff_not] at this
    omega
   clear Ho
   go_wp2_with fail
   exact bodyPost_ret (v:=.tuple #[V0,.bool false,N 0]) (by simp [results,Tryz.results156,go_sem,za4,r0,r1,r2,r3]) rfl ⟨rfl,(hK3.set4 0 rfl).bel⟩
theorem zjy {v m v' m':BitVec 64} (h1:RtB v m) (h2:RtB v' m'):Hid ((eqb (band v m) zero&&eqb (band v' m') zero)=true):=by
 show _=true
 rw [(zeb _ _).2 h1,(zeb _ _).2 h2];rfl
set_option maxHeartbeats 1000000 in
theorem zra {v m l h:BitVec 64} (hr:Hid (eqb (band v m) zero=true)) (ho:Hid (zc6 v m l h=true)) (w:World) :
  Calls Tryz.prog 156 #[Vl v m l h] w fun e w'=>e=.returned (.tuple #[Vl (nV v m l h) (nM m (nLo v m l) (nHi v m h)) (nLo v m l) (nHi v m h),.bool true,N 0])∧Below w.heap.size w w':=by
 have hrt:=(zeb v m).1 hr.out
 have hfa:=zep hrt ho.out
 have ho':=ho.out
 unfold zc6 at ho'
 simp only [Bool.and_eq_true] at ho'
 have HL:Hid (∀ w,Calls Tryz.prog 185 #[Bt v m,U l] w fun e w'=>e=.returned (.tuple #[U (nLo v m l),.bool true])∧Below w.heap.size w w'):=fun w=>by
  have:=zhb v m l w;rw [ho'.1] at this;exact this
 have HG:Hid (∀ w,Calls Tryz.prog 186 #[Bt v m,U h] w fun e w'=>e=.returned (.tuple #[U (nHi v m h),.bool true])∧Below w.heap.size w w'):=fun w=>by
  have:=zlc v m h w;rw [ho'.2.1] at this;exact this
 have HS:Hid (∀ w,Calls Tryz.prog 142 #[U (nLo v m l),U (nHi v m h)] w fun e w'=>e=.returned (.tuple #[Bt (spV (nLo v m l) (nHi v m h)) (sM (nLo v m l) (nHi v m h)),N 0])∧Below w.heap.size w w'):=fun w=>yagx hfa.2.2.1 w
 have HM:Hid (∀ w,Calls Tryz.prog 150 #[Bt v m,Bt (spV (nLo v m l) (nHi v m h)) (sM (nLo v m l) (nHi v m h))] w fun e w'=>e=.returned (.tuple #[Bt (nV v m l h) (nM m (nLo v m l) (nHi v m h)),.bool true,N 0])∧Below w.heap.size w w'):=fun w =>
  yalh (zjy hrt (zes _ _)) (zol hrt hfa.1 (Int.le_refl _) hfa.2.2.1) w
 have hle:=hfa.2.2.1
 clear hfa ho' ho hrt
 generalize nV v m l h=rv at HM ⊢
 generalize nM m (nLo v m l) (nHi v m h)=rm at HM ⊢
 generalize spV (nLo v m l) (nHi v m h)=sv at HM HS
 generalize sM (nLo v m l) (nHi v m h)=sm at HM HS
 generalize nLo v m l=lo at HL HS hle ⊢
 generalize nHi v m h=hi at HG HS hle ⊢
 go_enter Tryz.func156,Tryz.ntmps156
 go_wp2_with fail
 refine (zuw hr _).mono ?_
 rintro e w1 ⟨rfl,hb1⟩
 have hK:=(((Kp.start w).add4 _ _ _ _ _).add4 _ _ _ _ _).keep hb1
 simp only [World.size_alloc] at hK
 obtain ⟨r0,r1,r2,r3,r4,r5,r6,r7,r8⟩:=hK.box.head.four
 obtain ⟨a0,a1,a2,a3,a4,a5,a6,a7,a8⟩:=hK.box.tail.head.four
 first | rw [er_t] | rw [er_f]
 go_wp2_with fail
 refine (HL.out _).mono ?_
 rintro e w2 ⟨rfl,hb2⟩
 have hK2:=hK.keep hb2
 clear r0 r1 r2 r3 r4 r5 r6 r7 r8 a0 a1 a2 a3 a4 a5 a6 a7 a8
 obtain ⟨r0,r1,r2,r3,r4,r5,r6,r7,r8⟩:=hK2.box.head.four
 obtain ⟨a0,a1,a2,a3,a4,a5,a6,a7,a8⟩:=hK2.box.tail.head.four
 go_wp2_with fail
 refine (HG.out _).mono ?_
 rintro e w3 ⟨rfl,hb3⟩
 have hK3:=hK2.keep hb3
 clear r0 r1 r2 r3 r4 r5 r6 r7 r8 a0 a1 a2 a3 a4 a5 a6 a7 a8
 obtain ⟨r0,r1,r2,r3,r4,r5,r6,r7,r8⟩:=hK3.box.head.four
 obtain ⟨a0,a1,a2,a3,a4,a5,a6,a7,a8⟩:=hK3.box.tail.head.four
 go_wp2_with fail
 refine (HS.out _).mono ?_
 rintro e w4 ⟨rfl,hb4⟩
 have hK4:=hK3.keep hb4
 clear r0 r1 r2 r3 r4 r5 r6 r7 r8 a0 a1 a2 a3 a4 a5 a6 a7 a8
 obtain ⟨r0,r1,r2,r3,r4,r5,r6,r7,r8⟩:=hK4.box.head.four
 obtain ⟨a0,a1,a2,a3,a4,a5,a6,a7,a8⟩:=hK4.box.tail.head.four
 go_wp2_with fail
 refine (HM.out _).mono ?_
 rintro e w5 ⟨rfl,hb5⟩
 have hK5:=(hK4.add2 _ _ _).keep hb5
 clear r0 r1 r2 r3 r4 r5 r6 r7 r8 a0 a1 a2 a3 a4 a5 a6 a7 a8
 obtain ⟨s0,s1,s2,s3,s4⟩:=hK5.box.head.two
 obtain ⟨r0,r1,r2,r3,r4,r5,r6,r7,r8⟩:=hK5.box.tail.head.four
 obtain ⟨a0,a1,a2,a3,a4,a5,a6,a7,a8⟩:=hK5.box.tail.tail.head.four
 go_wp2_with fail
 exact bodyPost_ret (v:=.tuple #[Vl rv rm lo hi,.bool true,N 0]) (by simp [results,Tryz.results156,go_sem,r0,r1,r2,r3,r8]) rfl ⟨rfl,((hK5.set4 1 rfl).add2 _ _ _).bel⟩
end
section
attribute [local go_sem] zc9 w_or zdb za3 zbw zbc zc7 zcy zc8 zbz zb1 zc2 zb0 zda zcn zcz zb2 zby zbx zb3 za1
theorem yam3 (v:BitVec 64) (i:Nat):eqb (band (bshr v i) one) zero=!bit v i:=by
 cases hb:bit v i
 ·have h:∀ j,bit (band (bshr v i) one) j=false:=by
   intro j
   rw [zaz,zey]
   have ho:bit one j=decide (j=0):=by
    have:=zcs 0 j (by omega)
    rw [show bshl one 0=one by unfold bshl;simp] at this
    exact this
   rw [ho]
   by_cases e:j=0
   ·subst e;rw [Nat.add_zero,hb];rfl
   ·simp [e]
  rw [(zcb _).2 fun j _=>h j];rfl
 ·have:=zjh v i
  rw [hb,zdl] at this
  rw [this];rfl
theorem yabz {v m x:BitVec 64} {b:Bool} (h:hasB v m x=b) (w:World) :
  Calls Tryz.prog 190 #[Bt v m,U x] w fun e w'=>e=.returned (.bool b)∧Below w.heap.size w w':=h ▸ zue v m x w
set_option maxRecDepth 100000 in
set_option maxHeartbeats 1000000 in
theorem zks (v m x:BitVec 64) (w:World) :
  Calls Tryz.prog 168 #[Bt v m,U x] w fun e w'=>e=.returned (.tuple #[U (zcq v m x 64).1,.bool (zcq v m x 64).2])∧Below w.heap.size w w':=by
 obtain ⟨hh,Hh⟩:∃ b,Hid (hasB v m x=b):=⟨_,rfl⟩
 go_enter Tryz.func168,Tryz.ntmps168
 go_wp2_with fail
 refine (yabz Hh.out _).mono ?_
 rintro e w1 ⟨rfl,hb1⟩
 have hK:=((Kp.start w).add2 _ _ _).keep hb1
 go_wp2_with fail
 go_loopw [6,7,8] (fun b f i wr=>∃ k:Nat,k≤64∧i=N k∧b=U (zcq v m x k).1∧f=.bool (zcq v m x k).2∧Kp w wr [(w.heap.size,[U v,U m])]) (fun _ _ i _=>64 - (intOf i).toNat)
 case atStart=>exact ⟨0,by omega,rfl,rfl,by rw [zcq,Hh.out],hK⟩
 case round =>
  clear hK hb1
  obtain ⟨k,hk,rfl,rfl,rfl,hK⟩:=hrel
  obtain ⟨a0,a1,a2,a3,a4⟩:=hK.box.head.two
  have Hs:Hid (k<64→zcq v m x (k+1)=if (zcq v m x k).2 then zcq v m x k else if okL v m x k then (zgm v x k,true) else zcq v m x k):=fun _=>rfl
  have Ht:Hid ((zcq v m x k).2=true→zcq v m x 64=zcq v m x k):=fun h=>zkp v m x k 64 h hk
  have Hu:Hid (k=64→zcq v m x 64=zcq v m x k):=fun h=>by rw [h]
  generalize zcq v m x k=S at Hs Ht Hu ⊢
  obtain ⟨sb,sf⟩:=S
  by_cases hlt:k<64
  ·cases sf
   ·have hA:=zjh x k
    have Hn:=Hs.out hlt
    have Hok:Hid (okL v m x k=(!bit x k&&hasB v m (zgm v x k))):=rfl
    clear Hs Ht Hu
    have Hn:Hid _:=Hn
    obtain ⟨bx,hbx⟩:∃ b,Hid (bit x k=b):=⟨_,rfl⟩
    rw [hbx.out] at hA Hok
    obtain ⟨bc,hbc⟩:∃ b,Hid (hasB v m (zgm v x k)=b):=⟨_,rfl⟩
    rw [hbc.out] at Hok
    cases bx
    ·go_wp2_with fail
     go_quiet (fail)
     go_wp2_with fail
     go_quiet (fail)
     go_wp2_with fail
     refine (yabz (b:=bc) hbc.out _).mono ?_
     rintro e w2 ⟨rfl,hb2⟩
     have hK2:=(hK.drew _).keep hb2
     cases bc
     ·go_wp2_with fail
      exact ⟨⟨k+1,by omega,by go_num,by rw [Hn.out,Hok.out];rfl,by rw [Hn.out,Hok.out];rfl,hK2⟩,by simp [intOf];omega⟩
     ·go_wp2_with fail
      exact ⟨⟨k+1,by omega,by go_num,by rw [Hn.out,Hok.out];rfl,by rw [Hn.out,Hok.out];rfl,hK2⟩,by simp [intOf];omega⟩
    ·go_wp2_with fail
     exact ⟨⟨k+1,by omega,by go_num,by rw [Hn.out,Hok.out];rfl,by rw [Hn.out,Hok.out];rfl,hK⟩,by simp [intOf];omega⟩
   ·have He:Hid _:=Ht.out rfl
    clear Hs Ht Hu
    go_wp2_with fail
    go_ret2
    rw [He.out]
    exact ⟨rfl,hK.bel⟩
  ·have hk64:k=64:=by omega
   have He:Hid _:=Hu.out hk64
   clear Hs Ht Hu
   subst hk64
   go_wp2_with fail
   go_ret2
   rw [He.out]
   exact ⟨rfl,hK.bel⟩
set_option maxRecDepth 100000 in
set_option maxHeartbeats 1000000 in
theorem zk2 (v m x:BitVec 64) (w:World) :
  Calls Tryz.prog 169 #[Bt v m,U x] w fun e w'=>e=.returned (.tuple #[U (zcp v m x 64).1,.bool (zcp v m x 64).2])∧Below w.heap.size w w':=by
 obtain ⟨hh,Hh⟩:∃ b,Hid (hasB v m x=b):=⟨_,rfl⟩
 go_enter Tryz.func169,Tryz.ntmps169
 go_wp2_with fail
 refine (yabz Hh.out _).mono ?_
 rintro e w1 ⟨rfl,hb1⟩
 have hK:=((Kp.start w).add2 _ _ _).keep hb1
 go_wp2_with fail
 go_loopw [6,7,8] (fun b f i wr=>∃ k:Nat,k≤64∧i=N k∧b=U (zcp v m x k).1∧f=.bool (zcp v m x k).2∧Kp w wr [(w.heap.size,[U v,U m])]) (fun _ _ i _=>64 - (intOf i).toNat)
 case atStart=>exact ⟨0,by omega,rfl,rfl,by rw [zcp,Hh.out],hK⟩
 case round =>
  clear hK hb1
  obtain ⟨k,hk,rfl,rfl,rfl,hK⟩:=hrel
  obtain ⟨a0,a1,a2,a3,a4⟩:=hK.box.head.two
  have Hs:Hid (k<64→zcp v m x (k+1)=if (zcp v m x k).2 then zcp v m x k else if okG v m x k then (zrh v m x k,true) else zcp v m x k):=fun _=>rfl
  have Ht:Hid ((zcp v m x k).2=true→zcp v m x 64=zcp v m x k):=fun h=>zka v m x k 64 h hk
  have Hu:Hid (k=64→zcp v m x 64=zcp v m x k):=fun h=>by rw [h]
  generalize zcp v m x k=S at Hs Ht Hu ⊢
  obtain ⟨sb,sf⟩:=S
  by_cases hlt:k<64
  ·cases sf
   ·have hA:=yam3 x k
    have Hn:=Hs.out hlt
    have Hok:Hid (okG v m x k=(bit x k&&hasB v m (zrh v m x k))):=rfl
    clear Hs Ht Hu
    have Hn:Hid _:=Hn
    obtain ⟨bx,hbx⟩:∃ b,Hid (bit x k=b):=⟨_,rfl⟩
    rw [hbx.out] at hA Hok
    obtain ⟨bc,hbc⟩:∃ b,Hid (hasB v m (zrh v m x k)=b):=⟨_,rfl⟩
    rw [hbc.out] at Hok
    cases bx
    ·go_wp2_with fail
     exact ⟨⟨k+1,by omega,by go_num,by rw [Hn.out,Hok.out];rfl,by rw [Hn.out,Hok.out];rfl,hK⟩,by simp [intOf];omega⟩
    ·go_wp2_with fail
     go_quiet (fail)
     go_wp2_with fail
     refine (yabz (b:=bc) hbc.out _).mono ?_
     rintro e w2 ⟨rfl,hb2⟩
     have hK2:=(hK.drew _).keep hb2
     cases bc
     ·go_wp2_with fail
      exact ⟨⟨k+1,by omega,by go_num,by rw [Hn.out,Hok.out];rfl,by rw [Hn.out,Hok.out];rfl,hK2⟩,by simp [intOf];omega⟩
     ·go_wp2_with fail
      exact ⟨⟨k+1,by omega,by go_num,by rw [Hn.out,Hok.out];rfl,by rw [Hn.out,Hok.out];rfl,hK2⟩,by simp [intOf];omega⟩
   ·have He:Hid _:=Ht.out rfl
    clear Hs Ht Hu
    go_wp2_with fail
    go_ret2
    rw [He.out]
    exact ⟨rfl,hK.bel⟩
  ·have hk64:k=64:=by omega
   have He:Hid _:=Hu.out hk64
   clear Hs Ht Hu
   subst hk64
   go_wp2_with fail
   go_ret2
   rw [He.out]
   exact ⟨rfl,hK.bel⟩
end
section
attribute [local go_sem] zc9 w_or zdb za3 zbw zbc zc7 zcy zc8 zbz zb1 zc2 zb0 zda zcn zcz zb2 zby zbx zb3 za1
set_option maxHeartbeats 400000 in
theorem zug (av am bv bm:BitVec 64) (w:World) :
  Calls Tryz.prog 130 #[Bt av am,Bt bv bm] w fun e w'=>e=.returned (Bt (zyh av am bv bm 64) (zys av am bv bm 64))∧Below w.heap.size w w':=by
 go_enter Tryz.func130,Tryz.ntmps130
 go_wp2
 go_loopw [6] (fun i wr=>∃ k:Nat,k≤64∧i=N k
   ∧ Below (w.heap.size+1+1+1) (((w.alloc (.cells #[U av,U am] 47)).alloc (.cells #[U bv,U bm] 47)).alloc (.cells #[.int .u64 0,.int .u64 0] 47)) wr
   ∧ wr.cell? ⟨w.heap.size+1+1+1,0,none⟩=some (U (zyh av am bv bm k))∧wr.cell? ⟨w.heap.size+1+1+1,1,none⟩=some (U (zys av am bv bm k))
   ∧ (∀ o,wr.frozen? ⟨w.heap.size+1+1+1,o,none⟩=false)
   ∧ w.heap.size+1+1+1+1≤wr.heap.size) (fun i _=>64 - (intOf i).toNat)
 case atStart =>
  exact ⟨0,by omega,rfl,(by repeat (first | exact Below.refl _ _ | assumption | refine below_drewN ?_ _ | refine Below.drew ?_ | refine Below.alloc ?_ (by first | exact Nat.le_refl _ | (simp;done) | (simp;omega) | omega) _ | refine Below.setCell ?_ (by first | exact Nat.le_refl _ | (simp;done) | (simp;omega) | omega) _ | refine Below.trans ?_ (Below.mono (by assumption) (by first | exact Nat.le_refl _ | (simp;done) | (simp;omega) | omega)))),by simp [zyh,acc,za4,go_sem],by simp [zys,acc,za4,go_sem],by simp [go_sem],by simp⟩
 case round =>
  obtain ⟨k,hk,rfl,hbel,ho0,ho1,hfo,hsz⟩:=hrel
  obtain ⟨hc,hf⟩:=bl hbel
  by_cases hlt:k<64
  ·obtain ⟨z1,o1,H1,H2⟩:=zgz av am k
   obtain ⟨z2,o2,H3,H4⟩:=zgz bv bm k
   go_wp2_with fail
   refine (zbi hlt H1 H2 _).mono ?_
   rintro e w1 ⟨rfl,hb1⟩
   obtain ⟨hc1,hf1,hs1⟩:=bk _ hb1 hsz
   go_wp2_with fail
   refine (zbi hlt H3 H4 _).mono ?_
   rintro e w2 ⟨rfl,hb2⟩
   obtain ⟨hc2,hf2,hs2⟩:=bk _ hb2 hs1
   cases z1 <;> cases o1
   all_goals
    go_wp2_with fail
    refine (zf0 _ _ k hlt _ _ _).mono ?_
    rintro e w3 ⟨rfl,hb3⟩
    obtain ⟨hc3,hf3,hs3⟩:=bk _ hb3 hs2
    go_wp2_with fail
    exact ⟨⟨k+1,by omega,by go_num,zeh hbel ((hb1.trans (hb2.mono hb1.size)).trans (hb3.mono (Nat.le_trans hb1.size hb2.size))) hsz ho0 ho1 hfo
     (by rw [← yaff,← H1.out,← H2.out,← H3.out,← H4.out];rfl) (by rw [← yae8,← H1.out,← H2.out,← H3.out,← H4.out];rfl)⟩,by simp [intOf];omega⟩
  ·have hk64:k=64:=by omega
   subst hk64
   go_wp2_with fail
   exact bodyPost_ret (v:=Bt (zyh av am bv bm 64) (zys av am bv bm 64)) (by simp [results,Tryz.results130,go_sem,hc]) rfl ⟨rfl,(by repeat (first | exact Below.refl _ _ | assumption | refine below_drewN ?_ _ | refine Below.drew ?_ | refine Below.alloc ?_ (by first | exact Nat.le_refl _ | (simp;done) | (simp;omega) | omega) _ | refine Below.setCell ?_ (by first | exact Nat.le_refl _ | (simp;done) | (simp;omega) | omega) _ | refine Below.trans ?_ (Below.mono (by assumption) (by first | exact Nat.le_refl _ | (simp;done) | (simp;omega) | omega))))⟩
set_option maxHeartbeats 600000 in
theorem zm6 (av am bv bm:BitVec 64) (hok:Hid (∀ j,j<64→zjc av am bv bm j=true)) (w:World) :
  Calls Tryz.prog 129 #[Bt av am,Bt bv bm] w fun e w'=>e=.returned (.tuple #[Bt (zq1 av am bv bm 64) (zrl av am bv bm 64),.bool true])∧Below w.heap.size w w':=by
 go_enter Tryz.func129,Tryz.ntmps129
 go_wp2
 go_loopw [7] (fun i wr=>∃ k:Nat,k≤64∧i=N k
   ∧ Below (w.heap.size+1+1+1) (((w.alloc (.cells #[U av,U am] 47)).alloc (.cells #[U bv,U bm] 47)).alloc (.cells #[.int .u64 0,.int .u64 0] 47)) wr
   ∧ wr.cell? ⟨w.heap.size+1+1+1,0,none⟩=some (U (zq1 av am bv bm k))∧wr.cell? ⟨w.heap.size+1+1+1,1,none⟩=some (U (zrl av am bv bm k))
   ∧ (∀ o,wr.frozen? ⟨w.heap.size+1+1+1,o,none⟩=false)
   ∧ w.heap.size+1+1+1+1≤wr.heap.size) (fun i _=>64 - (intOf i).toNat)
 case atStart =>
  exact ⟨0,by omega,rfl,(by repeat (first | exact Below.refl _ _ | assumption | refine below_drewN ?_ _ | refine Below.drew ?_ | refine Below.alloc ?_ (by first | exact Nat.le_refl _ | (simp;done) | (simp;omega) | omega) _ | refine Below.setCell ?_ (by first | exact Nat.le_refl _ | (simp;done) | (simp;omega) | omega) _ | refine Below.trans ?_ (Below.mono (by assumption) (by first | exact Nat.le_refl _ | (simp;done) | (simp;omega) | omega)))),by simp [zq1,acc,za4,go_sem],by simp [zrl,acc,za4,go_sem],by simp [go_sem],by simp⟩
 case round =>
  obtain ⟨k,hk,rfl,hbel,ho0,ho1,hfo,hsz⟩:=hrel
  obtain ⟨hc,hf⟩:=bl hbel
  by_cases hlt:k<64
  ·obtain ⟨z1,o1,H1,H2⟩:=zgz av am k
   obtain ⟨z2,o2,H3,H4⟩:=zgz bv bm k
   have Hok:Hid (((z1&&z2)||(o1&&o2))=true):=by rw [H1.out,H2.out,H3.out,H4.out];exact hok.out k hlt
   go_wp2_with fail
   refine (zbi hlt H1 H2 _).mono ?_
   rintro e w1 ⟨rfl,hb1⟩
   obtain ⟨hc1,hf1,hs1⟩:=bk _ hb1 hsz
   go_wp2_with fail
   refine (zbi hlt H3 H4 _).mono ?_
   rintro e w2 ⟨rfl,hb2⟩
   obtain ⟨hc2,hf2,hs2⟩:=bk _ hb2 hs1
   cases z1 <;> cases o1 <;> cases z2 <;> cases o2 <;> first
    | exact absurd Hok.out (by decide)
    | (clear Hok
       go_wp2_with fail
       refine (zf0 _ _ k hlt _ _ _).mono ?_
       rintro e w3 ⟨rfl,hb3⟩
       obtain ⟨hc3,hf3,hs3⟩:=bk _ hb3 hs2
       go_wp2_with fail
       exact ⟨⟨k+1,by omega,by go_num,zeh hbel ((hb1.trans (hb2.mono hb1.size)).trans (hb3.mono (Nat.le_trans hb1.size hb2.size))) hsz ho0 ho1 hfo
        (by rw [← zpl,← H1.out,← H2.out,← H3.out,← H4.out];rfl) (by rw [← zo9,← H1.out,← H2.out,← H3.out,← H4.out];rfl)⟩,by simp [intOf];omega⟩)
  ·have hk64:k=64:=by omega
   subst hk64
   go_wp2_with fail
   exact bodyPost_ret (v:=.tuple #[Bt (zq1 av am bv bm 64) (zrl av am bv bm 64),.bool true]) (by simp [results,Tryz.results129,go_sem,hc]) rfl ⟨rfl,(by repeat (first | exact Below.refl _ _ | assumption | refine below_drewN ?_ _ | refine Below.drew ?_ | refine Below.alloc ?_ (by first | exact Nat.le_refl _ | (simp;done) | (simp;omega) | omega) _ | refine Below.setCell ?_ (by first | exact Nat.le_refl _ | (simp;done) | (simp;omega) | omega) _ | refine Below.trans ?_ (Below.mono (by assumption) (by first | exact Nat.le_refl _ | (simp;done) | (simp;omega) | omega))))⟩
set_option maxHeartbeats 600000 in
theorem zyq (av am bv bm:BitVec 64) (j0:Nat) (hj:j0<64) (hno:Hid (zjc av am bv bm j0=false)) (hok:Hid (∀ j,j<j0→zjc av am bv bm j=true)) (w:World) :
  Calls Tryz.prog 129 #[Bt av am,Bt bv bm] w fun e w'=>e=.returned (.tuple #[Bt zero zero,.bool false])∧Below w.heap.size w w':=by
 go_enter Tryz.func129,Tryz.ntmps129
 go_wp2
 go_loopw [7] (fun i wr=>∃ k:Nat,k≤j0∧i=N k
   ∧ Below (w.heap.size+1+1+1) (((w.alloc (.cells #[U av,U am] 47)).alloc (.cells #[U bv,U bm] 47)).alloc (.cells #[.int .u64 0,.int .u64 0] 47)) wr
   ∧ wr.cell? ⟨w.heap.size+1+1+1,0,none⟩=some (U (zq1 av am bv bm k))∧wr.cell? ⟨w.heap.size+1+1+1,1,none⟩=some (U (zrl av am bv bm k))
   ∧ (∀ o,wr.frozen? ⟨w.heap.size+1+1+1,o,none⟩=false)
   ∧ w.heap.size+1+1+1+1≤wr.heap.size) (fun i _=>64 - (intOf i).toNat)
 case atStart =>
  exact ⟨0,by omega,rfl,(by repeat (first | exact Below.refl _ _ | assumption | refine below_drewN ?_ _ | refine Below.drew ?_ | refine Below.alloc ?_ (by first | exact Nat.le_refl _ | (simp;done) | (simp;omega) | omega) _ | refine Below.setCell ?_ (by first | exact Nat.le_refl _ | (simp;done) | (simp;omega) | omega) _ | refine Below.trans ?_ (Below.mono (by assumption) (by first | exact Nat.le_refl _ | (simp;done) | (simp;omega) | omega)))),by simp [zq1,acc,za4,go_sem],by simp [zrl,acc,za4,go_sem],by simp [go_sem],by simp⟩
 case round =>
  obtain ⟨k,hk,rfl,hbel,ho0,ho1,hfo,hsz⟩:=hrel
  obtain ⟨hc,hf⟩:=bl hbel
  have hlt:k<64:=by omega
  obtain ⟨z1,o1,H1,H2⟩:=zgz av am k
  obtain ⟨z2,o2,H3,H4⟩:=zgz bv bm k
  by_cases hlj:k<j0
  ·have Hok:Hid (((z1&&z2)||(o1&&o2))=true):=by rw [H1.out,H2.out,H3.out,H4.out];exact hok.out k hlj
   go_wp2_with fail
   refine (zbi hlt H1 H2 _).mono ?_
   rintro e w1 ⟨rfl,hb1⟩
   obtain ⟨hc1,hf1,hs1⟩:=bk _ hb1 hsz
   go_wp2_with fail
   refine (zbi hlt H3 H4 _).mono ?_
   rintro e w2 ⟨rfl,hb2⟩
   obtain ⟨hc2,hf2,hs2⟩:=bk _ hb2 hs1
   cases z1 <;> cases o1 <;> cases z2 <;> cases o2 <;> first
    | exact absurd Hok.out (by decide)
    | (clear Hok
       go_wp2_with fail
       refine (zf0 _ _ k hlt _ _ _).mono ?_
       rintro e w3 ⟨rfl,hb3⟩
       obtain ⟨hc3,hf3,hs3⟩:=bk _ hb3 hs2
       go_wp2_with fail
       exact ⟨⟨k+1,by omega,by go_num,zeh hbel ((hb1.trans (hb2.mono hb1.size)).trans (hb3.mono (Nat.le_trans hb1.size hb2.size))) hsz ho0 ho1 hfo
        (by rw [← zpl,← H1.out,← H2.out,← H3.out,← H4.out];rfl) (by rw [← zo9,← H1.out,← H2.out,← H3.out,← H4.out];rfl)⟩,by simp [intOf];omega⟩)
  ·have ek:k=j0:=by omega
   have Hno:Hid (((z1&&z2)||(o1&&o2))=false):=by rw [H1.out,H2.out,H3.out,H4.out,ek];exact hno.out
   clear ek
   go_wp2_with fail
   refine (zbi hlt H1 H2 _).mono ?_
   rintro e w1 ⟨rfl,hb1⟩
   obtain ⟨hc1,hf1,hs1⟩:=bk _ hb1 hsz
   go_wp2_with fail
   refine (zbi hlt H3 H4 _).mono ?_
   rintro e w2 ⟨rfl,hb2⟩
   obtain ⟨hc2,hf2,hs2⟩:=bk _ hb2 hs1
   cases z1 <;> cases o1 <;> cases z2 <;> cases o2 <;> first
    | exact absurd Hno.out (by decide)
    | (clear Hno
       go_wp2_with fail
       exact bodyPost_ret (v:=.tuple #[Bt zero zero,.bool false]) (by simp [results,Tryz.results129,go_sem,hc,hc1,hc2,za4]) rfl ⟨rfl,(by repeat (first | exact Below.refl _ _ | assumption | refine below_drewN ?_ _ | refine Below.drew ?_ | refine Below.alloc ?_ (by first | exact Nat.le_refl _ | (simp;done) | (simp;omega) | omega) _ | refine Below.setCell ?_ (by first | exact Nat.le_refl _ | (simp;done) | (simp;omega) | omega) _ | refine Below.trans ?_ (Below.mono (by assumption) (by first | exact Nat.le_refl _ | (simp;done) | (simp;omega) | omega))))⟩)
end
section
attribute [local go_sem] zc9 w_or zdb za3 zbw zbc zc7 zcy zc8 zbz zb1 zc2 zb0 zda zcn zcz zb2 zby zbx zb3 za1
set_option maxHeartbeats 600000 in
theorem zgf (up:Bool) (op:Int) (hop:op=if up then 8 else 9) (v m:BitVec 64) (n:Nat) (hn:n<64) (w:World) :
  Calls Tryz.prog 125 #[N op,Bt v m,N n] w fun e w'=>e=.returned (Bt (shV up v m n 64) (shM up v m n 64))∧Below w.heap.size w w':=by
 have hop9:(op==9)=!up:=by cases up <;> simp [hop]
 clear hop
 go_enter Tryz.func125,Tryz.ntmps125
 go_wp2
 go_loopw [8] (fun i wr=>∃ k:Nat,k≤64∧i=N k
   ∧ Below (w.heap.size+1+1) ((w.alloc (.cells #[U v,U m] 47)).alloc (.cells #[.int .u64 0,.int .u64 0] 47)) wr
   ∧ wr.cell? ⟨w.heap.size+1+1,0,none⟩=some (U (shV up v m n k))∧wr.cell? ⟨w.heap.size+1+1,1,none⟩=some (U (shM up v m n k))
   ∧ (∀ o,wr.frozen? ⟨w.heap.size+1+1,o,none⟩=false)
   ∧ w.heap.size+1+1+1≤wr.heap.size) (fun i _=>64 - (intOf i).toNat)
 case atStart =>
  exact ⟨0,by omega,rfl,(by repeat (first | exact Below.refl _ _ | assumption | refine below_drewN ?_ _ | refine Below.drew ?_ | refine Below.alloc ?_ (by first | exact Nat.le_refl _ | (simp;done) | (simp;omega) | omega) _ | refine Below.setCell ?_ (by first | exact Nat.le_refl _ | (simp;done) | (simp;omega) | omega) _ | refine Below.trans ?_ (Below.mono (by assumption) (by first | exact Nat.le_refl _ | (simp;done) | (simp;omega) | omega)))),by simp [shV,acc,za4,go_sem],by simp [shM,acc,za4,go_sem],by simp [go_sem],by simp⟩
 case round =>
  obtain ⟨k,hk,rfl,hbel,ho0,ho1,hfo,hsz⟩:=hrel
  obtain ⟨hc,hf⟩:=bl hbel
  by_cases hlt:k<64
  ·cases up
   ·by_cases hin:k+n<64
    ·obtain ⟨z1,o1,H1,H2⟩:=zgz v m (k+n)
     have hs:=yamx false v m n k (k+n) (by simp [zef]) hin
     have Hz:Hid (z1=shz false v n k):=H1.out.trans hs.1
     have Ho:Hid (o1=sho false v m n k):=H2.out.trans hs.2
     clear hs
     go_wp2_with fail
     refine (zqh (by omega) _).mono ?_
     rintro e w0 ⟨rfl,rfl⟩
     go_wp2_with fail
     rw [show (k:Int)+(n:Int)=((k+n:Nat):Int) from by omega]
     refine (zbi hin H1 H2 _).mono ?_
     rintro e w1 ⟨rfl,hb1⟩
     obtain ⟨hc1,hf1,hs1⟩:=bk _ hb1 hsz
     go_wp2_with fail
     refine (zf0 _ _ k hlt _ _ _).mono ?_
     rintro e w3 ⟨rfl,hb3⟩
     obtain ⟨hc3,hf3,hs3⟩:=bk _ hb3 hs1
     go_wp2_with fail
     exact ⟨⟨k+1,by omega,by go_num,zeh hbel (hb1.trans (hb3.mono hb1.size)) hsz ho0 ho1 hfo
      (by rw [← zlj,← Hz.out,← Ho.out]) (by rw [← zlo,← Hz.out,← Ho.out])⟩,by simp [intOf];omega⟩
    ·have hs:=yaa8 false v m n k (by simp [zef];omega)
     have Hz:Hid (true=shz false v n k):=hs.1
     have Ho:Hid (false=sho false v m n k):=hs.2
     clear hs
     go_wp2_with fail
     refine (zut (by omega) _).mono ?_
     rintro e w0 ⟨rfl,rfl⟩
     go_wp2_with fail
     refine (zf0 _ _ k hlt _ _ _).mono ?_
     rintro e w3 ⟨rfl,hb3⟩
     obtain ⟨hc3,hf3,hs3⟩:=bk _ hb3 hsz
     go_wp2_with fail
     exact ⟨⟨k+1,by omega,by go_num,zeh hbel hb3 hsz ho0 ho1 hfo
      (by rw [← zlj,← Hz.out,← Ho.out]) (by rw [← zlo,← Hz.out,← Ho.out])⟩,by simp [intOf];omega⟩
   ·by_cases hin:n≤k
    ·obtain ⟨z1,o1,H1,H2⟩:=zgz v m (k - n)
     have hs:=yamx true v m n k (k - n) (by simp [zef];omega) (by omega)
     have Hz:Hid (z1=shz true v n k):=H1.out.trans hs.1
     have Ho:Hid (o1=sho true v m n k):=H2.out.trans hs.2
     clear hs
     go_wp2_with fail
     refine (zqh (by omega) _).mono ?_
     rintro e w0 ⟨rfl,rfl⟩
     go_wp2_with fail
     rw [show (k:Int) - (n:Int)=((k - n:Nat):Int) from by omega]
     refine (zbi (by omega) H1 H2 _).mono ?_
     rintro e w1 ⟨rfl,hb1⟩
     obtain ⟨hc1,hf1,hs1⟩:=bk _ hb1 hsz
     go_wp2_with fail
     refine (zf0 _ _ k hlt _ _ _).mono ?_
     rintro e w3 ⟨rfl,hb3⟩
     obtain ⟨hc3,hf3,hs3⟩:=bk _ hb3 hs1
     go_wp2_with fail
     exact ⟨⟨k+1,by omega,by go_num,zeh hbel (hb1.trans (hb3.mono hb1.size)) hsz ho0 ho1 hfo
      (by rw [← zlj,← Hz.out,← Ho.out]) (by rw [← zlo,← Hz.out,← Ho.out])⟩,by simp [intOf];omega⟩
    ·have hs:=yaa8 true v m n k (by simp [zef];omega)
     have Hz:Hid (true=shz true v n k):=hs.1
     have Ho:Hid (false=sho true v m n k):=hs.2
     clear hs
     go_wp2_with fail
     refine (zut (by omega) _).mono ?_
     rintro e w0 ⟨rfl,rfl⟩
     go_wp2_with fail
     refine (zf0 _ _ k hlt _ _ _).mono ?_
     rintro e w3 ⟨rfl,hb3⟩
     obtain ⟨hc3,hf3,hs3⟩:=bk _ hb3 hsz
     go_wp2_with fail
     exact ⟨⟨k+1,by omega,by go_num,zeh hbel hb3 hsz ho0 ho1 hfo
      (by rw [← zlj,← Hz.out,← Ho.out]) (by rw [← zlo,← Hz.out,← Ho.out])⟩,by simp [intOf];omega⟩
  ·have hk64:k=64:=by omega
   subst hk64
   go_wp2_with fail
   exact bodyPost_ret (v:=Bt (shV up v m n 64) (shM up v m n 64)) (by simp [results,Tryz.results125,go_sem,hc]) rfl ⟨rfl,(by repeat (first | exact Below.refl _ _ | assumption | refine below_drewN ?_ _ | refine Below.drew ?_ | refine Below.alloc ?_ (by first | exact Nat.le_refl _ | (simp;done) | (simp;omega) | omega) _ | refine Below.setCell ?_ (by first | exact Nat.le_refl _ | (simp;done) | (simp;omega) | omega) _ | refine Below.trans ?_ (Below.mono (by assumption) (by first | exact Nat.le_refl _ | (simp;done) | (simp;omega) | omega))))⟩
set_option maxHeartbeats 600000 in
theorem zvr (l h:BitVec 64) (w:World) :
  Calls Tryz.prog 170 #[U l,U h] w fun e w'=>e=.returned (Bt (zzc l h 64) (zxn l h 64))∧Below w.heap.size w w':=by
 go_enter Tryz.func170,Tryz.ntmps170
 go_wp2
 go_loopw [6,7] (fun s i wr=>∃ (c:Nat) (t:Int),c≤64∧s=.bool (zih l h c)∧i=N t∧t=63 - c
   ∧ Below (w.heap.size+1) (w.alloc (.cells #[.int .u64 0,.int .u64 0] 47)) wr
   ∧ wr.cell? ⟨w.heap.size+1,0,none⟩=some (U (zzc l h c))∧wr.cell? ⟨w.heap.size+1,1,none⟩=some (U (zxn l h c))
   ∧ (∀ o,wr.frozen? ⟨w.heap.size+1,o,none⟩=false)
   ∧ w.heap.size+1+1≤wr.heap.size) (fun _ i _=>(intOf i+1).toNat)
 case atStart =>
  exact ⟨0,63,by omega,rfl,rfl,by omega,(by repeat (first | exact Below.refl _ _ | assumption | refine below_drewN ?_ _ | refine Below.drew ?_ | refine Below.alloc ?_ (by first | exact Nat.le_refl _ | (simp;done) | (simp;omega) | omega) _ | refine Below.setCell ?_ (by first | exact Nat.le_refl _ | (simp;done) | (simp;omega) | omega) _ | refine Below.trans ?_ (Below.mono (by assumption) (by first | exact Nat.le_refl _ | (simp;done) | (simp;omega) | omega)))),by simp [zzc,accd,za4,go_sem],by simp [zxn,accd,za4,go_sem],by simp [go_sem],by simp⟩
 case round =>
  obtain ⟨c,t,hc,rfl,rfl,ht,hbel,ho0,ho1,hfo,hsz⟩:=hrel
  obtain ⟨hcc,hf⟩:=bl hbel
  by_cases hlt:c<64
  ·obtain ⟨i,rfl⟩:=Int.eq_ofNat_of_zero_le (show 0≤t by omega)
   have hi:i=63 - c:=by omega
   have hi64:i<64:=by omega
   have hi0:(0:Int)≤(i:Int):=by omega
   have Hi:Hid (i=63 - c):=hi
   have hstep:=yarl l h c i hi hlt
   have hl:=yaio l i
   have hh:=yaio h i
   obtain ⟨s,hs⟩:∃ s,s=zih l h c:=⟨_,rfl⟩
   obtain ⟨bl,hbl⟩:∃ b,b=bit l i:=⟨_,rfl⟩
   obtain ⟨bh,hbh⟩:∃ b,b=bit h i:=⟨_,rfl⟩
   rw [← hbl,← hbh,← hs] at hstep
   rw [← hbl] at hl
   rw [← hbh] at hh
   rw [← hs]
   clear hi ht hs hbl hbh
   have H1:Hid _:=hstep.1
   have H2:Hid _:=hstep.2.1
   have H3:Hid _:=hstep.2.2
   clear hstep
   have q1:=yaxy
   have q2:=yawg
   have q3:=yawy
   have q4:=yaxw
   cases s <;> cases bl <;> cases bh
   all_goals
    simp only [if_true,if_false,Bool.false_eq_true] at hl hh
    go_wp2_with fail
    go_quiet (fail)
    go_wp2_with fail
    refine (zf0 _ _ i hi64 _ _ _).mono ?_
    rintro e w3 ⟨rfl,hb3⟩
    have hb3':Below wr.heap.size wr w3:=(below_drewN (Below.refl _ wr) _).trans hb3
    obtain ⟨hc3,hf3,hs3⟩:=bk _ hb3' hsz
    clear hb3
    go_wp2_with fail
    exact ⟨⟨c+1,_,by omega,by rw [H1.out];rfl,rfl,by have:=Hi.out;omega,zeh hbel hb3' hsz ho0 ho1 hfo
     (by rw [← yagc l h c i Hi.out,H2.out,H3.out];rfl) (by rw [← yad0 l h c i Hi.out,H2.out,H3.out];rfl)⟩,by simp [intOf]⟩
  ·have ec:c=64:=by omega
   subst ec
   have ht':t=-1:=by omega
   subst ht'
   go_wp2_with fail
   exact bodyPost_ret (v:=Bt (zzc l h 64) (zxn l h 64)) (by simp [results,Tryz.results170,go_sem,hcc]) rfl ⟨rfl,(by repeat (first | exact Below.refl _ _ | assumption | refine below_drewN ?_ _ | refine Below.drew ?_ | refine Below.alloc ?_ (by first | exact Nat.le_refl _ | (simp;done) | (simp;omega) | omega) _ | refine Below.setCell ?_ (by first | exact Nat.le_refl _ | (simp;done) | (simp;omega) | omega) _ | refine Below.trans ?_ (Below.mono (by assumption) (by first | exact Nat.le_refl _ | (simp;done) | (simp;omega) | omega))))⟩
end
section
attribute [local go_sem] zc9 w_or zdb za3 zbw zbc zc7 zcy zc8 zbz zb1 zc2 zb0 zda zcn zcz zb2 zby zbx zb3 za1
set_option maxHeartbeats 400000 in
theorem yaot {n:Nat} {v m:BitVec 64} (hr:Hid (eqb (band v m) zero=true)) (hn:n<64) (w:World) :
  Calls Tryz.prog 200 #[N 8,Bt v m,N n] w fun e w'=>e=.returned (.tuple #[Bt (bshl v n) (bshl m n),N 0])∧Below w.heap.size w w':=by
 go_enter Tryz.func200,Tryz.ntmps200
 go_wp2_with fail
 refine (zjk hr (by simp) (by simp [go_sem]) (by simp [go_sem])).mono ?_
 rintro e w1 ⟨rfl,hb1⟩
 obtain ⟨hc1,hf1,hs1⟩:=bk (w.heap.size+1+1) hb1 (by simp)
 first | rw [er_t] | rw [er_f]
 go_wp2_with fail
 refine (yaq2 _ _ n hn _).mono ?_
 rintro e w2 ⟨rfl,hb2⟩
 obtain ⟨hc2,hf2,hs2⟩:=bk _ hb2 hs1
 go_wp2_with fail
 exact bodyPost_ret (v:=.tuple #[Bt (bshl v n) (bshl m n),N 0]) (by simp [results,Tryz.results200,go_sem,hc1,hc2]) rfl ⟨rfl,(by repeat (first | exact Below.refl _ _ | assumption | refine below_drewN ?_ _ | refine Below.drew ?_ | refine Below.alloc ?_ (by first | exact Nat.le_refl _ | (simp;done) | (simp;omega) | omega) _ | refine Below.setCell ?_ (by first | exact Nat.le_refl _ | (simp;done) | (simp;omega) | omega) _ | refine Below.trans ?_ (Below.mono (by assumption) (by first | exact Nat.le_refl _ | (simp;done) | (simp;omega) | omega))))⟩
set_option maxHeartbeats 400000 in
theorem yaek {n:Nat} {v m:BitVec 64} (hr:Hid (eqb (band v m) zero=true)) (hn:n<64) (w:World) :
  Calls Tryz.prog 200 #[N 9,Bt v m,N n] w fun e w'=>e=.returned (.tuple #[Bt (bshr v n) (bshr m n),N 0])∧Below w.heap.size w w':=by
 go_enter Tryz.func200,Tryz.ntmps200
 go_wp2_with fail
 refine (zjk hr (by simp) (by simp [go_sem]) (by simp [go_sem])).mono ?_
 rintro e w1 ⟨rfl,hb1⟩
 obtain ⟨hc1,hf1,hs1⟩:=bk (w.heap.size+1+1) hb1 (by simp)
 first | rw [er_t] | rw [er_f]
 go_wp2_with fail
 exact bodyPost_ret (v:=.tuple #[Bt (bshr v n) (bshr m n),N 0]) (by simp [results,Tryz.results200,go_sem,hc1]) rfl ⟨rfl,(by repeat (first | exact Below.refl _ _ | assumption | refine below_drewN ?_ _ | refine Below.drew ?_ | refine Below.alloc ?_ (by first | exact Nat.le_refl _ | (simp;done) | (simp;omega) | omega) _ | refine Below.setCell ?_ (by first | exact Nat.le_refl _ | (simp;done) | (simp;omega) | omega) _ | refine Below.trans ?_ (Below.mono (by assumption) (by first | exact Nat.le_refl _ | (simp;done) | (simp;omega) | omega))))⟩
end
section
attribute [local go_sem] zc9 w_or zdb za3 zbw zbc zc7 zcy zc8 zbz zb1 zc2 zb0 zda zcn zcz zb2 zby zbx zb3 za1
end
theorem hid {p:Prop} (h:p):Hid p:=h
section
attribute [local go_sem] zc9 w_or zdb za3 zbw zbc zc7 zcy zc8 zbz zb1 zc2 zb0 zda zcn zcz zb2 zby zbx zb3 za1
set_option maxHeartbeats 1000000 in
theorem zk5 (v m l h:BitVec 64) (w:World) :
  Calls Tryz.prog 98 #[Vl v m l h] w fun e w'=>e=.returned (N (er (valB v m l h)))∧Below w.heap.size w w':=by
 have Hv:Hid (valB v m l h=(hasB v m l&&(hasB v m h&&(decide (nv l≤nv h)&&insB v m (spV l h) (sM l h))))):=rfl
 obtain ⟨b1,H1⟩:∃ b,Hid (hasB v m l=b):=⟨_,rfl⟩
 obtain ⟨b2,H2⟩:∃ b,Hid (hasB v m h=b):=⟨_,rfl⟩
 obtain ⟨b3,H3⟩:∃ b,Hid (insB v m (spV l h) (sM l h)=b):=⟨_,rfl⟩
 rw [H1.out,H2.out,H3.out] at Hv
 go_enter Tryz.func98,Tryz.ntmps98
 go_wp2_with fail
 refine (hasC H1.out _).mono ?_
 rintro e w1 ⟨rfl,hb1⟩
 have hK:=((Kp.start w).add4 _ _ _ _ _).keep hb1
 obtain ⟨a0,a1,a2,a3,a4,a5,a6,a7,a8⟩:=hK.box.head.four
 cases b1
 ·go_wp2_with fail
  go_ret
  rw [Hv.out]
  exact ⟨rfl,hK.bel⟩
 ·go_wp2_with fail
  refine (hasC H2.out _).mono ?_
  rintro e w2 ⟨rfl,hb2⟩
  have hK2:=hK.keep hb2
  clear a0 a1 a2 a3 a4 a5 a6 a7 a8
  obtain ⟨a0,a1,a2,a3,a4,a5,a6,a7,a8⟩:=hK2.box.head.four
  cases b2
  ·go_wp2_with fail
   go_ret
   rw [Hv.out]
   exact ⟨rfl,hK2.bel⟩
  ·by_cases hle:nv l≤nv h
   ·have Hd:Hid (decide (nv l≤nv h)=true):=decide_eq_true hle
    have HS:Hid (∀ w,Calls Tryz.prog 142 #[U l,U h] w fun e w'=>e=.returned (.tuple #[Bt (spV l h) (sM l h),N 0])∧Below w.heap.size w w'):=fun w=>yagx hle w
    rw [Hd.out] at Hv
    clear hle Hd
    generalize spV l h=sv at HS H3
    generalize sM l h=sm at HS H3
    go_wp2_with fail
    refine (HS.out _).mono ?_
    rintro e w3 ⟨rfl,hb3⟩
    have hK3:=hK2.keep hb3
    clear a0 a1 a2 a3 a4 a5 a6 a7 a8
    obtain ⟨a0,a1,a2,a3,a4,a5,a6,a7,a8⟩:=hK3.box.head.four
    go_wp2_with fail
    refine (insC H3.out _).mono ?_
    rintro e w4 ⟨rfl,hb4⟩
    have hK4:=(hK3.add2 _ _ _).keep hb4
    cases b3
    all_goals
     go_wp2_with fail
     go_ret
     rw [Hv.out]
     exact ⟨rfl,hK4.bel⟩
   ·have Hd:Hid (decide (nv l≤nv h)=false):=decide_eq_false hle
    have HS:Hid (∀ w,Calls Tryz.prog 142 #[U l,U h] w fun e w'=>e=.returned (.tuple #[Bt zero zero,N 3])∧Below w.heap.size w w'):=fun w=>yaul (by omega) w
    rw [Hd.out] at Hv
    clear hle Hd
    go_wp2_with fail
    refine (HS.out _).mono ?_
    rintro e w3 ⟨rfl,hb3⟩
    have hK3:=hK2.keep hb3
    go_wp2_with fail
    go_ret
    rw [Hv.out]
    exact ⟨rfl,(hK3.add2 _ _ _).bel⟩
set_option maxHeartbeats 1000000 in
theorem zt7 {v m l h:BitVec 64} (hr:Hid (eqb (band v m) zero=true)) (ho:Hid (zc6 v m l h=false)) (w:World) :
  Calls Tryz.prog 126 #[Vl v m l h] w fun e w'=>e=.returned (.tuple #[V0,.bool false])∧Below w.heap.size w w':=by
 have hrt:=(zeb v m).1 hr.out
 have hs:=zpv hrt l
 have hg:=zpu hrt h
 have HL:Hid (∀ w,Calls Tryz.prog 168 #[Bt v m,U l] w fun e w'=>e=.returned (.tuple #[U (zcq v m l 64).1,.bool (zcq v m l 64).2])∧Below w.heap.size w w'):=fun w=>zks v m l w
 have HG:Hid (∀ w,Calls Tryz.prog 169 #[Bt v m,U h] w fun e w'=>e=.returned (.tuple #[U (zcp v m h 64).1,.bool (zcp v m h 64).2])∧Below w.heap.size w w'):=fun w=>zk2 v m h w
 have Ho:Hid (((zcq v m l 64).2&&((zcp v m h 64).2&&decide (nv (zcq v m l 64).1≤nv (zcp v m h 64).1)))=false):=by
  have:=ho.out
  unfold zc6 nLo nHi at this
  show _=false
  rw [hs.1,hg.1]
  cases e1:(zbr v m l).2
  ·rfl
  ·cases e2:(zcg v m h).2
   ·rfl
   ·rw [hs.2 e1,hg.2 e2]
    rw [e1,e2] at this
    exact this
 clear ho hs hg hrt hr
 generalize zcq v m l 64=L at HL Ho
 generalize zcp v m h 64=G at HG Ho
 obtain ⟨lo,lb⟩:=L
 obtain ⟨hi,gb⟩:=G
 go_enter Tryz.func126,Tryz.ntmps126
 go_wp2_with fail
 refine (HL.out _).mono ?_
 rintro e w2 ⟨rfl,hb2⟩
 have hK2:=(((Kp.start w).add4 _ _ _ _ _).add4 _ _ _ _ _).keep hb2
 simp only [World.size_alloc] at hK2
 obtain ⟨r0,r1,r2,r3,r4,r5,r6,r7,r8⟩:=hK2.box.head.four
 obtain ⟨a0,a1,a2,a3,a4,a5,a6,a7,a8⟩:=hK2.box.tail.head.four
 go_wp2_with fail
 refine (HG.out _).mono ?_
 rintro e w3 ⟨rfl,hb3⟩
 have hK3:=hK2.keep hb3
 clear r0 r1 r2 r3 r4 r5 r6 r7 r8 a0 a1 a2 a3 a4 a5 a6 a7 a8
 obtain ⟨r0,r1,r2,r3,r4,r5,r6,r7,r8⟩:=hK3.box.head.four
 obtain ⟨a0,a1,a2,a3,a4,a5,a6,a7,a8⟩:=hK3.box.tail.head.four
 cases lb
 ·go_wp2_with fail
  exact bodyPost_ret (v:=.tuple #[V0,.bool false]) (by simp [results,Tryz.results126,go_sem,za4,r0,r1,r2,r3]) rfl ⟨rfl,(hK3.set4 0 rfl).bel⟩
 ·cases gb
  ·go_wp2_with fail
   exact bodyPost_ret (v:=.tuple #[V0,.bool false]) (by simp [results,Tryz.results126,go_sem,za4,r0,r1,r2,r3]) rfl ⟨rfl,(hK3.set4 0 rfl).bel⟩
  ·have hlt:nv hi<nv lo:=by
    have:=Ho.out
    simp only [Bool.true_and,decide_eq_false_iff_not] at this
    omega
   clear Ho
   go_wp2_with fail
   exact bodyPost_ret (v:=.tuple #[V0,.bool false]) (by simp [results,Tryz.results126,go_sem,za4,r0,r1,r2,r3]) rfl ⟨rfl,(hK3.set4 0 rfl).bel⟩
set_option maxRecDepth 100000 in
set_option maxHeartbeats 8000000 in
theorem zyu {v m l h:BitVec 64} (hr:Hid (eqb (band v m) zero=true)) (ho:Hid (zc6 v m l h=true)) (w:World) :
  Calls Tryz.prog 126 #[Vl v m l h] w fun e w'=>e=.returned (.tuple #[Vl (nV v m l h) (nM m (nLo v m l) (nHi v m h)) (nLo v m l) (nHi v m h),.bool true])∧Below w.heap.size w w':=by
 have hrt:=(zeb v m).1 hr.out
 have hfa:=zep hrt ho.out
 have ho':=ho.out
 unfold zc6 at ho'
 simp only [Bool.and_eq_true] at ho'
 have hs:=zpv hrt l
 have hg:=zpu hrt h
 have HL:Hid (∀ w,Calls Tryz.prog 168 #[Bt v m,U l] w fun e w'=>e=.returned (.tuple #[U (nLo v m l),.bool true])∧Below w.heap.size w w'):=fun w=>by
  have:=zks v m l w;rw [hs.1,hs.2 ho'.1,ho'.1] at this;exact this
 have HG:Hid (∀ w,Calls Tryz.prog 169 #[Bt v m,U h] w fun e w'=>e=.returned (.tuple #[U (nHi v m h),.bool true])∧Below w.heap.size w w'):=fun w=>by
  have:=zk2 v m h w;rw [hg.1,hg.2 ho'.2.1,ho'.2.1] at this;exact this
 have HS:Hid (∀ w,Calls Tryz.prog 170 #[U (nLo v m l),U (nHi v m h)] w fun e w'=>e=.returned (Bt (spV (nLo v m l) (nHi v m h)) (sM (nLo v m l) (nHi v m h)))∧Below w.heap.size w w'):=fun w=>by
  have hh:=zvr (nLo v m l) (nHi v m h) w
  rw [(yak3 _ _).1,(yak3 _ _).2] at hh
  exact hh
 have HM:Hid (∀ w,Calls Tryz.prog 129 #[Bt v m,Bt (spV (nLo v m l) (nHi v m h)) (sM (nLo v m l) (nHi v m h))] w fun e w'=>e=.returned (.tuple #[Bt (nV v m l h) (nM m (nLo v m l) (nHi v m h)),.bool true])∧Below w.heap.size w w'):=fun w=>by
  obtain ⟨h1,h2,h3⟩:=yagj (zjy hrt (zes (nLo v m l) (nHi v m h))).out (zol hrt hfa.1 (Int.le_refl _) hfa.2.2.1)
  have h:=zm6 v m _ _ h1 w
  rw [h2,h3] at h
  exact h
 have hle:=hfa.2.2.1
 clear hfa ho' ho hrt hs hg hr
 generalize nV v m l h=rv at HM ⊢
 generalize nM m (nLo v m l) (nHi v m h)=rm at HM ⊢
 generalize spV (nLo v m l) (nHi v m h)=sv at HM HS
 generalize sM (nLo v m l) (nHi v m h)=sm at HM HS
 generalize nLo v m l=lo at HL HS hle ⊢
 generalize nHi v m h=hi at HG HS hle ⊢
 go_enter Tryz.func126,Tryz.ntmps126
 go_wp2_with fail
 refine (HL.out _).mono ?_
 rintro e w2 ⟨rfl,hb2⟩
 have hK2:=(((Kp.start w).add4 _ _ _ _ _).add4 _ _ _ _ _).keep hb2
 simp only [World.size_alloc] at hK2
 obtain ⟨r0,r1,r2,r3,r4,r5,r6,r7,r8⟩:=hK2.box.head.four
 obtain ⟨a0,a1,a2,a3,a4,a5,a6,a7,a8⟩:=hK2.box.tail.head.four
 go_wp2_with fail
 refine (HG.out _).mono ?_
 rintro e w3 ⟨rfl,hb3⟩
 have hK3:=hK2.keep hb3
 clear r0 r1 r2 r3 r4 r5 r6 r7 r8 a0 a1 a2 a3 a4 a5 a6 a7 a8
 obtain ⟨r0,r1,r2,r3,r4,r5,r6,r7,r8⟩:=hK3.box.head.four
 obtain ⟨a0,a1,a2,a3,a4,a5,a6,a7,a8⟩:=hK3.box.tail.head.four
 go_wp2_with fail
 go_cut [8,9] (fun p f wc=>∃ b,p=.pointer (some ⟨b,0,none⟩)∧f=.bool true∧Kp w wc [(b,[U rv,U rm]),(w.heap.size+1,[.int .u64 0,.int .u64 0,.int .u64 0,.int .u64 0]),(w.heap.size,[U v,U m,U l,U h])])
 case first =>
  go_region_with (first
    | (go_at_call 170;refine (HS.out _).mono ?_;rintro e w4 ⟨rfl,hb4⟩;clear r0 r1 r2 r3 r4 r5 r6 r7 a0 a1 a2 a3 a4 a5 a6 a7;first | (have hK4:=(hK3.keep (Below.drew (Below.refl _ _))).keep hb4;obtain ⟨r0,r1,r2,r3,r4,r5,r6,r7,r8⟩:=hK4.box.head.four;obtain ⟨a0,a1,a2,a3,a4,a5,a6,a7,a8⟩:=hK4.box.tail.head.four) | (have hK4:=((hK3.keep (Below.drew (Below.refl _ _))).add2 _ _ _).keep hb4;rw [show w3.drew.heap.size=w3.heap.size from rfl] at hK4;obtain ⟨q0,q1,q2,q3,q4⟩:=hK4.box.head.two;obtain ⟨r0,r1,r2,r3,r4,r5,r6,r7,r8⟩:=hK4.box.tail.head.four;obtain ⟨a0,a1,a2,a3,a4,a5,a6,a7,a8⟩:=hK4.box.tail.tail.head.four))
    | (go_at_call 129;refine (HM.out _).mono ?_;rintro e w5 ⟨rfl,hb5⟩;clear r0 r1 r2 r3 r4 r5 r6 r7 a0 a1 a2 a3 a4 a5 a6 a7;first | (have hK5:=hK4.keep hb5;obtain ⟨q0,q1,q2,q3,q4⟩:=hK5.box.head.two;obtain ⟨r0,r1,r2,r3,r4,r5,r6,r7,r8⟩:=hK5.box.tail.head.four;obtain ⟨a0,a1,a2,a3,a4,a5,a6,a7,a8⟩:=hK5.box.tail.tail.head.four) | (have hK5:=hK4.keep hb5;obtain ⟨r0,r1,r2,r3,r4,r5,r6,r7,r8⟩:=hK5.box.head.four;obtain ⟨a0,a1,a2,a3,a4,a5,a6,a7,a8⟩:=hK5.box.tail.head.four) | (have hK5:=(hK4.add2 _ _ _).keep hb5;obtain ⟨q0,q1,q2,q3,q4⟩:=hK5.box.head.two;obtain ⟨r0,r1,r2,r3,r4,r5,r6,r7,r8⟩:=hK5.box.tail.head.four;obtain ⟨a0,a1,a2,a3,a4,a5,a6,a7,a8⟩:=hK5.box.tail.tail.head.four)))
  all_goals
   go_wp2_with fail
   go_meet
   case rel=>first | exact ⟨_,rfl,rfl,hK5.add2 _ _ _⟩ | exact ⟨_,rfl,rfl,hK5.set2 0 rfl⟩
 case rest =>
  clear r0 r1 r2 r3 r4 r5 r6 r7 r8 a0 a1 a2 a3 a4 a5 a6 a7 a8
  obtain ⟨b,rfl,rfl,hK6⟩:=hcut
  obtain ⟨q0,q1,q2,q3,q4⟩:=hK6.box.head.two
  obtain ⟨r0,r1,r2,r3,r4,r5,r6,r7,r8⟩:=hK6.box.tail.head.four
  obtain ⟨a0,a1,a2,a3,a4,a5,a6,a7,a8⟩:=hK6.box.tail.tail.head.four
  have hne:w.heap.size+1<b:=hK6.box.2.1 _ (List.Mem.head _)
  go_wp2_with fail
  exact bodyPost_ret (v:=.tuple #[Vl rv rm lo hi,.bool true]) (by simp [results,Tryz.results126,go_sem,r0,r1,r2,r3]) rfl ⟨rfl,(hK6.set4 1 rfl).bel⟩
end
section
attribute [local go_sem] zc9 w_or zdb za3 zbw zbc zc7 zcy zc8 zbz zb1 zc2 zb0 zda zcn zcz zb2 zby zbx zb3 za1
attribute [local go_sem] ziv
theorem yaaj {v m l h:BitVec 64} {b:Bool} (hv:valB v m l h=b) (w:World) :
  Calls Tryz.prog 98 #[Vl v m l h] w fun e w'=>e=.returned (N (er b))∧Below w.heap.size w w':=hv ▸ zk5 v m l h w
set_option maxHeartbeats 1000000 in
theorem yag8 (x:BitVec 64) (w:World) :
  Calls Tryz.prog 144 #[U x] w fun e w'=>e=.returned (Vl x zero x x)∧Below w.heap.size w w':=by
 go_enter Tryz.func144,Tryz.ntmps144
 go_wp2_with fail
 exact bodyPost_ret (v:=Vl x zero x x) (by simp [results,Tryz.results144,go_sem,za4]) rfl ⟨rfl,(by repeat (first | exact Below.refl _ _ | assumption | refine below_drewN ?_ _ | refine Below.drew ?_ | refine Below.alloc ?_ (by first | exact Nat.le_refl _ | (simp;done) | (simp;omega) | omega) _ | refine Below.setCell ?_ (by first | exact Nat.le_refl _ | (simp;done) | (simp;omega) | omega) _ | refine Below.trans ?_ (Below.mono (by assumption) (by first | exact Nat.le_refl _ | (simp;done) | (simp;omega) | omega))))⟩
set_option maxHeartbeats 1000000 in
theorem ztt (x:BitVec 64) (w:World) :
  Calls Tryz.prog 74 #[U x] w fun e w'=>e=.returned (Vl x zero x x)∧Below w.heap.size w w':=by
 go_enter Tryz.func74,Tryz.ntmps74
 go_wp2_with fail
 exact bodyPost_ret (v:=Vl x zero x x) (by simp [results,Tryz.results74,go_sem,za4]) rfl ⟨rfl,(by repeat (first | exact Below.refl _ _ | assumption | refine below_drewN ?_ _ | refine Below.drew ?_ | refine Below.alloc ?_ (by first | exact Nat.le_refl _ | (simp;done) | (simp;omega) | omega) _ | refine Below.setCell ?_ (by first | exact Nat.le_refl _ | (simp;done) | (simp;omega) | omega) _ | refine Below.trans ?_ (Below.mono (by assumption) (by first | exact Nat.le_refl _ | (simp;done) | (simp;omega) | omega))))⟩
set_option maxHeartbeats 1000000 in
theorem yad1 (w:World) :
  Calls Tryz.prog 54 #[] w fun e w'=>e=.returned (Vl zero top zero top)∧Below w.heap.size w w':=by
 go_enter Tryz.func54,Tryz.ntmps54
 go_wp2_with fail
 exact bodyPost_ret (v:=Vl zero top zero top) (by simp [results,Tryz.results54,go_sem,za4,zmi]) rfl ⟨rfl,(by repeat (first | exact Below.refl _ _ | assumption | refine below_drewN ?_ _ | refine Below.drew ?_ | refine Below.alloc ?_ (by first | exact Nat.le_refl _ | (simp;done) | (simp;omega) | omega) _ | refine Below.setCell ?_ (by first | exact Nat.le_refl _ | (simp;done) | (simp;omega) | omega) _ | refine Below.trans ?_ (Below.mono (by assumption) (by first | exact Nat.le_refl _ | (simp;done) | (simp;omega) | omega))))⟩
set_option maxHeartbeats 1000000 in
theorem zrz (w:World) :
  Calls Tryz.prog 73 #[] w fun e w'=>e=.returned (Vl zero top zero top)∧Below w.heap.size w w':=by
 go_enter Tryz.func73,Tryz.ntmps73
 go_wp2_with fail
 exact bodyPost_ret (v:=Vl zero top zero top) (by simp [results,Tryz.results73,go_sem,za4,zmi]) rfl ⟨rfl,(by repeat (first | exact Below.refl _ _ | assumption | refine below_drewN ?_ _ | refine Below.drew ?_ | refine Below.alloc ?_ (by first | exact Nat.le_refl _ | (simp;done) | (simp;omega) | omega) _ | refine Below.setCell ?_ (by first | exact Nat.le_refl _ | (simp;done) | (simp;omega) | omega) _ | refine Below.trans ?_ (Below.mono (by assumption) (by first | exact Nat.le_refl _ | (simp;done) | (simp;omega) | omega))))⟩
end
section
attribute [local go_sem] zc9 w_or zdb za3 zbw zbc zc7 zcy zc8 zbz zb1 zc2 zb0 zda zcn zcz zb2 zby zbx zb3 za1
end
section
attribute [local go_sem] zc9 w_or zdb za3 zbw zbc zc7 zcy zc8 zbz zb1 zc2 zb0 zda zcn zcz zb2 zby zbx zb3 za1
set_option maxHeartbeats 2000000 in
theorem zyl {v m l h v' m' l' h':BitVec 64} (hr:Hid ((valB v m l h&&valB v' m' l' h')=true)) (w:World) :
  Calls Tryz.prog 109 #[Vl v m l h,Vl v' m' l' h'] w fun e w'=>e=.returned (.tuple #[Vl (nV (jV v m v' m') (jM v m v' m') (bmin l l') (bmax h h')) (nM (jM v m v' m') (nLo (jV v m v' m') (jM v m v' m') (bmin l l')) (nHi (jV v m v' m') (jM v m v' m') (bmax h h'))) (nLo (jV v m v' m') (jM v m v' m') (bmin l l')) (nHi (jV v m v' m') (jM v m v' m') (bmax h h')),N 0])∧Below w.heap.size w w':=by
 have hr':=hr.out
 rw [Bool.and_eq_true] at hr'
 have H1:Hid (valB v m l h=true):=hr'.1
 have H2:Hid (valB v' m' l' h'=true):=hr'.2
 have hf:=zkf hr'.1 hr'.2
 have ha:=(zbe hr'.1).1
 have hb:=(zbe hr'.2).1
 have HJ:Hid (∀ w,Calls Tryz.prog 157 #[Bt v m,Bt v' m'] w fun e w'=>e=.returned (.tuple #[Bt (jV v m v' m') (jM v m v' m'),N 0])∧Below w.heap.size w w'):=fun w=>join_ok (zjy ha hb) w
 have HN:Hid (∀ w,Calls Tryz.prog 156 #[Vl (jV v m v' m') (jM v m v' m') (bmin l l') (bmax h h')] w fun e w'=>e=.returned (.tuple #[Vl (nV (jV v m v' m') (jM v m v' m') (bmin l l') (bmax h h')) (nM (jM v m v' m') (nLo (jV v m v' m') (jM v m v' m') (bmin l l')) (nHi (jV v m v' m') (jM v m v' m') (bmax h h'))) (nLo (jV v m v' m') (jM v m v' m') (bmin l l')) (nHi (jV v m v' m') (jM v m v' m') (bmax h h')),.bool true,N 0])∧Below w.heap.size w w'):=fun w =>
  zra ((zeb _ _).2 (zkd v m v' m')) hf.1 w
 clear hf ha hb hr hr'
 generalize nV (jV v m v' m') (jM v m v' m') (bmin l l') (bmax h h')=rv at HN ⊢
 generalize nM (jM v m v' m') (nLo (jV v m v' m') (jM v m v' m') (bmin l l')) (nHi (jV v m v' m') (jM v m v' m') (bmax h h'))=rm at HN ⊢
 generalize nLo (jV v m v' m') (jM v m v' m') (bmin l l')=lo at HN ⊢
 generalize nHi (jV v m v' m') (jM v m v' m') (bmax h h')=hi at HN ⊢
 generalize jV v m v' m'=jv at HN HJ
 generalize jM v m v' m'=jm at HN HJ
 go_enter Tryz.func109,Tryz.ntmps109
 go_wp2_with fail
 refine (yaaj H1.out _).mono ?_
 rintro e w1 ⟨rfl,hb1⟩
 have hK:=((((Kp.start w).add4 _ _ _ _ _).add4 _ _ _ _ _).add4 _ _ _ _ _).keep hb1
 simp only [World.size_alloc] at hK
 obtain ⟨r0,r1,r2,r3,r4,r5,r6,r7,r8⟩:=hK.box.head.four
 obtain ⟨b0,b1,b2,b3,b4,b5,b6,b7,b8⟩:=hK.box.tail.head.four
 obtain ⟨a0,a1,a2,a3,a4,a5,a6,a7,a8⟩:=hK.box.tail.tail.head.four
 rw [er_t]
 go_wp2_with fail
 refine (yaaj H2.out _).mono ?_
 rintro e w2 ⟨rfl,hb2⟩
 have hK2:=hK.keep hb2
 clear r0 r1 r2 r3 r4 r5 r6 r7 r8 b0 b1 b2 b3 b4 b5 b6 b7 b8 a0 a1 a2 a3 a4 a5 a6 a7 a8
 obtain ⟨r0,r1,r2,r3,r4,r5,r6,r7,r8⟩:=hK2.box.head.four
 obtain ⟨b0,b1,b2,b3,b4,b5,b6,b7,b8⟩:=hK2.box.tail.head.four
 obtain ⟨a0,a1,a2,a3,a4,a5,a6,a7,a8⟩:=hK2.box.tail.tail.head.four
 rw [er_t]
 go_wp2_with fail
 refine (HJ.out _).mono ?_
 rintro e w3 ⟨rfl,hb3⟩
 have hK3:=hK2.keep hb3
 clear r0 r1 r2 r3 r4 r5 r6 r7 r8 b0 b1 b2 b3 b4 b5 b6 b7 b8 a0 a1 a2 a3 a4 a5 a6 a7 a8
 obtain ⟨r0,r1,r2,r3,r4,r5,r6,r7,r8⟩:=hK3.box.head.four
 obtain ⟨b0,b1,b2,b3,b4,b5,b6,b7,b8⟩:=hK3.box.tail.head.four
 obtain ⟨a0,a1,a2,a3,a4,a5,a6,a7,a8⟩:=hK3.box.tail.tail.head.four
 by_cases h1:nv l' < nv l <;> by_cases h2:nv h<nv h'
 ·have e1:bmin l l'=l':=if_pos h1
  have e2:bmax h h'=h':=if_pos h2
  rw [e1,e2] at HN
  clear e1 e2
  go_wp2_with fail
  refine (HN.out _).mono ?_
  rintro e w4 ⟨rfl,hb4⟩
  have hK4:=(hK3.add2 _ _ _).keep hb4
  clear r0 r1 r2 r3 r4 r5 r6 r7 r8 b0 b1 b2 b3 b4 b5 b6 b7 b8 a0 a1 a2 a3 a4 a5 a6 a7 a8
  obtain ⟨j0,j1,j2,j3,j4⟩:=hK4.box.head.two
  obtain ⟨r0,r1,r2,r3,r4,r5,r6,r7,r8⟩:=hK4.box.tail.head.four
  obtain ⟨b0,b1,b2,b3,b4,b5,b6,b7,b8⟩:=hK4.box.tail.tail.head.four
  obtain ⟨a0,a1,a2,a3,a4,a5,a6,a7,a8⟩:=hK4.box.tail.tail.tail.head.four
  go_wp2_with fail
  exact bodyPost_ret (v:=.tuple #[Vl rv rm lo hi,N 0]) (by simp [results,Tryz.results109,go_sem,r0,r1,r2,r3,r8]) rfl ⟨rfl,((hK4.set4 1 rfl).add4 _ _ _ _ _).bel⟩
 ·have e1:bmin l l'=l':=if_pos h1
  have e2:bmax h h'=h:=if_neg h2
  rw [e1,e2] at HN
  clear e1 e2
  have h2':nv h'≤nv h:=by omega
  clear h2
  go_wp2_with fail
  refine (HN.out _).mono ?_
  rintro e w4 ⟨rfl,hb4⟩
  have hK4:=(hK3.add2 _ _ _).keep hb4
  clear r0 r1 r2 r3 r4 r5 r6 r7 r8 b0 b1 b2 b3 b4 b5 b6 b7 b8 a0 a1 a2 a3 a4 a5 a6 a7 a8
  obtain ⟨j0,j1,j2,j3,j4⟩:=hK4.box.head.two
  obtain ⟨r0,r1,r2,r3,r4,r5,r6,r7,r8⟩:=hK4.box.tail.head.four
  obtain ⟨b0,b1,b2,b3,b4,b5,b6,b7,b8⟩:=hK4.box.tail.tail.head.four
  obtain ⟨a0,a1,a2,a3,a4,a5,a6,a7,a8⟩:=hK4.box.tail.tail.tail.head.four
  go_wp2_with fail
  exact bodyPost_ret (v:=.tuple #[Vl rv rm lo hi,N 0]) (by simp [results,Tryz.results109,go_sem,r0,r1,r2,r3,r8]) rfl ⟨rfl,((hK4.set4 1 rfl).add4 _ _ _ _ _).bel⟩
 ·have e1:bmin l l'=l:=if_neg h1
  have e2:bmax h h'=h':=if_pos h2
  rw [e1,e2] at HN
  clear e1 e2
  have h1':nv l≤nv l':=by omega
  clear h1
  go_wp2_with fail
  refine (HN.out _).mono ?_
  rintro e w4 ⟨rfl,hb4⟩
  have hK4:=(hK3.add2 _ _ _).keep hb4
  clear r0 r1 r2 r3 r4 r5 r6 r7 r8 b0 b1 b2 b3 b4 b5 b6 b7 b8 a0 a1 a2 a3 a4 a5 a6 a7 a8
  obtain ⟨j0,j1,j2,j3,j4⟩:=hK4.box.head.two
  obtain ⟨r0,r1,r2,r3,r4,r5,r6,r7,r8⟩:=hK4.box.tail.head.four
  obtain ⟨b0,b1,b2,b3,b4,b5,b6,b7,b8⟩:=hK4.box.tail.tail.head.four
  obtain ⟨a0,a1,a2,a3,a4,a5,a6,a7,a8⟩:=hK4.box.tail.tail.tail.head.four
  go_wp2_with fail
  exact bodyPost_ret (v:=.tuple #[Vl rv rm lo hi,N 0]) (by simp [results,Tryz.results109,go_sem,r0,r1,r2,r3,r8]) rfl ⟨rfl,((hK4.set4 1 rfl).add4 _ _ _ _ _).bel⟩
 ·have e1:bmin l l'=l:=if_neg h1
  have e2:bmax h h'=h:=if_neg h2
  rw [e1,e2] at HN
  clear e1 e2
  have h1':nv l≤nv l':=by omega
  clear h1
  have h2':nv h'≤nv h:=by omega
  clear h2
  go_wp2_with fail
  refine (HN.out _).mono ?_
  rintro e w4 ⟨rfl,hb4⟩
  have hK4:=(hK3.add2 _ _ _).keep hb4
  clear r0 r1 r2 r3 r4 r5 r6 r7 r8 b0 b1 b2 b3 b4 b5 b6 b7 b8 a0 a1 a2 a3 a4 a5 a6 a7 a8
  obtain ⟨j0,j1,j2,j3,j4⟩:=hK4.box.head.two
  obtain ⟨r0,r1,r2,r3,r4,r5,r6,r7,r8⟩:=hK4.box.tail.head.four
  obtain ⟨b0,b1,b2,b3,b4,b5,b6,b7,b8⟩:=hK4.box.tail.tail.head.four
  obtain ⟨a0,a1,a2,a3,a4,a5,a6,a7,a8⟩:=hK4.box.tail.tail.tail.head.four
  go_wp2_with fail
  exact bodyPost_ret (v:=.tuple #[Vl rv rm lo hi,N 0]) (by simp [results,Tryz.results109,go_sem,r0,r1,r2,r3,r8]) rfl ⟨rfl,((hK4.set4 1 rfl).add4 _ _ _ _ _).bel⟩
end
section
attribute [local go_sem] zc9 w_or zdb za3 zbw zbc zc7 zcy zc8 zbz zb1 zc2 zb0 zda zcn zcz zb2 zby zbx zb3 za1
set_option maxHeartbeats 400000 in
theorem yale (v m l h:BitVec 64) (w:World) :
  Calls Tryz.prog 147 #[Vl v m l h] w fun e w'=>e=.returned (.bool (eqb l h))∧Below w.heap.size w w':=by
 go_enter Tryz.func147,Tryz.ntmps147
 go_wp2_with fail
 go_ret
 exact ⟨rfl,(by repeat (first | exact Below.refl _ _ | assumption | refine below_drewN ?_ _ | refine Below.drew ?_ | refine Below.alloc ?_ (by first | exact Nat.le_refl _ | (simp;done) | (simp;omega) | omega) _ | refine Below.setCell ?_ (by first | exact Nat.le_refl _ | (simp;done) | (simp;omega) | omega) _ | refine Below.trans ?_ (Below.mono (by assumption) (by first | exact Nat.le_refl _ | (simp;done) | (simp;omega) | omega))))⟩
theorem zd9 {v m l h:BitVec 64} {b:Bool} (hb:eqb l h=b) (w:World) :
  Calls Tryz.prog 147 #[Vl v m l h] w fun e w'=>e=.returned (.bool b)∧Below w.heap.size w w':=hb ▸ yale v m l h w
set_option maxRecDepth 100000 in
set_option maxHeartbeats 1000000 in
theorem zmv (v m l h:BitVec 64) (y:BitVec 64) (w:World) :
  Calls Tryz.prog 201 #[N 9,Vl v m l h,U (band y 63#64)] w fun e w'=>e=.returned (.tuple #[U (bshr l (six y)),U (bshr h (six y))])∧Below w.heap.size w w':=by
 have h6:=zul y
 have h7:=zme y
 go_enter Tryz.func201,Tryz.ntmps201
 go_wp2_with fail
 go_quiet (fail)
 go_wp2_with fail
 go_ret2
 exact ⟨rfl,(by repeat (first | exact Below.refl _ _ | assumption | refine below_drewN ?_ _ | refine Below.drew ?_ | refine Below.alloc ?_ (by first | exact Nat.le_refl _ | (simp;done) | (simp;omega) | omega) _ | refine Below.setCell ?_ (by first | exact Nat.le_refl _ | (simp;done) | (simp;omega) | omega) _ | refine Below.trans ?_ (Below.mono (by assumption) (by first | exact Nat.le_refl _ | (simp;done) | (simp;omega) | omega))))⟩
set_option maxRecDepth 100000 in
set_option maxHeartbeats 1000000 in
theorem znc (v m l h:BitVec 64) (y:BitVec 64) (w:World) :
  Calls Tryz.prog 201 #[N 8,Vl v m l h,U (band y 63#64)] w fun e w'=>e=.returned (.tuple #[U (shlB l h (six y)).1,U (shlB l h (six y)).2])∧Below w.heap.size w w':=by
 have h6:=zul y
 have h7:=zme y
 have Ha:Hid (shlB l h (six y)=if eqb (bshr (bshl h (six y)) (six y)) h then (bshl l (six y),bshl h (six y)) else (zero,top)):=rfl
 obtain ⟨p,hp⟩:∃ b,eqb (bshr (bshl h (six y)) (six y)) h=b:=⟨_,rfl⟩
 rw [hp] at Ha
 cases p
 ·go_enter Tryz.func201,Tryz.ntmps201
  go_wp2_with fail
  go_ret2
  rw [Ha.out]
  exact ⟨rfl,(by repeat (first | exact Below.refl _ _ | assumption | refine below_drewN ?_ _ | refine Below.drew ?_ | refine Below.alloc ?_ (by first | exact Nat.le_refl _ | (simp;done) | (simp;omega) | omega) _ | refine Below.setCell ?_ (by first | exact Nat.le_refl _ | (simp;done) | (simp;omega) | omega) _ | refine Below.trans ?_ (Below.mono (by assumption) (by first | exact Nat.le_refl _ | (simp;done) | (simp;omega) | omega))))⟩
 ·go_enter Tryz.func201,Tryz.ntmps201
  go_wp2_with fail
  go_quiet (fail)
  go_wp2_with fail
  go_ret2
  rw [Ha.out]
  exact ⟨rfl,(by repeat (first | exact Below.refl _ _ | assumption | refine below_drewN ?_ _ | refine Below.drew ?_ | refine Below.alloc ?_ (by first | exact Nat.le_refl _ | (simp;done) | (simp;omega) | omega) _ | refine Below.setCell ?_ (by first | exact Nat.le_refl _ | (simp;done) | (simp;omega) | omega) _ | refine Below.trans ?_ (Below.mono (by assumption) (by first | exact Nat.le_refl _ | (simp;done) | (simp;omega) | omega))))⟩
set_option maxRecDepth 100000 in
set_option maxHeartbeats 1000000 in
theorem yafy {op:Int} (hop:Hid (2≤op∧op≤7)) (v m l h v' m' l' h':BitVec 64) (w:World) :
  Calls Tryz.prog 183 #[N op,Vl v m l h,Vl v' m' l' h'] w fun e w'=>e=.returned (.tuple #[U (zce op l h l' h').1,U (zce op l h l' h').2])∧Below w.heap.size w w':=by
 rcases zi1 hop.out with rfl | rfl | rfl | rfl | rfl | rfl
 ·clear hop
  go_enter Tryz.func183,Tryz.ntmps183
  go_wp2_with fail
  refine (zq6 v m l h v' m' l' h' _).mono ?_
  rintro e w1 ⟨rfl,hb1⟩
  have hK:=(((Kp.start w).add4 _ _ _ _ _).add4 _ _ _ _ _).keep hb1
  go_wp2_with fail
  go_ret2
  exact ⟨rfl,hK.bel⟩
 ·clear hop
  go_enter Tryz.func183,Tryz.ntmps183
  go_wp2_with fail
  refine (zrm v m l h v' m' l' h' _).mono ?_
  rintro e w1 ⟨rfl,hb1⟩
  have hK:=(((Kp.start w).add4 _ _ _ _ _).add4 _ _ _ _ _).keep hb1
  go_wp2_with fail
  go_ret2
  exact ⟨rfl,hK.bel⟩
 ·clear hop
  go_enter Tryz.func183,Tryz.ntmps183
  go_wp2_with fail
  refine (zrv v m l h v' m' l' h' _).mono ?_
  rintro e w1 ⟨rfl,hb1⟩
  have hK:=(((Kp.start w).add4 _ _ _ _ _).add4 _ _ _ _ _).keep hb1
  go_wp2_with fail
  go_ret2
  exact ⟨rfl,hK.bel⟩
 ·clear hop
  have Hb:Hid (zce 5 l h l' h'=(zero,bmin h h')):=rfl
  rw [Hb.out]
  by_cases h1:nv h' < nv h
  ·have e1:Hid (bmin h h'=h'):=if_pos h1
   rw [e1.out]
   go_enter Tryz.func183,Tryz.ntmps183
   go_wp2_with fail
   first | (go_quiet (fail);go_wp2_with fail) | skip
   go_ret2
   exact ⟨rfl,(by repeat (first | exact Below.refl _ _ | assumption | refine below_drewN ?_ _ | refine Below.drew ?_ | refine Below.alloc ?_ (by first | exact Nat.le_refl _ | (simp;done) | (simp;omega) | omega) _ | refine Below.setCell ?_ (by first | exact Nat.le_refl _ | (simp;done) | (simp;omega) | omega) _ | refine Below.trans ?_ (Below.mono (by assumption) (by first | exact Nat.le_refl _ | (simp;done) | (simp;omega) | omega))))⟩
  ·have e1:Hid (bmin h h'=h):=if_neg h1
   have h1':nv h≤nv h':=by omega
   clear h1
   rw [e1.out]
   go_enter Tryz.func183,Tryz.ntmps183
   go_wp2_with fail
   first | (go_quiet (fail);go_wp2_with fail) | skip
   go_ret2
   exact ⟨rfl,(by repeat (first | exact Below.refl _ _ | assumption | refine below_drewN ?_ _ | refine Below.drew ?_ | refine Below.alloc ?_ (by first | exact Nat.le_refl _ | (simp;done) | (simp;omega) | omega) _ | refine Below.setCell ?_ (by first | exact Nat.le_refl _ | (simp;done) | (simp;omega) | omega) _ | refine Below.trans ?_ (Below.mono (by assumption) (by first | exact Nat.le_refl _ | (simp;done) | (simp;omega) | omega))))⟩
 ·clear hop
  have Hb:Hid (zce 6 l h l' h'=(bmax l l',top)):=rfl
  rw [Hb.out]
  by_cases h1:nv l<nv l'
  ·have e1:Hid (bmax l l'=l'):=if_pos h1
   rw [e1.out]
   go_enter Tryz.func183,Tryz.ntmps183
   go_wp2_with fail
   go_ret2
   exact ⟨rfl,(by repeat (first | exact Below.refl _ _ | assumption | refine below_drewN ?_ _ | refine Below.drew ?_ | refine Below.alloc ?_ (by first | exact Nat.le_refl _ | (simp;done) | (simp;omega) | omega) _ | refine Below.setCell ?_ (by first | exact Nat.le_refl _ | (simp;done) | (simp;omega) | omega) _ | refine Below.trans ?_ (Below.mono (by assumption) (by first | exact Nat.le_refl _ | (simp;done) | (simp;omega) | omega))))⟩
  ·have e1:Hid (bmax l l'=l):=if_neg h1
   have h1':nv l'≤nv l:=by omega
   clear h1
   rw [e1.out]
   go_enter Tryz.func183,Tryz.ntmps183
   go_wp2_with fail
   go_ret2
   exact ⟨rfl,(by repeat (first | exact Below.refl _ _ | assumption | refine below_drewN ?_ _ | refine Below.drew ?_ | refine Below.alloc ?_ (by first | exact Nat.le_refl _ | (simp;done) | (simp;omega) | omega) _ | refine Below.setCell ?_ (by first | exact Nat.le_refl _ | (simp;done) | (simp;omega) | omega) _ | refine Below.trans ?_ (Below.mono (by assumption) (by first | exact Nat.le_refl _ | (simp;done) | (simp;omega) | omega))))⟩
 ·clear hop
  go_enter Tryz.func183,Tryz.ntmps183
  go_wp2_with fail
  go_ret2
  exact ⟨rfl,(by repeat (first | exact Below.refl _ _ | assumption | refine below_drewN ?_ _ | refine Below.drew ?_ | refine Below.alloc ?_ (by first | exact Nat.le_refl _ | (simp;done) | (simp;omega) | omega) _ | refine Below.setCell ?_ (by first | exact Nat.le_refl _ | (simp;done) | (simp;omega) | omega) _ | refine Below.trans ?_ (Below.mono (by assumption) (by first | exact Nat.le_refl _ | (simp;done) | (simp;omega) | omega))))⟩
end
section
attribute [local go_sem] zc9 w_or zdb za3 zbw zbc zc7 zcy zc8 zbz zb1 zc2 zb0 zda zcn zcz zb2 zby zbx zb3 za1
set_option maxRecDepth 100000 in
set_option maxHeartbeats 1000000 in
theorem zyc {v m l g v' m' l' g':BitVec 64} (ha:Hid (eqb l' g'=false)) (w:World) :
  Calls Tryz.prog 181 #[N 8,Vl v m l g,Vl v' m' l' g'] w fun e w'=>e=.returned (Vl zero top zero top)∧Below w.heap.size w w':=by
 go_enter Tryz.func181,Tryz.ntmps181
 go_wp2_with fail
 refine (zd9 ha.out _).mono ?_
 rintro e w1 ⟨rfl,hb1⟩
 have hK:=((((Kp.start w).add4 _ _ _ _ _).add4 _ _ _ _ _).add4 _ _ _ _ _).keep hb1
 simp only [World.size_alloc] at hK
 obtain ⟨r0,r1,r2,r3,r4,r5,r6,r7,r8⟩:=hK.box.head.four
 obtain ⟨b0,b1,b2,b3,b4,b5,b6,b7,b8⟩:=hK.box.tail.head.four
 obtain ⟨a0,a1,a2,a3,a4,a5,a6,a7,a8⟩:=hK.box.tail.tail.head.four
 go_wp2_with fail
 exact bodyPost_ret (v:=Vl zero top zero top) (by simp [results,Tryz.results181,go_sem,za4,zmi,r0,r1,r2,r3]) rfl ⟨rfl,(hK.set4 0 rfl).bel⟩
set_option maxRecDepth 100000 in
set_option maxHeartbeats 1000000 in
theorem zwy {v m l g v' m' l' g':BitVec 64} (ha:Hid (eqb l' g'=false)) (w:World) :
  Calls Tryz.prog 181 #[N 9,Vl v m l g,Vl v' m' l' g'] w fun e w'=>e=.returned (Vl zero top zero g)∧Below w.heap.size w w':=by
 go_enter Tryz.func181,Tryz.ntmps181
 go_wp2_with fail
 refine (zd9 ha.out _).mono ?_
 rintro e w1 ⟨rfl,hb1⟩
 have hK:=((((Kp.start w).add4 _ _ _ _ _).add4 _ _ _ _ _).add4 _ _ _ _ _).keep hb1
 simp only [World.size_alloc] at hK
 obtain ⟨r0,r1,r2,r3,r4,r5,r6,r7,r8⟩:=hK.box.head.four
 obtain ⟨b0,b1,b2,b3,b4,b5,b6,b7,b8⟩:=hK.box.tail.head.four
 obtain ⟨a0,a1,a2,a3,a4,a5,a6,a7,a8⟩:=hK.box.tail.tail.head.four
 go_wp2_with fail
 exact bodyPost_ret (v:=Vl zero top zero g) (by simp [results,Tryz.results181,go_sem,za4,zmi,r0,r1,r2,r3]) rfl ⟨rfl,(hK.set4 0 rfl).bel⟩
set_option maxRecDepth 100000 in
set_option maxHeartbeats 1000000 in
theorem yagd {v m l h v' m' l' h':BitVec 64} (hr:Hid (eqb (band v m) zero=true)) (ha:Hid (eqb l' h'=true)) (w:World) :
  Calls Tryz.prog 181 #[N 8,Vl v m l h,Vl v' m' l' h'] w fun e w'=>e=.returned (Vl (bshl v (six l')) (bshl m (six l')) (shlB l h (six l')).1 (shlB l h (six l')).2)∧Below w.heap.size w w':=by
 have h6:=zul l'
 have h7:=zme l'
 have HS:Hid (∀ w,Calls Tryz.prog 200 #[N 8,Bt v m,N (six l')] w fun e w'=>e=.returned (.tuple #[Bt (bshl v (six l')) (bshl m (six l')),N 0])∧Below w.heap.size w w'):=fun w=>yaot hr h7 w
 have HB:Hid (∀ w,Calls Tryz.prog 201 #[N 8,Vl v m l h,U (band l' 63#64)] w fun e w'=>e=.returned (.tuple #[U (shlB l h (six l')).1,U (shlB l h (six l')).2])∧Below w.heap.size w w'):=fun w=>znc v m l h l' w
 generalize shlB l h (six l')=S at HB ⊢
 obtain ⟨lo,hi⟩:=S
 generalize bshl v (six l')=sv at HS ⊢
 generalize bshl m (six l')=sm at HS ⊢
 go_enter Tryz.func181,Tryz.ntmps181
 go_wp2_with fail
 refine (zd9 ha.out _).mono ?_
 rintro e w1 ⟨rfl,hb1⟩
 have hK:=((((Kp.start w).add4 _ _ _ _ _).add4 _ _ _ _ _).add4 _ _ _ _ _).keep hb1
 simp only [World.size_alloc] at hK
 obtain ⟨r0,r1,r2,r3,r4,r5,r6,r7,r8⟩:=hK.box.head.four
 obtain ⟨b0,b1,b2,b3,b4,b5,b6,b7,b8⟩:=hK.box.tail.head.four
 obtain ⟨a0,a1,a2,a3,a4,a5,a6,a7,a8⟩:=hK.box.tail.tail.head.four
 go_wp2_with fail
 refine (HS.out _).mono ?_
 rintro e w2 ⟨rfl,hb2⟩
 have hK2:=hK.keep hb2
 clear r0 r1 r2 r3 r4 r5 r6 r7 r8 b0 b1 b2 b3 b4 b5 b6 b7 b8 a0 a1 a2 a3 a4 a5 a6 a7 a8
 obtain ⟨r0,r1,r2,r3,r4,r5,r6,r7,r8⟩:=hK2.box.head.four
 obtain ⟨b0,b1,b2,b3,b4,b5,b6,b7,b8⟩:=hK2.box.tail.head.four
 obtain ⟨a0,a1,a2,a3,a4,a5,a6,a7,a8⟩:=hK2.box.tail.tail.head.four
 go_wp2_with fail
 refine (HB.out _).mono ?_
 rintro e w3 ⟨rfl,hb3⟩
 have hK3:=(hK2.add2 _ _ _).keep hb3
 clear r0 r1 r2 r3 r4 r5 r6 r7 r8 b0 b1 b2 b3 b4 b5 b6 b7 b8 a0 a1 a2 a3 a4 a5 a6 a7 a8
 obtain ⟨s0,s1,s2,s3,s4⟩:=hK3.box.head.two
 obtain ⟨r0,r1,r2,r3,r4,r5,r6,r7,r8⟩:=hK3.box.tail.head.four
 obtain ⟨b0,b1,b2,b3,b4,b5,b6,b7,b8⟩:=hK3.box.tail.tail.head.four
 obtain ⟨a0,a1,a2,a3,a4,a5,a6,a7,a8⟩:=hK3.box.tail.tail.tail.head.four
 go_wp2_with fail
 exact bodyPost_ret (v:=Vl sv sm lo hi) (by simp [results,Tryz.results181,go_sem,r0,r1,r2,r3]) rfl ⟨rfl,(hK3.set4 1 rfl).bel⟩
set_option maxRecDepth 100000 in
set_option maxHeartbeats 1000000 in
theorem yaeq {v m l h v' m' l' h':BitVec 64} (hr:Hid (eqb (band v m) zero=true)) (ha:Hid (eqb l' h'=true)) (w:World) :
  Calls Tryz.prog 181 #[N 9,Vl v m l h,Vl v' m' l' h'] w fun e w'=>e=.returned (Vl (bshr v (six l')) (bshr m (six l')) (bshr l (six l')) (bshr h (six l')))∧Below w.heap.size w w':=by
 have h6:=zul l'
 have h7:=zme l'
 have HS:Hid (∀ w,Calls Tryz.prog 200 #[N 9,Bt v m,N (six l')] w fun e w'=>e=.returned (.tuple #[Bt (bshr v (six l')) (bshr m (six l')),N 0])∧Below w.heap.size w w'):=fun w=>yaek hr h7 w
 have HB:Hid (∀ w,Calls Tryz.prog 201 #[N 9,Vl v m l h,U (band l' 63#64)] w fun e w'=>e=.returned (.tuple #[U (bshr l (six l')),U (bshr h (six l'))])∧Below w.heap.size w w'):=fun w=>zmv v m l h l' w
 generalize bshr l (six l')=lo at HB ⊢
 generalize bshr h (six l')=hi at HB ⊢
 generalize bshr v (six l')=sv at HS ⊢
 generalize bshr m (six l')=sm at HS ⊢
 go_enter Tryz.func181,Tryz.ntmps181
 go_wp2_with fail
 refine (zd9 ha.out _).mono ?_
 rintro e w1 ⟨rfl,hb1⟩
 have hK:=((((Kp.start w).add4 _ _ _ _ _).add4 _ _ _ _ _).add4 _ _ _ _ _).keep hb1
 simp only [World.size_alloc] at hK
 obtain ⟨r0,r1,r2,r3,r4,r5,r6,r7,r8⟩:=hK.box.head.four
 obtain ⟨b0,b1,b2,b3,b4,b5,b6,b7,b8⟩:=hK.box.tail.head.four
 obtain ⟨a0,a1,a2,a3,a4,a5,a6,a7,a8⟩:=hK.box.tail.tail.head.four
 go_wp2_with fail
 refine (HS.out _).mono ?_
 rintro e w2 ⟨rfl,hb2⟩
 have hK2:=hK.keep hb2
 clear r0 r1 r2 r3 r4 r5 r6 r7 r8 b0 b1 b2 b3 b4 b5 b6 b7 b8 a0 a1 a2 a3 a4 a5 a6 a7 a8
 obtain ⟨r0,r1,r2,r3,r4,r5,r6,r7,r8⟩:=hK2.box.head.four
 obtain ⟨b0,b1,b2,b3,b4,b5,b6,b7,b8⟩:=hK2.box.tail.head.four
 obtain ⟨a0,a1,a2,a3,a4,a5,a6,a7,a8⟩:=hK2.box.tail.tail.head.four
 go_wp2_with fail
 refine (HB.out _).mono ?_
 rintro e w3 ⟨rfl,hb3⟩
 have hK3:=(hK2.add2 _ _ _).keep hb3
 clear r0 r1 r2 r3 r4 r5 r6 r7 r8 b0 b1 b2 b3 b4 b5 b6 b7 b8 a0 a1 a2 a3 a4 a5 a6 a7 a8
 obtain ⟨s0,s1,s2,s3,s4⟩:=hK3.box.head.two
 obtain ⟨r0,r1,r2,r3,r4,r5,r6,r7,r8⟩:=hK3.box.tail.head.four
 obtain ⟨b0,b1,b2,b3,b4,b5,b6,b7,b8⟩:=hK3.box.tail.tail.head.four
 obtain ⟨a0,a1,a2,a3,a4,a5,a6,a7,a8⟩:=hK3.box.tail.tail.tail.head.four
 go_wp2_with fail
 exact bodyPost_ret (v:=Vl sv sm lo hi) (by simp [results,Tryz.results181,go_sem,r0,r1,r2,r3]) rfl ⟨rfl,(hK3.set4 1 rfl).bel⟩
end
section
attribute [local go_sem] zc9 w_or zdb za3 zbw zbc zc7 zcy zc8 zbz zb1 zc2 zb0 zda zcn zcz zb2 zby zbx zb3 za1
def rk (op:Int) (v m l h v' m' l' h':BitVec 64):BitVec 64×BitVec 64×BitVec 64×BitVec 64 :=
 if op=8 then (if eqb l' h' then (bshl v (six l'),bshl m (six l'),(shlB l h (six l')).1,(shlB l h (six l')).2) else (zero,top,zero,top))
 else if op=9 then (if eqb l' h' then (bshr v (six l'),bshr m (six l'),bshr l (six l'),bshr h (six l')) else (zero,top,zero,h))
 else ((twoP op v m v' m').1,(twoP op v m v' m').2,(zce op l h l' h').1,(zce op l h l' h').2)
theorem yaoh {op:Int} (hop:op=8∨op=9) {v m l h:BitVec 64} (v' m' l' h':BitVec 64) (hr:Hid (eqb (band v m) zero=true)) (w:World) :
  Calls Tryz.prog 181 #[N op,Vl v m l h,Vl v' m' l' h'] w fun e w'=>e=.returned (Vl (rk op v m l h v' m' l' h').1 (rk op v m l h v' m' l' h').2.1 (rk op v m l h v' m' l' h').2.2.1 (rk op v m l h v' m' l' h').2.2.2)∧Below w.heap.size w w':=by
 rcases hop with rfl | rfl
 ·cases ha:eqb l' h'
  ·have e:rk 8 v m l h v' m' l' h'=(zero,top,zero,top):=by unfold rk;rw [if_pos rfl,ha];rfl
   rw [e];exact zyc ha w
  ·have e:rk 8 v m l h v' m' l' h'=(bshl v (six l'),bshl m (six l'),(shlB l h (six l')).1,(shlB l h (six l')).2):=by unfold rk;rw [if_pos rfl,ha];rfl
   rw [e];exact yagd hr ha w
 ·cases ha:eqb l' h'
  ·have e:rk 9 v m l h v' m' l' h'=(zero,top,zero,h):=by unfold rk;rw [if_neg (by decide),if_pos rfl,ha];rfl
   rw [e];exact zwy ha w
  ·have e:rk 9 v m l h v' m' l' h'=(bshr v (six l'),bshr m (six l'),bshr l (six l'),bshr h (six l')):=by unfold rk;rw [if_neg (by decide),if_pos rfl,ha];rfl
   rw [e];exact yaeq hr ha w
set_option maxRecDepth 100000 in
set_option maxHeartbeats 1000000 in
theorem zku {op:Int} (hop:op=8∨op=9) {v m l g:BitVec 64} (v' m' l' g':BitVec 64) (hr:Hid (eqb (band v m) zero=true)) (w:World) :
  Calls Tryz.prog 155 #[N op,Vl v m l g,Vl v' m' l' g'] w fun e w'=>e=.returned (.tuple #[Vl (rk op v m l g v' m' l' g').1 (rk op v m l g v' m' l' g').2.1 (rk op v m l g v' m' l' g').2.2.1 (rk op v m l g v' m' l' g').2.2.2,N 0])∧Below w.heap.size w w':=by
 have HS:Hid (∀ w,Calls Tryz.prog 181 #[N op,Vl v m l g,Vl v' m' l' g'] w fun e w'=>e=.returned (Vl (rk op v m l g v' m' l' g').1 (rk op v m l g v' m' l' g').2.1 (rk op v m l g v' m' l' g').2.2.1 (rk op v m l g v' m' l' g').2.2.2)∧Below w.heap.size w w'):=fun w=>yaoh hop v' m' l' g' hr w
 generalize rk op v m l g v' m' l' g'=S at HS ⊢
 obtain ⟨sa,sb,sc,sd⟩:=S
 rcases hop with rfl | rfl
 all_goals
  go_enter Tryz.func155,Tryz.ntmps155
  go_wp2_with fail
  refine (HS.out _).mono ?_
  rintro e w1 ⟨rfl,hb1⟩
  have hK:=((((Kp.start w).add4 _ _ _ _ _).add4 _ _ _ _ _).add4 _ _ _ _ _).keep hb1
  simp only [World.size_alloc] at hK
  obtain ⟨r0,r1,r2,r3,r4,r5,r6,r7,r8⟩:=hK.box.head.four
  obtain ⟨b0,b1,b2,b3,b4,b5,b6,b7,b8⟩:=hK.box.tail.head.four
  obtain ⟨a0,a1,a2,a3,a4,a5,a6,a7,a8⟩:=hK.box.tail.tail.head.four
  go_wp2_with fail
  exact bodyPost_ret (v:=.tuple #[Vl sa sb sc sd,N 0]) (by simp [results,Tryz.results155,go_sem,r0,r1,r2,r3]) rfl ⟨rfl,(hK.set4 0 rfl).bel⟩
set_option maxRecDepth 100000 in
set_option maxHeartbeats 1000000 in
theorem zpr {op:Int} (hop:Hid (2≤op∧op≤7)) {v m l g v' m' l' g':BitVec 64} (hr:Hid ((eqb (band v m) zero&&eqb (band v' m') zero)=true)) (w:World) :
  Calls Tryz.prog 155 #[N op,Vl v m l g,Vl v' m' l' g'] w fun e w'=>e=.returned (.tuple #[Vl (rk op v m l g v' m' l' g').1 (rk op v m l g v' m' l' g').2.1 (rk op v m l g v' m' l' g').2.2.1 (rk op v m l g v' m' l' g').2.2.2,N 0])∧Below w.heap.size w w':=by
 have h8:(op==8)=false:=by have:=hop.out;simp;omega
 have h9:(op==9)=false:=by have:=hop.out;simp;omega
 have Hk:Hid (rk op v m l g v' m' l' g'=((twoP op v m v' m').1,(twoP op v m v' m').2,(zce op l g l' g').1,(zce op l g l' g').2)):=by
  show _=_
  unfold rk;rw [if_neg (by have:=hop.out;omega),if_neg (by have:=hop.out;omega)]
 rw [Hk.out]
 have HT:Hid (∀ w,Calls Tryz.prog 182 #[N op,Bt v m,Bt v' m'] w fun e w'=>e=.returned (.tuple #[Bt (twoP op v m v' m').1 (twoP op v m v' m').2,N 0])∧Below w.heap.size w w'):=fun w=>two_ok hr hop.out w
 have HB:Hid (∀ w,Calls Tryz.prog 183 #[N op,Vl v m l g,Vl v' m' l' g'] w fun e w'=>e=.returned (.tuple #[U (zce op l g l' g').1,U (zce op l g l' g').2])∧Below w.heap.size w w'):=fun w=>yafy hop v m l g v' m' l' g' w
 clear Hk
 generalize twoP op v m v' m'=T at HT ⊢
 generalize zce op l g l' g'=B at HB ⊢
 obtain ⟨ta,tb⟩:=T
 obtain ⟨ba,bb⟩:=B
 go_enter Tryz.func155,Tryz.ntmps155
 go_wp2_with fail
 refine (HT.out _).mono ?_
 rintro e w1 ⟨rfl,hb1⟩
 have hK:=((((Kp.start w).add4 _ _ _ _ _).add4 _ _ _ _ _).add4 _ _ _ _ _).keep hb1
 simp only [World.size_alloc] at hK
 obtain ⟨r0,r1,r2,r3,r4,r5,r6,r7,r8⟩:=hK.box.head.four
 obtain ⟨b0,b1,b2,b3,b4,b5,b6,b7,b8⟩:=hK.box.tail.head.four
 obtain ⟨a0,a1,a2,a3,a4,a5,a6,a7,a8⟩:=hK.box.tail.tail.head.four
 go_wp2_with fail
 refine (HB.out _).mono ?_
 rintro e w2 ⟨rfl,hb2⟩
 have hK2:=(hK.add2 _ _ _).keep hb2
 clear r0 r1 r2 r3 r4 r5 r6 r7 r8 b0 b1 b2 b3 b4 b5 b6 b7 b8 a0 a1 a2 a3 a4 a5 a6 a7 a8
 obtain ⟨k0,k1,k2,k3,k4⟩:=hK2.box.head.two
 obtain ⟨r0,r1,r2,r3,r4,r5,r6,r7,r8⟩:=hK2.box.tail.head.four
 obtain ⟨b0,b1,b2,b3,b4,b5,b6,b7,b8⟩:=hK2.box.tail.tail.head.four
 obtain ⟨a0,a1,a2,a3,a4,a5,a6,a7,a8⟩:=hK2.box.tail.tail.tail.head.four
 go_wp2_with fail
 exact bodyPost_ret (v:=.tuple #[Vl ta tb ba bb,N 0]) (by simp [results,Tryz.results155,go_sem,r0,r1,r2,r3]) rfl ⟨rfl,(hK2.set4 1 rfl).bel⟩
end
section
attribute [local go_sem] zc9 w_or zdb za3 zbw zbc zc7 zcy zc8 zbz zb1 zc2 zb0 zda zcn zcz zb2 zby zbx zb3 za1
set_option maxRecDepth 100000 in
set_option maxHeartbeats 1000000 in
theorem zj7 {v m l g v' m' l' g':BitVec 64} {r1 r2:Bool} (h1:Hid (valB v m l g=r1)) (h2:Hid (valB v' m' l' g'=r2)) {b c:Nat} {w:World} (hbw:b<w.heap.size)
  (c0:w.cell? ⟨b,0,none⟩=some (U v)) (c1:w.cell? ⟨b,1,none⟩=some (U m)) (c2:w.cell? ⟨b,2,none⟩=some (U l)) (c3:w.cell? ⟨b,3,none⟩=some (U g))
  (c4:w.cell? ⟨b,4,none⟩=some (U v')) (c5:w.cell? ⟨b,5,none⟩=some (U m')) (c6:w.cell? ⟨b,6,none⟩=some (U l')) (c7:w.cell? ⟨b,7,none⟩=some (U g')) :
  Calls Tryz.prog 154 #[.slice (some ⟨b,0,none⟩) 2 c] w fun e w'=>e=.returned (N (er (r1&&r2)))∧Below w.heap.size w w':=by
 go_enter Tryz.func154,Tryz.ntmps154
 go_wp2_with fail
 refine wp_loop_rounds 3 ?_
 rw [rounds_succ]
 go_wp2_with fail
 refine (yaaj h1.out _).mono ?_
 rintro e w1 ⟨rfl,hb1⟩
 obtain ⟨hc1,hf1,hs1⟩:=bk (b+1) hb1 (by simp;omega)
 cases r1
 ·rw [er_f]
  go_wp2_with fail
  go_ret
  exact ⟨rfl,(by repeat (first | exact Below.refl _ _ | assumption | refine below_drewN ?_ _ | refine Below.drew ?_ | refine Below.alloc ?_ (by first | exact Nat.le_refl _ | (simp;done) | (simp;omega) | omega) _ | refine Below.setCell ?_ (by first | exact Nat.le_refl _ | (simp;done) | (simp;omega) | omega) _ | refine Below.trans ?_ (Below.mono (by assumption) (by first | exact Nat.le_refl _ | (simp;done) | (simp;omega) | omega))))⟩
 ·rw [er_t]
  go_wp2_with fail
  rw [rounds_succ]
  go_wp2_with fail
  refine (yaaj h2.out _).mono ?_
  rintro e w2 ⟨rfl,hb2⟩
  have hz1:w.heap.size≤w1.heap.size:=Nat.le_trans (by simp) hb1.size
  cases r2
  ·rw [er_f]
   go_wp2_with fail
   go_ret
   exact ⟨rfl,(by repeat (first | exact Below.refl _ _ | assumption | refine below_drewN ?_ _ | refine Below.drew ?_ | refine Below.alloc ?_ (by first | exact Nat.le_refl _ | (simp;done) | (simp;omega) | omega) _ | refine Below.setCell ?_ (by first | exact Nat.le_refl _ | (simp;done) | (simp;omega) | omega) _ | refine Below.trans ?_ (Below.mono (by assumption) (by first | exact Nat.le_refl _ | (simp;done) | (simp;omega) | omega))))⟩
  ·rw [er_t]
   go_wp2_with fail
   rw [rounds_succ]
   go_wp2_with fail
   go_ret
   exact ⟨rfl,(by repeat (first | exact Below.refl _ _ | assumption | refine below_drewN ?_ _ | refine Below.drew ?_ | refine Below.alloc ?_ (by first | exact Nat.le_refl _ | (simp;done) | (simp;omega) | omega) _ | refine Below.setCell ?_ (by first | exact Nat.le_refl _ | (simp;done) | (simp;omega) | omega) _ | refine Below.trans ?_ (Below.mono (by assumption) (by first | exact Nat.le_refl _ | (simp;done) | (simp;omega) | omega))))⟩
theorem zoo {v m l g v' m' l' g':BitVec 64} (hr:(valB v m l g&&valB v' m' l' g')=true):(eqb (band v m) zero&&eqb (band v' m') zero)=true:=by
 rw [Bool.and_eq_true] at hr
 rw [(zeb _ _).2 (zbe hr.1).1,(zeb _ _).2 (zbe hr.2).1];rfl
set_option maxRecDepth 100000 in
set_option maxHeartbeats 1000000 in
theorem zv8 {op:Int}  {v m l g v' m' l' g':BitVec 64} (hr:Hid ((valB v m l g&&valB v' m' l' g')=true)) (hop:Hid (2≤op∧op≤9)) (hrr:Hid (eqb (band (rk op v m l g v' m' l' g').1 (rk op v m l g v' m' l' g').2.1) zero=true)) (ho:Hid (zc6 (rk op v m l g v' m' l' g').1 (rk op v m l g v' m' l' g').2.1 (rk op v m l g v' m' l' g').2.2.1 (rk op v m l g v' m' l' g').2.2.2=false)) (w:World) :
  Calls Tryz.prog 108 #[N op,Vl v m l g,Vl v' m' l' g'] w fun e w'=>e=.returned (.tuple #[V0,N 0])∧Below w.heap.size w w':=by
 obtain ⟨z1,H1⟩:∃ b,Hid (valB v m l g=b):=⟨_,rfl⟩
 obtain ⟨z2,H2⟩:∃ b,Hid (valB v' m' l' g'=b):=⟨_,rfl⟩
 have hb:=zoo hr.out
 have hb':=hb
 rw [Bool.and_eq_true] at hb'
 have HR:Hid (∀ w,Calls Tryz.prog 155 #[N op,Vl v m l g,Vl v' m' l' g'] w fun e w'=>e=.returned (.tuple #[Vl (rk op v m l g v' m' l' g').1 (rk op v m l g v' m' l' g').2.1 (rk op v m l g v' m' l' g').2.2.1 (rk op v m l g v' m' l' g').2.2.2,N 0])∧Below w.heap.size w w'):=fun w=>by
  by_cases h:op=8∨op=9
  ·exact zku h v' m' l' g' hb'.1 w
  ·exact zpr (hid (by have:=hop.out;omega)) hb w
 clear hb hb' hop
 generalize rk op v m l g v' m' l' g'=S at HR hrr ho ⊢
 obtain ⟨sa,sb,sc,sd⟩:=S
 dsimp only at HR hrr ho ⊢
 have HN:Hid (∀ w,Calls Tryz.prog 156 #[Vl sa sb sc sd] w fun e w'=>e=.returned (.tuple #[V0,.bool false,N 0])∧Below w.heap.size w w'):=fun w=>zvo hrr ho w
 rw [H1.out,H2.out] at hr
 go_enter Tryz.func108,Tryz.ntmps108
 go_wp2_with fail
 refine (zj7 H1 H2 (by simp) (by simp [go_sem]) (by simp [go_sem]) (by simp [go_sem]) (by simp [go_sem]) (by simp [go_sem]) (by simp [go_sem]) (by simp [go_sem]) (by simp [go_sem])).mono ?_
 rw [hr.out,er_t]
 rintro e w1 ⟨rfl,hb1⟩
 have hK:=(((((Kp.start w).add4 _ _ _ _ _).add4 _ _ _ _ _).add4 _ _ _ _ _).keep ((Below.refl _ _).alloc (Nat.le_refl _) _)).keep hb1
 simp only [World.size_alloc] at hK
 obtain ⟨r0,r1,r2,r3,r4,r5,r6,r7,r8⟩:=hK.box.head.four
 obtain ⟨b0,b1,b2,b3,b4,b5,b6,b7,b8⟩:=hK.box.tail.head.four
 obtain ⟨a0,a1,a2,a3,a4,a5,a6,a7,a8⟩:=hK.box.tail.tail.head.four
 go_wp2_with fail
 refine (HR.out _).mono ?_
 rintro e w2 ⟨rfl,hb2⟩
 have hK2:=hK.keep hb2
 clear r0 r1 r2 r3 r4 r5 r6 r7 r8 b0 b1 b2 b3 b4 b5 b6 b7 b8 a0 a1 a2 a3 a4 a5 a6 a7 a8
 obtain ⟨r0,r1,r2,r3,r4,r5,r6,r7,r8⟩:=hK2.box.head.four
 obtain ⟨b0,b1,b2,b3,b4,b5,b6,b7,b8⟩:=hK2.box.tail.head.four
 obtain ⟨a0,a1,a2,a3,a4,a5,a6,a7,a8⟩:=hK2.box.tail.tail.head.four
 go_wp2_with fail
 refine (HN.out _).mono ?_
 rintro e w3 ⟨rfl,hb3⟩
 have hK3:=(hK2.add4 _ _ _ _ _).keep hb3
 clear r0 r1 r2 r3 r4 r5 r6 r7 r8 b0 b1 b2 b3 b4 b5 b6 b7 b8 a0 a1 a2 a3 a4 a5 a6 a7 a8
 obtain ⟨k0,k1,k2,k3,k4,k5,k6,k7,k8⟩:=hK3.box.head.four
 obtain ⟨r0,r1,r2,r3,r4,r5,r6,r7,r8⟩:=hK3.box.tail.head.four
 obtain ⟨b0,b1,b2,b3,b4,b5,b6,b7,b8⟩:=hK3.box.tail.tail.head.four
 obtain ⟨a0,a1,a2,a3,a4,a5,a6,a7,a8⟩:=hK3.box.tail.tail.tail.head.four
 go_wp2_with fail
 exact bodyPost_ret (v:=.tuple #[V0,N 0]) (by simp [results,Tryz.results108,go_sem,za4,r0,r1,r2,r3,r8]) rfl ⟨rfl,((hK3.set4 1 rfl).add4 _ _ _ _ _).bel⟩
set_option maxRecDepth 100000 in
set_option maxHeartbeats 1000000 in
theorem zwp {op:Int}  {v m l g v' m' l' g':BitVec 64} (hr:Hid ((valB v m l g&&valB v' m' l' g')=true)) (hop:Hid (2≤op∧op≤9)) (hrr:Hid (eqb (band (rk op v m l g v' m' l' g').1 (rk op v m l g v' m' l' g').2.1) zero=true)) (ho:Hid (zc6 (rk op v m l g v' m' l' g').1 (rk op v m l g v' m' l' g').2.1 (rk op v m l g v' m' l' g').2.2.1 (rk op v m l g v' m' l' g').2.2.2=true)) (w:World) :
  Calls Tryz.prog 108 #[N op,Vl v m l g,Vl v' m' l' g'] w fun e w'=>e=.returned (.tuple #[Vl (nV (rk op v m l g v' m' l' g').1 (rk op v m l g v' m' l' g').2.1 (rk op v m l g v' m' l' g').2.2.1 (rk op v m l g v' m' l' g').2.2.2) (nM (rk op v m l g v' m' l' g').2.1 (nLo (rk op v m l g v' m' l' g').1 (rk op v m l g v' m' l' g').2.1 (rk op v m l g v' m' l' g').2.2.1) (nHi (rk op v m l g v' m' l' g').1 (rk op v m l g v' m' l' g').2.1 (rk op v m l g v' m' l' g').2.2.2)) (nLo (rk op v m l g v' m' l' g').1 (rk op v m l g v' m' l' g').2.1 (rk op v m l g v' m' l' g').2.2.1) (nHi (rk op v m l g v' m' l' g').1 (rk op v m l g v' m' l' g').2.1 (rk op v m l g v' m' l' g').2.2.2),N 0])∧Below w.heap.size w w':=by
 obtain ⟨z1,H1⟩:∃ b,Hid (valB v m l g=b):=⟨_,rfl⟩
 obtain ⟨z2,H2⟩:∃ b,Hid (valB v' m' l' g'=b):=⟨_,rfl⟩
 have hb:=zoo hr.out
 have hb':=hb
 rw [Bool.and_eq_true] at hb'
 have HR:Hid (∀ w,Calls Tryz.prog 155 #[N op,Vl v m l g,Vl v' m' l' g'] w fun e w'=>e=.returned (.tuple #[Vl (rk op v m l g v' m' l' g').1 (rk op v m l g v' m' l' g').2.1 (rk op v m l g v' m' l' g').2.2.1 (rk op v m l g v' m' l' g').2.2.2,N 0])∧Below w.heap.size w w'):=fun w=>by
  by_cases h:op=8∨op=9
  ·exact zku h v' m' l' g' hb'.1 w
  ·exact zpr (hid (by have:=hop.out;omega)) hb w
 clear hb hb' hop
 generalize rk op v m l g v' m' l' g'=S at HR hrr ho ⊢
 obtain ⟨sa,sb,sc,sd⟩:=S
 dsimp only at HR hrr ho ⊢
 have HN:Hid (∀ w,Calls Tryz.prog 156 #[Vl sa sb sc sd] w fun e w'=>e=.returned (.tuple #[Vl (nV sa sb sc sd) (nM sb (nLo sa sb sc) (nHi sa sb sd)) (nLo sa sb sc) (nHi sa sb sd),.bool true,N 0])∧Below w.heap.size w w'):=fun w=>zra hrr ho w
 generalize nV sa sb sc sd=na at HN ⊢
 generalize nM sb (nLo sa sb sc) (nHi sa sb sd)=nb at HN ⊢
 generalize nLo sa sb sc=nc at HN ⊢
 generalize nHi sa sb sd=nd at HN ⊢
 rw [H1.out,H2.out] at hr
 go_enter Tryz.func108,Tryz.ntmps108
 go_wp2_with fail
 refine (zj7 H1 H2 (by simp) (by simp [go_sem]) (by simp [go_sem]) (by simp [go_sem]) (by simp [go_sem]) (by simp [go_sem]) (by simp [go_sem]) (by simp [go_sem]) (by simp [go_sem])).mono ?_
 rw [hr.out,er_t]
 rintro e w1 ⟨rfl,hb1⟩
 have hK:=(((((Kp.start w).add4 _ _ _ _ _).add4 _ _ _ _ _).add4 _ _ _ _ _).keep ((Below.refl _ _).alloc (Nat.le_refl _) _)).keep hb1
 simp only [World.size_alloc] at hK
 obtain ⟨r0,r1,r2,r3,r4,r5,r6,r7,r8⟩:=hK.box.head.four
 obtain ⟨b0,b1,b2,b3,b4,b5,b6,b7,b8⟩:=hK.box.tail.head.four
 obtain ⟨a0,a1,a2,a3,a4,a5,a6,a7,a8⟩:=hK.box.tail.tail.head.four
 go_wp2_with fail
 refine (HR.out _).mono ?_
 rintro e w2 ⟨rfl,hb2⟩
 have hK2:=hK.keep hb2
 clear r0 r1 r2 r3 r4 r5 r6 r7 r8 b0 b1 b2 b3 b4 b5 b6 b7 b8 a0 a1 a2 a3 a4 a5 a6 a7 a8
 obtain ⟨r0,r1,r2,r3,r4,r5,r6,r7,r8⟩:=hK2.box.head.four
 obtain ⟨b0,b1,b2,b3,b4,b5,b6,b7,b8⟩:=hK2.box.tail.head.four
 obtain ⟨a0,a1,a2,a3,a4,a5,a6,a7,a8⟩:=hK2.box.tail.tail.head.four
 go_wp2_with fail
 refine (HN.out _).mono ?_
 rintro e w3 ⟨rfl,hb3⟩
 have hK3:=(hK2.add4 _ _ _ _ _).keep hb3
 clear r0 r1 r2 r3 r4 r5 r6 r7 r8 b0 b1 b2 b3 b4 b5 b6 b7 b8 a0 a1 a2 a3 a4 a5 a6 a7 a8
 obtain ⟨k0,k1,k2,k3,k4,k5,k6,k7,k8⟩:=hK3.box.head.four
 obtain ⟨r0,r1,r2,r3,r4,r5,r6,r7,r8⟩:=hK3.box.tail.head.four
 obtain ⟨b0,b1,b2,b3,b4,b5,b6,b7,b8⟩:=hK3.box.tail.tail.head.four
 obtain ⟨a0,a1,a2,a3,a4,a5,a6,a7,a8⟩:=hK3.box.tail.tail.tail.head.four
 go_wp2_with fail
 exact bodyPost_ret (v:=.tuple #[Vl na nb nc nd,N 0]) (by simp [results,Tryz.results108,go_sem,r0,r1,r2,r3,r8]) rfl ⟨rfl,((hK3.set4 1 rfl).add4 _ _ _ _ _).bel⟩
end
section
attribute [local go_sem] zc9 w_or zdb za3 zbw zbc zc7 zcy zc8 zbz zb1 zc2 zb0 zda zcn zcz zb2 zby zbx zb3 za1
set_option maxRecDepth 100000 in
set_option maxHeartbeats 1000000 in
theorem zmc (v m l g lo hi:BitVec 64) (w:World) :
  Calls Tryz.prog 152 #[Vl v m l g,U lo,U hi] w fun e w'=>e=.returned (Vl v m (bmax l lo) (bmin g hi))∧Below w.heap.size w w':=by
 by_cases h1:nv l<nv lo <;> by_cases h2:nv hi<nv g
 ·have e1:Hid (bmax l lo=lo):=if_pos h1
  have e2:Hid (bmin g hi=hi):=if_pos h2
  rw [e1.out,e2.out]
  go_enter Tryz.func152,Tryz.ntmps152
  go_wp2_with fail
  exact bodyPost_ret (v:=Vl v m lo hi) (by simp [results,Tryz.results152,go_sem]) rfl ⟨rfl,(by repeat (first | exact Below.refl _ _ | assumption | refine below_drewN ?_ _ | refine Below.drew ?_ | refine Below.alloc ?_ (by first | exact Nat.le_refl _ | (simp;done) | (simp;omega) | omega) _ | refine Below.setCell ?_ (by first | exact Nat.le_refl _ | (simp;done) | (simp;omega) | omega) _ | refine Below.trans ?_ (Below.mono (by assumption) (by first | exact Nat.le_refl _ | (simp;done) | (simp;omega) | omega))))⟩
 ·have e1:Hid (bmax l lo=lo):=if_pos h1
  have e2:Hid (bmin g hi=g):=if_neg h2
  have h2':nv g≤nv hi:=by omega
  clear h2
  rw [e1.out,e2.out]
  go_enter Tryz.func152,Tryz.ntmps152
  go_wp2_with fail
  exact bodyPost_ret (v:=Vl v m lo g) (by simp [results,Tryz.results152,go_sem]) rfl ⟨rfl,(by repeat (first | exact Below.refl _ _ | assumption | refine below_drewN ?_ _ | refine Below.drew ?_ | refine Below.alloc ?_ (by first | exact Nat.le_refl _ | (simp;done) | (simp;omega) | omega) _ | refine Below.setCell ?_ (by first | exact Nat.le_refl _ | (simp;done) | (simp;omega) | omega) _ | refine Below.trans ?_ (Below.mono (by assumption) (by first | exact Nat.le_refl _ | (simp;done) | (simp;omega) | omega))))⟩
 ·have e1:Hid (bmax l lo=l):=if_neg h1
  have e2:Hid (bmin g hi=hi):=if_pos h2
  have h1':nv lo≤nv l:=by omega
  clear h1
  rw [e1.out,e2.out]
  go_enter Tryz.func152,Tryz.ntmps152
  go_wp2_with fail
  exact bodyPost_ret (v:=Vl v m l hi) (by simp [results,Tryz.results152,go_sem]) rfl ⟨rfl,(by repeat (first | exact Below.refl _ _ | assumption | refine below_drewN ?_ _ | refine Below.drew ?_ | refine Below.alloc ?_ (by first | exact Nat.le_refl _ | (simp;done) | (simp;omega) | omega) _ | refine Below.setCell ?_ (by first | exact Nat.le_refl _ | (simp;done) | (simp;omega) | omega) _ | refine Below.trans ?_ (Below.mono (by assumption) (by first | exact Nat.le_refl _ | (simp;done) | (simp;omega) | omega))))⟩
 ·have e1:Hid (bmax l lo=l):=if_neg h1
  have e2:Hid (bmin g hi=g):=if_neg h2
  have h1':nv lo≤nv l:=by omega
  have h2':nv g≤nv hi:=by omega
  clear h1 h2
  rw [e1.out,e2.out]
  go_enter Tryz.func152,Tryz.ntmps152
  go_wp2_with fail
  exact bodyPost_ret (v:=Vl v m l g) (by simp [results,Tryz.results152,go_sem]) rfl ⟨rfl,(by repeat (first | exact Below.refl _ _ | assumption | refine below_drewN ?_ _ | refine Below.drew ?_ | refine Below.alloc ?_ (by first | exact Nat.le_refl _ | (simp;done) | (simp;omega) | omega) _ | refine Below.setCell ?_ (by first | exact Nat.le_refl _ | (simp;done) | (simp;omega) | omega) _ | refine Below.trans ?_ (Below.mono (by assumption) (by first | exact Nat.le_refl _ | (simp;done) | (simp;omega) | omega))))⟩
def woL (l l' h':BitVec 64):BitVec 64:=if eqb l' h'&&eqb l l' then badd l one else l
def woH (l h l' h':BitVec 64):BitVec 64:=if eqb l' h'&&(!eqb l l'&&eqb h l') then bsub h one else h
set_option maxRecDepth 100000 in
set_option maxHeartbeats 1000000 in
theorem yafb (v m l g v' m' l' g':BitVec 64) (w:World) :
  Calls Tryz.prog 148 #[Vl v m l g,Vl v' m' l' g'] w fun e w'=>e=.returned (Vl v m (woL l l' g') (woH l g l' g'))∧Below w.heap.size w w':=by
 have H1:Hid (woL l l' g'=if eqb l' g'&&eqb l l' then badd l one else l):=rfl
 have H2:Hid (woH l g l' g'=if eqb l' g'&&(!eqb l l'&&eqb g l') then bsub g one else g):=rfl
 obtain ⟨z1,ha⟩:∃ b,Hid (eqb l' g'=b):=⟨_,rfl⟩
 obtain ⟨z2,hb⟩:∃ b,eqb l l'=b:=⟨_,rfl⟩
 obtain ⟨z3,hc⟩:∃ b,eqb g l'=b:=⟨_,rfl⟩
 rw [ha.out,hb] at H1
 rw [ha.out,hb,hc] at H2
 cases z1
 ·rw [H1.out,H2.out]
  go_enter Tryz.func148,Tryz.ntmps148
  go_wp2_with fail
  refine (zd9 ha.out _).mono ?_
  rintro e w1 ⟨rfl,hb1⟩
  have hK:=((((Kp.start w).add4 _ _ _ _ _).add4 _ _ _ _ _).add4 _ _ _ _ _).keep hb1
  simp only [World.size_alloc] at hK
  obtain ⟨r0,r1,r2,r3,r4,r5,r6,r7,r8⟩:=hK.box.head.four
  obtain ⟨b0,b1,b2,b3,b4,b5,b6,b7,b8⟩:=hK.box.tail.head.four
  obtain ⟨a0,a1,a2,a3,a4,a5,a6,a7,a8⟩:=hK.box.tail.tail.head.four
  go_wp2_with fail
  exact bodyPost_ret (v:=Vl v m l g) (by simp [results,Tryz.results148,go_sem,r0,r1,r2,r3]) rfl ⟨rfl,(hK.set4 0 rfl).bel⟩
 ·cases z2
  ·cases z3
   ·rw [H1.out,H2.out]
    go_enter Tryz.func148,Tryz.ntmps148
    go_wp2_with fail
    refine (zd9 ha.out _).mono ?_
    rintro e w1 ⟨rfl,hb1⟩
    have hK:=((((Kp.start w).add4 _ _ _ _ _).add4 _ _ _ _ _).add4 _ _ _ _ _).keep hb1
    simp only [World.size_alloc] at hK
    obtain ⟨r0,r1,r2,r3,r4,r5,r6,r7,r8⟩:=hK.box.head.four
    obtain ⟨b0,b1,b2,b3,b4,b5,b6,b7,b8⟩:=hK.box.tail.head.four
    obtain ⟨a0,a1,a2,a3,a4,a5,a6,a7,a8⟩:=hK.box.tail.tail.head.four
    go_wp2_with fail
    exact bodyPost_ret (v:=Vl v m l g) (by simp [results,Tryz.results148,go_sem,r0,r1,r2,r3]) rfl ⟨rfl,(hK.set4 0 rfl).bel⟩
   ·rw [H1.out,H2.out]
    go_enter Tryz.func148,Tryz.ntmps148
    go_wp2_with fail
    refine (zd9 ha.out _).mono ?_
    rintro e w1 ⟨rfl,hb1⟩
    have hK:=((((Kp.start w).add4 _ _ _ _ _).add4 _ _ _ _ _).add4 _ _ _ _ _).keep hb1
    simp only [World.size_alloc] at hK
    obtain ⟨r0,r1,r2,r3,r4,r5,r6,r7,r8⟩:=hK.box.head.four
    obtain ⟨b0,b1,b2,b3,b4,b5,b6,b7,b8⟩:=hK.box.tail.head.four
    obtain ⟨a0,a1,a2,a3,a4,a5,a6,a7,a8⟩:=hK.box.tail.tail.head.four
    go_wp2_with fail
    refine bodyPost_ret (v:=Vl v m l (bsub g one)) (by simp [results,Tryz.results148,go_sem,r0,r1,r2,r3]) rfl ⟨rfl,?_⟩
    exact ((((hK.bel.setCell (by dsimp only;omega) _).setCell (by dsimp only;omega) _).setCell (by dsimp only;omega) _).setCell (by dsimp only;omega) _).setCell (by dsimp only;omega) _
  ·rw [H1.out,H2.out]
   go_enter Tryz.func148,Tryz.ntmps148
   go_wp2_with fail
   refine (zd9 ha.out _).mono ?_
   rintro e w1 ⟨rfl,hb1⟩
   have hK:=((((Kp.start w).add4 _ _ _ _ _).add4 _ _ _ _ _).add4 _ _ _ _ _).keep hb1
   simp only [World.size_alloc] at hK
   obtain ⟨r0,r1,r2,r3,r4,r5,r6,r7,r8⟩:=hK.box.head.four
   obtain ⟨b0,b1,b2,b3,b4,b5,b6,b7,b8⟩:=hK.box.tail.head.four
   obtain ⟨a0,a1,a2,a3,a4,a5,a6,a7,a8⟩:=hK.box.tail.tail.head.four
   go_wp2_with fail
   refine bodyPost_ret (v:=Vl v m (badd l one) g) (by simp [results,Tryz.results148,go_sem,r0,r1,r2,r3]) rfl ⟨rfl,?_⟩
   exact ((((hK.bel.setCell (by dsimp only;omega) _).setCell (by dsimp only;omega) _).setCell (by dsimp only;omega) _).setCell (by dsimp only;omega) _).setCell (by dsimp only;omega) _
end
end Go.Proofs.YtkigmocchaikgabGreatDoor
namespace Go.Proofs.YtkigmocchaikgabGreatDoor
theorem zm3 {v m l h x:BitVec 64} (hx:hasV v m l h x=true):valB v m l h=true∧RtB v m∧hasB v m x=true∧nv l≤nv x∧nv x≤nv h:=by
 unfold hasV at hx
 simp only [Bool.and_eq_true,decide_eq_true_eq] at hx
 exact ⟨hx.1,(zbe hx.1).1,hx.2.1,hx.2.2.1,hx.2.2.2⟩
theorem zuu {v m l h x:BitVec 64} (h1:hasB v m x=true) (h2:nv l≤nv x) (h3:nv x≤nv h):rawV v m l h x=true:=by
 unfold rawV;rw [h1];simp only [Bool.true_and,Bool.and_eq_true,decide_eq_true_eq];exact ⟨h2,h3⟩
theorem zsm (x:BitVec 64):RtB zero top∧hasB zero top x=true:=by
 have hr:RtB zero top:=znn top
 refine ⟨hr,(za0 _ _ _).2 ⟨hr,fun j hj=>?_⟩⟩
 rw [zqz _ hj,zbb];cases bit x j <;> rfl
theorem zz7 {op:Int} (hop:2≤op∧op≤9) {v m l h v' m' l' h' x y:BitVec 64} (hx:hasV v m l h x=true) (hy:hasV v' m' l' h' y=true) :
  RtB (rk op v m l h v' m' l' h').1 (rk op v m l h v' m' l' h').2.1∧rawV (rk op v m l h v' m' l' h').1 (rk op v m l h v' m' l' h').2.1 (rk op v m l h v' m' l' h').2.2.1 (rk op v m l h v' m' l' h').2.2.2 (numN op x y)=true:=by
 obtain ⟨_,r1,b1,p1,p2⟩:=zm3 hx
 obtain ⟨_,r2,b2,q1,q2⟩:=zm3 hy
 by_cases h8:op=8
 ·subst h8
  have hn:numN 8 x y=bshl x (six y):=by unfold numN;rw [if_neg (by decide),if_neg (by decide),if_pos rfl]
  rw [hn]
  cases ha:eqb l' h'
  ·have e:rk 8 v m l h v' m' l' h'=(zero,top,zero,top):=by unfold rk;rw [if_pos rfl,ha];rfl
   rw [e]
   exact ⟨(zsm zero).1,zuu (zsm _).2 (ends _).1 (ends _).2⟩
  ·have e:rk 8 v m l h v' m' l' h'=(bshl v (six l'),bshl m (six l'),(shlB l h (six l')).1,(shlB l h (six l')).2):=by unfold rk;rw [if_pos rfl,ha];rfl
   have hl:y=l':=by
    have:=(zdl _ _).1 ha
    rw [← this] at q2
    exact zkr _ _ (by omega)
   rw [e,hl]
   exact ⟨yakm r1 _,zuu (yajk b1 _) (zo6 _ p1 p2).1 (zo6 _ p1 p2).2⟩
 ·by_cases h9:op=9
  ·subst h9
   have hn:numN 9 x y=bshr x (six y):=by unfold numN;rw [if_neg (by decide),if_neg (by decide),if_neg (by decide)]
   rw [hn]
   cases ha:eqb l' h'
   ·have e:rk 9 v m l h v' m' l' h'=(zero,top,zero,h):=by unfold rk;rw [if_neg (by decide),if_pos rfl,ha];rfl
    rw [e]
    exact ⟨(zsm zero).1,zuu (zsm _).2 (ends _).1 (Int.le_trans (yawr _ _) p2)⟩
   ·have e:rk 9 v m l h v' m' l' h'=(bshr v (six l'),bshr m (six l'),bshr l (six l'),bshr h (six l')):=by unfold rk;rw [if_neg (by decide),if_pos rfl,ha];rfl
    have hl:y=l':=by
     have:=(zdl _ _).1 ha
     rw [← this] at q2
     exact zkr _ _ (by omega)
    rw [e,hl]
    have hs:=yalt b1 (six l')
    exact ⟨((za0 _ _ _).1 hs).1,zuu hs (zqf _ p1 p2).1 (zqf _ p1 p2).2⟩
  ·have h27:2≤op∧op≤7:=by omega
   have hn:numN op x y=numB op x y:=by unfold numN;rw [if_neg (by omega),if_pos h27]
   have e:rk op v m l h v' m' l' h'=((twoP op v m v' m').1,(twoP op v m v' m').2,(zce op l h l' h').1,(zce op l h l' h').2):=by
    unfold rk;rw [if_neg h8,if_neg h9]
   rw [hn,e]
   exact ⟨yaqo h27,zuu (yajx h27 b1 b2) (zk4 h27 p1 p2 q1 q2).1 (zk4 h27 p1 p2 q1 q2).2⟩
structure V4 where
 v:BitVec 64
 m:BitVec 64
 l:BitVec 64
 h:BitVec 64
theorem V4.ext' {a b:V4} (h1:a.v=b.v) (h2:a.m=b.m) (h3:a.l=b.l) (h4:a.h=b.h):a=b:=by cases a;cases b;simp_all
def V4.cs (a:V4):List AC:=[.u a.v,.u a.m,.u a.l,.u a.h]
def V4.z:V4:=⟨zero,zero,zero,zero⟩
def V4.rt (a:V4):Bool:=eqb (band a.v a.m) zero
def V4.ok (a:V4):Bool:=valB a.v a.m a.l a.h
def V4.nok (a:V4):Bool:=zc6 a.v a.m a.l a.h
def V4.nrm (a:V4):V4:=⟨nV a.v a.m a.l a.h,nM a.m (nLo a.v a.m a.l) (nHi a.v a.m a.h),nLo a.v a.m a.l,nHi a.v a.m a.h⟩
def V4.norm (a:V4):V4:=if a.nok then a.nrm else V4.z
def V4.has (a:V4) (x:BitVec 64):Bool:=hasV a.v a.m a.l a.h x
def V4.of (x:BitVec 64):V4:=⟨x,zero,x,x⟩
def V4.any:V4:=⟨zero,top,zero,top⟩
def V4.alone (a:V4):Bool:=eqb a.l a.h
def V4.rawJoin (a b:V4):V4:=⟨jV a.v a.m b.v b.m,jM a.v a.m b.v b.m,bmin a.l b.l,bmax a.h b.h⟩
def V4.join (a b:V4):V4:=(a.rawJoin b).nrm
def V4.raw2 (op:Int) (a b:V4):V4 :=
 ⟨(rk op a.v a.m a.l a.h b.v b.m b.l b.h).1,(rk op a.v a.m a.l a.h b.v b.m b.l b.h).2.1,(rk op a.v a.m a.l a.h b.v b.m b.l b.h).2.2.1,(rk op a.v a.m a.l a.h b.v b.m b.l b.h).2.2.2⟩
def V4.two (op:Int) (a b:V4):V4:=(V4.raw2 op a b).norm
def lvV (p:Bool) (a:V4):V4:=if p then a else V4.z
def zgr (may:Bool) (x y:V4):V4×V4×Bool:=(lvV (may&&(x.nok&&y.nok)) x.nrm,lvV (may&&(x.nok&&y.nok)) y.nrm,may&&(x.nok&&y.nok))
def V4.meets (a b:V4):Bool:=eqb (bandn (bxor a.v b.v) (bor a.m b.m)) zero
def V4.rawEqual (a b:V4):V4:=⟨bor a.v b.v,band a.m b.m,bmax a.l b.l,bmin a.h b.h⟩
def V4.equal (a b:V4):V4×V4×Bool:=if a.meets b then zgr true (a.rawEqual b) (a.rawEqual b) else (V4.z,V4.z,false)
def V4.without (a b:V4):V4:=⟨a.v,a.m,woL a.l b.l b.h,woH a.l a.h b.l b.h⟩
def V4.other (a b:V4):V4×V4×Bool:=zgr (!(a.alone&&(b.alone&&eqb a.l b.l))) (a.without b) (b.without a)
def V4.less (a b:V4):V4×V4×Bool :=
 if eqb b.h zero||eqb a.l top then (V4.z,V4.z,false)
 else zgr true ⟨a.v,a.m,a.l,bmin a.h (bsub b.h one)⟩ ⟨b.v,b.m,bmax b.l (badd a.l one),b.h⟩
def V4.notLess (a b:V4):V4×V4×Bool:=zgr true ⟨a.v,a.m,bmax a.l b.l,a.h⟩ ⟨b.v,b.m,b.l,bmin b.h a.h⟩
def zmp (n:Int):BitVec 64:=if n=8 then top else if n=4 then 4294967295#64 else if n=2 then 65535#64 else 255#64
def V4.bytes (n:Int):V4:=⟨zero,zmp n,zero,zmp n⟩
theorem zvp (x:BitVec 64):bmax x x=x:=by unfold bmax;split <;> rfl
theorem zu4 (x:BitVec 64):bmin x x=x:=by unfold bmin;split <;> rfl
structure St where
 live:Bool
 s:V6 Bool
 r:V6 V4
def St.cs (t:St):List AC:=[.b t.live,.b t.s.x0,.b t.s.x1,.b t.s.x2,.b t.s.x3,.b t.s.x4,.b t.s.x5,
 .u t.r.x0.v,.u t.r.x0.m,.u t.r.x0.l,.u t.r.x0.h,.u t.r.x1.v,.u t.r.x1.m,.u t.r.x1.l,.u t.r.x1.h,.u t.r.x2.v,.u t.r.x2.m,.u t.r.x2.l,.u t.r.x2.h,
 .u t.r.x3.v,.u t.r.x3.m,.u t.r.x3.l,.u t.r.x3.h,.u t.r.x4.v,.u t.r.x4.m,.u t.r.x4.l,.u t.r.x4.h,.u t.r.x5.v,.u t.r.x5.m,.u t.r.x5.l,.u t.r.x5.h]
def St.z:St:=⟨false,no6,V6.rep V4.z⟩
def St.e:St:=⟨true,no6,V6.rep V4.z⟩
def badR (t:St) (j:Nat):Bool:=bif t.s.get j then !(t.r.get j).ok else !eqCs (t.r.get j).cs V4.z.cs
def St.ok (t:St):Bool:=(t.live||eqCs t.cs St.z.cs)&&!anyFrom (badR t) 6
def St.wth (t:St) (d:Nat) (a:V4):St:=⟨t.live,t.s.set d true,t.r.set d a⟩
def beginS:St:=St.e.wth 1 V4.any
def yat7 (t:St) (m:Mach) (j:Nat):Bool:=t.s.get j&&!(m.s.get j&&(t.r.get j).has (m.r.get j))
def St.has (t:St) (m:Mach):Bool:=t.ok&&(t.live&&(decide (yaih m=0)&&(decide (m.fin=0)&&!anyFrom (yat7 t m) 6)))
def zhx (t u:St) (j:Nat) (b:St):St:=if t.s.get j&&u.s.get j then b.wth j ((t.r.get j).join (u.r.get j)) else b
def zcx (t u:St):Nat→St→St
 | 0,b=>b
 | n+1,b=>zcx t u n (zhx t u (5 - n) b)
def St.join (t u:St):St:=if t.live then (if u.live then zcx t u 6 St.e else t) else u
def zgx:Ins:=⟨15,0,0,0#64,0⟩
def zfj (i:Ins):Bool:=zcl i&&(inB i 65&&zbm i)
def srcV (i:Ins) (t:St):V4:=if i.s=-1 then V4.of i.im else t.r.get i.s.toNat
def farS (i:Ins) (a:V4):Bool:=decide (nv (bsub 64#64 i.im)<nv (V4.two 2 a (V4.of (BitVec.ofInt 64 i.of))).h)
def zei (i:Ins) (t:St):Int :=
 if lacks (zaw i) t.s then 1
 else if i.op=10 then (if farS i (t.r.get i.s.toNat) then 2 else 0)
 else if i.op=11 then (if farS i (t.r.get i.d.toNat) then 2 else 0)
 else 0
def zel (i:Ins) (t:St) (x:V4×V4×Bool):St :=
 if x.2.2 then (if i.s=-1 then t.wth i.d.toNat x.1 else (t.wth i.d.toNat x.1).wth i.s.toNat x.2.1) else St.z
def goS (i:Ins) (t:St):St×St :=
 if i.op=10 then (t.wth i.d.toNat (V4.bytes (nv i.im)),St.z)
 else if i.op=11 then (t,St.z)
 else if i.op=12 then (St.z,t)
 else if i.op=13 then (zel i t ((t.r.get i.d.toNat).other (srcV i t)),zel i t ((t.r.get i.d.toNat).equal (srcV i t)))
 else if i.op=14 then (zel i t ((t.r.get i.d.toNat).notLess (srcV i t)),zel i t ((t.r.get i.d.toNat).less (srcV i t)))
 else if i.op=15 then (St.z,St.z)
 else if i.op=1 then (t.wth i.d.toNat (srcV i t),St.z)
 else (t.wth i.d.toNat (V4.two i.op (t.r.get i.d.toNat) (srcV i t)),St.z)
def zag (i:Ins) (t:St):St×St×Int :=
 if t.live then (if zei i t=0 then ((goS i t).1,(goS i t).2,0) else (St.z,St.z,zei i t)) else (St.z,St.z,0)
def yact (i:Ins) (t:St):Int:=if zfj i&&t.ok then 0 else 1
def zox (i:Ins) (t:St):St×St×Int:=if zfj i&&t.ok then zag i t else (St.z,St.z,0)
theorem yalk (t:St):t.cs.length=31:=rfl
theorem yaom {t:St} {r:Int} (h:regB r=true):List.take 4 (List.drop (7+r.toNat*4) t.cs)=(t.r.get r.toNat).cs :=
 zb8 (P:=fun r=>List.take 4 (List.drop (7+r.toNat*4) t.cs)=(t.r.get r.toNat).cs) h rfl rfl rfl rfl rfl rfl
theorem zsf {t:St} {r:Int} (h:regB r=true):t.cs.set (1+r.toNat*1) (.b true)=(St.mk t.live (t.s.set r.toNat true) t.r).cs :=
 zb8 (P:=fun r=>t.cs.set (1+r.toNat*1) (.b true)=(St.mk t.live (t.s.set r.toNat true) t.r).cs) h rfl rfl rfl rfl rfl rfl
theorem zsj {t:St} {r:Int} (a:V4) (h:regB r=true):splice t.cs (7+r.toNat*4) a.cs=(St.mk t.live t.s (t.r.set r.toNat a)).cs :=
 zb8 (P:=fun r=>splice t.cs (7+r.toNat*4) a.cs=(St.mk t.live t.s (t.r.set r.toNat a)).cs) h rfl rfl rfl rfl rfl rfl
structure Rep where
 trap:Int
 pos:Int
 sts:List St
def scell (l:List St):List AC:=l.flatMap St.cs
def stAt (S:List St) (k:Nat):St:=S.getD k St.z
def addS (S:List St) (k:Nat) (t:St):List St:=if t.live then S.set k ((stAt S k).join t) else S
def verL (L:List Ins):Nat→Nat→List St→Rep
 | 0,_,S=>⟨0,0,S⟩
 | n+1,k,S=>if (zag (elt L k) (stAt S k)).2.2=0 then verL L n (k+1) (addS (addS S (k+1) (zag (elt L k) (stAt S k)).1) (k+1+(elt L k).of.toNat) (zag (elt L k) (stAt S k)).2.1)
  else ⟨(zag (elt L k) (stAt S k)).2.2,k,S.take (k+1)⟩
def zeu (n:Nat):List St:=(List.replicate n St.z).set 0 beginS
def zar (L:List Ins):Rep:=verL L L.length 0 (zeu L.length)
def onI:Ins:=⟨12,0,0,0#64,0⟩
def zak (i:Ins):Bool:=i.op==13||i.op==14
def zfg (i:Ins) (t:St):Ins :=
 if t.live then
  (if decide (i.op≤9)&&((zag i t).1.r.get i.d.toNat).alone then ⟨1,i.d,-1,((zag i t).1.r.get i.d.toNat).l,0⟩
  else if zak i&&!(zag i t).2.1.live then onI
  else if zak i&&!(zag i t).1.live then ⟨12,0,0,0#64,i.of⟩
  else i)
 else onI
def zcj (S:List St):List Ins→Nat→List Ins
 | [],_=>[]
 | [i],_=>[i]
 | i::j::l,k=>zfg i (stAt S k)::zcj S (j::l) (k+1)
def ze1 (L:List Ins):List Ins:=if (zar L).trap=0 then zcj (zar L).sts L 0 else L
def orS (a b:V6 Bool):V6 Bool:=⟨a.x0||b.x0,a.x1||b.x1,a.x2||b.x2,a.x3||b.x3,a.x4||b.x4,a.x5||b.x5⟩
def lvAt (A:List (V6 Bool)) (k:Nat):V6 Bool:=A.getD k no6
def yafe (i:Ins) (A:List (V6 Bool)):V6 Bool :=
 if i.op=15 then no6 else if i.op=12 then lvAt A i.of.toNat else if zak i then orS (lvAt A 0) (lvAt A i.of.toNat) else lvAt A 0
def zea (i:Ins) (b:V6 Bool):Ins:=if decide (i.op≤10)&&!b.get i.d.toNat then onI else i
def zfa (i:Ins) (b:V6 Bool):V6 Bool:=orS (zaw i) (if i.op≤10 then b.set i.d.toNat false else b)
def ridR:List Ins→List Ins×List (V6 Bool)
 | []=>([],[])
 | i::l=>(zea i (yafe i (ridR l).2)::(ridR l).1,zfa (zea i (yafe i (ridR l).2)) (yafe i (ridR l).2)::(ridR l).2)
def zft (L:List Ins):List Ins:=if (zar L).trap=0 then (ridR L).1 else L
def rcell (A:List (V6 Bool)):List AC:=A.flatMap bcs
def fL:List Ins:=[⟨1,2,-1,5#64,0⟩,⟨5,1,-1,3#64,0⟩,⟨14,1,2,0#64,1⟩,⟨1,1,-1,9#64,0⟩,⟨1,0,2,0#64,0⟩,⟨15,0,0,0#64,0⟩]
def fF:List Ins:=[⟨1,2,-1,5#64,0⟩,⟨5,1,-1,3#64,0⟩,⟨12,0,0,0#64,1⟩,onI,⟨1,0,-1,5#64,0⟩,⟨15,0,0,0#64,0⟩]
def fD:List Ins:=[onI,onI,⟨12,0,0,0#64,1⟩,onI,⟨1,0,-1,5#64,0⟩,⟨15,0,0,0#64,0⟩]
end Go.Proofs.YtkigmocchaikgabGreatDoor
namespace Go.Proofs.YtkigmocchaikgabGreatDoor
open Go.RowKit
section
variable {L L2 L3 L4 L5 M:List Ins} {c p n j q r:Nat} {e tr t1:Int} {w:World} {β:Bs} {C:Cx} {R:Ending→World→Prop} {S S2 S3:List St}
end
end Go.Proofs.YtkigmocchaikgabGreatDoor
