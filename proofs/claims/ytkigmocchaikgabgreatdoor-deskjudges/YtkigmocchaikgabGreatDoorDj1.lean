import Derived.Laws.Bits64b
import Derived.Laws.BitsAllLaws
import Derived.Test.YtkigmocchaikgabGreatDoorRows
import Derived.WalkKit
import Derived.ProofKit
import Derived.OpenShut
import Derived.ShutString
import Derived.ChangeOld
import Derived.Below
import Derived.Lib.SmallJoins
import Derived.Deep.Strs
import Derived.Test.YtkigmocchaikgabGreatDoorProg
import Derived.WalkSpells
import Derived.WalkLawsBesides
import Derived.Deep.QuietTactic
import Derived.BigQuiet
import Derived.Handy
import Derived.Lib.BitFns
/- What the model's u64 arithmetic is on numbers of 64 bits: plain facts, without the program.
   The words nv, band .. keep the walk's simp from laying the numbers open. -/
namespace Go.Proofs.YtkigmocchaikgabGreatDoor
def nv (x:BitVec 64):Int:=x.toNat
abbrev U (x:BitVec 64):Value:=.int .u64 (nv x)
abbrev N (n:Int):Value:=.int .i64 n
abbrev Bt (v m:BitVec 64):Value:=.agg #[U v,U m]
abbrev Vl (v m l h:BitVec 64):Value:=.agg #[U v,U m,U l,U h]
def band (x y:BitVec 64):BitVec 64:=x &&& y
def bor (x y:BitVec 64):BitVec 64:=x ||| y
def bxor (x y:BitVec 64):BitVec 64:=x ^^^ y
def bandn (x y:BitVec 64):BitVec 64:=x &&& ~~~ y
def badd (x y:BitVec 64):BitVec 64:=x+y
def bsub (x y:BitVec 64):BitVec 64:=x - y
def bmul (x y:BitVec 64):BitVec 64:=x*y
def bshl (x:BitVec 64) (i:Nat):BitVec 64:=x <<< i
def bshr (x:BitVec 64) (i:Nat):BitVec 64:=x >>> i
def bnot (x:BitVec 64):BitVec 64 := ~~~ x
def bmin (x y:BitVec 64):BitVec 64:=if nv y<nv x then y else x
def bmax (x y:BitVec 64):BitVec 64:=if nv x<nv y then y else x
def one:BitVec 64:=1#64
def zero:BitVec 64:=0#64
def top:BitVec 64:=BitVec.allOnes 64
def eqb (x y:BitVec 64):Bool:=x==y
def bit (x:BitVec 64) (i:Nat):Bool:=x.getLsbD i
theorem zbi (x:BitVec 64):BitVec.ofInt 64 (nv x)=x:=by
 unfold nv;rw [BitVec.ofInt_natCast,BitVec.ofNat_toNat];simp
theorem yaot (n:Int):nv (BitVec.ofInt 64 n)=n % 18446744073709551616:=by
 unfold nv;rw [BitVec.toNat_ofInt];omega
theorem zca (x:BitVec 64):0≤nv x:=by unfold nv;omega
theorem zw4 (x:BitVec 64):nv x<18446744073709551616:=by unfold nv;have:=x.isLt;omega
theorem zk8 (x y:BitVec 64) (h:nv x=nv y):x=y:=by
 unfold nv at h;exact BitVec.eq_of_toNat_eq (by omega)
theorem za4:nv zero=0:=rfl
theorem yaw4:nv one=1:=rfl
theorem zmf:nv top=18446744073709551615:=by decide
theorem zft (n:Int):IntKind.u64.wrap n=nv (BitVec.ofInt 64 n):=by
 rw [IntKind.wrap_u64,yaot]
theorem za1 (x:BitVec 64):IntKind.u64.wrap (nv x)=nv x:=by rw [zft,zbi]
theorem zdb (x y:BitVec 64):bits .and .u64 (nv x) (nv y)=nv (band x y):=by
 show IntKind.u64.wrap (nv (BitVec.ofInt 64 (nv x) &&& BitVec.ofInt 64 (nv y)))=_
 rw [zbi,zbi,za1];rfl
theorem w_or (x y:BitVec 64):bits .or .u64 (nv x) (nv y)=nv (bor x y):=by
 show IntKind.u64.wrap (nv (BitVec.ofInt 64 (nv x) ||| BitVec.ofInt 64 (nv y)))=_
 rw [zbi,zbi,za1];rfl
theorem zdd (x y:BitVec 64):bits .xor .u64 (nv x) (nv y)=nv (bxor x y):=by
 show IntKind.u64.wrap (nv (BitVec.ofInt 64 (nv x) ^^^ BitVec.ofInt 64 (nv y)))=_
 rw [zbi,zbi,za1];rfl
theorem za3 (x y:BitVec 64):bits .andNot .u64 (nv x) (nv y)=nv (bandn x y):=by
 show IntKind.u64.wrap (nv (BitVec.ofInt 64 (nv x) &&& ~~~BitVec.ofInt 64 (nv y)))=_
 rw [zbi,zbi,za1];rfl
theorem zb4 (x:BitVec 64):bits .and .u64 (nv x) 1=nv (band x one):=zdb x one
theorem zbd (x:BitVec 64):bits .and .u64 (nv x) 63=nv (band x 63#64):=zdb x 63#64
theorem zc9 (x y:BitVec 64):IntKind.u64.wrap (nv x+nv y)=nv (badd x y):=by
 rw [zft,BitVec.ofInt_add,zbi,zbi];rfl
theorem zc4 (x y:BitVec 64):IntKind.u64.wrap (nv x - nv y)=nv (bsub x y):=by
 unfold nv bsub
 rw [IntKind.wrap_u64,BitVec.toNat_sub]
 have:=x.isLt;have:=y.isLt
 omega
theorem zda (x y:BitVec 64):IntKind.u64.wrap (nv x*nv y)=nv (bmul x y):=by
 rw [zft,BitVec.ofInt_mul,zbi,zbi];rfl
theorem zbw (x:BitVec 64):IntKind.u64.wrap (nv x - 1)=nv (bsub x one):=zc4 x one
theorem zby (x:BitVec 64):IntKind.u64.wrap (nv x+1)=nv (badd x one):=zc9 x one
theorem zcz (x:BitVec 64) (i:Nat):IntKind.u64.wrap (nv x*2 ^ i)=nv (bshl x i):=by
 unfold nv bshl
 rw [IntKind.wrap_u64,BitVec.toNat_shiftLeft,Nat.shiftLeft_eq]
 simp
theorem zb0 (i:Nat):IntKind.u64.wrap (2 ^ i)=nv (bshl one i):=by
 have:=zcz one i
 rw [yaw4,Int.one_mul] at this
 exact this
theorem zdc (x:BitVec 64) (i:Nat):nv x / 2 ^ i=nv (bshr x i):=by
 unfold nv bshr
 rw [BitVec.toNat_ushiftRight,Nat.shiftRight_eq_div_pow]
 simp
theorem zcn (x y:BitVec 64):(nv x==nv y)=eqb x y:=by
 rw [Bool.eq_iff_iff];simp only [eqb,beq_iff_eq]
 exact ⟨zk8 x y,fun h=>by rw [h]⟩
theorem zc0 (x y:BitVec 64):(nv x != nv y)=!eqb x y:=by
 rw [bne,zcn]
theorem zb1 (x:BitVec 64):(nv x==0)=eqb x zero:=zcn x zero
theorem zbx (x:BitVec 64):(nv x != 0)=!eqb x zero:=zc0 x zero
theorem zb2 (x:BitVec 64):(nv x==1)=eqb x one:=zcn x one
theorem zbz (x:BitVec 64):(nv x != 1)=!eqb x one:=zc0 x one
theorem yaku (v:BitVec 64) (i:Nat) (hi:i<64):eqb (band v (bshl one i)) zero=!bit v i:=by
 unfold eqb band bshl one zero bit
 have h:((v &&& (1#64 <<< i)) != 0#64)=v.getLsbD i:=by
  rw [Bool.eq_iff_iff,bne_iff_ne]
  constructor
  ·intro h
   cases hb:v.getLsbD i with
   | true=>rfl
   | false =>
    exfalso;apply h
    apply BitVec.eq_of_getLsbD_eq
    intro j hj
    by_cases e:j=i
    ·subst e;simp [hb]
    ·simp
     intro h1 h2 h3
     omega
  ·intro hb h
   have h2:(v &&& (1#64 <<< i)).getLsbD i=false:=by rw [h];simp
   simp [hb] at h2
   omega
 rw [← h,bne,Bool.not_not]
theorem zi5 (v:BitVec 64) (i:Nat):eqb (band (bshr v i) one) one=bit v i:=by
 unfold eqb band bshr one bit
 rw [Bool.eq_iff_iff,beq_iff_eq]
 constructor
 ·intro h
  have:((v >>> i) &&& 1#64).getLsbD 0=true:=by rw [h];decide
  simpa using this
 ·intro h
  apply BitVec.eq_of_getLsbD_eq
  intro j hj
  simp
  intro h1
  subst h1
  simpa using h
def putV (v:BitVec 64) (i:Nat) (z o:Bool):BitVec 64:=if z&&o then v else if o then bor v (bshl one i) else v
def putM (m:BitVec 64) (i:Nat) (z o:Bool):BitVec 64:=if z&&o then bor m (bshl one i) else m
theorem yafx {x y:BitVec 64} (h:∀ j,j<64→bit x j=bit y j):x=y:=BitVec.eq_of_getLsbD_eq h
theorem zbb (j:Nat):bit zero j=false:=by simp [bit,zero]
theorem zaz (x y:BitVec 64) (j:Nat):bit (band x y) j=(bit x j&&bit y j):=by simp [bit,band]
theorem zap (x y:BitVec 64) (j:Nat):bit (bor x y) j=(bit x j||bit y j):=by simp [bit,bor]
theorem zbl (x y:BitVec 64) (j:Nat):bit (bxor x y) j=(bit x j ^^ bit y j):=by simp [bit,bxor]
theorem zas (x y:BitVec 64) (j:Nat) (hj:j<64):bit (bandn x y) j=(bit x j&&!bit y j):=by simp [bit,bandn,hj]
theorem zdl (x:BitVec 64) (j:Nat) (hj:j<64):bit (bnot x) j=!bit x j:=by simp [bit,bnot,hj]
theorem zei (x:BitVec 64) (i j:Nat) (hj:j<64):bit (bshl x i) j=(decide (i≤j)&&bit x (j - i)):=by
 simp only [bit,bshl,BitVec.getLsbD_shiftLeft,hj,decide_true,Bool.true_and]
 by_cases h:i≤j
 ·simp [h,show ¬ j<i by omega]
 ·simp [h,show j<i by omega]
theorem ze0 (x:BitVec 64) (i j:Nat):bit (bshr x i) j=bit x (i+j):=by simp [bit,bshr]
theorem zba (x:BitVec 64) (j:Nat) (h:64≤j):bit x j=false:=by unfold bit;exact BitVec.getLsbD_of_ge x j h
theorem zct (i j:Nat) (hi:i<64):bit (bshl one i) j=decide (j=i):=by
 by_cases hj:j<64
 ·rw [zei _ _ _ hj]
  by_cases e:j=i
  ·subst e;simp [bit,one]
  ·by_cases h:i≤j
   ·have:j - i≠0:=by omega
    simp [bit,one,e,this]
   ·simp [h,e]
 ·rw [zba _ _ (by omega)];simp;omega
theorem zqn (j:Nat) (hj:j<64):bit top j=true:=by unfold bit top;rw [BitVec.getLsbD_allOnes];simp [hj]
theorem zdm (x y:BitVec 64):eqb x y=true↔x=y:=by simp [eqb]
theorem yajy (x y:BitVec 64):eqb x y=false↔x≠y:=by simp [eqb]
theorem zb6 (x:BitVec 64):eqb x zero=true↔∀ j,j<64→bit x j=false:=by
 rw [zdm]
 exact ⟨fun h j _=>by rw [h,zbb],fun h=>yafx fun j hj=>by rw [h j hj,zbb]⟩
theorem zcc (v m:BitVec 64):eqb (band v m) zero=true↔∀ j,(bit v j&&bit m j)=false:=by
 rw [zb6]
 constructor
 ·intro h j
  by_cases hj:j<64
  ·rw [← zaz];exact h j hj
  ·rw [zba v j (by omega)];rfl
 ·intro h j _;rw [zaz];exact h j
def acc (f:Nat→Bool):Nat→BitVec 64
 | 0=>zero
 | k+1=>if f k then bor (acc f k) (bshl one k) else acc f k
theorem yarc (f:Nat→Bool) (k j:Nat) (hk:k≤64):bit (acc f k) j=(decide (j<k)&&f j):=by
 induction k with
 | zero=>simp [acc,bit,zero]
 | succ k ih =>
  have ih:=ih (by omega)
  simp only [acc]
  by_cases h:f k=true
  ·rw [if_pos h,zap,ih,zct k j (by omega)]
   by_cases e:j=k
   ·subst e;simp [h]
   ·have:(j<k+1)=(j<k):=by simp;omega
    simp [this,e]
  ·rw [if_neg h,ih]
   by_cases e:j=k
   ·subst e;simp [h]
   ·have:(j<k+1)=(j<k):=by simp;omega
    simp [this]
theorem ybaz (f:Nat→Bool) (j:Nat) (hj:j<64):bit (acc f 64) j=f j:=by
 rw [yarc f 64 j (Nat.le_refl _)];simp [hj]
theorem zdz (f:Nat→Bool) (x:BitVec 64) (h:∀ j,j<64→f j=bit x j):acc f 64=x :=
 yafx fun j hj=>by rw [ybaz f j hj,h j hj]
theorem zlq (z o:Nat→Bool) (k:Nat):putV (acc (fun j=>o j&&!z j) k) k (z k) (o k)=acc (fun j=>o j&&!z j) (k+1):=by
 simp only [putV,acc]
 generalize acc (fun j=>o j&&!z j) k=A
 by_cases hz:z k=true <;> by_cases ho:o k=true <;> simp [hz,ho]
theorem zlo (z o:Nat→Bool) (k:Nat):putM (acc (fun j=>o j&&z j) k) k (z k) (o k)=acc (fun j=>o j&&z j) (k+1):=by
 simp only [putM,acc]
 generalize acc (fun j=>o j&&z j) k=A
 by_cases hz:z k=true <;> by_cases ho:o k=true <;> simp [hz,ho]
def accd (f:Nat→Bool):Nat→BitVec 64
 | 0=>zero
 | c+1=>if f (63 - c) then bor (accd f c) (bshl one (63 - c)) else accd f c
theorem yam9 (f:Nat→Bool) (c j:Nat) (hc:c≤64):bit (accd f c) j=(decide (64 - c≤j)&&decide (j<64)&&f j):=by
 induction c with
 | zero =>
  simp only [accd,zbb]
  by_cases h:j<64
  ·have:¬ 64≤j:=by omega
   simp [this]
  ·simp [h]
 | succ c ih =>
  have ih:=ih (by omega)
  simp only [accd]
  by_cases h:f (63 - c)=true
  ·rw [if_pos h,zap,ih,zct _ j (by omega)]
   by_cases e:j=63 - c
   ·subst e
    have h2:63 - c<64:=by omega
    simp [h,h2]
   ·have:decide (64 - (c+1)≤j)=decide (64 - c≤j):=by rw [Bool.eq_iff_iff,decide_eq_true_iff,decide_eq_true_iff];omega
    rw [this,decide_eq_false e,Bool.or_false]
  ·rw [if_neg h,ih]
   by_cases e:j=63 - c
   ·subst e;simp [h]
   ·have:decide (64 - (c+1)≤j)=decide (64 - c≤j):=by rw [Bool.eq_iff_iff,decide_eq_true_iff,decide_eq_true_iff];omega
    rw [this]
theorem yaln (f:Nat→Bool) (x:BitVec 64) (h:∀ j,j<64→f j=bit x j):accd f 64=x :=
 yafx fun j hj=>by rw [yam9 f 64 j (Nat.le_refl _),h j hj];simp [hj]
theorem yaii (z o:Nat→Bool) (c i:Nat) (hi:i=63 - c):putV (accd (fun j=>o j&&!z j) c) i (z i) (o i)=accd (fun j=>o j&&!z j) (c+1):=by
 subst hi
 simp only [putV,accd]
 generalize accd (fun j=>o j&&!z j) c=A
 by_cases hz:z (63 - c)=true <;> by_cases ho:o (63 - c)=true <;> simp [hz,ho]
theorem yal0 (z o:Nat→Bool) (c i:Nat) (hi:i=63 - c):putM (accd (fun j=>o j&&z j) c) i (z i) (o i)=accd (fun j=>o j&&z j) (c+1):=by
 subst hi
 simp only [putM,accd]
 generalize accd (fun j=>o j&&z j) c=A
 by_cases hz:z (63 - c)=true <;> by_cases ho:o (63 - c)=true <;> simp [hz,ho]
theorem yagw (x:BitVec 64) (i:Nat):band (bshr x i) one=if bit x i then one else zero:=by
 have h:=zi5 x i
 cases hb:bit x i with
 | true=>rw [hb,zdm] at h;simpa using h
 | false =>
  have:band (bshr x i) one=zero:=by
   apply yafx;intro j hj
   rw [zaz,ze0,zbb]
   by_cases e:j=0
   ·subst e;rw [Nat.add_zero,hb];rfl
   ·have:bit one j=false:=by simp [bit,one,e]
    rw [this];simp
  simpa using this
theorem zix (x:BitVec 64):eqb x x=true:=by simp [eqb]
theorem yax1:eqb one one=true:=by decide
theorem yavs:eqb one zero=false:=by decide
theorem yaxo:eqb zero one=false:=by decide
theorem yaw1:eqb zero zero=true:=by decide
def mz (v:BitVec 64) (j:Nat):Bool:=!bit v j
def mo (v m:BitVec 64) (j:Nat):Bool:=bit v j||bit m j
def zxf (av am bv bm:BitVec 64) (k:Nat):BitVec 64:=acc (fun j=>(mo av am j||mo bv bm j)&&!(mz av j||mz bv j)) k
def zyv (av am bv bm:BitVec 64) (k:Nat):BitVec 64:=acc (fun j=>(mo av am j||mo bv bm j)&&(mz av j||mz bv j)) k
theorem yaex (av am bv bm:BitVec 64) (k:Nat):putV (zxf av am bv bm k) k (mz av k||mz bv k) (mo av am k||mo bv bm k)=zxf av am bv bm (k+1):=zlq (fun j=>mz av j||mz bv j) (fun j=>mo av am j||mo bv bm j) k
theorem yae4 (av am bv bm:BitVec 64) (k:Nat):putM (zyv av am bv bm k) k (mz av k||mz bv k) (mo av am k||mo bv bm k)=zyv av am bv bm (k+1):=zlo (fun j=>mz av j||mz bv j) (fun j=>mo av am j||mo bv bm j) k
def zrs (av am bv bm:BitVec 64) (k:Nat):BitVec 64:=acc (fun j=>(mo av am j&&mo bv bm j)&&!(mz av j&&mz bv j)) k
def zqu (av am bv bm:BitVec 64) (k:Nat):BitVec 64:=acc (fun j=>(mo av am j&&mo bv bm j)&&(mz av j&&mz bv j)) k
theorem zpx (av am bv bm:BitVec 64) (k:Nat):putV (zrs av am bv bm k) k (mz av k&&mz bv k) (mo av am k&&mo bv bm k)=zrs av am bv bm (k+1):=zlq (fun j=>mz av j&&mz bv j) (fun j=>mo av am j&&mo bv bm j) k
theorem zpt (av am bv bm:BitVec 64) (k:Nat):putM (zqu av am bv bm k) k (mz av k&&mz bv k) (mo av am k&&mo bv bm k)=zqu av am bv bm (k+1):=zlo (fun j=>mz av j&&mz bv j) (fun j=>mo av am j&&mo bv bm j) k
def ziu (av am bv bm:BitVec 64) (j:Nat):Bool:=(mz av j&&mz bv j)||(mo av am j&&mo bv bm j)
def zee (up:Bool) (n j:Nat):Int:=if up then (j:Int) - n else (j:Int)+n
def shz (up:Bool) (v:BitVec 64) (n j:Nat):Bool:=if 0≤zee up n j∧zee up n j≤63 then mz v (zee up n j).toNat else true
def sho (up:Bool) (v m:BitVec 64) (n j:Nat):Bool:=if 0≤zee up n j∧zee up n j≤63 then mo v m (zee up n j).toNat else false
def shV (up:Bool) (v m:BitVec 64) (n k:Nat):BitVec 64:=acc (fun j=>sho up v m n j&&!shz up v n j) k
def shM (up:Bool) (v m:BitVec 64) (n k:Nat):BitVec 64:=acc (fun j=>sho up v m n j&&shz up v n j) k
theorem zlw (up:Bool) (v m:BitVec 64) (n k:Nat):putV (shV up v m n k) k (shz up v n k) (sho up v m n k)=shV up v m n (k+1):=zlq (shz up v n) (sho up v m n) k
theorem zlt (up:Bool) (v m:BitVec 64) (n k:Nat):putM (shM up v m n k) k (shz up v n k) (sho up v m n k)=shM up v m n (k+1):=zlo (shz up v n) (sho up v m n) k
theorem yamb (up:Bool) (v m:BitVec 64) (n k i:Nat) (h:zee up n k=i) (hi:i<64):mz v i=shz up v n k∧mo v m i=sho up v m n k:=by
 unfold shz sho
 rw [h,if_pos (by omega),if_pos (by omega),Int.toNat_natCast]
 exact ⟨rfl,rfl⟩
theorem yabh (up:Bool) (v m:BitVec 64) (n k:Nat) (h:¬ (0≤zee up n k∧zee up n k≤63)):true=shz up v n k∧false=sho up v m n k:=by
 unfold shz sho
 rw [if_neg h,if_neg h]
 exact ⟨rfl,rfl⟩
def zgp (l h:BitVec 64):Nat→Bool
 | 0=>true
 | c+1=>zgp l h c&&(bit l (63 - c)==bit h (63 - c))
def spz (l h:BitVec 64) (j:Nat):Bool:=!zgp l h (64 - j)||!bit l j
def spo (l h:BitVec 64) (j:Nat):Bool:=!zgp l h (64 - j)||bit l j
def zxo (l h:BitVec 64) (c:Nat):BitVec 64:=accd (fun j=>spo l h j&&!spz l h j) c
def zzq (l h:BitVec 64) (c:Nat):BitVec 64:=accd (fun j=>spo l h j&&spz l h j) c
theorem yac4 (l h:BitVec 64) (c i:Nat) (hi:i=63 - c):putV (zxo l h c) i (spz l h i) (spo l h i)=zxo l h (c+1):=yaii (spz l h) (spo l h) c i hi
theorem yafr (l h:BitVec 64) (c i:Nat) (hi:i=63 - c):putM (zzq l h c) i (spz l h i) (spo l h i)=zzq l h (c+1):=yal0 (spz l h) (spo l h) c i hi
theorem yasb (l h:BitVec 64) (c i:Nat) (hi:i=63 - c) (hc:c<64):zgp l h (c+1)=(zgp l h c&&(bit l i==bit h i))
  ∧ spz l h i=(!(zgp l h c&&(bit l i==bit h i))||!bit l i)∧spo l h i=(!(zgp l h c&&(bit l i==bit h i))||bit l i):=by
 have e:zgp l h (c+1)=(zgp l h c&&(bit l i==bit h i)):=by rw [hi];rfl
 refine ⟨e,?_,?_⟩
 ·unfold spz;rw [show 64 - i=c+1 by omega,e]
 ·unfold spo;rw [show 64 - i=c+1 by omega,e]
theorem yabx (f:Nat→Bool) (n:Nat):(∀ j,j<n→f j=true)∨∃ j,j<n∧f j=false∧∀ i,i<j→f i=true:=by
 induction n with
 | zero=>exact Or.inl fun j h=>absurd h (Nat.not_lt_zero j)
 | succ n ih =>
  rcases ih with h | ⟨j,hj,hf,hb⟩
  ·cases hn:f n with
   | true=>exact Or.inl fun j hj=>(Nat.lt_or_eq_of_le (Nat.le_of_lt_succ hj)).elim (h j) (fun e=>by rw [e,hn])
   | false=>exact Or.inr ⟨n,Nat.lt_succ_self n,hn,h⟩
  ·exact Or.inr ⟨j,by omega,hf,hb⟩
end Go.Proofs.YtkigmocchaikgabGreatDoor
namespace Go.Proofs.YtkigmocchaikgabGreatDoor
open Go.ChangeShapes Go.WideShapes Go.ChangeAt Go.RowKit Go.Joins
theorem Tryz.own:ownKnob Tryz.prog.godebug=none:=by kernel_rfl
theorem Tryz.laidOut:laidOutB Tryz.prog=true:=by kernel_rfl
end Go.Proofs.YtkigmocchaikgabGreatDoor
namespace Go.Proofs.YtkigmocchaikgabGreatDoor
def numB (op:Int) (x y:BitVec 64):BitVec 64 :=
 if op=2 then badd x y else if op=3 then bsub x y else if op=4 then bmul x y else if op=5 then band x y else if op=6 then bor x y else bxor x y
def six (y:BitVec 64):Nat:=(nv (band y 63#64)).toNat
theorem zna (y:BitVec 64):six y<64:=by
 unfold six nv band
 rw [BitVec.toNat_and]
 have:y.toNat &&& (63#64).toNat≤(63#64).toNat:=Nat.and_le_right
 have h63:(63#64).toNat=63:=rfl
 omega
theorem zvy (y:BitVec 64):nv (band y 63#64)=(six y:Int):=by
 unfold six;have:=zca (band y 63#64);omega
def numN (op:Int) (x y:BitVec 64):BitVec 64 :=
 if op=1 then y else if 2≤op∧op≤7 then numB op x y else if op=8 then bshl x (six y) else bshr x (six y)
def cy (x y:BitVec 64) (i:Nat):Bool:=BitVec.carry i x y false
theorem zmh (x y:BitVec 64):cy x y 0=false:=by unfold cy;rw [BitVec.carry_zero]
theorem zj6 (x y:BitVec 64) (i:Nat):cy x y (i+1)=((bit x i&&bit y i)||(cy x y i&&(bit x i||bit y i))):=by
 unfold cy bit
 rw [BitVec.carry_succ]
 unfold Bool.atLeastTwo
 cases x.getLsbD i <;> cases y.getLsbD i <;> cases BitVec.carry i x y false <;> rfl
theorem zh8 (x y:BitVec 64) (i:Nat) (hi:i<64):bit (badd x y) i=(bit x i ^^ bit y i ^^ cy x y i):=by
 unfold bit badd cy
 rw [BitVec.getLsbD_add hi]
 cases x.getLsbD i <;> cases y.getLsbD i <;> cases BitVec.carry i x y false <;> rfl
theorem zn9 (x y x' y':BitVec 64) (hx:∀ j,bit x j=true→bit x' j=true) (hy:∀ j,bit y j=true→bit y' j=true) (i:Nat):cy x y i=true→cy x' y' i=true:=by
 induction i with
 | zero=>intro h;rw [zmh] at h;cases h
 | succ i ih =>
  rw [zj6,zj6]
  have h1:=hx i;have h2:=hy i
  revert ih h1 h2
  cases bit x i <;> cases bit y i <;> cases cy x y i <;> cases bit x' i <;> cases bit y' i <;> cases cy x' y' i <;> simp
theorem has_iff (v m x:BitVec 64):eqb (bandn x m) v=true↔∀ j,j<64→(bit x j&&!bit m j)=bit v j:=by
 rw [zdm]
 constructor
 ·intro h j hj;rw [← zas _ _ _ hj,h]
 ·intro h;apply yafx;intro j hj;rw [zas _ _ _ hj];exact h j hj
theorem yabi {v m:BitVec 64} (hr:∀ j,(bit v j&&bit m j)=false):badd v m=bor v m:=by
 have hc:∀ i,cy v m i=false:=by
  intro i
  induction i with
  | zero=>exact zmh _ _
  | succ i ih =>
   rw [zj6,ih]
   have:=hr i
   revert this
   cases bit v i <;> cases bit m i <;> simp
 apply yafx;intro j hj
 rw [zh8 _ _ _ hj,hc j,zap]
 have:=hr j
 revert this
 cases bit v j <;> cases bit m j <;> simp
theorem yapq (a b c d:BitVec 64):badd (badd (badd a b) c) d=badd (badd a c) (badd b d):=by
 unfold badd
 rw [BitVec.add_assoc,BitVec.add_assoc,BitVec.add_assoc]
 congr 1
 rw [← BitVec.add_assoc,← BitVec.add_assoc,BitVec.add_comm b c]
theorem zsc {av am bv bm:BitVec 64} (ha:∀ j,(bit av j&&bit am j)=false) (hb:∀ j,(bit bv j&&bit bm j)=false) (j:Nat) (hj:j<64) :
  bit (bor (bor (bxor (badd av bv) (badd (badd (badd av bv) am) bm)) am) bm) j=(bit am j||bit bm j||(!cy av bv j&&cy (bor av am) (bor bv bm) j)):=by
 rw [zap,zap,zbl,yapq,yabi ha,yabi hb,zh8 _ _ _ hj,zh8 _ _ _ hj,zap,zap]
 have hm:=zn9 av bv (bor av am) (bor bv bm) (fun i h=>by rw [zap,h];rfl) (fun i h=>by rw [zap,h];rfl) j
 have h1:=ha j;have h2:=hb j
 revert hm h1 h2
 cases bit av j <;> cases bit am j <;> cases bit bv j <;> cases bit bm j <;> cases cy av bv j <;> cases cy (bor av am) (bor bv bm) j <;> simp
theorem zvw {av am bv bm x y:BitVec 64} (ha:∀ j,(bit av j&&bit am j)=false) (hb:∀ j,(bit bv j&&bit bm j)=false)
  (hx:∀ j,j<64→(bit x j&&!bit am j)=bit av j) (hy:∀ j,j<64→(bit y j&&!bit bm j)=bit bv j) (M:BitVec 64)
  (hM:M=bor (bor (bxor (badd av bv) (badd (badd (badd av bv) am) bm)) am) bm):∀ j,j<64→(bit (badd x y) j&&!bit M j)=bit (bandn (badd av bv) M) j:=by
 intro j hj
 rw [zas _ _ _ hj,hM,zsc ha hb j hj,zh8 _ _ _ hj,zh8 _ _ _ hj]
 have lx:∀ i,bit av i=true→bit x i=true:=fun i h=>by
  by_cases hi:i<64
  ·have:=hx i hi;rw [h] at this;revert this;cases bit x i <;> simp
  ·rw [zba _ _ (by omega)] at h;cases h
 have ly:∀ i,bit bv i=true→bit y i=true:=fun i h=>by
  by_cases hi:i<64
  ·have:=hy i hi;rw [h] at this;revert this;cases bit y i <;> simp
  ·rw [zba _ _ (by omega)] at h;cases h
 have ux:∀ i,bit x i=true→bit (bor av am) i=true:=fun i h=>by
  by_cases hi:i<64
  ·have:=hx i hi;rw [zap];rw [h] at this;revert this;cases bit av i <;> cases bit am i <;> simp
  ·rw [zba _ _ (by omega)] at h;cases h
 have uy:∀ i,bit y i=true→bit (bor bv bm) i=true:=fun i h=>by
  by_cases hi:i<64
  ·have:=hy i hi;rw [zap];rw [h] at this;revert this;cases bit bv i <;> cases bit bm i <;> simp
  ·rw [zba _ _ (by omega)] at h;cases h
 have m1:=zn9 av bv x y lx ly j
 have m2:=zn9 x y (bor av am) (bor bv bm) ux uy j
 have h1:=hx j hj;have h2:=hy j hj
 revert m1 m2 h1 h2
 cases bit x j <;> cases bit y j <;> cases bit av j <;> cases bit am j <;> cases bit bv j <;> cases bit bm j <;> cases cy av bv j <;> cases cy x y j <;> cases cy (bor av am) (bor bv bm) j <;> simp
theorem yal1 (x y:BitVec 64):bsub x y=bnot (badd (bnot x) y):=by
 unfold bsub bnot badd
 apply BitVec.eq_of_toNat_eq
 rw [BitVec.toNat_sub,BitVec.toNat_not,BitVec.toNat_add,BitVec.toNat_not]
 have:=x.isLt;have:=y.isLt
 omega
def bw (x y:BitVec 64) (i:Nat):Bool:=cy (bnot x) y i
theorem zj4 (x y:BitVec 64) (i:Nat) (hi:i<64):bit (bsub x y) i=(bit x i ^^ bit y i ^^ bw x y i):=by
 rw [yal1,zdl _ _ hi,zh8 _ _ _ hi,zdl _ _ hi]
 unfold bw
 cases bit x i <;> cases bit y i <;> cases cy (bnot x) y i <;> rfl
theorem zxj (x y:BitVec 64):bw x y 0=false:=zmh _ _
theorem zyr (x y:BitVec 64) (i:Nat) (hi:i<64):bw x y (i+1)=((!bit x i&&bit y i)||(bw x y i&&(!bit x i||bit y i))):=by
 unfold bw;rw [zj6,zdl _ _ hi]
theorem zg1 (x y x' y':BitVec 64) (hx:∀ j,bit x' j=true→bit x j=true) (hy:∀ j,bit y j=true→bit y' j=true) (i:Nat):bw x y i=true→bw x' y' i=true:=by
 unfold bw
 refine zn9 _ _ _ _ (fun j h=>?_) hy i
 by_cases hj:j<64
 ·rw [zdl _ _ hj] at h ⊢
  have:=hx j
  revert this h
  cases bit x j <;> cases bit x' j <;> simp
 ·rw [zba _ _ (by omega)] at h;cases h
theorem yau5 (a b c:BitVec 64):badd (bsub a b) c=bsub (badd a c) b:=by
 unfold badd bsub
 apply BitVec.eq_of_toNat_eq
 simp only [BitVec.toNat_add,BitVec.toNat_sub]
 have:=a.isLt;have:=b.isLt;have:=c.isLt
 omega
theorem sub_sub (a b c:BitVec 64):bsub (bsub a b) c=bsub a (badd b c):=by
 unfold badd bsub
 apply BitVec.eq_of_toNat_eq
 simp only [BitVec.toNat_add,BitVec.toNat_sub]
 have:=a.isLt;have:=b.isLt;have:=c.isLt
 omega
theorem zr1 {av am bv bm:BitVec 64} (ha:∀ j,(bit av j&&bit am j)=false) (hb:∀ j,(bit bv j&&bit bm j)=false) (j:Nat) (hj:j<64) :
  bit (bor (bor (bxor (badd (bsub av bv) am) (bsub (bsub av bv) bm)) am) bm) j=(bit am j||bit bm j||(!bw (bor av am) bv j&&bw av (bor bv bm) j)):=by
 rw [zap,zap,zbl,yau5,sub_sub,yabi ha,yabi hb,zj4 _ _ _ hj,zj4 _ _ _ hj,zap,zap]
 have hm:=zg1 (bor av am) bv av (bor bv bm) (fun i h=>by rw [zap,h];rfl) (fun i h=>by rw [zap,h];rfl) j
 have h1:=ha j;have h2:=hb j
 revert hm h1 h2
 cases bit av j <;> cases bit am j <;> cases bit bv j <;> cases bit bm j <;> cases bw (bor av am) bv j <;> cases bw av (bor bv bm) j <;> simp
theorem yax0 {v m x:BitVec 64} (hx:∀ j,j<64→(bit x j&&!bit m j)=bit v j) (i:Nat) (h:bit v i=true):bit x i=true:=by
 by_cases hi:i<64
 ·have:=hx i hi;rw [h] at this;revert this;cases bit x i <;> simp
 ·rw [zba _ _ (by omega)] at h;cases h
theorem yatg {v m x:BitVec 64} (hx:∀ j,j<64→(bit x j&&!bit m j)=bit v j) (i:Nat) (h:bit x i=true):bit (bor v m) i=true:=by
 by_cases hi:i<64
 ·have:=hx i hi;rw [zap];rw [h] at this;revert this;cases bit v i <;> cases bit m i <;> simp
 ·rw [zba _ _ (by omega)] at h;cases h
theorem yag2 {av am bv bm x y:BitVec 64} (ha:∀ j,(bit av j&&bit am j)=false) (hb:∀ j,(bit bv j&&bit bm j)=false)
  (hx:∀ j,j<64→(bit x j&&!bit am j)=bit av j) (hy:∀ j,j<64→(bit y j&&!bit bm j)=bit bv j) (M:BitVec 64)
  (hM:M=bor (bor (bxor (badd (bsub av bv) am) (bsub (bsub av bv) bm)) am) bm):∀ j,j<64→(bit (bsub x y) j&&!bit M j)=bit (bandn (bsub av bv) M) j:=by
 intro j hj
 rw [zas _ _ _ hj,hM,zr1 ha hb j hj,zj4 _ _ _ hj,zj4 _ _ _ hj]
 have m1:=zg1 (bor av am) bv x y (yatg hx) (yax0 hy) j
 have m2:=zg1 x y av (bor bv bm) (yax0 hx) (yatg hy) j
 have m3:=zg1 (bor av am) bv av bv (fun i h=>by rw [zap,h];rfl) (fun i h=>h) j
 have m4:=zg1 av bv av (bor bv bm) (fun i h=>h) (fun i h=>by rw [zap,h];rfl) j
 have h1:=hx j hj;have h2:=hy j hj
 revert m1 m2 m3 m4 h1 h2
 cases bit x j <;> cases bit y j <;> cases bit av j <;> cases bit am j <;> cases bit bv j <;> cases bit bm j <;> cases bw (bor av am) bv j <;> cases bw x y j <;> cases bw av bv j <;> cases bw av (bor bv bm) j <;> simp
end Go.Proofs.YtkigmocchaikgabGreatDoor
namespace Go.Proofs.YtkigmocchaikgabGreatDoor
open Go.RowKit
section
attribute [local go_sem] zdb w_or zdd za3 zb4 zbd zc9 zc4 zda zbw zby zcz zb0 zdc zcn zc0 zb1 zbx zb2 zbz za1
theorem bk {W w1:World} (B:Nat) (hb:Below W.heap.size W w1) (h:B≤W.heap.size) :
  (∀ b o,b<B→w1.cell? ⟨b,o,none⟩=W.cell? ⟨b,o,none⟩)∧(∀ b o,b<B→w1.frozen? ⟨b,o,none⟩=W.frozen? ⟨b,o,none⟩)∧B≤w1.heap.size :=
 ⟨fun b o k=>hb.cell (p:=⟨b,o,none⟩) (Nat.lt_of_lt_of_le k h),fun b o k=>hb.frozen (p:=⟨b,o,none⟩) (Nat.lt_of_lt_of_le k h),Nat.le_trans h hb.size⟩
theorem bl {W w1:World} {B:Nat} (hb:Below B W w1) :
  (∀ b o,b<B→w1.cell? ⟨b,o,none⟩=W.cell? ⟨b,o,none⟩)∧(∀ b o,b<B→w1.frozen? ⟨b,o,none⟩=W.frozen? ⟨b,o,none⟩) :=
 ⟨fun b o k=>hb.cell (p:=⟨b,o,none⟩) k,fun b o k=>hb.frozen (p:=⟨b,o,none⟩) k⟩
theorem yaw3 {w:World} {b:Nat} {u x y:Value} (h:w.cell? ⟨b,0,none⟩=some u):((w.setCell ⟨b,0,none⟩ x).setCell ⟨b,1,none⟩ y).cell? ⟨b,0,none⟩=some x:=by
 rw [World.cell?_setCell_other _ _ _ _ (by simp),World.cell?_setCell_same _ _ _ h]
theorem yaxb {w:World} {b:Nat} {u x y:Value} (h:w.cell? ⟨b,1,none⟩=some u):((w.setCell ⟨b,0,none⟩ x).setCell ⟨b,1,none⟩ y).cell? ⟨b,1,none⟩=some y:=by
 have:(w.setCell ⟨b,0,none⟩ x).cell? ⟨b,1,none⟩=some u:=by rw [World.cell?_setCell_other _ _ _ _ (by simp),h]
 rw [World.cell?_setCell_same _ _ _ this]
theorem yact {w W:World} {B b:Nat} {x y:Value} (h:Below B w W) (hb:B≤b):Below B w ((W.setCell ⟨b,0,none⟩ x).setCell ⟨b,1,none⟩ y):=(h.setCell hb x).setCell hb y
theorem zeh {W wr w3:World} {B:Nat} {x y x' y':BitVec 64} (hbel:Below B W wr) (hb:Below wr.heap.size wr w3) (hsz:B+1≤wr.heap.size)
  {u0 u1:Value} (h0:wr.cell? ⟨B,0,none⟩=some u0) (h1:wr.cell? ⟨B,1,none⟩=some u1) (hf:∀ o,wr.frozen? ⟨B,o,none⟩=false) (ex:x=x') (ey:y=y') :
  Below B W ((w3.setCell ⟨B,0,none⟩ (.int .u64 (nv x))).setCell ⟨B,1,none⟩ (.int .u64 (nv y)))
  ∧ ((w3.setCell ⟨B,0,none⟩ (.int .u64 (nv x))).setCell ⟨B,1,none⟩ (.int .u64 (nv y))).cell? ⟨B,0,none⟩=some (U x')
  ∧ ((w3.setCell ⟨B,0,none⟩ (.int .u64 (nv x))).setCell ⟨B,1,none⟩ (.int .u64 (nv y))).cell? ⟨B,1,none⟩=some (U y')
  ∧ (∀ o,((w3.setCell ⟨B,0,none⟩ (.int .u64 (nv x))).setCell ⟨B,1,none⟩ (.int .u64 (nv y))).frozen? ⟨B,o,none⟩=false)
  ∧ B+1≤((w3.setCell ⟨B,0,none⟩ (.int .u64 (nv x))).setCell ⟨B,1,none⟩ (.int .u64 (nv y))).heap.size:=by
 subst ex;subst ey
 obtain ⟨hc,hfr,hs⟩:=bk (B+1) hb hsz
 refine ⟨yact (hbel.trans (hb.mono (by omega))) (Nat.le_refl _),yaw3 ((hc B 0 (by omega)).trans h0),yaxb ((hc B 1 (by omega)).trans h1),fun o=>?_,?_⟩
 ·simp only [World.frozen?_setCell];exact (hfr B o (by omega)).trans (hf o)
 ·simp only [World.size_setCell];exact hs
theorem yaag {W wr w3:World} {B:Nat} {x y x' y':BitVec 64} (hbel:Below B W wr) (hb:Below wr.heap.size wr w3) (hsz:B+1≤wr.heap.size)
  (h0:wr.cell? ⟨B,0,none⟩=some (U x)) (h1:wr.cell? ⟨B,1,none⟩=some (U y)) (hf:∀ o,wr.frozen? ⟨B,o,none⟩=false) (ex:x=x') (ey:y=y') :
  Below B W w3∧w3.cell? ⟨B,0,none⟩=some (U x')∧w3.cell? ⟨B,1,none⟩=some (U y')∧(∀ o,w3.frozen? ⟨B,o,none⟩=false)∧B+1≤w3.heap.size:=by
 subst ex;subst ey
 obtain ⟨hc,hfr,hs⟩:=bk (B+1) hb hsz
 exact ⟨hbel.trans (hb.mono (by omega)),(hc B 0 (by omega)).trans h0,(hc B 1 (by omega)).trans h1,fun o=>(hfr B o (by omega)).trans (hf o),hs⟩
set_option maxHeartbeats 400000 in
theorem zex (x y:BitVec 64) (w:World) :
  Calls Tryz.prog 180 #[U x,U y] w fun e w'=>e=.returned (Bt (bandn x y) y)∧Below w.heap.size w w':=by
 go_enter Tryz.func180,Tryz.ntmps180
 go_wp2
 exact bodyPost_ret (v:=Bt (bandn x y) y) (by simp [results,Tryz.results180,go_sem]) rfl ⟨rfl,(by repeat (first | exact Below.refl _ _ | assumption | refine below_drewN ?_ _ | refine Below.drew ?_ | refine Below.alloc ?_ (by first | exact Nat.le_refl _ | (simp;done) | (simp;omega) | omega) _ | refine Below.setCell ?_ (by first | exact Nat.le_refl _ | (simp;done) | (simp;omega) | omega) _ | refine Below.trans ?_ (Below.mono (by assumption) (by first | exact Nat.le_refl _ | (simp;done) | (simp;omega) | omega))))⟩
set_option maxHeartbeats 400000 in
theorem yaqa (v m:BitVec 64) (i:Nat) (hi:i<64) (w:World) :
  Calls Tryz.prog 220 #[Bt v m,.int .u64 i] w fun e w'=>e=.returned (Bt (bshl v i) (bshl m i))∧Below w.heap.size w w':=by
 go_enter Tryz.func220,Tryz.ntmps220
 go_wp2
 exact bodyPost_ret (v:=Bt (bshl v i) (bshl m i)) (by simp [results,Tryz.results220,go_sem]) rfl ⟨rfl,(by repeat (first | exact Below.refl _ _ | assumption | refine below_drewN ?_ _ | refine Below.drew ?_ | refine Below.alloc ?_ (by first | exact Nat.le_refl _ | (simp;done) | (simp;omega) | omega) _ | refine Below.setCell ?_ (by first | exact Nat.le_refl _ | (simp;done) | (simp;omega) | omega) _ | refine Below.trans ?_ (Below.mono (by assumption) (by first | exact Nat.le_refl _ | (simp;done) | (simp;omega) | omega))))⟩
set_option maxHeartbeats 400000 in
theorem may0 (v m:BitVec 64) (i:Nat) (hi:i<64) (w:World) :
  Calls Tryz.prog 166 #[Bt v m,N i] w fun e w'=>e=.returned (.tuple #[.bool (!bit v i),.bool (bit v i||bit m i)])∧Below w.heap.size w w':=by
 have h1:=yaku v i hi
 have h3:=yaku m i hi
 cases hv:bit v i
 all_goals
  rw [hv] at h1
  clear hv
  go_enter Tryz.func166,Tryz.ntmps166
  go_wp2
  go_quiet (fail)
  go_wp2
  go_ret2
  exact ⟨rfl,(by repeat (first | exact Below.refl _ _ | assumption | refine below_drewN ?_ _ | refine Below.drew ?_ | refine Below.alloc ?_ (by first | exact Nat.le_refl _ | (simp;done) | (simp;omega) | omega) _ | refine Below.setCell ?_ (by first | exact Nat.le_refl _ | (simp;done) | (simp;omega) | omega) _ | refine Below.trans ?_ (Below.mono (by assumption) (by first | exact Nat.le_refl _ | (simp;done) | (simp;omega) | omega))))⟩
theorem zgy (v m:BitVec 64) (i:Nat):∃ z o,Hid (z=mz v i)∧Hid (o=mo v m i):=⟨_,_,rfl,rfl⟩
theorem zbj {v m:BitVec 64} {i:Nat} (hi:i<64) {z o:Bool} (hz:Hid (z=mz v i)) (ho:Hid (o=mo v m i)) (w:World) :
  Calls Tryz.prog 166 #[Bt v m,N i] w fun e w'=>e=.returned (.tuple #[.bool z,.bool o])∧Below w.heap.size w w':=by
 rw [hz.out,ho.out];exact may0 v m i hi w
set_option maxHeartbeats 400000 in
theorem zf8 (v m:BitVec 64) (i:Nat) (hi:i<64) (z o:Bool) (w:World) :
  Calls Tryz.prog 167 #[Bt v m,N i,.bool z,.bool o] w fun e w'=>e=.returned (Bt (putV v i z o) (putM m i z o))∧Below w.heap.size w w':=by
 cases z <;> cases o
 all_goals
  go_enter Tryz.func167,Tryz.ntmps167
  go_wp2
  refine bodyPost_ret (v:=_) (by simp [results,Tryz.results167,go_sem,putV,putM]) rfl ⟨rfl,(by repeat (first | exact Below.refl _ _ | assumption | refine below_drewN ?_ _ | refine Below.drew ?_ | refine Below.alloc ?_ (by first | exact Nat.le_refl _ | (simp;done) | (simp;omega) | omega) _ | refine Below.setCell ?_ (by first | exact Nat.le_refl _ | (simp;done) | (simp;omega) | omega) _ | refine Below.trans ?_ (Below.mono (by assumption) (by first | exact Nat.le_refl _ | (simp;done) | (simp;omega) | omega))))⟩
set_option maxHeartbeats 400000 in
theorem yaju (v m:BitVec 64) (w:World) :
  Calls Tryz.prog 210 #[Bt v m] w fun e w'=>e=.returned (.bool (eqb (band v m) zero))∧Below w.heap.size w w':=by
 go_enter Tryz.func210,Tryz.ntmps210
 go_wp2
 go_ret
 exact ⟨rfl,(by repeat (first | exact Below.refl _ _ | assumption | refine below_drewN ?_ _ | refine Below.drew ?_ | refine Below.alloc ?_ (by first | exact Nat.le_refl _ | (simp;done) | (simp;omega) | omega) _ | refine Below.setCell ?_ (by first | exact Nat.le_refl _ | (simp;done) | (simp;omega) | omega) _ | refine Below.trans ?_ (Below.mono (by assumption) (by first | exact Nat.le_refl _ | (simp;done) | (simp;omega) | omega))))⟩
theorem yao5 {v m:BitVec 64} {b:Bool} (h:eqb (band v m) zero=b) (w:World) :
  Calls Tryz.prog 210 #[Bt v m] w fun e w'=>e=.returned (.bool b)∧Below w.heap.size w w':=h ▸ yaju v m w
set_option maxHeartbeats 400000 in
theorem zp2 (n l h:Int) (w:World) :
  Calls Tryz.prog 35 #[N n,N l,N h] w fun e w'=>e=.returned (.bool (decide (l≤n∧n≤h)))∧w=w':=by
 by_cases h1:l≤n
 ·by_cases h2:n≤h
  all_goals
   go_enter Tryz.func35,Tryz.ntmps35
   go_wp2
   go_ret
   refine ⟨?_,rfl⟩
   simp [h1,h2] <;> omega
 ·go_enter Tryz.func35,Tryz.ntmps35
  go_wp2
  go_ret
  refine ⟨?_,rfl⟩
  simp <;> omega
theorem zqi {n l h:Int} (hd:l≤n∧n≤h) (w:World):Calls Tryz.prog 35 #[N n,N l,N h] w fun e w'=>e=.returned (.bool true)∧w=w':=by
 have:=zp2 n l h w
 rwa [decide_eq_true hd] at this
theorem zti {n l h:Int} (hd:¬ (l≤n∧n≤h)) (w:World):Calls Tryz.prog 35 #[N n,N l,N h] w fun e w'=>e=.returned (.bool false)∧w=w':=by
 have:=zp2 n l h w
 rwa [decide_eq_false hd] at this
end
section
attribute [local go_sem] zdb w_or zdd za3 zb4 zbd zc9 zc4 zda zbw zby zcz zb0 zdc zcn zc0 zb1 zbx zb2 zbz za1
def hasB (v m x:BitVec 64):Bool:=eqb (band v m) zero&&eqb (bandn x m) v
set_option maxHeartbeats 400000 in
theorem zvs (v m x:BitVec 64) (w:World) :
  Calls Tryz.prog 190 #[Bt v m,U x] w fun e w'=>e=.returned (.bool (hasB v m x))∧Below w.heap.size w w':=by
 have Hh:Hid (hasB v m x=(eqb (band v m) zero&&eqb (bandn x m) v)):=rfl
 cases hr:eqb (band v m) zero
 all_goals
  rw [hr] at Hh
  have Hr:Hid (eqb (band v m) zero=_):=hr
  clear hr
  go_enter Tryz.func190,Tryz.ntmps190
  go_wp2_with fail
  refine (yao5 Hr.out _).mono ?_
  rintro e w1 ⟨rfl,hb1⟩
  obtain ⟨hc1,hf1,hs1⟩:=bk (w.heap.size+1) hb1 (by simp)
  go_wp2_with fail
  go_ret
  rw [Hh.out]
  exact ⟨rfl,(by repeat (first | exact Below.refl _ _ | assumption | refine below_drewN ?_ _ | refine Below.drew ?_ | refine Below.alloc ?_ (by first | exact Nat.le_refl _ | (simp;done) | (simp;omega) | omega) _ | refine Below.setCell ?_ (by first | exact Nat.le_refl _ | (simp;done) | (simp;omega) | omega) _ | refine Below.trans ?_ (Below.mono (by assumption) (by first | exact Nat.le_refl _ | (simp;done) | (simp;omega) | omega))))⟩
end
section
attribute [local go_sem] zdb w_or zdd za3 zb4 zbd zc9 zc4 zda zbw zby zcz zb0 zdc zcn zc0 zb1 zbx zb2 zbz za1
set_option maxHeartbeats 400000 in
theorem yai9 (v m:BitVec 64) (b c:Nat) (w:World) (_hbw:b<w.heap.size) (h0:w.cell? ⟨b,0,none⟩=some (U v)) (h1:w.cell? ⟨b,1,none⟩=some (U m)) (hr:eqb (band v m) zero=true) :
  Calls Tryz.prog 179 #[.slice (some ⟨b,0,none⟩) 1 c] w fun e w'=>e=.returned (N 0)∧Below w.heap.size w w':=by
 go_enter Tryz.func179,Tryz.ntmps179
 go_wp2
 go_rounds 2
 go_ret
 exact ⟨rfl,(by repeat (first | exact Below.refl _ _ | assumption | refine below_drewN ?_ _ | refine Below.drew ?_ | refine Below.alloc ?_ (by first | exact Nat.le_refl _ | (simp;done) | (simp;omega) | omega) _ | refine Below.setCell ?_ (by first | exact Nat.le_refl _ | (simp;done) | (simp;omega) | omega) _ | refine Below.trans ?_ (Below.mono (by assumption) (by first | exact Nat.le_refl _ | (simp;done) | (simp;omega) | omega))))⟩
set_option maxHeartbeats 400000 in
theorem yai2 (v m:BitVec 64) (b c:Nat) (w:World) (_hbw:b<w.heap.size) (h0:w.cell? ⟨b,0,none⟩=some (U v)) (h1:w.cell? ⟨b,1,none⟩=some (U m)) (hr:eqb (band v m) zero=false) :
  Calls Tryz.prog 179 #[.slice (some ⟨b,0,none⟩) 1 c] w fun e w'=>e=.returned (N 1)∧Below w.heap.size w w':=by
 go_enter Tryz.func179,Tryz.ntmps179
 go_wp2
 go_rounds 1
 go_ret
 exact ⟨rfl,(by repeat (first | exact Below.refl _ _ | assumption | refine below_drewN ?_ _ | refine Below.drew ?_ | refine Below.alloc ?_ (by first | exact Nat.le_refl _ | (simp;done) | (simp;omega) | omega) _ | refine Below.setCell ?_ (by first | exact Nat.le_refl _ | (simp;done) | (simp;omega) | omega) _ | refine Below.trans ?_ (Below.mono (by assumption) (by first | exact Nat.le_refl _ | (simp;done) | (simp;omega) | omega))))⟩
set_option maxHeartbeats 400000 in
theorem yall (v m v' m':BitVec 64) (b c:Nat) (w:World) (hbw:b<w.heap.size) (h0:w.cell? ⟨b,0,none⟩=some (U v)) (h1:w.cell? ⟨b,1,none⟩=some (U m)) (h2:w.cell? ⟨b,2,none⟩=some (U v')) (h3:w.cell? ⟨b,3,none⟩=some (U m'))
  (hr:eqb (band v m) zero=true) (hr':eqb (band v' m') zero=true) :
  Calls Tryz.prog 179 #[.slice (some ⟨b,0,none⟩) 2 c] w fun e w'=>e=.returned (N 0)∧Below w.heap.size w w':=by
 go_enter Tryz.func179,Tryz.ntmps179
 go_wp2
 refine wp_loop_rounds 3 ?_
 rw [rounds_succ];go_wp2
 rw [rounds_succ];go_wp2
 rw [rounds_succ];go_wp2
 go_ret
 exact ⟨rfl,(by repeat (first | exact Below.refl _ _ | assumption | refine below_drewN ?_ _ | refine Below.drew ?_ | refine Below.alloc ?_ (by first | exact Nat.le_refl _ | (simp;done) | (simp;omega) | omega) _ | refine Below.setCell ?_ (by first | exact Nat.le_refl _ | (simp;done) | (simp;omega) | omega) _ | refine Below.trans ?_ (Below.mono (by assumption) (by first | exact Nat.le_refl _ | (simp;done) | (simp;omega) | omega))))⟩
set_option maxHeartbeats 400000 in
theorem yaiz (v m v' m':BitVec 64) (b c:Nat) (w:World) (hbw:b<w.heap.size) (h0:w.cell? ⟨b,0,none⟩=some (U v)) (h1:w.cell? ⟨b,1,none⟩=some (U m)) (h2:w.cell? ⟨b,2,none⟩=some (U v')) (h3:w.cell? ⟨b,3,none⟩=some (U m'))
  (hr:(eqb (band v m) zero&&eqb (band v' m') zero)=false) :
  Calls Tryz.prog 179 #[.slice (some ⟨b,0,none⟩) 2 c] w fun e w'=>e=.returned (N 1)∧Below w.heap.size w w':=by
 cases hv:eqb (band v m) zero
 ·clear hr
  go_enter Tryz.func179,Tryz.ntmps179
  go_wp2
  refine wp_loop_rounds 3 ?_
  rw [rounds_succ];go_wp2
  go_ret
  exact ⟨rfl,(by repeat (first | exact Below.refl _ _ | assumption | refine below_drewN ?_ _ | refine Below.drew ?_ | refine Below.alloc ?_ (by first | exact Nat.le_refl _ | (simp;done) | (simp;omega) | omega) _ | refine Below.setCell ?_ (by first | exact Nat.le_refl _ | (simp;done) | (simp;omega) | omega) _ | refine Below.trans ?_ (Below.mono (by assumption) (by first | exact Nat.le_refl _ | (simp;done) | (simp;omega) | omega))))⟩
 ·have hr':eqb (band v' m') zero=false:=by rw [hv] at hr;simpa using hr
  clear hr
  go_enter Tryz.func179,Tryz.ntmps179
  go_wp2
  refine wp_loop_rounds 3 ?_
  rw [rounds_succ];go_wp2
  rw [rounds_succ];go_wp2
  go_ret
  exact ⟨rfl,(by repeat (first | exact Below.refl _ _ | assumption | refine below_drewN ?_ _ | refine Below.drew ?_ | refine Below.alloc ?_ (by first | exact Nat.le_refl _ | (simp;done) | (simp;omega) | omega) _ | refine Below.setCell ?_ (by first | exact Nat.le_refl _ | (simp;done) | (simp;omega) | omega) _ | refine Below.trans ?_ (Below.mono (by assumption) (by first | exact Nat.le_refl _ | (simp;done) | (simp;omega) | omega))))⟩
def er (b:Bool):Int:=if b then 0 else 1
theorem er_t:er true=0:=rfl
theorem er_f:er false=1:=rfl
theorem zi8 {v m:BitVec 64} {r:Bool} (hr:Hid (eqb (band v m) zero=r)) {b c:Nat} {w:World} (hbw:b<w.heap.size) (h0:w.cell? ⟨b,0,none⟩=some (U v)) (h1:w.cell? ⟨b,1,none⟩=some (U m)) :
  Calls Tryz.prog 179 #[.slice (some ⟨b,0,none⟩) 1 c] w fun e w'=>e=.returned (N (er r))∧Below w.heap.size w w':=by
 cases r
 ·exact yai2 v m b c w hbw h0 h1 hr.out
 ·exact yai9 v m b c w hbw h0 h1 hr.out
theorem zfj {v m v' m':BitVec 64} {r:Bool} (hr:Hid ((eqb (band v m) zero&&eqb (band v' m') zero)=r)) {b c:Nat} {w:World} (hbw:b<w.heap.size) (h0:w.cell? ⟨b,0,none⟩=some (U v)) (h1:w.cell? ⟨b,1,none⟩=some (U m)) (h2:w.cell? ⟨b,2,none⟩=some (U v')) (h3:w.cell? ⟨b,3,none⟩=some (U m')) :
  Calls Tryz.prog 179 #[.slice (some ⟨b,0,none⟩) 2 c] w fun e w'=>e=.returned (N (er r))∧Below w.heap.size w w':=by
 cases r
 ·exact yaiz v m v' m' b c w hbw h0 h1 h2 h3 hr.out
 ·have h:=hr.out
  rw [Bool.and_eq_true] at h
  exact yall v m v' m' b c w hbw h0 h1 h2 h3 h.1 h.2
set_option maxHeartbeats 400000 in
theorem zto {v m:BitVec 64} {r:Bool} (hr:Hid (eqb (band v m) zero=r)) (w:World) :
  Calls Tryz.prog 184 #[Bt v m] w fun e w'=>e=.returned (N (er r))∧Below w.heap.size w w':=by
 go_enter Tryz.func184,Tryz.ntmps184
 go_wp2_with fail
 refine (zi8 hr (by simp) (by simp [go_sem]) (by simp [go_sem])).mono ?_
 rintro e w1 ⟨rfl,hb1⟩
 go_wp2_with fail
 go_ret
 exact ⟨rfl,(by repeat (first | exact Below.refl _ _ | assumption | refine below_drewN ?_ _ | refine Below.drew ?_ | refine Below.alloc ?_ (by first | exact Nat.le_refl _ | (simp;done) | (simp;omega) | omega) _ | refine Below.setCell ?_ (by first | exact Nat.le_refl _ | (simp;done) | (simp;omega) | omega) _ | refine Below.trans ?_ (Below.mono (by assumption) (by first | exact Nat.le_refl _ | (simp;done) | (simp;omega) | omega))))⟩
set_option maxHeartbeats 400000 in
theorem yas5 (v m x:BitVec 64) (w:World) :
  Calls Tryz.prog 141 #[Bt v m,U x] w fun e w'=>e=.returned (.bool (hasB v m x))∧Below w.heap.size w w':=by
 have Hh:Hid (hasB v m x=(eqb (band v m) zero&&eqb (bandn x m) v)):=rfl
 cases hr:eqb (band v m) zero
 all_goals
  rw [hr] at Hh
  have Hr:Hid (eqb (band v m) zero=_):=hr
  clear hr
  go_enter Tryz.func141,Tryz.ntmps141
  go_wp2_with fail
  refine (zi8 Hr (by simp) (by simp [go_sem]) (by simp [go_sem])).mono ?_
  rintro e w1 ⟨rfl,hb1⟩
  obtain ⟨hc1,hf1,hs1⟩:=bk (w.heap.size+1) hb1 (by simp)
  first | rw [er_t] | rw [er_f]
  go_wp2_with fail
  go_ret
  rw [Hh.out]
  exact ⟨rfl,(by repeat (first | exact Below.refl _ _ | assumption | refine below_drewN ?_ _ | refine Below.drew ?_ | refine Below.alloc ?_ (by first | exact Nat.le_refl _ | (simp;done) | (simp;omega) | omega) _ | refine Below.setCell ?_ (by first | exact Nat.le_refl _ | (simp;done) | (simp;omega) | omega) _ | refine Below.trans ?_ (Below.mono (by assumption) (by first | exact Nat.le_refl _ | (simp;done) | (simp;omega) | omega))))⟩
def insB (av am bv bm:BitVec 64):Bool:=(eqb (band av am) zero&&eqb (band bv bm) zero)&&(eqb (bandn am bm) zero&&eqb (bandn av bm) bv)
set_option maxHeartbeats 400000 in
theorem yaf4 (av am bv bm:BitVec 64) (w:World) :
  Calls Tryz.prog 143 #[Bt av am,Bt bv bm] w fun e w'=>e=.returned (.bool (insB av am bv bm))∧Below w.heap.size w w':=by
 have Hh:Hid (insB av am bv bm=((eqb (band av am) zero&&eqb (band bv bm) zero)&&(eqb (bandn am bm) zero&&eqb (bandn av bm) bv))):=rfl
 cases hr:(eqb (band av am) zero&&eqb (band bv bm) zero)
 ·rw [hr] at Hh
  have Hr:Hid _:=hr
  clear hr
  go_enter Tryz.func143,Tryz.ntmps143
  go_wp2_with fail
  refine (zfj Hr (by simp) (by simp [go_sem]) (by simp [go_sem]) (by simp [go_sem]) (by simp [go_sem])).mono ?_
  rintro e w1 ⟨rfl,hb1⟩
  obtain ⟨hc1,hf1,hs1⟩:=bk (w.heap.size+1+1) hb1 (by simp)
  first | rw [er_t] | rw [er_f]
  go_wp2_with fail
  go_ret
  rw [Hh.out]
  exact ⟨rfl,(by repeat (first | exact Below.refl _ _ | assumption | refine below_drewN ?_ _ | refine Below.drew ?_ | refine Below.alloc ?_ (by first | exact Nat.le_refl _ | (simp;done) | (simp;omega) | omega) _ | refine Below.setCell ?_ (by first | exact Nat.le_refl _ | (simp;done) | (simp;omega) | omega) _ | refine Below.trans ?_ (Below.mono (by assumption) (by first | exact Nat.le_refl _ | (simp;done) | (simp;omega) | omega))))⟩
 ·rw [hr] at Hh
  have Hr:Hid _:=hr
  clear hr
  cases hm:eqb (bandn am bm) zero
  all_goals
   rw [hm] at Hh
   go_enter Tryz.func143,Tryz.ntmps143
   go_wp2_with fail
   refine (zfj Hr (by simp) (by simp [go_sem]) (by simp [go_sem]) (by simp [go_sem]) (by simp [go_sem])).mono ?_
   rintro e w1 ⟨rfl,hb1⟩
   obtain ⟨hc1,hf1,hs1⟩:=bk (w.heap.size+1+1) hb1 (by simp)
   first | rw [er_t] | rw [er_f]
   go_wp2_with fail
   go_ret
   rw [Hh.out]
   exact ⟨rfl,(by repeat (first | exact Below.refl _ _ | assumption | refine below_drewN ?_ _ | refine Below.drew ?_ | refine Below.alloc ?_ (by first | exact Nat.le_refl _ | (simp;done) | (simp;omega) | omega) _ | refine Below.setCell ?_ (by first | exact Nat.le_refl _ | (simp;done) | (simp;omega) | omega) _ | refine Below.trans ?_ (Below.mono (by assumption) (by first | exact Nat.le_refl _ | (simp;done) | (simp;omega) | omega))))⟩
def jM (av am bv bm:BitVec 64):BitVec 64:=bor (bor am bm) (bxor av bv)
set_option maxHeartbeats 400000 in
theorem join_ok {av am bv bm:BitVec 64} (hr:Hid ((eqb (band av am) zero&&eqb (band bv bm) zero)=true)) (w:World) :
  Calls Tryz.prog 157 #[Bt av am,Bt bv bm] w fun e w'=>e=.returned (.tuple #[Bt (bandn av (jM av am bv bm)) (jM av am bv bm),N 0])∧Below w.heap.size w w':=by
 go_enter Tryz.func157,Tryz.ntmps157
 go_wp2_with fail
 refine (zfj hr (by simp) (by simp [go_sem]) (by simp [go_sem]) (by simp [go_sem]) (by simp [go_sem])).mono ?_
 rintro e w1 ⟨rfl,hb1⟩
 obtain ⟨hc1,hf1,hs1⟩:=bk (w.heap.size+1+1+1) hb1 (by simp)
 first | rw [er_t] | rw [er_f]
 go_wp2_with fail
 refine (zex _ _ _).mono ?_
 rintro e w2 ⟨rfl,hb2⟩
 obtain ⟨hc2,hf2,hs2⟩:=bk (w.heap.size+1+1+1) hb2 (by omega)
 go_wp2_with fail
 exact bodyPost_ret (v:=.tuple #[Bt (bandn av (jM av am bv bm)) (jM av am bv bm),N 0]) (by simp [results,Tryz.results157,go_sem,hc1,hc2,jM]) rfl ⟨rfl,(by repeat (first | exact Below.refl _ _ | assumption | refine below_drewN ?_ _ | refine Below.drew ?_ | refine Below.alloc ?_ (by first | exact Nat.le_refl _ | (simp;done) | (simp;omega) | omega) _ | refine Below.setCell ?_ (by first | exact Nat.le_refl _ | (simp;done) | (simp;omega) | omega) _ | refine Below.trans ?_ (Below.mono (by assumption) (by first | exact Nat.le_refl _ | (simp;done) | (simp;omega) | omega))))⟩
set_option maxHeartbeats 400000 in
theorem yasa {av am bv bm:BitVec 64} (hr:Hid ((eqb (band av am) zero&&eqb (band bv bm) zero)=true)) (hm:eqb (bandn (bxor av bv) (bor am bm)) zero=false) (w:World) :
  Calls Tryz.prog 150 #[Bt av am,Bt bv bm] w fun e w'=>e=.returned (.tuple #[Bt zero zero,.bool false,N 0])∧Below w.heap.size w w':=by
 go_enter Tryz.func150,Tryz.ntmps150
 go_wp2_with fail
 refine (zfj hr (by simp) (by simp [go_sem]) (by simp [go_sem]) (by simp [go_sem]) (by simp [go_sem])).mono ?_
 rintro e w1 ⟨rfl,hb1⟩
 obtain ⟨hc1,hf1,hs1⟩:=bk (w.heap.size+1+1+1) hb1 (by simp)
 first | rw [er_t] | rw [er_f]
 go_wp2_with fail
 exact bodyPost_ret (v:=.tuple #[Bt zero zero,.bool false,N 0]) (by simp [results,Tryz.results150,go_sem,hc1,za4]) rfl ⟨rfl,(by repeat (first | exact Below.refl _ _ | assumption | refine below_drewN ?_ _ | refine Below.drew ?_ | refine Below.alloc ?_ (by first | exact Nat.le_refl _ | (simp;done) | (simp;omega) | omega) _ | refine Below.setCell ?_ (by first | exact Nat.le_refl _ | (simp;done) | (simp;omega) | omega) _ | refine Below.trans ?_ (Below.mono (by assumption) (by first | exact Nat.le_refl _ | (simp;done) | (simp;omega) | omega))))⟩
set_option maxHeartbeats 400000 in
theorem yakj {av am bv bm:BitVec 64} (hr:Hid ((eqb (band av am) zero&&eqb (band bv bm) zero)=true)) (hm:eqb (bandn (bxor av bv) (bor am bm)) zero=true) (w:World) :
  Calls Tryz.prog 150 #[Bt av am,Bt bv bm] w fun e w'=>e=.returned (.tuple #[Bt (bor av bv) (band am bm),.bool true,N 0])∧Below w.heap.size w w':=by
 go_enter Tryz.func150,Tryz.ntmps150
 go_wp2_with fail
 refine (zfj hr (by simp) (by simp [go_sem]) (by simp [go_sem]) (by simp [go_sem]) (by simp [go_sem])).mono ?_
 rintro e w1 ⟨rfl,hb1⟩
 obtain ⟨hc1,hf1,hs1⟩:=bk (w.heap.size+1+1+1) hb1 (by simp)
 first | rw [er_t] | rw [er_f]
 go_wp2_with fail
 exact bodyPost_ret (v:=.tuple #[Bt (bor av bv) (band am bm),.bool true,N 0]) (by simp [results,Tryz.results150,go_sem,hc1]) rfl ⟨rfl,(by repeat (first | exact Below.refl _ _ | assumption | refine below_drewN ?_ _ | refine Below.drew ?_ | refine Below.alloc ?_ (by first | exact Nat.le_refl _ | (simp;done) | (simp;omega) | omega) _ | refine Below.setCell ?_ (by first | exact Nat.le_refl _ | (simp;done) | (simp;omega) | omega) _ | refine Below.trans ?_ (Below.mono (by assumption) (by first | exact Nat.le_refl _ | (simp;done) | (simp;omega) | omega))))⟩
end
theorem zg5 (n:Nat) (h:n<Lib.len8tab.size):((Lib.len8tab[n]'h).toNat:Int)=Lib.bitLen n:=by
 have hn:n<256:=by have:=Lib.len8tab_size;omega
 have e:=Lib.len8_eq ⟨n,hn⟩
 simp only [Lib.len8,Int.toNat_natCast] at e
 rw [← e,getElem?_pos Lib.len8tab n h];rfl
theorem yauu (x:Int) (s d:Nat) (b:Int) (hx0:0≤x)  (hd:d=2 ^ s) (hb:b=x / d):b.toNat=x.toNat / 2 ^ s:=by
 rw [hb,← hd]
 obtain ⟨X,rfl⟩:=Int.eq_ofNat_of_zero_le hx0
 rw [← Int.natCast_ediv,Int.toNat_natCast,Int.toNat_natCast]
theorem yas6 (x:Int) (s d:Nat) (b:Int) (hx0:0≤x) (hx:x≤18446744073709551615) (hd:d=2 ^ s)
  (hbn:b.toNat=x.toNat / 2 ^ s) (hlow:s=0∨(d:Int)≤x):Lib.bitLen x.toNat=s+Lib.bitLen b.toNat:=by
 rcases hlow with h0 | h1
 ·rw [hbn,h0,Nat.pow_zero,Nat.div_one,Nat.zero_add]
 ·rw [hbn]
  exact Lib.bitLen_shift s x.toNat (by rw [← hd];omega) (by omega)
theorem yaud (s q:Nat) (hs:s≤56) (l8:q≤8):wrap64 (s+wrap64 q)=((s+q:Nat):Int):=by
 unfold wrap64
 omega
theorem zkr (x:Int) (s d:Nat) (b t:Int) (hx0:0≤x) (hx:x≤18446744073709551615) (hd:d=2 ^ s) (hs:s≤56)
  (hb:b=x / d) (hb0:0≤b) (hb8:b≤255) (hlow:s=0∨(d:Int)≤x) (ht:t=(Lib.bitLen b.toNat:Int)):wrap64 (s+wrap64 t)=(Lib.bitLen x.toNat:Int):=by
 rw [ht,yaud s _ hs (Lib.bitLen_le8' b hb0 hb8),yas6 x s d b hx0 hx hd (yauu x s d b hx0 hd hb) hlow]
set_option maxRecDepth 100000 in
set_option maxHeartbeats 4000000 in
theorem yag3 (x:Int) (w:World) (h0:0≤x) (h1:x≤18446744073709551615) :
  Calls Tryz.prog 159 #[.int .u64 x] w fun e w'=>e=.returned (N (Lib.bitLen x.toNat))∧w=w':=by
 have hsz:=Lib.len8tab_size
 go_enter Tryz.func159,Tryz.ntmps159
 go_wp2
 all_goals go_ret
 all_goals refine ⟨congrArg Ending.returned (congrArg (Value.int IntKind.i64) ?_),rfl⟩
 ·exact zkr x 56 72057594037927936 _ _ h0 h1 (by decide) (by omega) (by omega) (by omega) (by omega) (by omega) (zg5 _ _)
 ·exact zkr x 48 281474976710656 _ _ h0 h1 (by decide) (by omega) (by omega) (by omega) (by omega) (by omega) (zg5 _ _)
 ·exact zkr x 40 1099511627776 _ _ h0 h1 (by decide) (by omega) (by omega) (by omega) (by omega) (by omega) (zg5 _ _)
 ·exact zkr x 32 4294967296 _ _ h0 h1 (by decide) (by omega) (by omega) (by omega) (by omega) (by omega) (zg5 _ _)
 ·exact zkr x 24 16777216 _ _ h0 h1 (by decide) (by omega) (by omega) (by omega) (by omega) (by omega) (zg5 _ _)
 ·exact zkr x 16 65536 _ _ h0 h1 (by decide) (by omega) (by omega) (by omega) (by omega) (by omega) (zg5 _ _)
 ·exact zkr x 8 256 _ _ h0 h1 (by decide) (by omega) (by omega) (by omega) (by omega) (by omega) (zg5 _ _)
 ·have:=zkr x 0 1 x _ h0 h1 (by decide) (by omega) (by omega) (by omega) (by omega) (by omega) (zg5 x.toNat (by omega))
  simpa using this
section
attribute [local go_sem] zdb w_or zdd za3 zb4 zbd zc9 zc4 zda zbw zby zcz zb0 zdc zcn zc0 zb1 zbx zb2 zbz za1
def blen (x:BitVec 64):Nat:=Lib.bitLen (nv x).toNat
def zd1 (n:Nat):BitVec 64:=bsub (bshl one n) one
theorem zn3 (x:BitVec 64):blen x≤64:=by
 unfold blen nv
 have:=x.isLt
 exact Lib.bitLen_le _ 64 (Nat.le_refl _) (by rw [Int.toNat_natCast];exact this)
theorem yay8 (x:BitVec 64) (w:World):Calls Tryz.prog 159 #[U x] w fun e w'=>e=.returned (N (blen x))∧w=w' :=
 yag3 (nv x) w (zca x) (by have:=zw4 x;omega)
set_option maxHeartbeats 400000 in
theorem yat7 {l h:BitVec 64} (hl:nv h<nv l) (w:World) :
  Calls Tryz.prog 142 #[U l,U h] w fun e w'=>e=.returned (.tuple #[Bt zero zero,N 3])∧Below w.heap.size w w':=by
 go_enter Tryz.func142,Tryz.ntmps142
 go_wp2_with fail
 exact bodyPost_ret (v:=.tuple #[Bt zero zero,N 3]) (by simp [results,Tryz.results142,go_sem,za4]) rfl ⟨rfl,(by repeat (first | exact Below.refl _ _ | assumption | refine below_drewN ?_ _ | refine Below.drew ?_ | refine Below.alloc ?_ (by first | exact Nat.le_refl _ | (simp;done) | (simp;omega) | omega) _ | refine Below.setCell ?_ (by first | exact Nat.le_refl _ | (simp;done) | (simp;omega) | omega) _ | refine Below.trans ?_ (Below.mono (by assumption) (by first | exact Nat.le_refl _ | (simp;done) | (simp;omega) | omega))))⟩
def sM (l h:BitVec 64):BitVec 64:=zd1 (blen (bxor l h))
set_option maxHeartbeats 400000 in
theorem yahm {l h:BitVec 64} (hl:nv l≤nv h) (w:World) :
  Calls Tryz.prog 142 #[U l,U h] w fun e w'=>e=.returned (.tuple #[Bt (bandn l (sM l h)) (sM l h),N 0])∧Below w.heap.size w w':=by
 have hL:=zn3 (bxor l h)
 have Hs:Hid (sM l h=zd1 (blen (bxor l h))):=rfl
 have hc:=yay8 (bxor l h)
 have Hc:Hid _:=hc
 clear hc
 generalize hx:blen (bxor l h)=L at hL Hs Hc
 clear hx
 go_enter Tryz.func142,Tryz.ntmps142
 go_wp2_with fail
 refine (Hc.out _).mono ?_
 rintro e w1 ⟨rfl,rfl⟩
 go_wp2_with fail
 refine (zex _ _ _).mono ?_
 rintro e w2 ⟨rfl,hb2⟩
 obtain ⟨hc2,hf2,hs2⟩:=bk (w.heap.size+1) hb2 (by simp)
 go_wp2_with fail
 rw [Hs.out]
 exact bodyPost_ret (v:=.tuple #[Bt (bandn l (zd1 L)) (zd1 L),N 0]) (by simp [results,Tryz.results142,go_sem,hc2,zd1]) rfl ⟨rfl,(by repeat (first | exact Below.refl _ _ | assumption | refine below_drewN ?_ _ | refine Below.drew ?_ | refine Below.alloc ?_ (by first | exact Nat.le_refl _ | (simp;done) | (simp;omega) | omega) _ | refine Below.setCell ?_ (by first | exact Nat.le_refl _ | (simp;done) | (simp;omega) | omega) _ | refine Below.trans ?_ (Below.mono (by assumption) (by first | exact Nat.le_refl _ | (simp;done) | (simp;omega) | omega))))⟩
def addM (av am bv bm:BitVec 64):BitVec 64:=bor (bor (bxor (badd av bv) (badd (badd (badd av bv) am) bm)) am) bm
set_option maxHeartbeats 400000 in
theorem zww (av am bv bm:BitVec 64) (w:World) :
  Calls Tryz.prog 202 #[Bt av am,Bt bv bm] w fun e w'=>e=.returned (Bt (bandn (badd av bv) (addM av am bv bm)) (addM av am bv bm))∧Below w.heap.size w w':=by
 go_enter Tryz.func202,Tryz.ntmps202
 go_wp2_with fail
 refine (zex _ _ _).mono ?_
 rintro e w2 ⟨rfl,hb2⟩
 obtain ⟨hc2,hf2,hs2⟩:=bk (w.heap.size+1+1+1) hb2 (by simp)
 go_wp2_with fail
 exact bodyPost_ret (v:=Bt (bandn (badd av bv) (addM av am bv bm)) (addM av am bv bm)) (by simp [results,Tryz.results202,go_sem,hc2,addM]) rfl ⟨rfl,(by repeat (first | exact Below.refl _ _ | assumption | refine below_drewN ?_ _ | refine Below.drew ?_ | refine Below.alloc ?_ (by first | exact Nat.le_refl _ | (simp;done) | (simp;omega) | omega) _ | refine Below.setCell ?_ (by first | exact Nat.le_refl _ | (simp;done) | (simp;omega) | omega) _ | refine Below.trans ?_ (Below.mono (by assumption) (by first | exact Nat.le_refl _ | (simp;done) | (simp;omega) | omega))))⟩
def subM (av am bv bm:BitVec 64):BitVec 64:=bor (bor (bxor (badd (bsub av bv) am) (bsub (bsub av bv) bm)) am) bm
set_option maxHeartbeats 400000 in
theorem yasf (av am bv bm:BitVec 64) (w:World) :
  Calls Tryz.prog 203 #[Bt av am,Bt bv bm] w fun e w'=>e=.returned (Bt (bandn (bsub av bv) (subM av am bv bm)) (subM av am bv bm))∧Below w.heap.size w w':=by
 go_enter Tryz.func203,Tryz.ntmps203
 go_wp2_with fail
 refine (zex _ _ _).mono ?_
 rintro e w2 ⟨rfl,hb2⟩
 obtain ⟨hc2,hf2,hs2⟩:=bk (w.heap.size+1+1+1) hb2 (by simp)
 go_wp2_with fail
 exact bodyPost_ret (v:=Bt (bandn (bsub av bv) (subM av am bv bm)) (subM av am bv bm)) (by simp [results,Tryz.results203,go_sem,hc2,subM]) rfl ⟨rfl,(by repeat (first | exact Below.refl _ _ | assumption | refine below_drewN ?_ _ | refine Below.drew ?_ | refine Below.alloc ?_ (by first | exact Nat.le_refl _ | (simp;done) | (simp;omega) | omega) _ | refine Below.setCell ?_ (by first | exact Nat.le_refl _ | (simp;done) | (simp;omega) | omega) _ | refine Below.trans ?_ (Below.mono (by assumption) (by first | exact Nat.le_refl _ | (simp;done) | (simp;omega) | omega))))⟩
set_option maxHeartbeats 400000 in
theorem yatt (av am bv bm:BitVec 64) (w:World) :
  Calls Tryz.prog 205 #[Bt av am,Bt bv bm] w fun e w'=>e=.returned (Bt (band av bv) (bandn (band (bor av am) (bor bv bm)) (band av bv)))∧Below w.heap.size w w':=by
 go_enter Tryz.func205,Tryz.ntmps205
 go_wp2
 exact bodyPost_ret (v:=Bt (band av bv) (bandn (band (bor av am) (bor bv bm)) (band av bv))) (by simp [results,Tryz.results205,go_sem]) rfl ⟨rfl,(by repeat (first | exact Below.refl _ _ | assumption | refine below_drewN ?_ _ | refine Below.drew ?_ | refine Below.alloc ?_ (by first | exact Nat.le_refl _ | (simp;done) | (simp;omega) | omega) _ | refine Below.setCell ?_ (by first | exact Nat.le_refl _ | (simp;done) | (simp;omega) | omega) _ | refine Below.trans ?_ (Below.mono (by assumption) (by first | exact Nat.le_refl _ | (simp;done) | (simp;omega) | omega))))⟩
set_option maxHeartbeats 400000 in
theorem yaxi (av am bv bm:BitVec 64) (w:World) :
  Calls Tryz.prog 206 #[Bt av am,Bt bv bm] w fun e w'=>e=.returned (Bt (bor av bv) (bandn (bor am bm) (bor av bv)))∧Below w.heap.size w w':=by
 go_enter Tryz.func206,Tryz.ntmps206
 go_wp2
 exact bodyPost_ret (v:=Bt (bor av bv) (bandn (bor am bm) (bor av bv))) (by simp [results,Tryz.results206,go_sem]) rfl ⟨rfl,(by repeat (first | exact Below.refl _ _ | assumption | refine below_drewN ?_ _ | refine Below.drew ?_ | refine Below.alloc ?_ (by first | exact Nat.le_refl _ | (simp;done) | (simp;omega) | omega) _ | refine Below.setCell ?_ (by first | exact Nat.le_refl _ | (simp;done) | (simp;omega) | omega) _ | refine Below.trans ?_ (Below.mono (by assumption) (by first | exact Nat.le_refl _ | (simp;done) | (simp;omega) | omega))))⟩
end
section
attribute [local go_sem] zdb w_or zdd za3 zb4 zbd zc9 zc4 zda zbw zby zcz zb0 zdc zcn zc0 zb1 zbx zb2 zbz za1
def addP (a b:BitVec 64×BitVec 64):BitVec 64×BitVec 64:=(bandn (badd a.1 b.1) (addM a.1 a.2 b.1 b.2),addM a.1 a.2 b.1 b.2)
def mulS (av am bv bm:BitVec 64):Nat→BitVec 64×BitVec 64
 | 0=>(zero,zero)
 | k+1=>if bit av k then addP (mulS av am bv bm k) (bshl bv k,bshl bm k)
  else if bit am k then addP (mulS av am bv bm k) (zero,bor (bshl bv k) (bshl bm k)) else mulS av am bv bm k
set_option maxHeartbeats 1000000 in
theorem yar7 (av am bv bm:BitVec 64) (w:World) :
  Calls Tryz.prog 204 #[Bt av am,Bt bv bm] w fun e w'=>e=.returned (Bt (mulS av am bv bm 64).1 (mulS av am bv bm 64).2)∧Below w.heap.size w w':=by
 go_enter Tryz.func204,Tryz.ntmps204
 go_wp2
 go_loopw [6] (fun i wr=>∃ k:Nat,k≤64∧i=.int .u64 k
   ∧ Below (w.heap.size+1+1+1) (((w.alloc (.cells #[U av,U am] 47)).alloc (.cells #[U bv,U bm] 47)).alloc (.cells #[.int .u64 0,.int .u64 0] 47)) wr
   ∧ wr.cell? ⟨w.heap.size+1+1+1,0,none⟩=some (U (mulS av am bv bm k).1)∧wr.cell? ⟨w.heap.size+1+1+1,1,none⟩=some (U (mulS av am bv bm k).2)
   ∧ (∀ o,wr.frozen? ⟨w.heap.size+1+1+1,o,none⟩=false)
   ∧ w.heap.size+1+1+1+1≤wr.heap.size) (fun i _=>64 - (intOf i).toNat)
 case atStart =>
  exact ⟨0,by omega,rfl,(by repeat (first | exact Below.refl _ _ | assumption | refine below_drewN ?_ _ | refine Below.drew ?_ | refine Below.alloc ?_ (by first | exact Nat.le_refl _ | (simp;done) | (simp;omega) | omega) _ | refine Below.setCell ?_ (by first | exact Nat.le_refl _ | (simp;done) | (simp;omega) | omega) _ | refine Below.trans ?_ (Below.mono (by assumption) (by first | exact Nat.le_refl _ | (simp;done) | (simp;omega) | omega)))),by simp [mulS,za4,go_sem],by simp [mulS,za4,go_sem],by simp [go_sem],by simp⟩
 case round =>
  obtain ⟨k,hk,rfl,hbel,ho0,ho1,hfo,hsz⟩:=hrel
  obtain ⟨hc,hf⟩:=bl hbel
  by_cases hlt:k<64
  ·have hA:=zi5 av k
   have hM:=zi5 am k
   have Hs:Hid (mulS av am bv bm (k+1)=if bit av k then addP (mulS av am bv bm k) (bshl bv k,bshl bm k)
    else if bit am k then addP (mulS av am bv bm k) (zero,bor (bshl bv k) (bshl bm k)) else mulS av am bv bm k):=rfl
   generalize mulS av am bv bm k=S at ho0 ho1 Hs
   obtain ⟨sv,sm⟩:=S
   simp only at ho0 ho1
   obtain ⟨bA,hbA⟩:∃ b,b=bit av k:=⟨_,rfl⟩
   obtain ⟨bM,hbM⟩:∃ b,b=bit am k:=⟨_,rfl⟩
   rw [← hbA] at hA Hs
   rw [← hbM] at hM Hs
   clear hbA hbM
   go_wp2_with fail
   refine (yaqa _ _ k hlt _).mono ?_
   rintro e w1 ⟨rfl,hb1⟩
   obtain ⟨hc1,hf1,hs1⟩:=bk _ hb1 hsz
   have hlt1:w.heap.size+1+1+1<w1.heap.size:=by omega
   have hlt2:w.heap.size+1+1<w1.heap.size:=by omega
   have hlt3:w.heap.size+1<w1.heap.size:=by omega
   have hlt4:w.heap.size<w1.heap.size:=by omega
   cases bA
   ·cases bM
    ·go_wp2_with fail
     exact ⟨⟨k+1,by omega,by go_num,yaag hbel (hb1.trans (((Below.refl _ _).alloc (Nat.le_refl _) _).mono hb1.size)) hsz ho0 ho1 hfo (by rw [Hs.out];rfl) (by rw [Hs.out];rfl)⟩,by simp [intOf];omega⟩
    ·go_wp2_with fail
     refine (zww sv sm zero (bor (bshl bv k) (bshl bm k)) _).mono ?_
     rintro e w2 ⟨rfl,hb2⟩
     obtain ⟨hc2,hf2,hs2⟩:=bk (w.heap.size+1+1+1+1) hb2 (by simp;omega)
     go_wp2_with fail
     exact ⟨⟨k+1,by omega,by go_num,zeh hbel (hb1.trans ((((Below.refl _ _).alloc (Nat.le_refl _) _).trans (hb2.mono (by simp))).mono hb1.size)) hsz ho0 ho1 hfo (by rw [Hs.out];rfl) (by rw [Hs.out];rfl)⟩,by simp [intOf];omega⟩
   ·go_wp2_with fail
    refine (zww _ _ _ _ _).mono ?_
    rintro e w2 ⟨rfl,hb2⟩
    obtain ⟨hc2,hf2,hs2⟩:=bk (w.heap.size+1+1+1+1) hb2 (by simp;omega)
    go_wp2_with fail
    exact ⟨⟨k+1,by omega,by go_num,zeh hbel (hb1.trans ((((Below.refl _ _).alloc (Nat.le_refl _) _).trans (hb2.mono (by simp))).mono hb1.size)) hsz ho0 ho1 hfo (by rw [Hs.out];rfl) (by rw [Hs.out];rfl)⟩,by simp [intOf];omega⟩
  ·have hk64:k=64:=by omega
   subst hk64
   go_wp2_with fail
   exact bodyPost_ret (v:=Bt (mulS av am bv bm 64).1 (mulS av am bv bm 64).2) (by simp [results,Tryz.results204,go_sem,hc]) rfl ⟨rfl,(by repeat (first | exact Below.refl _ _ | assumption | refine below_drewN ?_ _ | refine Below.drew ?_ | refine Below.alloc ?_ (by first | exact Nat.le_refl _ | (simp;done) | (simp;omega) | omega) _ | refine Below.setCell ?_ (by first | exact Nat.le_refl _ | (simp;done) | (simp;omega) | omega) _ | refine Below.trans ?_ (Below.mono (by assumption) (by first | exact Nat.le_refl _ | (simp;done) | (simp;omega) | omega))))⟩
def twoP (op:Int) (av am bv bm:BitVec 64):BitVec 64×BitVec 64 :=
 if op=2 then (bandn (badd av bv) (addM av am bv bm),addM av am bv bm)
 else if op=3 then (bandn (bsub av bv) (subM av am bv bm),subM av am bv bm)
 else if op=4 then mulS av am bv bm 64
 else if op=5 then (band av bv,bandn (band (bor av am) (bor bv bm)) (band av bv))
 else if op=6 then (bor av bv,bandn (bor am bm) (bor av bv))
 else (bandn (bxor av bv) (bor am bm),bor am bm)
theorem zjm {op:Int} (h:2≤op∧op≤7):op=2∨op=3∨op=4∨op=5∨op=6∨op=7:=by omega
set_option maxHeartbeats 400000 in
theorem two_ok {op:Int} {av am bv bm:BitVec 64} (hr:Hid ((eqb (band av am) zero&&eqb (band bv bm) zero)=true)) (hop:2≤op∧op≤7) (w:World) :
  Calls Tryz.prog 182 #[N op,Bt av am,Bt bv bm] w fun e w'=>e=.returned (.tuple #[Bt (twoP op av am bv bm).1 (twoP op av am bv bm).2,N 0])∧Below w.heap.size w w':=by
 rcases zjm hop with rfl | rfl | rfl | rfl | rfl | rfl
 all_goals
  clear hop
  go_enter Tryz.func182,Tryz.ntmps182
  go_wp2_with fail
  refine (zfj hr (by simp) (by simp [go_sem]) (by simp [go_sem]) (by simp [go_sem]) (by simp [go_sem])).mono ?_
  rintro e w1 ⟨rfl,hb1⟩
  obtain ⟨hc1,hf1,hs1⟩:=bk (w.heap.size+1+1+1) hb1 (by simp)
  first | rw [er_t] | rw [er_f]
  go_wp2_with fail
  first
   | refine (zww _ _ _ _ _).mono ?_
   | refine (yasf _ _ _ _ _).mono ?_
   | refine (yar7 _ _ _ _ _).mono ?_
   | refine (yatt _ _ _ _ _).mono ?_
   | refine (yaxi _ _ _ _ _).mono ?_
   | refine (zex _ _ _).mono ?_
  rintro e w2 ⟨rfl,hb2⟩
  obtain ⟨hc2,hf2,hs2⟩:=bk (w.heap.size+1+1+1) hb2 hs1
  go_wp2_with fail
  exact bodyPost_ret (v:=.tuple #[Bt (twoP _ av am bv bm).1 (twoP _ av am bv bm).2,N 0]) (by simp [results,Tryz.results182,go_sem,hc1,hc2,twoP]) rfl ⟨rfl,(by repeat (first | exact Below.refl _ _ | assumption | refine below_drewN ?_ _ | refine Below.drew ?_ | refine Below.alloc ?_ (by first | exact Nat.le_refl _ | (simp;done) | (simp;omega) | omega) _ | refine Below.setCell ?_ (by first | exact Nat.le_refl _ | (simp;done) | (simp;omega) | omega) _ | refine Below.trans ?_ (Below.mono (by assumption) (by first | exact Nat.le_refl _ | (simp;done) | (simp;omega) | omega))))⟩
end
end Go.Proofs.YtkigmocchaikgabGreatDoor
namespace Go.Proofs.YtkigmocchaikgabGreatDoor
def InB (v m x:BitVec 64):Prop:=∀ j,j<64→(bit x j&&!bit m j)=bit v j
def RtB (v m:BitVec 64):Prop:=∀ j,(bit v j&&bit m j)=false
theorem zj0 {a b:BitVec 64×BitVec 64} {x y:BitVec 64} (ha:RtB a.1 a.2) (hb:RtB b.1 b.2) (hx:InB a.1 a.2 x) (hy:InB b.1 b.2 y):InB (addP a b).1 (addP a b).2 (badd x y) :=
 zvw ha hb hx hy _ rfl
theorem yah3 (a b:BitVec 64×BitVec 64):RtB (addP a b).1 (addP a b).2:=by
 intro j
 by_cases hj:j<64
 ·simp only [addP];rw [zas _ _ _ hj];cases bit (badd a.1 b.1) j <;> cases bit (addM a.1 a.2 b.1 b.2) j <;> rfl
 ·rw [zba _ _ (by omega)];rfl
theorem zq7 (av am bv bm:BitVec 64) (k:Nat):RtB (mulS av am bv bm k).1 (mulS av am bv bm k).2:=by
 induction k with
 | zero=>intro j;simp only [mulS];rw [zbb];rfl
 | succ k ih =>
  simp only [mulS]
  by_cases h1:bit av k=true
  ·rw [if_pos h1];exact yah3 _ _
  ·rw [if_neg h1]
   by_cases h2:bit am k=true
   ·rw [if_pos h2];exact yah3 _ _
   ·rw [if_neg h2];exact ih
def psum (x y:BitVec 64):Nat→BitVec 64
 | 0=>zero
 | k+1=>if bit x k then badd (psum x y k) (bshl y k) else psum x y k
theorem yaog (x y:BitVec 64) (k:Nat):psum x y (k+1)=BitVec.mulRec y x k:=by
 induction k with
 | zero =>
  simp only [psum]
  rw [BitVec.mulRec_zero_eq]
  unfold bit
  cases x.getLsbD 0 <;> simp [badd,bshl,zero]
 | succ k ih =>
  rw [psum,ih,BitVec.mulRec_succ_eq]
  unfold bit badd bshl
  cases x.getLsbD (k+1) <;> simp
theorem yamf (x y:BitVec 64):psum x y 64=bmul x y:=by
 rw [yaog x y 63,BitVec.mulRec_eq_mul_signExtend_setWidth]
 unfold bmul
 simp [BitVec.mul_comm]
theorem yai1 {v m y:BitVec 64} (h:InB v m y) (k:Nat):InB (bshl v k) (bshl m k) (bshl y k):=by
 intro j hj
 rw [zei _ _ _ hj,zei _ _ _ hj,zei _ _ _ hj]
 by_cases hk:k≤j
 ·have:=h (j - k) (by omega)
  revert this
  cases bit y (j - k) <;> cases bit m (j - k) <;> cases bit v (j - k) <;> simp [hk]
 ·simp [hk]
theorem yaj8 {v m:BitVec 64} (h:RtB v m) (k:Nat):RtB (bshl v k) (bshl m k):=by
 intro j
 by_cases hj:j<64
 ·rw [zei _ _ _ hj,zei _ _ _ hj]
  have:=h (j - k)
  revert this
  cases decide (k≤j) <;> cases bit v (j - k) <;> cases bit m (j - k) <;> simp
 ·rw [zba _ _ (by omega)];rfl
theorem zoj (m:BitVec 64):RtB zero m:=by intro j;rw [zbb];rfl
theorem yag4 (x:BitVec 64):badd x zero=x:=by unfold badd zero;simp
theorem yaf1 {av am bv bm x y:BitVec 64} (hb:RtB bv bm) (hx:InB av am x) (hy:InB bv bm y) (k:Nat) (hk:k≤64):InB (mulS av am bv bm k).1 (mulS av am bv bm k).2 (psum x y k):=by
 induction k with
 | zero=>intro j hj;simp only [mulS,psum];rw [zbb];rfl
 | succ k ih =>
  have ih:=ih (by omega)
  have h:=hx k (by omega)
  simp only [mulS,psum]
  by_cases h1:bit av k=true
  ·have hxk:bit x k=true:=by rw [h1] at h;revert h;cases bit x k <;> simp
   rw [if_pos h1,if_pos hxk]
   exact zj0 (zq7 _ _ _ _ _) (yaj8 hb k) ih (yai1 hy k)
  ·rw [if_neg h1]
   by_cases h2:bit am k=true
   ·rw [if_pos h2]
    have hp:∀ z,(∀ j,j<64→bit z j=true→bit (bor (bshl bv k) (bshl bm k)) j=true)→InB zero (bor (bshl bv k) (bshl bm k)) z:=by
     intro z hz j hj
     have:=hz j hj
     rw [zbb]
     revert this
     cases bit z j <;> cases bit (bor (bshl bv k) (bshl bm k)) j <;> simp
    by_cases hxk:bit x k=true
    ·rw [if_pos hxk]
     exact zj0 (zq7 _ _ _ _ _) (zoj _) ih (hp _ (fun j _ h=>yatg (yai1 hy k) j h))
    ·rw [if_neg hxk]
     have:=zj0 (b:=(zero,bor (bshl bv k) (bshl bm k))) (zq7 av am bv bm k) (zoj _) ih (hp zero (fun j _ h=>by rw [zbb] at h;cases h))
     rw [yag4] at this
     exact this
   ·rw [if_neg h2]
    have hxk:¬ bit x k=true:=by
     intro hx1;rw [hx1] at h
     revert h h1 h2
     cases bit av k <;> cases bit am k <;> simp
    rw [if_neg hxk]
    exact ih
theorem yagq {op:Int} {av am bv bm x y:BitVec 64} (hop:2≤op∧op≤7) (ha:RtB av am) (hb:RtB bv bm) (hx:InB av am x) (hy:InB bv bm y) :
  InB (twoP op av am bv bm).1 (twoP op av am bv bm).2 (numB op x y):=by
 rcases zjm hop with rfl | rfl | rfl | rfl | rfl | rfl
 ·exact zvw ha hb hx hy _ rfl
 ·exact yag2 ha hb hx hy _ rfl
 ·show InB (mulS av am bv bm 64).1 (mulS av am bv bm 64).2 (bmul x y)
  rw [← yamf]
  exact yaf1 hb hx hy 64 (Nat.le_refl _)
 ·intro j hj
  show (bit (band x y) j&&!bit (bandn (band (bor av am) (bor bv bm)) (band av bv)) j)=bit (band av bv) j
  rw [zas _ _ _ hj,zaz,zaz,zaz,zap,zap]
  have h1:=hx j hj;have h2:=hy j hj;have h3:=ha j;have h4:=hb j
  revert h1 h2 h3 h4
  cases bit x j <;> cases bit y j <;> cases bit av j <;> cases bit am j <;> cases bit bv j <;> cases bit bm j <;> simp
 ·intro j hj
  show (bit (bor x y) j&&!bit (bandn (bor am bm) (bor av bv)) j)=bit (bor av bv) j
  rw [zas _ _ _ hj,zap,zap,zap]
  have h1:=hx j hj;have h2:=hy j hj;have h3:=ha j;have h4:=hb j
  revert h1 h2 h3 h4
  cases bit x j <;> cases bit y j <;> cases bit av j <;> cases bit am j <;> cases bit bv j <;> cases bit bm j <;> simp
 ·intro j hj
  show (bit (bxor x y) j&&!bit (bor am bm) j)=bit (bandn (bxor av bv) (bor am bm)) j
  rw [zas _ _ _ hj,zap,zbl,zbl]
  have h1:=hx j hj;have h2:=hy j hj;have h3:=ha j;have h4:=hb j
  revert h1 h2 h3 h4
  cases bit x j <;> cases bit y j <;> cases bit av j <;> cases bit am j <;> cases bit bv j <;> cases bit bm j <;> simp
theorem yaq0 {op:Int} {av am bv bm:BitVec 64} (hop:2≤op∧op≤7):RtB (twoP op av am bv bm).1 (twoP op av am bv bm).2:=by
 have hn:∀ p q:BitVec 64,RtB (bandn p q) q:=by
  intro p q j
  by_cases hj:j<64
  ·rw [zas _ _ _ hj];cases bit p j <;> cases bit q j <;> rfl
  ·rw [zba _ _ (by omega)];rfl
 have hn':∀ p q:BitVec 64,RtB q (bandn p q):=by
  intro p q j
  by_cases hj:j<64
  ·rw [zas _ _ _ hj];cases bit p j <;> cases bit q j <;> rfl
  ·rw [zba _ _ (by omega)];rfl
 rcases zjm hop with rfl | rfl | rfl | rfl | rfl | rfl
 ·exact hn _ _
 ·exact hn _ _
 ·exact zq7 _ _ _ _ _
 ·exact hn' _ _
 ·exact hn' _ _
 ·exact hn _ _
theorem yaqv {av am bv bm:BitVec 64} (hr:(eqb (band av am) zero&&eqb (band bv bm) zero)=true):(∀ j,(bit av j&&bit am j)=false)∧(∀ j,(bit bv j&&bit bm j)=false):=by
 rw [Bool.and_eq_true] at hr
 exact ⟨(zcc _ _).1 hr.1,(zcc _ _).1 hr.2⟩
theorem yakb {av am bv bm:BitVec 64} (hr:(eqb (band av am) zero&&eqb (band bv bm) zero)=true) :
  zxf av am bv bm 64=bandn av (jM av am bv bm)∧zyv av am bv bm 64=jM av am bv bm:=by
 obtain ⟨ha,hb⟩:=yaqv hr
 constructor
 ·apply zdz;intro j hj
  have h1:=ha j;have h2:=hb j
  simp only [mo,mz,jM,zas _ _ _ hj,zap,zbl]
  revert h1 h2
  cases bit av j <;> cases bit am j <;> cases bit bv j <;> cases bit bm j <;> simp
 ·apply zdz;intro j hj
  have h1:=ha j;have h2:=hb j
  simp only [mo,mz,jM,zap,zbl]
  revert h1 h2
  cases bit av j <;> cases bit am j <;> cases bit bv j <;> cases bit bm j <;> simp
theorem yajk {av am bv bm:BitVec 64} (hr:(eqb (band av am) zero&&eqb (band bv bm) zero)=true) (hm:eqb (bandn (bxor av bv) (bor am bm)) zero=true) :
  (∀ j,j<64→ziu av am bv bm j=true)∧zrs av am bv bm 64=bor av bv∧zqu av am bv bm 64=band am bm:=by
 obtain ⟨ha,hb⟩:=yaqv hr
 rw [zb6] at hm
 refine ⟨?_,?_,?_⟩
 ·intro j hj
  have h1:=ha j;have h2:=hb j;have h3:=hm j hj
  rw [zas _ _ _ hj,zbl,zap] at h3
  simp only [ziu,mo,mz]
  revert h1 h2 h3
  cases bit av j <;> cases bit am j <;> cases bit bv j <;> cases bit bm j <;> simp
 ·apply zdz;intro j hj
  have h1:=ha j;have h2:=hb j;have h3:=hm j hj
  rw [zas _ _ _ hj,zbl,zap] at h3
  simp only [mo,mz,zap]
  revert h1 h2 h3
  cases bit av j <;> cases bit am j <;> cases bit bv j <;> cases bit bm j <;> simp
 ·apply zdz;intro j hj
  have h1:=ha j;have h2:=hb j;have h3:=hm j hj
  rw [zas _ _ _ hj,zbl,zap] at h3
  simp only [mo,mz,zaz]
  revert h1 h2 h3
  cases bit av j <;> cases bit am j <;> cases bit bv j <;> cases bit bm j <;> simp
theorem yasx {av am bv bm:BitVec 64} (hm:eqb (bandn (bxor av bv) (bor am bm)) zero=false) :
  ∃ j,j<64∧ziu av am bv bm j=false∧∀ i,i<j→ziu av am bv bm i=true:=by
 rcases yabx (ziu av am bv bm) 64 with h | h
 ·exfalso
  have:eqb (bandn (bxor av bv) (bor am bm)) zero=true:=by
   rw [zb6];intro j hj
   have h1:=h j hj
   rw [zas _ _ _ hj,zbl,zap]
   simp only [ziu,mo,mz] at h1
   revert h1
   cases bit av j <;> cases bit am j <;> cases bit bv j <;> cases bit bm j <;> simp
  rw [this] at hm;cases hm
 ·exact h
theorem zlh {v m:BitVec 64} (hr:eqb (band v m) zero=true) (n:Nat):shV true v m n 64=bshl v n∧shM true v m n 64=bshl m n:=by
 have ha:=(zcc _ _).1 hr
 have key:∀ j,j<64→(sho true v m n j=(decide (n≤j)&&(bit v (j - n)||bit m (j - n))))∧(shz true v n j=(!decide (n≤j)||!bit v (j - n))):=by
  intro j hj
  by_cases h:n≤j
  ·have e:=yamb true v m n j (j - n) (by simp [zee];omega) (by omega)
   rw [← e.1,← e.2];simp [h,mz,mo]
  ·have e:=yabh true v m n j (by simp [zee];omega)
   rw [← e.1,← e.2];simp [h]
 constructor
 ·apply zdz;intro j hj
  rw [(key j hj).1,(key j hj).2,zei _ _ _ hj]
  have h1:=ha (j - n)
  revert h1
  cases decide (n≤j) <;> cases bit v (j - n) <;> cases bit m (j - n) <;> simp
 ·apply zdz;intro j hj
  rw [(key j hj).1,(key j hj).2,zei _ _ _ hj]
  have h1:=ha (j - n)
  revert h1
  cases decide (n≤j) <;> cases bit v (j - n) <;> cases bit m (j - n) <;> simp
theorem zo5 {v m:BitVec 64} (hr:eqb (band v m) zero=true) (n:Nat):shV false v m n 64=bshr v n∧shM false v m n 64=bshr m n:=by
 have ha:=(zcc _ _).1 hr
 have key:∀ j,j<64→(sho false v m n j=(bit v (n+j)||bit m (n+j)))∧(shz false v n j=!bit v (n+j)):=by
  intro j hj
  by_cases h:n+j<64
  ·have e:=yamb false v m n j (n+j) (by simp [zee];omega) h
   rw [← e.1,← e.2];simp [mz,mo]
  ·have e:=yabh false v m n j (by simp [zee];omega)
   rw [← e.1,← e.2,zba v _ (by omega),zba m _ (by omega)];simp
 constructor
 ·apply zdz;intro j hj
  rw [(key j hj).1,(key j hj).2,ze0]
  have h1:=ha (n+j)
  revert h1
  cases bit v (n+j) <;> cases bit m (n+j) <;> simp
 ·apply zdz;intro j hj
  rw [(key j hj).1,(key j hj).2,ze0]
  have h1:=ha (n+j)
  revert h1
  cases bit v (n+j) <;> cases bit m (n+j) <;> simp
theorem yaqr:∀ (f x:Nat),x<2 ^ f→x<2 ^ Lib.bitLenAux f x
 | 0,x,h=>by simpa [Lib.bitLenAux] using h
 | f+1,x,h=>by
  simp only [Lib.bitLenAux]
  split
  ·subst_vars;simp
  ·have:=yaqr f (x / 2) (by rw [Nat.pow_succ] at h;omega)
   rw [Nat.add_comm 1,Nat.pow_succ]
   omega
theorem yam8 (x:BitVec 64) (k:Nat) (hk:k≤64):blen x≤k↔x.toNat<2 ^ k:=by
 have e:(nv x).toNat=x.toNat:=by unfold nv;rw [Int.toNat_natCast]
 unfold blen
 rw [e]
 constructor
 ·intro h
  exact Nat.lt_of_lt_of_le (yaqr 64 x.toNat x.isLt) (Nat.pow_le_pow_right (by decide) h)
 ·intro h
  exact Lib.bitLen_le _ k hk h
theorem zxt (x:BitVec 64) (k:Nat):x.toNat<2 ^ k↔∀ j,k≤j→bit x j=false:=by
 constructor
 ·intro h j hj
  unfold bit BitVec.getLsbD
  exact Nat.testBit_lt_two_pow (Nat.lt_of_lt_of_le h (Nat.pow_le_pow_right (by decide) hj))
 ·intro h
  exact Nat.lt_pow_two_of_testBit _ fun j hj=>h j hj
theorem zfm (x:BitVec 64) (k:Nat) (hk:k≤64):blen x≤k↔∀ j,k≤j→bit x j=false:=by
 rw [yam8 x k hk,zxt]
theorem zd4 (n j:Nat) (hn:n≤64) (_hj:j<64):bit (zd1 n) j=decide (j<n):=by
 have h:(zd1 n).toNat=2 ^ n - 1:=by
  unfold zd1 bsub bshl one
  by_cases e:n=64
  ·subst e;decide
  ·have hlt:2 ^ n<2 ^ 64:=Nat.pow_lt_pow_right (by decide) (by omega)
   have h1:1≤2 ^ n:=Nat.one_le_two_pow
   have e1:(1#64 <<< n).toNat=2 ^ n:=by
    rw [BitVec.toNat_shiftLeft,Nat.shiftLeft_eq];rw [show (1#64).toNat=1 from rfl,Nat.one_mul];exact Nat.mod_eq_of_lt hlt
   rw [BitVec.toNat_sub,e1]
   simp only [BitVec.toNat_ofNat]
   omega
 unfold bit BitVec.getLsbD
 rw [h,Nat.testBit_two_pow_sub_one]
theorem yaiw (l h:BitVec 64) (c:Nat) (hc:c≤64):zgp l h c=true↔∀ j,64 - c≤j→bit (bxor l h) j=false:=by
 induction c with
 | zero=>simp only [zgp,true_iff];intro j hj;exact zba _ _ (by omega)
 | succ c ih =>
  have ih:=ih (by omega)
  simp only [zgp,Bool.and_eq_true,ih,beq_iff_eq]
  constructor
  ·rintro ⟨h1,h2⟩ j hj
   by_cases e:j=63 - c
   ·subst e;rw [zbl,h2];simp
   ·exact h1 j (by omega)
  ·intro h1
   refine ⟨fun j hj=>h1 j (by omega),?_⟩
   have:=h1 (63 - c) (by omega)
   rw [zbl] at this
   revert this
   cases bit l (63 - c) <;> cases bit h (63 - c) <;> simp
theorem yai6 (l h:BitVec 64):zxo l h 64=bandn l (sM l h)∧zzq l h 64=sM l h:=by
 have key:∀ j,j<64→bit (sM l h) j=!zgp l h (64 - j):=by
  intro j hj
  unfold sM
  rw [zd4 _ _ (zn3 _) hj]
  have h1:=yaiw l h (64 - j) (by omega)
  rw [show 64 - (64 - j)=j by omega,← zfm _ j (by omega)] at h1
  cases hs:zgp l h (64 - j)
  ·rw [hs] at h1;simp at h1;simp [h1]
  ·rw [hs] at h1;simp at h1;simp;omega
 constructor
 ·apply yaln;intro j hj
  rw [zas _ _ _ hj,key j hj]
  simp only [spo,spz]
  cases zgp l h (64 - j) <;> cases bit l j <;> simp
 ·apply yaln;intro j hj
  rw [key j hj]
  simp only [spo,spz]
  cases zgp l h (64 - j) <;> cases bit l j <;> simp
theorem zea (v m:BitVec 64):eqb (band v m) zero=true↔RtB v m:=zcc v m
theorem za0 (v m x:BitVec 64):hasB v m x=true↔RtB v m∧InB v m x:=by
 unfold hasB
 rw [Bool.and_eq_true,zea,has_iff];rfl
theorem yaiv {op:Int} {av am bv bm x y:BitVec 64} (hop:2≤op∧op≤7) (hx:hasB av am x=true) (hy:hasB bv bm y=true) :
  hasB (twoP op av am bv bm).1 (twoP op av am bv bm).2 (numB op x y)=true:=by
 rw [za0] at hx hy ⊢
 exact ⟨yaq0 hop,yagq hop hx.1 hy.1 hx.2 hy.2⟩
theorem zql {av am bv bm x:BitVec 64} (ha:RtB av am) (hb:RtB bv bm) (hx:(hasB av am x||hasB bv bm x)=true):hasB (bandn av (jM av am bv bm)) (jM av am bv bm) x=true:=by
 rw [Bool.or_eq_true,za0,za0] at hx
 rw [za0]
 refine ⟨fun j=>?_,fun j hj=>?_⟩
 ·by_cases hj:j<64
  ·rw [zas _ _ _ hj];cases bit av j <;> cases bit (jM av am bv bm) j <;> rfl
  ·rw [zba _ _ (by omega)];rfl
 ·rw [zas _ _ _ hj]
  unfold jM
  rw [zap,zap,zbl]
  have h3:=ha j;have h4:=hb j
  rcases hx with ⟨_,h⟩ | ⟨_,h⟩
  all_goals
   have h1:=h j hj
   revert h1 h3 h4
   cases bit x j <;> cases bit av j <;> cases bit am j <;> cases bit bv j <;> cases bit bm j <;> simp
theorem zp1 {av am bv bm x:BitVec 64} (ha:RtB av am) (hb:RtB bv bm) :
  (hasB av am x&&hasB bv bm x)=(eqb (bandn (bxor av bv) (bor am bm)) zero&&hasB (bor av bv) (band am bm) x):=by
 rw [Bool.eq_iff_iff,Bool.and_eq_true,Bool.and_eq_true,za0,za0,za0]
 have key:eqb (bandn (bxor av bv) (bor am bm)) zero=true↔∀ j,j<64→((bit av j ^^ bit bv j)&&!(bit am j||bit bm j))=false:=by
  unfold eqb
  rw [beq_iff_eq]
  constructor
  ·intro h j hj
   rw [← zbl,← zap,← zas _ _ _ hj,h,zbb]
  ·intro h
   apply BitVec.eq_of_getLsbD_eq
   intro j hj
   have:=h j hj
   rw [← zbl,← zap,← zas _ _ _ hj] at this
   unfold bit at this
   rw [this]
   exact (zbb j).symm
 rw [key]
 constructor
 ·rintro ⟨⟨_,h1⟩,⟨_,h2⟩⟩
  refine ⟨fun j hj=>?_,fun j=>?_,fun j hj=>?_⟩
  ·have a1:=h1 j hj;have a2:=h2 j hj
   revert a1 a2
   cases bit x j <;> cases bit av j <;> cases bit am j <;> cases bit bv j <;> cases bit bm j <;> simp
  ·rw [zap,zaz]
   have h3:=ha j;have h4:=hb j
   revert h3 h4
   cases bit av j <;> cases bit am j <;> cases bit bv j <;> cases bit bm j <;> simp
  ·rw [zap,zaz]
   have a1:=h1 j hj;have a2:=h2 j hj;have h3:=ha j;have h4:=hb j
   revert a1 a2 h3 h4
   cases bit x j <;> cases bit av j <;> cases bit am j <;> cases bit bv j <;> cases bit bm j <;> simp
 ·rintro ⟨h0,_,h1⟩
  refine ⟨⟨ha,fun j hj=>?_⟩,⟨hb,fun j hj=>?_⟩⟩
  all_goals
   have a0:=h0 j hj;have a1:=h1 j hj;have h3:=ha j;have h4:=hb j
   rw [zap,zaz] at a1
   revert a0 a1 h3 h4
   cases bit x j <;> cases bit av j <;> cases bit am j <;> cases bit bv j <;> cases bit bm j <;> simp
theorem zn4 (av am bv bm:BitVec 64):insB av am bv bm=true↔RtB av am∧RtB bv bm∧∀ j,j<64→(bit am j&&!bit bm j)=false∧(bit av j&&!bit bm j)=bit bv j:=by
 unfold insB
 have:eqb (bandn am bm) zero=true↔∀ j,j<64→(bit am j&&!bit bm j)=false:=by
  rw [has_iff]
  constructor
  ·intro h j hj;rw [h j hj,zbb]
  ·intro h j hj;rw [h j hj,zbb]
 rw [Bool.and_eq_true,Bool.and_eq_true,Bool.and_eq_true,zea,zea,this,has_iff,and_assoc]
 exact ⟨fun ⟨h1,h2,h3,h4⟩=>⟨h1,h2,fun j hj=>⟨h3 j hj,h4 j hj⟩⟩,fun ⟨h1,h2,h3⟩=>⟨h1,h2,fun j hj=>(h3 j hj).1,fun j hj=>(h3 j hj).2⟩⟩
theorem zv8 {av am bv bm x:BitVec 64} (hi:insB av am bv bm=true) (hx:hasB av am x=true):hasB bv bm x=true:=by
 rw [zn4] at hi
 rw [za0] at hx ⊢
 refine ⟨hi.2.1,fun j hj=>?_⟩
 have h1:=hi.2.2 j hj;have h2:=hx.2 j hj
 revert h1 h2
 cases bit x j <;> cases bit av j <;> cases bit am j <;> cases bit bv j <;> cases bit bm j <;> simp
theorem yai0 {v m x:BitVec 64} (hx:hasB v m x=true) (n:Nat):hasB (bshl v n) (bshl m n) (bshl x n)=true:=by
 rw [za0] at hx ⊢
 exact ⟨yaj8 hx.1 n,yai1 hx.2 n⟩
theorem yag6 {v m x:BitVec 64} (hx:hasB v m x=true) (n:Nat):hasB (bshr v n) (bshr m n) (bshr x n)=true:=by
 rw [za0] at hx ⊢
 refine ⟨fun j=>?_,fun j hj=>?_⟩
 ·rw [ze0,ze0];exact hx.1 _
 ·rw [ze0,ze0,ze0]
  by_cases h:n+j<64
  ·exact hx.2 _ h
  ·rw [zba x _ (by omega),zba v _ (by omega)];rfl
def bneg (x:BitVec 64):BitVec 64:=- x
theorem ybae (x:BitVec 64):IntKind.u64.wrap (- nv x)=nv (bneg x):=by
 rw [zft,BitVec.ofInt_neg,zbi];rfl
theorem zpq (x:BitVec 64):nv (bnot x)=18446744073709551615 - nv x:=by
 unfold nv bnot
 rw [BitVec.toNat_not]
 have:=x.isLt
 omega
theorem ybah (x:BitVec 64):bits .xor .u64 IntKind.u64.max (nv x)=nv (bnot x):=by
 rw [show IntKind.u64.max=nv top by rw [zmf];rfl,zdd]
 refine congrArg nv ?_
 apply BitVec.eq_of_getLsbD_eq
 intro j hj
 show bit (bxor top x) j=bit (bnot x) j
 rw [zbl,zdl _ _ hj,zqn _ hj];cases bit x j <;> rfl
theorem bext {x y:BitVec 64} (h:∀ j,j<64→bit x j=bit y j):x=y :=
 BitVec.eq_of_getLsbD_eq h
theorem yas4 (x:BitVec 64):bneg x=bnot (bsub x one):=by
 rw [yal1]
 unfold bneg bnot badd one
 rw [BitVec.not_not,BitVec.neg_eq_not_add]
theorem zeq {a b:BitVec 64} (h:Nat) (ha:bit a h=false) (hb:bit b h=true) (hj:∀ j,h<j→j<64→bit a j=bit b j):nv a<nv b:=by
 unfold nv
 have hall:∀ j,h<j→a.toNat.testBit j=b.toNat.testBit j:=by
  intro j hhj
  by_cases e:j<64
  ·exact hj j hhj e
  ·have h1:=zba a j (by omega)
   have h2:=zba b j (by omega)
   unfold bit BitVec.getLsbD at h1 h2
   rw [h1,h2]
 have e:a.toNat / 2 ^ (h+1)=b.toNat / 2 ^ (h+1):=Nat.eq_of_testBit_eq fun i=>by
  rw [Nat.testBit_div_two_pow,Nat.testBit_div_two_pow];exact hall _ (by omega)
 rw [Nat.pow_succ,← Nat.div_div_eq_div_mul,← Nat.div_div_eq_div_mul] at e
 have ea:a.toNat / 2 ^ h % 2≠1:=by
  unfold bit BitVec.getLsbD at ha
  rw [Nat.testBit_eq_decide_div_mod_eq,decide_eq_false_iff_not] at ha;exact ha
 have eb:b.toNat / 2 ^ h % 2=1:=by
  unfold bit BitVec.getLsbD at hb
  rw [Nat.testBit_eq_decide_div_mod_eq,decide_eq_true_eq] at hb;exact hb
 have:a.toNat<b.toNat:=by
  rcases Nat.lt_or_ge a.toNat b.toNat with g | g
  ·exact g
  ·exfalso
   have:=Nat.div_le_div_right (c:=2 ^ h) g
   omega
 omega
theorem yabl {x:BitVec 64} (hx:eqb x zero=false):∃ h,h<64∧blen x=h+1∧bit x h=true∧∀ j,h<j→bit x j=false:=by
 have hle:=zn3 x
 have h0:blen x≠0:=by
  intro e
  have:=(zfm x 0 (by omega)).1 (by omega)
  have h1:eqb x zero=true:=(zb6 x).2 fun j _=>this j (by omega)
  rw [h1] at hx;cases hx
 refine ⟨blen x - 1,by omega,by omega,?_,fun j hj=>(zfm x (blen x) hle).1 (Nat.le_refl _) j (by omega)⟩
 cases hb:bit x (blen x - 1)
 ·exfalso
  have:=(zfm x (blen x - 1) (by omega)).2 fun j hj=>by
   by_cases e:j=blen x - 1
   ·rw [e,hb]
   ·exact (zfm x (blen x) hle).1 (Nat.le_refl _) j (by omega)
  omega
 ·rfl
theorem zj2 {a b:BitVec 64} (hlt:nv a<nv b):∃ h,h<64∧bit a h=false∧bit b h=true∧∀ j,h<j→j<64→bit a j=bit b j:=by
 have hne:eqb (bxor a b) zero=false:=by
  cases e:eqb (bxor a b) zero
  ·rfl
  ·exfalso
   have:a=b:=bext fun j hj=>by
    have:=(zb6 _).1 e j hj
    rw [zbl] at this
    revert this
    cases bit a j <;> cases bit b j <;> simp
   rw [this] at hlt;omega
 obtain ⟨h,h1,_,h3,h4⟩:=yabl hne
 rw [zbl] at h3
 have h5:∀ j,h<j→j<64→bit a j=bit b j:=by
  intro j hj _
  have:=h4 j hj
  rw [zbl] at this
  revert this
  cases bit a j <;> cases bit b j <;> simp
 cases ha:bit a h
 ·rw [ha] at h3
  exact ⟨h,h1,ha,by revert h3;cases bit b h <;> simp,h5⟩
 ·exfalso
  rw [ha] at h3
  have hb:bit b h=false:=by revert h3;cases bit b h <;> simp
  have:=zeq h hb ha fun j hj hj2=>(h5 j hj hj2).symm
  omega
theorem yay3 {x:BitVec 64} {k:Nat} (hk:k<64) (h1:bit x k=true) (h0:∀ j,j<k→bit x j=false) (i:Nat) (hi:i≤64):bw x one i=decide (1≤i∧i≤k):=by
 induction i with
 | zero=>rw [zxj];simp
 | succ i ih =>
  rw [zyr _ _ _ (by omega),ih (by omega)]
  have ho:bit one i=decide (i=0):=by
   have:=zct 0 i (by omega)
   rw [show bshl one 0=one by unfold bshl;simp] at this
   exact this
  rw [ho]
  by_cases e:i=0
  ·subst e
   by_cases ek:k=0
   ·subst ek;rw [h1];simp
   ·rw [h0 0 (by omega)];simp;omega
  ·rcases Nat.lt_trichotomy i k with h | h | h
   ·have e1:1≤i∧i≤k:=by omega
    have e2:1≤i+1∧i+1≤k:=by omega
    rw [h0 i h,decide_eq_true e1,decide_eq_true e2,decide_eq_false e];rfl
   ·subst h
    have e2:¬ (1≤i+1∧i+1≤i):=by omega
    rw [h1,decide_eq_false e2,decide_eq_false e];simp
   ·have e1:¬ (1≤i∧i≤k):=by omega
    have e2:¬ (1≤i+1∧i+1≤k):=by omega
    rw [decide_eq_false e1,decide_eq_false e2,decide_eq_false e];simp
theorem yatq {x:BitVec 64} {k:Nat} (hk:k<64) (h1:bit x k=true) (h0:∀ j,j<k→bit x j=false):band x (bneg x)=bshl one k:=by
 apply bext
 intro j hj
 rw [zaz,yas4,zdl _ _ hj,zj4 _ _ _ hj,yay3 hk h1 h0 j (by omega),zct _ _ hk]
 have ho:bit one j=decide (j=0):=by
  have:=zct 0 j (by omega)
  rw [show bshl one 0=one by unfold bshl;simp] at this
  exact this
 rw [ho]
 rcases Nat.lt_trichotomy j k with h | h | h
 ·rw [h0 j h];simp;omega
 ·subst h;rw [h1]
  by_cases e:j=0
  ·subst e;simp
  ·simp [e];omega
 ·have e1:¬ (1≤j∧j≤k):=by omega
  have e2:¬ j=0:=by omega
  have e3:¬ j=k:=by omega
  simp [e1,e2,e3]
def zgo (v x:BitVec 64) (i:Nat):BitVec 64:=bor (bor (bshl (bshr x i) i) (bshl one i)) (band v (zd1 i))
def okL (v m x:BitVec 64) (i:Nat):Bool:=!bit x i&&hasB v m (zgo v x i)
theorem zc5 (v x:BitVec 64) (i j:Nat) (hi:i<64) (hj:j<64):bit (zgo v x i) j=if j<i then bit v j else if j=i then true else bit x j:=by
 unfold zgo
 rw [zap,zap,zaz,zei _ _ _ hj,ze0,zct _ _ hi,zd4 _ _ (by omega) hj]
 rcases Nat.lt_trichotomy j i with h | h | h
 ·have h1:¬ i≤j:=by omega
  have h2:¬ j=i:=by omega
  simp [h,h1,h2]
 ·subst h;simp
 ·have h1:i≤j:=by omega
  have h2:¬ j=i:=by omega
  have h3:¬ j<i:=by omega
  rw [show i+(j - i)=j by omega]
  simp [h1,h2,h3]
theorem zih {v m:BitVec 64} (hr:RtB v m) (x:BitVec 64) (i:Nat) (hi:i<64):okL v m x i=true↔bit x i=false∧(bit v i||bit m i)=true∧∀ j,i<j→j<64→(bit x j&&!bit m j)=bit v j:=by
 unfold okL
 rw [Bool.and_eq_true,za0]
 constructor
 ·rintro ⟨h1,_,h2⟩
  refine ⟨by simpa using h1,?_,fun j hj hj2=>?_⟩
  ·have:=h2 i hi
   rw [zc5 _ _ _ _ hi hi] at this
   have h3:=hr i
   revert this h3
   cases bit v i <;> cases bit m i <;> simp
  ·have:=h2 j hj2
   rw [zc5 _ _ _ _ hi hj2,if_neg (by omega),if_neg (by omega)] at this
   exact this
 ·rintro ⟨h1,h2,h3⟩
  refine ⟨by simp [h1],hr,fun j hj=>?_⟩
  rw [zc5 _ _ _ _ hi hj]
  have h4:=hr j
  rcases Nat.lt_trichotomy j i with h | h | h
  ·rw [if_pos h]
   revert h4
   cases bit v j <;> cases bit m j <;> simp
  ·subst h
   rw [if_neg (by omega),if_pos rfl]
   revert h2 h4
   cases bit v j <;> cases bit m j <;> simp
  ·rw [if_neg (by omega),if_neg (by omega)]
   exact h3 j h hj
def zh4 (v m x:BitVec 64):BitVec 64:=bandn (bxor x v) m
def zf3 (v m x:BitVec 64):BitVec 64:=zd1 (blen (zh4 v m x))
def zgm (v m x:BitVec 64):BitVec 64:=bandn (bandn m x) (zf3 v m x)
def lowB (x:BitVec 64):BitVec 64:=band x (bneg x)
def zbr (v m x:BitVec 64):BitVec 64×Bool :=
 if eqb (zh4 v m x) zero then (x,true)
 else if nv (band x (zf3 v m x))<nv (band v (zf3 v m x)) then (bor (bandn x (zf3 v m x)) (band v (zf3 v m x)),true)
 else if eqb (zgm v m x) zero then (zero,false)
 else (bor (bor (bandn x (bsub (lowB (zgm v m x)) one)) (lowB (zgm v m x))) (band v (bsub (lowB (zgm v m x)) one)),true)
theorem zv9 {v m:BitVec 64} (hr:RtB v m) (x:BitVec 64):eqb (zh4 v m x) zero=hasB v m x:=by
 rw [Bool.eq_iff_iff,zb6,za0]
 constructor
 ·intro h
  refine ⟨hr,fun j hj=>?_⟩
  have h1:=h j hj
  unfold zh4 at h1
  rw [zas _ _ _ hj,zbl] at h1
  have h2:=hr j
  revert h1 h2
  cases bit x j <;> cases bit v j <;> cases bit m j <;> simp
 ·rintro ⟨_,h⟩ j hj
  have h1:=h j hj
  unfold zh4
  rw [zas _ _ _ hj,zbl]
  have h2:=hr j
  revert h1 h2
  cases bit x j <;> cases bit v j <;> cases bit m j <;> simp
def zw9 (v m x:BitVec 64) (r:BitVec 64×Bool) (d:BitVec 64):Prop :=
 (hasB v m x=true∧r=(x,true))
 ∨ (hasB v m x=false∧∃ k,k<64∧okL v m x k=true∧(∀ j,j<k→okL v m x j=false)∧r=(zgo v x k,true))
 ∨ (hasB v m x=false∧(∀ j,j<64→okL v m x j=false)∧r=(d,false))
theorem ziv {v m:BitVec 64} (hr:RtB v m) (x:BitVec 64):zw9 v m x (zbr v m x) zero:=by
 unfold zw9 zbr
 cases hw:eqb (zh4 v m x) zero
 ·have hh:hasB v m x=false:=by rw [← zv9 hr,hw]
  refine Or.inr ?_
  obtain ⟨h,h64,hbl,hb1,hb0⟩:=yabl hw
  have e1:=hb1
  unfold zh4 at e1
  rw [zas _ _ _ h64,zbl] at e1
  have e0:∀ j,h<j→j<64→(bit x j&&!bit m j)=bit v j:=by
   intro j hj hj2
   have:=hb0 j hj
   unfold zh4 at this
   rw [zas _ _ _ hj2,zbl] at this
   have h2:=hr j
   revert this h2
   cases bit x j <;> cases bit v j <;> cases bit m j <;> simp
  have hbelow:∀ j,j<h→okL v m x j=false:=by
   intro j hj
   cases ho:okL v m x j
   ·rfl
   ·exfalso
    have:=((zih hr x j (by omega)).1 ho).2.2 h hj h64
    revert this e1
    cases bit x h <;> cases bit v h <;> cases bit m h <;> simp
  have hrest:∀ j,j<64→bit (zf3 v m x) j=decide (j≤h):=by
   intro j hj
   unfold zf3
   rw [hbl,zd4 _ _ (by omega) hj]
   simp [Nat.lt_succ_iff]
  cases hv:bit v h
  ·-- x has a 1 there
   have hx:bit x h=true:=by
    rw [hv] at e1;revert e1;cases bit x h <;> simp
   have hnl:¬ nv (band x (zf3 v m x))<nv (band v (zf3 v m x)):=by
    have:nv (band v (zf3 v m x))<nv (band x (zf3 v m x)):=by
     refine zeq h ?_ ?_ fun j hj hj2=>?_
     ·rw [zaz,hv];rfl
     ·rw [zaz,hx,hrest h h64];simp
     ·rw [zaz,zaz,hrest j hj2]
      have:¬ j≤h:=by omega
      simp [this]
    omega
   have hoh:okL v m x h=false:=by
    cases ho:okL v m x h
    ·rfl
    ·have:=((zih hr x h h64).1 ho).1
     rw [hx] at this;cases this
   have hfree:∀ j,j<64→bit (zgm v m x) j=((bit m j&&!bit x j)&&!decide (j≤h)):=by
    intro j hj
    unfold zgm
    rw [zas _ _ _ hj,zas _ _ _ hj,hrest j hj]
   have hok:∀ j,h<j→j<64→okL v m x j=bit (zgm v m x) j:=by
    intro j hj hj2
    rw [Bool.eq_iff_iff,zih hr x j hj2,hfree j hj2]
    have h1:¬ j≤h:=by omega
    simp only [h1,decide_false,Bool.not_false,Bool.and_true,Bool.and_eq_true,Bool.not_eq_true']
    have h3:=e0 j hj hj2
    constructor
    ·rintro ⟨g1,g2,_⟩
     refine ⟨?_,g1⟩
     rw [g1] at h3
     revert g2 h3
     cases bit v j <;> cases bit m j <;> simp
    ·rintro ⟨g1,g2⟩
     refine ⟨g2,by rw [g1];simp,fun i hi hi2=>e0 i (by omega) hi2⟩
   rw [if_neg (by simp),if_neg hnl]
   cases hf:eqb (zgm v m x) zero
   ·rw [if_neg (by simp)]
    refine Or.inl ⟨hh,?_⟩
    rcases yabx (fun j=>!bit (zgm v m x) j) 64 with hall | ⟨k,hk,hkf,hkb⟩
    ·exfalso
     have:eqb (zgm v m x) zero=true:=(zb6 _).2 fun j hj=>by simpa using hall j hj
     rw [this] at hf;cases hf
    ·have hk1:bit (zgm v m x) k=true:=by simpa using hkf
     have hk0:∀ j,j<k→bit (zgm v m x) j=false:=fun j hj=>by simpa using hkb j hj
     have hkh:h<k:=by
      have:=hk1
      rw [hfree k hk] at this
      by_cases e:k≤h
      ·simp [e] at this
      ·omega
     refine ⟨k,hk,by rw [hok k hkh hk];exact hk1,fun j hj=>?_,?_⟩
     ·rcases Nat.lt_trichotomy j h with g | g | g
      ·exact hbelow j g
      ·rw [g];exact hoh
      ·rw [hok j g (by omega)];exact hk0 j hj
     ·have hone:lowB (zgm v m x)=bshl one k:=yatq hk hk1 hk0
      rw [hone]
      have hxk:bit x k=false:=by
       have:=hk1
       rw [hfree k hk] at this
       revert this
       cases bit m k <;> cases bit x k <;> simp
      congr 1
      apply bext
      intro j hj
      rw [zc5 _ _ _ _ hk hj,zap,zap,zaz,zas _ _ _ hj,zct _ _ hk]
      have hl:=zd4 k j (by omega) hj
      unfold zd1 at hl
      rw [hl]
      rcases Nat.lt_trichotomy j k with g | g | g
      ·have g2:¬ j=k:=by omega
       simp [g,g2]
      ·subst g;simp
      ·have g2:¬ j=k:=by omega
       have g3:¬ j<k:=by omega
       simp [g2,g3]
   ·rw [if_pos rfl]
    refine Or.inr ⟨hh,fun j hj=>?_,rfl⟩
    rcases Nat.lt_trichotomy j h with g | g | g
    ·exact hbelow j g
    ·rw [g];exact hoh
    ·rw [hok j g hj];exact (zb6 _).1 hf j hj
  ·-- x has a 0 there
   have hx:bit x h=false:=by
    rw [hv] at e1;revert e1;cases bit x h <;> simp
   have hl:nv (band x (zf3 v m x))<nv (band v (zf3 v m x)):=by
    refine zeq h ?_ ?_ fun j hj hj2=>?_
    ·rw [zaz,hx];rfl
    ·rw [zaz,hv,hrest h h64];simp
    ·rw [zaz,zaz,hrest j hj2]
     have:¬ j≤h:=by omega
     simp [this]
   rw [if_neg (by simp),if_pos hl]
   refine Or.inl ⟨hh,h,h64,(zih hr x h h64).2 ⟨hx,by rw [hv];rfl,e0⟩,hbelow,?_⟩
   congr 1
   apply bext
   intro j hj
   rw [zc5 _ _ _ _ h64 hj,zap,zas _ _ _ hj,zaz,hrest j hj]
   rcases Nat.lt_trichotomy j h with g | g | g
   ·have g2:j≤h:=by omega
    simp [g,g2]
   ·subst g;simp [hv]
   ·have g2:¬ j≤h:=by omega
    have g3:¬ j=h:=by omega
    have g4:¬ j<h:=by omega
    simp [g2,g3,g4]
 ·exact Or.inl ⟨by rw [← zv9 hr,hw],by simp⟩
def zq6 (v m x:BitVec 64) (i:Nat):BitVec 64:=bor (bshl (bshr x (i+1)) (i+1)) (band (bor v m) (zd1 i))
def okG (v m x:BitVec 64) (i:Nat):Bool:=bit x i&&hasB v m (zq6 v m x i)
def turn (v m:BitVec 64):BitVec 64:=bnot (bor v m)
theorem zrw (v m:BitVec 64):RtB (turn v m) m:=by
 intro j
 by_cases hj:j<64
 ·unfold turn;rw [zdl _ _ hj,zap];cases bit v j <;> cases bit m j <;> rfl
 ·rw [zba _ _ (by omega)];rfl
theorem not_not (x:BitVec 64):bnot (bnot x)=x:=by unfold bnot;exact BitVec.not_not
theorem zjj {v m:BitVec 64} (hr:RtB v m) (x:BitVec 64):hasB (turn v m) m (bnot x)=hasB v m x:=by
 rw [Bool.eq_iff_iff,za0,za0]
 constructor
 ·rintro ⟨_,h⟩
  refine ⟨hr,fun j hj=>?_⟩
  have h1:=h j hj
  unfold turn at h1
  rw [zdl _ _ hj,zdl _ _ hj,zap] at h1
  have h2:=hr j
  revert h1 h2
  cases bit x j <;> cases bit v j <;> cases bit m j <;> simp
 ·rintro ⟨_,h⟩
  refine ⟨zrw v m,fun j hj=>?_⟩
  have h1:=h j hj
  unfold turn
  rw [zdl _ _ hj,zdl _ _ hj,zap]
  have h2:=hr j
  revert h1 h2
  cases bit x j <;> cases bit v j <;> cases bit m j <;> simp
theorem yacc (v m x:BitVec 64) (i:Nat) (hi:i<64):zq6 v m x i=bnot (zgo (turn v m) (bnot x) i):=by
 apply bext
 intro j hj
 rw [zdl _ _ hj,zc5 _ _ _ _ hi hj]
 unfold zq6 turn
 rw [zap,zaz,zap,zei _ _ _ hj,ze0,zd4 _ _ (by omega) hj,zdl _ _ hj,zdl _ _ hj,zap]
 rcases Nat.lt_trichotomy j i with h | h | h
 ·have h1:¬ i+1≤j:=by omega
  simp [h,h1]
 ·subst h
  have h1:¬ j+1≤j:=by omega
  simp [h1]
 ·have h1:i+1≤j:=by omega
  have h2:¬ j=i:=by omega
  have h3:¬ j<i:=by omega
  rw [show i+1+(j - (i+1))=j by omega]
  simp [h1,h2,h3]
theorem yaha {v m:BitVec 64} (hr:RtB v m) (x:BitVec 64) (i:Nat) (hi:i<64):okG v m x i=okL (turn v m) m (bnot x) i:=by
 unfold okG okL
 rw [zdl _ _ hi,Bool.not_not,yacc _ _ _ _ hi]
 have:=zjj hr (bnot (zgo (turn v m) (bnot x) i))
 rw [not_not] at this
 rw [← this]
def zcg (v m x:BitVec 64):BitVec 64×Bool:=if (zbr (turn v m) m (bnot x)).2 then (bnot (zbr (turn v m) m (bnot x)).1,true) else (zero,false)
def yalg (v m x:BitVec 64) (r:BitVec 64×Bool) (d:BitVec 64):Prop :=
 (hasB v m x=true∧r=(x,true))
 ∨ (hasB v m x=false∧∃ k,k<64∧okG v m x k=true∧(∀ j,j<k→okG v m x j=false)∧r=(zq6 v m x k,true))
 ∨ (hasB v m x=false∧(∀ j,j<64→okG v m x j=false)∧r=(d,false))
theorem yaau {v m:BitVec 64} (hr:RtB v m) (x:BitVec 64):yalg v m x (zcg v m x) zero:=by
 have h:=ziv (zrw v m) (bnot x)
 unfold zw9 at h
 rw [zjj hr] at h
 unfold yalg zcg
 rcases h with ⟨h1,h2⟩ | ⟨h1,k,hk,h2,h3,h4⟩ | ⟨h1,h2,h3⟩
 ·exact Or.inl ⟨h1,by rw [h2];simp [not_not]⟩
 ·refine Or.inr (Or.inl ⟨h1,k,hk,by rw [yaha hr _ _ hk];exact h2,fun j hj=>by rw [yaha hr _ _ (by omega)];exact h3 j hj,?_⟩)
  rw [h4,yacc _ _ _ _ hk];simp
 ·refine Or.inr (Or.inr ⟨h1,fun j hj=>by rw [yaha hr _ _ hj];exact h2 j hj,by rw [h3];simp⟩)
def zcr (v m x:BitVec 64):Nat→BitVec 64×Bool
 | 0=>(x,hasB v m x)
 | k+1=>if (zcr v m x k).2 then zcr v m x k else if okL v m x k then (zgo v x k,true) else zcr v m x k
def zcq (v m x:BitVec 64):Nat→BitVec 64×Bool
 | 0=>(x,hasB v m x)
 | k+1=>if (zcq v m x k).2 then zcq v m x k else if okG v m x k then (zq6 v m x k,true) else zcq v m x k
theorem zke (v m x:BitVec 64) (k n:Nat) (h:(zcr v m x k).2=true) (hn:k≤n):zcr v m x n=zcr v m x k:=by
 induction n with
 | zero =>
  have:k=0:=by omega
  rw [this]
 | succ n ih =>
  by_cases e:k=n+1
  ·rw [e]
  ·have:=ih (by omega)
   rw [zcr,this,if_pos h]
theorem zkk (v m x:BitVec 64) (k n:Nat) (h:(zcq v m x k).2=true) (hn:k≤n):zcq v m x n=zcq v m x k:=by
 induction n with
 | zero =>
  have:k=0:=by omega
  rw [this]
 | succ n ih =>
  by_cases e:k=n+1
  ·rw [e]
  ·have:=ih (by omega)
   rw [zcq,this,if_pos h]
theorem yaa2 (v m x:BitVec 64) (hh:hasB v m x=false) (n:Nat) (h:∀ j,j<n→okL v m x j=false):zcr v m x n=(x,false):=by
 induction n with
 | zero=>rw [zcr,hh]
 | succ n ih =>
  have:=ih fun j hj=>h j (by omega)
  rw [zcr,this,h n (by omega)];simp
theorem zz9 (v m x:BitVec 64) (hh:hasB v m x=false) (n:Nat) (h:∀ j,j<n→okG v m x j=false):zcq v m x n=(x,false):=by
 induction n with
 | zero=>rw [zcq,hh]
 | succ n ih =>
  have:=ih fun j hj=>h j (by omega)
  rw [zcq,this,h n (by omega)];simp
theorem zqe {v m:BitVec 64} (hr:RtB v m) (x:BitVec 64):(zcr v m x 64).2=(zbr v m x).2∧((zbr v m x).2=true→(zcr v m x 64).1=(zbr v m x).1):=by
 rcases ziv hr x with ⟨h1,h2⟩ | ⟨h1,k,hk,h2,h3,h4⟩ | ⟨h1,h2,h3⟩
 ·have:(zcr v m x 0)=(x,true):=by rw [zcr,h1]
  rw [zke v m x 0 64 (by rw [this]) (by omega),this,h2]
  exact ⟨rfl,fun _=>rfl⟩
 ·have e0:=yaa2 v m x h1 k h3
  have:(zcr v m x (k+1))=(zgo v x k,true):=by rw [zcr,e0,h2];simp
  rw [zke v m x (k+1) 64 (by rw [this]) (by omega),this,h4]
  exact ⟨rfl,fun _=>rfl⟩
 ·rw [yaa2 v m x h1 64 h2,h3]
  exact ⟨rfl,fun h=>by cases h⟩
theorem zpf {v m:BitVec 64} (hr:RtB v m) (x:BitVec 64):(zcq v m x 64).2=(zcg v m x).2∧((zcg v m x).2=true→(zcq v m x 64).1=(zcg v m x).1):=by
 rcases yaau hr x with ⟨h1,h2⟩ | ⟨h1,k,hk,h2,h3,h4⟩ | ⟨h1,h2,h3⟩
 ·have:(zcq v m x 0)=(x,true):=by rw [zcq,h1]
  rw [zkk v m x 0 64 (by rw [this]) (by omega),this,h2]
  exact ⟨rfl,fun _=>rfl⟩
 ·have e0:=zz9 v m x h1 k h3
  have:(zcq v m x (k+1))=(zq6 v m x k,true):=by rw [zcq,e0,h2];simp
  rw [zkk v m x (k+1) 64 (by rw [this]) (by omega),this,h4]
  exact ⟨rfl,fun _=>rfl⟩
 ·rw [zz9 v m x h1 64 h2,h3]
  exact ⟨rfl,fun h=>by cases h⟩
theorem yavd {v m x:BitVec 64} {k:Nat} (hr:RtB v m) (hk:k<64) (ho:okL v m x k=true):nv x<nv (zgo v x k):=by
 have h:=(zih hr x k hk).1 ho
 refine zeq k h.1 ?_ fun j hj hj2=>?_
 ·rw [zc5 _ _ _ _ hk hk,if_neg (by omega),if_pos rfl]
 ·rw [zc5 _ _ _ _ hk hj2,if_neg (by omega),if_neg (by omega)]
theorem yadq {a b:BitVec 64} (h:∀ i,bit b i=false→bit a i=true→∃ j,i<j∧j<64∧bit a j=false∧bit b j=true):nv a≤nv b:=by
 by_cases hlt:nv b<nv a
 ·exfalso
  obtain ⟨i,hi,h1,h2,h3⟩:=zj2 hlt
  obtain ⟨j,hj,hj2,h4,h5⟩:=h i h1 h2
  have:=h3 j hj hj2
  rw [h4,h5] at this;cases this
 ·omega
theorem yabe {v m x y:BitVec 64} (hr:RtB v m) (hy:hasB v m y=true) (hlt:nv x<nv y):∃ i,i<64∧okL v m x i=true∧nv (zgo v x i)≤nv y:=by
 obtain ⟨i,hi,h1,h2,h3⟩:=zj2 hlt
 have hin:=((za0 v m y).1 hy).2
 refine ⟨i,hi,(zih hr x i hi).2 ⟨h1,?_,fun j hj hj2=>?_⟩,?_⟩
 ·have:=hin i hi
  rw [h2] at this
  revert this
  cases bit m i <;> cases bit v i <;> simp
 ·rw [h3 j hj hj2];exact hin j hj2
 ·apply yadq
  intro k hk1 hk2
  exfalso
  by_cases hk64:k<64
  ·rw [zc5 _ _ _ _ hi hk64] at hk2
   rcases Nat.lt_trichotomy k i with g | g | g
   ·rw [if_pos g] at hk2
    have:=hin k hk64
    rw [hk1,hk2] at this;simp at this
   ·rw [g,h2] at hk1;cases hk1
   ·rw [if_neg (by omega),if_neg (by omega),h3 k g hk64,hk1] at hk2;cases hk2
  ·rw [zba _ _ (by omega)] at hk2;cases hk2
theorem yasi {v m x:BitVec 64} {i k:Nat} (hr:RtB v m) (hk:k<i) (hi:i<64) (hoi:okL v m x i=true):nv (zgo v x k)≤nv (zgo v x i):=by
 have h:=(zih hr x i hi).1 hoi
 have:nv (zgo v x k)<nv (zgo v x i):=by
  refine zeq i ?_ ?_ fun j hj hj2=>?_
  ·rw [zc5 _ _ _ _ (by omega) hi,if_neg (by omega),if_neg (by omega)];exact h.1
  ·rw [zc5 _ _ _ _ hi hi,if_neg (by omega),if_pos rfl]
  ·rw [zc5 _ _ _ _ (by omega) hj2,zc5 _ _ _ _ hi hj2,if_neg (by omega),if_neg (by omega),if_neg (by omega),if_neg (by omega)]
 omega
theorem zje {v m:BitVec 64} (hr:RtB v m) {x:BitVec 64} (h:(zbr v m x).2=true):hasB v m (zbr v m x).1=true∧nv x≤nv (zbr v m x).1∧∀ y,hasB v m y=true→nv x≤nv y→nv (zbr v m x).1≤nv y:=by
 rcases ziv hr x with ⟨h1,h2⟩ | ⟨h1,k,hk,h2,h3,h4⟩ | ⟨h1,h2,h3⟩
 ·rw [h2];exact ⟨h1,Int.le_refl _,fun y _ h=>h⟩
 ·rw [h4]
  have hc:=h2
  unfold okL at hc
  rw [Bool.and_eq_true] at hc
  refine ⟨hc.2,Int.le_of_lt (yavd hr hk h2),fun y hy hle=>?_⟩
  have hlt:nv x<nv y:=by
   rcases Int.lt_or_eq_of_le hle with g | g
   ·exact g
   ·exfalso
    have:=zk8 _ _ g
    rw [this,hy] at h1;cases h1
  obtain ⟨i,hi,g1,g2⟩:=yabe hr hy hlt
  show nv (zgo v x k)≤nv y
  rcases Nat.lt_trichotomy i k with g | g | g
  ·rw [h3 i g] at g1;cases g1
  ·rw [← g];exact g2
  ·exact Int.le_trans (yasi hr g hi g1) g2
 ·rw [h3] at h;cases h
theorem zo9 {v m:BitVec 64} (hr:RtB v m) {x:BitVec 64} (h:(zbr v m x).2=false) (y:BitVec 64) (hy:hasB v m y=true):nv y<nv x:=by
 rcases ziv hr x with ⟨h1,h2⟩ | ⟨h1,k,hk,h2,h3,h4⟩ | ⟨h1,h2,h3⟩
 ·rw [h2] at h;cases h
 ·rw [h4] at h;cases h
 ·by_cases hlt:nv x<nv y
  ·obtain ⟨i,hi,g1,_⟩:=yabe hr hy hlt
   rw [h2 i hi] at g1;cases g1
  ·by_cases e:nv x=nv y
   ·have:=zk8 _ _ e
    rw [this,hy] at h1;cases h1
   ·omega
theorem znv {v m:BitVec 64} (hr:RtB v m) {x:BitVec 64} (h:(zcg v m x).2=true):hasB v m (zcg v m x).1=true∧nv (zcg v m x).1≤nv x∧∀ y,hasB v m y=true→nv y≤nv x→nv y≤nv (zcg v m x).1:=by
 unfold zcg at h ⊢
 cases hl:(zbr (turn v m) m (bnot x)).2
 ·rw [hl] at h;simp at h
 ·obtain ⟨h1,h2,h3⟩:=zje (zrw v m) hl
  simp only [if_pos]
  refine ⟨?_,?_,fun y hy hle=>?_⟩
  ·rw [← zjj hr,not_not];exact h1
  ·rw [zpq] at h2 ⊢;omega
  ·have:=h3 (bnot y) (by rw [zjj hr];exact hy) (by rw [zpq,zpq];omega)
   rw [zpq] at this ⊢;omega
theorem yaeb {v m:BitVec 64} (hr:RtB v m) {x:BitVec 64} (h:(zcg v m x).2=false) (y:BitVec 64) (hy:hasB v m y=true):nv x<nv y:=by
 unfold zcg at h
 cases hl:(zbr (turn v m) m (bnot x)).2
 ·have:=zo9 (zrw v m) hl (bnot y) (by rw [zjj hr];exact hy)
  rw [zpq,zpq] at this;omega
 ·rw [hl] at h;simp at h
def nLo (v m l:BitVec 64):BitVec 64:=(zbr v m l).1
def nHi (v m h:BitVec 64):BitVec 64:=(zcg v m h).1
def zc7 (v m l h:BitVec 64):Bool:=(zbr v m l).2&&((zcg v m h).2&&decide (nv (nLo v m l)≤nv (nHi v m h)))
def spV (l h:BitVec 64):BitVec 64:=bandn l (sM l h)
def nV (v m l h:BitVec 64):BitVec 64:=bor v (spV (nLo v m l) (nHi v m h))
def nM (m l h:BitVec 64):BitVec 64:=band m (sM l h)
def valB (v m l h:BitVec 64):Bool:=hasB v m l&&(hasB v m h&&(decide (nv l≤nv h)&&insB v m (spV l h) (sM l h)))
theorem zm7 (l h:BitVec 64) (j:Nat) (hj:j<64):bit (sM l h) j=false↔∀ i,j≤i→bit l i=bit h i:=by
 unfold sM
 rw [zd4 _ _ (zn3 _) hj,decide_eq_false_iff_not,Nat.not_lt,zfm _ _ (by omega)]
 constructor
 ·intro h1 i hi
  have:=h1 i hi
  rw [zbl] at this
  revert this
  cases bit l i <;> cases bit h i <;> simp
 ·intro h1 i hi
  rw [zbl,h1 i hi];simp
theorem zez (l h:BitVec 64):RtB (spV l h) (sM l h):=by
 intro j
 by_cases hj:j<64
 ·unfold spV;rw [zas _ _ _ hj];cases bit l j <;> cases bit (sM l h) j <;> rfl
 ·rw [zba _ _ (by omega)];rfl
theorem zf5 {l h x:BitVec 64} (h1:nv l≤nv x) (h2:nv x≤nv h):hasB (spV l h) (sM l h) x=true:=by
 rw [za0]
 refine ⟨zez l h,fun j hj=>?_⟩
 unfold spV
 rw [zas _ _ _ hj]
 cases hs:bit (sM l h) j
 ·have hlh:=(zm7 l h j hj).1 hs
  have hx:∀ i,j≤i→bit x i=bit l i:=by
   intro i hi
   by_cases hlt:nv l<nv x
   ·obtain ⟨a,ha,g1,g2,g3⟩:=zj2 hlt
    by_cases hai:a<i
    ·by_cases h64:i<64
     ·exact (g3 i hai h64).symm
     ·rw [zba _ _ (by omega),zba _ _ (by omega)]
    ·exfalso
     -- x is above h then
     have:nv h<nv x:=by
      refine zeq a ?_ g2 fun b hb hb2=>?_
      ·rw [← hlh a (by omega)];exact g1
      ·rw [← hlh b (by omega)];exact g3 b hb hb2
     omega
   ·have:nv l=nv x:=by omega
    rw [zk8 _ _ this]
  rw [hx j (Nat.le_refl _)]
 ·simp
theorem zmi {v m l h x:BitVec 64} (hr:RtB v m) (hx:hasB v m x=true) (h1:nv l≤nv x) (h2:nv x≤nv h):eqb (bandn (bxor v (spV l h)) (bor m (sM l h))) zero=true:=by
 have:=zp1 (x:=x) hr (zez l h)
 rw [hx,zf5 h1 h2] at this
 revert this
 cases eqb (bandn (bxor v (spV l h)) (bor m (sM l h))) zero <;> simp
theorem yaib {v m l h:BitVec 64} (hr:RtB v m) (h1:hasB v m l=true) (h2:hasB v m h=true):zbr v m l=(l,true)∧zcg v m h=(h,true):=by
 constructor
 ·rcases ziv hr l with ⟨_,g⟩ | ⟨g,_⟩ | ⟨g,_⟩
  ·exact g
  ·rw [h1] at g;cases g
  ·rw [h1] at g;cases g
 ·rcases yaau hr h with ⟨_,g⟩ | ⟨g,_⟩ | ⟨g,_⟩
  ·exact g
  ·rw [h2] at g;cases g
  ·rw [h2] at g;cases g
def zsy (v m l h:BitVec 64):Bool:=eqb (nV v m l h) v&&(eqb (nM m (nLo v m l) (nHi v m h)) m&&(eqb (nLo v m l) l&&eqb (nHi v m h) h))
theorem yau7 {v m:BitVec 64} (hr:RtB v m) (l h:BitVec 64):valB v m l h=(zc7 v m l h&&zsy v m l h):=by
 have key:∀ (_:hasB v m l=true),(insB v m (spV l h) (sM l h)=true↔eqb (bor v (spV l h)) v=true∧eqb (nM m l h) m=true):=by
  intro hl
  have hin:=((za0 v m l).1 hl).2
  rw [zn4,zdm,zdm]
  constructor
  ·rintro ⟨_,_,g⟩
   constructor
   ·apply bext;intro j hj
    rw [zap,← (g j hj).2]
    cases bit v j <;> cases bit (sM l h) j <;> rfl
   ·apply bext;intro j hj
    unfold nM
    rw [zaz]
    have:=(g j hj).1
    revert this
    cases bit m j <;> cases bit (sM l h) j <;> simp
  ·rintro ⟨g1,g2⟩
   refine ⟨hr,zez l h,fun j hj=>⟨?_,?_⟩⟩
   ·have:bit (nM m l h) j=bit m j:=by rw [g2]
    unfold nM at this
    rw [zaz] at this
    revert this
    cases bit m j <;> cases bit (sM l h) j <;> simp
   ·have h3:bit (bor v (spV l h)) j=bit v j:=by rw [g1]
    rw [zap] at h3
    have h4:=hin j hj
    have h5:bit (spV l h) j=(bit l j&&!bit (sM l h) j):=by unfold spV;rw [zas _ _ _ hj]
    rw [h5] at h3 ⊢
    revert h3 h4
    cases bit v j <;> cases bit (sM l h) j <;> cases bit l j <;> cases bit m j <;> simp
 rw [Bool.eq_iff_iff]
 unfold valB zc7 zsy
 simp only [Bool.and_eq_true,decide_eq_true_eq]
 constructor
 ·rintro ⟨h1,h2,h3,h4⟩
  obtain ⟨e1,e2⟩:=yaib hr h1 h2
  have a1:nLo v m l=l:=by unfold nLo;rw [e1]
  have a2:nHi v m h=h:=by unfold nHi;rw [e2]
  have a3:nV v m l h=bor v (spV l h):=by unfold nV;rw [a1,a2]
  rw [a3,a1,a2,e1,e2]
  have:=(key h1).1 h4
  exact ⟨⟨rfl,rfl,h3⟩,this.1,this.2,zix l,zix h⟩
 ·rintro ⟨⟨h1,h2,h3⟩,h4,h5,h6,h7⟩
  have a1:nLo v m l=l:=(zdm _ _).1 h6
  have a2:nHi v m h=h:=(zdm _ _).1 h7
  have b1:=(zje hr h1).1
  have b2:=(znv hr h2).1
  have b1':hasB v m (nLo v m l)=true:=b1
  have b2':hasB v m (nHi v m h)=true:=b2
  rw [a1] at b1'
  rw [a2] at b2'
  have a3:nV v m l h=bor v (spV l h):=by unfold nV;rw [a1,a2]
  rw [a3] at h4
  rw [a1,a2] at h5 h3
  exact ⟨b1',b2',h3,(key b1').2 ⟨h4,h5⟩⟩
def hasV (v m l h x:BitVec 64):Bool:=valB v m l h&&(hasB v m x&&(decide (nv l≤nv x)&&decide (nv x≤nv h)))
def rawV (v m l h x:BitVec 64):Bool:=hasB v m x&&(decide (nv l≤nv x)&&decide (nv x≤nv h))
def insV (v m l h v' m' l' h':BitVec 64):Bool:=valB v m l h&&(valB v' m' l' h'&&(insB v m v' m'&&(decide (nv l'≤nv l)&&decide (nv h≤nv h'))))
theorem zes {v m l h:BitVec 64} (hr:RtB v m) (ho:zc7 v m l h=true) :
  hasB v m (nLo v m l)=true∧hasB v m (nHi v m h)=true∧nv (nLo v m l)≤nv (nHi v m h)∧nv l≤nv (nLo v m l)∧nv (nHi v m h)≤nv h
  ∧ (∀ x,hasB (nV v m l h) (nM m (nLo v m l) (nHi v m h)) x=(hasB v m x&&hasB (spV (nLo v m l) (nHi v m h)) (sM (nLo v m l) (nHi v m h)) x)):=by
 unfold zc7 at ho
 simp only [Bool.and_eq_true,decide_eq_true_eq] at ho
 obtain ⟨h1,h2,h3⟩:=ho
 obtain ⟨a1,a2,_⟩:=zje hr h1
 obtain ⟨b1,b2,_⟩:=znv hr h2
 refine ⟨a1,b1,h3,a2,b2,fun x=>?_⟩
 have hs:=zp1 (x:=x) hr (zez (nLo v m l) (nHi v m h))
 rw [zmi hr (x:=nLo v m l) a1 (Int.le_refl _) h3,Bool.true_and] at hs
 exact hs.symm
theorem zfl {v m l h:BitVec 64} (hr:RtB v m) (ho:zc7 v m l h=true):valB (nV v m l h) (nM m (nLo v m l) (nHi v m h)) (nLo v m l) (nHi v m h)=true:=by
 obtain ⟨h1,h2,h3,h4,h5,h6⟩:=zes hr ho
 unfold valB
 rw [h6,h6,h1,h2,zf5 (Int.le_refl _) h3,zf5 h3 (Int.le_refl _)]
 simp only [Bool.true_and,Bool.and_eq_true,decide_eq_true_eq]
 refine ⟨h3,(zn4 _ _ _ _).2 ⟨?_,zez _ _,fun j hj=>?_⟩⟩
 ·intro j
  have g1:=hr j
  have g2:=zez (nLo v m l) (nHi v m h) j
  unfold nV nM
  rw [zap,zaz]
  revert g1 g2
  cases bit v j <;> cases bit m j <;> cases bit (spV (nLo v m l) (nHi v m h)) j <;> cases bit (sM (nLo v m l) (nHi v m h)) j <;> simp
 ·have g1:=((za0 _ _ _).1 h1).2 j hj
  have g2:bit (spV (nLo v m l) (nHi v m h)) j=(bit (nLo v m l) j&&!bit (sM (nLo v m l) (nHi v m h)) j):=by unfold spV;rw [zas _ _ _ hj]
  unfold nV nM
  rw [zap,zaz,g2]
  revert g1
  cases bit v j <;> cases bit m j <;> cases bit (nLo v m l) j <;> cases bit (sM (nLo v m l) (nHi v m h)) j <;> simp
theorem zq8 {v m l h:BitVec 64} (hr:RtB v m) (x:BitVec 64) :
  rawV v m l h x=(zc7 v m l h&&hasV (nV v m l h) (nM m (nLo v m l) (nHi v m h)) (nLo v m l) (nHi v m h) x):=by
 rw [Bool.eq_iff_iff]
 constructor
 ·intro hx
  unfold rawV at hx
  simp only [Bool.and_eq_true,decide_eq_true_eq] at hx
  obtain ⟨h1,h2,h3⟩:=hx
  have ho1:(zbr v m l).2=true:=by
   cases e:(zbr v m l).2
   ·have:=zo9 hr e x h1;omega
   ·rfl
  have ho2:(zcg v m h).2=true:=by
   cases e:(zcg v m h).2
   ·have:=yaeb hr e x h1;omega
   ·rfl
  have g1:nv (nLo v m l)≤nv x:=(zje hr ho1).2.2 x h1 h2
  have g2:nv x≤nv (nHi v m h):=(znv hr ho2).2.2 x h1 h3
  have ho:zc7 v m l h=true:=by
   unfold zc7
   rw [ho1,ho2]
   simp only [Bool.true_and,decide_eq_true_eq];omega
  rw [ho,Bool.true_and]
  unfold hasV
  rw [zfl hr ho,(zes hr ho).2.2.2.2.2 x,h1,zf5 g1 g2]
  simp [g1,g2]
 ·intro hx
  rw [Bool.and_eq_true] at hx
  obtain ⟨ho,hx⟩:=hx
  obtain ⟨_,_,_,h4,h5,h6⟩:=zes hr ho
  unfold hasV at hx
  rw [zfl hr ho,h6 x] at hx
  simp only [Bool.true_and,Bool.and_eq_true,decide_eq_true_eq] at hx
  unfold rawV
  simp only [Bool.and_eq_true,decide_eq_true_eq]
  exact ⟨hx.1.1,by omega,by omega⟩
theorem zbf {v m l h:BitVec 64} (hv:valB v m l h=true):RtB v m∧hasB v m l=true∧hasB v m h=true∧nv l≤nv h∧insB v m (spV l h) (sM l h)=true:=by
 unfold valB at hv
 simp only [Bool.and_eq_true,decide_eq_true_eq] at hv
 obtain ⟨h1,h2,h3,h4⟩:=hv
 exact ⟨((za0 _ _ _).1 h1).1,h1,h2,h3,h4⟩
theorem zo3 {v m l h:BitVec 64} (hv:valB v m l h=true):zc7 v m l h=true∧nV v m l h=v∧nM m (nLo v m l) (nHi v m h)=m∧nLo v m l=l∧nHi v m h=h:=by
 have hr:=(zbf hv).1
 have:=yau7 hr l h
 rw [hv] at this
 have h2:=this.symm
 unfold zsy at h2
 simp only [Bool.and_eq_true,zdm] at h2
 exact ⟨h2.1,h2.2.1,h2.2.2.1,h2.2.2.2.1,h2.2.2.2.2⟩
theorem zhk {av am bv bm:BitVec 64} (ha:RtB av am) (hb:RtB bv bm) (hall:∀ x,hasB av am x=true→hasB bv bm x=true):insB av am bv bm=true:=by
 rw [zn4]
 refine ⟨ha,hb,fun j hj=>?_⟩
 have h1:hasB av am av=true:=by
  rw [za0];refine ⟨ha,fun i _=>?_⟩
  have:=ha i;revert this;cases bit av i <;> cases bit am i <;> simp
 have h2:hasB av am (bor av am)=true:=by
  rw [za0];refine ⟨ha,fun i _=>?_⟩
  rw [zap]
  have:=ha i;revert this;cases bit av i <;> cases bit am i <;> simp
 have g1:=((za0 _ _ _).1 (hall _ h1)).2 j hj
 have g2:=((za0 _ _ _).1 (hall _ h2)).2 j hj
 rw [zap] at g2
 have g3:=ha j;have g4:=hb j
 revert g1 g2 g3 g4
 cases bit av j <;> cases bit am j <;> cases bit bv j <;> cases bit bm j <;> simp
theorem zkn {av am bv bm:BitVec 64} (hi:insB av am bv bm=true) (x:BitVec 64) (hx:hasB av am x=true):hasB bv bm x=true:=zv8 hi hx
theorem yacs {l h l' h':BitVec 64} (h1:nv l'≤nv l) (h2:nv l≤nv h) (h3:nv h≤nv h'):insB (spV l h) (sM l h) (spV l' h') (sM l' h')=true:=by
 have hl:=((za0 _ _ _).1 (zf5 (l:=l') (h:=h') (x:=l) h1 (by omega))).2
 have hh:=((za0 _ _ _).1 (zf5 (l:=l') (h:=h') (x:=h) (by omega) h3)).2
 rw [zn4]
 refine ⟨zez _ _,zez _ _,fun j hj=>?_⟩
 have g0:bit (spV l h) j=(bit l j&&!bit (sM l h) j):=by unfold spV;rw [zas _ _ _ hj]
 rw [g0]
 cases hs:bit (sM l' h') j
 ·have hsl:bit (sM l h) j=false:=by
   rw [zm7 _ _ _ hj]
   intro i hi
   by_cases h64:i<64
   ·have hsi:bit (sM l' h') i=false:=by
     rw [zm7 _ _ _ h64]
     exact fun k hk=>(zm7 _ _ _ hj).1 hs k (by omega)
    have a:=hl i h64
    have b:=hh i h64
    rw [hsi] at a b
    simp only [Bool.not_false,Bool.and_true] at a b
    rw [a,b]
   ·rw [zba _ _ (by omega),zba _ _ (by omega)]
  have a:=hl j hj
  rw [hs] at a
  simp only [Bool.not_false,Bool.and_true] at a
  rw [hsl,a];simp
 ·have:=zez l' h' j
  rw [hs] at this
  simp at this
  simp [this]
theorem zmp {v m l h v' m' l' h':BitVec 64} (hv:valB v m l h=true) (hr:RtB v' m') (hi:insB v m v' m'=true) (h1:nv l'≤nv l) (h2:nv h≤nv h') :
  zc7 v' m' l' h'=true∧insV v m l h (nV v' m' l' h') (nM m' (nLo v' m' l') (nHi v' m' h')) (nLo v' m' l') (nHi v' m' h')=true:=by
 obtain ⟨a1,a2,a3,a4,a5⟩:=zbf hv
 have b2:=zkn hi _ a2
 have b3:=zkn hi _ a3
 have hx:=zq8 hr (l:=l') (h:=h') l
 have hraw:rawV v' m' l' h' l=true:=by
  unfold rawV;rw [b2];simp only [Bool.true_and,Bool.and_eq_true,decide_eq_true_eq];omega
 rw [hraw] at hx
 have hx:=hx.symm
 rw [Bool.and_eq_true] at hx
 have ho:=hx.1
 have hx2:=zq8 hr (l:=l') (h:=h') h
 have hraw2:rawV v' m' l' h' h=true:=by
  unfold rawV;rw [b3];simp only [Bool.true_and,Bool.and_eq_true,decide_eq_true_eq];omega
 rw [hraw2] at hx2
 have hx2:=hx2.symm
 rw [Bool.and_eq_true] at hx2
 have g1:=hx.2
 have g2:=hx2.2
 unfold hasV at g1 g2
 simp only [Bool.and_eq_true,decide_eq_true_eq] at g1 g2
 refine ⟨ho,?_⟩
 unfold insV
 rw [hv,zfl hr ho]
 simp only [Bool.true_and,Bool.and_eq_true,decide_eq_true_eq]
 refine ⟨zhk a1 (zbf (zfl hr ho)).1 fun x hx=>?_,g1.2.2.1,g2.2.2.2⟩
 rw [(zes hr ho).2.2.2.2.2 x,zkn hi _ hx,Bool.true_and]
 exact zkn (yacs g1.2.2.1 a4 g2.2.2.2) _ (zkn a5 _ hx)
theorem yav7 (x y:BitVec 64):min (nv x) (nv y)=nv (bmin x y):=by
 unfold bmin;split <;> omega
theorem yaws (x y:BitVec 64):max (nv x) (nv y)=nv (bmax x y):=by
 unfold bmax;split <;> omega
theorem yakd (x y:BitVec 64):nv (bmin x y)≤nv x∧nv (bmin x y)≤nv y:=by rw [← yav7];omega
theorem yak7 (x y:BitVec 64):nv x≤nv (bmax x y)∧nv y≤nv (bmax x y):=by rw [← yaws];omega
theorem yaut {x y z:BitVec 64} (h1:nv z≤nv x) (h2:nv z≤nv y):nv z≤nv (bmin x y):=by rw [← yav7];omega
theorem yasp {x y z:BitVec 64} (h1:nv x≤nv z) (h2:nv y≤nv z):nv (bmax x y)≤nv z:=by rw [← yaws];omega
def jV (av am bv bm:BitVec 64):BitVec 64:=bandn av (jM av am bv bm)
theorem zkf (av am bv bm:BitVec 64):RtB (jV av am bv bm) (jM av am bv bm):=by
 intro j
 unfold jV
 by_cases hj:j<64
 ·rw [zas _ _ _ hj];cases bit av j <;> cases bit (jM av am bv bm) j <;> rfl
 ·rw [zba _ _ (by omega)];rfl
theorem yace {av am bv bm:BitVec 64} (ha:RtB av am) (hb:RtB bv bm):insB av am (jV av am bv bm) (jM av am bv bm)=true∧insB bv bm (jV av am bv bm) (jM av am bv bm)=true :=
 ⟨zhk ha (zkf _ _ _ _) fun x hx=>zql ha hb (by rw [hx];rfl),zhk hb (zkf _ _ _ _) fun x hx=>zql ha hb (by rw [hx];cases hasB av am x <;> rfl)⟩
theorem yabb {v m l h v' m' l' h' x:BitVec 64} (hi:insV v m l h v' m' l' h'=true) (hx:hasV v m l h x=true):hasV v' m' l' h' x=true:=by
 unfold insV at hi
 unfold hasV at hx ⊢
 simp only [Bool.and_eq_true,decide_eq_true_eq] at hi hx ⊢
 exact ⟨hi.2.1,zkn hi.2.2.1 _ hx.2.1,by omega,by omega⟩
theorem zko {v m l h v' m' l' h':BitVec 64} (hv:valB v m l h=true) (hw:valB v' m' l' h'=true) :
  zc7 (jV v m v' m') (jM v m v' m') (bmin l l') (bmax h h')=true
  ∧ insV v m l h (nV (jV v m v' m') (jM v m v' m') (bmin l l') (bmax h h')) (nM (jM v m v' m') (nLo (jV v m v' m') (jM v m v' m') (bmin l l')) (nHi (jV v m v' m') (jM v m v' m') (bmax h h'))) (nLo (jV v m v' m') (jM v m v' m') (bmin l l')) (nHi (jV v m v' m') (jM v m v' m') (bmax h h'))=true
  ∧ insV v' m' l' h' (nV (jV v m v' m') (jM v m v' m') (bmin l l') (bmax h h')) (nM (jM v m v' m') (nLo (jV v m v' m') (jM v m v' m') (bmin l l')) (nHi (jV v m v' m') (jM v m v' m') (bmax h h'))) (nLo (jV v m v' m') (jM v m v' m') (bmin l l')) (nHi (jV v m v' m') (jM v m v' m') (bmax h h'))=true:=by
 have ha:=(zbf hv).1
 have hb:=(zbf hw).1
 have h1:=zmp hv (zkf v m v' m') (yace ha hb).1 (yakd l l').1 (yak7 h h').1
 have h2:=zmp hw (zkf v m v' m') (yace ha hb).2 (yakd l l').2 (yak7 h h').2
 exact ⟨h1.1,h1.2,h2.2⟩
end Go.Proofs.YtkigmocchaikgabGreatDoor
namespace Go.Proofs.YtkigmocchaikgabGreatDoor
open Go.RowKit
section
attribute [local go_sem] zdb w_or zdd za3 zb4 zbd zc9 zc4 zda zbw zby zcz zb0 zdc zcn zc0 zb1 zbx zb2 zbz za1
theorem hasC {v m x:BitVec 64} {b:Bool} (h:hasB v m x=b) (w:World) :
  Calls Tryz.prog 141 #[Bt v m,U x] w fun e w'=>e=.returned (.bool b)∧Below w.heap.size w w':=h ▸ yas5 v m x w
theorem insC {av am bv bm:BitVec 64} {b:Bool} (h:insB av am bv bm=b) (w:World) :
  Calls Tryz.prog 143 #[Bt av am,Bt bv bm] w fun e w'=>e=.returned (.bool b)∧Below w.heap.size w w':=h ▸ yaf4 av am bv bm w
end
end Go.Proofs.YtkigmocchaikgabGreatDoor
namespace Go.Proofs.YtkigmocchaikgabGreatDoor
theorem yazo (x y:BitVec 64):nv (badd x y)=(nv x+nv y) % 18446744073709551616:=by
 unfold nv badd;rw [BitVec.toNat_add];omega
theorem yax9 (x y:BitVec 64):nv (bsub x y)=(nv x - nv y) % 18446744073709551616:=by
 rw [← zc4,IntKind.wrap_u64]
theorem yaxg (x y:BitVec 64):nv (bmul x y)=(nv x*nv y) % 18446744073709551616:=by
 rw [← zda,IntKind.wrap_u64]
theorem yaqt (x:BitVec 64) (n:Nat):nv (bshl x n)=(nv x*2 ^ n) % 18446744073709551616:=by
 rw [← zcz,IntKind.wrap_u64]
theorem yaik (x:BitVec 64) (n:Nat):nv (bshr x n)=nv x / 2 ^ n:=(zdc x n).symm
def addB (l h l' h':BitVec 64):BitVec 64×BitVec 64:=if decide (nv (badd l l')<nv l)=decide (nv (badd h h')<nv h) then (badd l l',badd h h') else (zero,top)
def subB (l h l' h':BitVec 64):BitVec 64×BitVec 64:=if decide (nv l<nv h')=decide (nv h<nv l') then (bsub l h',bsub h l') else (zero,top)
def zyt (x y:BitVec 64):Bool:=!eqb y zero&&decide (18446744073709551615 / nv y<nv x)
def mulB (l h l' h':BitVec 64):BitVec 64×BitVec 64:=if zyt h h' then (zero,top) else (bmul l l',bmul h h')
def zce (op:Int) (l h l' h':BitVec 64):BitVec 64×BitVec 64 :=
 if op=2 then addB l h l' h' else if op=3 then subB l h l' h' else if op=4 then mulB l h l' h'
 else if op=5 then (zero,bmin h h') else if op=6 then (bmax l l',top) else (zero,top)
def shlB (l h:BitVec 64) (n:Nat):BitVec 64×BitVec 64:=if eqb (bshr (bshl h n) n) h then (bshl l n,bshl h n) else (zero,top)
theorem ends (x:BitVec 64):nv zero≤nv x∧nv x≤nv top:=by
 rw [za4,zmf]
 have:=zca x
 have:=zw4 x
 omega
theorem yae1 {l h l' h' x y:BitVec 64} (h1:nv l≤nv x) (h2:nv x≤nv h) (h3:nv l'≤nv y) (h4:nv y≤nv h'):nv (addB l h l' h').1≤nv (badd x y)∧nv (badd x y)≤nv (addB l h l' h').2:=by
 unfold addB
 split
 ·rename_i he
  have a1:=zca l;have a2:=zw4 h;have a3:=zca l';have a4:=zw4 h'
  have he':nv (badd l l')<nv l↔nv (badd h h')<nv h:=by simpa using he
  simp only [yazo] at he' ⊢
  omega
 ·exact ends _
theorem yae9 {l h l' h' x y:BitVec 64} (h1:nv l≤nv x) (h2:nv x≤nv h) (h3:nv l'≤nv y) (h4:nv y≤nv h'):nv (subB l h l' h').1≤nv (bsub x y)∧nv (bsub x y)≤nv (subB l h l' h').2:=by
 unfold subB
 split
 ·rename_i he
  have a1:=zca l;have a2:=zw4 h;have a3:=zca l';have a4:=zw4 h'
  have he':nv l<nv h'↔nv h<nv l':=by simpa using he
  simp only [yax9]
  omega
 ·exact ends _
theorem yaey {l h l' h' x y:BitVec 64} (h1:nv l≤nv x) (h2:nv x≤nv h) (h3:nv l'≤nv y) (h4:nv y≤nv h'):nv (mulB l h l' h').1≤nv (bmul x y)∧nv (bmul x y)≤nv (mulB l h l' h').2:=by
 unfold mulB
 split
 ·exact ends _
 ·rename_i ho
  have a1:=zca l;have a3:=zca l'
  have hx0:0≤nv x:=by omega
  have hy0:0≤nv y:=by omega
  have hbig:nv h*nv h'≤18446744073709551615:=by
   unfold zyt at ho
   cases hz:eqb h' zero
   ·rw [hz] at ho
    simp only [Bool.not_false,Bool.true_and,decide_eq_true_eq,Int.not_lt] at ho
    have hp:0<nv h':=by
     have hne:h'≠zero:=(yajy _ _).1 hz
     have:nv h'≠0:=fun e=>hne (zk8 _ _ (by rw [e,za4]))
     have:=zca h'
     omega
    have hm:nv h*nv h'≤(18446744073709551615 / nv h')*nv h':=Int.mul_le_mul_of_nonneg_right ho (by omega)
    have hd:(18446744073709551615 / nv h')*nv h'≤18446744073709551615:=Int.ediv_mul_le _ (by omega)
    omega
   ·rw [(zdm _ _).1 hz,za4];omega
  have hlo:nv l*nv l'≤nv x*nv y:=Int.mul_le_mul h1 h3 a3 hx0
  have hhi:nv x*nv y≤nv h*nv h':=Int.mul_le_mul h2 h4 hy0 (by omega)
  have h00:0≤nv l*nv l':=Int.mul_nonneg a1 a3
  simp only [yaxg]
  generalize nv l*nv l'=p at *
  generalize nv x*nv y=q at *
  generalize nv h*nv h'=r at *
  omega
theorem yay9 (x y:BitVec 64):nv (band x y)≤nv x∧nv (band x y)≤nv y:=by
 unfold nv band
 rw [BitVec.toNat_and]
 have h1:x.toNat &&& y.toNat≤x.toNat:=Nat.and_le_left
 have h2:x.toNat &&& y.toNat≤y.toNat:=Nat.and_le_right
 omega
theorem ybaq (x y:BitVec 64):nv x≤nv (bor x y)∧nv y≤nv (bor x y):=by
 unfold nv bor
 rw [BitVec.toNat_or]
 have h1:x.toNat≤x.toNat ||| y.toNat:=Nat.left_le_or
 have h2:y.toNat≤x.toNat ||| y.toNat:=Nat.right_le_or
 omega
theorem zky {op:Int} (hop:2≤op∧op≤7) {l h l' h' x y:BitVec 64} (h1:nv l≤nv x) (h2:nv x≤nv h) (h3:nv l'≤nv y) (h4:nv y≤nv h') :
  nv (zce op l h l' h').1≤nv (numB op x y)∧nv (numB op x y)≤nv (zce op l h l' h').2:=by
 rcases zjm hop with rfl | rfl | rfl | rfl | rfl | rfl
 ·exact yae1 h1 h2 h3 h4
 ·exact yae9 h1 h2 h3 h4
 ·exact yaey h1 h2 h3 h4
 ·show nv zero≤nv (band x y)∧nv (band x y)≤nv (bmin h h')
  have ha:=yay9 x y
  exact ⟨(ends _).1,yaut (by omega) (by omega)⟩
 ·show nv (bmax l l')≤nv (bor x y)∧nv (bor x y)≤nv top
  have ha:=ybaq x y
  exact ⟨yasp (by omega) (by omega),(ends _).2⟩
 ·exact ends _
theorem zqb {l h x:BitVec 64} (n:Nat) (h1:nv l≤nv x) (h2:nv x≤nv h):nv (bshr l n)≤nv (bshr x n)∧nv (bshr x n)≤nv (bshr h n):=by
 simp only [yaik]
 have hp:(0:Int)<2 ^ n:=Int.pow_pos (by decide)
 exact ⟨Int.ediv_le_ediv hp h1,Int.ediv_le_ediv hp h2⟩
theorem yazs (x:BitVec 64) (n:Nat):nv (bshr x n)≤nv x:=by
 rw [yaik]
 exact Int.ediv_le_self _ (zca x)
theorem zph {l h x:BitVec 64} (n:Nat) (h1:nv l≤nv x) (h2:nv x≤nv h):nv (shlB l h n).1≤nv (bshl x n)∧nv (bshl x n)≤nv (shlB l h n).2:=by
 unfold shlB
 split
 ·rename_i he
  have he':=(zdm _ _).1 he
  have hn:nv (bshr (bshl h n) n)=nv h:=by rw [he']
  rw [yaik,yaqt] at hn
  have hp:(0:Int)<2 ^ n:=Int.pow_pos (by decide)
  have hh0:=zca h
  have hlt:nv h*2 ^ n<18446744073709551616:=by
   have hd:=Int.ediv_mul_le (nv h*2 ^ n % 18446744073709551616) (b:=2 ^ n) (by omega)
   rw [hn] at hd
   have hm:=Int.emod_lt_of_pos (nv h*2 ^ n) (show (0:Int)<18446744073709551616 by decide)
   omega
  have a1:=zca l
  have g1:nv l*2 ^ n≤nv x*2 ^ n:=Int.mul_le_mul_of_nonneg_right h1 (by omega)
  have g2:nv x*2 ^ n≤nv h*2 ^ n:=Int.mul_le_mul_of_nonneg_right h2 (by omega)
  have g0:0≤nv l*2 ^ n:=Int.mul_nonneg a1 (by omega)
  simp only [yaqt]
  generalize nv l*2 ^ n=p at *
  generalize nv x*2 ^ n=q at *
  generalize nv h*2 ^ n=r at *
  omega
 ·exact ends _
theorem yam5 {v m l h x:BitVec 64} (hr:RtB v m) (hx:rawV v m l h x=true) :
  zc7 v m l h=true∧hasV (nV v m l h) (nM m (nLo v m l) (nHi v m h)) (nLo v m l) (nHi v m h) x=true:=by
 have:=zq8 hr (l:=l) (h:=h) x
 rw [hx] at this
 have h2:=this.symm
 rw [Bool.and_eq_true] at h2
 exact h2
end Go.Proofs.YtkigmocchaikgabGreatDoor
namespace Go.Proofs.YtkigmocchaikgabGreatDoor
open Go.RowKit
section
attribute [local go_sem] zdb w_or zdd za3 zb4 zbd zc9 zc4 zda zbw zby zcz zb0 zdc zcn zc0 zb1 zbx zb2 zbz za1
set_option maxHeartbeats 1000000 in
theorem zrl (v m l h v' m' l' h':BitVec 64) (w:World) :
  Calls Tryz.prog 207 #[Vl v m l h,Vl v' m' l' h'] w fun e w'=>e=.returned (.tuple #[U (addB l h l' h').1,U (addB l h l' h').2])∧Below w.heap.size w w':=by
 have Ha:Hid (addB l h l' h'=if decide (nv (badd l l')<nv l)=decide (nv (badd h h')<nv h) then (badd l l',badd h h') else (zero,top)):=rfl
 obtain ⟨p,hp⟩:∃ b,decide (nv (badd l l')<nv l)=b:=⟨_,rfl⟩
 obtain ⟨q,hq⟩:∃ b,decide (nv (badd h h')<nv h)=b:=⟨_,rfl⟩
 rw [hp,hq] at Ha
 cases p <;> cases q
 all_goals
  go_enter Tryz.func207,Tryz.ntmps207
  go_wp2_with fail
  go_quiet (fail)
  go_wp2_with fail
  go_quiet (fail)
  go_wp2_with fail
  go_ret2
  rw [Ha.out]
  exact ⟨rfl,(by repeat (first | exact Below.refl _ _ | assumption | refine below_drewN ?_ _ | refine Below.drew ?_ | refine Below.alloc ?_ (by first | exact Nat.le_refl _ | (simp;done) | (simp;omega) | omega) _ | refine Below.setCell ?_ (by first | exact Nat.le_refl _ | (simp;done) | (simp;omega) | omega) _ | refine Below.trans ?_ (Below.mono (by assumption) (by first | exact Nat.le_refl _ | (simp;done) | (simp;omega) | omega))))⟩
set_option maxHeartbeats 1000000 in
theorem zrx (v m l h v' m' l' h':BitVec 64) (w:World) :
  Calls Tryz.prog 208 #[Vl v m l h,Vl v' m' l' h'] w fun e w'=>e=.returned (.tuple #[U (subB l h l' h').1,U (subB l h l' h').2])∧Below w.heap.size w w':=by
 have Ha:Hid (subB l h l' h'=if decide (nv l<nv h')=decide (nv h<nv l') then (bsub l h',bsub h l') else (zero,top)):=rfl
 obtain ⟨p,hp⟩:∃ b,decide (nv l<nv h')=b:=⟨_,rfl⟩
 obtain ⟨q,hq⟩:∃ b,decide (nv h<nv l')=b:=⟨_,rfl⟩
 rw [hp,hq] at Ha
 cases p <;> cases q
 all_goals
  go_enter Tryz.func208,Tryz.ntmps208
  go_wp2_with fail
  go_quiet (fail)
  go_wp2_with fail
  first | (go_quiet (fail);go_wp2_with fail) | skip
  go_ret2
  rw [Ha.out]
  exact ⟨rfl,(by repeat (first | exact Below.refl _ _ | assumption | refine below_drewN ?_ _ | refine Below.drew ?_ | refine Below.alloc ?_ (by first | exact Nat.le_refl _ | (simp;done) | (simp;omega) | omega) _ | refine Below.setCell ?_ (by first | exact Nat.le_refl _ | (simp;done) | (simp;omega) | omega) _ | refine Below.trans ?_ (Below.mono (by assumption) (by first | exact Nat.le_refl _ | (simp;done) | (simp;omega) | omega))))⟩
set_option maxRecDepth 100000 in
set_option maxHeartbeats 1000000 in
theorem zsr (v m l h v' m' l' h':BitVec 64) (w:World) :
  Calls Tryz.prog 209 #[Vl v m l h,Vl v' m' l' h'] w fun e w'=>e=.returned (.tuple #[U (mulB l h l' h').1,U (mulB l h l' h').2])∧Below w.heap.size w w':=by
 have Ha:Hid (mulB l h l' h'=if zyt h h' then (zero,top) else (bmul l l',bmul h h')):=rfl
 have Ho:Hid (zyt h h'=(!eqb h' zero&&decide (18446744073709551615 / nv h' < nv h))):=rfl
 obtain ⟨z,hz⟩:∃ b,eqb h' zero=b:=⟨_,rfl⟩
 rw [hz] at Ho
 rw [Ho.out] at Ha
 cases z
 ·have hne:nv h'≠0:=fun e=>by
   have:=zk8 h' zero (by rw [e,za4])
   rw [this] at hz;revert hz;decide
  have hpos:0<nv h':=by have:=zca h';omega
  have hnn:0≤nv h':=by omega
  have hcv:=zw4 h'
  obtain ⟨D,hD⟩:∃ D,18446744073709551615 / nv h'=D:=⟨_,rfl⟩
  rw [hD] at Ha
  by_cases hd:D<nv h
  ·have Hd:Hid (decide (D<nv h)=true):=decide_eq_true hd
   rw [Hd.out] at Ha
   go_enter Tryz.func209,Tryz.ntmps209
   go_wp2_with fail
   go_quiet (fail)
   go_wp2_with fail
   go_ret2
   rw [Ha.out]
   exact ⟨rfl,(by repeat (first | exact Below.refl _ _ | assumption | refine below_drewN ?_ _ | refine Below.drew ?_ | refine Below.alloc ?_ (by first | exact Nat.le_refl _ | (simp;done) | (simp;omega) | omega) _ | refine Below.setCell ?_ (by first | exact Nat.le_refl _ | (simp;done) | (simp;omega) | omega) _ | refine Below.trans ?_ (Below.mono (by assumption) (by first | exact Nat.le_refl _ | (simp;done) | (simp;omega) | omega))))⟩
  ·have Hd:Hid (decide (D<nv h)=false):=decide_eq_false hd
   rw [Hd.out] at Ha
   have hle:decide (D<nv h)=false:=decide_eq_false hd
   clear hd
   go_enter Tryz.func209,Tryz.ntmps209
   go_wp2_with fail
   go_quiet (fail)
   go_wp2_with fail
   go_quiet (fail)
   go_wp2_with fail
   go_ret2
   rw [Ha.out]
   exact ⟨rfl,(by repeat (first | exact Below.refl _ _ | assumption | refine below_drewN ?_ _ | refine Below.drew ?_ | refine Below.alloc ?_ (by first | exact Nat.le_refl _ | (simp;done) | (simp;omega) | omega) _ | refine Below.setCell ?_ (by first | exact Nat.le_refl _ | (simp;done) | (simp;omega) | omega) _ | refine Below.trans ?_ (Below.mono (by assumption) (by first | exact Nat.le_refl _ | (simp;done) | (simp;omega) | omega))))⟩
 ·go_enter Tryz.func209,Tryz.ntmps209
  go_wp2_with fail
  go_quiet (fail)
  go_wp2_with fail
  go_quiet (fail)
  go_wp2_with fail
  go_ret2
  rw [Ha.out]
  exact ⟨rfl,(by repeat (first | exact Below.refl _ _ | assumption | refine below_drewN ?_ _ | refine Below.drew ?_ | refine Below.alloc ?_ (by first | exact Nat.le_refl _ | (simp;done) | (simp;omega) | omega) _ | refine Below.setCell ?_ (by first | exact Nat.le_refl _ | (simp;done) | (simp;omega) | omega) _ | refine Below.trans ?_ (Below.mono (by assumption) (by first | exact Nat.le_refl _ | (simp;done) | (simp;omega) | omega))))⟩
end
def BoxAt (w:World) (b:Nat) (vs:List Value):Prop :=
 (∀ i v,vs[i]?=some v→w.cell? ⟨b,i,none⟩=some v)∧(∀ i v,vs[i]?=some v→w.frozen? ⟨b,i,none⟩=false)∧b<w.heap.size
def Boxes (w:World):List (Nat×List Value)→Prop
 | []=>True
 | p::L=>BoxAt w p.1 p.2∧(∀ q,q∈L→q.1<p.1)∧Boxes w L
theorem BoxAt.keep {w w':World} {b:Nat} {vs:List Value} (h:BoxAt w b vs) (hb:Below w.heap.size w w'):BoxAt w' b vs :=
 ⟨fun i v e=>(hb.cell (p:=⟨b,i,none⟩) h.2.2).trans (h.1 i v e),fun i v e=>(hb.frozen (p:=⟨b,i,none⟩) h.2.2).trans (h.2.1 i v e),Nat.lt_of_lt_of_le h.2.2 hb.size⟩
theorem Boxes.keep {w w':World}:∀ {L:List (Nat×List Value)},Boxes w L→Below w.heap.size w w'→Boxes w' L
 | [],_,_=>trivial
 | _::_,h,hb=>⟨h.1.keep hb,h.2.1,Boxes.keep h.2.2 hb⟩
theorem Boxes.nil (w:World):Boxes w []:=trivial
theorem Boxes.lt {w:World}:∀ {L:List (Nat×List Value)},Boxes w L→∀ q,q∈L→q.1<w.heap.size
 | [],_,_,hq=>absurd hq (by simp)
 | p::L,h,q,hq=>by
  rcases List.mem_cons.1 hq with e | e
  ·rw [e];exact h.1.2.2
  ·exact Boxes.lt h.2.2 q e
theorem Boxes.add {w:World} {L:List (Nat×List Value)} (h:Boxes w L) (cs:List Value) (t:TypeId):Boxes (w.alloc (.cells cs.toArray t)) ((w.heap.size,cs)::L):=by
 refine ⟨⟨fun i v e=>?_,fun i v e=>?_,by simp⟩,fun q hq=>h.lt q hq,h.keep ((Below.refl _ _).alloc (Nat.le_refl _) _)⟩
 ·rw [World.cell?_alloc_new];simpa using e
 ·rw [World.frozen?_alloc_new]
theorem Boxes.add2 {w:World} {L:List (Nat×List Value)} (h:Boxes w L) (x y:Value) (t:TypeId):Boxes (w.alloc (.cells #[x,y] t)) ((w.heap.size,[x,y])::L):=h.add [x,y] t
theorem Boxes.add4 {w:World} {L:List (Nat×List Value)} (h:Boxes w L) (x y z u:Value) (t:TypeId):Boxes (w.alloc (.cells #[x,y,z,u] t)) ((w.heap.size,[x,y,z,u])::L):=h.add [x,y,z,u] t
theorem Boxes.drew {w:World} {L:List (Nat×List Value)} (h:Boxes w L) (n:Nat):Boxes (w.drewN n) L:=h.keep (below_drewN (Below.refl _ _) n)
theorem BoxAt.other {w:World} {b b' i:Nat} {v:Value} {vs:List Value} (h:BoxAt w b vs) (hne:b≠b'):BoxAt (w.setCell ⟨b',i,none⟩ v) b vs:=by
 refine ⟨fun j u e=>?_,fun j u e=>?_,by simpa using h.2.2⟩
 ·rw [World.cell?_setCell_other _ _ _ _ (by intro h;injection h with h1;exact hne h1.symm)];exact h.1 j u e
 ·rw [World.frozen?_setCell];exact h.2.1 j u e
theorem Boxes.other {w:World} {b' i:Nat} {v:Value}:∀ {L:List (Nat×List Value)},Boxes w L→(∀ q,q∈L→q.1≠b')→Boxes (w.setCell ⟨b',i,none⟩ v) L
 | [],_,_=>trivial
 | p::_,h,hn=>⟨h.1.other (hn p (by simp)),h.2.1,Boxes.other h.2.2 fun q hq=>hn q (by simp [hq])⟩
theorem BoxAt.setOne {w:World} {b i:Nat} {v u:Value} {vs:List Value} (h:BoxAt w b vs) (hi:vs[i]?=some u):BoxAt (w.setCell ⟨b,i,none⟩ v) b (vs.set i v):=by
 have hlt:i<vs.length:=by
  rcases Nat.lt_or_ge i vs.length with h1 | h1
  ·exact h1
  ·rw [List.getElem?_eq_none h1] at hi;cases hi
 refine ⟨fun j y e=>?_,fun j y e=>?_,by simpa using h.2.2⟩
 ·by_cases hj:i=j
  ·subst hj
   rw [List.getElem?_set_self hlt] at e
   rw [World.cell?_setCell_same _ _ _ (h.1 i u hi)];exact e
  ·rw [List.getElem?_set_ne hj] at e
   rw [World.cell?_setCell_other _ _ _ _ (by intro h;injection h with _ h2;exact hj h2)];exact h.1 j y e
 ·rw [World.frozen?_setCell]
  by_cases hj:i=j
  ·subst hj;exact h.2.1 i u hi
  ·rw [List.getElem?_set_ne hj] at e;exact h.2.1 j y e
theorem Boxes.setOne {w:World} {b i:Nat} {v u:Value} {vs:List Value}:∀ {L:List (Nat×List Value)} (k:Nat),Boxes w L→L[k]?=some (b,vs)→vs[i]?=some u→Boxes (w.setCell ⟨b,i,none⟩ v) (L.set k (b,vs.set i v))
 | [],_,_,e,_=>by simp at e
 | p::L,0,h,e,hi=>by
  simp only [List.getElem?_cons_zero,Option.some.injEq] at e
  subst e
  exact ⟨h.1.setOne hi,h.2.1,h.2.2.other fun q hq=>Nat.ne_of_lt (h.2.1 q hq)⟩
 | p::L,k+1,h,e,hi=>by
  simp only [List.getElem?_cons_succ] at e
  have hm:(b,vs)∈L:=List.mem_of_getElem? e
  refine ⟨h.1.other (Nat.ne_of_gt (h.2.1 _ hm)),fun q hq=>?_,Boxes.setOne k h.2.2 e hi⟩
  rcases List.mem_or_eq_of_mem_set hq with h1 | h1
  ·exact h.2.1 q h1
  ·rw [h1];have:=h.2.1 (b,vs) hm;exact this
theorem Boxes.set2 {w:World} {b:Nat} {x y u0 u1:Value} {L:List (Nat×List Value)} (k:Nat) (h:Boxes w L) (e:L[k]?=some (b,[u0,u1])) :
  Boxes ((w.setCell ⟨b,0,none⟩ x).setCell ⟨b,1,none⟩ y) (L.set k (b,[x,y])):=by
 have h1:=Boxes.setOne (i:=0) (v:=x) k h e rfl
 have e1:(L.set k (b,[u0,u1].set 0 x))[k]?=some (b,[x,u1]):=by
  have:k<L.length:=by
   rcases Nat.lt_or_ge k L.length with h2 | h2
   ·exact h2
   ·rw [List.getElem?_eq_none h2] at e;cases e
  rw [List.getElem?_set_self this];rfl
 have h2:=Boxes.setOne (i:=1) (v:=y) k h1 e1 rfl
 rw [List.set_set] at h2
 exact h2
theorem Boxes.set4 {w:World} {b:Nat} {x y z t u0 u1 u2 u3:Value} {L:List (Nat×List Value)} (k:Nat) (h:Boxes w L) (e:L[k]?=some (b,[u0,u1,u2,u3])) :
  Boxes ((((w.setCell ⟨b,0,none⟩ x).setCell ⟨b,1,none⟩ y).setCell ⟨b,2,none⟩ z).setCell ⟨b,3,none⟩ t) (L.set k (b,[x,y,z,t])):=by
 have hk:k<L.length:=by
  rcases Nat.lt_or_ge k L.length with h2 | h2
  ·exact h2
  ·rw [List.getElem?_eq_none h2] at e;cases e
 have h1:=Boxes.setOne (i:=0) (v:=x) k h e rfl
 have h2:=Boxes.setOne (i:=1) (v:=y) (vs:=[x,u1,u2,u3]) k h1 (by rw [List.getElem?_set_self hk];rfl) rfl
 rw [List.set_set] at h2
 have h3:=Boxes.setOne (i:=2) (v:=z) (vs:=[x,y,u2,u3]) k h2 (by rw [List.getElem?_set_self hk];rfl) rfl
 rw [List.set_set] at h3
 have h4:=Boxes.setOne (i:=3) (v:=t) (vs:=[x,y,z,u3]) k h3 (by rw [List.getElem?_set_self hk];rfl) rfl
 rw [List.set_set] at h4
 exact h4
theorem BoxAt.one {w:World} {b:Nat} {x:Value} (h:BoxAt w b [x]):w.cell? ⟨b,0,none⟩=some x∧w.frozen? ⟨b,0,none⟩=false∧b<w.heap.size :=
 ⟨h.1 0 x rfl,h.2.1 0 x rfl,h.2.2⟩
theorem BoxAt.two {w:World} {b:Nat} {x y:Value} (h:BoxAt w b [x,y]):w.cell? ⟨b,0,none⟩=some x∧w.cell? ⟨b,1,none⟩=some y∧w.frozen? ⟨b,0,none⟩=false∧w.frozen? ⟨b,1,none⟩=false∧b<w.heap.size :=
 ⟨h.1 0 x rfl,h.1 1 y rfl,h.2.1 0 x rfl,h.2.1 1 y rfl,h.2.2⟩
theorem BoxAt.four {w:World} {b:Nat} {x y z t:Value} (h:BoxAt w b [x,y,z,t]):w.cell? ⟨b,0,none⟩=some x∧w.cell? ⟨b,1,none⟩=some y∧w.cell? ⟨b,2,none⟩=some z∧w.cell? ⟨b,3,none⟩=some t
  ∧ w.frozen? ⟨b,0,none⟩=false∧w.frozen? ⟨b,1,none⟩=false∧w.frozen? ⟨b,2,none⟩=false∧w.frozen? ⟨b,3,none⟩=false∧b<w.heap.size :=
 ⟨h.1 0 x rfl,h.1 1 y rfl,h.1 2 z rfl,h.1 3 t rfl,h.2.1 0 x rfl,h.2.1 1 y rfl,h.2.1 2 z rfl,h.2.1 3 t rfl,h.2.2⟩
theorem Boxes.head {w:World} {p:Nat×List Value} {L:List (Nat×List Value)} (h:Boxes w (p::L)):BoxAt w p.1 p.2:=h.1
theorem Boxes.tail {w:World} {p:Nat×List Value} {L:List (Nat×List Value)} (h:Boxes w (p::L)):Boxes w L:=h.2.2
structure Kp (w0 w:World) (L:List (Nat×List Value)):Prop where
 bel:Below w0.heap.size w0 w
 box:Boxes w L
 lo:∀ p,p∈L→w0.heap.size≤p.1
theorem Kp.start (w:World):Kp w w []:=⟨Below.refl _ _,trivial,by simp⟩
theorem Kp.keep {w0 w w':World} {L:List (Nat×List Value)} (h:Kp w0 w L) (hb:Below w.heap.size w w'):Kp w0 w' L:=⟨h.bel.trans (hb.mono h.bel.size),h.box.keep hb,h.lo⟩
theorem Kp.drew {w0 w:World} {L:List (Nat×List Value)} (h:Kp w0 w L) (n:Nat):Kp w0 (w.drewN n) L:=h.keep (below_drewN (Below.refl _ _) n)
theorem Kp.add2 {w0 w:World} {L:List (Nat×List Value)} (h:Kp w0 w L) (x y:Value) (t:TypeId):Kp w0 (w.alloc (.cells #[x,y] t)) ((w.heap.size,[x,y])::L) :=
 ⟨h.bel.alloc h.bel.size _,h.box.add2 x y t,fun p hp=>by
  rcases List.mem_cons.1 hp with e | e
  ·rw [e];exact h.bel.size
  ·exact h.lo p e⟩
theorem Kp.add4 {w0 w:World} {L:List (Nat×List Value)} (h:Kp w0 w L) (x y z u:Value) (t:TypeId):Kp w0 (w.alloc (.cells #[x,y,z,u] t)) ((w.heap.size,[x,y,z,u])::L) :=
 ⟨h.bel.alloc h.bel.size _,h.box.add4 x y z u t,fun p hp=>by
  rcases List.mem_cons.1 hp with e | e
  ·rw [e];exact h.bel.size
  ·exact h.lo p e⟩
theorem Kp.skip {w0 w:World} {L:List (Nat×List Value)} (h:Kp w0 w L) (o:Obj):Kp w0 (w.alloc o) L:=h.keep ((Below.refl _ _).alloc (Nat.le_refl _) _)
theorem Kp.set2 {w0 w:World} {b:Nat} {x y u0 u1:Value} {L:List (Nat×List Value)} (k:Nat) (h:Kp w0 w L) (e:L[k]?=some (b,[u0,u1])) :
  Kp w0 ((w.setCell ⟨b,0,none⟩ x).setCell ⟨b,1,none⟩ y) (L.set k (b,[x,y])):=by
 have hlo:w0.heap.size≤b:=h.lo _ (List.mem_of_getElem? e)
 refine ⟨(h.bel.setCell hlo x).setCell hlo y,h.box.set2 k e,fun p hp=>?_⟩
 rcases List.mem_or_eq_of_mem_set hp with h1 | h1
 ·exact h.lo p h1
 ·rw [h1];exact hlo
theorem Kp.set4 {w0 w:World} {b:Nat} {x y z t u0 u1 u2 u3:Value} {L:List (Nat×List Value)} (k:Nat) (h:Kp w0 w L) (e:L[k]?=some (b,[u0,u1,u2,u3])) :
  Kp w0 ((((w.setCell ⟨b,0,none⟩ x).setCell ⟨b,1,none⟩ y).setCell ⟨b,2,none⟩ z).setCell ⟨b,3,none⟩ t) (L.set k (b,[x,y,z,t])):=by
 have hlo:w0.heap.size≤b:=h.lo _ (List.mem_of_getElem? e)
 refine ⟨(((h.bel.setCell hlo x).setCell hlo y).setCell hlo z).setCell hlo t,h.box.set4 k e,fun p hp=>?_⟩
 rcases List.mem_or_eq_of_mem_set hp with h1 | h1
 ·exact h.lo p h1
 ·rw [h1];exact hlo
section
attribute [local go_sem] zdb w_or zdd za3 zb4 zbd zc9 zc4 zda zbw zby zcz zb0 zdc zcn zc0 zb1 zbx zb2 zbz za1
attribute [local go_sem] ybae ybah
set_option maxHeartbeats 1000000 in
theorem zgw (v m x:BitVec 64) (w:World) :
  Calls Tryz.prog 185 #[Bt v m,U x] w fun e w'=>e=.returned (.tuple #[U (zbr v m x).1,.bool (zbr v m x).2])∧Below w.heap.size w w':=by
 have Hl:Hid (zbr v m x=if eqb (zh4 v m x) zero then (x,true)
  else if nv (band x (zf3 v m x))<nv (band v (zf3 v m x)) then (bor (bandn x (zf3 v m x)) (band v (zf3 v m x)),true)
  else if eqb (zgm v m x) zero then (zero,false)
  else (bor (bor (bandn x (bsub (lowB (zgm v m x)) one)) (lowB (zgm v m x))) (band v (bsub (lowB (zgm v m x)) one)),true)):=rfl
 obtain ⟨c1,h1⟩:∃ b,eqb (bandn (bxor x v) m) zero=b:=⟨_,rfl⟩
 have H1:Hid (eqb (zh4 v m x) zero=c1):=h1
 rw [H1.out] at Hl
 cases c1
 ·have h64:=zn3 (bandn (bxor x v) m)
  obtain ⟨n,hn⟩:∃ n,Hid (blen (bandn (bxor x v) m)=n):=⟨_,rfl⟩
  have hn64:n≤64:=by rw [← hn.out];exact h64
  clear h64
  have Hr:Hid (zf3 v m x=bsub (bshl one n) one):=by show zd1 (blen (bandn (bxor x v) m))=_;rw [hn.out];rfl
  have Hf:Hid (zgm v m x=bandn (bandn m x) (bsub (bshl one n) one)):=by show bandn (bandn m x) (zf3 v m x)=_;rw [Hr.out]
  rw [Hr.out,Hf.out] at Hl
  go_enter Tryz.func185,Tryz.ntmps185
  go_wp2_with fail
  refine (yay8 _ _).mono ?_
  rintro e w1 ⟨rfl,rfl⟩
  rw [hn.out]
  by_cases hlt:nv (band x (bsub (bshl one n) one))<nv (band v (bsub (bshl one n) one))
  ·rw [if_pos hlt] at Hl
   go_wp2_with fail
   go_ret2
   rw [Hl.out]
   exact ⟨rfl,(by repeat (first | exact Below.refl _ _ | assumption | refine below_drewN ?_ _ | refine Below.drew ?_ | refine Below.alloc ?_ (by first | exact Nat.le_refl _ | (simp;done) | (simp;omega) | omega) _ | refine Below.setCell ?_ (by first | exact Nat.le_refl _ | (simp;done) | (simp;omega) | omega) _ | refine Below.trans ?_ (Below.mono (by assumption) (by first | exact Nat.le_refl _ | (simp;done) | (simp;omega) | omega))))⟩
  ·rw [if_neg hlt] at Hl
   have hle:nv (band v (bsub (bshl one n) one))≤nv (band x (bsub (bshl one n) one)):=by omega
   clear hlt
   obtain ⟨c2,h2⟩:∃ b,eqb (bandn (bandn m x) (bsub (bshl one n) one)) zero=b:=⟨_,rfl⟩
   rw [h2] at Hl
   cases c2
   ·go_wp2_with fail
    go_ret2
    rw [Hl.out]
    exact ⟨rfl,(by repeat (first | exact Below.refl _ _ | assumption | refine below_drewN ?_ _ | refine Below.drew ?_ | refine Below.alloc ?_ (by first | exact Nat.le_refl _ | (simp;done) | (simp;omega) | omega) _ | refine Below.setCell ?_ (by first | exact Nat.le_refl _ | (simp;done) | (simp;omega) | omega) _ | refine Below.trans ?_ (Below.mono (by assumption) (by first | exact Nat.le_refl _ | (simp;done) | (simp;omega) | omega))))⟩
   ·go_wp2_with fail
    go_ret2
    rw [Hl.out]
    exact ⟨rfl,(by repeat (first | exact Below.refl _ _ | assumption | refine below_drewN ?_ _ | refine Below.drew ?_ | refine Below.alloc ?_ (by first | exact Nat.le_refl _ | (simp;done) | (simp;omega) | omega) _ | refine Below.setCell ?_ (by first | exact Nat.le_refl _ | (simp;done) | (simp;omega) | omega) _ | refine Below.trans ?_ (Below.mono (by assumption) (by first | exact Nat.le_refl _ | (simp;done) | (simp;omega) | omega))))⟩
 ·go_enter Tryz.func185,Tryz.ntmps185
  go_wp2_with fail
  go_ret2
  rw [Hl.out]
  exact ⟨rfl,(by repeat (first | exact Below.refl _ _ | assumption | refine below_drewN ?_ _ | refine Below.drew ?_ | refine Below.alloc ?_ (by first | exact Nat.le_refl _ | (simp;done) | (simp;omega) | omega) _ | refine Below.setCell ?_ (by first | exact Nat.le_refl _ | (simp;done) | (simp;omega) | omega) _ | refine Below.trans ?_ (Below.mono (by assumption) (by first | exact Nat.le_refl _ | (simp;done) | (simp;omega) | omega))))⟩
set_option maxHeartbeats 1000000 in
theorem zk6 (v m x:BitVec 64) (w:World) :
  Calls Tryz.prog 186 #[Bt v m,U x] w fun e w'=>e=.returned (.tuple #[U (zcg v m x).1,.bool (zcg v m x).2])∧Below w.heap.size w w':=by
 have Hg:Hid (zcg v m x=if (zbr (turn v m) m (bnot x)).2 then (bnot (zbr (turn v m) m (bnot x)).1,true) else (zero,false)):=rfl
 have Hc:Hid (∀ w,Calls Tryz.prog 185 #[Bt (bnot (bor v m)) m,U (bnot x)] w fun e w'=>e=.returned (.tuple #[U (zbr (turn v m) m (bnot x)).1,.bool (zbr (turn v m) m (bnot x)).2])∧Below w.heap.size w w'):=fun w=>zgw (turn v m) m (bnot x) w
 generalize zbr (turn v m) m (bnot x)=S at Hg Hc
 obtain ⟨sb,sf⟩:=S
 cases sf
 all_goals
  go_enter Tryz.func186,Tryz.ntmps186
  go_wp2_with fail
  refine (Hc.out _).mono ?_
  rintro e w1 ⟨rfl,hb1⟩
  go_wp2_with fail
  go_ret2
  rw [Hg.out]
  exact ⟨rfl,(by repeat (first | exact Below.refl _ _ | assumption | refine below_drewN ?_ _ | refine Below.drew ?_ | refine Below.alloc ?_ (by first | exact Nat.le_refl _ | (simp;done) | (simp;omega) | omega) _ | refine Below.setCell ?_ (by first | exact Nat.le_refl _ | (simp;done) | (simp;omega) | omega) _ | refine Below.trans ?_ (Below.mono (by assumption) (by first | exact Nat.le_refl _ | (simp;done) | (simp;omega) | omega))))⟩
end
section
attribute [local go_sem] zdb w_or zdd za3 zb4 zbd zc9 zc4 zda zbw zby zcz zb0 zdc zcn zc0 zb1 zbx zb2 zbz za1
abbrev V0:Value:=Vl zero zero zero zero
set_option maxHeartbeats 1000000 in
theorem zte {v m l h:BitVec 64} (hr:Hid (eqb (band v m) zero=true)) (ho:Hid (zc7 v m l h=false)) (w:World) :
  Calls Tryz.prog 156 #[Vl v m l h] w fun e w'=>e=.returned (.tuple #[V0,.bool false,N 0])∧Below w.heap.size w w':=by
 have HL:Hid (∀ w,Calls Tryz.prog 185 #[Bt v m,U l] w fun e w'=>e=.returned (.tuple #[U (zbr v m l).1,.bool (zbr v m l).2])∧Below w.heap.size w w'):=fun w=>zgw v m l w
 have HG:Hid (∀ w,Calls Tryz.prog 186 #[Bt v m,U h] w fun e w'=>e=.returned (.tuple #[U (zcg v m h).1,.bool (zcg v m h).2])∧Below w.heap.size w w'):=fun w=>zk6 v m h w
 have Ho:Hid (((zbr v m l).2&&((zcg v m h).2&&decide (nv (zbr v m l).1≤nv (zcg v m h).1)))=false):=ho
 clear ho
 generalize zbr v m l=L at HL Ho
 generalize zcg v m h=G at HG Ho
 obtain ⟨lo,lb⟩:=L
 obtain ⟨hi,gb⟩:=G
 go_enter Tryz.func156,Tryz.ntmps156
 go_wp2_with fail
 refine (zto hr _).mono ?_
 rintro e w1 ⟨rfl,hb1⟩
 have hK:=(((Kp.start w).add4 _ _ _ _ _).add4 _ _ _ _ _).keep hb1
 simp only [World.size_alloc] at hK
 obtain ⟨r0,r1,r2,r3,r4,r5,r6,r7,r8⟩:=hK.box.head.four
 obtain ⟨a0,a1,a2,a3,a4,a5,a6,a7,a8⟩:=hK.box.tail.head.four
 first | rw [er_t] | rw [er_f]
 go_wp2_with fail
 refine (HL.out _).mono ?_
 rintro e w2 ⟨rfl,hb2⟩
 have hK2:=hK.keep hb2
 clear r0 r1 r2 r3 r4 r5 r6 r7 r8 a0 a1 a2 a3 a4 a5 a6 a7 a8
 obtain ⟨r0,r1,r2,r3,r4,r5,r6,r7,r8⟩:=hK2.box.head.four
 obtain ⟨a0,a1,a2,a3,a4,a5,a6,a7,a8⟩:=hK2.box.tail.head.four
 go_wp2_with fail
 refine (HG.out _).mono ?_
 rintro e w3 ⟨rfl,hb3⟩
 have hK3:=hK2.keep hb3
 clear r0 r1 r2 r3 r4 r5 r6 r7 r8 a0 a1 a2 a3 a4 a5 a6 a7 a8
 obtain ⟨r0,r1,r2,r3,r4,r5,r6,r7,r8⟩:=hK3.box.head.four
 obtain ⟨a0,a1,a2,a3,a4,a5,a6,a7,a8⟩:=hK3.box.tail.head.four
 cases lb
 ·go_wp2_with fail
  exact bodyPost_ret (v:=.tuple #[V0,.bool false,N 0]) (by simp [results,Tryz.results156,go_sem,za4,r0,r1,r2,r3]) rfl ⟨rfl,(hK3.set4 0 rfl).bel⟩
 ·cases gb
  ·go_wp2_with fail
   exact bodyPost_ret (v:=.tuple #[V0,.bool false,N 0]) (by simp [results,Tryz.results156,go_sem,za4,r0,r1,r2,r3]) rfl ⟨rfl,(hK3.set4 0 rfl).bel⟩
  ·have hlt:nv hi<nv lo:=by
    have:=Ho.out
    simp only [Bool.true_and,decide_eq_false_iff_not] at this
    omega
   clear Ho
   go_wp2_with fail
   exact bodyPost_ret (v:=.tuple #[V0,.bool false,N 0]) (by simp [results,Tryz.results156,go_sem,za4,r0,r1,r2,r3]) rfl ⟨rfl,(hK3.set4 0 rfl).bel⟩
theorem zkc {v m v' m':BitVec 64} (h1:RtB v m) (h2:RtB v' m'):Hid ((eqb (band v m) zero&&eqb (band v' m') zero)=true):=by
 show _=true
 rw [(zea _ _).2 h1,(zea _ _).2 h2];rfl
set_option maxHeartbeats 1000000 in
theorem zsv {v m l h:BitVec 64} (hr:Hid (eqb (band v m) zero=true)) (ho:Hid (zc7 v m l h=true)) (w:World) :
  Calls Tryz.prog 156 #[Vl v m l h] w fun e w'=>e=.returned (.tuple #[Vl (nV v m l h) (nM m (nLo v m l) (nHi v m h)) (nLo v m l) (nHi v m h),.bool true,N 0])∧Below w.heap.size w w':=by
 have hrt:=(zea v m).1 hr.out
 have hfa:=zes hrt ho.out
 have ho':=ho.out
 unfold zc7 at ho'
 simp only [Bool.and_eq_true] at ho'
 have HL:Hid (∀ w,Calls Tryz.prog 185 #[Bt v m,U l] w fun e w'=>e=.returned (.tuple #[U (nLo v m l),.bool true])∧Below w.heap.size w w'):=fun w=>by
  have:=zgw v m l w;rw [ho'.1] at this;exact this
 have HG:Hid (∀ w,Calls Tryz.prog 186 #[Bt v m,U h] w fun e w'=>e=.returned (.tuple #[U (nHi v m h),.bool true])∧Below w.heap.size w w'):=fun w=>by
  have:=zk6 v m h w;rw [ho'.2.1] at this;exact this
 have HS:Hid (∀ w,Calls Tryz.prog 142 #[U (nLo v m l),U (nHi v m h)] w fun e w'=>e=.returned (.tuple #[Bt (spV (nLo v m l) (nHi v m h)) (sM (nLo v m l) (nHi v m h)),N 0])∧Below w.heap.size w w'):=fun w=>yahm hfa.2.2.1 w
 have HM:Hid (∀ w,Calls Tryz.prog 150 #[Bt v m,Bt (spV (nLo v m l) (nHi v m h)) (sM (nLo v m l) (nHi v m h))] w fun e w'=>e=.returned (.tuple #[Bt (nV v m l h) (nM m (nLo v m l) (nHi v m h)),.bool true,N 0])∧Below w.heap.size w w'):=fun w =>
  yakj (zkc hrt (zez _ _)) (zmi hrt hfa.1 (Int.le_refl _) hfa.2.2.1) w
 have hle:=hfa.2.2.1
 clear hfa ho' ho hrt
 generalize nV v m l h=rv at HM ⊢
 generalize nM m (nLo v m l) (nHi v m h)=rm at HM ⊢
 generalize spV (nLo v m l) (nHi v m h)=sv at HM HS
 generalize sM (nLo v m l) (nHi v m h)=sm at HM HS
 generalize nLo v m l=lo at HL HS hle ⊢
 generalize nHi v m h=hi at HG HS hle ⊢
 go_enter Tryz.func156,Tryz.ntmps156
 go_wp2_with fail
 refine (zto hr _).mono ?_
 rintro e w1 ⟨rfl,hb1⟩
 have hK:=(((Kp.start w).add4 _ _ _ _ _).add4 _ _ _ _ _).keep hb1
 simp only [World.size_alloc] at hK
 obtain ⟨r0,r1,r2,r3,r4,r5,r6,r7,r8⟩:=hK.box.head.four
 obtain ⟨a0,a1,a2,a3,a4,a5,a6,a7,a8⟩:=hK.box.tail.head.four
 first | rw [er_t] | rw [er_f]
 go_wp2_with fail
 refine (HL.out _).mono ?_
 rintro e w2 ⟨rfl,hb2⟩
 have hK2:=hK.keep hb2
 clear r0 r1 r2 r3 r4 r5 r6 r7 r8 a0 a1 a2 a3 a4 a5 a6 a7 a8
 obtain ⟨r0,r1,r2,r3,r4,r5,r6,r7,r8⟩:=hK2.box.head.four
 obtain ⟨a0,a1,a2,a3,a4,a5,a6,a7,a8⟩:=hK2.box.tail.head.four
 go_wp2_with fail
 refine (HG.out _).mono ?_
 rintro e w3 ⟨rfl,hb3⟩
 have hK3:=hK2.keep hb3
 clear r0 r1 r2 r3 r4 r5 r6 r7 r8 a0 a1 a2 a3 a4 a5 a6 a7 a8
 obtain ⟨r0,r1,r2,r3,r4,r5,r6,r7,r8⟩:=hK3.box.head.four
 obtain ⟨a0,a1,a2,a3,a4,a5,a6,a7,a8⟩:=hK3.box.tail.head.four
 go_wp2_with fail
 refine (HS.out _).mono ?_
 rintro e w4 ⟨rfl,hb4⟩
 have hK4:=hK3.keep hb4
 clear r0 r1 r2 r3 r4 r5 r6 r7 r8 a0 a1 a2 a3 a4 a5 a6 a7 a8
 obtain ⟨r0,r1,r2,r3,r4,r5,r6,r7,r8⟩:=hK4.box.head.four
 obtain ⟨a0,a1,a2,a3,a4,a5,a6,a7,a8⟩:=hK4.box.tail.head.four
 go_wp2_with fail
 refine (HM.out _).mono ?_
 rintro e w5 ⟨rfl,hb5⟩
 have hK5:=(hK4.add2 _ _ _).keep hb5
 clear r0 r1 r2 r3 r4 r5 r6 r7 r8 a0 a1 a2 a3 a4 a5 a6 a7 a8
 obtain ⟨s0,s1,s2,s3,s4⟩:=hK5.box.head.two
 obtain ⟨r0,r1,r2,r3,r4,r5,r6,r7,r8⟩:=hK5.box.tail.head.four
 obtain ⟨a0,a1,a2,a3,a4,a5,a6,a7,a8⟩:=hK5.box.tail.tail.head.four
 go_wp2_with fail
 exact bodyPost_ret (v:=.tuple #[Vl rv rm lo hi,.bool true,N 0]) (by simp [results,Tryz.results156,go_sem,r0,r1,r2,r3,r8]) rfl ⟨rfl,((hK5.set4 1 rfl).add2 _ _ _).bel⟩
end
end Go.Proofs.YtkigmocchaikgabGreatDoor
