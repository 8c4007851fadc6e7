import Derived.Test.YtkigmocchaikgabGreatDoorDj2
import Derived.Test.YtkigmocchaikgabGreatDoorProg
import Derived.WalkKit
import Derived.WalkSpells
import Derived.WalkLawsBesides
import Derived.Deep.QuietTactic
import Derived.BigQuiet
import Derived.Handy
import Derived.Lib.BitFns
/- Sums and differences of what is known of two numbers: carries; plain facts. -/
namespace Go.Proofs.YtkigmocchaikgabGreatDoor
def cy (x y:BitVec 64) (i:Nat):Bool:=BitVec.carry i x y false
theorem znn (x y:BitVec 64):cy x y 0=false:=by unfold cy;rw [BitVec.carry_zero]
theorem zkn (x y:BitVec 64) (i:Nat):cy x y (i+1)=((bit x i&&bit y i)||(cy x y i&&(bit x i||bit y i))):=by
 unfold cy bit
 rw [BitVec.carry_succ]
 unfold Bool.atLeastTwo
 cases x.getLsbD i <;> cases y.getLsbD i <;> cases BitVec.carry i x y false <;> rfl
theorem zik (x y:BitVec 64) (i:Nat) (hi:i<64):bit (badd x y) i=(bit x i ^^ bit y i ^^ cy x y i):=by
 unfold bit badd cy
 rw [BitVec.getLsbD_add hi]
 cases x.getLsbD i <;> cases y.getLsbD i <;> cases BitVec.carry i x y false <;> rfl
theorem znx (x y x' y':BitVec 64) (hx:∀ j,bit x j=true→bit x' j=true) (hy:∀ j,bit y j=true→bit y' j=true) (i:Nat):cy x y i=true→cy x' y' i=true:=by
 induction i with
 | zero=>intro h;rw [znn] at h;cases h
 | succ i ih =>
  rw [zkn,zkn]
  have h1:=hx i;have h2:=hy i
  revert ih h1 h2
  cases bit x i <;> cases bit y i <;> cases cy x y i <;> cases bit x' i <;> cases bit y' i <;> cases cy x' y' i <;> simp
theorem has_iff (v m x:BitVec 64):eqb (bandn x m) v=true↔∀ j,j<64→(bit x j&&!bit m j)=bit v j:=by
 rw [zdl]
 constructor
 ·intro h j hj;rw [← zas _ _ _ hj,h]
 ·intro h;apply yada;intro j hj;rw [zas _ _ _ hj];exact h j hj
theorem yacq {v m:BitVec 64} (hr:∀ j,(bit v j&&bit m j)=false):badd v m=bor v m:=by
 have hc:∀ i,cy v m i=false:=by
  intro i
  induction i with
  | zero=>exact znn _ _
  | succ i ih =>
   rw [zkn,ih]
   have:=hr i
   revert this
   cases bit v i <;> cases bit m i <;> simp
 apply yada;intro j hj
 rw [zik _ _ _ hj,hc j,zaq]
 have:=hr j
 revert this
 cases bit v j <;> cases bit m j <;> simp
theorem yan3 (a b c d:BitVec 64):badd (badd (badd a b) c) d=badd (badd a c) (badd b d):=by
 unfold badd
 rw [BitVec.add_assoc,BitVec.add_assoc,BitVec.add_assoc]
 congr 1
 rw [← BitVec.add_assoc,← BitVec.add_assoc,BitVec.add_comm b c]
theorem zrg {av am bv bm:BitVec 64} (ha:∀ j,(bit av j&&bit am j)=false) (hb:∀ j,(bit bv j&&bit bm j)=false) (j:Nat) (hj:j<64) :
  bit (bor (bor (bxor (badd av bv) (badd (badd (badd av bv) am) bm)) am) bm) j=(bit am j||bit bm j||(!cy av bv j&&cy (bor av am) (bor bv bm) j)):=by
 rw [zaq,zaq,zbm,yan3,yacq ha,yacq hb,zik _ _ _ hj,zik _ _ _ hj,zaq,zaq]
 have hm:=znx av bv (bor av am) (bor bv bm) (fun i h=>by rw [zaq,h];rfl) (fun i h=>by rw [zaq,h];rfl) j
 have h1:=ha j;have h2:=hb j
 revert hm h1 h2
 cases bit av j <;> cases bit am j <;> cases bit bv j <;> cases bit bm j <;> cases cy av bv j <;> cases cy (bor av am) (bor bv bm) j <;> simp
theorem zvl {av am bv bm x y:BitVec 64} (ha:∀ j,(bit av j&&bit am j)=false) (hb:∀ j,(bit bv j&&bit bm j)=false)
  (hx:∀ j,j<64→(bit x j&&!bit am j)=bit av j) (hy:∀ j,j<64→(bit y j&&!bit bm j)=bit bv j) (M:BitVec 64)
  (hM:M=bor (bor (bxor (badd av bv) (badd (badd (badd av bv) am) bm)) am) bm):∀ j,j<64→(bit (badd x y) j&&!bit M j)=bit (bandn (badd av bv) M) j:=by
 intro j hj
 rw [zas _ _ _ hj,hM,zrg ha hb j hj,zik _ _ _ hj,zik _ _ _ hj]
 have lx:∀ i,bit av i=true→bit x i=true:=fun i h=>by
  by_cases hi:i<64
  ·have:=hx i hi;rw [h] at this;revert this;cases bit x i <;> simp
  ·rw [zba _ _ (by omega)] at h;cases h
 have ly:∀ i,bit bv i=true→bit y i=true:=fun i h=>by
  by_cases hi:i<64
  ·have:=hy i hi;rw [h] at this;revert this;cases bit y i <;> simp
  ·rw [zba _ _ (by omega)] at h;cases h
 have ux:∀ i,bit x i=true→bit (bor av am) i=true:=fun i h=>by
  by_cases hi:i<64
  ·have:=hx i hi;rw [zaq];rw [h] at this;revert this;cases bit av i <;> cases bit am i <;> simp
  ·rw [zba _ _ (by omega)] at h;cases h
 have uy:∀ i,bit y i=true→bit (bor bv bm) i=true:=fun i h=>by
  by_cases hi:i<64
  ·have:=hy i hi;rw [zaq];rw [h] at this;revert this;cases bit bv i <;> cases bit bm i <;> simp
  ·rw [zba _ _ (by omega)] at h;cases h
 have m1:=znx av bv x y lx ly j
 have m2:=znx x y (bor av am) (bor bv bm) ux uy j
 have h1:=hx j hj;have h2:=hy j hj
 revert m1 m2 h1 h2
 cases bit x j <;> cases bit y j <;> cases bit av j <;> cases bit am j <;> cases bit bv j <;> cases bit bm j <;> cases cy av bv j <;> cases cy x y j <;> cases cy (bor av am) (bor bv bm) j <;> simp
theorem yalx (x y:BitVec 64):bsub x y=bnot (badd (bnot x) y):=by
 unfold bsub bnot badd
 apply BitVec.eq_of_toNat_eq
 rw [BitVec.toNat_sub,BitVec.toNat_not,BitVec.toNat_add,BitVec.toNat_not]
 have:=x.isLt;have:=y.isLt
 omega
def bw (x y:BitVec 64) (i:Nat):Bool:=cy (bnot x) y i
theorem zko (x y:BitVec 64) (i:Nat) (hi:i<64):bit (bsub x y) i=(bit x i ^^ bit y i ^^ bw x y i):=by
 rw [yalx,zdj _ _ hi,zik _ _ _ hi,zdj _ _ hi]
 unfold bw
 cases bit x i <;> cases bit y i <;> cases cy (bnot x) y i <;> rfl
theorem zzj (x y:BitVec 64):bw x y 0=false:=znn _ _
theorem zyp (x y:BitVec 64) (i:Nat) (hi:i<64):bw x y (i+1)=((!bit x i&&bit y i)||(bw x y i&&(!bit x i||bit y i))):=by
 unfold bw;rw [zkn,zdj _ _ hi]
theorem zg1 (x y x' y':BitVec 64) (hx:∀ j,bit x' j=true→bit x j=true) (hy:∀ j,bit y j=true→bit y' j=true) (i:Nat):bw x y i=true→bw x' y' i=true:=by
 unfold bw
 refine znx _ _ _ _ (fun j h=>?_) hy i
 by_cases hj:j<64
 ·rw [zdj _ _ hj] at h ⊢
  have:=hx j
  revert this h
  cases bit x j <;> cases bit x' j <;> simp
 ·rw [zba _ _ (by omega)] at h;cases h
theorem yavi (a b c:BitVec 64):badd (bsub a b) c=bsub (badd a c) b:=by
 unfold badd bsub
 apply BitVec.eq_of_toNat_eq
 simp only [BitVec.toNat_add,BitVec.toNat_sub]
 have:=a.isLt;have:=b.isLt;have:=c.isLt
 omega
theorem sub_sub (a b c:BitVec 64):bsub (bsub a b) c=bsub a (badd b c):=by
 unfold badd bsub
 apply BitVec.eq_of_toNat_eq
 simp only [BitVec.toNat_add,BitVec.toNat_sub]
 have:=a.isLt;have:=b.isLt;have:=c.isLt
 omega
theorem zrb {av am bv bm:BitVec 64} (ha:∀ j,(bit av j&&bit am j)=false) (hb:∀ j,(bit bv j&&bit bm j)=false) (j:Nat) (hj:j<64) :
  bit (bor (bor (bxor (badd (bsub av bv) am) (bsub (bsub av bv) bm)) am) bm) j=(bit am j||bit bm j||(!bw (bor av am) bv j&&bw av (bor bv bm) j)):=by
 rw [zaq,zaq,zbm,yavi,sub_sub,yacq ha,yacq hb,zko _ _ _ hj,zko _ _ _ hj,zaq,zaq]
 have hm:=zg1 (bor av am) bv av (bor bv bm) (fun i h=>by rw [zaq,h];rfl) (fun i h=>by rw [zaq,h];rfl) j
 have h1:=ha j;have h2:=hb j
 revert hm h1 h2
 cases bit av j <;> cases bit am j <;> cases bit bv j <;> cases bit bm j <;> cases bw (bor av am) bv j <;> cases bw av (bor bv bm) j <;> simp
theorem yawt {v m x:BitVec 64} (hx:∀ j,j<64→(bit x j&&!bit m j)=bit v j) (i:Nat) (h:bit v i=true):bit x i=true:=by
 by_cases hi:i<64
 ·have:=hx i hi;rw [h] at this;revert this;cases bit x i <;> simp
 ·rw [zba _ _ (by omega)] at h;cases h
theorem yatk {v m x:BitVec 64} (hx:∀ j,j<64→(bit x j&&!bit m j)=bit v j) (i:Nat) (h:bit x i=true):bit (bor v m) i=true:=by
 by_cases hi:i<64
 ·have:=hx i hi;rw [zaq];rw [h] at this;revert this;cases bit v i <;> cases bit m i <;> simp
 ·rw [zba _ _ (by omega)] at h;cases h
theorem yag3 {av am bv bm x y:BitVec 64} (ha:∀ j,(bit av j&&bit am j)=false) (hb:∀ j,(bit bv j&&bit bm j)=false)
  (hx:∀ j,j<64→(bit x j&&!bit am j)=bit av j) (hy:∀ j,j<64→(bit y j&&!bit bm j)=bit bv j) (M:BitVec 64)
  (hM:M=bor (bor (bxor (badd (bsub av bv) am) (bsub (bsub av bv) bm)) am) bm):∀ j,j<64→(bit (bsub x y) j&&!bit M j)=bit (bandn (bsub av bv) M) j:=by
 intro j hj
 rw [zas _ _ _ hj,hM,zrb ha hb j hj,zko _ _ _ hj,zko _ _ _ hj]
 have m1:=zg1 (bor av am) bv x y (yatk hx) (yawt hy) j
 have m2:=zg1 x y av (bor bv bm) (yawt hx) (yatk hy) j
 have m3:=zg1 (bor av am) bv av bv (fun i h=>by rw [zaq,h];rfl) (fun i h=>h) j
 have m4:=zg1 av bv av (bor bv bm) (fun i h=>h) (fun i h=>by rw [zaq,h];rfl) j
 have h1:=hx j hj;have h2:=hy j hj
 revert m1 m2 m3 m4 h1 h2
 cases bit x j <;> cases bit y j <;> cases bit av j <;> cases bit am j <;> cases bit bv j <;> cases bit bm j <;> cases bw (bor av am) bv j <;> cases bw x y j <;> cases bw av bv j <;> cases bw av (bor bv bm) j <;> simp
end Go.Proofs.YtkigmocchaikgabGreatDoor
namespace Go.Proofs.YtkigmocchaikgabGreatDoor
open Go.RowKit
section
attribute [local go_sem] zc9 w_or zdf za3 zbx zbc zda zcy zdb zbw zb4 zc3 zby zdc zcn zcz zb1 zb3 zb2 zb0 za1
theorem bk {W w1:World} (B:Nat) (hb:Below W.heap.size W w1) (h:B≤W.heap.size) :
  (∀ b o,b<B→w1.cell? ⟨b,o,none⟩=W.cell? ⟨b,o,none⟩)∧(∀ b o,b<B→w1.frozen? ⟨b,o,none⟩=W.frozen? ⟨b,o,none⟩)∧B≤w1.heap.size :=
 ⟨fun b o k=>hb.cell (p:=⟨b,o,none⟩) (Nat.lt_of_lt_of_le k h),fun b o k=>hb.frozen (p:=⟨b,o,none⟩) (Nat.lt_of_lt_of_le k h),Nat.le_trans h hb.size⟩
theorem bl {W w1:World} {B:Nat} (hb:Below B W w1) :
  (∀ b o,b<B→w1.cell? ⟨b,o,none⟩=W.cell? ⟨b,o,none⟩)∧(∀ b o,b<B→w1.frozen? ⟨b,o,none⟩=W.frozen? ⟨b,o,none⟩) :=
 ⟨fun b o k=>hb.cell (p:=⟨b,o,none⟩) k,fun b o k=>hb.frozen (p:=⟨b,o,none⟩) k⟩
theorem yax2 {w:World} {b:Nat} {u x y:Value} (h:w.cell? ⟨b,0,none⟩=some u):((w.setCell ⟨b,0,none⟩ x).setCell ⟨b,1,none⟩ y).cell? ⟨b,0,none⟩=some x:=by
 rw [World.cell?_setCell_other _ _ _ _ (by simp),World.cell?_setCell_same _ _ _ h]
theorem yawp {w:World} {b:Nat} {u x y:Value} (h:w.cell? ⟨b,1,none⟩=some u):((w.setCell ⟨b,0,none⟩ x).setCell ⟨b,1,none⟩ y).cell? ⟨b,1,none⟩=some y:=by
 have:(w.setCell ⟨b,0,none⟩ x).cell? ⟨b,1,none⟩=some u:=by rw [World.cell?_setCell_other _ _ _ _ (by simp),h]
 rw [World.cell?_setCell_same _ _ _ this]
theorem yaej {w W:World} {B b:Nat} {x y:Value} (h:Below B w W) (hb:B≤b):Below B w ((W.setCell ⟨b,0,none⟩ x).setCell ⟨b,1,none⟩ y):=(h.setCell hb x).setCell hb y
theorem zeh {W wr w3:World} {B:Nat} {x y x' y':BitVec 64} (hbel:Below B W wr) (hb:Below wr.heap.size wr w3) (hsz:B+1≤wr.heap.size)
  {u0 u1:Value} (h0:wr.cell? ⟨B,0,none⟩=some u0) (h1:wr.cell? ⟨B,1,none⟩=some u1) (hf:∀ o,wr.frozen? ⟨B,o,none⟩=false) (ex:x=x') (ey:y=y') :
  Below B W ((w3.setCell ⟨B,0,none⟩ (.int .u64 (nv x))).setCell ⟨B,1,none⟩ (.int .u64 (nv y)))
  ∧ ((w3.setCell ⟨B,0,none⟩ (.int .u64 (nv x))).setCell ⟨B,1,none⟩ (.int .u64 (nv y))).cell? ⟨B,0,none⟩=some (U x')
  ∧ ((w3.setCell ⟨B,0,none⟩ (.int .u64 (nv x))).setCell ⟨B,1,none⟩ (.int .u64 (nv y))).cell? ⟨B,1,none⟩=some (U y')
  ∧ (∀ o,((w3.setCell ⟨B,0,none⟩ (.int .u64 (nv x))).setCell ⟨B,1,none⟩ (.int .u64 (nv y))).frozen? ⟨B,o,none⟩=false)
  ∧ B+1≤((w3.setCell ⟨B,0,none⟩ (.int .u64 (nv x))).setCell ⟨B,1,none⟩ (.int .u64 (nv y))).heap.size:=by
 subst ex;subst ey
 obtain ⟨hc,hfr,hs⟩:=bk (B+1) hb hsz
 refine ⟨yaej (hbel.trans (hb.mono (by omega))) (Nat.le_refl _),yax2 ((hc B 0 (by omega)).trans h0),yawp ((hc B 1 (by omega)).trans h1),fun o=>?_,?_⟩
 ·simp only [World.frozen?_setCell];exact (hfr B o (by omega)).trans (hf o)
 ·simp only [World.size_setCell];exact hs
theorem yaar {W wr w3:World} {B:Nat} {x y x' y':BitVec 64} (hbel:Below B W wr) (hb:Below wr.heap.size wr w3) (hsz:B+1≤wr.heap.size)
  (h0:wr.cell? ⟨B,0,none⟩=some (U x)) (h1:wr.cell? ⟨B,1,none⟩=some (U y)) (hf:∀ o,wr.frozen? ⟨B,o,none⟩=false) (ex:x=x') (ey:y=y') :
  Below B W w3∧w3.cell? ⟨B,0,none⟩=some (U x')∧w3.cell? ⟨B,1,none⟩=some (U y')∧(∀ o,w3.frozen? ⟨B,o,none⟩=false)∧B+1≤w3.heap.size:=by
 subst ex;subst ey
 obtain ⟨hc,hfr,hs⟩:=bk (B+1) hb hsz
 exact ⟨hbel.trans (hb.mono (by omega)),(hc B 0 (by omega)).trans h0,(hc B 1 (by omega)).trans h1,fun o=>(hfr B o (by omega)).trans (hf o),hs⟩
set_option maxHeartbeats 400000 in
theorem ze0 (x y:BitVec 64) (w:World) :
  Calls Tryz.prog 180 #[U x,U y] w fun e w'=>e=.returned (Bt (bandn x y) y)∧Below w.heap.size w w':=by
 go_enter Tryz.func180,Tryz.ntmps180
 go_wp2
 exact bodyPost_ret (v:=Bt (bandn x y) y) (by simp [results,Tryz.results180,go_sem]) rfl ⟨rfl,(by repeat (first | exact Below.refl _ _ | assumption | refine below_drewN ?_ _ | refine Below.drew ?_ | refine Below.alloc ?_ (by first | exact Nat.le_refl _ | (simp;done) | (simp;omega) | omega) _ | refine Below.setCell ?_ (by first | exact Nat.le_refl _ | (simp;done) | (simp;omega) | omega) _ | refine Below.trans ?_ (Below.mono (by assumption) (by first | exact Nat.le_refl _ | (simp;done) | (simp;omega) | omega))))⟩
set_option maxHeartbeats 400000 in
theorem yaq0 (v m:BitVec 64) (i:Nat) (hi:i<64) (w:World) :
  Calls Tryz.prog 220 #[Bt v m,.int .u64 i] w fun e w'=>e=.returned (Bt (bshl v i) (bshl m i))∧Below w.heap.size w w':=by
 go_enter Tryz.func220,Tryz.ntmps220
 go_wp2
 exact bodyPost_ret (v:=Bt (bshl v i) (bshl m i)) (by simp [results,Tryz.results220,go_sem]) rfl ⟨rfl,(by repeat (first | exact Below.refl _ _ | assumption | refine below_drewN ?_ _ | refine Below.drew ?_ | refine Below.alloc ?_ (by first | exact Nat.le_refl _ | (simp;done) | (simp;omega) | omega) _ | refine Below.setCell ?_ (by first | exact Nat.le_refl _ | (simp;done) | (simp;omega) | omega) _ | refine Below.trans ?_ (Below.mono (by assumption) (by first | exact Nat.le_refl _ | (simp;done) | (simp;omega) | omega))))⟩
set_option maxHeartbeats 400000 in
theorem may0 (v m:BitVec 64) (i:Nat) (hi:i<64) (w:World) :
  Calls Tryz.prog 166 #[Bt v m,N i] w fun e w'=>e=.returned (.tuple #[.bool (!bit v i),.bool (bit v i||bit m i)])∧Below w.heap.size w w':=by
 have h1:=yahu v i hi
 have h3:=yahu m i hi
 cases hv:bit v i
 all_goals
  rw [hv] at h1
  clear hv
  go_enter Tryz.func166,Tryz.ntmps166
  go_wp2
  go_quiet (fail)
  go_wp2
  go_ret2
  exact ⟨rfl,(by repeat (first | exact Below.refl _ _ | assumption | refine below_drewN ?_ _ | refine Below.drew ?_ | refine Below.alloc ?_ (by first | exact Nat.le_refl _ | (simp;done) | (simp;omega) | omega) _ | refine Below.setCell ?_ (by first | exact Nat.le_refl _ | (simp;done) | (simp;omega) | omega) _ | refine Below.trans ?_ (Below.mono (by assumption) (by first | exact Nat.le_refl _ | (simp;done) | (simp;omega) | omega))))⟩
theorem zg0 (v m:BitVec 64) (i:Nat):∃ z o,Hid (z=mz v i)∧Hid (o=mo v m i):=⟨_,_,rfl,rfl⟩
theorem zbj {v m:BitVec 64} {i:Nat} (hi:i<64) {z o:Bool} (hz:Hid (z=mz v i)) (ho:Hid (o=mo v m i)) (w:World) :
  Calls Tryz.prog 166 #[Bt v m,N i] w fun e w'=>e=.returned (.tuple #[.bool z,.bool o])∧Below w.heap.size w w':=by
 rw [hz.out,ho.out];exact may0 v m i hi w
set_option maxHeartbeats 400000 in
theorem zf5 (v m:BitVec 64) (i:Nat) (hi:i<64) (z o:Bool) (w:World) :
  Calls Tryz.prog 167 #[Bt v m,N i,.bool z,.bool o] w fun e w'=>e=.returned (Bt (putV v i z o) (putM m i z o))∧Below w.heap.size w w':=by
 cases z <;> cases o
 all_goals
  go_enter Tryz.func167,Tryz.ntmps167
  go_wp2
  refine bodyPost_ret (v:=_) (by simp [results,Tryz.results167,go_sem,putV,putM]) rfl ⟨rfl,(by repeat (first | exact Below.refl _ _ | assumption | refine below_drewN ?_ _ | refine Below.drew ?_ | refine Below.alloc ?_ (by first | exact Nat.le_refl _ | (simp;done) | (simp;omega) | omega) _ | refine Below.setCell ?_ (by first | exact Nat.le_refl _ | (simp;done) | (simp;omega) | omega) _ | refine Below.trans ?_ (Below.mono (by assumption) (by first | exact Nat.le_refl _ | (simp;done) | (simp;omega) | omega))))⟩
set_option maxHeartbeats 400000 in
theorem yajf (v m:BitVec 64) (w:World) :
  Calls Tryz.prog 210 #[Bt v m] w fun e w'=>e=.returned (.bool (eqb (band v m) zero))∧Below w.heap.size w w':=by
 go_enter Tryz.func210,Tryz.ntmps210
 go_wp2
 go_ret
 exact ⟨rfl,(by repeat (first | exact Below.refl _ _ | assumption | refine below_drewN ?_ _ | refine Below.drew ?_ | refine Below.alloc ?_ (by first | exact Nat.le_refl _ | (simp;done) | (simp;omega) | omega) _ | refine Below.setCell ?_ (by first | exact Nat.le_refl _ | (simp;done) | (simp;omega) | omega) _ | refine Below.trans ?_ (Below.mono (by assumption) (by first | exact Nat.le_refl _ | (simp;done) | (simp;omega) | omega))))⟩
theorem yaou {v m:BitVec 64} {b:Bool} (h:eqb (band v m) zero=b) (w:World) :
  Calls Tryz.prog 210 #[Bt v m] w fun e w'=>e=.returned (.bool b)∧Below w.heap.size w w':=h ▸ yajf v m w
set_option maxHeartbeats 400000 in
theorem zp6 (n l h:Int) (w:World) :
  Calls Tryz.prog 35 #[N n,N l,N h] w fun e w'=>e=.returned (.bool (decide (l≤n∧n≤h)))∧w=w':=by
 by_cases h1:l≤n
 ·by_cases h2:n≤h
  all_goals
   go_enter Tryz.func35,Tryz.ntmps35
   go_wp2
   go_ret
   refine ⟨?_,rfl⟩
   simp [h1,h2] <;> omega
 ·go_enter Tryz.func35,Tryz.ntmps35
  go_wp2
  go_ret
  refine ⟨?_,rfl⟩
  simp <;> omega
theorem zp5 {n l h:Int} (hd:l≤n∧n≤h) (w:World):Calls Tryz.prog 35 #[N n,N l,N h] w fun e w'=>e=.returned (.bool true)∧w=w':=by
 have:=zp6 n l h w
 rwa [decide_eq_true hd] at this
theorem zum {n l h:Int} (hd:¬ (l≤n∧n≤h)) (w:World):Calls Tryz.prog 35 #[N n,N l,N h] w fun e w'=>e=.returned (.bool false)∧w=w':=by
 have:=zp6 n l h w
 rwa [decide_eq_false hd] at this
end
section
attribute [local go_sem] zc9 w_or zdf za3 zbx zbc zda zcy zdb zbw zb4 zc3 zby zdc zcn zcz zb1 zb3 zb2 zb0 za1
def hasB (v m x:BitVec 64):Bool:=eqb (band v m) zero&&eqb (bandn x m) v
set_option maxHeartbeats 400000 in
theorem zwi (v m x:BitVec 64) (w:World) :
  Calls Tryz.prog 190 #[Bt v m,U x] w fun e w'=>e=.returned (.bool (hasB v m x))∧Below w.heap.size w w':=by
 have Hh:Hid (hasB v m x=(eqb (band v m) zero&&eqb (bandn x m) v)):=rfl
 cases hr:eqb (band v m) zero
 all_goals
  rw [hr] at Hh
  have Hr:Hid (eqb (band v m) zero=_):=hr
  clear hr
  go_enter Tryz.func190,Tryz.ntmps190
  go_wp2_with fail
  refine (yaou Hr.out _).mono ?_
  rintro e w1 ⟨rfl,hb1⟩
  obtain ⟨hc1,hf1,hs1⟩:=bk (w.heap.size+1) hb1 (by simp)
  go_wp2_with fail
  go_ret
  rw [Hh.out]
  exact ⟨rfl,(by repeat (first | exact Below.refl _ _ | assumption | refine below_drewN ?_ _ | refine Below.drew ?_ | refine Below.alloc ?_ (by first | exact Nat.le_refl _ | (simp;done) | (simp;omega) | omega) _ | refine Below.setCell ?_ (by first | exact Nat.le_refl _ | (simp;done) | (simp;omega) | omega) _ | refine Below.trans ?_ (Below.mono (by assumption) (by first | exact Nat.le_refl _ | (simp;done) | (simp;omega) | omega))))⟩
end
section
attribute [local go_sem] zc9 w_or zdf za3 zbx zbc zda zcy zdb zbw zb4 zc3 zby zdc zcn zcz zb1 zb3 zb2 zb0 za1
set_option maxHeartbeats 400000 in
theorem yak6 (v m:BitVec 64) (b c:Nat) (w:World) (_hbw:b<w.heap.size) (h0:w.cell? ⟨b,0,none⟩=some (U v)) (h1:w.cell? ⟨b,1,none⟩=some (U m)) (hr:eqb (band v m) zero=true) :
  Calls Tryz.prog 179 #[.slice (some ⟨b,0,none⟩) 1 c] w fun e w'=>e=.returned (N 0)∧Below w.heap.size w w':=by
 go_enter Tryz.func179,Tryz.ntmps179
 go_wp2
 go_rounds 2
 go_ret
 exact ⟨rfl,(by repeat (first | exact Below.refl _ _ | assumption | refine below_drewN ?_ _ | refine Below.drew ?_ | refine Below.alloc ?_ (by first | exact Nat.le_refl _ | (simp;done) | (simp;omega) | omega) _ | refine Below.setCell ?_ (by first | exact Nat.le_refl _ | (simp;done) | (simp;omega) | omega) _ | refine Below.trans ?_ (Below.mono (by assumption) (by first | exact Nat.le_refl _ | (simp;done) | (simp;omega) | omega))))⟩
set_option maxHeartbeats 400000 in
theorem yalh (v m:BitVec 64) (b c:Nat) (w:World) (_hbw:b<w.heap.size) (h0:w.cell? ⟨b,0,none⟩=some (U v)) (h1:w.cell? ⟨b,1,none⟩=some (U m)) (hr:eqb (band v m) zero=false) :
  Calls Tryz.prog 179 #[.slice (some ⟨b,0,none⟩) 1 c] w fun e w'=>e=.returned (N 1)∧Below w.heap.size w w':=by
 go_enter Tryz.func179,Tryz.ntmps179
 go_wp2
 go_rounds 1
 go_ret
 exact ⟨rfl,(by repeat (first | exact Below.refl _ _ | assumption | refine below_drewN ?_ _ | refine Below.drew ?_ | refine Below.alloc ?_ (by first | exact Nat.le_refl _ | (simp;done) | (simp;omega) | omega) _ | refine Below.setCell ?_ (by first | exact Nat.le_refl _ | (simp;done) | (simp;omega) | omega) _ | refine Below.trans ?_ (Below.mono (by assumption) (by first | exact Nat.le_refl _ | (simp;done) | (simp;omega) | omega))))⟩
set_option maxHeartbeats 400000 in
theorem yaiz (v m v' m':BitVec 64) (b c:Nat) (w:World) (hbw:b<w.heap.size) (h0:w.cell? ⟨b,0,none⟩=some (U v)) (h1:w.cell? ⟨b,1,none⟩=some (U m)) (h2:w.cell? ⟨b,2,none⟩=some (U v')) (h3:w.cell? ⟨b,3,none⟩=some (U m'))
  (hr:eqb (band v m) zero=true) (hr':eqb (band v' m') zero=true) :
  Calls Tryz.prog 179 #[.slice (some ⟨b,0,none⟩) 2 c] w fun e w'=>e=.returned (N 0)∧Below w.heap.size w w':=by
 go_enter Tryz.func179,Tryz.ntmps179
 go_wp2
 refine wp_loop_rounds 3 ?_
 rw [rounds_succ];go_wp2
 rw [rounds_succ];go_wp2
 rw [rounds_succ];go_wp2
 go_ret
 exact ⟨rfl,(by repeat (first | exact Below.refl _ _ | assumption | refine below_drewN ?_ _ | refine Below.drew ?_ | refine Below.alloc ?_ (by first | exact Nat.le_refl _ | (simp;done) | (simp;omega) | omega) _ | refine Below.setCell ?_ (by first | exact Nat.le_refl _ | (simp;done) | (simp;omega) | omega) _ | refine Below.trans ?_ (Below.mono (by assumption) (by first | exact Nat.le_refl _ | (simp;done) | (simp;omega) | omega))))⟩
set_option maxHeartbeats 400000 in
theorem yajx (v m v' m':BitVec 64) (b c:Nat) (w:World) (hbw:b<w.heap.size) (h0:w.cell? ⟨b,0,none⟩=some (U v)) (h1:w.cell? ⟨b,1,none⟩=some (U m)) (h2:w.cell? ⟨b,2,none⟩=some (U v')) (h3:w.cell? ⟨b,3,none⟩=some (U m'))
  (hr:(eqb (band v m) zero&&eqb (band v' m') zero)=false) :
  Calls Tryz.prog 179 #[.slice (some ⟨b,0,none⟩) 2 c] w fun e w'=>e=.returned (N 1)∧Below w.heap.size w w':=by
 cases hv:eqb (band v m) zero
 ·clear hr
  go_enter Tryz.func179,Tryz.ntmps179
  go_wp2
  refine wp_loop_rounds 3 ?_
  rw [rounds_succ];go_wp2
  go_ret
  exact ⟨rfl,(by repeat (first | exact Below.refl _ _ | assumption | refine below_drewN ?_ _ | refine Below.drew ?_ | refine Below.alloc ?_ (by first | exact Nat.le_refl _ | (simp;done) | (simp;omega) | omega) _ | refine Below.setCell ?_ (by first | exact Nat.le_refl _ | (simp;done) | (simp;omega) | omega) _ | refine Below.trans ?_ (Below.mono (by assumption) (by first | exact Nat.le_refl _ | (simp;done) | (simp;omega) | omega))))⟩
 ·have hr':eqb (band v' m') zero=false:=by rw [hv] at hr;simpa using hr
  clear hr
  go_enter Tryz.func179,Tryz.ntmps179
  go_wp2
  refine wp_loop_rounds 3 ?_
  rw [rounds_succ];go_wp2
  rw [rounds_succ];go_wp2
  go_ret
  exact ⟨rfl,(by repeat (first | exact Below.refl _ _ | assumption | refine below_drewN ?_ _ | refine Below.drew ?_ | refine Below.alloc ?_ (by first | exact Nat.le_refl _ | (simp;done) | (simp;omega) | omega) _ | refine Below.setCell ?_ (by first | exact Nat.le_refl _ | (simp;done) | (simp;omega) | omega) _ | refine Below.trans ?_ (Below.mono (by assumption) (by first | exact Nat.le_refl _ | (simp;done) | (simp;omega) | omega))))⟩
def er (b:Bool):Int:=if b then 0 else 1
theorem er_t:er true=0:=rfl
theorem er_f:er false=1:=rfl
theorem zjo {v m:BitVec 64} {r:Bool} (hr:Hid (eqb (band v m) zero=r)) {b c:Nat} {w:World} (hbw:b<w.heap.size) (h0:w.cell? ⟨b,0,none⟩=some (U v)) (h1:w.cell? ⟨b,1,none⟩=some (U m)) :
  Calls Tryz.prog 179 #[.slice (some ⟨b,0,none⟩) 1 c] w fun e w'=>e=.returned (N (er r))∧Below w.heap.size w w':=by
 cases r
 ·exact yalh v m b c w hbw h0 h1 hr.out
 ·exact yak6 v m b c w hbw h0 h1 hr.out
theorem zfs {v m v' m':BitVec 64} {r:Bool} (hr:Hid ((eqb (band v m) zero&&eqb (band v' m') zero)=r)) {b c:Nat} {w:World} (hbw:b<w.heap.size) (h0:w.cell? ⟨b,0,none⟩=some (U v)) (h1:w.cell? ⟨b,1,none⟩=some (U m)) (h2:w.cell? ⟨b,2,none⟩=some (U v')) (h3:w.cell? ⟨b,3,none⟩=some (U m')) :
  Calls Tryz.prog 179 #[.slice (some ⟨b,0,none⟩) 2 c] w fun e w'=>e=.returned (N (er r))∧Below w.heap.size w w':=by
 cases r
 ·exact yajx v m v' m' b c w hbw h0 h1 h2 h3 hr.out
 ·have h:=hr.out
  rw [Bool.and_eq_true] at h
  exact yaiz v m v' m' b c w hbw h0 h1 h2 h3 h.1 h.2
set_option maxHeartbeats 400000 in
theorem zu9 {v m:BitVec 64} {r:Bool} (hr:Hid (eqb (band v m) zero=r)) (w:World) :
  Calls Tryz.prog 184 #[Bt v m] w fun e w'=>e=.returned (N (er r))∧Below w.heap.size w w':=by
 go_enter Tryz.func184,Tryz.ntmps184
 go_wp2_with fail
 refine (zjo hr (by simp) (by simp [go_sem]) (by simp [go_sem])).mono ?_
 rintro e w1 ⟨rfl,hb1⟩
 go_wp2_with fail
 go_ret
 exact ⟨rfl,(by repeat (first | exact Below.refl _ _ | assumption | refine below_drewN ?_ _ | refine Below.drew ?_ | refine Below.alloc ?_ (by first | exact Nat.le_refl _ | (simp;done) | (simp;omega) | omega) _ | refine Below.setCell ?_ (by first | exact Nat.le_refl _ | (simp;done) | (simp;omega) | omega) _ | refine Below.trans ?_ (Below.mono (by assumption) (by first | exact Nat.le_refl _ | (simp;done) | (simp;omega) | omega))))⟩
set_option maxHeartbeats 400000 in
theorem yar7 (v m x:BitVec 64) (w:World) :
  Calls Tryz.prog 141 #[Bt v m,U x] w fun e w'=>e=.returned (.bool (hasB v m x))∧Below w.heap.size w w':=by
 have Hh:Hid (hasB v m x=(eqb (band v m) zero&&eqb (bandn x m) v)):=rfl
 cases hr:eqb (band v m) zero
 all_goals
  rw [hr] at Hh
  have Hr:Hid (eqb (band v m) zero=_):=hr
  clear hr
  go_enter Tryz.func141,Tryz.ntmps141
  go_wp2_with fail
  refine (zjo Hr (by simp) (by simp [go_sem]) (by simp [go_sem])).mono ?_
  rintro e w1 ⟨rfl,hb1⟩
  obtain ⟨hc1,hf1,hs1⟩:=bk (w.heap.size+1) hb1 (by simp)
  first | rw [er_t] | rw [er_f]
  go_wp2_with fail
  go_ret
  rw [Hh.out]
  exact ⟨rfl,(by repeat (first | exact Below.refl _ _ | assumption | refine below_drewN ?_ _ | refine Below.drew ?_ | refine Below.alloc ?_ (by first | exact Nat.le_refl _ | (simp;done) | (simp;omega) | omega) _ | refine Below.setCell ?_ (by first | exact Nat.le_refl _ | (simp;done) | (simp;omega) | omega) _ | refine Below.trans ?_ (Below.mono (by assumption) (by first | exact Nat.le_refl _ | (simp;done) | (simp;omega) | omega))))⟩
def insB (av am bv bm:BitVec 64):Bool:=(eqb (band av am) zero&&eqb (band bv bm) zero)&&(eqb (bandn am bm) zero&&eqb (bandn av bm) bv)
set_option maxHeartbeats 400000 in
theorem yaen (av am bv bm:BitVec 64) (w:World) :
  Calls Tryz.prog 143 #[Bt av am,Bt bv bm] w fun e w'=>e=.returned (.bool (insB av am bv bm))∧Below w.heap.size w w':=by
 have Hh:Hid (insB av am bv bm=((eqb (band av am) zero&&eqb (band bv bm) zero)&&(eqb (bandn am bm) zero&&eqb (bandn av bm) bv))):=rfl
 cases hr:(eqb (band av am) zero&&eqb (band bv bm) zero)
 ·rw [hr] at Hh
  have Hr:Hid _:=hr
  clear hr
  go_enter Tryz.func143,Tryz.ntmps143
  go_wp2_with fail
  refine (zfs Hr (by simp) (by simp [go_sem]) (by simp [go_sem]) (by simp [go_sem]) (by simp [go_sem])).mono ?_
  rintro e w1 ⟨rfl,hb1⟩
  obtain ⟨hc1,hf1,hs1⟩:=bk (w.heap.size+1+1) hb1 (by simp)
  first | rw [er_t] | rw [er_f]
  go_wp2_with fail
  go_ret
  rw [Hh.out]
  exact ⟨rfl,(by repeat (first | exact Below.refl _ _ | assumption | refine below_drewN ?_ _ | refine Below.drew ?_ | refine Below.alloc ?_ (by first | exact Nat.le_refl _ | (simp;done) | (simp;omega) | omega) _ | refine Below.setCell ?_ (by first | exact Nat.le_refl _ | (simp;done) | (simp;omega) | omega) _ | refine Below.trans ?_ (Below.mono (by assumption) (by first | exact Nat.le_refl _ | (simp;done) | (simp;omega) | omega))))⟩
 ·rw [hr] at Hh
  have Hr:Hid _:=hr
  clear hr
  cases hm:eqb (bandn am bm) zero
  all_goals
   rw [hm] at Hh
   go_enter Tryz.func143,Tryz.ntmps143
   go_wp2_with fail
   refine (zfs Hr (by simp) (by simp [go_sem]) (by simp [go_sem]) (by simp [go_sem]) (by simp [go_sem])).mono ?_
   rintro e w1 ⟨rfl,hb1⟩
   obtain ⟨hc1,hf1,hs1⟩:=bk (w.heap.size+1+1) hb1 (by simp)
   first | rw [er_t] | rw [er_f]
   go_wp2_with fail
   go_ret
   rw [Hh.out]
   exact ⟨rfl,(by repeat (first | exact Below.refl _ _ | assumption | refine below_drewN ?_ _ | refine Below.drew ?_ | refine Below.alloc ?_ (by first | exact Nat.le_refl _ | (simp;done) | (simp;omega) | omega) _ | refine Below.setCell ?_ (by first | exact Nat.le_refl _ | (simp;done) | (simp;omega) | omega) _ | refine Below.trans ?_ (Below.mono (by assumption) (by first | exact Nat.le_refl _ | (simp;done) | (simp;omega) | omega))))⟩
def jM (av am bv bm:BitVec 64):BitVec 64:=bor (bor am bm) (bxor av bv)
set_option maxHeartbeats 400000 in
theorem join_ok {av am bv bm:BitVec 64} (hr:Hid ((eqb (band av am) zero&&eqb (band bv bm) zero)=true)) (w:World) :
  Calls Tryz.prog 157 #[Bt av am,Bt bv bm] w fun e w'=>e=.returned (.tuple #[Bt (bandn av (jM av am bv bm)) (jM av am bv bm),N 0])∧Below w.heap.size w w':=by
 go_enter Tryz.func157,Tryz.ntmps157
 go_wp2_with fail
 refine (zfs hr (by simp) (by simp [go_sem]) (by simp [go_sem]) (by simp [go_sem]) (by simp [go_sem])).mono ?_
 rintro e w1 ⟨rfl,hb1⟩
 obtain ⟨hc1,hf1,hs1⟩:=bk (w.heap.size+1+1+1) hb1 (by simp)
 first | rw [er_t] | rw [er_f]
 go_wp2_with fail
 refine (ze0 _ _ _).mono ?_
 rintro e w2 ⟨rfl,hb2⟩
 obtain ⟨hc2,hf2,hs2⟩:=bk (w.heap.size+1+1+1) hb2 (by omega)
 go_wp2_with fail
 exact bodyPost_ret (v:=.tuple #[Bt (bandn av (jM av am bv bm)) (jM av am bv bm),N 0]) (by simp [results,Tryz.results157,go_sem,hc1,hc2,jM]) rfl ⟨rfl,(by repeat (first | exact Below.refl _ _ | assumption | refine below_drewN ?_ _ | refine Below.drew ?_ | refine Below.alloc ?_ (by first | exact Nat.le_refl _ | (simp;done) | (simp;omega) | omega) _ | refine Below.setCell ?_ (by first | exact Nat.le_refl _ | (simp;done) | (simp;omega) | omega) _ | refine Below.trans ?_ (Below.mono (by assumption) (by first | exact Nat.le_refl _ | (simp;done) | (simp;omega) | omega))))⟩
set_option maxHeartbeats 400000 in
theorem yat5 {av am bv bm:BitVec 64} (hr:Hid ((eqb (band av am) zero&&eqb (band bv bm) zero)=true)) (hm:eqb (bandn (bxor av bv) (bor am bm)) zero=false) (w:World) :
  Calls Tryz.prog 150 #[Bt av am,Bt bv bm] w fun e w'=>e=.returned (.tuple #[Bt zero zero,.bool false,N 0])∧Below w.heap.size w w':=by
 go_enter Tryz.func150,Tryz.ntmps150
 go_wp2_with fail
 refine (zfs hr (by simp) (by simp [go_sem]) (by simp [go_sem]) (by simp [go_sem]) (by simp [go_sem])).mono ?_
 rintro e w1 ⟨rfl,hb1⟩
 obtain ⟨hc1,hf1,hs1⟩:=bk (w.heap.size+1+1+1) hb1 (by simp)
 first | rw [er_t] | rw [er_f]
 go_wp2_with fail
 exact bodyPost_ret (v:=.tuple #[Bt zero zero,.bool false,N 0]) (by simp [results,Tryz.results150,go_sem,hc1,za4]) rfl ⟨rfl,(by repeat (first | exact Below.refl _ _ | assumption | refine below_drewN ?_ _ | refine Below.drew ?_ | refine Below.alloc ?_ (by first | exact Nat.le_refl _ | (simp;done) | (simp;omega) | omega) _ | refine Below.setCell ?_ (by first | exact Nat.le_refl _ | (simp;done) | (simp;omega) | omega) _ | refine Below.trans ?_ (Below.mono (by assumption) (by first | exact Nat.le_refl _ | (simp;done) | (simp;omega) | omega))))⟩
set_option maxHeartbeats 400000 in
theorem yahv {av am bv bm:BitVec 64} (hr:Hid ((eqb (band av am) zero&&eqb (band bv bm) zero)=true)) (hm:eqb (bandn (bxor av bv) (bor am bm)) zero=true) (w:World) :
  Calls Tryz.prog 150 #[Bt av am,Bt bv bm] w fun e w'=>e=.returned (.tuple #[Bt (bor av bv) (band am bm),.bool true,N 0])∧Below w.heap.size w w':=by
 go_enter Tryz.func150,Tryz.ntmps150
 go_wp2_with fail
 refine (zfs hr (by simp) (by simp [go_sem]) (by simp [go_sem]) (by simp [go_sem]) (by simp [go_sem])).mono ?_
 rintro e w1 ⟨rfl,hb1⟩
 obtain ⟨hc1,hf1,hs1⟩:=bk (w.heap.size+1+1+1) hb1 (by simp)
 first | rw [er_t] | rw [er_f]
 go_wp2_with fail
 exact bodyPost_ret (v:=.tuple #[Bt (bor av bv) (band am bm),.bool true,N 0]) (by simp [results,Tryz.results150,go_sem,hc1]) rfl ⟨rfl,(by repeat (first | exact Below.refl _ _ | assumption | refine below_drewN ?_ _ | refine Below.drew ?_ | refine Below.alloc ?_ (by first | exact Nat.le_refl _ | (simp;done) | (simp;omega) | omega) _ | refine Below.setCell ?_ (by first | exact Nat.le_refl _ | (simp;done) | (simp;omega) | omega) _ | refine Below.trans ?_ (Below.mono (by assumption) (by first | exact Nat.le_refl _ | (simp;done) | (simp;omega) | omega))))⟩
end
theorem zg9 (n:Nat) (h:n<Lib.len8tab.size):((Lib.len8tab[n]'h).toNat:Int)=Lib.bitLen n:=by
 have hn:n<256:=by have:=Lib.len8tab_size;omega
 have e:=Lib.len8_eq ⟨n,hn⟩
 simp only [Lib.len8,Int.toNat_natCast] at e
 rw [← e,getElem?_pos Lib.len8tab n h];rfl
theorem yaun (x:Int) (s d:Nat) (b:Int) (hx0:0≤x)  (hd:d=2 ^ s) (hb:b=x / d):b.toNat=x.toNat / 2 ^ s:=by
 rw [hb,← hd]
 obtain ⟨X,rfl⟩:=Int.eq_ofNat_of_zero_le hx0
 rw [← Int.natCast_ediv,Int.toNat_natCast,Int.toNat_natCast]
theorem yato (x:Int) (s d:Nat) (b:Int) (hx0:0≤x) (hx:x≤18446744073709551615) (hd:d=2 ^ s)
  (hbn:b.toNat=x.toNat / 2 ^ s) (hlow:s=0∨(d:Int)≤x):Lib.bitLen x.toNat=s+Lib.bitLen b.toNat:=by
 rcases hlow with h0 | h1
 ·rw [hbn,h0,Nat.pow_zero,Nat.div_one,Nat.zero_add]
 ·rw [hbn]
  exact Lib.bitLen_shift s x.toNat (by rw [← hd];omega) (by omega)
theorem yat2 (s q:Nat) (hs:s≤56) (l8:q≤8):wrap64 (s+wrap64 q)=((s+q:Nat):Int):=by
 unfold wrap64
 omega
theorem zkv (x:Int) (s d:Nat) (b t:Int) (hx0:0≤x) (hx:x≤18446744073709551615) (hd:d=2 ^ s) (hs:s≤56)
  (hb:b=x / d) (hb0:0≤b) (hb8:b≤255) (hlow:s=0∨(d:Int)≤x) (ht:t=(Lib.bitLen b.toNat:Int)):wrap64 (s+wrap64 t)=(Lib.bitLen x.toNat:Int):=by
 rw [ht,yat2 s _ hs (Lib.bitLen_le8' b hb0 hb8),yato x s d b hx0 hx hd (yaun x s d b hx0 hd hb) hlow]
set_option maxRecDepth 100000 in
set_option maxHeartbeats 4000000 in
theorem yaka (x:Int) (w:World) (h0:0≤x) (h1:x≤18446744073709551615) :
  Calls Tryz.prog 159 #[.int .u64 x] w fun e w'=>e=.returned (N (Lib.bitLen x.toNat))∧w=w':=by
 have hsz:=Lib.len8tab_size
 go_enter Tryz.func159,Tryz.ntmps159
 go_wp2
 all_goals go_ret
 all_goals refine ⟨congrArg Ending.returned (congrArg (Value.int IntKind.i64) ?_),rfl⟩
 ·exact zkv x 56 72057594037927936 _ _ h0 h1 (by decide) (by omega) (by omega) (by omega) (by omega) (by omega) (zg9 _ _)
 ·exact zkv x 48 281474976710656 _ _ h0 h1 (by decide) (by omega) (by omega) (by omega) (by omega) (by omega) (zg9 _ _)
 ·exact zkv x 40 1099511627776 _ _ h0 h1 (by decide) (by omega) (by omega) (by omega) (by omega) (by omega) (zg9 _ _)
 ·exact zkv x 32 4294967296 _ _ h0 h1 (by decide) (by omega) (by omega) (by omega) (by omega) (by omega) (zg9 _ _)
 ·exact zkv x 24 16777216 _ _ h0 h1 (by decide) (by omega) (by omega) (by omega) (by omega) (by omega) (zg9 _ _)
 ·exact zkv x 16 65536 _ _ h0 h1 (by decide) (by omega) (by omega) (by omega) (by omega) (by omega) (zg9 _ _)
 ·exact zkv x 8 256 _ _ h0 h1 (by decide) (by omega) (by omega) (by omega) (by omega) (by omega) (zg9 _ _)
 ·have:=zkv x 0 1 x _ h0 h1 (by decide) (by omega) (by omega) (by omega) (by omega) (by omega) (zg9 x.toNat (by omega))
  simpa using this
section
attribute [local go_sem] zc9 w_or zdf za3 zbx zbc zda zcy zdb zbw zb4 zc3 zby zdc zcn zcz zb1 zb3 zb2 zb0 za1
def blen (x:BitVec 64):Nat:=Lib.bitLen (nv x).toNat
def zd2 (n:Nat):BitVec 64:=bsub (bshl one n) one
theorem zm2 (x:BitVec 64):blen x≤64:=by
 unfold blen nv
 have:=x.isLt
 exact Lib.bitLen_le _ 64 (Nat.le_refl _) (by rw [Int.toNat_natCast];exact this)
theorem yay2 (x:BitVec 64) (w:World):Calls Tryz.prog 159 #[U x] w fun e w'=>e=.returned (N (blen x))∧w=w' :=
 yaka (nv x) w (zca x) (by have:=zyb x;omega)
set_option maxHeartbeats 400000 in
theorem yash {l h:BitVec 64} (hl:nv h<nv l) (w:World) :
  Calls Tryz.prog 142 #[U l,U h] w fun e w'=>e=.returned (.tuple #[Bt zero zero,N 3])∧Below w.heap.size w w':=by
 go_enter Tryz.func142,Tryz.ntmps142
 go_wp2_with fail
 exact bodyPost_ret (v:=.tuple #[Bt zero zero,N 3]) (by simp [results,Tryz.results142,go_sem,za4]) rfl ⟨rfl,(by repeat (first | exact Below.refl _ _ | assumption | refine below_drewN ?_ _ | refine Below.drew ?_ | refine Below.alloc ?_ (by first | exact Nat.le_refl _ | (simp;done) | (simp;omega) | omega) _ | refine Below.setCell ?_ (by first | exact Nat.le_refl _ | (simp;done) | (simp;omega) | omega) _ | refine Below.trans ?_ (Below.mono (by assumption) (by first | exact Nat.le_refl _ | (simp;done) | (simp;omega) | omega))))⟩
def sM (l h:BitVec 64):BitVec 64:=zd2 (blen (bxor l h))
set_option maxHeartbeats 400000 in
theorem yako {l h:BitVec 64} (hl:nv l≤nv h) (w:World) :
  Calls Tryz.prog 142 #[U l,U h] w fun e w'=>e=.returned (.tuple #[Bt (bandn l (sM l h)) (sM l h),N 0])∧Below w.heap.size w w':=by
 have hL:=zm2 (bxor l h)
 have Hs:Hid (sM l h=zd2 (blen (bxor l h))):=rfl
 have hc:=yay2 (bxor l h)
 have Hc:Hid _:=hc
 clear hc
 generalize hx:blen (bxor l h)=L at hL Hs Hc
 clear hx
 go_enter Tryz.func142,Tryz.ntmps142
 go_wp2_with fail
 refine (Hc.out _).mono ?_
 rintro e w1 ⟨rfl,rfl⟩
 go_wp2_with fail
 refine (ze0 _ _ _).mono ?_
 rintro e w2 ⟨rfl,hb2⟩
 obtain ⟨hc2,hf2,hs2⟩:=bk (w.heap.size+1) hb2 (by simp)
 go_wp2_with fail
 rw [Hs.out]
 exact bodyPost_ret (v:=.tuple #[Bt (bandn l (zd2 L)) (zd2 L),N 0]) (by simp [results,Tryz.results142,go_sem,hc2,zd2]) rfl ⟨rfl,(by repeat (first | exact Below.refl _ _ | assumption | refine below_drewN ?_ _ | refine Below.drew ?_ | refine Below.alloc ?_ (by first | exact Nat.le_refl _ | (simp;done) | (simp;omega) | omega) _ | refine Below.setCell ?_ (by first | exact Nat.le_refl _ | (simp;done) | (simp;omega) | omega) _ | refine Below.trans ?_ (Below.mono (by assumption) (by first | exact Nat.le_refl _ | (simp;done) | (simp;omega) | omega))))⟩
def addM (av am bv bm:BitVec 64):BitVec 64:=bor (bor (bxor (badd av bv) (badd (badd (badd av bv) am) bm)) am) bm
set_option maxHeartbeats 400000 in
theorem zx2 (av am bv bm:BitVec 64) (w:World) :
  Calls Tryz.prog 202 #[Bt av am,Bt bv bm] w fun e w'=>e=.returned (Bt (bandn (badd av bv) (addM av am bv bm)) (addM av am bv bm))∧Below w.heap.size w w':=by
 go_enter Tryz.func202,Tryz.ntmps202
 go_wp2_with fail
 refine (ze0 _ _ _).mono ?_
 rintro e w2 ⟨rfl,hb2⟩
 obtain ⟨hc2,hf2,hs2⟩:=bk (w.heap.size+1+1+1) hb2 (by simp)
 go_wp2_with fail
 exact bodyPost_ret (v:=Bt (bandn (badd av bv) (addM av am bv bm)) (addM av am bv bm)) (by simp [results,Tryz.results202,go_sem,hc2,addM]) rfl ⟨rfl,(by repeat (first | exact Below.refl _ _ | assumption | refine below_drewN ?_ _ | refine Below.drew ?_ | refine Below.alloc ?_ (by first | exact Nat.le_refl _ | (simp;done) | (simp;omega) | omega) _ | refine Below.setCell ?_ (by first | exact Nat.le_refl _ | (simp;done) | (simp;omega) | omega) _ | refine Below.trans ?_ (Below.mono (by assumption) (by first | exact Nat.le_refl _ | (simp;done) | (simp;omega) | omega))))⟩
def subM (av am bv bm:BitVec 64):BitVec 64:=bor (bor (bxor (badd (bsub av bv) am) (bsub (bsub av bv) bm)) am) bm
set_option maxHeartbeats 400000 in
theorem yau7 (av am bv bm:BitVec 64) (w:World) :
  Calls Tryz.prog 203 #[Bt av am,Bt bv bm] w fun e w'=>e=.returned (Bt (bandn (bsub av bv) (subM av am bv bm)) (subM av am bv bm))∧Below w.heap.size w w':=by
 go_enter Tryz.func203,Tryz.ntmps203
 go_wp2_with fail
 refine (ze0 _ _ _).mono ?_
 rintro e w2 ⟨rfl,hb2⟩
 obtain ⟨hc2,hf2,hs2⟩:=bk (w.heap.size+1+1+1) hb2 (by simp)
 go_wp2_with fail
 exact bodyPost_ret (v:=Bt (bandn (bsub av bv) (subM av am bv bm)) (subM av am bv bm)) (by simp [results,Tryz.results203,go_sem,hc2,subM]) rfl ⟨rfl,(by repeat (first | exact Below.refl _ _ | assumption | refine below_drewN ?_ _ | refine Below.drew ?_ | refine Below.alloc ?_ (by first | exact Nat.le_refl _ | (simp;done) | (simp;omega) | omega) _ | refine Below.setCell ?_ (by first | exact Nat.le_refl _ | (simp;done) | (simp;omega) | omega) _ | refine Below.trans ?_ (Below.mono (by assumption) (by first | exact Nat.le_refl _ | (simp;done) | (simp;omega) | omega))))⟩
set_option maxHeartbeats 400000 in
theorem yaty (av am bv bm:BitVec 64) (w:World) :
  Calls Tryz.prog 205 #[Bt av am,Bt bv bm] w fun e w'=>e=.returned (Bt (band av bv) (bandn (band (bor av am) (bor bv bm)) (band av bv)))∧Below w.heap.size w w':=by
 go_enter Tryz.func205,Tryz.ntmps205
 go_wp2
 exact bodyPost_ret (v:=Bt (band av bv) (bandn (band (bor av am) (bor bv bm)) (band av bv))) (by simp [results,Tryz.results205,go_sem]) rfl ⟨rfl,(by repeat (first | exact Below.refl _ _ | assumption | refine below_drewN ?_ _ | refine Below.drew ?_ | refine Below.alloc ?_ (by first | exact Nat.le_refl _ | (simp;done) | (simp;omega) | omega) _ | refine Below.setCell ?_ (by first | exact Nat.le_refl _ | (simp;done) | (simp;omega) | omega) _ | refine Below.trans ?_ (Below.mono (by assumption) (by first | exact Nat.le_refl _ | (simp;done) | (simp;omega) | omega))))⟩
set_option maxHeartbeats 400000 in
theorem yaw7 (av am bv bm:BitVec 64) (w:World) :
  Calls Tryz.prog 206 #[Bt av am,Bt bv bm] w fun e w'=>e=.returned (Bt (bor av bv) (bandn (bor am bm) (bor av bv)))∧Below w.heap.size w w':=by
 go_enter Tryz.func206,Tryz.ntmps206
 go_wp2
 exact bodyPost_ret (v:=Bt (bor av bv) (bandn (bor am bm) (bor av bv))) (by simp [results,Tryz.results206,go_sem]) rfl ⟨rfl,(by repeat (first | exact Below.refl _ _ | assumption | refine below_drewN ?_ _ | refine Below.drew ?_ | refine Below.alloc ?_ (by first | exact Nat.le_refl _ | (simp;done) | (simp;omega) | omega) _ | refine Below.setCell ?_ (by first | exact Nat.le_refl _ | (simp;done) | (simp;omega) | omega) _ | refine Below.trans ?_ (Below.mono (by assumption) (by first | exact Nat.le_refl _ | (simp;done) | (simp;omega) | omega))))⟩
end
section
attribute [local go_sem] zc9 w_or zdf za3 zbx zbc zda zcy zdb zbw zb4 zc3 zby zdc zcn zcz zb1 zb3 zb2 zb0 za1
def addP (a b:BitVec 64×BitVec 64):BitVec 64×BitVec 64:=(bandn (badd a.1 b.1) (addM a.1 a.2 b.1 b.2),addM a.1 a.2 b.1 b.2)
def mulS (av am bv bm:BitVec 64):Nat→BitVec 64×BitVec 64
 | 0=>(zero,zero)
 | k+1=>if bit av k then addP (mulS av am bv bm k) (bshl bv k,bshl bm k)
  else if bit am k then addP (mulS av am bv bm k) (zero,bor (bshl bv k) (bshl bm k)) else mulS av am bv bm k
set_option maxHeartbeats 1000000 in
theorem yarg (av am bv bm:BitVec 64) (w:World) :
  Calls Tryz.prog 204 #[Bt av am,Bt bv bm] w fun e w'=>e=.returned (Bt (mulS av am bv bm 64).1 (mulS av am bv bm 64).2)∧Below w.heap.size w w':=by
 go_enter Tryz.func204,Tryz.ntmps204
 go_wp2
 go_loopw [6] (fun i wr=>∃ k:Nat,k≤64∧i=.int .u64 k
   ∧ Below (w.heap.size+1+1+1) (((w.alloc (.cells #[U av,U am] 47)).alloc (.cells #[U bv,U bm] 47)).alloc (.cells #[.int .u64 0,.int .u64 0] 47)) wr
   ∧ wr.cell? ⟨w.heap.size+1+1+1,0,none⟩=some (U (mulS av am bv bm k).1)∧wr.cell? ⟨w.heap.size+1+1+1,1,none⟩=some (U (mulS av am bv bm k).2)
   ∧ (∀ o,wr.frozen? ⟨w.heap.size+1+1+1,o,none⟩=false)
   ∧ w.heap.size+1+1+1+1≤wr.heap.size) (fun i _=>64 - (intOf i).toNat)
 case atStart =>
  exact ⟨0,by omega,rfl,(by repeat (first | exact Below.refl _ _ | assumption | refine below_drewN ?_ _ | refine Below.drew ?_ | refine Below.alloc ?_ (by first | exact Nat.le_refl _ | (simp;done) | (simp;omega) | omega) _ | refine Below.setCell ?_ (by first | exact Nat.le_refl _ | (simp;done) | (simp;omega) | omega) _ | refine Below.trans ?_ (Below.mono (by assumption) (by first | exact Nat.le_refl _ | (simp;done) | (simp;omega) | omega)))),by simp [mulS,za4,go_sem],by simp [mulS,za4,go_sem],by simp [go_sem],by simp⟩
 case round =>
  obtain ⟨k,hk,rfl,hbel,ho0,ho1,hfo,hsz⟩:=hrel
  obtain ⟨hc,hf⟩:=bl hbel
  by_cases hlt:k<64
  ·have hA:=zjh av k
   have hM:=zjh am k
   have Hs:Hid (mulS av am bv bm (k+1)=if bit av k then addP (mulS av am bv bm k) (bshl bv k,bshl bm k)
    else if bit am k then addP (mulS av am bv bm k) (zero,bor (bshl bv k) (bshl bm k)) else mulS av am bv bm k):=rfl
   generalize mulS av am bv bm k=S at ho0 ho1 Hs
   obtain ⟨sv,sm⟩:=S
   simp only at ho0 ho1
   obtain ⟨bA,hbA⟩:∃ b,b=bit av k:=⟨_,rfl⟩
   obtain ⟨bM,hbM⟩:∃ b,b=bit am k:=⟨_,rfl⟩
   rw [← hbA] at hA Hs
   rw [← hbM] at hM Hs
   clear hbA hbM
   go_wp2_with fail
   refine (yaq0 _ _ k hlt _).mono ?_
   rintro e w1 ⟨rfl,hb1⟩
   obtain ⟨hc1,hf1,hs1⟩:=bk _ hb1 hsz
   have hlt1:w.heap.size+1+1+1<w1.heap.size:=by omega
   have hlt2:w.heap.size+1+1<w1.heap.size:=by omega
   have hlt3:w.heap.size+1<w1.heap.size:=by omega
   have hlt4:w.heap.size<w1.heap.size:=by omega
   cases bA
   ·cases bM
    ·go_wp2_with fail
     exact ⟨⟨k+1,by omega,by go_num,yaar hbel (hb1.trans (((Below.refl _ _).alloc (Nat.le_refl _) _).mono hb1.size)) hsz ho0 ho1 hfo (by rw [Hs.out];rfl) (by rw [Hs.out];rfl)⟩,by simp [intOf];omega⟩
    ·go_wp2_with fail
     refine (zx2 sv sm zero (bor (bshl bv k) (bshl bm k)) _).mono ?_
     rintro e w2 ⟨rfl,hb2⟩
     obtain ⟨hc2,hf2,hs2⟩:=bk (w.heap.size+1+1+1+1) hb2 (by simp;omega)
     go_wp2_with fail
     exact ⟨⟨k+1,by omega,by go_num,zeh hbel (hb1.trans ((((Below.refl _ _).alloc (Nat.le_refl _) _).trans (hb2.mono (by simp))).mono hb1.size)) hsz ho0 ho1 hfo (by rw [Hs.out];rfl) (by rw [Hs.out];rfl)⟩,by simp [intOf];omega⟩
   ·go_wp2_with fail
    refine (zx2 _ _ _ _ _).mono ?_
    rintro e w2 ⟨rfl,hb2⟩
    obtain ⟨hc2,hf2,hs2⟩:=bk (w.heap.size+1+1+1+1) hb2 (by simp;omega)
    go_wp2_with fail
    exact ⟨⟨k+1,by omega,by go_num,zeh hbel (hb1.trans ((((Below.refl _ _).alloc (Nat.le_refl _) _).trans (hb2.mono (by simp))).mono hb1.size)) hsz ho0 ho1 hfo (by rw [Hs.out];rfl) (by rw [Hs.out];rfl)⟩,by simp [intOf];omega⟩
  ·have hk64:k=64:=by omega
   subst hk64
   go_wp2_with fail
   exact bodyPost_ret (v:=Bt (mulS av am bv bm 64).1 (mulS av am bv bm 64).2) (by simp [results,Tryz.results204,go_sem,hc]) rfl ⟨rfl,(by repeat (first | exact Below.refl _ _ | assumption | refine below_drewN ?_ _ | refine Below.drew ?_ | refine Below.alloc ?_ (by first | exact Nat.le_refl _ | (simp;done) | (simp;omega) | omega) _ | refine Below.setCell ?_ (by first | exact Nat.le_refl _ | (simp;done) | (simp;omega) | omega) _ | refine Below.trans ?_ (Below.mono (by assumption) (by first | exact Nat.le_refl _ | (simp;done) | (simp;omega) | omega))))⟩
def twoP (op:Int) (av am bv bm:BitVec 64):BitVec 64×BitVec 64 :=
 if op=2 then (bandn (badd av bv) (addM av am bv bm),addM av am bv bm)
 else if op=3 then (bandn (bsub av bv) (subM av am bv bm),subM av am bv bm)
 else if op=4 then mulS av am bv bm 64
 else if op=5 then (band av bv,bandn (band (bor av am) (bor bv bm)) (band av bv))
 else if op=6 then (bor av bv,bandn (bor am bm) (bor av bv))
 else (bandn (bxor av bv) (bor am bm),bor am bm)
theorem zji {op:Int} (h:2≤op∧op≤7):op=2∨op=3∨op=4∨op=5∨op=6∨op=7:=by omega
set_option maxHeartbeats 400000 in
theorem two_ok {op:Int} {av am bv bm:BitVec 64} (hr:Hid ((eqb (band av am) zero&&eqb (band bv bm) zero)=true)) (hop:2≤op∧op≤7) (w:World) :
  Calls Tryz.prog 182 #[N op,Bt av am,Bt bv bm] w fun e w'=>e=.returned (.tuple #[Bt (twoP op av am bv bm).1 (twoP op av am bv bm).2,N 0])∧Below w.heap.size w w':=by
 rcases zji hop with rfl | rfl | rfl | rfl | rfl | rfl
 all_goals
  clear hop
  go_enter Tryz.func182,Tryz.ntmps182
  go_wp2_with fail
  refine (zfs hr (by simp) (by simp [go_sem]) (by simp [go_sem]) (by simp [go_sem]) (by simp [go_sem])).mono ?_
  rintro e w1 ⟨rfl,hb1⟩
  obtain ⟨hc1,hf1,hs1⟩:=bk (w.heap.size+1+1+1) hb1 (by simp)
  first | rw [er_t] | rw [er_f]
  go_wp2_with fail
  first
   | refine (zx2 _ _ _ _ _).mono ?_
   | refine (yau7 _ _ _ _ _).mono ?_
   | refine (yarg _ _ _ _ _).mono ?_
   | refine (yaty _ _ _ _ _).mono ?_
   | refine (yaw7 _ _ _ _ _).mono ?_
   | refine (ze0 _ _ _).mono ?_
  rintro e w2 ⟨rfl,hb2⟩
  obtain ⟨hc2,hf2,hs2⟩:=bk (w.heap.size+1+1+1) hb2 hs1
  go_wp2_with fail
  exact bodyPost_ret (v:=.tuple #[Bt (twoP _ av am bv bm).1 (twoP _ av am bv bm).2,N 0]) (by simp [results,Tryz.results182,go_sem,hc1,hc2,twoP]) rfl ⟨rfl,(by repeat (first | exact Below.refl _ _ | assumption | refine below_drewN ?_ _ | refine Below.drew ?_ | refine Below.alloc ?_ (by first | exact Nat.le_refl _ | (simp;done) | (simp;omega) | omega) _ | refine Below.setCell ?_ (by first | exact Nat.le_refl _ | (simp;done) | (simp;omega) | omega) _ | refine Below.trans ?_ (Below.mono (by assumption) (by first | exact Nat.le_refl _ | (simp;done) | (simp;omega) | omega))))⟩
end
end Go.Proofs.YtkigmocchaikgabGreatDoor
namespace Go.Proofs.YtkigmocchaikgabGreatDoor
def InB (v m x:BitVec 64):Prop:=∀ j,j<64→(bit x j&&!bit m j)=bit v j
def RtB (v m:BitVec 64):Prop:=∀ j,(bit v j&&bit m j)=false
theorem zkh {a b:BitVec 64×BitVec 64} {x y:BitVec 64} (ha:RtB a.1 a.2) (hb:RtB b.1 b.2) (hx:InB a.1 a.2 x) (hy:InB b.1 b.2 y):InB (addP a b).1 (addP a b).2 (badd x y) :=
 zvl ha hb hx hy _ rfl
theorem yai5 (a b:BitVec 64×BitVec 64):RtB (addP a b).1 (addP a b).2:=by
 intro j
 by_cases hj:j<64
 ·simp only [addP];rw [zas _ _ _ hj];cases bit (badd a.1 b.1) j <;> cases bit (addM a.1 a.2 b.1 b.2) j <;> rfl
 ·rw [zba _ _ (by omega)];rfl
theorem zsr (av am bv bm:BitVec 64) (k:Nat):RtB (mulS av am bv bm k).1 (mulS av am bv bm k).2:=by
 induction k with
 | zero=>intro j;simp only [mulS];rw [zbb];rfl
 | succ k ih =>
  simp only [mulS]
  by_cases h1:bit av k=true
  ·rw [if_pos h1];exact yai5 _ _
  ·rw [if_neg h1]
   by_cases h2:bit am k=true
   ·rw [if_pos h2];exact yai5 _ _
   ·rw [if_neg h2];exact ih
def psum (x y:BitVec 64):Nat→BitVec 64
 | 0=>zero
 | k+1=>if bit x k then badd (psum x y k) (bshl y k) else psum x y k
theorem yano (x y:BitVec 64) (k:Nat):psum x y (k+1)=BitVec.mulRec y x k:=by
 induction k with
 | zero =>
  simp only [psum]
  rw [BitVec.mulRec_zero_eq]
  unfold bit
  cases x.getLsbD 0 <;> simp [badd,bshl,zero]
 | succ k ih =>
  rw [psum,ih,BitVec.mulRec_succ_eq]
  unfold bit badd bshl
  cases x.getLsbD (k+1) <;> simp
theorem yaog (x y:BitVec 64):psum x y 64=bmul x y:=by
 rw [yano x y 63,BitVec.mulRec_eq_mul_signExtend_setWidth]
 unfold bmul
 simp [BitVec.mul_comm]
theorem yalg {v m y:BitVec 64} (h:InB v m y) (k:Nat):InB (bshl v k) (bshl m k) (bshl y k):=by
 intro j hj
 rw [zej _ _ _ hj,zej _ _ _ hj,zej _ _ _ hj]
 by_cases hk:k≤j
 ·have:=h (j - k) (by omega)
  revert this
  cases bit y (j - k) <;> cases bit m (j - k) <;> cases bit v (j - k) <;> simp [hk]
 ·simp [hk]
theorem yalk {v m:BitVec 64} (h:RtB v m) (k:Nat):RtB (bshl v k) (bshl m k):=by
 intro j
 by_cases hj:j<64
 ·rw [zej _ _ _ hj,zej _ _ _ hj]
  have:=h (j - k)
  revert this
  cases decide (k≤j) <;> cases bit v (j - k) <;> cases bit m (j - k) <;> simp
 ·rw [zba _ _ (by omega)];rfl
theorem zn1 (m:BitVec 64):RtB zero m:=by intro j;rw [zbb];rfl
theorem yag9 (x:BitVec 64):badd x zero=x:=by unfold badd zero;simp
theorem yae6 {av am bv bm x y:BitVec 64} (hb:RtB bv bm) (hx:InB av am x) (hy:InB bv bm y) (k:Nat) (hk:k≤64):InB (mulS av am bv bm k).1 (mulS av am bv bm k).2 (psum x y k):=by
 induction k with
 | zero=>intro j hj;simp only [mulS,psum];rw [zbb];rfl
 | succ k ih =>
  have ih:=ih (by omega)
  have h:=hx k (by omega)
  simp only [mulS,psum]
  by_cases h1:bit av k=true
  ·have hxk:bit x k=true:=by rw [h1] at h;revert h;cases bit x k <;> simp
   rw [if_pos h1,if_pos hxk]
   exact zkh (zsr _ _ _ _ _) (yalk hb k) ih (yalg hy k)
  ·rw [if_neg h1]
   by_cases h2:bit am k=true
   ·rw [if_pos h2]
    have hp:∀ z,(∀ j,j<64→bit z j=true→bit (bor (bshl bv k) (bshl bm k)) j=true)→InB zero (bor (bshl bv k) (bshl bm k)) z:=by
     intro z hz j hj
     have:=hz j hj
     rw [zbb]
     revert this
     cases bit z j <;> cases bit (bor (bshl bv k) (bshl bm k)) j <;> simp
    by_cases hxk:bit x k=true
    ·rw [if_pos hxk]
     exact zkh (zsr _ _ _ _ _) (zn1 _) ih (hp _ (fun j _ h=>yatk (yalg hy k) j h))
    ·rw [if_neg hxk]
     have:=zkh (b:=(zero,bor (bshl bv k) (bshl bm k))) (zsr av am bv bm k) (zn1 _) ih (hp zero (fun j _ h=>by rw [zbb] at h;cases h))
     rw [yag9] at this
     exact this
   ·rw [if_neg h2]
    have hxk:¬ bit x k=true:=by
     intro hx1;rw [hx1] at h
     revert h h1 h2
     cases bit av k <;> cases bit am k <;> simp
    rw [if_neg hxk]
    exact ih
theorem yah9 {op:Int} {av am bv bm x y:BitVec 64} (hop:2≤op∧op≤7) (ha:RtB av am) (hb:RtB bv bm) (hx:InB av am x) (hy:InB bv bm y) :
  InB (twoP op av am bv bm).1 (twoP op av am bv bm).2 (numB op x y):=by
 rcases zji hop with rfl | rfl | rfl | rfl | rfl | rfl
 ·exact zvl ha hb hx hy _ rfl
 ·exact yag3 ha hb hx hy _ rfl
 ·show InB (mulS av am bv bm 64).1 (mulS av am bv bm 64).2 (bmul x y)
  rw [← yaog]
  exact yae6 hb hx hy 64 (Nat.le_refl _)
 ·intro j hj
  show (bit (band x y) j&&!bit (bandn (band (bor av am) (bor bv bm)) (band av bv)) j)=bit (band av bv) j
  rw [zas _ _ _ hj,zaz,zaz,zaz,zaq,zaq]
  have h1:=hx j hj;have h2:=hy j hj;have h3:=ha j;have h4:=hb j
  revert h1 h2 h3 h4
  cases bit x j <;> cases bit y j <;> cases bit av j <;> cases bit am j <;> cases bit bv j <;> cases bit bm j <;> simp
 ·intro j hj
  show (bit (bor x y) j&&!bit (bandn (bor am bm) (bor av bv)) j)=bit (bor av bv) j
  rw [zas _ _ _ hj,zaq,zaq,zaq]
  have h1:=hx j hj;have h2:=hy j hj;have h3:=ha j;have h4:=hb j
  revert h1 h2 h3 h4
  cases bit x j <;> cases bit y j <;> cases bit av j <;> cases bit am j <;> cases bit bv j <;> cases bit bm j <;> simp
 ·intro j hj
  show (bit (bxor x y) j&&!bit (bor am bm) j)=bit (bandn (bxor av bv) (bor am bm)) j
  rw [zas _ _ _ hj,zaq,zbm,zbm]
  have h1:=hx j hj;have h2:=hy j hj;have h3:=ha j;have h4:=hb j
  revert h1 h2 h3 h4
  cases bit x j <;> cases bit y j <;> cases bit av j <;> cases bit am j <;> cases bit bv j <;> cases bit bm j <;> simp
theorem yaqh {op:Int} {av am bv bm:BitVec 64} (hop:2≤op∧op≤7):RtB (twoP op av am bv bm).1 (twoP op av am bv bm).2:=by
 have hn:∀ p q:BitVec 64,RtB (bandn p q) q:=by
  intro p q j
  by_cases hj:j<64
  ·rw [zas _ _ _ hj];cases bit p j <;> cases bit q j <;> rfl
  ·rw [zba _ _ (by omega)];rfl
 have hn':∀ p q:BitVec 64,RtB q (bandn p q):=by
  intro p q j
  by_cases hj:j<64
  ·rw [zas _ _ _ hj];cases bit p j <;> cases bit q j <;> rfl
  ·rw [zba _ _ (by omega)];rfl
 rcases zji hop with rfl | rfl | rfl | rfl | rfl | rfl
 ·exact hn _ _
 ·exact hn _ _
 ·exact zsr _ _ _ _ _
 ·exact hn' _ _
 ·exact hn' _ _
 ·exact hn _ _
theorem yaq2 {av am bv bm:BitVec 64} (hr:(eqb (band av am) zero&&eqb (band bv bm) zero)=true):(∀ j,(bit av j&&bit am j)=false)∧(∀ j,(bit bv j&&bit bm j)=false):=by
 rw [Bool.and_eq_true] at hr
 exact ⟨(zb7 _ _).1 hr.1,(zb7 _ _).1 hr.2⟩
theorem yag6 {av am bv bm:BitVec 64} (hr:(eqb (band av am) zero&&eqb (band bv bm) zero)=true) :
  zx4 av am bv bm 64=bandn av (jM av am bv bm)∧zw7 av am bv bm 64=jM av am bv bm:=by
 obtain ⟨ha,hb⟩:=yaq2 hr
 constructor
 ·apply zdz;intro j hj
  have h1:=ha j;have h2:=hb j
  simp only [mo,mz,jM,zas _ _ _ hj,zaq,zbm]
  revert h1 h2
  cases bit av j <;> cases bit am j <;> cases bit bv j <;> cases bit bm j <;> simp
 ·apply zdz;intro j hj
  have h1:=ha j;have h2:=hb j
  simp only [mo,mz,jM,zaq,zbm]
  revert h1 h2
  cases bit av j <;> cases bit am j <;> cases bit bv j <;> cases bit bm j <;> simp
theorem yaj5 {av am bv bm:BitVec 64} (hr:(eqb (band av am) zero&&eqb (band bv bm) zero)=true) (hm:eqb (bandn (bxor av bv) (bor am bm)) zero=true) :
  (∀ j,j<64→zi4 av am bv bm j=true)∧zs2 av am bv bm 64=bor av bv∧zsn av am bv bm 64=band am bm:=by
 obtain ⟨ha,hb⟩:=yaq2 hr
 rw [zb6] at hm
 refine ⟨?_,?_,?_⟩
 ·intro j hj
  have h1:=ha j;have h2:=hb j;have h3:=hm j hj
  rw [zas _ _ _ hj,zbm,zaq] at h3
  simp only [zi4,mo,mz]
  revert h1 h2 h3
  cases bit av j <;> cases bit am j <;> cases bit bv j <;> cases bit bm j <;> simp
 ·apply zdz;intro j hj
  have h1:=ha j;have h2:=hb j;have h3:=hm j hj
  rw [zas _ _ _ hj,zbm,zaq] at h3
  simp only [mo,mz,zaq]
  revert h1 h2 h3
  cases bit av j <;> cases bit am j <;> cases bit bv j <;> cases bit bm j <;> simp
 ·apply zdz;intro j hj
  have h1:=ha j;have h2:=hb j;have h3:=hm j hj
  rw [zas _ _ _ hj,zbm,zaq] at h3
  simp only [mo,mz,zaz]
  revert h1 h2 h3
  cases bit av j <;> cases bit am j <;> cases bit bv j <;> cases bit bm j <;> simp
theorem yasm {av am bv bm:BitVec 64} (hm:eqb (bandn (bxor av bv) (bor am bm)) zero=false) :
  ∃ j,j<64∧zi4 av am bv bm j=false∧∀ i,i<j→zi4 av am bv bm i=true:=by
 rcases yaav (zi4 av am bv bm) 64 with h | h
 ·exfalso
  have:eqb (bandn (bxor av bv) (bor am bm)) zero=true:=by
   rw [zb6];intro j hj
   have h1:=h j hj
   rw [zas _ _ _ hj,zbm,zaq]
   simp only [zi4,mo,mz] at h1
   revert h1
   cases bit av j <;> cases bit am j <;> cases bit bv j <;> cases bit bm j <;> simp
  rw [this] at hm;cases hm
 ·exact h
theorem zll {v m:BitVec 64} (hr:eqb (band v m) zero=true) (n:Nat):shV true v m n 64=bshl v n∧shM true v m n 64=bshl m n:=by
 have ha:=(zb7 _ _).1 hr
 have key:∀ j,j<64→(sho true v m n j=(decide (n≤j)&&(bit v (j - n)||bit m (j - n))))∧(shz true v n j=(!decide (n≤j)||!bit v (j - n))):=by
  intro j hj
  by_cases h:n≤j
  ·have e:=yaoh true v m n j (j - n) (by simp [zea];omega) (by omega)
   rw [← e.1,← e.2];simp [h,mz,mo]
  ·have e:=yaca true v m n j (by simp [zea];omega)
   rw [← e.1,← e.2];simp [h]
 constructor
 ·apply zdz;intro j hj
  rw [(key j hj).1,(key j hj).2,zej _ _ _ hj]
  have h1:=ha (j - n)
  revert h1
  cases decide (n≤j) <;> cases bit v (j - n) <;> cases bit m (j - n) <;> simp
 ·apply zdz;intro j hj
  rw [(key j hj).1,(key j hj).2,zej _ _ _ hj]
  have h1:=ha (j - n)
  revert h1
  cases decide (n≤j) <;> cases bit v (j - n) <;> cases bit m (j - n) <;> simp
theorem zqc {v m:BitVec 64} (hr:eqb (band v m) zero=true) (n:Nat):shV false v m n 64=bshr v n∧shM false v m n 64=bshr m n:=by
 have ha:=(zb7 _ _).1 hr
 have key:∀ j,j<64→(sho false v m n j=(bit v (n+j)||bit m (n+j)))∧(shz false v n j=!bit v (n+j)):=by
  intro j hj
  by_cases h:n+j<64
  ·have e:=yaoh false v m n j (n+j) (by simp [zea];omega) h
   rw [← e.1,← e.2];simp [mz,mo]
  ·have e:=yaca false v m n j (by simp [zea];omega)
   rw [← e.1,← e.2,zba v _ (by omega),zba m _ (by omega)];simp
 constructor
 ·apply zdz;intro j hj
  rw [(key j hj).1,(key j hj).2,zew]
  have h1:=ha (n+j)
  revert h1
  cases bit v (n+j) <;> cases bit m (n+j) <;> simp
 ·apply zdz;intro j hj
  rw [(key j hj).1,(key j hj).2,zew]
  have h1:=ha (n+j)
  revert h1
  cases bit v (n+j) <;> cases bit m (n+j) <;> simp
theorem yaqi:∀ (f x:Nat),x<2 ^ f→x<2 ^ Lib.bitLenAux f x
 | 0,x,h=>by simpa [Lib.bitLenAux] using h
 | f+1,x,h=>by
  simp only [Lib.bitLenAux]
  split
  ·subst_vars;simp
  ·have:=yaqi f (x / 2) (by rw [Nat.pow_succ] at h;omega)
   rw [Nat.add_comm 1,Nat.pow_succ]
   omega
theorem yaop (x:BitVec 64) (k:Nat) (hk:k≤64):blen x≤k↔x.toNat<2 ^ k:=by
 have e:(nv x).toNat=x.toNat:=by unfold nv;rw [Int.toNat_natCast]
 unfold blen
 rw [e]
 constructor
 ·intro h
  exact Nat.lt_of_lt_of_le (yaqi 64 x.toNat x.isLt) (Nat.pow_le_pow_right (by decide) h)
 ·intro h
  exact Lib.bitLen_le _ k hk h
theorem zxi (x:BitVec 64) (k:Nat):x.toNat<2 ^ k↔∀ j,k≤j→bit x j=false:=by
 constructor
 ·intro h j hj
  unfold bit BitVec.getLsbD
  exact Nat.testBit_lt_two_pow (Nat.lt_of_lt_of_le h (Nat.pow_le_pow_right (by decide) hj))
 ·intro h
  exact Nat.lt_pow_two_of_testBit _ fun j hj=>h j hj
theorem zfr (x:BitVec 64) (k:Nat) (hk:k≤64):blen x≤k↔∀ j,k≤j→bit x j=false:=by
 rw [yaop x k hk,zxi]
theorem zd1 (n j:Nat) (hn:n≤64) (_hj:j<64):bit (zd2 n) j=decide (j<n):=by
 have h:(zd2 n).toNat=2 ^ n - 1:=by
  unfold zd2 bsub bshl one
  by_cases e:n=64
  ·subst e;decide
  ·have hlt:2 ^ n<2 ^ 64:=Nat.pow_lt_pow_right (by decide) (by omega)
   have h1:1≤2 ^ n:=Nat.one_le_two_pow
   have e1:(1#64 <<< n).toNat=2 ^ n:=by
    rw [BitVec.toNat_shiftLeft,Nat.shiftLeft_eq];rw [show (1#64).toNat=1 from rfl,Nat.one_mul];exact Nat.mod_eq_of_lt hlt
   rw [BitVec.toNat_sub,e1]
   simp only [BitVec.toNat_ofNat]
   omega
 unfold bit BitVec.getLsbD
 rw [h,Nat.testBit_two_pow_sub_one]
theorem yags (l h:BitVec 64) (c:Nat) (hc:c≤64):zgp l h c=true↔∀ j,64 - c≤j→bit (bxor l h) j=false:=by
 induction c with
 | zero=>simp only [zgp,true_iff];intro j hj;exact zba _ _ (by omega)
 | succ c ih =>
  have ih:=ih (by omega)
  simp only [zgp,Bool.and_eq_true,ih,beq_iff_eq]
  constructor
  ·rintro ⟨h1,h2⟩ j hj
   by_cases e:j=63 - c
   ·subst e;rw [zbm,h2];simp
   ·exact h1 j (by omega)
  ·intro h1
   refine ⟨fun j hj=>h1 j (by omega),?_⟩
   have:=h1 (63 - c) (by omega)
   rw [zbm] at this
   revert this
   cases bit l (63 - c) <;> cases bit h (63 - c) <;> simp
theorem yalq (l h:BitVec 64):zzs l h 64=bandn l (sM l h)∧zx8 l h 64=sM l h:=by
 have key:∀ j,j<64→bit (sM l h) j=!zgp l h (64 - j):=by
  intro j hj
  unfold sM
  rw [zd1 _ _ (zm2 _) hj]
  have h1:=yags l h (64 - j) (by omega)
  rw [show 64 - (64 - j)=j by omega,← zfr _ j (by omega)] at h1
  cases hs:zgp l h (64 - j)
  ·rw [hs] at h1;simp at h1;simp [h1]
  ·rw [hs] at h1;simp at h1;simp;omega
 constructor
 ·apply yakr;intro j hj
  rw [zas _ _ _ hj,key j hj]
  simp only [spo,spz]
  cases zgp l h (64 - j) <;> cases bit l j <;> simp
 ·apply yakr;intro j hj
  rw [key j hj]
  simp only [spo,spz]
  cases zgp l h (64 - j) <;> cases bit l j <;> simp
theorem zef (v m:BitVec 64):eqb (band v m) zero=true↔RtB v m:=zb7 v m
theorem za0 (v m x:BitVec 64):hasB v m x=true↔RtB v m∧InB v m x:=by
 unfold hasB
 rw [Bool.and_eq_true,zef,has_iff];rfl
theorem yahi {op:Int} {av am bv bm x y:BitVec 64} (hop:2≤op∧op≤7) (hx:hasB av am x=true) (hy:hasB bv bm y=true) :
  hasB (twoP op av am bv bm).1 (twoP op av am bv bm).2 (numB op x y)=true:=by
 rw [za0] at hx hy ⊢
 exact ⟨yaqh hop,yah9 hop hx.1 hy.1 hx.2 hy.2⟩
theorem zo5 {av am bv bm x:BitVec 64} (ha:RtB av am) (hb:RtB bv bm) (hx:(hasB av am x||hasB bv bm x)=true):hasB (bandn av (jM av am bv bm)) (jM av am bv bm) x=true:=by
 rw [Bool.or_eq_true,za0,za0] at hx
 rw [za0]
 refine ⟨fun j=>?_,fun j hj=>?_⟩
 ·by_cases hj:j<64
  ·rw [zas _ _ _ hj];cases bit av j <;> cases bit (jM av am bv bm) j <;> rfl
  ·rw [zba _ _ (by omega)];rfl
 ·rw [zas _ _ _ hj]
  unfold jM
  rw [zaq,zaq,zbm]
  have h3:=ha j;have h4:=hb j
  rcases hx with ⟨_,h⟩ | ⟨_,h⟩
  all_goals
   have h1:=h j hj
   revert h1 h3 h4
   cases bit x j <;> cases bit av j <;> cases bit am j <;> cases bit bv j <;> cases bit bm j <;> simp
theorem zpd {av am bv bm x:BitVec 64} (ha:RtB av am) (hb:RtB bv bm) :
  (hasB av am x&&hasB bv bm x)=(eqb (bandn (bxor av bv) (bor am bm)) zero&&hasB (bor av bv) (band am bm) x):=by
 rw [Bool.eq_iff_iff,Bool.and_eq_true,Bool.and_eq_true,za0,za0,za0]
 have key:eqb (bandn (bxor av bv) (bor am bm)) zero=true↔∀ j,j<64→((bit av j ^^ bit bv j)&&!(bit am j||bit bm j))=false:=by
  unfold eqb
  rw [beq_iff_eq]
  constructor
  ·intro h j hj
   rw [← zbm,← zaq,← zas _ _ _ hj,h,zbb]
  ·intro h
   apply BitVec.eq_of_getLsbD_eq
   intro j hj
   have:=h j hj
   rw [← zbm,← zaq,← zas _ _ _ hj] at this
   unfold bit at this
   rw [this]
   exact (zbb j).symm
 rw [key]
 constructor
 ·rintro ⟨⟨_,h1⟩,⟨_,h2⟩⟩
  refine ⟨fun j hj=>?_,fun j=>?_,fun j hj=>?_⟩
  ·have a1:=h1 j hj;have a2:=h2 j hj
   revert a1 a2
   cases bit x j <;> cases bit av j <;> cases bit am j <;> cases bit bv j <;> cases bit bm j <;> simp
  ·rw [zaq,zaz]
   have h3:=ha j;have h4:=hb j
   revert h3 h4
   cases bit av j <;> cases bit am j <;> cases bit bv j <;> cases bit bm j <;> simp
  ·rw [zaq,zaz]
   have a1:=h1 j hj;have a2:=h2 j hj;have h3:=ha j;have h4:=hb j
   revert a1 a2 h3 h4
   cases bit x j <;> cases bit av j <;> cases bit am j <;> cases bit bv j <;> cases bit bm j <;> simp
 ·rintro ⟨h0,_,h1⟩
  refine ⟨⟨ha,fun j hj=>?_⟩,⟨hb,fun j hj=>?_⟩⟩
  all_goals
   have a0:=h0 j hj;have a1:=h1 j hj;have h3:=ha j;have h4:=hb j
   rw [zaq,zaz] at a1
   revert a0 a1 h3 h4
   cases bit x j <;> cases bit av j <;> cases bit am j <;> cases bit bv j <;> cases bit bm j <;> simp
theorem zmn (av am bv bm:BitVec 64):insB av am bv bm=true↔RtB av am∧RtB bv bm∧∀ j,j<64→(bit am j&&!bit bm j)=false∧(bit av j&&!bit bm j)=bit bv j:=by
 unfold insB
 have:eqb (bandn am bm) zero=true↔∀ j,j<64→(bit am j&&!bit bm j)=false:=by
  rw [has_iff]
  constructor
  ·intro h j hj;rw [h j hj,zbb]
  ·intro h j hj;rw [h j hj,zbb]
 rw [Bool.and_eq_true,Bool.and_eq_true,Bool.and_eq_true,zef,zef,this,has_iff,and_assoc]
 exact ⟨fun ⟨h1,h2,h3,h4⟩=>⟨h1,h2,fun j hj=>⟨h3 j hj,h4 j hj⟩⟩,fun ⟨h1,h2,h3⟩=>⟨h1,h2,fun j hj=>(h3 j hj).1,fun j hj=>(h3 j hj).2⟩⟩
theorem zvo {av am bv bm x:BitVec 64} (hi:insB av am bv bm=true) (hx:hasB av am x=true):hasB bv bm x=true:=by
 rw [zmn] at hi
 rw [za0] at hx ⊢
 refine ⟨hi.2.1,fun j hj=>?_⟩
 have h1:=hi.2.2 j hj;have h2:=hx.2 j hj
 revert h1 h2
 cases bit x j <;> cases bit av j <;> cases bit am j <;> cases bit bv j <;> cases bit bm j <;> simp
theorem yaku {v m x:BitVec 64} (hx:hasB v m x=true) (n:Nat):hasB (bshl v n) (bshl m n) (bshl x n)=true:=by
 rw [za0] at hx ⊢
 exact ⟨yalk hx.1 n,yalg hx.2 n⟩
theorem yai0 {v m x:BitVec 64} (hx:hasB v m x=true) (n:Nat):hasB (bshr v n) (bshr m n) (bshr x n)=true:=by
 rw [za0] at hx ⊢
 refine ⟨fun j=>?_,fun j hj=>?_⟩
 ·rw [zew,zew];exact hx.1 _
 ·rw [zew,zew,zew]
  by_cases h:n+j<64
  ·exact hx.2 _ h
  ·rw [zba x _ (by omega),zba v _ (by omega)];rfl
def bneg (x:BitVec 64):BitVec 64:=- x
theorem yba1 (x:BitVec 64):IntKind.u64.wrap (- nv x)=nv (bneg x):=by
 rw [zfl,BitVec.ofInt_neg,zbi];rfl
theorem zpf (x:BitVec 64):nv (bnot x)=18446744073709551615 - nv x:=by
 unfold nv bnot
 rw [BitVec.toNat_not]
 have:=x.isLt
 omega
theorem yaz7 (x:BitVec 64):bits .xor .u64 IntKind.u64.max (nv x)=nv (bnot x):=by
 rw [show IntKind.u64.max=nv top by rw [znb];rfl,zdf]
 refine congrArg nv ?_
 apply BitVec.eq_of_getLsbD_eq
 intro j hj
 show bit (bxor top x) j=bit (bnot x) j
 rw [zbm,zdj _ _ hj,zrv _ hj];cases bit x j <;> rfl
theorem bext {x y:BitVec 64} (h:∀ j,j<64→bit x j=bit y j):x=y :=
 BitVec.eq_of_getLsbD_eq h
theorem yasj (x:BitVec 64):bneg x=bnot (bsub x one):=by
 rw [yalx]
 unfold bneg bnot badd one
 rw [BitVec.not_not,BitVec.neg_eq_not_add]
theorem zer {a b:BitVec 64} (h:Nat) (ha:bit a h=false) (hb:bit b h=true) (hj:∀ j,h<j→j<64→bit a j=bit b j):nv a<nv b:=by
 unfold nv
 have hall:∀ j,h<j→a.toNat.testBit j=b.toNat.testBit j:=by
  intro j hhj
  by_cases e:j<64
  ·exact hj j hhj e
  ·have h1:=zba a j (by omega)
   have h2:=zba b j (by omega)
   unfold bit BitVec.getLsbD at h1 h2
   rw [h1,h2]
 have e:a.toNat / 2 ^ (h+1)=b.toNat / 2 ^ (h+1):=Nat.eq_of_testBit_eq fun i=>by
  rw [Nat.testBit_div_two_pow,Nat.testBit_div_two_pow];exact hall _ (by omega)
 rw [Nat.pow_succ,← Nat.div_div_eq_div_mul,← Nat.div_div_eq_div_mul] at e
 have ea:a.toNat / 2 ^ h % 2≠1:=by
  unfold bit BitVec.getLsbD at ha
  rw [Nat.testBit_eq_decide_div_mod_eq,decide_eq_false_iff_not] at ha;exact ha
 have eb:b.toNat / 2 ^ h % 2=1:=by
  unfold bit BitVec.getLsbD at hb
  rw [Nat.testBit_eq_decide_div_mod_eq,decide_eq_true_eq] at hb;exact hb
 have:a.toNat<b.toNat:=by
  rcases Nat.lt_or_ge a.toNat b.toNat with g | g
  ·exact g
  ·exfalso
   have:=Nat.div_le_div_right (c:=2 ^ h) g
   omega
 omega
theorem zzz {x:BitVec 64} (hx:eqb x zero=false):∃ h,h<64∧blen x=h+1∧bit x h=true∧∀ j,h<j→bit x j=false:=by
 have hle:=zm2 x
 have h0:blen x≠0:=by
  intro e
  have:=(zfr x 0 (by omega)).1 (by omega)
  have h1:eqb x zero=true:=(zb6 x).2 fun j _=>this j (by omega)
  rw [h1] at hx;cases hx
 refine ⟨blen x - 1,by omega,by omega,?_,fun j hj=>(zfr x (blen x) hle).1 (Nat.le_refl _) j (by omega)⟩
 cases hb:bit x (blen x - 1)
 ·exfalso
  have:=(zfr x (blen x - 1) (by omega)).2 fun j hj=>by
   by_cases e:j=blen x - 1
   ·rw [e,hb]
   ·exact (zfr x (blen x) hle).1 (Nat.le_refl _) j (by omega)
  omega
 ·rfl
theorem zjs {a b:BitVec 64} (hlt:nv a<nv b):∃ h,h<64∧bit a h=false∧bit b h=true∧∀ j,h<j→j<64→bit a j=bit b j:=by
 have hne:eqb (bxor a b) zero=false:=by
  cases e:eqb (bxor a b) zero
  ·rfl
  ·exfalso
   have:a=b:=bext fun j hj=>by
    have:=(zb6 _).1 e j hj
    rw [zbm] at this
    revert this
    cases bit a j <;> cases bit b j <;> simp
   rw [this] at hlt;omega
 obtain ⟨h,h1,_,h3,h4⟩:=zzz hne
 rw [zbm] at h3
 have h5:∀ j,h<j→j<64→bit a j=bit b j:=by
  intro j hj _
  have:=h4 j hj
  rw [zbm] at this
  revert this
  cases bit a j <;> cases bit b j <;> simp
 cases ha:bit a h
 ·rw [ha] at h3
  exact ⟨h,h1,ha,by revert h3;cases bit b h <;> simp,h5⟩
 ·exfalso
  rw [ha] at h3
  have hb:bit b h=false:=by revert h3;cases bit b h <;> simp
  have:=zer h hb ha fun j hj hj2=>(h5 j hj hj2).symm
  omega
theorem yawm {x:BitVec 64} {k:Nat} (hk:k<64) (h1:bit x k=true) (h0:∀ j,j<k→bit x j=false) (i:Nat) (hi:i≤64):bw x one i=decide (1≤i∧i≤k):=by
 induction i with
 | zero=>rw [zzj];simp
 | succ i ih =>
  rw [zyp _ _ _ (by omega),ih (by omega)]
  have ho:bit one i=decide (i=0):=by
   have:=zcw 0 i (by omega)
   rw [show bshl one 0=one by unfold bshl;simp] at this
   exact this
  rw [ho]
  by_cases e:i=0
  ·subst e
   by_cases ek:k=0
   ·subst ek;rw [h1];simp
   ·rw [h0 0 (by omega)];simp;omega
  ·rcases Nat.lt_trichotomy i k with h | h | h
   ·have e1:1≤i∧i≤k:=by omega
    have e2:1≤i+1∧i+1≤k:=by omega
    rw [h0 i h,decide_eq_true e1,decide_eq_true e2,decide_eq_false e];rfl
   ·subst h
    have e2:¬ (1≤i+1∧i+1≤i):=by omega
    rw [h1,decide_eq_false e2,decide_eq_false e];simp
   ·have e1:¬ (1≤i∧i≤k):=by omega
    have e2:¬ (1≤i+1∧i+1≤k):=by omega
    rw [decide_eq_false e1,decide_eq_false e2,decide_eq_false e];simp
theorem yarm {x:BitVec 64} {k:Nat} (hk:k<64) (h1:bit x k=true) (h0:∀ j,j<k→bit x j=false):band x (bneg x)=bshl one k:=by
 apply bext
 intro j hj
 rw [zaz,yasj,zdj _ _ hj,zko _ _ _ hj,yawm hk h1 h0 j (by omega),zcw _ _ hk]
 have ho:bit one j=decide (j=0):=by
  have:=zcw 0 j (by omega)
  rw [show bshl one 0=one by unfold bshl;simp] at this
  exact this
 rw [ho]
 rcases Nat.lt_trichotomy j k with h | h | h
 ·rw [h0 j h];simp;omega
 ·subst h;rw [h1]
  by_cases e:j=0
  ·subst e;simp
  ·simp [e];omega
 ·have e1:¬ (1≤j∧j≤k):=by omega
  have e2:¬ j=0:=by omega
  have e3:¬ j=k:=by omega
  simp [e1,e2,e3]
def zgm (v x:BitVec 64) (i:Nat):BitVec 64:=bor (bor (bshl (bshr x i) i) (bshl one i)) (band v (zd2 i))
def okL (v m x:BitVec 64) (i:Nat):Bool:=!bit x i&&hasB v m (zgm v x i)
theorem zc1 (v x:BitVec 64) (i j:Nat) (hi:i<64) (hj:j<64):bit (zgm v x i) j=if j<i then bit v j else if j=i then true else bit x j:=by
 unfold zgm
 rw [zaq,zaq,zaz,zej _ _ _ hj,zew,zcw _ _ hi,zd1 _ _ (by omega) hj]
 rcases Nat.lt_trichotomy j i with h | h | h
 ·have h1:¬ i≤j:=by omega
  have h2:¬ j=i:=by omega
  simp [h,h1,h2]
 ·subst h;simp
 ·have h1:i≤j:=by omega
  have h2:¬ j=i:=by omega
  have h3:¬ j<i:=by omega
  rw [show i+(j - i)=j by omega]
  simp [h1,h2,h3]
theorem zh9 {v m:BitVec 64} (hr:RtB v m) (x:BitVec 64) (i:Nat) (hi:i<64):okL v m x i=true↔bit x i=false∧(bit v i||bit m i)=true∧∀ j,i<j→j<64→(bit x j&&!bit m j)=bit v j:=by
 unfold okL
 rw [Bool.and_eq_true,za0]
 constructor
 ·rintro ⟨h1,_,h2⟩
  refine ⟨by simpa using h1,?_,fun j hj hj2=>?_⟩
  ·have:=h2 i hi
   rw [zc1 _ _ _ _ hi hi] at this
   have h3:=hr i
   revert this h3
   cases bit v i <;> cases bit m i <;> simp
  ·have:=h2 j hj2
   rw [zc1 _ _ _ _ hi hj2,if_neg (by omega),if_neg (by omega)] at this
   exact this
 ·rintro ⟨h1,h2,h3⟩
  refine ⟨by simp [h1],hr,fun j hj=>?_⟩
  rw [zc1 _ _ _ _ hi hj]
  have h4:=hr j
  rcases Nat.lt_trichotomy j i with h | h | h
  ·rw [if_pos h]
   revert h4
   cases bit v j <;> cases bit m j <;> simp
  ·subst h
   rw [if_neg (by omega),if_pos rfl]
   revert h2 h4
   cases bit v j <;> cases bit m j <;> simp
  ·rw [if_neg (by omega),if_neg (by omega)]
   exact h3 j h hj
def zh3 (v m x:BitVec 64):BitVec 64:=bandn (bxor x v) m
def zf7 (v m x:BitVec 64):BitVec 64:=zd2 (blen (zh3 v m x))
def zgo (v m x:BitVec 64):BitVec 64:=bandn (bandn m x) (zf7 v m x)
def lowB (x:BitVec 64):BitVec 64:=band x (bneg x)
def zbr (v m x:BitVec 64):BitVec 64×Bool :=
 if eqb (zh3 v m x) zero then (x,true)
 else if nv (band x (zf7 v m x))<nv (band v (zf7 v m x)) then (bor (bandn x (zf7 v m x)) (band v (zf7 v m x)),true)
 else if eqb (zgo v m x) zero then (zero,false)
 else (bor (bor (bandn x (bsub (lowB (zgo v m x)) one)) (lowB (zgo v m x))) (band v (bsub (lowB (zgo v m x)) one)),true)
theorem zv6 {v m:BitVec 64} (hr:RtB v m) (x:BitVec 64):eqb (zh3 v m x) zero=hasB v m x:=by
 rw [Bool.eq_iff_iff,zb6,za0]
 constructor
 ·intro h
  refine ⟨hr,fun j hj=>?_⟩
  have h1:=h j hj
  unfold zh3 at h1
  rw [zas _ _ _ hj,zbm] at h1
  have h2:=hr j
  revert h1 h2
  cases bit x j <;> cases bit v j <;> cases bit m j <;> simp
 ·rintro ⟨_,h⟩ j hj
  have h1:=h j hj
  unfold zh3
  rw [zas _ _ _ hj,zbm]
  have h2:=hr j
  revert h1 h2
  cases bit x j <;> cases bit v j <;> cases bit m j <;> simp
def zxl (v m x:BitVec 64) (r:BitVec 64×Bool) (d:BitVec 64):Prop :=
 (hasB v m x=true∧r=(x,true))
 ∨ (hasB v m x=false∧∃ k,k<64∧okL v m x k=true∧(∀ j,j<k→okL v m x j=false)∧r=(zgm v x k,true))
 ∨ (hasB v m x=false∧(∀ j,j<64→okL v m x j=false)∧r=(d,false))
theorem zi1 {v m:BitVec 64} (hr:RtB v m) (x:BitVec 64):zxl v m x (zbr v m x) zero:=by
 unfold zxl zbr
 cases hw:eqb (zh3 v m x) zero
 ·have hh:hasB v m x=false:=by rw [← zv6 hr,hw]
  refine Or.inr ?_
  obtain ⟨h,h64,hbl,hb1,hb0⟩:=zzz hw
  have e1:=hb1
  unfold zh3 at e1
  rw [zas _ _ _ h64,zbm] at e1
  have e0:∀ j,h<j→j<64→(bit x j&&!bit m j)=bit v j:=by
   intro j hj hj2
   have:=hb0 j hj
   unfold zh3 at this
   rw [zas _ _ _ hj2,zbm] at this
   have h2:=hr j
   revert this h2
   cases bit x j <;> cases bit v j <;> cases bit m j <;> simp
  have hbelow:∀ j,j<h→okL v m x j=false:=by
   intro j hj
   cases ho:okL v m x j
   ·rfl
   ·exfalso
    have:=((zh9 hr x j (by omega)).1 ho).2.2 h hj h64
    revert this e1
    cases bit x h <;> cases bit v h <;> cases bit m h <;> simp
  have hrest:∀ j,j<64→bit (zf7 v m x) j=decide (j≤h):=by
   intro j hj
   unfold zf7
   rw [hbl,zd1 _ _ (by omega) hj]
   simp [Nat.lt_succ_iff]
  cases hv:bit v h
  ·-- x has a 1 there
   have hx:bit x h=true:=by
    rw [hv] at e1;revert e1;cases bit x h <;> simp
   have hnl:¬ nv (band x (zf7 v m x))<nv (band v (zf7 v m x)):=by
    have:nv (band v (zf7 v m x))<nv (band x (zf7 v m x)):=by
     refine zer h ?_ ?_ fun j hj hj2=>?_
     ·rw [zaz,hv];rfl
     ·rw [zaz,hx,hrest h h64];simp
     ·rw [zaz,zaz,hrest j hj2]
      have:¬ j≤h:=by omega
      simp [this]
    omega
   have hoh:okL v m x h=false:=by
    cases ho:okL v m x h
    ·rfl
    ·have:=((zh9 hr x h h64).1 ho).1
     rw [hx] at this;cases this
   have hfree:∀ j,j<64→bit (zgo v m x) j=((bit m j&&!bit x j)&&!decide (j≤h)):=by
    intro j hj
    unfold zgo
    rw [zas _ _ _ hj,zas _ _ _ hj,hrest j hj]
   have hok:∀ j,h<j→j<64→okL v m x j=bit (zgo v m x) j:=by
    intro j hj hj2
    rw [Bool.eq_iff_iff,zh9 hr x j hj2,hfree j hj2]
    have h1:¬ j≤h:=by omega
    simp only [h1,decide_false,Bool.not_false,Bool.and_true,Bool.and_eq_true,Bool.not_eq_true']
    have h3:=e0 j hj hj2
    constructor
    ·rintro ⟨g1,g2,_⟩
     refine ⟨?_,g1⟩
     rw [g1] at h3
     revert g2 h3
     cases bit v j <;> cases bit m j <;> simp
    ·rintro ⟨g1,g2⟩
     refine ⟨g2,by rw [g1];simp,fun i hi hi2=>e0 i (by omega) hi2⟩
   rw [if_neg (by simp),if_neg hnl]
   cases hf:eqb (zgo v m x) zero
   ·rw [if_neg (by simp)]
    refine Or.inl ⟨hh,?_⟩
    rcases yaav (fun j=>!bit (zgo v m x) j) 64 with hall | ⟨k,hk,hkf,hkb⟩
    ·exfalso
     have:eqb (zgo v m x) zero=true:=(zb6 _).2 fun j hj=>by simpa using hall j hj
     rw [this] at hf;cases hf
    ·have hk1:bit (zgo v m x) k=true:=by simpa using hkf
     have hk0:∀ j,j<k→bit (zgo v m x) j=false:=fun j hj=>by simpa using hkb j hj
     have hkh:h<k:=by
      have:=hk1
      rw [hfree k hk] at this
      by_cases e:k≤h
      ·simp [e] at this
      ·omega
     refine ⟨k,hk,by rw [hok k hkh hk];exact hk1,fun j hj=>?_,?_⟩
     ·rcases Nat.lt_trichotomy j h with g | g | g
      ·exact hbelow j g
      ·rw [g];exact hoh
      ·rw [hok j g (by omega)];exact hk0 j hj
     ·have hone:lowB (zgo v m x)=bshl one k:=yarm hk hk1 hk0
      rw [hone]
      have hxk:bit x k=false:=by
       have:=hk1
       rw [hfree k hk] at this
       revert this
       cases bit m k <;> cases bit x k <;> simp
      congr 1
      apply bext
      intro j hj
      rw [zc1 _ _ _ _ hk hj,zaq,zaq,zaz,zas _ _ _ hj,zcw _ _ hk]
      have hl:=zd1 k j (by omega) hj
      unfold zd2 at hl
      rw [hl]
      rcases Nat.lt_trichotomy j k with g | g | g
      ·have g2:¬ j=k:=by omega
       simp [g,g2]
      ·subst g;simp
      ·have g2:¬ j=k:=by omega
       have g3:¬ j<k:=by omega
       simp [g2,g3]
   ·rw [if_pos rfl]
    refine Or.inr ⟨hh,fun j hj=>?_,rfl⟩
    rcases Nat.lt_trichotomy j h with g | g | g
    ·exact hbelow j g
    ·rw [g];exact hoh
    ·rw [hok j g hj];exact (zb6 _).1 hf j hj
  ·-- x has a 0 there
   have hx:bit x h=false:=by
    rw [hv] at e1;revert e1;cases bit x h <;> simp
   have hl:nv (band x (zf7 v m x))<nv (band v (zf7 v m x)):=by
    refine zer h ?_ ?_ fun j hj hj2=>?_
    ·rw [zaz,hx];rfl
    ·rw [zaz,hv,hrest h h64];simp
    ·rw [zaz,zaz,hrest j hj2]
     have:¬ j≤h:=by omega
     simp [this]
   rw [if_neg (by simp),if_pos hl]
   refine Or.inl ⟨hh,h,h64,(zh9 hr x h h64).2 ⟨hx,by rw [hv];rfl,e0⟩,hbelow,?_⟩
   congr 1
   apply bext
   intro j hj
   rw [zc1 _ _ _ _ h64 hj,zaq,zas _ _ _ hj,zaz,hrest j hj]
   rcases Nat.lt_trichotomy j h with g | g | g
   ·have g2:j≤h:=by omega
    simp [g,g2]
   ·subst g;simp [hv]
   ·have g2:¬ j≤h:=by omega
    have g3:¬ j=h:=by omega
    have g4:¬ j<h:=by omega
    simp [g2,g3,g4]
 ·exact Or.inl ⟨by rw [← zv6 hr,hw],by simp⟩
def zsp (v m x:BitVec 64) (i:Nat):BitVec 64:=bor (bshl (bshr x (i+1)) (i+1)) (band (bor v m) (zd2 i))
def okG (v m x:BitVec 64) (i:Nat):Bool:=bit x i&&hasB v m (zsp v m x i)
def turn (v m:BitVec 64):BitVec 64:=bnot (bor v m)
theorem zst (v m:BitVec 64):RtB (turn v m) m:=by
 intro j
 by_cases hj:j<64
 ·unfold turn;rw [zdj _ _ hj,zaq];cases bit v j <;> cases bit m j <;> rfl
 ·rw [zba _ _ (by omega)];rfl
theorem not_not (x:BitVec 64):bnot (bnot x)=x:=by unfold bnot;exact BitVec.not_not
theorem zi0 {v m:BitVec 64} (hr:RtB v m) (x:BitVec 64):hasB (turn v m) m (bnot x)=hasB v m x:=by
 rw [Bool.eq_iff_iff,za0,za0]
 constructor
 ·rintro ⟨_,h⟩
  refine ⟨hr,fun j hj=>?_⟩
  have h1:=h j hj
  unfold turn at h1
  rw [zdj _ _ hj,zdj _ _ hj,zaq] at h1
  have h2:=hr j
  revert h1 h2
  cases bit x j <;> cases bit v j <;> cases bit m j <;> simp
 ·rintro ⟨_,h⟩
  refine ⟨zst v m,fun j hj=>?_⟩
  have h1:=h j hj
  unfold turn
  rw [zdj _ _ hj,zdj _ _ hj,zaq]
  have h2:=hr j
  revert h1 h2
  cases bit x j <;> cases bit v j <;> cases bit m j <;> simp
theorem yaa8 (v m x:BitVec 64) (i:Nat) (hi:i<64):zsp v m x i=bnot (zgm (turn v m) (bnot x) i):=by
 apply bext
 intro j hj
 rw [zdj _ _ hj,zc1 _ _ _ _ hi hj]
 unfold zsp turn
 rw [zaq,zaz,zaq,zej _ _ _ hj,zew,zd1 _ _ (by omega) hj,zdj _ _ hj,zdj _ _ hj,zaq]
 rcases Nat.lt_trichotomy j i with h | h | h
 ·have h1:¬ i+1≤j:=by omega
  simp [h,h1]
 ·subst h
  have h1:¬ j+1≤j:=by omega
  simp [h1]
 ·have h1:i+1≤j:=by omega
  have h2:¬ j=i:=by omega
  have h3:¬ j<i:=by omega
  rw [show i+1+(j - (i+1))=j by omega]
  simp [h1,h2,h3]
theorem yaj6 {v m:BitVec 64} (hr:RtB v m) (x:BitVec 64) (i:Nat) (hi:i<64):okG v m x i=okL (turn v m) m (bnot x) i:=by
 unfold okG okL
 rw [zdj _ _ hi,Bool.not_not,yaa8 _ _ _ _ hi]
 have:=zi0 hr (bnot (zgm (turn v m) (bnot x) i))
 rw [not_not] at this
 rw [← this]
def zcg (v m x:BitVec 64):BitVec 64×Bool:=if (zbr (turn v m) m (bnot x)).2 then (bnot (zbr (turn v m) m (bnot x)).1,true) else (zero,false)
def yahd (v m x:BitVec 64) (r:BitVec 64×Bool) (d:BitVec 64):Prop :=
 (hasB v m x=true∧r=(x,true))
 ∨ (hasB v m x=false∧∃ k,k<64∧okG v m x k=true∧(∀ j,j<k→okG v m x j=false)∧r=(zsp v m x k,true))
 ∨ (hasB v m x=false∧(∀ j,j<64→okG v m x j=false)∧r=(d,false))
theorem yabf {v m:BitVec 64} (hr:RtB v m) (x:BitVec 64):yahd v m x (zcg v m x) zero:=by
 have h:=zi1 (zst v m) (bnot x)
 unfold zxl at h
 rw [zi0 hr] at h
 unfold yahd zcg
 rcases h with ⟨h1,h2⟩ | ⟨h1,k,hk,h2,h3,h4⟩ | ⟨h1,h2,h3⟩
 ·exact Or.inl ⟨h1,by rw [h2];simp [not_not]⟩
 ·refine Or.inr (Or.inl ⟨h1,k,hk,by rw [yaj6 hr _ _ hk];exact h2,fun j hj=>by rw [yaj6 hr _ _ (by omega)];exact h3 j hj,?_⟩)
  rw [h4,yaa8 _ _ _ _ hk];simp
 ·refine Or.inr (Or.inr ⟨h1,fun j hj=>by rw [yaj6 hr _ _ hj];exact h2 j hj,by rw [h3];simp⟩)
def zcq (v m x:BitVec 64):Nat→BitVec 64×Bool
 | 0=>(x,hasB v m x)
 | k+1=>if (zcq v m x k).2 then zcq v m x k else if okL v m x k then (zgm v x k,true) else zcq v m x k
def zcr (v m x:BitVec 64):Nat→BitVec 64×Bool
 | 0=>(x,hasB v m x)
 | k+1=>if (zcr v m x k).2 then zcr v m x k else if okG v m x k then (zsp v m x k,true) else zcr v m x k
theorem zj6 (v m x:BitVec 64) (k n:Nat) (h:(zcq v m x k).2=true) (hn:k≤n):zcq v m x n=zcq v m x k:=by
 induction n with
 | zero =>
  have:k=0:=by omega
  rw [this]
 | succ n ih =>
  by_cases e:k=n+1
  ·rw [e]
  ·have:=ih (by omega)
   rw [zcq,this,if_pos h]
theorem zkk (v m x:BitVec 64) (k n:Nat) (h:(zcr v m x k).2=true) (hn:k≤n):zcr v m x n=zcr v m x k:=by
 induction n with
 | zero =>
  have:k=0:=by omega
  rw [this]
 | succ n ih =>
  by_cases e:k=n+1
  ·rw [e]
  ·have:=ih (by omega)
   rw [zcr,this,if_pos h]
theorem yabl (v m x:BitVec 64) (hh:hasB v m x=false) (n:Nat) (h:∀ j,j<n→okL v m x j=false):zcq v m x n=(x,false):=by
 induction n with
 | zero=>rw [zcq,hh]
 | succ n ih =>
  have:=ih fun j hj=>h j (by omega)
  rw [zcq,this,h n (by omega)];simp
theorem yacd (v m x:BitVec 64) (hh:hasB v m x=false) (n:Nat) (h:∀ j,j<n→okG v m x j=false):zcr v m x n=(x,false):=by
 induction n with
 | zero=>rw [zcr,hh]
 | succ n ih =>
  have:=ih fun j hj=>h j (by omega)
  rw [zcr,this,h n (by omega)];simp
theorem zqa {v m:BitVec 64} (hr:RtB v m) (x:BitVec 64):(zcq v m x 64).2=(zbr v m x).2∧((zbr v m x).2=true→(zcq v m x 64).1=(zbr v m x).1):=by
 rcases zi1 hr x with ⟨h1,h2⟩ | ⟨h1,k,hk,h2,h3,h4⟩ | ⟨h1,h2,h3⟩
 ·have:(zcq v m x 0)=(x,true):=by rw [zcq,h1]
  rw [zj6 v m x 0 64 (by rw [this]) (by omega),this,h2]
  exact ⟨rfl,fun _=>rfl⟩
 ·have e0:=yabl v m x h1 k h3
  have:(zcq v m x (k+1))=(zgm v x k,true):=by rw [zcq,e0,h2];simp
  rw [zj6 v m x (k+1) 64 (by rw [this]) (by omega),this,h4]
  exact ⟨rfl,fun _=>rfl⟩
 ·rw [yabl v m x h1 64 h2,h3]
  exact ⟨rfl,fun h=>by cases h⟩
theorem zqb {v m:BitVec 64} (hr:RtB v m) (x:BitVec 64):(zcr v m x 64).2=(zcg v m x).2∧((zcg v m x).2=true→(zcr v m x 64).1=(zcg v m x).1):=by
 rcases yabf hr x with ⟨h1,h2⟩ | ⟨h1,k,hk,h2,h3,h4⟩ | ⟨h1,h2,h3⟩
 ·have:(zcr v m x 0)=(x,true):=by rw [zcr,h1]
  rw [zkk v m x 0 64 (by rw [this]) (by omega),this,h2]
  exact ⟨rfl,fun _=>rfl⟩
 ·have e0:=yacd v m x h1 k h3
  have:(zcr v m x (k+1))=(zsp v m x k,true):=by rw [zcr,e0,h2];simp
  rw [zkk v m x (k+1) 64 (by rw [this]) (by omega),this,h4]
  exact ⟨rfl,fun _=>rfl⟩
 ·rw [yacd v m x h1 64 h2,h3]
  exact ⟨rfl,fun h=>by cases h⟩
theorem yatr {v m x:BitVec 64} {k:Nat} (hr:RtB v m) (hk:k<64) (ho:okL v m x k=true):nv x<nv (zgm v x k):=by
 have h:=(zh9 hr x k hk).1 ho
 refine zer k h.1 ?_ fun j hj hj2=>?_
 ·rw [zc1 _ _ _ _ hk hk,if_neg (by omega),if_pos rfl]
 ·rw [zc1 _ _ _ _ hk hj2,if_neg (by omega),if_neg (by omega)]
theorem yadv {a b:BitVec 64} (h:∀ i,bit b i=false→bit a i=true→∃ j,i<j∧j<64∧bit a j=false∧bit b j=true):nv a≤nv b:=by
 by_cases hlt:nv b<nv a
 ·exfalso
  obtain ⟨i,hi,h1,h2,h3⟩:=zjs hlt
  obtain ⟨j,hj,hj2,h4,h5⟩:=h i h1 h2
  have:=h3 j hj hj2
  rw [h4,h5] at this;cases this
 ·omega
theorem yacj {v m x y:BitVec 64} (hr:RtB v m) (hy:hasB v m y=true) (hlt:nv x<nv y):∃ i,i<64∧okL v m x i=true∧nv (zgm v x i)≤nv y:=by
 obtain ⟨i,hi,h1,h2,h3⟩:=zjs hlt
 have hin:=((za0 v m y).1 hy).2
 refine ⟨i,hi,(zh9 hr x i hi).2 ⟨h1,?_,fun j hj hj2=>?_⟩,?_⟩
 ·have:=hin i hi
  rw [h2] at this
  revert this
  cases bit m i <;> cases bit v i <;> simp
 ·rw [h3 j hj hj2];exact hin j hj2
 ·apply yadv
  intro k hk1 hk2
  exfalso
  by_cases hk64:k<64
  ·rw [zc1 _ _ _ _ hi hk64] at hk2
   rcases Nat.lt_trichotomy k i with g | g | g
   ·rw [if_pos g] at hk2
    have:=hin k hk64
    rw [hk1,hk2] at this;simp at this
   ·rw [g,h2] at hk1;cases hk1
   ·rw [if_neg (by omega),if_neg (by omega),h3 k g hk64,hk1] at hk2;cases hk2
  ·rw [zba _ _ (by omega)] at hk2;cases hk2
theorem yary {v m x:BitVec 64} {i k:Nat} (hr:RtB v m) (hk:k<i) (hi:i<64) (hoi:okL v m x i=true):nv (zgm v x k)≤nv (zgm v x i):=by
 have h:=(zh9 hr x i hi).1 hoi
 have:nv (zgm v x k)<nv (zgm v x i):=by
  refine zer i ?_ ?_ fun j hj hj2=>?_
  ·rw [zc1 _ _ _ _ (by omega) hi,if_neg (by omega),if_neg (by omega)];exact h.1
  ·rw [zc1 _ _ _ _ hi hi,if_neg (by omega),if_pos rfl]
  ·rw [zc1 _ _ _ _ (by omega) hj2,zc1 _ _ _ _ hi hj2,if_neg (by omega),if_neg (by omega),if_neg (by omega),if_neg (by omega)]
 omega
theorem zjm {v m:BitVec 64} (hr:RtB v m) {x:BitVec 64} (h:(zbr v m x).2=true):hasB v m (zbr v m x).1=true∧nv x≤nv (zbr v m x).1∧∀ y,hasB v m y=true→nv x≤nv y→nv (zbr v m x).1≤nv y:=by
 rcases zi1 hr x with ⟨h1,h2⟩ | ⟨h1,k,hk,h2,h3,h4⟩ | ⟨h1,h2,h3⟩
 ·rw [h2];exact ⟨h1,Int.le_refl _,fun y _ h=>h⟩
 ·rw [h4]
  have hc:=h2
  unfold okL at hc
  rw [Bool.and_eq_true] at hc
  refine ⟨hc.2,Int.le_of_lt (yatr hr hk h2),fun y hy hle=>?_⟩
  have hlt:nv x<nv y:=by
   rcases Int.lt_or_eq_of_le hle with g | g
   ·exact g
   ·exfalso
    have:=zlc _ _ g
    rw [this,hy] at h1;cases h1
  obtain ⟨i,hi,g1,g2⟩:=yacj hr hy hlt
  show nv (zgm v x k)≤nv y
  rcases Nat.lt_trichotomy i k with g | g | g
  ·rw [h3 i g] at g1;cases g1
  ·rw [← g];exact g2
  ·exact Int.le_trans (yary hr g hi g1) g2
 ·rw [h3] at h;cases h
theorem zpc {v m:BitVec 64} (hr:RtB v m) {x:BitVec 64} (h:(zbr v m x).2=false) (y:BitVec 64) (hy:hasB v m y=true):nv y<nv x:=by
 rcases zi1 hr x with ⟨h1,h2⟩ | ⟨h1,k,hk,h2,h3,h4⟩ | ⟨h1,h2,h3⟩
 ·rw [h2] at h;cases h
 ·rw [h4] at h;cases h
 ·by_cases hlt:nv x<nv y
  ·obtain ⟨i,hi,g1,_⟩:=yacj hr hy hlt
   rw [h2 i hi] at g1;cases g1
  ·by_cases e:nv x=nv y
   ·have:=zlc _ _ e
    rw [this,hy] at h1;cases h1
   ·omega
theorem zml {v m:BitVec 64} (hr:RtB v m) {x:BitVec 64} (h:(zcg v m x).2=true):hasB v m (zcg v m x).1=true∧nv (zcg v m x).1≤nv x∧∀ y,hasB v m y=true→nv y≤nv x→nv y≤nv (zcg v m x).1:=by
 unfold zcg at h ⊢
 cases hl:(zbr (turn v m) m (bnot x)).2
 ·rw [hl] at h;simp at h
 ·obtain ⟨h1,h2,h3⟩:=zjm (zst v m) hl
  simp only [if_pos]
  refine ⟨?_,?_,fun y hy hle=>?_⟩
  ·rw [← zi0 hr,not_not];exact h1
  ·rw [zpf] at h2 ⊢;omega
  ·have:=h3 (bnot y) (by rw [zi0 hr];exact hy) (by rw [zpf,zpf];omega)
   rw [zpf] at this ⊢;omega
theorem yad0 {v m:BitVec 64} (hr:RtB v m) {x:BitVec 64} (h:(zcg v m x).2=false) (y:BitVec 64) (hy:hasB v m y=true):nv x<nv y:=by
 unfold zcg at h
 cases hl:(zbr (turn v m) m (bnot x)).2
 ·have:=zpc (zst v m) hl (bnot y) (by rw [zi0 hr];exact hy)
  rw [zpf,zpf] at this;omega
 ·rw [hl] at h;simp at h
def nLo (v m l:BitVec 64):BitVec 64:=(zbr v m l).1
def nHi (v m h:BitVec 64):BitVec 64:=(zcg v m h).1
def zc7 (v m l h:BitVec 64):Bool:=(zbr v m l).2&&((zcg v m h).2&&decide (nv (nLo v m l)≤nv (nHi v m h)))
def spV (l h:BitVec 64):BitVec 64:=bandn l (sM l h)
def nV (v m l h:BitVec 64):BitVec 64:=bor v (spV (nLo v m l) (nHi v m h))
def nM (m l h:BitVec 64):BitVec 64:=band m (sM l h)
def valB (v m l h:BitVec 64):Bool:=hasB v m l&&(hasB v m h&&(decide (nv l≤nv h)&&insB v m (spV l h) (sM l h)))
theorem zn3 (l h:BitVec 64) (j:Nat) (hj:j<64):bit (sM l h) j=false↔∀ i,j≤i→bit l i=bit h i:=by
 unfold sM
 rw [zd1 _ _ (zm2 _) hj,decide_eq_false_iff_not,Nat.not_lt,zfr _ _ (by omega)]
 constructor
 ·intro h1 i hi
  have:=h1 i hi
  rw [zbm] at this
  revert this
  cases bit l i <;> cases bit h i <;> simp
 ·intro h1 i hi
  rw [zbm,h1 i hi];simp
theorem zex (l h:BitVec 64):RtB (spV l h) (sM l h):=by
 intro j
 by_cases hj:j<64
 ·unfold spV;rw [zas _ _ _ hj];cases bit l j <;> cases bit (sM l h) j <;> rfl
 ·rw [zba _ _ (by omega)];rfl
theorem zgh {l h x:BitVec 64} (h1:nv l≤nv x) (h2:nv x≤nv h):hasB (spV l h) (sM l h) x=true:=by
 rw [za0]
 refine ⟨zex l h,fun j hj=>?_⟩
 unfold spV
 rw [zas _ _ _ hj]
 cases hs:bit (sM l h) j
 ·have hlh:=(zn3 l h j hj).1 hs
  have hx:∀ i,j≤i→bit x i=bit l i:=by
   intro i hi
   by_cases hlt:nv l<nv x
   ·obtain ⟨a,ha,g1,g2,g3⟩:=zjs hlt
    by_cases hai:a<i
    ·by_cases h64:i<64
     ·exact (g3 i hai h64).symm
     ·rw [zba _ _ (by omega),zba _ _ (by omega)]
    ·exfalso
     -- x is above h then
     have:nv h<nv x:=by
      refine zer a ?_ g2 fun b hb hb2=>?_
      ·rw [← hlh a (by omega)];exact g1
      ·rw [← hlh b (by omega)];exact g3 b hb hb2
     omega
   ·have:nv l=nv x:=by omega
    rw [zlc _ _ this]
  rw [hx j (Nat.le_refl _)]
 ·simp
theorem znl {v m l h x:BitVec 64} (hr:RtB v m) (hx:hasB v m x=true) (h1:nv l≤nv x) (h2:nv x≤nv h):eqb (bandn (bxor v (spV l h)) (bor m (sM l h))) zero=true:=by
 have:=zpd (x:=x) hr (zex l h)
 rw [hx,zgh h1 h2] at this
 revert this
 cases eqb (bandn (bxor v (spV l h)) (bor m (sM l h))) zero <;> simp
theorem yaje {v m l h:BitVec 64} (hr:RtB v m) (h1:hasB v m l=true) (h2:hasB v m h=true):zbr v m l=(l,true)∧zcg v m h=(h,true):=by
 constructor
 ·rcases zi1 hr l with ⟨_,g⟩ | ⟨g,_⟩ | ⟨g,_⟩
  ·exact g
  ·rw [h1] at g;cases g
  ·rw [h1] at g;cases g
 ·rcases yabf hr h with ⟨_,g⟩ | ⟨g,_⟩ | ⟨g,_⟩
  ·exact g
  ·rw [h2] at g;cases g
  ·rw [h2] at g;cases g
def zr7 (v m l h:BitVec 64):Bool:=eqb (nV v m l h) v&&(eqb (nM m (nLo v m l) (nHi v m h)) m&&(eqb (nLo v m l) l&&eqb (nHi v m h) h))
theorem yarq {v m:BitVec 64} (hr:RtB v m) (l h:BitVec 64):valB v m l h=(zc7 v m l h&&zr7 v m l h):=by
 have key:∀ (_:hasB v m l=true),(insB v m (spV l h) (sM l h)=true↔eqb (bor v (spV l h)) v=true∧eqb (nM m l h) m=true):=by
  intro hl
  have hin:=((za0 v m l).1 hl).2
  rw [zmn,zdl,zdl]
  constructor
  ·rintro ⟨_,_,g⟩
   constructor
   ·apply bext;intro j hj
    rw [zaq,← (g j hj).2]
    cases bit v j <;> cases bit (sM l h) j <;> rfl
   ·apply bext;intro j hj
    unfold nM
    rw [zaz]
    have:=(g j hj).1
    revert this
    cases bit m j <;> cases bit (sM l h) j <;> simp
  ·rintro ⟨g1,g2⟩
   refine ⟨hr,zex l h,fun j hj=>⟨?_,?_⟩⟩
   ·have:bit (nM m l h) j=bit m j:=by rw [g2]
    unfold nM at this
    rw [zaz] at this
    revert this
    cases bit m j <;> cases bit (sM l h) j <;> simp
   ·have h3:bit (bor v (spV l h)) j=bit v j:=by rw [g1]
    rw [zaq] at h3
    have h4:=hin j hj
    have h5:bit (spV l h) j=(bit l j&&!bit (sM l h) j):=by unfold spV;rw [zas _ _ _ hj]
    rw [h5] at h3 ⊢
    revert h3 h4
    cases bit v j <;> cases bit (sM l h) j <;> cases bit l j <;> cases bit m j <;> simp
 rw [Bool.eq_iff_iff]
 unfold valB zc7 zr7
 simp only [Bool.and_eq_true,decide_eq_true_eq]
 constructor
 ·rintro ⟨h1,h2,h3,h4⟩
  obtain ⟨e1,e2⟩:=yaje hr h1 h2
  have a1:nLo v m l=l:=by unfold nLo;rw [e1]
  have a2:nHi v m h=h:=by unfold nHi;rw [e2]
  have a3:nV v m l h=bor v (spV l h):=by unfold nV;rw [a1,a2]
  rw [a3,a1,a2,e1,e2]
  have:=(key h1).1 h4
  exact ⟨⟨rfl,rfl,h3⟩,this.1,this.2,zjn l,zjn h⟩
 ·rintro ⟨⟨h1,h2,h3⟩,h4,h5,h6,h7⟩
  have a1:nLo v m l=l:=(zdl _ _).1 h6
  have a2:nHi v m h=h:=(zdl _ _).1 h7
  have b1:=(zjm hr h1).1
  have b2:=(zml hr h2).1
  have b1':hasB v m (nLo v m l)=true:=b1
  have b2':hasB v m (nHi v m h)=true:=b2
  rw [a1] at b1'
  rw [a2] at b2'
  have a3:nV v m l h=bor v (spV l h):=by unfold nV;rw [a1,a2]
  rw [a3] at h4
  rw [a1,a2] at h5 h3
  exact ⟨b1',b2',h3,(key b1').2 ⟨h4,h5⟩⟩
def hasV (v m l h x:BitVec 64):Bool:=valB v m l h&&(hasB v m x&&(decide (nv l≤nv x)&&decide (nv x≤nv h)))
def rawV (v m l h x:BitVec 64):Bool:=hasB v m x&&(decide (nv l≤nv x)&&decide (nv x≤nv h))
def insV (v m l h v' m' l' h':BitVec 64):Bool:=valB v m l h&&(valB v' m' l' h'&&(insB v m v' m'&&(decide (nv l'≤nv l)&&decide (nv h≤nv h'))))
theorem zes {v m l h:BitVec 64} (hr:RtB v m) (ho:zc7 v m l h=true) :
  hasB v m (nLo v m l)=true∧hasB v m (nHi v m h)=true∧nv (nLo v m l)≤nv (nHi v m h)∧nv l≤nv (nLo v m l)∧nv (nHi v m h)≤nv h
  ∧ (∀ x,hasB (nV v m l h) (nM m (nLo v m l) (nHi v m h)) x=(hasB v m x&&hasB (spV (nLo v m l) (nHi v m h)) (sM (nLo v m l) (nHi v m h)) x)):=by
 unfold zc7 at ho
 simp only [Bool.and_eq_true,decide_eq_true_eq] at ho
 obtain ⟨h1,h2,h3⟩:=ho
 obtain ⟨a1,a2,_⟩:=zjm hr h1
 obtain ⟨b1,b2,_⟩:=zml hr h2
 refine ⟨a1,b1,h3,a2,b2,fun x=>?_⟩
 have hs:=zpd (x:=x) hr (zex (nLo v m l) (nHi v m h))
 rw [znl hr (x:=nLo v m l) a1 (Int.le_refl _) h3,Bool.true_and] at hs
 exact hs.symm
theorem zfn {v m l h:BitVec 64} (hr:RtB v m) (ho:zc7 v m l h=true):valB (nV v m l h) (nM m (nLo v m l) (nHi v m h)) (nLo v m l) (nHi v m h)=true:=by
 obtain ⟨h1,h2,h3,h4,h5,h6⟩:=zes hr ho
 unfold valB
 rw [h6,h6,h1,h2,zgh (Int.le_refl _) h3,zgh h3 (Int.le_refl _)]
 simp only [Bool.true_and,Bool.and_eq_true,decide_eq_true_eq]
 refine ⟨h3,(zmn _ _ _ _).2 ⟨?_,zex _ _,fun j hj=>?_⟩⟩
 ·intro j
  have g1:=hr j
  have g2:=zex (nLo v m l) (nHi v m h) j
  unfold nV nM
  rw [zaq,zaz]
  revert g1 g2
  cases bit v j <;> cases bit m j <;> cases bit (spV (nLo v m l) (nHi v m h)) j <;> cases bit (sM (nLo v m l) (nHi v m h)) j <;> simp
 ·have g1:=((za0 _ _ _).1 h1).2 j hj
  have g2:bit (spV (nLo v m l) (nHi v m h)) j=(bit (nLo v m l) j&&!bit (sM (nLo v m l) (nHi v m h)) j):=by unfold spV;rw [zas _ _ _ hj]
  unfold nV nM
  rw [zaq,zaz,g2]
  revert g1
  cases bit v j <;> cases bit m j <;> cases bit (nLo v m l) j <;> cases bit (sM (nLo v m l) (nHi v m h)) j <;> simp
theorem zqv {v m l h:BitVec 64} (hr:RtB v m) (x:BitVec 64) :
  rawV v m l h x=(zc7 v m l h&&hasV (nV v m l h) (nM m (nLo v m l) (nHi v m h)) (nLo v m l) (nHi v m h) x):=by
 rw [Bool.eq_iff_iff]
 constructor
 ·intro hx
  unfold rawV at hx
  simp only [Bool.and_eq_true,decide_eq_true_eq] at hx
  obtain ⟨h1,h2,h3⟩:=hx
  have ho1:(zbr v m l).2=true:=by
   cases e:(zbr v m l).2
   ·have:=zpc hr e x h1;omega
   ·rfl
  have ho2:(zcg v m h).2=true:=by
   cases e:(zcg v m h).2
   ·have:=yad0 hr e x h1;omega
   ·rfl
  have g1:nv (nLo v m l)≤nv x:=(zjm hr ho1).2.2 x h1 h2
  have g2:nv x≤nv (nHi v m h):=(zml hr ho2).2.2 x h1 h3
  have ho:zc7 v m l h=true:=by
   unfold zc7
   rw [ho1,ho2]
   simp only [Bool.true_and,decide_eq_true_eq];omega
  rw [ho,Bool.true_and]
  unfold hasV
  rw [zfn hr ho,(zes hr ho).2.2.2.2.2 x,h1,zgh g1 g2]
  simp [g1,g2]
 ·intro hx
  rw [Bool.and_eq_true] at hx
  obtain ⟨ho,hx⟩:=hx
  obtain ⟨_,_,_,h4,h5,h6⟩:=zes hr ho
  unfold hasV at hx
  rw [zfn hr ho,h6 x] at hx
  simp only [Bool.true_and,Bool.and_eq_true,decide_eq_true_eq] at hx
  unfold rawV
  simp only [Bool.and_eq_true,decide_eq_true_eq]
  exact ⟨hx.1.1,by omega,by omega⟩
theorem zbf {v m l h:BitVec 64} (hv:valB v m l h=true):RtB v m∧hasB v m l=true∧hasB v m h=true∧nv l≤nv h∧insB v m (spV l h) (sM l h)=true:=by
 unfold valB at hv
 simp only [Bool.and_eq_true,decide_eq_true_eq] at hv
 obtain ⟨h1,h2,h3,h4⟩:=hv
 exact ⟨((za0 _ _ _).1 h1).1,h1,h2,h3,h4⟩
theorem zp2 {v m l h:BitVec 64} (hv:valB v m l h=true):zc7 v m l h=true∧nV v m l h=v∧nM m (nLo v m l) (nHi v m h)=m∧nLo v m l=l∧nHi v m h=h:=by
 have hr:=(zbf hv).1
 have:=yarq hr l h
 rw [hv] at this
 have h2:=this.symm
 unfold zr7 at h2
 simp only [Bool.and_eq_true,zdl] at h2
 exact ⟨h2.1,h2.2.1,h2.2.2.1,h2.2.2.2.1,h2.2.2.2.2⟩
theorem zho {av am bv bm:BitVec 64} (ha:RtB av am) (hb:RtB bv bm) (hall:∀ x,hasB av am x=true→hasB bv bm x=true):insB av am bv bm=true:=by
 rw [zmn]
 refine ⟨ha,hb,fun j hj=>?_⟩
 have h1:hasB av am av=true:=by
  rw [za0];refine ⟨ha,fun i _=>?_⟩
  have:=ha i;revert this;cases bit av i <;> cases bit am i <;> simp
 have h2:hasB av am (bor av am)=true:=by
  rw [za0];refine ⟨ha,fun i _=>?_⟩
  rw [zaq]
  have:=ha i;revert this;cases bit av i <;> cases bit am i <;> simp
 have g1:=((za0 _ _ _).1 (hall _ h1)).2 j hj
 have g2:=((za0 _ _ _).1 (hall _ h2)).2 j hj
 rw [zaq] at g2
 have g3:=ha j;have g4:=hb j
 revert g1 g2 g3 g4
 cases bit av j <;> cases bit am j <;> cases bit bv j <;> cases bit bm j <;> simp
theorem zj7 {av am bv bm:BitVec 64} (hi:insB av am bv bm=true) (x:BitVec 64) (hx:hasB av am x=true):hasB bv bm x=true:=zvo hi hx
theorem yaer {l h l' h':BitVec 64} (h1:nv l'≤nv l) (h2:nv l≤nv h) (h3:nv h≤nv h'):insB (spV l h) (sM l h) (spV l' h') (sM l' h')=true:=by
 have hl:=((za0 _ _ _).1 (zgh (l:=l') (h:=h') (x:=l) h1 (by omega))).2
 have hh:=((za0 _ _ _).1 (zgh (l:=l') (h:=h') (x:=h) (by omega) h3)).2
 rw [zmn]
 refine ⟨zex _ _,zex _ _,fun j hj=>?_⟩
 have g0:bit (spV l h) j=(bit l j&&!bit (sM l h) j):=by unfold spV;rw [zas _ _ _ hj]
 rw [g0]
 cases hs:bit (sM l' h') j
 ·have hsl:bit (sM l h) j=false:=by
   rw [zn3 _ _ _ hj]
   intro i hi
   by_cases h64:i<64
   ·have hsi:bit (sM l' h') i=false:=by
     rw [zn3 _ _ _ h64]
     exact fun k hk=>(zn3 _ _ _ hj).1 hs k (by omega)
    have a:=hl i h64
    have b:=hh i h64
    rw [hsi] at a b
    simp only [Bool.not_false,Bool.and_true] at a b
    rw [a,b]
   ·rw [zba _ _ (by omega),zba _ _ (by omega)]
  have a:=hl j hj
  rw [hs] at a
  simp only [Bool.not_false,Bool.and_true] at a
  rw [hsl,a];simp
 ·have:=zex l' h' j
  rw [hs] at this
  simp at this
  simp [this]
theorem zog {v m l h v' m' l' h':BitVec 64} (hv:valB v m l h=true) (hr:RtB v' m') (hi:insB v m v' m'=true) (h1:nv l'≤nv l) (h2:nv h≤nv h') :
  zc7 v' m' l' h'=true∧insV v m l h (nV v' m' l' h') (nM m' (nLo v' m' l') (nHi v' m' h')) (nLo v' m' l') (nHi v' m' h')=true:=by
 obtain ⟨a1,a2,a3,a4,a5⟩:=zbf hv
 have b2:=zj7 hi _ a2
 have b3:=zj7 hi _ a3
 have hx:=zqv hr (l:=l') (h:=h') l
 have hraw:rawV v' m' l' h' l=true:=by
  unfold rawV;rw [b2];simp only [Bool.true_and,Bool.and_eq_true,decide_eq_true_eq];omega
 rw [hraw] at hx
 have hx:=hx.symm
 rw [Bool.and_eq_true] at hx
 have ho:=hx.1
 have hx2:=zqv hr (l:=l') (h:=h') h
 have hraw2:rawV v' m' l' h' h=true:=by
  unfold rawV;rw [b3];simp only [Bool.true_and,Bool.and_eq_true,decide_eq_true_eq];omega
 rw [hraw2] at hx2
 have hx2:=hx2.symm
 rw [Bool.and_eq_true] at hx2
 have g1:=hx.2
 have g2:=hx2.2
 unfold hasV at g1 g2
 simp only [Bool.and_eq_true,decide_eq_true_eq] at g1 g2
 refine ⟨ho,?_⟩
 unfold insV
 rw [hv,zfn hr ho]
 simp only [Bool.true_and,Bool.and_eq_true,decide_eq_true_eq]
 refine ⟨zho a1 (zbf (zfn hr ho)).1 fun x hx=>?_,g1.2.2.1,g2.2.2.2⟩
 rw [(zes hr ho).2.2.2.2.2 x,zj7 hi _ hx,Bool.true_and]
 exact zj7 (yaer g1.2.2.1 a4 g2.2.2.2) _ (zj7 a5 _ hx)
theorem yazp (x y:BitVec 64):min (nv x) (nv y)=nv (bmin x y):=by
 unfold bmin;split <;> omega
theorem yaxk (x y:BitVec 64):max (nv x) (nv y)=nv (bmax x y):=by
 unfold bmax;split <;> omega
theorem yaj3 (x y:BitVec 64):nv (bmin x y)≤nv x∧nv (bmin x y)≤nv y:=by rw [← yazp];omega
theorem yaik (x y:BitVec 64):nv x≤nv (bmax x y)∧nv y≤nv (bmax x y):=by rw [← yaxk];omega
theorem yark {x y z:BitVec 64} (h1:nv z≤nv x) (h2:nv z≤nv y):nv z≤nv (bmin x y):=by rw [← yazp];omega
theorem yask {x y z:BitVec 64} (h1:nv x≤nv z) (h2:nv y≤nv z):nv (bmax x y)≤nv z:=by rw [← yaxk];omega
def jV (av am bv bm:BitVec 64):BitVec 64:=bandn av (jM av am bv bm)
theorem zjw (av am bv bm:BitVec 64):RtB (jV av am bv bm) (jM av am bv bm):=by
 intro j
 unfold jV
 by_cases hj:j<64
 ·rw [zas _ _ _ hj];cases bit av j <;> cases bit (jM av am bv bm) j <;> rfl
 ·rw [zba _ _ (by omega)];rfl
theorem yab3 {av am bv bm:BitVec 64} (ha:RtB av am) (hb:RtB bv bm):insB av am (jV av am bv bm) (jM av am bv bm)=true∧insB bv bm (jV av am bv bm) (jM av am bv bm)=true :=
 ⟨zho ha (zjw _ _ _ _) fun x hx=>zo5 ha hb (by rw [hx];rfl),zho hb (zjw _ _ _ _) fun x hx=>zo5 ha hb (by rw [hx];cases hasB av am x <;> rfl)⟩
theorem yabh {v m l h v' m' l' h' x:BitVec 64} (hi:insV v m l h v' m' l' h'=true) (hx:hasV v m l h x=true):hasV v' m' l' h' x=true:=by
 unfold insV at hi
 unfold hasV at hx ⊢
 simp only [Bool.and_eq_true,decide_eq_true_eq] at hi hx ⊢
 exact ⟨hi.2.1,zj7 hi.2.2.1 _ hx.2.1,by omega,by omega⟩
theorem zkb {v m l h v' m' l' h':BitVec 64} (hv:valB v m l h=true) (hw:valB v' m' l' h'=true) :
  zc7 (jV v m v' m') (jM v m v' m') (bmin l l') (bmax h h')=true
  ∧ insV v m l h (nV (jV v m v' m') (jM v m v' m') (bmin l l') (bmax h h')) (nM (jM v m v' m') (nLo (jV v m v' m') (jM v m v' m') (bmin l l')) (nHi (jV v m v' m') (jM v m v' m') (bmax h h'))) (nLo (jV v m v' m') (jM v m v' m') (bmin l l')) (nHi (jV v m v' m') (jM v m v' m') (bmax h h'))=true
  ∧ insV v' m' l' h' (nV (jV v m v' m') (jM v m v' m') (bmin l l') (bmax h h')) (nM (jM v m v' m') (nLo (jV v m v' m') (jM v m v' m') (bmin l l')) (nHi (jV v m v' m') (jM v m v' m') (bmax h h'))) (nLo (jV v m v' m') (jM v m v' m') (bmin l l')) (nHi (jV v m v' m') (jM v m v' m') (bmax h h'))=true:=by
 have ha:=(zbf hv).1
 have hb:=(zbf hw).1
 have h1:=zog hv (zjw v m v' m') (yab3 ha hb).1 (yaj3 l l').1 (yaik h h').1
 have h2:=zog hw (zjw v m v' m') (yab3 ha hb).2 (yaj3 l l').2 (yaik h h').2
 exact ⟨h1.1,h1.2,h2.2⟩
end Go.Proofs.YtkigmocchaikgabGreatDoor
namespace Go.Proofs.YtkigmocchaikgabGreatDoor
open Go.RowKit
section
attribute [local go_sem] zc9 w_or zdf za3 zbx zbc zda zcy zdb zbw zb4 zc3 zby zdc zcn zcz zb1 zb3 zb2 zb0 za1
theorem hasC {v m x:BitVec 64} {b:Bool} (h:hasB v m x=b) (w:World) :
  Calls Tryz.prog 141 #[Bt v m,U x] w fun e w'=>e=.returned (.bool b)∧Below w.heap.size w w':=h ▸ yar7 v m x w
theorem insC {av am bv bm:BitVec 64} {b:Bool} (h:insB av am bv bm=b) (w:World) :
  Calls Tryz.prog 143 #[Bt av am,Bt bv bm] w fun e w'=>e=.returned (.bool b)∧Below w.heap.size w w':=h ▸ yaen av am bv bm w
end
end Go.Proofs.YtkigmocchaikgabGreatDoor
namespace Go.Proofs.YtkigmocchaikgabGreatDoor
theorem yax8 (x y:BitVec 64):nv (badd x y)=(nv x+nv y) % 18446744073709551616:=by
 unfold nv badd;rw [BitVec.toNat_add];omega
theorem yax7 (x y:BitVec 64):nv (bsub x y)=(nv x - nv y) % 18446744073709551616:=by
 rw [← zcy,IntKind.wrap_u64]
theorem yay7 (x y:BitVec 64):nv (bmul x y)=(nv x*nv y) % 18446744073709551616:=by
 rw [← zdb,IntKind.wrap_u64]
theorem yaqc (x:BitVec 64) (n:Nat):nv (bshl x n)=(nv x*2 ^ n) % 18446744073709551616:=by
 rw [← zc3,IntKind.wrap_u64]
theorem yahq (x:BitVec 64) (n:Nat):nv (bshr x n)=nv x / 2 ^ n:=(zdc x n).symm
def addB (l h l' h':BitVec 64):BitVec 64×BitVec 64:=if decide (nv (badd l l')<nv l)=decide (nv (badd h h')<nv h) then (badd l l',badd h h') else (zero,top)
def subB (l h l' h':BitVec 64):BitVec 64×BitVec 64:=if decide (nv l<nv h')=decide (nv h<nv l') then (bsub l h',bsub h l') else (zero,top)
def zxo (x y:BitVec 64):Bool:=!eqb y zero&&decide (18446744073709551615 / nv y<nv x)
def mulB (l h l' h':BitVec 64):BitVec 64×BitVec 64:=if zxo h h' then (zero,top) else (bmul l l',bmul h h')
def zcd (op:Int) (l h l' h':BitVec 64):BitVec 64×BitVec 64 :=
 if op=2 then addB l h l' h' else if op=3 then subB l h l' h' else if op=4 then mulB l h l' h'
 else if op=5 then (zero,bmin h h') else if op=6 then (bmax l l',top) else (zero,top)
def shlB (l h:BitVec 64) (n:Nat):BitVec 64×BitVec 64:=if eqb (bshr (bshl h n) n) h then (bshl l n,bshl h n) else (zero,top)
theorem ends (x:BitVec 64):nv zero≤nv x∧nv x≤nv top:=by
 rw [za4,znb]
 have:=zca x
 have:=zyb x
 omega
theorem yad8 {l h l' h' x y:BitVec 64} (h1:nv l≤nv x) (h2:nv x≤nv h) (h3:nv l'≤nv y) (h4:nv y≤nv h'):nv (addB l h l' h').1≤nv (badd x y)∧nv (badd x y)≤nv (addB l h l' h').2:=by
 unfold addB
 split
 ·rename_i he
  have a1:=zca l;have a2:=zyb h;have a3:=zca l';have a4:=zyb h'
  have he':nv (badd l l')<nv l↔nv (badd h h')<nv h:=by simpa using he
  simp only [yax8] at he' ⊢
  omega
 ·exact ends _
theorem yaed {l h l' h' x y:BitVec 64} (h1:nv l≤nv x) (h2:nv x≤nv h) (h3:nv l'≤nv y) (h4:nv y≤nv h'):nv (subB l h l' h').1≤nv (bsub x y)∧nv (bsub x y)≤nv (subB l h l' h').2:=by
 unfold subB
 split
 ·rename_i he
  have a1:=zca l;have a2:=zyb h;have a3:=zca l';have a4:=zyb h'
  have he':nv l<nv h'↔nv h<nv l':=by simpa using he
  simp only [yax7]
  omega
 ·exact ends _
theorem yac7 {l h l' h' x y:BitVec 64} (h1:nv l≤nv x) (h2:nv x≤nv h) (h3:nv l'≤nv y) (h4:nv y≤nv h'):nv (mulB l h l' h').1≤nv (bmul x y)∧nv (bmul x y)≤nv (mulB l h l' h').2:=by
 unfold mulB
 split
 ·exact ends _
 ·rename_i ho
  have a1:=zca l;have a3:=zca l'
  have hx0:0≤nv x:=by omega
  have hy0:0≤nv y:=by omega
  have hbig:nv h*nv h'≤18446744073709551615:=by
   unfold zxo at ho
   cases hz:eqb h' zero
   ·rw [hz] at ho
    simp only [Bool.not_false,Bool.true_and,decide_eq_true_eq,Int.not_lt] at ho
    have hp:0<nv h':=by
     have hne:h'≠zero:=(yahp _ _).1 hz
     have:nv h'≠0:=fun e=>hne (zlc _ _ (by rw [e,za4]))
     have:=zca h'
     omega
    have hm:nv h*nv h'≤(18446744073709551615 / nv h')*nv h':=Int.mul_le_mul_of_nonneg_right ho (by omega)
    have hd:(18446744073709551615 / nv h')*nv h'≤18446744073709551615:=Int.ediv_mul_le _ (by omega)
    omega
   ·rw [(zdl _ _).1 hz,za4];omega
  have hlo:nv l*nv l'≤nv x*nv y:=Int.mul_le_mul h1 h3 a3 hx0
  have hhi:nv x*nv y≤nv h*nv h':=Int.mul_le_mul h2 h4 hy0 (by omega)
  have h00:0≤nv l*nv l':=Int.mul_nonneg a1 a3
  simp only [yay7]
  generalize nv l*nv l'=p at *
  generalize nv x*nv y=q at *
  generalize nv h*nv h'=r at *
  omega
theorem yavx (x y:BitVec 64):nv (band x y)≤nv x∧nv (band x y)≤nv y:=by
 unfold nv band
 rw [BitVec.toNat_and]
 have h1:x.toNat &&& y.toNat≤x.toNat:=Nat.and_le_left
 have h2:x.toNat &&& y.toNat≤y.toNat:=Nat.and_le_right
 omega
theorem ybaj (x y:BitVec 64):nv x≤nv (bor x y)∧nv y≤nv (bor x y):=by
 unfold nv bor
 rw [BitVec.toNat_or]
 have h1:x.toNat≤x.toNat ||| y.toNat:=Nat.left_le_or
 have h2:y.toNat≤x.toNat ||| y.toNat:=Nat.right_le_or
 omega
theorem zk6 {op:Int} (hop:2≤op∧op≤7) {l h l' h' x y:BitVec 64} (h1:nv l≤nv x) (h2:nv x≤nv h) (h3:nv l'≤nv y) (h4:nv y≤nv h') :
  nv (zcd op l h l' h').1≤nv (numB op x y)∧nv (numB op x y)≤nv (zcd op l h l' h').2:=by
 rcases zji hop with rfl | rfl | rfl | rfl | rfl | rfl
 ·exact yad8 h1 h2 h3 h4
 ·exact yaed h1 h2 h3 h4
 ·exact yac7 h1 h2 h3 h4
 ·show nv zero≤nv (band x y)∧nv (band x y)≤nv (bmin h h')
  have ha:=yavx x y
  exact ⟨(ends _).1,yark (by omega) (by omega)⟩
 ·show nv (bmax l l')≤nv (bor x y)∧nv (bor x y)≤nv top
  have ha:=ybaj x y
  exact ⟨yask (by omega) (by omega),(ends _).2⟩
 ·exact ends _
theorem zpl {l h x:BitVec 64} (n:Nat) (h1:nv l≤nv x) (h2:nv x≤nv h):nv (bshr l n)≤nv (bshr x n)∧nv (bshr x n)≤nv (bshr h n):=by
 simp only [yahq]
 have hp:(0:Int)<2 ^ n:=Int.pow_pos (by decide)
 exact ⟨Int.ediv_le_ediv hp h1,Int.ediv_le_ediv hp h2⟩
theorem yazg (x:BitVec 64) (n:Nat):nv (bshr x n)≤nv x:=by
 rw [yahq]
 exact Int.ediv_le_self _ (zca x)
theorem zpm {l h x:BitVec 64} (n:Nat) (h1:nv l≤nv x) (h2:nv x≤nv h):nv (shlB l h n).1≤nv (bshl x n)∧nv (bshl x n)≤nv (shlB l h n).2:=by
 unfold shlB
 split
 ·rename_i he
  have he':=(zdl _ _).1 he
  have hn:nv (bshr (bshl h n) n)=nv h:=by rw [he']
  rw [yahq,yaqc] at hn
  have hp:(0:Int)<2 ^ n:=Int.pow_pos (by decide)
  have hh0:=zca h
  have hlt:nv h*2 ^ n<18446744073709551616:=by
   have hd:=Int.ediv_mul_le (nv h*2 ^ n % 18446744073709551616) (b:=2 ^ n) (by omega)
   rw [hn] at hd
   have hm:=Int.emod_lt_of_pos (nv h*2 ^ n) (show (0:Int)<18446744073709551616 by decide)
   omega
  have a1:=zca l
  have g1:nv l*2 ^ n≤nv x*2 ^ n:=Int.mul_le_mul_of_nonneg_right h1 (by omega)
  have g2:nv x*2 ^ n≤nv h*2 ^ n:=Int.mul_le_mul_of_nonneg_right h2 (by omega)
  have g0:0≤nv l*2 ^ n:=Int.mul_nonneg a1 (by omega)
  simp only [yaqc]
  generalize nv l*2 ^ n=p at *
  generalize nv x*2 ^ n=q at *
  generalize nv h*2 ^ n=r at *
  omega
 ·exact ends _
theorem yapx {v m l h x:BitVec 64} (hr:RtB v m) (hx:rawV v m l h x=true) :
  zc7 v m l h=true∧hasV (nV v m l h) (nM m (nLo v m l) (nHi v m h)) (nLo v m l) (nHi v m h) x=true:=by
 have:=zqv hr (l:=l) (h:=h) x
 rw [hx] at this
 have h2:=this.symm
 rw [Bool.and_eq_true] at h2
 exact h2
end Go.Proofs.YtkigmocchaikgabGreatDoor
namespace Go.Proofs.YtkigmocchaikgabGreatDoor
open Go.RowKit
section
attribute [local go_sem] zc9 w_or zdf za3 zbx zbc zda zcy zdb zbw zb4 zc3 zby zdc zcn zcz zb1 zb3 zb2 zb0 za1
set_option maxHeartbeats 1000000 in
theorem zr8 (v m l h v' m' l' h':BitVec 64) (w:World) :
  Calls Tryz.prog 207 #[Vl v m l h,Vl v' m' l' h'] w fun e w'=>e=.returned (.tuple #[U (addB l h l' h').1,U (addB l h l' h').2])∧Below w.heap.size w w':=by
 have Ha:Hid (addB l h l' h'=if decide (nv (badd l l')<nv l)=decide (nv (badd h h')<nv h) then (badd l l',badd h h') else (zero,top)):=rfl
 obtain ⟨p,hp⟩:∃ b,decide (nv (badd l l')<nv l)=b:=⟨_,rfl⟩
 obtain ⟨q,hq⟩:∃ b,decide (nv (badd h h')<nv h)=b:=⟨_,rfl⟩
 rw [hp,hq] at Ha
 cases p <;> cases q
 all_goals
  go_enter Tryz.func207,Tryz.ntmps207
  go_wp2_with fail
  go_quiet (fail)
  go_wp2_with fail
  go_quiet (fail)
  go_wp2_with fail
  go_ret2
  rw [Ha.out]
  exact ⟨rfl,(by repeat (first | exact Below.refl _ _ | assumption | refine below_drewN ?_ _ | refine Below.drew ?_ | refine Below.alloc ?_ (by first | exact Nat.le_refl _ | (simp;done) | (simp;omega) | omega) _ | refine Below.setCell ?_ (by first | exact Nat.le_refl _ | (simp;done) | (simp;omega) | omega) _ | refine Below.trans ?_ (Below.mono (by assumption) (by first | exact Nat.le_refl _ | (simp;done) | (simp;omega) | omega))))⟩
set_option maxHeartbeats 1000000 in
theorem zsv (v m l h v' m' l' h':BitVec 64) (w:World) :
  Calls Tryz.prog 208 #[Vl v m l h,Vl v' m' l' h'] w fun e w'=>e=.returned (.tuple #[U (subB l h l' h').1,U (subB l h l' h').2])∧Below w.heap.size w w':=by
 have Ha:Hid (subB l h l' h'=if decide (nv l<nv h')=decide (nv h<nv l') then (bsub l h',bsub h l') else (zero,top)):=rfl
 obtain ⟨p,hp⟩:∃ b,decide (nv l<nv h')=b:=⟨_,rfl⟩
 obtain ⟨q,hq⟩:∃ b,decide (nv h<nv l')=b:=⟨_,rfl⟩
 rw [hp,hq] at Ha
 cases p <;> cases q
 all_goals
  go_enter Tryz.func208,Tryz.ntmps208
  go_wp2_with fail
  go_quiet (fail)
  go_wp2_with fail
  first | (go_quiet (fail);go_wp2_with fail) | skip
  go_ret2
  rw [Ha.out]
  exact ⟨rfl,(by repeat (first | exact Below.refl _ _ | assumption | refine below_drewN ?_ _ | refine Below.drew ?_ | refine Below.alloc ?_ (by first | exact Nat.le_refl _ | (simp;done) | (simp;omega) | omega) _ | refine Below.setCell ?_ (by first | exact Nat.le_refl _ | (simp;done) | (simp;omega) | omega) _ | refine Below.trans ?_ (Below.mono (by assumption) (by first | exact Nat.le_refl _ | (simp;done) | (simp;omega) | omega))))⟩
set_option maxRecDepth 100000 in
set_option maxHeartbeats 1000000 in
theorem zsw (v m l h v' m' l' h':BitVec 64) (w:World) :
  Calls Tryz.prog 209 #[Vl v m l h,Vl v' m' l' h'] w fun e w'=>e=.returned (.tuple #[U (mulB l h l' h').1,U (mulB l h l' h').2])∧Below w.heap.size w w':=by
 have Ha:Hid (mulB l h l' h'=if zxo h h' then (zero,top) else (bmul l l',bmul h h')):=rfl
 have Ho:Hid (zxo h h'=(!eqb h' zero&&decide (18446744073709551615 / nv h' < nv h))):=rfl
 obtain ⟨z,hz⟩:∃ b,eqb h' zero=b:=⟨_,rfl⟩
 rw [hz] at Ho
 rw [Ho.out] at Ha
 cases z
 ·have hne:nv h'≠0:=fun e=>by
   have:=zlc h' zero (by rw [e,za4])
   rw [this] at hz;revert hz;decide
  have hpos:0<nv h':=by have:=zca h';omega
  have hnn:0≤nv h':=by omega
  have hcv:=zyb h'
  obtain ⟨D,hD⟩:∃ D,18446744073709551615 / nv h'=D:=⟨_,rfl⟩
  rw [hD] at Ha
  by_cases hd:D<nv h
  ·have Hd:Hid (decide (D<nv h)=true):=decide_eq_true hd
   rw [Hd.out] at Ha
   go_enter Tryz.func209,Tryz.ntmps209
   go_wp2_with fail
   go_quiet (fail)
   go_wp2_with fail
   go_ret2
   rw [Ha.out]
   exact ⟨rfl,(by repeat (first | exact Below.refl _ _ | assumption | refine below_drewN ?_ _ | refine Below.drew ?_ | refine Below.alloc ?_ (by first | exact Nat.le_refl _ | (simp;done) | (simp;omega) | omega) _ | refine Below.setCell ?_ (by first | exact Nat.le_refl _ | (simp;done) | (simp;omega) | omega) _ | refine Below.trans ?_ (Below.mono (by assumption) (by first | exact Nat.le_refl _ | (simp;done) | (simp;omega) | omega))))⟩
  ·have Hd:Hid (decide (D<nv h)=false):=decide_eq_false hd
   rw [Hd.out] at Ha
   have hle:decide (D<nv h)=false:=decide_eq_false hd
   clear hd
   go_enter Tryz.func209,Tryz.ntmps209
   go_wp2_with fail
   go_quiet (fail)
   go_wp2_with fail
   go_quiet (fail)
   go_wp2_with fail
   go_ret2
   rw [Ha.out]
   exact ⟨rfl,(by repeat (first | exact Below.refl _ _ | assumption | refine below_drewN ?_ _ | refine Below.drew ?_ | refine Below.alloc ?_ (by first | exact Nat.le_refl _ | (simp;done) | (simp;omega) | omega) _ | refine Below.setCell ?_ (by first | exact Nat.le_refl _ | (simp;done) | (simp;omega) | omega) _ | refine Below.trans ?_ (Below.mono (by assumption) (by first | exact Nat.le_refl _ | (simp;done) | (simp;omega) | omega))))⟩
 ·go_enter Tryz.func209,Tryz.ntmps209
  go_wp2_with fail
  go_quiet (fail)
  go_wp2_with fail
  go_quiet (fail)
  go_wp2_with fail
  go_ret2
  rw [Ha.out]
  exact ⟨rfl,(by repeat (first | exact Below.refl _ _ | assumption | refine below_drewN ?_ _ | refine Below.drew ?_ | refine Below.alloc ?_ (by first | exact Nat.le_refl _ | (simp;done) | (simp;omega) | omega) _ | refine Below.setCell ?_ (by first | exact Nat.le_refl _ | (simp;done) | (simp;omega) | omega) _ | refine Below.trans ?_ (Below.mono (by assumption) (by first | exact Nat.le_refl _ | (simp;done) | (simp;omega) | omega))))⟩
end
def BoxAt (w:World) (b:Nat) (vs:List Value):Prop :=
 (∀ i v,vs[i]?=some v→w.cell? ⟨b,i,none⟩=some v)∧(∀ i v,vs[i]?=some v→w.frozen? ⟨b,i,none⟩=false)∧b<w.heap.size
def Boxes (w:World):List (Nat×List Value)→Prop
 | []=>True
 | p::L=>BoxAt w p.1 p.2∧(∀ q,q∈L→q.1<p.1)∧Boxes w L
theorem BoxAt.keep {w w':World} {b:Nat} {vs:List Value} (h:BoxAt w b vs) (hb:Below w.heap.size w w'):BoxAt w' b vs :=
 ⟨fun i v e=>(hb.cell (p:=⟨b,i,none⟩) h.2.2).trans (h.1 i v e),fun i v e=>(hb.frozen (p:=⟨b,i,none⟩) h.2.2).trans (h.2.1 i v e),Nat.lt_of_lt_of_le h.2.2 hb.size⟩
theorem Boxes.keep {w w':World}:∀ {L:List (Nat×List Value)},Boxes w L→Below w.heap.size w w'→Boxes w' L
 | [],_,_=>trivial
 | _::_,h,hb=>⟨h.1.keep hb,h.2.1,Boxes.keep h.2.2 hb⟩
theorem Boxes.nil (w:World):Boxes w []:=trivial
theorem Boxes.lt {w:World}:∀ {L:List (Nat×List Value)},Boxes w L→∀ q,q∈L→q.1<w.heap.size
 | [],_,_,hq=>absurd hq (by simp)
 | p::L,h,q,hq=>by
  rcases List.mem_cons.1 hq with e | e
  ·rw [e];exact h.1.2.2
  ·exact Boxes.lt h.2.2 q e
theorem Boxes.add {w:World} {L:List (Nat×List Value)} (h:Boxes w L) (cs:List Value) (t:TypeId):Boxes (w.alloc (.cells cs.toArray t)) ((w.heap.size,cs)::L):=by
 refine ⟨⟨fun i v e=>?_,fun i v e=>?_,by simp⟩,fun q hq=>h.lt q hq,h.keep ((Below.refl _ _).alloc (Nat.le_refl _) _)⟩
 ·rw [World.cell?_alloc_new];simpa using e
 ·rw [World.frozen?_alloc_new]
theorem Boxes.add2 {w:World} {L:List (Nat×List Value)} (h:Boxes w L) (x y:Value) (t:TypeId):Boxes (w.alloc (.cells #[x,y] t)) ((w.heap.size,[x,y])::L):=h.add [x,y] t
theorem Boxes.add4 {w:World} {L:List (Nat×List Value)} (h:Boxes w L) (x y z u:Value) (t:TypeId):Boxes (w.alloc (.cells #[x,y,z,u] t)) ((w.heap.size,[x,y,z,u])::L):=h.add [x,y,z,u] t
theorem Boxes.drew {w:World} {L:List (Nat×List Value)} (h:Boxes w L) (n:Nat):Boxes (w.drewN n) L:=h.keep (below_drewN (Below.refl _ _) n)
theorem BoxAt.other {w:World} {b b' i:Nat} {v:Value} {vs:List Value} (h:BoxAt w b vs) (hne:b≠b'):BoxAt (w.setCell ⟨b',i,none⟩ v) b vs:=by
 refine ⟨fun j u e=>?_,fun j u e=>?_,by simpa using h.2.2⟩
 ·rw [World.cell?_setCell_other _ _ _ _ (by intro h;injection h with h1;exact hne h1.symm)];exact h.1 j u e
 ·rw [World.frozen?_setCell];exact h.2.1 j u e
theorem Boxes.other {w:World} {b' i:Nat} {v:Value}:∀ {L:List (Nat×List Value)},Boxes w L→(∀ q,q∈L→q.1≠b')→Boxes (w.setCell ⟨b',i,none⟩ v) L
 | [],_,_=>trivial
 | p::_,h,hn=>⟨h.1.other (hn p (by simp)),h.2.1,Boxes.other h.2.2 fun q hq=>hn q (by simp [hq])⟩
theorem BoxAt.setOne {w:World} {b i:Nat} {v u:Value} {vs:List Value} (h:BoxAt w b vs) (hi:vs[i]?=some u):BoxAt (w.setCell ⟨b,i,none⟩ v) b (vs.set i v):=by
 have hlt:i<vs.length:=by
  rcases Nat.lt_or_ge i vs.length with h1 | h1
  ·exact h1
  ·rw [List.getElem?_eq_none h1] at hi;cases hi
 refine ⟨fun j y e=>?_,fun j y e=>?_,by simpa using h.2.2⟩
 ·by_cases hj:i=j
  ·subst hj
   rw [List.getElem?_set_self hlt] at e
   rw [World.cell?_setCell_same _ _ _ (h.1 i u hi)];exact e
  ·rw [List.getElem?_set_ne hj] at e
   rw [World.cell?_setCell_other _ _ _ _ (by intro h;injection h with _ h2;exact hj h2)];exact h.1 j y e
 ·rw [World.frozen?_setCell]
  by_cases hj:i=j
  ·subst hj;exact h.2.1 i u hi
  ·rw [List.getElem?_set_ne hj] at e;exact h.2.1 j y e
theorem Boxes.setOne {w:World} {b i:Nat} {v u:Value} {vs:List Value}:∀ {L:List (Nat×List Value)} (k:Nat),Boxes w L→L[k]?=some (b,vs)→vs[i]?=some u→Boxes (w.setCell ⟨b,i,none⟩ v) (L.set k (b,vs.set i v))
 | [],_,_,e,_=>by simp at e
 | p::L,0,h,e,hi=>by
  simp only [List.getElem?_cons_zero,Option.some.injEq] at e
  subst e
  exact ⟨h.1.setOne hi,h.2.1,h.2.2.other fun q hq=>Nat.ne_of_lt (h.2.1 q hq)⟩
 | p::L,k+1,h,e,hi=>by
  simp only [List.getElem?_cons_succ] at e
  have hm:(b,vs)∈L:=List.mem_of_getElem? e
  refine ⟨h.1.other (Nat.ne_of_gt (h.2.1 _ hm)),fun q hq=>?_,Boxes.setOne k h.2.2 e hi⟩
  rcases List.mem_or_eq_of_mem_set hq with h1 | h1
  ·exact h.2.1 q h1
  ·rw [h1];have:=h.2.1 (b,vs) hm;exact this
theorem Boxes.set2 {w:World} {b:Nat} {x y u0 u1:Value} {L:List (Nat×List Value)} (k:Nat) (h:Boxes w L) (e:L[k]?=some (b,[u0,u1])) :
  Boxes ((w.setCell ⟨b,0,none⟩ x).setCell ⟨b,1,none⟩ y) (L.set k (b,[x,y])):=by
 have h1:=Boxes.setOne (i:=0) (v:=x) k h e rfl
 have e1:(L.set k (b,[u0,u1].set 0 x))[k]?=some (b,[x,u1]):=by
  have:k<L.length:=by
   rcases Nat.lt_or_ge k L.length with h2 | h2
   ·exact h2
   ·rw [List.getElem?_eq_none h2] at e;cases e
  rw [List.getElem?_set_self this];rfl
 have h2:=Boxes.setOne (i:=1) (v:=y) k h1 e1 rfl
 rw [List.set_set] at h2
 exact h2
theorem Boxes.set4 {w:World} {b:Nat} {x y z t u0 u1 u2 u3:Value} {L:List (Nat×List Value)} (k:Nat) (h:Boxes w L) (e:L[k]?=some (b,[u0,u1,u2,u3])) :
  Boxes ((((w.setCell ⟨b,0,none⟩ x).setCell ⟨b,1,none⟩ y).setCell ⟨b,2,none⟩ z).setCell ⟨b,3,none⟩ t) (L.set k (b,[x,y,z,t])):=by
 have hk:k<L.length:=by
  rcases Nat.lt_or_ge k L.length with h2 | h2
  ·exact h2
  ·rw [List.getElem?_eq_none h2] at e;cases e
 have h1:=Boxes.setOne (i:=0) (v:=x) k h e rfl
 have h2:=Boxes.setOne (i:=1) (v:=y) (vs:=[x,u1,u2,u3]) k h1 (by rw [List.getElem?_set_self hk];rfl) rfl
 rw [List.set_set] at h2
 have h3:=Boxes.setOne (i:=2) (v:=z) (vs:=[x,y,u2,u3]) k h2 (by rw [List.getElem?_set_self hk];rfl) rfl
 rw [List.set_set] at h3
 have h4:=Boxes.setOne (i:=3) (v:=t) (vs:=[x,y,z,u3]) k h3 (by rw [List.getElem?_set_self hk];rfl) rfl
 rw [List.set_set] at h4
 exact h4
theorem BoxAt.one {w:World} {b:Nat} {x:Value} (h:BoxAt w b [x]):w.cell? ⟨b,0,none⟩=some x∧w.frozen? ⟨b,0,none⟩=false∧b<w.heap.size :=
 ⟨h.1 0 x rfl,h.2.1 0 x rfl,h.2.2⟩
theorem BoxAt.two {w:World} {b:Nat} {x y:Value} (h:BoxAt w b [x,y]):w.cell? ⟨b,0,none⟩=some x∧w.cell? ⟨b,1,none⟩=some y∧w.frozen? ⟨b,0,none⟩=false∧w.frozen? ⟨b,1,none⟩=false∧b<w.heap.size :=
 ⟨h.1 0 x rfl,h.1 1 y rfl,h.2.1 0 x rfl,h.2.1 1 y rfl,h.2.2⟩
theorem BoxAt.four {w:World} {b:Nat} {x y z t:Value} (h:BoxAt w b [x,y,z,t]):w.cell? ⟨b,0,none⟩=some x∧w.cell? ⟨b,1,none⟩=some y∧w.cell? ⟨b,2,none⟩=some z∧w.cell? ⟨b,3,none⟩=some t
  ∧ w.frozen? ⟨b,0,none⟩=false∧w.frozen? ⟨b,1,none⟩=false∧w.frozen? ⟨b,2,none⟩=false∧w.frozen? ⟨b,3,none⟩=false∧b<w.heap.size :=
 ⟨h.1 0 x rfl,h.1 1 y rfl,h.1 2 z rfl,h.1 3 t rfl,h.2.1 0 x rfl,h.2.1 1 y rfl,h.2.1 2 z rfl,h.2.1 3 t rfl,h.2.2⟩
theorem Boxes.head {w:World} {p:Nat×List Value} {L:List (Nat×List Value)} (h:Boxes w (p::L)):BoxAt w p.1 p.2:=h.1
theorem Boxes.tail {w:World} {p:Nat×List Value} {L:List (Nat×List Value)} (h:Boxes w (p::L)):Boxes w L:=h.2.2
structure Kp (w0 w:World) (L:List (Nat×List Value)):Prop where
 bel:Below w0.heap.size w0 w
 box:Boxes w L
 lo:∀ p,p∈L→w0.heap.size≤p.1
theorem Kp.start (w:World):Kp w w []:=⟨Below.refl _ _,trivial,by simp⟩
theorem Kp.keep {w0 w w':World} {L:List (Nat×List Value)} (h:Kp w0 w L) (hb:Below w.heap.size w w'):Kp w0 w' L:=⟨h.bel.trans (hb.mono h.bel.size),h.box.keep hb,h.lo⟩
theorem Kp.drew {w0 w:World} {L:List (Nat×List Value)} (h:Kp w0 w L) (n:Nat):Kp w0 (w.drewN n) L:=h.keep (below_drewN (Below.refl _ _) n)
theorem Kp.add2 {w0 w:World} {L:List (Nat×List Value)} (h:Kp w0 w L) (x y:Value) (t:TypeId):Kp w0 (w.alloc (.cells #[x,y] t)) ((w.heap.size,[x,y])::L) :=
 ⟨h.bel.alloc h.bel.size _,h.box.add2 x y t,fun p hp=>by
  rcases List.mem_cons.1 hp with e | e
  ·rw [e];exact h.bel.size
  ·exact h.lo p e⟩
theorem Kp.add4 {w0 w:World} {L:List (Nat×List Value)} (h:Kp w0 w L) (x y z u:Value) (t:TypeId):Kp w0 (w.alloc (.cells #[x,y,z,u] t)) ((w.heap.size,[x,y,z,u])::L) :=
 ⟨h.bel.alloc h.bel.size _,h.box.add4 x y z u t,fun p hp=>by
  rcases List.mem_cons.1 hp with e | e
  ·rw [e];exact h.bel.size
  ·exact h.lo p e⟩
theorem Kp.skip {w0 w:World} {L:List (Nat×List Value)} (h:Kp w0 w L) (o:Obj):Kp w0 (w.alloc o) L:=h.keep ((Below.refl _ _).alloc (Nat.le_refl _) _)
theorem Kp.set2 {w0 w:World} {b:Nat} {x y u0 u1:Value} {L:List (Nat×List Value)} (k:Nat) (h:Kp w0 w L) (e:L[k]?=some (b,[u0,u1])) :
  Kp w0 ((w.setCell ⟨b,0,none⟩ x).setCell ⟨b,1,none⟩ y) (L.set k (b,[x,y])):=by
 have hlo:w0.heap.size≤b:=h.lo _ (List.mem_of_getElem? e)
 refine ⟨(h.bel.setCell hlo x).setCell hlo y,h.box.set2 k e,fun p hp=>?_⟩
 rcases List.mem_or_eq_of_mem_set hp with h1 | h1
 ·exact h.lo p h1
 ·rw [h1];exact hlo
theorem Kp.set4 {w0 w:World} {b:Nat} {x y z t u0 u1 u2 u3:Value} {L:List (Nat×List Value)} (k:Nat) (h:Kp w0 w L) (e:L[k]?=some (b,[u0,u1,u2,u3])) :
  Kp w0 ((((w.setCell ⟨b,0,none⟩ x).setCell ⟨b,1,none⟩ y).setCell ⟨b,2,none⟩ z).setCell ⟨b,3,none⟩ t) (L.set k (b,[x,y,z,t])):=by
 have hlo:w0.heap.size≤b:=h.lo _ (List.mem_of_getElem? e)
 refine ⟨(((h.bel.setCell hlo x).setCell hlo y).setCell hlo z).setCell hlo t,h.box.set4 k e,fun p hp=>?_⟩
 rcases List.mem_or_eq_of_mem_set hp with h1 | h1
 ·exact h.lo p h1
 ·rw [h1];exact hlo
section
attribute [local go_sem] zc9 w_or zdf za3 zbx zbc zda zcy zdb zbw zb4 zc3 zby zdc zcn zcz zb1 zb3 zb2 zb0 za1
attribute [local go_sem] yba1 yaz7
set_option maxHeartbeats 1000000 in
theorem zgz (v m x:BitVec 64) (w:World) :
  Calls Tryz.prog 185 #[Bt v m,U x] w fun e w'=>e=.returned (.tuple #[U (zbr v m x).1,.bool (zbr v m x).2])∧Below w.heap.size w w':=by
 have Hl:Hid (zbr v m x=if eqb (zh3 v m x) zero then (x,true)
  else if nv (band x (zf7 v m x))<nv (band v (zf7 v m x)) then (bor (bandn x (zf7 v m x)) (band v (zf7 v m x)),true)
  else if eqb (zgo v m x) zero then (zero,false)
  else (bor (bor (bandn x (bsub (lowB (zgo v m x)) one)) (lowB (zgo v m x))) (band v (bsub (lowB (zgo v m x)) one)),true)):=rfl
 obtain ⟨c1,h1⟩:∃ b,eqb (bandn (bxor x v) m) zero=b:=⟨_,rfl⟩
 have H1:Hid (eqb (zh3 v m x) zero=c1):=h1
 rw [H1.out] at Hl
 cases c1
 ·have h64:=zm2 (bandn (bxor x v) m)
  obtain ⟨n,hn⟩:∃ n,Hid (blen (bandn (bxor x v) m)=n):=⟨_,rfl⟩
  have hn64:n≤64:=by rw [← hn.out];exact h64
  clear h64
  have Hr:Hid (zf7 v m x=bsub (bshl one n) one):=by show zd2 (blen (bandn (bxor x v) m))=_;rw [hn.out];rfl
  have Hf:Hid (zgo v m x=bandn (bandn m x) (bsub (bshl one n) one)):=by show bandn (bandn m x) (zf7 v m x)=_;rw [Hr.out]
  rw [Hr.out,Hf.out] at Hl
  go_enter Tryz.func185,Tryz.ntmps185
  go_wp2_with fail
  refine (yay2 _ _).mono ?_
  rintro e w1 ⟨rfl,rfl⟩
  rw [hn.out]
  by_cases hlt:nv (band x (bsub (bshl one n) one))<nv (band v (bsub (bshl one n) one))
  ·rw [if_pos hlt] at Hl
   go_wp2_with fail
   go_ret2
   rw [Hl.out]
   exact ⟨rfl,(by repeat (first | exact Below.refl _ _ | assumption | refine below_drewN ?_ _ | refine Below.drew ?_ | refine Below.alloc ?_ (by first | exact Nat.le_refl _ | (simp;done) | (simp;omega) | omega) _ | refine Below.setCell ?_ (by first | exact Nat.le_refl _ | (simp;done) | (simp;omega) | omega) _ | refine Below.trans ?_ (Below.mono (by assumption) (by first | exact Nat.le_refl _ | (simp;done) | (simp;omega) | omega))))⟩
  ·rw [if_neg hlt] at Hl
   have hle:nv (band v (bsub (bshl one n) one))≤nv (band x (bsub (bshl one n) one)):=by omega
   clear hlt
   obtain ⟨c2,h2⟩:∃ b,eqb (bandn (bandn m x) (bsub (bshl one n) one)) zero=b:=⟨_,rfl⟩
   rw [h2] at Hl
   cases c2
   ·go_wp2_with fail
    go_ret2
    rw [Hl.out]
    exact ⟨rfl,(by repeat (first | exact Below.refl _ _ | assumption | refine below_drewN ?_ _ | refine Below.drew ?_ | refine Below.alloc ?_ (by first | exact Nat.le_refl _ | (simp;done) | (simp;omega) | omega) _ | refine Below.setCell ?_ (by first | exact Nat.le_refl _ | (simp;done) | (simp;omega) | omega) _ | refine Below.trans ?_ (Below.mono (by assumption) (by first | exact Nat.le_refl _ | (simp;done) | (simp;omega) | omega))))⟩
   ·go_wp2_with fail
    go_ret2
    rw [Hl.out]
    exact ⟨rfl,(by repeat (first | exact Below.refl _ _ | assumption | refine below_drewN ?_ _ | refine Below.drew ?_ | refine Below.alloc ?_ (by first | exact Nat.le_refl _ | (simp;done) | (simp;omega) | omega) _ | refine Below.setCell ?_ (by first | exact Nat.le_refl _ | (simp;done) | (simp;omega) | omega) _ | refine Below.trans ?_ (Below.mono (by assumption) (by first | exact Nat.le_refl _ | (simp;done) | (simp;omega) | omega))))⟩
 ·go_enter Tryz.func185,Tryz.ntmps185
  go_wp2_with fail
  go_ret2
  rw [Hl.out]
  exact ⟨rfl,(by repeat (first | exact Below.refl _ _ | assumption | refine below_drewN ?_ _ | refine Below.drew ?_ | refine Below.alloc ?_ (by first | exact Nat.le_refl _ | (simp;done) | (simp;omega) | omega) _ | refine Below.setCell ?_ (by first | exact Nat.le_refl _ | (simp;done) | (simp;omega) | omega) _ | refine Below.trans ?_ (Below.mono (by assumption) (by first | exact Nat.le_refl _ | (simp;done) | (simp;omega) | omega))))⟩
set_option maxHeartbeats 1000000 in
theorem zk9 (v m x:BitVec 64) (w:World) :
  Calls Tryz.prog 186 #[Bt v m,U x] w fun e w'=>e=.returned (.tuple #[U (zcg v m x).1,.bool (zcg v m x).2])∧Below w.heap.size w w':=by
 have Hg:Hid (zcg v m x=if (zbr (turn v m) m (bnot x)).2 then (bnot (zbr (turn v m) m (bnot x)).1,true) else (zero,false)):=rfl
 have Hc:Hid (∀ w,Calls Tryz.prog 185 #[Bt (bnot (bor v m)) m,U (bnot x)] w fun e w'=>e=.returned (.tuple #[U (zbr (turn v m) m (bnot x)).1,.bool (zbr (turn v m) m (bnot x)).2])∧Below w.heap.size w w'):=fun w=>zgz (turn v m) m (bnot x) w
 generalize zbr (turn v m) m (bnot x)=S at Hg Hc
 obtain ⟨sb,sf⟩:=S
 cases sf
 all_goals
  go_enter Tryz.func186,Tryz.ntmps186
  go_wp2_with fail
  refine (Hc.out _).mono ?_
  rintro e w1 ⟨rfl,hb1⟩
  go_wp2_with fail
  go_ret2
  rw [Hg.out]
  exact ⟨rfl,(by repeat (first | exact Below.refl _ _ | assumption | refine below_drewN ?_ _ | refine Below.drew ?_ | refine Below.alloc ?_ (by first | exact Nat.le_refl _ | (simp;done) | (simp;omega) | omega) _ | refine Below.setCell ?_ (by first | exact Nat.le_refl _ | (simp;done) | (simp;omega) | omega) _ | refine Below.trans ?_ (Below.mono (by assumption) (by first | exact Nat.le_refl _ | (simp;done) | (simp;omega) | omega))))⟩
end
section
attribute [local go_sem] zc9 w_or zdf za3 zbx zbc zda zcy zdb zbw zb4 zc3 zby zdc zcn zcz zb1 zb3 zb2 zb0 za1
abbrev V0:Value:=Vl zero zero zero zero
set_option maxHeartbeats 1000000 in
theorem zte {v m l h:BitVec 64} (hr:Hid (eqb (band v m) zero=true)) (ho:Hid (zc7 v m l h=false)) (w:World) :
  Calls Tryz.prog 156 #[Vl v m l h] w fun e w'=>e=.returned (.tuple #[V0,.bool false,N 0])∧Below w.heap.size w w':=by
 have HL:Hid (∀ w,Calls Tryz.prog 185 #[Bt v m,U l] w fun e w'=>e=.returned (.tuple #[U (zbr v m l).1,.bool (zbr v m l).2])∧Below w.heap.size w w'):=fun w=>zgz v m l w
 have HG:Hid (∀ w,Calls Tryz.prog 186 #[Bt v m,U h] w fun e w'=>e=.returned (.tuple #[U (zcg v m h).1,.bool (zcg v m h).2])∧Below w.heap.size w w'):=fun w=>zk9 v m h w
 have Ho:Hid (((zbr v m l).2&&((zcg v m h).2&&decide (nv (zbr v m l).1≤nv (zcg v m h).1)))=false):=ho
 clear ho
 generalize zbr v m l=L at HL Ho
 generalize zcg v m h=G at HG Ho
 obtain ⟨lo,lb⟩:=L
 obtain ⟨hi,gb⟩:=G
 go_enter Tryz.func156,Tryz.ntmps156
 go_wp2_with fail
 refine (zu9 hr _).mono ?_
 rintro e w1 ⟨rfl,hb1⟩
 have hK:=(((Kp.start w).add4 _ _ _ _ _).add4 _ _ _ _ _).keep hb1
 simp only [World.size_alloc] at hK
 obtain ⟨r0,r1,r2,r3,r4,r5,r6,r7,r8⟩:=hK.box.head.four
 obtain ⟨a0,a1,a2,a3,a4,a5,a6,a7,a8⟩:=hK.box.tail.head.four
 first | rw [er_t] | rw [er_f]
 go_wp2_with fail
 refine (HL.out _).mono ?_
 rintro e w2 ⟨rfl,hb2⟩
 have hK2:=hK.keep hb2
 clear r0 r1 r2 r3 r4 r5 r6 r7 r8 a0 a1 a2 a3 a4 a5 a6 a7 a8
 obtain ⟨r0,r1,r2,r3,r4,r5,r6,r7,r8⟩:=hK2.box.head.four
 obtain ⟨a0,a1,a2,a3,a4,a5,a6,a7,a8⟩:=hK2.box.tail.head.four
 go_wp2_with fail
 refine (HG.out _).mono ?_
 rintro e w3 ⟨rfl,hb3⟩
 have hK3:=hK2.keep hb3
 clear r0 r1 r2 r3 r4 r5 r6 r7 r8 a0 a1 a2 a3 a4 a5 a6 a7 a8
 obtain ⟨r0,r1,r2,r3,r4,r5,r6,r7,r8⟩:=hK3.box.head.four
 obtain ⟨a0,a1,a2,a3,a4,a5,a6,a7,a8⟩:=hK3.box.tail.head.four
 cases lb
 ·go_wp2_with fail
  exact bodyPost_ret (v:=.tuple #[V0,.bool false,N 0]) (by simp [results,Tryz.results156,go_sem,za4,r0,r1,r2,r3]) rfl ⟨rfl,(hK3.set4 0 rfl).bel⟩
 ·cases gb
  ·go_wp2_with fail
   exact bodyPost_ret (v:=.tuple #[V0,.bool false,N 0]) (by simp [results,Tryz.results156,go_sem,za4,r0,r1,r2,r3]) rfl ⟨rfl,(hK3.set4 0 rfl).bel⟩
  ·have hlt:nv hi<nv lo:=by
    have:=Ho.out
    simp only [Bool.true_and,decide_eq_false_iff_not] at this
    omega
   clear Ho
   go_wp2_with fail
   exact bodyPost_ret (v:=.tuple #[V0,.bool false,N 0]) (by simp [results,Tryz.results156,go_sem,za4,r0,r1,r2,r3]) rfl ⟨rfl,(hK3.set4 0 rfl).bel⟩
theorem zjz {v m v' m':BitVec 64} (h1:RtB v m) (h2:RtB v' m'):Hid ((eqb (band v m) zero&&eqb (band v' m') zero)=true):=by
 show _=true
 rw [(zef _ _).2 h1,(zef _ _).2 h2];rfl
set_option maxHeartbeats 1000000 in
theorem zq1 {v m l h:BitVec 64} (hr:Hid (eqb (band v m) zero=true)) (ho:Hid (zc7 v m l h=true)) (w:World) :
  Calls Tryz.prog 156 #[Vl v m l h] w fun e w'=>e=.returned (.tuple #[Vl (nV v m l h) (nM m (nLo v m l) (nHi v m h)) (nLo v m l) (nHi v m h),.bool true,N 0])∧Below w.heap.size w w':=by
 have hrt:=(zef v m).1 hr.out
 have hfa:=zes hrt ho.out
 have ho':=ho.out
 unfold zc7 at ho'
 simp only [Bool.and_eq_true] at ho'
 have HL:Hid (∀ w,Calls Tryz.prog 185 #[Bt v m,U l] w fun e w'=>e=.returned (.tuple #[U (nLo v m l),.bool true])∧Below w.heap.size w w'):=fun w=>by
  have:=zgz v m l w;rw [ho'.1] at this;exact this
 have HG:Hid (∀ w,Calls Tryz.prog 186 #[Bt v m,U h] w fun e w'=>e=.returned (.tuple #[U (nHi v m h),.bool true])∧Below w.heap.size w w'):=fun w=>by
  have:=zk9 v m h w;rw [ho'.2.1] at this;exact this
 have HS:Hid (∀ w,Calls Tryz.prog 142 #[U (nLo v m l),U (nHi v m h)] w fun e w'=>e=.returned (.tuple #[Bt (spV (nLo v m l) (nHi v m h)) (sM (nLo v m l) (nHi v m h)),N 0])∧Below w.heap.size w w'):=fun w=>yako hfa.2.2.1 w
 have HM:Hid (∀ w,Calls Tryz.prog 150 #[Bt v m,Bt (spV (nLo v m l) (nHi v m h)) (sM (nLo v m l) (nHi v m h))] w fun e w'=>e=.returned (.tuple #[Bt (nV v m l h) (nM m (nLo v m l) (nHi v m h)),.bool true,N 0])∧Below w.heap.size w w'):=fun w =>
  yahv (zjz hrt (zex _ _)) (znl hrt hfa.1 (Int.le_refl _) hfa.2.2.1) w
 have hle:=hfa.2.2.1
 clear hfa ho' ho hrt
 generalize nV v m l h=rv at HM ⊢
 generalize nM m (nLo v m l) (nHi v m h)=rm at HM ⊢
 generalize spV (nLo v m l) (nHi v m h)=sv at HM HS
 generalize sM (nLo v m l) (nHi v m h)=sm at HM HS
 generalize nLo v m l=lo at HL HS hle ⊢
 generalize nHi v m h=hi at HG HS hle ⊢
 go_enter Tryz.func156,Tryz.ntmps156
 go_wp2_with fail
 refine (zu9 hr _).mono ?_
 rintro e w1 ⟨rfl,hb1⟩
 have hK:=(((Kp.start w).add4 _ _ _ _ _).add4 _ _ _ _ _).keep hb1
 simp only [World.size_alloc] at hK
 obtain ⟨r0,r1,r2,r3,r4,r5,r6,r7,r8⟩:=hK.box.head.four
 obtain ⟨a0,a1,a2,a3,a4,a5,a6,a7,a8⟩:=hK.box.tail.head.four
 first | rw [er_t] | rw [er_f]
 go_wp2_with fail
 refine (HL.out _).mono ?_
 rintro e w2 ⟨rfl,hb2⟩
 have hK2:=hK.keep hb2
 clear r0 r1 r2 r3 r4 r5 r6 r7 r8 a0 a1 a2 a3 a4 a5 a6 a7 a8
 obtain ⟨r0,r1,r2,r3,r4,r5,r6,r7,r8⟩:=hK2.box.head.four
 obtain ⟨a0,a1,a2,a3,a4,a5,a6,a7,a8⟩:=hK2.box.tail.head.four
 go_wp2_with fail
 refine (HG.out _).mono ?_
 rintro e w3 ⟨rfl,hb3⟩
 have hK3:=hK2.keep hb3
 clear r0 r1 r2 r3 r4 r5 r6 r7 r8 a0 a1 a2 a3 a4 a5 a6 a7 a8
 obtain ⟨r0,r1,r2,r3,r4,r5,r6,r7,r8⟩:=hK3.box.head.four
 obtain ⟨a0,a1,a2,a3,a4,a5,a6,a7,a8⟩:=hK3.box.tail.head.four
 go_wp2_with fail
 refine (HS.out _).mono ?_
 rintro e w4 ⟨rfl,hb4⟩
 have hK4:=hK3.keep hb4
 clear r0 r1 r2 r3 r4 r5 r6 r7 r8 a0 a1 a2 a3 a4 a5 a6 a7 a8
 obtain ⟨r0,r1,r2,r3,r4,r5,r6,r7,r8⟩:=hK4.box.head.four
 obtain ⟨a0,a1,a2,a3,a4,a5,a6,a7,a8⟩:=hK4.box.tail.head.four
 go_wp2_with fail
 refine (HM.out _).mono ?_
 rintro e w5 ⟨rfl,hb5⟩
 have hK5:=(hK4.add2 _ _ _).keep hb5
 clear r0 r1 r2 r3 r4 r5 r6 r7 r8 a0 a1 a2 a3 a4 a5 a6 a7 a8
 obtain ⟨s0,s1,s2,s3,s4⟩:=hK5.box.head.two
 obtain ⟨r0,r1,r2,r3,r4,r5,r6,r7,r8⟩:=hK5.box.tail.head.four
 obtain ⟨a0,a1,a2,a3,a4,a5,a6,a7,a8⟩:=hK5.box.tail.tail.head.four
 go_wp2_with fail
 exact bodyPost_ret (v:=.tuple #[Vl rv rm lo hi,.bool true,N 0]) (by simp [results,Tryz.results156,go_sem,r0,r1,r2,r3,r8]) rfl ⟨rfl,((hK5.set4 1 rfl).add2 _ _ _).bel⟩
end
section
attribute [local go_sem] zc9 w_or zdf za3 zbx zbc zda zcy zdb zbw zb4 zc3 zby zdc zcn zcz zb1 zb3 zb2 zb0 za1
theorem yamn (v:BitVec 64) (i:Nat):eqb (band (bshr v i) one) zero=!bit v i:=by
 cases hb:bit v i
 ·have h:∀ j,bit (band (bshr v i) one) j=false:=by
   intro j
   rw [zaz,zew]
   have ho:bit one j=decide (j=0):=by
    have:=zcw 0 j (by omega)
    rw [show bshl one 0=one by unfold bshl;simp] at this
    exact this
   rw [ho]
   by_cases e:j=0
   ·subst e;rw [Nat.add_zero,hb];rfl
   ·simp [e]
  rw [(zb6 _).2 fun j _=>h j];rfl
 ·have:=zjh v i
  rw [hb,zdl] at this
  rw [this];rfl
theorem yaa9 {v m x:BitVec 64} {b:Bool} (h:hasB v m x=b) (w:World) :
  Calls Tryz.prog 190 #[Bt v m,U x] w fun e w'=>e=.returned (.bool b)∧Below w.heap.size w w':=h ▸ zwi v m x w
set_option maxRecDepth 100000 in
set_option maxHeartbeats 1000000 in
theorem zkq (v m x:BitVec 64) (w:World) :
  Calls Tryz.prog 168 #[Bt v m,U x] w fun e w'=>e=.returned (.tuple #[U (zcq v m x 64).1,.bool (zcq v m x 64).2])∧Below w.heap.size w w':=by
 obtain ⟨hh,Hh⟩:∃ b,Hid (hasB v m x=b):=⟨_,rfl⟩
 go_enter Tryz.func168,Tryz.ntmps168
 go_wp2_with fail
 refine (yaa9 Hh.out _).mono ?_
 rintro e w1 ⟨rfl,hb1⟩
 have hK:=((Kp.start w).add2 _ _ _).keep hb1
 go_wp2_with fail
 go_loopw [6,7,8] (fun b f i wr=>∃ k:Nat,k≤64∧i=N k∧b=U (zcq v m x k).1∧f=.bool (zcq v m x k).2∧Kp w wr [(w.heap.size,[U v,U m])]) (fun _ _ i _=>64 - (intOf i).toNat)
 case atStart=>exact ⟨0,by omega,rfl,rfl,by rw [zcq,Hh.out],hK⟩
 case round =>
  clear hK hb1
  obtain ⟨k,hk,rfl,rfl,rfl,hK⟩:=hrel
  obtain ⟨a0,a1,a2,a3,a4⟩:=hK.box.head.two
  have Hs:Hid (k<64→zcq v m x (k+1)=if (zcq v m x k).2 then zcq v m x k else if okL v m x k then (zgm v x k,true) else zcq v m x k):=fun _=>rfl
  have Ht:Hid ((zcq v m x k).2=true→zcq v m x 64=zcq v m x k):=fun h=>zj6 v m x k 64 h hk
  have Hu:Hid (k=64→zcq v m x 64=zcq v m x k):=fun h=>by rw [h]
  generalize zcq v m x k=S at Hs Ht Hu ⊢
  obtain ⟨sb,sf⟩:=S
  by_cases hlt:k<64
  ·cases sf
   ·have hA:=zjh x k
    have Hn:=Hs.out hlt
    have Hok:Hid (okL v m x k=(!bit x k&&hasB v m (zgm v x k))):=rfl
    clear Hs Ht Hu
    have Hn:Hid _:=Hn
    obtain ⟨bx,hbx⟩:∃ b,Hid (bit x k=b):=⟨_,rfl⟩
    rw [hbx.out] at hA Hok
    obtain ⟨bc,hbc⟩:∃ b,Hid (hasB v m (zgm v x k)=b):=⟨_,rfl⟩
    rw [hbc.out] at Hok
    cases bx
    ·go_wp2_with fail
     go_quiet (fail)
     go_wp2_with fail
     go_quiet (fail)
     go_wp2_with fail
     refine (yaa9 (b:=bc) hbc.out _).mono ?_
     rintro e w2 ⟨rfl,hb2⟩
     have hK2:=(hK.drew _).keep hb2
     cases bc
     ·go_wp2_with fail
      exact ⟨⟨k+1,by omega,by go_num,by rw [Hn.out,Hok.out];rfl,by rw [Hn.out,Hok.out];rfl,hK2⟩,by simp [intOf];omega⟩
     ·go_wp2_with fail
      exact ⟨⟨k+1,by omega,by go_num,by rw [Hn.out,Hok.out];rfl,by rw [Hn.out,Hok.out];rfl,hK2⟩,by simp [intOf];omega⟩
    ·go_wp2_with fail
     exact ⟨⟨k+1,by omega,by go_num,by rw [Hn.out,Hok.out];rfl,by rw [Hn.out,Hok.out];rfl,hK⟩,by simp [intOf];omega⟩
   ·have He:Hid _:=Ht.out rfl
    clear Hs Ht Hu
    go_wp2_with fail
    go_ret2
    rw [He.out]
    exact ⟨rfl,hK.bel⟩
  ·have hk64:k=64:=by omega
   have He:Hid _:=Hu.out hk64
   clear Hs Ht Hu
   subst hk64
   go_wp2_with fail
   go_ret2
   rw [He.out]
   exact ⟨rfl,hK.bel⟩
set_option maxRecDepth 100000 in
set_option maxHeartbeats 1000000 in
theorem zkr (v m x:BitVec 64) (w:World) :
  Calls Tryz.prog 169 #[Bt v m,U x] w fun e w'=>e=.returned (.tuple #[U (zcr v m x 64).1,.bool (zcr v m x 64).2])∧Below w.heap.size w w':=by
 obtain ⟨hh,Hh⟩:∃ b,Hid (hasB v m x=b):=⟨_,rfl⟩
 go_enter Tryz.func169,Tryz.ntmps169
 go_wp2_with fail
 refine (yaa9 Hh.out _).mono ?_
 rintro e w1 ⟨rfl,hb1⟩
 have hK:=((Kp.start w).add2 _ _ _).keep hb1
 go_wp2_with fail
 go_loopw [6,7,8] (fun b f i wr=>∃ k:Nat,k≤64∧i=N k∧b=U (zcr v m x k).1∧f=.bool (zcr v m x k).2∧Kp w wr [(w.heap.size,[U v,U m])]) (fun _ _ i _=>64 - (intOf i).toNat)
 case atStart=>exact ⟨0,by omega,rfl,rfl,by rw [zcr,Hh.out],hK⟩
 case round =>
  clear hK hb1
  obtain ⟨k,hk,rfl,rfl,rfl,hK⟩:=hrel
  obtain ⟨a0,a1,a2,a3,a4⟩:=hK.box.head.two
  have Hs:Hid (k<64→zcr v m x (k+1)=if (zcr v m x k).2 then zcr v m x k else if okG v m x k then (zsp v m x k,true) else zcr v m x k):=fun _=>rfl
  have Ht:Hid ((zcr v m x k).2=true→zcr v m x 64=zcr v m x k):=fun h=>zkk v m x k 64 h hk
  have Hu:Hid (k=64→zcr v m x 64=zcr v m x k):=fun h=>by rw [h]
  generalize zcr v m x k=S at Hs Ht Hu ⊢
  obtain ⟨sb,sf⟩:=S
  by_cases hlt:k<64
  ·cases sf
   ·have hA:=yamn x k
    have Hn:=Hs.out hlt
    have Hok:Hid (okG v m x k=(bit x k&&hasB v m (zsp v m x k))):=rfl
    clear Hs Ht Hu
    have Hn:Hid _:=Hn
    obtain ⟨bx,hbx⟩:∃ b,Hid (bit x k=b):=⟨_,rfl⟩
    rw [hbx.out] at hA Hok
    obtain ⟨bc,hbc⟩:∃ b,Hid (hasB v m (zsp v m x k)=b):=⟨_,rfl⟩
    rw [hbc.out] at Hok
    cases bx
    ·go_wp2_with fail
     exact ⟨⟨k+1,by omega,by go_num,by rw [Hn.out,Hok.out];rfl,by rw [Hn.out,Hok.out];rfl,hK⟩,by simp [intOf];omega⟩
    ·go_wp2_with fail
     go_quiet (fail)
     go_wp2_with fail
     refine (yaa9 (b:=bc) hbc.out _).mono ?_
     rintro e w2 ⟨rfl,hb2⟩
     have hK2:=(hK.drew _).keep hb2
     cases bc
     ·go_wp2_with fail
      exact ⟨⟨k+1,by omega,by go_num,by rw [Hn.out,Hok.out];rfl,by rw [Hn.out,Hok.out];rfl,hK2⟩,by simp [intOf];omega⟩
     ·go_wp2_with fail
      exact ⟨⟨k+1,by omega,by go_num,by rw [Hn.out,Hok.out];rfl,by rw [Hn.out,Hok.out];rfl,hK2⟩,by simp [intOf];omega⟩
   ·have He:Hid _:=Ht.out rfl
    clear Hs Ht Hu
    go_wp2_with fail
    go_ret2
    rw [He.out]
    exact ⟨rfl,hK.bel⟩
  ·have hk64:k=64:=by omega
   have He:Hid _:=Hu.out hk64
   clear Hs Ht Hu
   subst hk64
   go_wp2_with fail
   go_ret2
   rw [He.out]
   exact ⟨rfl,hK.bel⟩
end
section
attribute [local go_sem] zc9 w_or zdf za3 zbx zbc zda zcy zdb zbw zb4 zc3 zby zdc zcn zcz zb1 zb3 zb2 zb0 za1
set_option maxHeartbeats 400000 in
theorem zvr (av am bv bm:BitVec 64) (w:World) :
  Calls Tryz.prog 130 #[Bt av am,Bt bv bm] w fun e w'=>e=.returned (Bt (zx4 av am bv bm 64) (zw7 av am bv bm 64))∧Below w.heap.size w w':=by
 go_enter Tryz.func130,Tryz.ntmps130
 go_wp2
 go_loopw [6] (fun i wr=>∃ k:Nat,k≤64∧i=N k
   ∧ Below (w.heap.size+1+1+1) (((w.alloc (.cells #[U av,U am] 47)).alloc (.cells #[U bv,U bm] 47)).alloc (.cells #[.int .u64 0,.int .u64 0] 47)) wr
   ∧ wr.cell? ⟨w.heap.size+1+1+1,0,none⟩=some (U (zx4 av am bv bm k))∧wr.cell? ⟨w.heap.size+1+1+1,1,none⟩=some (U (zw7 av am bv bm k))
   ∧ (∀ o,wr.frozen? ⟨w.heap.size+1+1+1,o,none⟩=false)
   ∧ w.heap.size+1+1+1+1≤wr.heap.size) (fun i _=>64 - (intOf i).toNat)
 case atStart =>
  exact ⟨0,by omega,rfl,(by repeat (first | exact Below.refl _ _ | assumption | refine below_drewN ?_ _ | refine Below.drew ?_ | refine Below.alloc ?_ (by first | exact Nat.le_refl _ | (simp;done) | (simp;omega) | omega) _ | refine Below.setCell ?_ (by first | exact Nat.le_refl _ | (simp;done) | (simp;omega) | omega) _ | refine Below.trans ?_ (Below.mono (by assumption) (by first | exact Nat.le_refl _ | (simp;done) | (simp;omega) | omega)))),by simp [zx4,acc,za4,go_sem],by simp [zw7,acc,za4,go_sem],by simp [go_sem],by simp⟩
 case round =>
  obtain ⟨k,hk,rfl,hbel,ho0,ho1,hfo,hsz⟩:=hrel
  obtain ⟨hc,hf⟩:=bl hbel
  by_cases hlt:k<64
  ·obtain ⟨z1,o1,H1,H2⟩:=zg0 av am k
   obtain ⟨z2,o2,H3,H4⟩:=zg0 bv bm k
   go_wp2_with fail
   refine (zbj hlt H1 H2 _).mono ?_
   rintro e w1 ⟨rfl,hb1⟩
   obtain ⟨hc1,hf1,hs1⟩:=bk _ hb1 hsz
   go_wp2_with fail
   refine (zbj hlt H3 H4 _).mono ?_
   rintro e w2 ⟨rfl,hb2⟩
   obtain ⟨hc2,hf2,hs2⟩:=bk _ hb2 hs1
   cases z1 <;> cases o1
   all_goals
    go_wp2_with fail
    refine (zf5 _ _ k hlt _ _ _).mono ?_
    rintro e w3 ⟨rfl,hb3⟩
    obtain ⟨hc3,hf3,hs3⟩:=bk _ hb3 hs2
    go_wp2_with fail
    exact ⟨⟨k+1,by omega,by go_num,zeh hbel ((hb1.trans (hb2.mono hb1.size)).trans (hb3.mono (Nat.le_trans hb1.size hb2.size))) hsz ho0 ho1 hfo
     (by rw [← yadq,← H1.out,← H2.out,← H3.out,← H4.out];rfl) (by rw [← yae1,← H1.out,← H2.out,← H3.out,← H4.out];rfl)⟩,by simp [intOf];omega⟩
  ·have hk64:k=64:=by omega
   subst hk64
   go_wp2_with fail
   exact bodyPost_ret (v:=Bt (zx4 av am bv bm 64) (zw7 av am bv bm 64)) (by simp [results,Tryz.results130,go_sem,hc]) rfl ⟨rfl,(by repeat (first | exact Below.refl _ _ | assumption | refine below_drewN ?_ _ | refine Below.drew ?_ | refine Below.alloc ?_ (by first | exact Nat.le_refl _ | (simp;done) | (simp;omega) | omega) _ | refine Below.setCell ?_ (by first | exact Nat.le_refl _ | (simp;done) | (simp;omega) | omega) _ | refine Below.trans ?_ (Below.mono (by assumption) (by first | exact Nat.le_refl _ | (simp;done) | (simp;omega) | omega))))⟩
set_option maxHeartbeats 600000 in
theorem zoh (av am bv bm:BitVec 64) (hok:Hid (∀ j,j<64→zi4 av am bv bm j=true)) (w:World) :
  Calls Tryz.prog 129 #[Bt av am,Bt bv bm] w fun e w'=>e=.returned (.tuple #[Bt (zs2 av am bv bm 64) (zsn av am bv bm 64),.bool true])∧Below w.heap.size w w':=by
 go_enter Tryz.func129,Tryz.ntmps129
 go_wp2
 go_loopw [7] (fun i wr=>∃ k:Nat,k≤64∧i=N k
   ∧ Below (w.heap.size+1+1+1) (((w.alloc (.cells #[U av,U am] 47)).alloc (.cells #[U bv,U bm] 47)).alloc (.cells #[.int .u64 0,.int .u64 0] 47)) wr
   ∧ wr.cell? ⟨w.heap.size+1+1+1,0,none⟩=some (U (zs2 av am bv bm k))∧wr.cell? ⟨w.heap.size+1+1+1,1,none⟩=some (U (zsn av am bv bm k))
   ∧ (∀ o,wr.frozen? ⟨w.heap.size+1+1+1,o,none⟩=false)
   ∧ w.heap.size+1+1+1+1≤wr.heap.size) (fun i _=>64 - (intOf i).toNat)
 case atStart =>
  exact ⟨0,by omega,rfl,(by repeat (first | exact Below.refl _ _ | assumption | refine below_drewN ?_ _ | refine Below.drew ?_ | refine Below.alloc ?_ (by first | exact Nat.le_refl _ | (simp;done) | (simp;omega) | omega) _ | refine Below.setCell ?_ (by first | exact Nat.le_refl _ | (simp;done) | (simp;omega) | omega) _ | refine Below.trans ?_ (Below.mono (by assumption) (by first | exact Nat.le_refl _ | (simp;done) | (simp;omega) | omega)))),by simp [zs2,acc,za4,go_sem],by simp [zsn,acc,za4,go_sem],by simp [go_sem],by simp⟩
 case round =>
  obtain ⟨k,hk,rfl,hbel,ho0,ho1,hfo,hsz⟩:=hrel
  obtain ⟨hc,hf⟩:=bl hbel
  by_cases hlt:k<64
  ·obtain ⟨z1,o1,H1,H2⟩:=zg0 av am k
   obtain ⟨z2,o2,H3,H4⟩:=zg0 bv bm k
   have Hok:Hid (((z1&&z2)||(o1&&o2))=true):=by rw [H1.out,H2.out,H3.out,H4.out];exact hok.out k hlt
   go_wp2_with fail
   refine (zbj hlt H1 H2 _).mono ?_
   rintro e w1 ⟨rfl,hb1⟩
   obtain ⟨hc1,hf1,hs1⟩:=bk _ hb1 hsz
   go_wp2_with fail
   refine (zbj hlt H3 H4 _).mono ?_
   rintro e w2 ⟨rfl,hb2⟩
   obtain ⟨hc2,hf2,hs2⟩:=bk _ hb2 hs1
   cases z1 <;> cases o1 <;> cases z2 <;> cases o2 <;> first
    | exact absurd Hok.out (by decide)
    | (clear Hok
       go_wp2_with fail
       refine (zf5 _ _ k hlt _ _ _).mono ?_
       rintro e w3 ⟨rfl,hb3⟩
       obtain ⟨hc3,hf3,hs3⟩:=bk _ hb3 hs2
       go_wp2_with fail
       exact ⟨⟨k+1,by omega,by go_num,zeh hbel ((hb1.trans (hb2.mono hb1.size)).trans (hb3.mono (Nat.le_trans hb1.size hb2.size))) hsz ho0 ho1 hfo
        (by rw [← zqh,← H1.out,← H2.out,← H3.out,← H4.out];rfl) (by rw [← zp7,← H1.out,← H2.out,← H3.out,← H4.out];rfl)⟩,by simp [intOf];omega⟩)
  ·have hk64:k=64:=by omega
   subst hk64
   go_wp2_with fail
   exact bodyPost_ret (v:=.tuple #[Bt (zs2 av am bv bm 64) (zsn av am bv bm 64),.bool true]) (by simp [results,Tryz.results129,go_sem,hc]) rfl ⟨rfl,(by repeat (first | exact Below.refl _ _ | assumption | refine below_drewN ?_ _ | refine Below.drew ?_ | refine Below.alloc ?_ (by first | exact Nat.le_refl _ | (simp;done) | (simp;omega) | omega) _ | refine Below.setCell ?_ (by first | exact Nat.le_refl _ | (simp;done) | (simp;omega) | omega) _ | refine Below.trans ?_ (Below.mono (by assumption) (by first | exact Nat.le_refl _ | (simp;done) | (simp;omega) | omega))))⟩
set_option maxHeartbeats 600000 in
theorem zxm (av am bv bm:BitVec 64) (j0:Nat) (hj:j0<64) (hno:Hid (zi4 av am bv bm j0=false)) (hok:Hid (∀ j,j<j0→zi4 av am bv bm j=true)) (w:World) :
  Calls Tryz.prog 129 #[Bt av am,Bt bv bm] w fun e w'=>e=.returned (.tuple #[Bt zero zero,.bool false])∧Below w.heap.size w w':=by
 go_enter Tryz.func129,Tryz.ntmps129
 go_wp2
 go_loopw [7] (fun i wr=>∃ k:Nat,k≤j0∧i=N k
   ∧ Below (w.heap.size+1+1+1) (((w.alloc (.cells #[U av,U am] 47)).alloc (.cells #[U bv,U bm] 47)).alloc (.cells #[.int .u64 0,.int .u64 0] 47)) wr
   ∧ wr.cell? ⟨w.heap.size+1+1+1,0,none⟩=some (U (zs2 av am bv bm k))∧wr.cell? ⟨w.heap.size+1+1+1,1,none⟩=some (U (zsn av am bv bm k))
   ∧ (∀ o,wr.frozen? ⟨w.heap.size+1+1+1,o,none⟩=false)
   ∧ w.heap.size+1+1+1+1≤wr.heap.size) (fun i _=>64 - (intOf i).toNat)
 case atStart =>
  exact ⟨0,by omega,rfl,(by repeat (first | exact Below.refl _ _ | assumption | refine below_drewN ?_ _ | refine Below.drew ?_ | refine Below.alloc ?_ (by first | exact Nat.le_refl _ | (simp;done) | (simp;omega) | omega) _ | refine Below.setCell ?_ (by first | exact Nat.le_refl _ | (simp;done) | (simp;omega) | omega) _ | refine Below.trans ?_ (Below.mono (by assumption) (by first | exact Nat.le_refl _ | (simp;done) | (simp;omega) | omega)))),by simp [zs2,acc,za4,go_sem],by simp [zsn,acc,za4,go_sem],by simp [go_sem],by simp⟩
 case round =>
  obtain ⟨k,hk,rfl,hbel,ho0,ho1,hfo,hsz⟩:=hrel
  obtain ⟨hc,hf⟩:=bl hbel
  have hlt:k<64:=by omega
  obtain ⟨z1,o1,H1,H2⟩:=zg0 av am k
  obtain ⟨z2,o2,H3,H4⟩:=zg0 bv bm k
  by_cases hlj:k<j0
  ·have Hok:Hid (((z1&&z2)||(o1&&o2))=true):=by rw [H1.out,H2.out,H3.out,H4.out];exact hok.out k hlj
   go_wp2_with fail
   refine (zbj hlt H1 H2 _).mono ?_
   rintro e w1 ⟨rfl,hb1⟩
   obtain ⟨hc1,hf1,hs1⟩:=bk _ hb1 hsz
   go_wp2_with fail
   refine (zbj hlt H3 H4 _).mono ?_
   rintro e w2 ⟨rfl,hb2⟩
   obtain ⟨hc2,hf2,hs2⟩:=bk _ hb2 hs1
   cases z1 <;> cases o1 <;> cases z2 <;> cases o2 <;> first
    | exact absurd Hok.out (by decide)
    | (clear Hok
       go_wp2_with fail
       refine (zf5 _ _ k hlt _ _ _).mono ?_
       rintro e w3 ⟨rfl,hb3⟩
       obtain ⟨hc3,hf3,hs3⟩:=bk _ hb3 hs2
       go_wp2_with fail
       exact ⟨⟨k+1,by omega,by go_num,zeh hbel ((hb1.trans (hb2.mono hb1.size)).trans (hb3.mono (Nat.le_trans hb1.size hb2.size))) hsz ho0 ho1 hfo
        (by rw [← zqh,← H1.out,← H2.out,← H3.out,← H4.out];rfl) (by rw [← zp7,← H1.out,← H2.out,← H3.out,← H4.out];rfl)⟩,by simp [intOf];omega⟩)
  ·have ek:k=j0:=by omega
   have Hno:Hid (((z1&&z2)||(o1&&o2))=false):=by rw [H1.out,H2.out,H3.out,H4.out,ek];exact hno.out
   clear ek
   go_wp2_with fail
   refine (zbj hlt H1 H2 _).mono ?_
   rintro e w1 ⟨rfl,hb1⟩
   obtain ⟨hc1,hf1,hs1⟩:=bk _ hb1 hsz
   go_wp2_with fail
   refine (zbj hlt H3 H4 _).mono ?_
   rintro e w2 ⟨rfl,hb2⟩
   obtain ⟨hc2,hf2,hs2⟩:=bk _ hb2 hs1
   cases z1 <;> cases o1 <;> cases z2 <;> cases o2 <;> first
    | exact absurd Hno.out (by decide)
    | (clear Hno
       go_wp2_with fail
       exact bodyPost_ret (v:=.tuple #[Bt zero zero,.bool false]) (by simp [results,Tryz.results129,go_sem,hc,hc1,hc2,za4]) rfl ⟨rfl,(by repeat (first | exact Below.refl _ _ | assumption | refine below_drewN ?_ _ | refine Below.drew ?_ | refine Below.alloc ?_ (by first | exact Nat.le_refl _ | (simp;done) | (simp;omega) | omega) _ | refine Below.setCell ?_ (by first | exact Nat.le_refl _ | (simp;done) | (simp;omega) | omega) _ | refine Below.trans ?_ (Below.mono (by assumption) (by first | exact Nat.le_refl _ | (simp;done) | (simp;omega) | omega))))⟩)
end
end Go.Proofs.YtkigmocchaikgabGreatDoor
