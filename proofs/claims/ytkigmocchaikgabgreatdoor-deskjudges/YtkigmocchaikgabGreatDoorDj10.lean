import Derived.Test.YtkigmocchaikgabGreatDoorDj9
import Derived.Test.YtkigmocchaikgabGreatDoorDj7
import Derived.Test.YtkigmocchaikgabGreatDoorDj2
import Derived.Test.YtkigmocchaikgabGreatDoorProg
import Derived.Test.YtkigmocchaikgabGreatDoorDj4
import Derived.OrdersIn
import Derived.RangeFuncWrites
import Derived.RangeFuncLeaves
import Derived.TacticsIn
import Derived.RangeFuncBox
import Derived.Shelf.Abstract
import Derived.WalkKit
import Derived.OwnWalkIn
import Derived.TacticsInMore
import Derived.LoopNIn
import Derived.LoopIn
import Derived.Test.YtkigmocchaikgabGreatDoorDj6
/- Ridding: the program that is rid of what is dead is right, has no trap, and runs as it did: plain facts. -/
namespace Go.Proofs.YtkigmocchaikgabGreatDoor
theorem yavl {a b:V6 Bool}:∀ j,j<6→(orS a b).get j=(a.get j||b.get j):=lt6 rfl rfl rfl rfl rfl rfl
def zci (i:Ins) (A:List (V6 Bool)) (k:Nat):V6 Bool :=
 if i.op=15 then no6 else if i.op=12 then lvAt A (k+1+i.of.toNat) else if zak i then orS (lvAt A (k+1)) (lvAt A (k+1+i.of.toNat)) else lvAt A (k+1)
theorem zjd (a:V6 Bool) (A:List (V6 Bool)) (k:Nat):lvAt (a::A) (k+1)=lvAt A k:=rfl
theorem yado (i:Ins) (a:V6 Bool) (A:List (V6 Bool)):zci i (a::A) 0=yady i A:=by
 unfold zci yady
 rw [show 0+1+i.of.toNat=i.of.toNat+1 by omega,zjd,show 0+1=0+1 from rfl,zjd]
theorem yae0 (i:Ins) (a:V6 Bool) (A:List (V6 Bool)) (k:Nat):zci i (a::A) (k+1)=zci i A k:=by
 unfold zci
 rw [show k+1+1+i.of.toNat=(k+1+i.of.toNat)+1 by omega,zjd,zjd]
theorem zly:∀ L:List Ins,(ridR L).1.length=L.length∧∀ k,k<L.length→elt (ridR L).1 k=zeb (elt L k) (zci (elt L k) (ridR L).2 k)∧lvAt (ridR L).2 k=zfg (elt (ridR L).1 k) (zci (elt L k) (ridR L).2 k)
 | []=>⟨rfl,fun k hk=>absurd hk (by simp)⟩
 | i::l=>by
  obtain ⟨h1,h2⟩:=zly l
  refine ⟨by simp [ridR,h1],fun k hk=>?_⟩
  cases k with
  | zero =>
   have e:zci (elt (i::l) 0) (ridR (i::l)).2 0=yady i (ridR l).2:=yado i _ _
   rw [e]
   exact ⟨rfl,rfl⟩
  | succ k =>
   have e:zci (elt (i::l) (k+1)) (ridR (i::l)).2 (k+1)=zci (elt l k) (ridR l).2 k:=yae0 _ _ _ k
   rw [e]
   exact h2 k (by simpa using hk)
theorem zm7 {i:Ins} {n:Int} {b:V6 Bool} (h:0<n∨i.op=15) (hr:Right i n):Right (zeb i b) n:=by
 unfold zeb
 split
 ·rename_i c
  rw [Bool.and_eq_true,decide_eq_true_eq] at c
  exact zna (h.resolve_right (by omega))
 ·exact hr
theorem yalj {L:List Ins} (hP:RightP L):RightP (ridR L).1:=by
 obtain ⟨h1,h2⟩:=zly L
 have hp:=hP.pos
 refine ⟨by rw [h1];exact hP.pos,by rw [h1];exact hP.le,fun k hk=>?_,?_⟩
 ·rw [h1] at hk ⊢
  show Right (elt (ridR L).1 k) _
  rw [(h2 k hk).1]
  refine zm7 ?_ (zdg hP hk)
  by_cases c:k=L.length - 1
  ·right;rw [c];exact znu hP
  ·left;omega
 ·show (elt (ridR L).1 ((ridR L).1.length - 1)).op=15
  rw [h1,(h2 _ (by omega)).1]
  unfold zeb
  rw [znu hP]
  simp [znu hP]
structure RelM (A:V6 Bool) (m m':Mach):Prop where
 t:m.t=m'.t
 mem:m.mem=m'.mem
 fin:m.fin=m'.fin
 reg:∀ j,j<6→A.get j=true→m.s.get j=m'.s.get j∧m.r.get j=m'.r.get j
theorem RelM.sub {A B:V6 Bool} {m m':Mach} (h:RelM A m m') (hs:∀ j,j<6→B.get j=true→A.get j=true):RelM B m m':=⟨h.t,h.mem,h.fin,fun j hj hb=>h.reg j hj (hs j hj hb)⟩
theorem zib {i:Ins} {n:Int} {b:V6 Bool} {j:Nat} (hr:Right i n) (hj:j<6) (h:b.get j=true) (hd:i.op≤10→j≠i.d.toNat):(zfg i b).get j=true:=by
 unfold zfg
 rw [yavl j hj]
 split
 ·rename_i c
  rw [V6.get_set _ _ _ _ (zbp (zbo hr).1) hj,if_neg (fun e=>hd c e.symm),h]
  cases (zaw i).get j <;> rfl
 ·rw [h];cases (zaw i).get j <;> rfl
theorem RelM.wth {i:Ins} {n:Int} {b:V6 Bool} {m m':Mach} {x:BitVec 64} {o:Int} (hr:Right i n) (h:RelM (zfg i b) m m'):RelM b ((m.wth i.d.toNat x).on o) ((m'.wth i.d.toNat x).on o):=by
 have hd:=zbp (zbo hr).1
 refine ⟨by simp only [Mach.on,Mach.wth];rw [h.t],h.mem,h.fin,fun j hj hb=>?_⟩
 simp only [Mach.on,Mach.wth]
 rw [V6.get_set _ _ _ _ hd hj,V6.get_set _ _ _ _ hd hj,V6.get_set _ _ _ _ hd hj,V6.get_set _ _ _ _ hd hj]
 by_cases c:i.d.toNat=j
 ·rw [if_pos c,if_pos c,if_pos c,if_pos c];exact ⟨rfl,rfl⟩
 ·rw [if_neg c,if_neg c,if_neg c,if_neg c]
  exact h.reg j hj (zib hr hj hb fun _ e=>c e.symm)
theorem RelM.on {i:Ins} {n:Int} {b:V6 Bool} {m m':Mach} {o:Int} (hr:Right i n) (h:RelM (zfg i b) m m') (ho:10<i.op):RelM b (m.on o) (m'.on o) :=
 ⟨by simp only [Mach.on];rw [h.t],h.mem,h.fin,fun j hj hb=>h.reg j hj (zib hr hj hb fun c=>by omega)⟩
theorem RelM.refl (A:V6 Bool) (m:Mach):RelM A m m:=⟨rfl,rfl,rfl,fun _ _ _=>⟨rfl,rfl⟩⟩
structure RelS (A:V6 Bool) (t t':St):Prop where
 live:t.live=t'.live
 reg:∀ j,j<6→A.get j=true→t.s.get j=t'.s.get j∧t.r.get j=t'.r.get j
theorem RelS.refl (A:V6 Bool) (t:St):RelS A t t:=⟨rfl,fun _ _ _=>⟨rfl,rfl⟩⟩
theorem RelS.sub {A B:V6 Bool} {t t':St} (h:RelS A t t') (hs:∀ j,j<6→B.get j=true→A.get j=true):RelS B t t':=⟨h.live,fun j hj hb=>h.reg j hj (hs j hj hb)⟩
theorem RelS.join {A:V6 Bool} {t t' u u':St} (h:RelS A t t') (k:RelS A u u'):RelS A (t.join u) (t'.join u'):=by
 by_cases h1:t.live=true
 ·have h1':t'.live=true:=by rw [← h.live];exact h1
  by_cases h2:u.live=true
  ·have h2':u'.live=true:=by rw [← k.live];exact h2
   obtain ⟨a1,a2⟩:=St.join_live h1 h2
   obtain ⟨b1,b2⟩:=St.join_live h1' h2'
   refine ⟨a1.trans b1.symm,fun j hj hA=>?_⟩
   obtain ⟨x1,x2⟩:=a2 j hj
   obtain ⟨y1,y2⟩:=b2 j hj
   rw [x1,x2,y1,y2,(h.reg j hj hA).1,(h.reg j hj hA).2,(k.reg j hj hA).1,(k.reg j hj hA).2]
   exact ⟨rfl,rfl⟩
  ·have h2':¬ u'.live=true:=by rw [← k.live];exact h2
   unfold St.join
   rw [if_pos h1,if_neg h2,if_pos h1',if_neg h2'];exact h
 ·have h1':¬ t'.live=true:=by rw [← h.live];exact h1
  unfold St.join
  rw [if_neg h1,if_neg h1'];exact k
theorem RelS.wth {i:Ins} {n:Int} {b:V6 Bool} {t t':St} {a:V4} (hr:Right i n) (h:RelS (zfg i b) t t'):RelS b (t.wth i.d.toNat a) (t'.wth i.d.toNat a):=by
 have hd:=zbp (zbo hr).1
 refine ⟨h.live,fun j hj hb=>?_⟩
 rw [St.wth_s hd hj,St.wth_s hd hj,St.wth_r hd hj,St.wth_r hd hj]
 by_cases c:i.d.toNat=j
 ·rw [if_pos c,if_pos c,if_pos c,if_pos c];exact ⟨rfl,rfl⟩
 ·rw [if_neg c,if_neg c,if_neg c,if_neg c]
  exact h.reg j hj (zib hr hj hb fun _ e=>c e.symm)
def RelL (A:List (V6 Bool)) (S S':List St):Prop:=S.length=S'.length∧∀ j,RelS (lvAt A j) (stAt S j) (stAt S' j)
theorem RelL.add {A:List (V6 Bool)} {S S':List St} {k:Nat} {t t':St} (h:RelL A S S') (ht:RelS (lvAt A k) t t'):RelL A (addS S k t) (addS S' k t'):=by
 refine ⟨by rw [zds,zds];exact h.1,fun j=>?_⟩
 rw [zfq,zfq,← ht.live,← h.1]
 by_cases c:t.live=true∧k=j∧k<S.length
 ·rw [if_pos c,if_pos c]
  obtain ⟨_,rfl,_⟩:=c
  exact (h.2 k).join ht
 ·rw [if_neg c,if_neg c];exact h.2 j
end Go.Proofs.YtkigmocchaikgabGreatDoor
namespace Go.Proofs.YtkigmocchaikgabGreatDoor
open Go.RowKit
theorem zfu (A:List (V6 Bool)):(rcell A).length=A.length*6:=zq0 (f:=bcs) (fun _=>rfl) A
theorem ze9 (A:List (V6 Bool)):(rcell A).flatMap AC.ks=[]:=zwt (f:=bcs) (fun _=>rfl) A
theorem zsf {A:List (V6 Bool)} {k:Nat} (h:k<A.length):List.take 6 (List.drop (k*6) (rcell A))=bcs (lvAt A k):=yaha (f:=bcs) (fun _=>rfl) no6 h
theorem zs7 {A:List (V6 Bool)} {k:Nat} (t:V6 Bool) (h:k<A.length):splice (rcell A) (k*6) (bcs t)=rcell (A.set k t):=zqt (f:=bcs) (fun _=>rfl) t h
theorem zp9 (n:Nat):rows n (bcs no6)=rcell (List.replicate n no6):=zm8 (f:=bcs) no6 n
theorem ztz {cs:List AC} {args:List AV} {b:Bool} {r:Nat} (ha:(zev args).all (fun k=>Nat.blt k 1)=true) (hcs:cs.flatMap AC.ks=[]):Begin args [(0,⟨b,cs,r⟩)] 1:=by
 refine ⟨fun v hv k hk=>?_,fun k e he=>?_⟩
 ·have h2:=List.all_eq_true.1 ha k (List.mem_flatMap.2 ⟨v,hv,hk⟩)
  simpa using h2
 ·obtain ⟨rfl,rfl⟩:=zbh he
  exact ⟨by decide,fun c hc j hj=>(ze1 hcs hc hj).elim⟩
theorem zxa {i:Ins} {n:Int} (hr:Right i n) (h:i.op=12∨i.op=13∨i.op=14):0≤i.of∧i.of<n:=by
 rcases h with h | h
 ·exact ⟨(zfm hr h).1,(zfm hr h).2.1⟩
 ·exact (zce hr h).2.2
theorem zrn {i:Ins} {A:List (V6 Bool)} {x c:Nat} (hx:x<A.length) (hA:A.length≤64) (hr:Right i ((A.length - 1 - x:Nat):Int)) (hl:i.op=15∨x+1<A.length) :
  CallOK Tryz.prog ⟨119,[.ag i.cs,.c (.sl 0 (x*6) (A.length - x) c)],[(0,⟨false,rcell A,0⟩)],⟨.ag (bcs (zci i A x)),[],none⟩⟩:=by
 refine zgr Tryz.func119 rfl rfl (ztz rfl (ze9 A)) rfl (fun k en h=>by obtain ⟨_,rfl⟩:=zbh h;rfl) fun w β=>?_
 have c0:=zm3 i
 have n15:(i.op==15)=false→x+1<A.length:=fun h=>by
  rcases hl with h1 | h1
  ·rw [h1] at h;cases h
  ·exact h1
 have hbr:zak i=true→i.op=13∨i.op=14:=fun h=>by unfold zak at h;simpa using h
 have q1:x+1<A.length→decide (1<((A.length - x:Nat):Int))=true∧Nat.ble (x*6+6+6) (rcell A).length=true∧Eff.mk (AV.ag (List.take 6 (List.drop (x*6+6) (rcell A)))) [] none=Eff.mk (AV.ag (bcs (lvAt A (x+1)))) [] none:=fun h=>by
  refine ⟨decide_eq_true (by omega),?_,?_⟩
  ·rw [zfu,Nat.ble_eq];omega
  ·rw [show x*6+6=(x+1)*6 by omega,zsf h]
 have q2:(i.op=12∨i.op=13∨i.op=14)→(decide (0≤1+i.of)&&decide (1+i.of<((A.length - x:Nat):Int)))=true∧Nat.ble (x*6+Int.toNat (1+i.of)*6+6) (rcell A).length=true∧Eff.mk (AV.c (AC.i (IntKind.wrap IntKind.i64 (1+i.of)))) [] none=Eff.mk (AV.c (AC.i (1+i.of))) [] none∧Eff.mk (AV.ag (List.take 6 (List.drop (x*6+Int.toNat (1+i.of)*6) (rcell A)))) [] none=Eff.mk (AV.ag (bcs (lvAt A (x+1+i.of.toNat)))) [] none:=fun h=>by
  obtain ⟨h1,h2⟩:=zxa hr h
  refine ⟨zaa (decide_eq_true (by omega)) (decide_eq_true (by omega)),?_,?_,?_⟩
  ·rw [zfu,Nat.ble_eq];omega
  ·rw [zfj (by omega) (by omega)]
  ·rw [show x*6+Int.toNat (1+i.of)*6=(x+1+i.of.toNat)*6 by omega,zsf (by omega)]
 refine yauy (u:=lvAt A (x+1)) (v:=lvAt A (x+1+i.of.toNat)) (fun a=>?_) (fun a b=>?_) (fun a b d=>?_) (fun a b d=>?_)
 ·have:i.op=15:=by simpa using a
  unfold zci;rw [if_pos this];rfl
 ·have h1:i.op=12:=by simpa using b
  have h0:¬ i.op=15:=by simpa using a
  obtain ⟨f1,f2,f3,f4⟩:=q2 (Or.inl h1)
  exact ⟨f1,f2,f3,f4,by unfold zci;rw [if_neg h0,if_pos h1]⟩
 ·have h1:¬ i.op=12:=by simpa using b
  have h0:¬ i.op=15:=by simpa using a
  obtain ⟨f1,f2,f3,f4⟩:=q2 (Or.inr (hbr d))
  obtain ⟨g1,g2,g3⟩:=q1 (n15 a)
  exact ⟨g1,g2,f1,f2,c0,g3,f3,f4,znf _ _,by unfold zci;rw [if_neg h0,if_neg h1,if_pos d];rfl⟩
 ·have h1:¬ i.op=12:=by simpa using b
  have h0:¬ i.op=15:=by simpa using a
  obtain ⟨g1,g2,g3⟩:=q1 (n15 a)
  exact ⟨g1,g2,c0,g3,by unfold zci;rw [if_neg h0,if_neg h1,if_neg (by rw [d];decide)]⟩
theorem yard {i:Ins} {n:Int} (hr:Right i n):i.op=12∨i.op=15∨(regB i.d=true∧srcB i.s=true):=by
 rcases zkw hr with c | c | c | c | c | c | c | c
 ·have:=zbv hr (Or.inl c);exact Or.inr (Or.inr ⟨this.1,srcB_iff.2 (Or.inr this.2.1)⟩)
 ·have:=zbv hr (Or.inr c);exact Or.inr (Or.inr ⟨this.1,srcB_iff.2 (Or.inr this.2.1)⟩)
 ·exact Or.inl c
 ·have:=zce hr (Or.inl c);exact Or.inr (Or.inr ⟨this.1,this.2.1⟩)
 ·have:=zce hr (Or.inr c);exact Or.inr (Or.inr ⟨this.1,this.2.1⟩)
 ·exact Or.inr (Or.inl c)
 ·have:=ze8 hr (by omega);exact Or.inr (Or.inr ⟨this.1,this.2.1⟩)
 ·have:=ze8 hr (by omega);exact Or.inr (Or.inr ⟨this.1,this.2.1⟩)
theorem yab5 {i:Ins} {n:Int} (hr:Right i n) (h:i.op≤10):regB i.d=true:=by
 by_cases h1:i.op≤9
 ·exact (ze8 hr h1).1
 ·exact (zbv hr (Or.inl (by omega))).1
theorem zwk {i:Ins} {n:Int} (hr:Right i n) (b:V6 Bool):Ok 121 [.ag i.cs,.ag (bcs b)] (.ag (bcs (zfg i b))):=by
 have c1:=zuu (yard hr)
 refine yauv (fun a=>?_) (fun a=>?_)
 ·have h:=of_decide_eq_true a
  have hB:=yab5 hr h
  exact ⟨hB,by rw [zj3 b hB];rfl,zzd i,by rw [yabn b false hB],c1,znf _ _,by unfold zfg;rw [if_pos h];rfl⟩
 ·have h:=of_decide_eq_false a
  exact ⟨zzd i,c1,znf _ _,by unfold zfg;rw [if_neg h];rfl⟩
theorem zqp (p:Int):CallOK Tryz.prog ⟨118,[.c (.i p)],[],⟨.c (.f 163 [0]),[],some (0,⟨true,[.i p],0⟩)⟩⟩ :=
 zla Tryz.func118 rfl rfl rfl rfl rfl fun _ _ hk=>yazx hk
theorem yais {α:Type} {X L:List α} {j:Nat} (d:α) (hX:j<X.length) (hL:j<L.length):(X.take j++L.drop j).set j (X.getD j d)=X.take (j+1)++L.drop (j+1):=by
 have h1:(X.take j).length=j:=by rw [List.length_take];omega
 rw [List.set_append_right _ _ (by omega),h1,Nat.sub_self,List.drop_eq_getElem_cons hL,List.set_cons_zero,List.take_succ_eq_append_getElem hX,List.append_assoc,List.getD_eq_getElem?_getD,List.getElem?_eq_getElem hX]
 rfl
theorem yaqo {α:Type} {X L:List α} {j:Nat} (d:α) (hX:j≤X.length):(X.take j++L.drop j).getD j d=L.getD j d:=by
 have h1:(X.take j).length=j:=by rw [List.length_take];omega
 rw [List.getD_eq_getElem?_getD,List.getD_eq_getElem?_getD,List.getElem?_append_right (by omega),h1,Nat.sub_self,List.getElem?_drop,Nat.add_zero]
theorem yaql {P:Program} {f:FuncId} {fn:Func} {args:List AV} {cs cs' ds:List AC} {v:AV} {r:Nat} (hf:P.funcs[f]?=some fn) (hb:fn.body.isSome=true) (hN:Nat.ble args.length fn.ntmps=true) (ha:(zev args).all (fun k=>Nat.blt k 2)=true) (hcs:cs.flatMap AC.ks=[]) (hds:ds.flatMap AC.ks=[]) (hne:cs≠[]) (hv:v.ks=[]) (hc:cs'.flatMap AC.ks=[])
  (h:∀ w β,EKeys 2 [0] none ⟨v,[(0,cs')],none⟩→ART P f (cx w β 2 [0]) fn.ntmps [.code (zdp fn)] (Kn.start args [(0,⟨true,cs,r⟩),(1,⟨false,ds,0⟩)] 2) (REff w β ⟨v,[(0,cs')],none⟩)):CallOK P ⟨f,args,[(0,⟨true,cs,r⟩),(1,⟨false,ds,0⟩)],⟨v,[(0,cs')],none⟩⟩:=by
 have e:EKeys 2 [0] none ⟨v,[(0,cs')],none⟩:=by
  refine ⟨fun k hk=>?_,fun k cs hm=>?_,fun _ _ h'=>(nomatch h'),fun k h=>?_,fun _ h=>(nomatch h)⟩
  ·simp only at hk;rw [hv] at hk;cases hk
  ·have:=List.mem_singleton.1 hm;injection this with _ h2;subst h2;exact hc
  ·rw [List.mem_singleton.1 h];decide
 have two:∀ {k:Nat} {en:Ent},look [(0,⟨true,cs,r⟩),(1,⟨false,ds,0⟩)] k=some en→(k=0∧en=⟨true,cs,r⟩)∨(k=1∧en=⟨false,ds,0⟩):=fun {k en} he=>by
  rw [zav] at he
  split at he
  ·rename_i hk;injection he with he;exact Or.inl ⟨hk,he.symm⟩
  ·exact Or.inr (zbh he)
 have hB:Begin args [(0,⟨true,cs,r⟩),(1,⟨false,ds,0⟩)] 2:=by
  refine ⟨fun v hv k hk=>?_,fun k e he=>?_⟩
  ·have h2:=List.all_eq_true.1 ha k (List.mem_flatMap.2 ⟨v,hv,hk⟩)
   simpa using h2
  ·rcases two he with ⟨rfl,rfl⟩ | ⟨rfl,rfl⟩
   ·exact ⟨by decide,fun c hc j hj=>(ze1 hcs hc hj).elim⟩
   ·exact ⟨by decide,fun c hc j hj=>(ze1 hds hc hj).elim⟩
 refine zm4 [0] none hf hb hN hB (fun k hk=>?_) (fun _ _ h'=>(nomatch h')) (fun _ h=>(nomatch h)) e (fun k cs' hm=>?_) (fun k en h1 h2=>?_) fun w β _=>h w β e
 ·simp only at hk;rw [hv] at hk;cases hk
 ·have:=List.mem_singleton.1 hm;injection this with h1 h2;subst h1
  exact ⟨⟨true,cs,r⟩,rfl,rfl,hne⟩
 ·rcases two h1 with ⟨rfl,_⟩ | ⟨rfl,rfl⟩
  ·exact List.mem_singleton.2 rfl
  ·cases h2
theorem zlt {L:List Ins} (h:0<L.length):pcell L≠[]:=fun e=>by
 have:=congrArg List.length e
 rw [zau] at this
 simp at this;omega
abbrev f1Kn (L:List Ins) (S:List St) (p r j:Nat):Kn:=⟨[(0,.c (.sx 0 p)),(1,.c (.sl 1 0 p p)),(7,.c (.i ((p:Int) - 1))),(8,.c (.i (j:Int)))],[(0,⟨true,pcell L,r⟩),(1,⟨false,scell S,0⟩)],2⟩
theorem yawk (L:List Ins) (S:List St) (p r j:Nat):Kn.Low (f1Kn L S p r j):=zg2 rfl rfl ⟨zaj L,za9 S,trivial⟩
theorem yaqv {L:List Ins} {S:List St} (hP:RightP L) (hS:S.length=L.length) (hok:∀ j,(stAt S j).Ok) {w:World} {β:Bs} (hk:EKeys 2 [0] none ⟨.tu [],[(0,pcell (zch S L 0))],none⟩):∀ (m j r:Nat),j+m+1=L.length →
  ART Tryz.prog 62 (cx w β 2 [0]) Tryz.f62.ntmps (zdm Tryz.f62 0) (f1Kn ((zch S L 0).take j++L.drop j) S L.length r j) (REff w β ⟨.tu [],[(0,pcell (zch S L 0))],none⟩)
 | 0,j,r,hj=>by
  obtain ⟨hl,hat⟩:=zf8 S L 0
  have e:(zch S L 0).take j++L.drop j=zch S L 0:=by
   have hj':j<L.length:=by omega
   have h1:=hat j
   rw [if_neg (by omega)] at h1
   conv=>rhs;rw [← List.take_append_drop j (zch S L 0)]
   congr 1
   rw [List.drop_eq_getElem_cons hj',List.drop_eq_getElem_cons (by omega:j<(zch S L 0).length),List.drop_of_length_le (by omega),List.drop_of_length_le (by omega)]
   unfold elt at h1
   rw [List.getD_eq_getElem?_getD,List.getD_eq_getElem?_getD,List.getElem?_eq_getElem hj',List.getElem?_eq_getElem (by omega:j<(zch S L 0).length)] at h1
   simp only [Option.getD_some] at h1
   rw [h1]
  rw [e]
  exact yam2 (zaa (by rw [decide_eq_false (by omega)];rfl) rfl) hk
 | m+1,j,r,hj=>by
  obtain ⟨hl,hat⟩:=zf8 S L 0
  have hle:=hP.le
  have hjL:j<L.length:=by omega
  have h1:=hat j
  rw [if_pos (by omega),Nat.zero_add] at h1
  have hlen:((zch S L 0).take j++L.drop j).length=L.length:=by rw [List.length_append,List.length_take,List.length_drop];omega
  have ea:elt ((zch S L 0).take j++L.drop j) j=elt L j:=yaqo _ (by omega)
  have es:((zch S L 0).take j++L.drop j).set j (zfi (elt L j) (stAt S j))=(zch S L 0).take (j+1)++L.drop (j+1):=by
   rw [← h1];exact yais _ (by omega) hjL
  have d1:decide ((j:Int)<(L.length:Int))=true:=jl hjL
  have d2:Nat.ble (Int.toNat (j:Int)*5+5) (pcell ((zch S L 0).take j++L.drop j)).length=true:=by rw [zau,hlen,Nat.ble_eq];omega
  have d3:Nat.ble (0+Int.toNat (j:Int)*31+31) (scell S).length=true:=by rw [zez,Nat.ble_eq];omega
  refine yaem (f:=zfi (elt L j) (stAt S j)) (zaa (decide_eq_true (by omega)) (zaa d1 (zaa d2 (zaa d1 (zaa d3 (zaa d1 (by rw [show List.length (Ins.cs (zfi (elt L j) (stAt S j)))=5 from rfl,d2];rfl))))))) ?_ ?_ ?_ ?_ (by rw [zhx (by omega)]) (zg2 rfl rfl ⟨zaj _,za9 S,trivial⟩) (fun k hk=>hk) ?_
  ·rw [Int.toNat_natCast,zet (by omega),ea]
  ·rw [Int.toNat_natCast];exact zfw (by omega)
  ·rw [ea];exact yajo hP hjL (hok j)
  ·rw [Int.toNat_natCast,ziv _ (by omega)]
  ·rw [es]
   exact yaqv hP hS hok hk m (j+1) 0 (by omega)
theorem yamw {L:List Ins} {S:List St} (hP:RightP L) (hS:S.length=L.length) (hok:∀ j,(stAt S j).Ok):CallOK Tryz.prog ⟨62,[.c (.sx 0 L.length),.c (.sl 1 0 L.length L.length)],[(0,⟨true,pcell L,5⟩),(1,⟨false,scell S,0⟩)],⟨.tu [],[(0,pcell (zch S L 0))],none⟩⟩:=by
 have hpos:=hP.pos
 have hle:=hP.le
 refine yaql Tryz.func62 rfl rfl rfl (zaj L) (za9 S) (zlt hpos) rfl (zaj _) fun w β hk=>yaof (by rw [zfj (by omega) (by omega)]) (yawk _ _ _ _ 0) (fun k hk=>hk) (yaqv hP hS hok hk (L.length - 1) 0 5 (by omega))
def lowH (n:Nat):List (Nat×Ent)→Prop
 | []=>True
 | x::l=>x.1<n∧(∀ c,c∈x.2.cells→∀ j,j∈AC.ks c→j<n)∧lowH n l
theorem ltB {a b:Nat} (h:Nat.blt a b=true):a<b:=by simpa using h
theorem yate {cs:List AC} {n:Nat} (h:cs.flatMap AC.ks=[]):∀ c,c∈cs→∀ j,j∈AC.ks c→j<n:=fun _ hc _ hj=>(ze1 h hc hj).elim
theorem ybag {cs:List AC} {n:Nat} (h:(cs.flatMap AC.ks).all (fun k=>Nat.blt k n)=true):∀ c,c∈cs→∀ j,j∈AC.ks c→j<n:=fun c hc j hj=>by
 simpa using List.all_eq_true.1 h j (List.mem_flatMap.2 ⟨c,hc,hj⟩)
theorem zun {n:Nat}:∀ {H:List (Nat×Ent)} {k:Nat} {e:Ent},lowH n H→look H k=some e→k<n∧∀ c,c∈e.cells→∀ j,j∈AC.ks c→j<n
 | [],_,_,_,h=>by cases h
 | (j,x)::l,k,e,hn,h=>by
  rw [zav] at h
  split at h
  ·rename_i hk;injection h with h;subst h hk;exact ⟨hn.1,hn.2.1⟩
  ·exact zun hn.2.2 h
theorem yba0 {T:List (Nat×AV)} {H:List (Nat×Ent)} {n:Nat} (hT:(T.flatMap fun x=>x.2.ks).all (fun k=>Nat.blt k n)=true) (hH:lowH n H):Kn.Low ⟨T,H,n⟩:=⟨yaxj hT,fun _ _ h=>zun hH h⟩
theorem yaaz {L:List Ins}:∀ (n k:Nat) (S:List St),(verL L n k S).trap=0→verF L n k S=(verL L n k S).sts
 | 0,_,_,_=>rfl
 | n+1,k,S,h=>by
  unfold verL verF at *
  by_cases h0:(zag (elt L k) (stAt S k)).2.2=0
  ·rw [if_pos h0] at h;rw [if_pos h0,if_pos h0]
   exact yaaz n (k+1) _ h
  ·rw [if_neg h0] at h;exact absurd h h0
theorem zhl {L:List Ins} {c:Nat} (hP:RightP L) (K:Nat) (hK:K≠0):CallOK Tryz.prog ⟨12,[.c (.sl 0 0 L.length c)],pH L,voE K L (zar L) (verF L L.length 0 (zey L.length))⟩:=by
 have h2:=(zyn (c:=c) hP).ren (swp 4 K) (zbl 4 K)
 have e0:swp 4 K 0=0:=zfo (by decide) (Ne.symm hK)
 unfold CallRec.ren at h2
 simp only [yah4,zel,zo8 e0] at h2
 refine h2.congr ?_
 show CallRec.mk _ [AV.c (AC.sl 0 0 L.length c)] _ _=CallRec.mk _ [AV.c (AC.sl (swp 4 K 0) 0 L.length c)] _ _
 rw [e0]
theorem zio {L:List Ins} {c:Nat} (hP:RightP L) (h0:(zar L).trap=0) (K:Nat) (hK:K≠0):CallOK Tryz.prog ⟨12,[.c (.sl 0 0 L.length c)],pH L,⟨.ag [.i 0,.i 0,.sl K 0 L.length L.length],[],some (K,⟨true,scell (zar L).sts,0⟩)⟩⟩:=by
 have h:=zhl (c:=c) hP K hK
 have ho:=(zhh hP).none h0
 have e:=yaaz (L:=L) L.length 0 (zey L.length) h0
 change verF L L.length 0 (zey L.length)=(zar L).sts at e
 unfold voE at h
 rw [h0,ho.1,ho.2,e] at h
 exact h
theorem zjr:Ok 36 [] (.ag onI.cs):=yazh
theorem yams {L:List Ins}:Eff.mk (AV.c (AC.sx 4 (0+List.length L))) [] (some (1+1+2,Ent.mk true (List.take 0 (List.drop 0 (rows 0 [AC.i 0,AC.i 0,AC.i 0,AC.u 0#64,AC.i 0]))++List.take (List.length L*5) (List.drop 0 (pcell L))) 5))=Eff.mk (AV.c (AC.sx 4 (List.length L))) [] (some (4,Ent.mk true (pcell L) 5)):=by
 have:List.take (List.length L*5) (List.drop 0 (pcell L))=pcell L:=by rw [List.drop_zero,List.take_of_length_le (by rw [zau];omega)]
 rw [this,Nat.zero_add]
 rfl
theorem yanj {L:List Ins} (hP:RightP L):(Nat.ble (0+List.length L*5) (List.length (pcell L))&&(decide (0+List.length L≤137438953472)&&decide (0<0+List.length L)))=true:=by
 have h1:=hP.pos
 have h2:=hP.le
 rw [zau]
 simp;omega
theorem zks {M:List Ins} {j:Nat} (h:j<M.length):M.set j (elt M j)=M:=by
 unfold elt
 rw [List.getD_eq_getElem?_getD,List.getElem?_eq_getElem h]
 exact List.set_getElem_self h
theorem yad6 {S:List St} {k:Nat} (h:k<S.length):(AC.isB (Option.getD (scell S)[0+Int.toNat (k:Int)*31+0]? (AC.b false))&&Nat.blt (0+Int.toNat (k:Int)*31+0) (List.length (scell S)))=true∧Eff.mk (AV.c (AC.b (AC.asB (Option.getD (scell S)[0+Int.toNat (k:Int)*31+0]? (AC.b false))))) [] none=Eff.mk (AV.c (AC.b (St.live (stAt S k)))) [] none:=by
 have h3:(scell S)[0+Int.toNat (k:Int)*31+0]?=some (AC.b (St.live (stAt S k))):=by
  have h4:=zfw (S:=S) (k:=k) h
  injection h4 with h4
  injection h4 with h4
  injection h4 with h4
  have h5:=congrArg (fun l=>l[0]?) h4
  simp only [List.getElem?_take,List.getElem?_drop] at h5
  rw [if_pos (by decide)] at h5
  rw [Int.toNat_natCast]
  exact h5
 rw [h3]
 refine ⟨?_,rfl⟩
 rw [Bool.and_eq_true]
 exact ⟨rfl,by rw [zez,Nat.blt_eq,Int.toNat_natCast];omega⟩
abbrev foKn (L:List Ins) (c:Nat) (S:List St) (M:List Ins) (j r:Nat):Kn:=⟨[(0,.c (.sl 0 0 L.length c)),(3,.c (.sx 4 L.length)),(4,.c (.w 8)),(5,.c (.i (j:Int)))],[(0,⟨false,pcell L,0⟩),(4,⟨true,pcell M,r⟩),(7,⟨true,scell S,0⟩),(8,⟨true,[.i 0,.i 0,.sl 7 0 L.length L.length],0⟩)],10⟩
theorem zky (L:List Ins) (c:Nat) (S:List St) (M:List Ins) (j r:Nat):Kn.Low (foKn L c S M j r):=yba0 rfl ⟨ltB rfl,yate (zaj L),ltB rfl,yate (zaj M),ltB rfl,yate (za9 S),ltB rfl,ybag rfl,trivial⟩
theorem yaaw {K:Nat} {n:Nat} (L:List Ins) (r:Nat) (hK:1≤K):EKeys 1 [] (some K) ⟨.c (.sx K n),[],some (K,⟨true,pcell L,r⟩)⟩:=by
 refine ⟨fun k hk=>Or.inr ?_,fun _ _ hm=>(nomatch hm),fun k en' h'=>?_,fun _ h=>(nomatch h),fun k h=>⟨?_,rfl⟩⟩
 ·have:k∈[K]:=hk
  rw [List.mem_singleton.1 this]
 ·injection h' with h';injection h' with _ h';subst h';exact zaj L
 ·injection h with h;subst h;exact hK
theorem yaqz {L:List Ins} {c:Nat} {S:List St} (hP:RightP L) (hS:S.length=L.length) (hok:∀ j,(stAt S j).Ok) {w:World} {β:Bs}:∀ (m j r:Nat),j+m+1=L.length →
  ART Tryz.prog 16 (cx w β 1 []) Tryz.f16.ntmps (zdm Tryz.f16 0) (foKn L c S ((zch S L 0).take j++L.drop j) j r) (REff w β (newE 4 L.length (zch S L 0)))
 | 0,j,r,hj=>by
  have hle:=hP.le
  obtain ⟨hl,hat⟩:=zf8 S L 0
  have e:(zch S L 0).take j++L.drop j=zch S L 0:=by
   have hj':j<L.length:=by omega
   have h1:=hat j
   rw [if_neg (by omega)] at h1
   conv=>rhs;rw [← List.take_append_drop j (zch S L 0)]
   congr 1
   rw [List.drop_eq_getElem_cons hj',List.drop_eq_getElem_cons (by omega:j<(zch S L 0).length),List.drop_of_length_le (by omega),List.drop_of_length_le (by omega)]
   unfold elt at h1
   rw [List.getD_eq_getElem?_getD,List.getD_eq_getElem?_getD,List.getElem?_eq_getElem hj',List.getElem?_eq_getElem (by omega:j<(zch S L 0).length)] at h1
   simp only [Option.getD_some] at h1
   rw [h1]
  rw [e]
  exact zzx (yao9 (zaa (by rw [decide_eq_false (by omega)];rfl) rfl) (by rw [zhx (by omega)]) (yaaw _ r (by decide))) fun _ _ h=>zmm h
 | m+1,j,r,hj=>by
  obtain ⟨hl,hat⟩:=zf8 S L 0
  have hle:=hP.le
  have hjL:j<L.length:=by omega
  have h1:=hat j
  rw [if_pos (by omega),Nat.zero_add] at h1
  have hlen:((zch S L 0).take j++L.drop j).length=L.length:=by rw [List.length_append,List.length_take,List.length_drop];omega
  have ea:elt ((zch S L 0).take j++L.drop j) j=elt L j:=yaqo _ (by omega)
  have es:((zch S L 0).take j++L.drop j).set j (zfi (elt L j) (stAt S j))=(zch S L 0).take (j+1)++L.drop (j+1):=by
   rw [← h1];exact yais _ (by omega) hjL
  have eself:=zks (M:=(zch S L 0).take j++L.drop j) (j:=j) (by omega)
  rw [ea] at eself
  have next:=fun r'=>yaqz (c:=c) hP hS hok (w:=w) (β:=β) m (j+1) r' (by omega)
  rw [← es] at next
  generalize (zch S L 0).take j++L.drop j=M at *
  have hr:=zdg hP hjL
  have hreg:=(zbo hr).1
  have hst:=zk4 (i:=elt L j) (t:=stAt S j) (hr.mono (by omega)) (hok j)
  unfold stE at hst
  have hop:=zkw hr
  have d0:decide (((j+1:Nat):Int)<(L.length:Int))=true:=decide_eq_true (by omega)
  have d1:decide ((j:Int)<(L.length:Int))=true:=jl hjL
  have f1:Nat.ble (0+Int.toNat (j:Int)*5+5) (pcell L).length=true:=pble hjL
  have f2:Nat.ble (0+Int.toNat (j:Int)*31+31) (scell S).length=true:=sble (by omega)
  have f3:=zdk hjL
  have f4:Eff.mk (AV.ag (List.take 31 (List.drop (0+Int.toNat (j:Int)*31) (scell S)))) [] none=Eff.mk (AV.ag (St.cs (stAt S j))) [] none:=zfw (by omega)
  obtain ⟨f5,f6⟩:=yad6 (S:=S) (k:=j) (by omega)
  have f7:Eff.mk (AV.c (AC.i (IntKind.wrap IntKind.i64 ((j:Int)+1)))) [] none=Eff.mk (AV.c (AC.i ((j+1:Nat):Int))) [] none:=by rw [zhx (by omega)]
  have g1:Nat.ble (Int.toNat (j:Int)*5+5) (pcell M).length=true:=by rw [zau,hlen,Nat.ble_eq];omega
  have gs:∀ i:Ins,Eff.mk (AV.raw undef) [(4,splice (pcell M) (Int.toNat (j:Int)*5) (Ins.cs i))] none=Eff.mk (AV.raw undef) [(4,pcell (List.set M j i))] none:=fun i=>by rw [Int.toNat_natCast,ziv _ (by omega)]
  have hF:∀ k,(cx w β 1 []).F k→k<10:=fun _ h=>Nat.lt_of_lt_of_le h (by decide)
  have cr:=zdv (elt L j).op
  have cb:=zao (elt L j).op
  by_cases hlv:(stAt S j).live=true
  ·have n0:(!!(stAt S j).live)=true:=by rw [hlv];rfl
   by_cases hrk:(elt L j).op≤9
   ·have b1:(decide (1≤(elt L j).op)&&decide ((elt L j).op≤9))=true:=by
     rw [Bool.and_eq_true]
     exact ⟨decide_eq_true (by omega),decide_eq_true hrk⟩
    have b2:((elt L j).op==13||(elt L j).op==14)=false:=by
     rw [Bool.or_eq_false_iff]
     exact ⟨beq_eq_false_iff_ne.2 (by omega),beq_eq_false_iff_ne.2 (by omega)⟩
    rw [b1] at cr
    rw [b2] at cb
    have ca:=zd0 ((zag (elt L j) (stAt S j)).1.r.get (elt L j).d.toNat)
    by_cases hal:((zag (elt L j) (stAt S j)).1.r.get (elt L j).d.toNat).alone=true
    ·have ef:zfi (elt L j) (stAt S j)=⟨1,(elt L j).d,-1,((zag (elt L j) (stAt S j)).1.r.get (elt L j).d.toNat).l,0⟩:=by
      unfold zfi;rw [if_pos hlv,if_pos (by rw [hal,decide_eq_true hrk];rfl)]
     rw [ef] at next
     rw [hal] at ca
     refine yayw (i:=elt L j) (zaa d0 (zaa d1 (zaa f1 (zaa d1 (zaa f2 (zaa d1 (zaa f5 (zaa n0 (zaa hreg (zaa (zbe _ hreg) (zaa hreg (zaa (zwb _ hreg) (zaa d1 ?_))))))))))))) f7 f3 f4 hst f6 cr (zax _ hreg) ca (zo4 _ hreg) (gs ⟨1,(elt L j).d,-1,((zag (elt L j) (stAt S j)).1.r.get (elt L j).d.toNat).l,0⟩) f7 (zky _ _ _ _ _ _) hF (next 0)
     exact zaa (zaa g1 rfl) rfl
    ·have hal':((zag (elt L j) (stAt S j)).1.r.get (elt L j).d.toNat).alone=false:=by simpa using hal
     have ef:zfi (elt L j) (stAt S j)=elt L j:=by
      have hb:zak (elt L j)=false:=b2
      unfold zfi;rw [if_pos hlv,if_neg (by rw [hal'];simp),if_neg (by rw [hb];simp),if_neg (by rw [hb];simp)]
     rw [ef,eself] at next
     rw [hal'] at ca
     exact yav6 (i:=elt L j) (zaa d0 (zaa d1 (zaa f1 (zaa d1 (zaa f2 (zaa d1 (zaa f5 (zaa n0 (zaa hreg (zaa (zbe _ hreg) rfl)))))))))) f7 f3 f4 hst f6 cr (zax _ hreg) ca cb cb f7 (zky _ _ _ _ _ _) hF (next r)
   ·have b1:(decide (1≤(elt L j).op)&&decide ((elt L j).op≤9))=false:=by
     rw [decide_eq_false hrk,Bool.and_false]
    rw [b1] at cr
    have f0:∀ x,zfi (elt L j) (stAt S j)=x↔(if zak (elt L j)&&!(zag (elt L j) (stAt S j)).2.1.live then onI else if zak (elt L j)&&!(zag (elt L j) (stAt S j)).1.live then ⟨12,0,0,0#64,(elt L j).of⟩ else elt L j)=x:=fun x=>by
     unfold zfi;rw [if_pos hlv,if_neg (by rw [decide_eq_false hrk];simp)]
    by_cases hb:zak (elt L j)=true
    ·have hb':((elt L j).op==13||(elt L j).op==14)=true:=hb
     rw [hb'] at cb
     by_cases hj2:(zag (elt L j) (stAt S j)).2.1.live=true
     ·have n2:(!!(zag (elt L j) (stAt S j)).2.1.live)=true:=by rw [hj2];rfl
      by_cases hj1:(zag (elt L j) (stAt S j)).1.live=true
      ·have n1:(!!(zag (elt L j) (stAt S j)).1.live)=true:=by rw [hj1];rfl
       have ef:=(f0 (elt L j)).2 (by rw [hb,hj2,hj1];rfl)
       rw [ef,eself] at next
       exact yayx (i:=elt L j) (zaa d0 (zaa d1 (zaa f1 (zaa d1 (zaa f2 (zaa d1 (zaa f5 (zaa n0 (zaa n2 (zaa n1 rfl)))))))))) f7 f3 f4 hst f6 cr cb cb f7 (zky _ _ _ _ _ _) hF (next r)
      ·have n1:(!(zag (elt L j) (stAt S j)).1.live)=true:=by simpa using hj1
       have ef:=(f0 ⟨12,0,0,0#64,(elt L j).of⟩).2 (by rw [hb,hj2,n1];rfl)
       rw [ef] at next
       exact yax6 (i:=elt L j) (zaa d0 (zaa d1 (zaa f1 (zaa d1 (zaa f2 (zaa d1 (zaa f5 (zaa n0 (zaa n2 (zaa n1 (zaa d1 (zaa (zaa g1 rfl) rfl)))))))))))) f7 f3 f4 hst f6 cr cb cb (gs ⟨12,0,0,0#64,(elt L j).of⟩) f7 (zky _ _ _ _ _ _) hF (next 0)
     ·have n2:(!(zag (elt L j) (stAt S j)).2.1.live)=true:=by simpa using hj2
      have ef:=(f0 onI).2 (by rw [hb,n2];rfl)
      rw [ef] at next
      exact yay8 (i:=elt L j) (zaa d0 (zaa d1 (zaa f1 (zaa d1 (zaa f2 (zaa d1 (zaa f5 (zaa n0 (zaa n2 (zaa d1 (zaa (zaa g1 rfl) rfl))))))))))) f7 f3 f4 hst f6 cr cb zjr (gs _) f7 (zky _ _ _ _ _ _) hF (next 0)
    ·have hb0:zak (elt L j)=false:=by simpa using hb
     have hb':((elt L j).op==13||(elt L j).op==14)=false:=hb0
     rw [hb'] at cb
     have ef:=(f0 (elt L j)).2 (by rw [hb0];rfl)
     rw [ef,eself] at next
     exact yaww (i:=elt L j) (zaa d0 (zaa d1 (zaa f1 (zaa d1 (zaa f2 (zaa d1 (zaa f5 (zaa n0 rfl)))))))) f7 f3 f4 hst f6 cr cb cb f7 (zky _ _ _ _ _ _) hF (next r)
  ·have n0:(!(stAt S j).live)=true:=by simpa using hlv
   have ef:zfi (elt L j) (stAt S j)=onI:=by unfold zfi;rw [if_neg hlv]
   rw [ef] at next
   exact yayf (i:=elt L j) (zaa d0 (zaa d1 (zaa f1 (zaa d1 (zaa f2 (zaa d1 (zaa f5 (zaa n0 (zaa d1 (zaa (zaa g1 rfl) rfl)))))))))) f7 f3 f4 hst f6 zjr (gs _) f7 (zky _ _ _ _ _ _) hF (next 0)
theorem yale {L:List Ins} {c:Nat} (hP:RightP L) {K:Nat} (hK:K≠0):CallOK Tryz.prog ⟨16,[.c (.sl 0 0 L.length c)],pH L,newE K L.length (zei L)⟩:=by
 have hpos:=hP.pos
 have hout:=zhh hP
 refine yaig (a:=4) ?_ (by decide) hK
 by_cases h0:(zar L).trap=0
 ·have e:zei L=zch (zar L).sts L 0:=by unfold zei;rw [if_pos h0]
  rw [e]
  exact zcs Tryz.func16 rfl rfl rfl (zaj L) (by decide) rfl (zaj _) fun w β _=>yamq (zaa (yanj hP) rfl) yams (zio hP h0 7 (by decide)) (zky _ _ _ _ 0 _) (fun _ h=>Nat.lt_of_lt_of_le h (by decide)) (yaqz hP (hout.none h0).2 hout.ok (L.length - 1) 0 5 (by omega))
 ·have e:zei L=L:=by unfold zei;rw [if_neg h0]
  rw [e]
  exact zje (r:=5) (zcs Tryz.func16 rfl rfl rfl (zaj L) (by decide) rfl (zaj _) fun w β hk=>yarz (zaa (yanj hP) (zaa (by simpa using h0) rfl)) yams (zhl hP 7 (by decide)) hk)
theorem yabz {α:Type} {A B:List α} {x:Nat} (d:α) (hA:x<A.length) (hB:x<B.length):(A.take (x+1)++B.drop (x+1)).set x (B.getD x d)=A.take x++B.drop x:=by
 have h1:(A.take x).length=x:=by rw [List.length_take];omega
 rw [List.take_succ_eq_append_getElem hA,List.append_assoc,List.set_append_right _ _ (by omega),h1,Nat.sub_self,List.drop_eq_getElem_cons hB,List.getD_eq_getElem?_getD,List.getElem?_eq_getElem hB]
 rfl
theorem yaom {α:Type} {A B:List α} {m j:Nat} (d:α) (hA:m≤A.length) (h:j<m):(A.take m++B.drop m).getD j d=A.getD j d:=by
 have h1:(A.take m).length=m:=by rw [List.length_take];omega
 rw [List.getD_eq_getElem?_getD,List.getD_eq_getElem?_getD,List.getElem?_append_left (by omega),List.getElem?_take_of_lt h]
theorem yahm {α:Type} {A B:List α} {m j:Nat} (d:α) (hA:m≤A.length) (h:m≤j):(A.take m++B.drop m).getD j d=B.getD j d:=by
 have h1:(A.take m).length=m:=by rw [List.length_take];omega
 rw [List.getD_eq_getElem?_getD,List.getD_eq_getElem?_getD,List.getElem?_append_right (by omega),h1,List.getElem?_drop,show m+(j - m)=j by omega]
theorem zse:∀ L:List Ins,(ridR L).2.length=L.length
 | []=>rfl
 | _::L=>by
  show (ridR L).2.length+1=L.length+1
  rw [zse L]
theorem zw4 {i:Ins} {A B:List (V6 Bool)} {k:Nat} (h:∀ j,k+1≤j→lvAt A j=lvAt B j):zci i A k=zci i B k:=by
 unfold zci
 rw [h (k+1) (Nat.le_refl _),h (k+1+i.of.toNat) (by omega)]
def zsx (s:List Ins×List (V6 Bool)) (x:Nat):List Ins×List (V6 Bool) :=
 (s.1.set x (zeb (elt s.1 x) (zci (elt s.1 x) s.2 x)),s.2.set x (zfg (zeb (elt s.1 x) (zci (elt s.1 x) s.2 x)) (zci (elt s.1 x) s.2 x)))
structure DOk (n:Nat) (s:List Ins×List (V6 Bool)):Prop where
 l1:s.1.length=n
 l2:s.2.length=n
 right:∀ k,k<n→Right (elt s.1 k) ((n - 1 - k:Nat):Int)
 last:∀ k,k<n→(elt s.1 k).op=15∨k+1<n
theorem DOk.start {L:List Ins} (hP:RightP L):DOk L.length (L,List.replicate L.length no6):=by
 refine ⟨rfl,List.length_replicate,fun k hk=>hP.step k hk,fun k hk=>?_⟩
 by_cases h:k+1<L.length
 ·exact Or.inr h
 ·have:k=L.length - 1:=by omega
  subst this
  exact Or.inl hP.last
theorem znh {L:List Ins} {x k:Nat} {i:Ins} (hx:x<L.length):elt (L.set x i) k=if k=x then i else elt L k:=by
 unfold elt
 rw [List.getD_eq_getElem?_getD,List.getD_eq_getElem?_getD,List.getElem?_set]
 by_cases h:x=k
 ·subst h;rw [if_pos rfl,if_pos hx,if_pos rfl];rfl
 ·rw [if_neg h,if_neg (Ne.symm h)]
theorem DOk.step {n:Nat} {s:List Ins×List (V6 Bool)} (h:DOk n s) {x:Nat} (hx:x<n):DOk n (zsx s x):=by
 have hr:=h.right x hx
 have hl:=h.last x hx
 refine ⟨?_,?_,fun k hk=>?_,fun k hk=>?_⟩
 ·show (s.1.set _ _).length=n;rw [List.length_set];exact h.l1
 ·show (s.2.set _ _).length=n;rw [List.length_set];exact h.l2
 ·show Right (elt (s.1.set _ _) k) _
  rw [znh (by rw [h.l1];exact hx)]
  by_cases e:k=x
  ·subst e
   rw [if_pos rfl]
   refine zm7 ?_ hr
   rcases hl with h1 | h1
   ·exact Or.inr h1
   ·exact Or.inl (by omega)
  ·rw [if_neg e];exact h.right k hk
 ·show (elt (s.1.set _ _) k).op=15∨_
  rw [znh (by rw [h.l1];exact hx)]
  by_cases e:k=x
  ·subst e
   rw [if_pos rfl]
   rcases hl with h1 | h1
   ·refine Or.inl ?_
    unfold zeb
    rw [if_neg (by simp [h1])]
    exact h1
   ·exact Or.inr h1
  ·rw [if_neg e];exact h.last k hk
def runD (L:List Ins) (pre:List Nat):List Ins×List (V6 Bool):=pre.foldl zsx (L,List.replicate L.length no6)
theorem zns (L:List Ins) (pre:List Nat) (x:Nat):runD L (pre++[x])=zsx (runD L pre) x:=by unfold runD;rw [List.foldl_append];rfl
theorem yai1 {L:List Ins} (hP:RightP L):∀ pre:List Nat,(∀ x,x∈pre→x<L.length)→DOk L.length (runD L pre):=by
 have:∀ (pre:List Nat) (s:List Ins×List (V6 Bool)),DOk L.length s→(∀ x,x∈pre→x<L.length)→DOk L.length (pre.foldl zsx s):=by
  intro pre
  induction pre with
  | nil=>intro s h _;exact h
  | cons x pre ih=>intro s h hx;exact ih _ (h.step (hx x (by simp))) fun y hy=>hx y (by simp [hy])
 exact fun pre h=>this pre _ (DOk.start hP) h
theorem zvq {L:List Ins}:∀ k,k≤L.length→runD L ((List.range k).map fun j=>L.length - 1 - j)=(L.take (L.length - k)++(ridR L).1.drop (L.length - k),(List.replicate L.length no6).take (L.length - k)++(ridR L).2.drop (L.length - k))
 | 0,_=>by
  obtain ⟨h1,_⟩:=zly L
  show (L,List.replicate L.length no6)=_
  rw [Nat.sub_zero,List.drop_of_length_le (by omega),List.drop_of_length_le (by rw [zse];omega),List.append_nil,List.append_nil,List.take_of_length_le (Nat.le_refl _),List.take_of_length_le (by rw [List.length_replicate];omega)]
 | k+1,hk=>by
  obtain ⟨h1,h2⟩:=zly L
  have hl:=zse L
  rw [List.range_succ,List.map_append,List.map_cons,List.map_nil,zns,zvq k (by omega)]
  have e:L.length - k=(L.length - (k+1))+1:=by omega
  have e2:L.length - 1 - k=L.length - (k+1):=by omega
  rw [e,e2]
  have hx:L.length - (k+1)<L.length:=by omega
  generalize L.length - (k+1)=x at *
  obtain ⟨g1,g2⟩:=h2 x hx
  have a1:elt (L.take (x+1)++(ridR L).1.drop (x+1)) x=elt L x:=yaom _ (by omega) (by omega)
  have a2:∀ i,zci i ((List.replicate L.length no6).take (x+1)++(ridR L).2.drop (x+1)) x=zci i (ridR L).2 x:=fun i=>zw4 fun j hj=>yahm _ (by rw [List.length_replicate];omega) hj
  unfold zsx
  simp only [a1,a2]
  rw [← g1,← g2]
  exact Prod.ext (yabz _ (by omega) (by omega)) (yabz _ (by rw [List.length_replicate];omega) (by omega))
theorem yabo (L:List Ins):(runD L ((List.range L.length).map fun j=>L.length - 1 - j)).1=(ridR L).1:=by
 rw [zvq L.length (Nat.le_refl _),Nat.sub_self]
 rfl
def useL (i:Ins):List Int :=
 if i.op=12 then [] else if i.op=15 then [0] else if i.op=1∨i.op=10 then (if i.s=-1 then [] else [i.s]) else if i.s=-1 then [i.d] else [i.d,i.s]
def setL (U:List Int) (u:V6 Bool):V6 Bool:=U.foldl (fun u d=>u.set d.toNat true) u
theorem yalt {a b:V6 Bool}:∀ d,d<6→orS (a.set d true) b=(orS a b).set d true :=
 lt6 (by simp [orS,V6.set]) (by simp [orS,V6.set]) (by simp [orS,V6.set]) (by simp [orS,V6.set]) (by simp [orS,V6.set]) (by simp [orS,V6.set])
theorem yaro (b:V6 Bool):orS no6 b=b:=rfl
structure UseOk (i:Ins):Prop where
 nil:useL i=[]→Ok 37 [.ag i.cs] (.c zco)
 some:useL i≠[]→∀ K,CallOK Tryz.prog ⟨37,[.ag i.cs],[],⟨.c (.sx K (useL i).length),[],some (K,⟨true,(useL i).map AC.i,1⟩)⟩⟩
 reg:∀ d,d∈useL i→regB d=true
 le:(useL i).length≤2
 same:∀ u,orS (zaw i) u=setL (useL i) u
theorem yaxt {i:Ins} {n:Int} (hr:Right i n):UseOk i:=by
 have hg:=zbo hr
 have hd:=hg.1
 have so:i.s≠-1→regB i.s=true:=fun h=>(srcB_iff.1 hg.2).resolve_left h
 have one:∀ d,regB d=true→useL i=[d]→zaw i=(no6).set d.toNat true→(∀ K,CallOK Tryz.prog ⟨37,[.ag i.cs],[],⟨.c (.sx K 1),[],some (K,⟨true,[.i d],1⟩)⟩⟩)→UseOk i:=fun d h1 h2 h3 h4=>by
  refine ⟨fun h=>(by rw [h2] at h;cases h),fun _ K=>(by rw [h2];exact h4 K),?_,by rw [h2];simp,fun u=>?_⟩
  ·rw [h2];exact mem1 h1
  ·rw [h2,h3,yalt _ (zbp h1),yaro];rfl
 have two:regB i.s=true→useL i=[i.d,i.s]→zaw i=((no6).set i.d.toNat true).set i.s.toNat true→(∀ K,CallOK Tryz.prog ⟨37,[.ag i.cs],[],⟨.c (.sx K 2),[],some (K,⟨true,[.i i.d,.i i.s],1⟩)⟩⟩)→UseOk i:=fun h1 h2 h3 h4=>by
  refine ⟨fun h=>(by rw [h2] at h;cases h),fun _ K=>(by rw [h2];exact h4 K),?_,by rw [h2];simp,fun u=>?_⟩
  ·rw [h2];exact mem2 hd h1
  ·rw [h2,h3,yalt _ (zbp h1),yalt _ (zbp hd),yaro];rfl
 have none:useL i=[]→zaw i=no6→Ok 37 [.ag i.cs] (.c zco)→UseOk i:=fun h2 h3 h4=>by
  refine ⟨fun _=>h4,fun h=>absurd h2 h,?_,by rw [h2];simp,fun u=>?_⟩
  ·rw [h2];exact fun _ h=>(nomatch h)
  ·rw [h2,h3,yaro];rfl
 have ds:((2≤i.op∧i.op≤9)∨i.op=13∨i.op=14)→UseOk i:=fun c=>by
  by_cases hs:i.s=-1
  ·refine one i.d hd ?_ (yab0 c hs) fun K=>?_
   ·unfold useL;rw [if_neg (by omega),if_neg (by omega),if_neg (by omega),if_pos hs]
   ·have:=zls (op:=i.op) (d:=i.d) (of:=i.of) (im:=i.im) K c
    rw [← hs] at this
    exact this
  ·refine two (so hs) ?_ (zkc (by omega) hs) fun K=>zhg K (by omega) hs
   unfold useL;rw [if_neg (by omega),if_neg (by omega),if_neg (by omega),if_neg hs]
 rcases zkw hr with c | c | c | c | c | c | c | c
 ·obtain ⟨_,hs,_,_⟩:=zbv hr (Or.inl c)
  have hn:i.s≠-1:=fun e=>by rw [e] at hs;cases hs
  refine one i.s hs ?_ (yabk (Or.inr c) hn) fun K=>zlo K (Or.inr c) hn
  unfold useL;rw [if_neg (by omega),if_neg (by omega),if_pos (Or.inr c),if_neg hn]
 ·obtain ⟨_,hs,_,_⟩:=zbv hr (Or.inr c)
  have hn:i.s≠-1:=fun e=>by rw [e] at hs;cases hs
  refine two hs ?_ (zkc (by omega) hn) fun K=>zhg K (by omega) hn
  unfold useL;rw [if_neg (by omega),if_neg (by omega),if_neg (by omega),if_neg hn]
 ·refine none (by unfold useL;rw [if_pos c]) (by unfold zaw;rw [if_pos c]) ?_
  have:=zrf (d:=i.d) (s:=i.s) (of:=i.of) (im:=i.im)
  rw [← c] at this
  exact this
 ·exact ds (by omega)
 ·exact ds (by omega)
 ·refine one 0 rfl (by unfold useL;rw [if_neg (by omega),if_pos c]) (by unfold zaw;rw [if_neg (by omega),if_pos c];rfl) fun K=>?_
  have:=yabp (d:=i.d) (s:=i.s) (of:=i.of) (im:=i.im) K
  rw [← c] at this
  exact this
 ·by_cases hs:i.s=-1
  ·refine none (by unfold useL;rw [if_neg (by omega),if_neg (by omega),if_pos (Or.inl c),if_pos hs]) (by unfold zaw;rw [if_neg (by omega),if_neg (by omega),if_pos hs,if_pos (Or.inl c)]) ?_
   have:=yabi (d:=i.d) (of:=i.of) (im:=i.im)
   rw [← hs,← c] at this
   exact this
  ·refine one i.s (so hs) ?_ (yabk (Or.inl c) hs) fun K=>zlo K (Or.inl c) hs
   unfold useL;rw [if_neg (by omega),if_neg (by omega),if_pos (Or.inl c),if_neg hs]
 ·exact ds (Or.inl c)
theorem yase {A:List (V6 Bool)} {k x:Nat} (hk:k<A.length) (hx:x<6):(AC.isB (Option.getD (rcell A)[0+k*6+Int.toNat (x:Int)*1]? (AC.b false))&&Nat.blt (0+k*6+Int.toNat (x:Int)*1) (List.length (rcell A)))=true∧Eff.mk (AV.c (AC.b (AC.asB (Option.getD (rcell A)[0+k*6+Int.toNat (x:Int)*1]? (AC.b false))))) [] none=Eff.mk (AV.c (AC.b ((lvAt A k).get x))) [] none:=by
 have h1:(rcell A)[0+k*6+Int.toNat (x:Int)*1]?=some (AC.b ((lvAt A k).get x)):=by
  have h4:=congrArg (fun l=>l[x]?) (zsf (A:=A) hk)
  simp only [List.getElem?_take,List.getElem?_drop] at h4
  rw [if_pos hx] at h4
  rw [Nat.zero_add,Int.toNat_natCast,Nat.mul_one,h4]
  revert x
  intro x hx _
  exact lt6 (P:=fun x=>(bcs (lvAt A k))[x]?=some (AC.b ((lvAt A k).get x))) rfl rfl rfl rfl rfl rfl x hx
 rw [h1]
 refine ⟨?_,rfl⟩
 rw [Bool.and_eq_true]
 exact ⟨rfl,by rw [zfu,Nat.blt_eq,Int.toNat_natCast];omega⟩
theorem zo6 (u:V6 Bool) {j:Int} (h:regB j=true):Eff.mk (AV.c (AC.b (AC.asB (Option.getD (bcs u)[Int.toNat j*1]? (AC.b false))))) [] none=Eff.mk (AV.c (AC.b (u.get j.toNat))) [] none :=
 zb8 (P:=fun j=>Eff.mk (AV.c (AC.b (AC.asB (Option.getD (bcs u)[Int.toNat j*1]? (AC.b false))))) [] none=Eff.mk (AV.c (AC.b (u.get j.toNat))) [] none) h rfl rfl rfl rfl rfl rfl
theorem zh6 (K:Nat) (u:V6 Bool) {j:Int} (x:Bool) (h:regB j=true):Eff.mk (AV.raw undef) [(K,splice (bcs u) (Int.toNat j*1) [AC.b x])] none=Eff.mk (AV.raw undef) [(K,bcs (V6.set u (Int.toNat j) x))] none:=by rw [yabn u x h]
theorem zxy {x:Nat} (h:x<6):regB (x:Int)=true:=regB_iff.2 ⟨by omega,by omega⟩
theorem get_set (u:V6 Bool) (g:Bool):∀ x,x<6→(u.set x g).get x=g:=lt6 rfl rfl rfl rfl rfl rfl
theorem set_set (u:V6 Bool) (g h:Bool):∀ x,x<6→(u.set x g).set x h=u.set x h:=lt6 rfl rfl rfl rfl rfl rfl
abbrev yah5 (L M:List Ins) (A:List (V6 Bool)) (r:Nat) (q:Int):Kn:=⟨[(3,.c (.sx 4 L.length)),(4,.c (.sl 12 0 L.length L.length)),(5,.c (.i q))],[(0,⟨false,pcell L,0⟩),(4,⟨true,pcell M,r⟩),(12,⟨true,rcell A,0⟩)],14⟩
abbrev yadl (L M:List Ins) (A:List (V6 Bool)) (r j:Nat) (i:Ins) (x:Int) (u:V6 Bool):Kn:=⟨[(3,.c (.sx 4 L.length)),(4,.c (.sl 12 0 L.length L.length)),(5,.c (.i (j:Int))),(6,.c (.w 20)),(7,.c (.w 22)),(8,.c (.i x))],[(0,⟨false,pcell L,0⟩),(4,⟨true,pcell M,r⟩),(12,⟨true,rcell A,0⟩),(20,⟨true,i.cs,0⟩),(22,⟨true,bcs u,0⟩)],24⟩
abbrev ybai (L M:List Ins) (A:List (V6 Bool)) (r j:Nat) (u:V6 Bool):Kn:=⟨[(3,.c (.sx 4 L.length)),(4,.c (.sl 12 0 L.length L.length)),(5,.c (.i (j:Int))),(7,.c (.w 22)),(9,.c zco),(10,.c (.i 0))],[(0,⟨false,pcell L,0⟩),(4,⟨true,pcell M,r⟩),(12,⟨true,rcell A,0⟩),(22,⟨true,bcs u,0⟩)],45⟩
abbrev zo0 (K:Nat) (L M:List Ins) (A:List (V6 Bool)) (r j:Nat) (u:V6 Bool) (U:List Int) (x:Nat):Kn:=⟨[(3,.c (.sx 4 L.length)),(4,.c (.sl 12 0 L.length L.length)),(5,.c (.i (j:Int))),(7,.c (.w 22)),(9,.c (.sx K U.length)),(10,.c (.i (x:Int)))],[(0,⟨false,pcell L,0⟩),(4,⟨true,pcell M,r⟩),(12,⟨true,rcell A,0⟩),(22,⟨true,bcs u,0⟩),(K,⟨true,U.map AC.i,1⟩)],45⟩
theorem zkl (L M:List Ins) (A:List (V6 Bool)) (r:Nat) (q:Int):Kn.Low (yah5 L M A r q):=zg2 rfl rfl ⟨zaj L,zaj M,ze9 A,trivial⟩
theorem zir (L M:List Ins) (A:List (V6 Bool)) (r j:Nat) (i:Ins) (x:Int) (u:V6 Bool):Kn.Low (yadl L M A r j i x u):=zg2 rfl rfl ⟨zaj L,zaj M,ze9 A,rfl,rfl,trivial⟩
theorem zw8 (L M:List Ins) (A:List (V6 Bool)) (r j:Nat) (u:V6 Bool):Kn.Low (ybai L M A r j u):=zg2 rfl rfl ⟨zaj L,zaj M,ze9 A,rfl,trivial⟩
theorem zvd (L M:List Ins) (A:List (V6 Bool)) (r j:Nat) (u:V6 Bool) (U:List Int) (x:Nat):Kn.Low (zo0 39 L M A r j u U x):=zg2 rfl rfl ⟨zaj L,zaj M,ze9 A,rfl,zr0 U,trivial⟩
theorem zvt (L M:List Ins) (A:List (V6 Bool)) (r j:Nat) (u:V6 Bool) (U:List Int) (x:Nat):Kn.Low (zo0 30 L M A r j u U x):=zg2 rfl rfl ⟨zaj L,zaj M,ze9 A,rfl,zr0 U,trivial⟩
section
variable {L M:List Ins} {A:List (V6 Bool)} {w:World} {β:Bs} {R:Ending→World→Prop}
abbrev DA (w:World) (β:Bs) (k:Nat) (σ:Kn) (R:Ending→World→Prop):Prop:=ART Tryz.prog 15 (cx w β 1 []) Tryz.f15.ntmps (zdm Tryz.f15 k) σ R
theorem de_F {n:Nat} (h:1≤n):∀ k,(cx w β 1 []).F k→k<n:=fun _ hk=>Nat.lt_of_lt_of_le hk h
theorem ybax {r j:Nat} {i:Ins} {v:V6 Bool} (hM:L.length≤64) (hA:A.length=L.length) (hj:j<L.length) (hr:Right i ((L.length - 1 - j:Nat):Int)) (hl:i.op=15∨j+1<L.length) (hv:v=zci i A j)
  (z:DA w β 1 (yadl L M A r j i 6 v) R):DA w β 1 (yadl L M A r j i 0 no6) R:=by
 have w1:∀ x:Nat,x<6→Eff.mk (AV.c (AC.i (IntKind.wrap IntKind.i64 ((x:Int)+1)))) [] none=Eff.mk (AV.c (AC.i ((x+1:Nat):Int))) [] none:=fun x hx=>by rw [zhx (by omega)]
 have wj:Eff.mk (AV.c (AC.i (IntKind.wrap IntKind.i64 ((j:Int)+1)))) [] none=Eff.mk (AV.c (AC.i ((j+1:Nat):Int))) [] none:=by rw [zhx (by omega)]
 have d6:∀ x:Nat,x<6→decide ((x:Int)<6)=true:=fun x hx=>decide_eq_true (by omega)
 have cb:=zao i.op
 have key:∀ f:Nat→Bool→Bool,(∀ (x:Nat) (u:V6 Bool),x<6→DA w β 1 (yadl L M A r j i ((x+1:Nat):Int) (u.set x (f x (u.get x)))) R→DA w β 1 (yadl L M A r j i (x:Int) u) R)→(⟨f 0 false,f 1 false,f 2 false,f 3 false,f 4 false,f 5 false⟩:V6 Bool)=v→DA w β 1 (yadl L M A r j i 0 no6) R:=by
  intro f hf hv'
  subst hv'
  exact hf 0 no6 (by decide) (hf 1 _ (by decide) (hf 2 _ (by decide) (hf 3 _ (by decide) (hf 4 _ (by decide) (hf 5 _ (by decide) z)))))
 by_cases h15:i.op=15
 ·have hb:(i.op==13||i.op==14)=false:=by rw [h15];rfl
  rw [hb] at cb
  refine key (fun _ b=>b) (fun x u hx z=>?_) ?_
  ·have e:u.set x (u.get x)=u:=lt6 (P:=fun x=>u.set x (u.get x)=u) rfl rfl rfl rfl rfl rfl x hx
   rw [e] at z
   exact yatx (zaa (d6 x hx) (zaa (by rw [h15];rfl) (zaa (zay (by omega)) rfl))) cb (w1 x hx) (zir _ _ _ _ _ _ _ _) (de_F (by decide)) z
  ·rw [hv];unfold zci;rw [if_pos h15];rfl
 ·have hj1:j+1<L.length:=hl.resolve_left h15
  have n15:(i.op != 15)=true:=by simpa using h15
  have dj:decide (((j+1:Nat):Int)<(L.length:Int))=true:=decide_eq_true (by omega)
  have a1:∀ x:Nat,x<6→_:=fun x hx=>yase (A:=A) (k:=j+1) (x:=x) (by omega) hx
  by_cases h12:i.op=12
  ·obtain ⟨o1,o2⟩:=zxa hr (Or.inl h12)
   have ex:(((j+1:Nat):Int)+i.of).toNat=j+1+i.of.toNat:=by omega
   have hk:j+1+i.of.toNat<L.length:=by omega
   have wo:Eff.mk (AV.c (AC.i (IntKind.wrap IntKind.i64 (((j+1:Nat):Int)+i.of)))) [] none=Eff.mk (AV.c (AC.i (((j+1:Nat):Int)+i.of))) [] none:=by rw [zfj (by omega) (by omega)]
   have dk:(decide (0≤((j+1:Nat):Int)+i.of)&&decide (((j+1:Nat):Int)+i.of<(L.length:Int)))=true:=zaa (decide_eq_true (by omega)) (decide_eq_true (by omega))
   have n12:(!i.op != 12)=true:=by rw [h12];rfl
   refine key (fun x b=>b||(lvAt A (j+1+i.of.toNat)).get x) (fun x u hx z=>?_) ?_
   ·have hx':=zxy hx
    have a2:=yase (A:=A) (k:=j+1+i.of.toNat) (x:=x) (by omega) hx
    rw [← ex] at a2
    by_cases hg:u.get x=true
    ·rw [hg,Bool.true_or] at z
     exact yaod (g2:=u.get x) (zaa (d6 x hx) (zaa n15 (zaa n12 (zaa (zfe h12) (zaa (d6 x hx) (zaa (zn9 u hx') (zaa hg (zaa (d6 x hx) (zaa (zaa (zj3 u hx') rfl) rfl))))))))) (zo6 u hx') (zh6 22 u true hx') (w1 x hx) (zir _ _ _ _ _ _ _ _) (de_F (by decide)) z
    ·have hg':u.get x=false:=by simpa using hg
     rw [hg',Bool.false_or] at z
     exact yamv (g2:=u.get x) (zaa (d6 x hx) (zaa n15 (zaa n12 (zaa (zfe h12) (zaa (d6 x hx) (zaa (zn9 u hx') (zaa (by rw [hg'];rfl) (zaa dk (zaa (d6 x hx) (zaa a2.1 (zaa (d6 x hx) (zaa (zaa (zj3 u hx') rfl) rfl)))))))))))) (zo6 u hx') wj wo a2.2 (zh6 22 u _ hx') (w1 x hx) (zir _ _ _ _ _ _ _ _) (de_F (by decide)) (by rw [ex];exact z)
   ·rw [hv];unfold zci;rw [if_neg h15,if_pos h12];rfl
  ·have n12:(i.op != 12)=true:=by simpa using h12
   by_cases hb:zak i=true
   ·have hb':(i.op==13||i.op==14)=true:=hb
    rw [hb'] at cb
    have hop:i.op=13∨i.op=14:=by simpa using hb'
    obtain ⟨o1,o2⟩:=zxa hr (Or.inr hop)
    have ex:(((j+1:Nat):Int)+i.of).toNat=j+1+i.of.toNat:=by omega
    have hk:j+1+i.of.toNat<L.length:=by omega
    have wo:Eff.mk (AV.c (AC.i (IntKind.wrap IntKind.i64 (((j+1:Nat):Int)+i.of)))) [] none=Eff.mk (AV.c (AC.i (((j+1:Nat):Int)+i.of))) [] none:=by rw [zfj (by omega) (by omega)]
    have dk:(decide (0≤((j+1:Nat):Int)+i.of)&&decide (((j+1:Nat):Int)+i.of<(L.length:Int)))=true:=zaa (decide_eq_true (by omega)) (decide_eq_true (by omega))
    refine key (fun x _=>(lvAt A (j+1)).get x||(lvAt A (j+1+i.of.toNat)).get x) (fun x u hx z=>?_) ?_
    ·have hx':=zxy hx
     have a0:=a1 x hx
     have a2:=yase (A:=A) (k:=j+1+i.of.toNat) (x:=x) (by omega) hx
     rw [← ex] at a2
     have e2:=get_set u ((lvAt A (j+1)).get x) x hx
     have b4:Eff.mk (AV.c (AC.b (AC.asB (Option.getD (bcs (V6.set u x ((lvAt A (j+1)).get x)))[Int.toNat (x:Int)*1]? (AC.b false))))) [] none=Eff.mk (AV.c (AC.b ((lvAt A (j+1)).get x))) [] none:=(zo6 (V6.set u x ((lvAt A (j+1)).get x)) hx').trans (by rw [Int.toNat_natCast,e2])
     have b5:∀ g,Eff.mk (AV.raw undef) [(22,splice (bcs (V6.set u x ((lvAt A (j+1)).get x))) (Int.toNat (x:Int)*1) [AC.b g])] none=Eff.mk (AV.raw undef) [(22,bcs (u.set x g))] none:=fun g=>(zh6 22 (V6.set u x ((lvAt A (j+1)).get x)) g hx').trans (by rw [Int.toNat_natCast,set_set _ _ _ x hx])
     by_cases hg:(lvAt A (j+1)).get x=true
     ·rw [hg,Bool.true_or] at z
      exact yaoy (zaa (d6 x hx) (zaa n15 (zaa n12 (zaa dj (zaa (d6 x hx) (zaa a0.1 (zaa (d6 x hx) (zaa (zaa (zj3 u hx') rfl) (zaa (zay h12) (zaa (d6 x hx) (zaa (zn9 _ hx') (zaa hg (zaa (d6 x hx) (zaa (zaa (zj3 _ hx') rfl) rfl)))))))))))))) wj a0.2 (zh6 22 u _ hx') cb b4 (b5 true) (w1 x hx) (zir _ _ _ _ _ _ _ _) (de_F (by decide)) z
     ·have hg':(lvAt A (j+1)).get x=false:=by simpa using hg
      rw [hg',Bool.false_or] at z
      exact yamp (zaa (d6 x hx) (zaa n15 (zaa n12 (zaa dj (zaa (d6 x hx) (zaa a0.1 (zaa (d6 x hx) (zaa (zaa (zj3 u hx') rfl) (zaa (zay h12) (zaa (d6 x hx) (zaa (zn9 _ hx') (zaa (by rw [hg'];rfl) (zaa dk (zaa (d6 x hx) (zaa a2.1 (zaa (d6 x hx) (zaa (zaa (zj3 _ hx') rfl) rfl))))))))))))))))) wj a0.2 (zh6 22 u _ hx') cb b4 wj wo a2.2 (b5 _) (w1 x hx) (zir _ _ _ _ _ _ _ _) (de_F (by decide)) (by rw [ex];exact z)
    ·rw [hv];unfold zci;rw [if_neg h15,if_neg h12,if_pos hb];rfl
   ·have hb0:zak i=false:=by simpa using hb
    have hb':(i.op==13||i.op==14)=false:=hb0
    rw [hb'] at cb
    refine key (fun x _=>(lvAt A (j+1)).get x) (fun x u hx z=>?_) ?_
    ·have hx':=zxy hx
     have a0:=a1 x hx
     exact yasz (zaa (d6 x hx) (zaa n15 (zaa n12 (zaa dj (zaa (d6 x hx) (zaa a0.1 (zaa (d6 x hx) (zaa (zaa (zj3 u hx') rfl) (zaa (zay h12) rfl))))))))) wj a0.2 (zh6 22 u _ hx') cb (w1 x hx) (zir _ _ _ _ _ _ _ _) (de_F (by decide)) z
    ·rw [hv];unfold zci;rw [if_neg h15,if_neg h12,if_neg hb];rfl
theorem yavh {K r j:Nat} {U:List Int} (hround:∀ (u:V6 Bool) (x:Nat),x<U.length→DA w β 2 (zo0 K L M A r j (u.set (U.getD x 0).toNat true) U (x+1)) R→DA w β 2 (zo0 K L M A r j u U x) R):∀ (n x:Nat) (u:V6 Bool),x+n=U.length →
  DA w β 2 (zo0 K L M A r j (setL (U.drop x) u) U U.length) R→DA w β 2 (zo0 K L M A r j u U x) R
 | 0,x,u,hx,z=>by
  obtain rfl:x=U.length:=by omega
  rw [List.drop_of_length_le (Nat.le_refl _)] at z
  exact z
 | n+1,x,u,hx,z=>by
  refine hround u x (by omega) (yavh hround n (x+1) _ (by omega) ?_)
  rw [List.drop_eq_getElem_cons (by omega:x<U.length)] at z
  rw [List.getD_eq_getElem?_getD,List.getElem?_eq_getElem (by omega:x<U.length)]
  exact z
theorem zlm {U:List Int} {x:Nat} (h:x<U.length):(AC.isI (Option.getD (U.map AC.i)[Int.toNat (x:Int)*1]? (AC.b false))&&Nat.blt (Int.toNat (x:Int)*1) (List.length (U.map AC.i)))=true∧Eff.mk (AV.c (AC.i (AC.asI (Option.getD (U.map AC.i)[Int.toNat (x:Int)*1]? (AC.b false))))) [] none=Eff.mk (AV.c (AC.i (U.getD x 0))) [] none:=by
 have hg:(U.map AC.i)[Int.toNat (x:Int)*1]?=some (.i (U.getD x 0)):=by
  rw [Int.toNat_natCast,Nat.mul_one,List.getElem?_map,List.getD_eq_getElem?_getD,List.getElem?_eq_getElem h];rfl
 rw [hg]
 refine ⟨?_,rfl⟩
 rw [Bool.and_eq_true]
 exact ⟨rfl,by rw [List.length_map,Nat.blt_eq];omega⟩
theorem yalz {U:List Int} {x:Nat} (h:x<U.length):U.getD x 0∈U:=by
 rw [List.getD_eq_getElem?_getD,List.getElem?_eq_getElem h];exact List.getElem_mem h
theorem ybap {r j:Nat} {U:List Int} (h2:U.length≤2) (hU:∀ d,d∈U→regB d=true) (u:V6 Bool) (z:DA w β 2 (zo0 39 L M A r j (setL U u) U U.length) R):DA w β 2 (zo0 39 L M A r j u U 0) R:=by
 refine yavh (fun u x hx z=>?_) U.length 0 u (by omega) (by rw [List.drop_zero];exact z)
 have hd:=hU _ (yalz hx)
 have d0:decide ((x:Int)<(U.length:Int))=true:=decide_eq_true (by omega)
 exact yaic (zaa d0 (zaa d0 (zaa (zlm hx).1 (zaa hd (zaa (zaa (zj3 u hd) rfl) rfl))))) (zlm hx).2 (zh6 22 u true hd) (by rw [zhx (by omega)]) (zvd _ _ _ _ _ _ _ _) (de_F (by decide)) z
theorem ybab {r j:Nat} {U:List Int} (h2:U.length≤2) (hU:∀ d,d∈U→regB d=true) (u:V6 Bool) (z:DA w β 2 (zo0 30 L M A r j (setL U u) U U.length) R):DA w β 2 (zo0 30 L M A r j u U 0) R:=by
 refine yavh (fun u x hx z=>?_) U.length 0 u (by omega) (by rw [List.drop_zero];exact z)
 have hd:=hU _ (yalz hx)
 have d0:decide ((x:Int)<(U.length:Int))=true:=decide_eq_true (by omega)
 exact yahh (zaa d0 (zaa d0 (zaa (zlm hx).1 (zaa hd (zaa (zaa (zj3 u hd) rfl) rfl))))) (zlm hx).2 (zh6 22 u true hd) (by rw [zhx (by omega)]) (zvt _ _ _ _ _ _ _ _) (de_F (by decide)) z
theorem zv2 {K j:Nat} {u:V6 Bool} (hA:A.length=L.length) (hj:j<L.length):Eff.mk (AV.raw undef) [(K,splice (rcell A) (0+Int.toNat (j:Int)*6) (bcs u))] none=Eff.mk (AV.raw undef) [(K,rcell (List.set A j u))] none:=by rw [Int.toNat_natCast,Nat.zero_add,zs7 u (by omega)]
theorem zu8 {j:Nat} {u:V6 Bool} (hA:A.length=L.length) (hj:j<L.length):(decide ((j:Int)<(L.length:Int))&&(Nat.ble (0+Int.toNat (j:Int)*6+List.length (bcs u)) (List.length (rcell A))&&true&&true))=true:=by
 have h:Nat.ble (0+j*6+6) (A.length*6)=true:=by rw [Nat.ble_eq];omega
 rw [zfu,jl hj,show List.length (bcs u)=6 from rfl,Int.toNat_natCast,h];rfl
theorem yaw2 {j:Nat} (hM:L.length≤64) (hj:j<L.length):Eff.mk (AV.c (AC.i (IntKind.wrap IntKind.i64 ((j:Int) - 1)))) [] none=Eff.mk (AV.c (AC.i ((j:Int) - 1))) [] none:=by rw [zfj (by omega) (by omega)]
theorem yat6 {r j:Nat} (hM:L.length≤64) (hs:DOk L.length (M,A)) (hj:j<L.length) (z:∀ r',DA w β 0 (yah5 L (zsx (M,A) j).1 (zsx (M,A) j).2 r' ((j:Int) - 1)) R):DA w β 0 (yah5 L M A r (j:Int)) R:=by
 have l1:M.length=L.length:=hs.l1
 have l2:A.length=L.length:=hs.l2
 have hr:Right (elt M j) ((L.length - 1 - j:Nat):Int):=hs.right j hj
 have hl:(elt M j).op=15∨j+1<L.length:=hs.last j hj
 have z:∀ r',DA w β 0 (yah5 L (M.set j (zeb (elt M j) (zci (elt M j) A j))) (A.set j (zfg (zeb (elt M j) (zci (elt M j) A j)) (zci (elt M j) A j))) r' ((j:Int) - 1)) R:=z
 have eself:=zks (M:=M) (j:=j) (by omega)
 have e0:Eff.mk (AV.ag (List.take 5 (List.drop (Int.toNat (j:Int)*5) (pcell M)))) [] none=Eff.mk (AV.ag (Ins.cs (elt M j))) [] none:=by rw [Int.toNat_natCast,zet (by omega)]
 have g1:Nat.ble (Int.toNat (j:Int)*5+5) (pcell M).length=true:=by rw [zau,Nat.ble_eq];omega
 refine yax9 (i:=elt M j) (zaa (jl hj) (zaa g1 rfl)) e0 (zir _ _ _ _ _ _ 0 no6) (de_F (by decide)) (ybax hM l2 hj hr hl rfl ?_)
 have hu:=yaxt hr
 have hd:=(zbo hr).1
 have h1:1≤(elt M j).op:=by rcases zkw hr with c | c | c | c | c | c | c | c <;> omega
 have cw:=zcb (elt M j).op 1 10
 have wj:=yaw2 hM hj
 generalize hb:zci (elt M j) A j=b at *
 generalize hi:elt M j=i at *
 have nl:∀ {p:Nat},(!decide ((p:Int)<(p:Int)))=true:=fun {p}=>by rw [decide_eq_false (by omega)];rfl
 by_cases hop:i.op≤10
 ·have b1:(decide (1≤i.op)&&decide (i.op≤10))=true:=by rw [decide_eq_true h1,decide_eq_true hop];rfl
  rw [b1] at cw
  by_cases hg:b.get i.d.toNat=true
  ·have ed:zeb i b=i:=by unfold zeb;rw [if_neg (by rw [hg];simp)]
   have el:zfg i b=setL (useL i) (b.set i.d.toNat false):=by unfold zfg;rw [if_pos hop,hu.same]
   rw [ed,el,eself] at z
   have hh:(decide (0≤i.d)&&decide (i.d<6)&&(AC.isB (Option.getD (bcs b)[Int.toNat i.d*1]? (AC.b false))&&Nat.blt (Int.toNat i.d*1) (List.length (bcs b))&&(!!b.get i.d.toNat&&(decide (0≤i.d)&&decide (i.d<6)&&(Nat.ble (Int.toNat i.d*1+1) (List.length (bcs b))&&true&&true)))))=true:=zaa hd (zaa (zn9 b hd) (zaa (by rw [hg];rfl) (zaa hd (zaa (zaa (zj3 b hd) rfl) rfl))))
   by_cases hn:useL i=[]
   ·rw [hn] at z
    exact yamu hh cw (zo6 b hd) (zh6 22 b false hd) (hu.nil hn) (zw8 _ _ _ _ _ _) (de_F (by decide)) (zrw (zu8 l2 hj) (zv2 l2 hj) wj (zkl _ _ _ _ _) (de_F (by decide)) (z r))
   ·exact yaoz hh cw (zo6 b hd) (zh6 22 b false hd) (hu.some hn 39) (zvd _ _ _ _ _ _ _ 0) (de_F (by decide)) (ybap hu.le hu.reg _ (yagm (zaa nl (zu8 l2 hj)) (zv2 l2 hj) wj (zkl _ _ _ _ _) (de_F (by decide)) (z r)))
  ·have hg':b.get i.d.toNat=false:=by simpa using hg
   have ed:zeb i b=onI:=by unfold zeb;rw [if_pos (by rw [hg',decide_eq_true hop];rfl)]
   have el:zfg onI b=b:=rfl
   rw [ed,el] at z
   have e3:Eff.mk (AV.raw undef) [(4,splice (pcell M) (Int.toNat (j:Int)*5) (Ins.cs onI))] none=Eff.mk (AV.raw undef) [(4,pcell (List.set M j onI))] none:=by rw [Int.toNat_natCast,ziv _ (by omega)]
   have e4:Eff.mk (AV.ag (List.take 5 (List.drop (Int.toNat (j:Int)*5) (pcell (List.set M j onI))))) [] none=Eff.mk (AV.ag (Ins.cs onI)) [] none:=by rw [Int.toNat_natCast,zet (by rw [List.length_set];omega),znh (by omega),if_pos rfl]
   have g2:Nat.ble (Int.toNat (j:Int)*5+5) (pcell (M.set j onI)).length=true:=by rw [zau,List.length_set,Nat.ble_eq];omega
   exact yasu (zaa hd (zaa (zn9 b hd) (zaa (by rw [hg'];rfl) (zaa (jl hj) (zaa (zaa g1 rfl) (zaa (jl hj) (zaa g2 rfl))))))) cw (zo6 b hd) zjr e3 e4 zrf (zw8 _ _ _ _ _ _) (de_F (by decide)) (zrw (zu8 l2 hj) (zv2 l2 hj) wj (zkl _ _ _ _ _) (de_F (by decide)) (z 0))
 ·have b1:(decide (1≤i.op)&&decide (i.op≤10))=false:=by rw [decide_eq_false hop,Bool.and_false]
  rw [b1] at cw
  have ed:zeb i b=i:=by unfold zeb;rw [if_neg (by rw [decide_eq_false hop];simp)]
  have el:zfg i b=setL (useL i) b:=by unfold zfg;rw [if_neg hop,hu.same]
  rw [ed,el,eself] at z
  by_cases hn:useL i=[]
  ·rw [hn] at z
   exact yamg cw (hu.nil hn) (zw8 _ _ _ _ _ _) (de_F (by decide)) (zrw (zu8 l2 hj) (zv2 l2 hj) wj (zkl _ _ _ _ _) (de_F (by decide)) (z r))
  ·exact yann cw (hu.some hn 30) (zvt _ _ _ _ _ _ _ 0) (de_F (by decide)) (ybab hu.le hu.reg _ (yalp (zaa nl (zu8 l2 hj)) (zv2 l2 hj) wj (zkl _ _ _ _ _) (de_F (by decide)) (z r)))
end
theorem yap8 {L:List Ins} (hP:RightP L) {w:World} {β:Bs}:∀ (n k r:Nat),k+n=L.length →
  DA w β 0 (yah5 L (runD L ((List.range k).map fun j=>L.length - 1 - j)).1 (runD L ((List.range k).map fun j=>L.length - 1 - j)).2 r ((n:Int) - 1)) (REff w β (newE 4 L.length (ridR L).1))
 | 0,k,r,hk=>by
  obtain rfl:k=L.length:=by omega
  rw [yabo]
  exact zzx (yapo (yaaw _ r (by decide))) fun _ _ h=>zmm h
 | n+1,k,r,hk=>by
  have hs:=yai1 hP ((List.range k).map fun j=>L.length - 1 - j) (fun x hx=>by obtain ⟨y,hy,rfl⟩:=List.mem_map.1 hx;have:=List.mem_range.1 hy;omega)
  have next:=fun r'=>yap8 hP (w:=w) (β:=β) n (k+1) r' (by omega)
  rw [List.range_succ,List.map_append,List.map_cons,List.map_nil,zns] at next
  have e:((n+1:Nat):Int) - 1=(n:Int):=by omega
  have e2:L.length - 1 - k=n:=by omega
  rw [e2] at next
  rw [e]
  generalize runD L ((List.range k).map fun j=>L.length - 1 - j)=s at *
  obtain ⟨M,A⟩:=s
  exact yat6 hP.le hs (by omega) next
theorem yaiu {L:List Ins} {c:Nat} (hP:RightP L) {K:Nat} (hK:K≠0):CallOK Tryz.prog ⟨15,[.c (.sl 0 0 L.length c)],pH L,newE K L.length (ze4 L)⟩:=by
 have hpos:=hP.pos
 have hle:=hP.le
 refine yaig (a:=4) ?_ (by decide) hK
 by_cases h0:(zar L).trap=0
 ·have e:ze4 L=(ridR L).1:=by unfold ze4;rw [if_pos h0]
  rw [e]
  refine zcs Tryz.func15 rfl rfl rfl (zaj L) (by decide) rfl (zaj _) fun w β _=>yamr (zaa (yanj hP) ?_) yams (zio hP h0 7 (by decide)) ?_ (by rw [zfj (by omega) (by omega)]) (zkl _ _ _ _ _) (fun _ h=>Nat.lt_of_lt_of_le h (by decide)) (yap8 hP L.length 0 5 (by omega))
  ·simp;omega
  ·rw [Int.toNat_natCast]
   have:=zp9 L.length
   unfold bcs no6 at this
   rw [this]
   rfl
 ·have e:ze4 L=L:=by unfold ze4;rw [if_neg h0]
  rw [e]
  exact zje (r:=5) (zcs Tryz.func15 rfl rfl rfl (zaj L) (by decide) rfl (zaj _) fun w β hk=>yau4 (zaa (yanj hP) (zaa (by simpa using h0) rfl)) yams (zhl hP 7 (by decide)) hk)
section
variable {L L2 L3 L4:List Ins} {c p n q:Nat} {w:World} {β:Bs} {S S2 S3:List St} {s s1:ByteArray} {x y:BitVec 64} {r1:Outc} {e f tr t1 n1:Int}
theorem yap7 (c0:CO 61 [.c (.sl 0 0 p c),.c (.f 62 [])] [(0,Ent.mk false (pcell L) 0)] (Eff.mk (.tu [.c (.sx 4 p),.c (.i 0)]) [] (some (4,Ent.mk true (pcell L2) 0)))) (hk:EKeys n [] (some 4) ⟨.tu [.c (.sx 4 p),.c (.i 0)],[],some (4,Ent.mk true (pcell L2) 0)⟩) :
  BO 25 Tryz.f25 (cx w β n []) [.c (.sl 0 0 p c)] [(0,Ent.mk false (pcell L) 0)] 1 (REff w β ⟨.tu [.c (.sx 4 p),.c (.i 0)],[],some (4,Ent.mk true (pcell L2) 0)⟩) :=
 zah [] (some 4) [] ([]) [] Tryz.func25 hk (by kernel_rfl) rfl (zab c0 zae)
theorem yaq7 (c0:CO 61 [.c (.sl 0 0 p c),.c (.f 64 [])] [(0,Ent.mk false (pcell L) 0)] (Eff.mk (.tu [.c (.sx 4 p),.c (.i 0)]) [] (some (4,Ent.mk true (pcell L2) 0)))) (hk:EKeys n [] (some 4) ⟨.tu [.c (.sx 4 p),.c (.i 0)],[],some (4,Ent.mk true (pcell L2) 0)⟩) :
  BO 26 Tryz.f26 (cx w β n []) [.c (.sl 0 0 p c)] [(0,Ent.mk false (pcell L) 0)] 1 (REff w β ⟨.tu [.c (.sx 4 p),.c (.i 0)],[],some (4,Ent.mk true (pcell L2) 0)⟩) :=
 zah [] (some 4) [] ([]) [] Tryz.func26 hk (by kernel_rfl) rfl (zab c0 zae)
theorem ybaa (c0:CO 65 [.c (.sx 0 p)] [(0,Ent.mk true (pcell L) 5)] (Eff.mk (.tu []) [(0,pcell L2)] none)) (hk:EKeys n [0] none ⟨.tu [],[(0,pcell L2)],none⟩) :
  BO 64 Tryz.f64 (cx w β n [0]) [.c (.sx 0 p),.c (.sl 1 0 p p)] [(0,Ent.mk true (pcell L) 5),(1,Ent.mk false (scell S) 0)] 2 (REff w β ⟨.tu [],[(0,pcell L2)],none⟩) :=
 zah [0] none [] ([]) [] Tryz.func64 hk (by kernel_rfl) rfl (zab c0 zae)
end
abbrev FW (ro:Option Nat):Fence:={ Fence.wide with round:=ro }
def zoo (ops:Array Oper):Bool:=ops.toList.all fun o=>match o.op with
 | .defer _=>false
 | _=>true
theorem zp1 {ops:Array Oper} (h:zoo ops=true) {i:Nat} {o:Oper} (ho:ops[i]?=some o):∀ c,o.op≠.defer c:=by
 intro c hc
 have hm:o∈ops.toList:=by
  obtain ⟨hi,rfl⟩:=Array.getElem?_eq_some_iff.1 ho
  simp
 have:=List.all_eq_true.1 h o hm
 rw [hc] at this
 cases this
theorem yawc {ro:Option Nat} {ρ:Operand→Value} {o:Oper} (h:∀ c,o.op≠.defer c):Oper.semAt ro ρ o=execOp ρ o:=by
 cases ro with
 | none=>rfl
 | some l=>exact Oper.semAt_some l ρ o h
theorem yaoi {ro:Option Nat} {n:Nat} {P:Program} {f:FuncId} {args:Array Value} {w:World} {R:Ending→World→Prop} (h:Calls P f args w R):CallsIn (FW ro) n P f args w R:=(callsIn_wide (n:=n)).2 h
theorem yas8 {ro:Option Nat} {n:Nat} {P:Program} {o:Oper} {a:Act} {next:Act→World→Prop} {Q:Exit→Act→World→Prop} {r:Result Next} (h:o.upon P a next Q r):o.uponIn (FW ro) n P a next Q r:=by
 unfold Oper.upon at h
 split at h
 ·exact h
 ·exact h
 ·exact h
 ·exact ⟨fun h=>(by cases h),yaoi h⟩
 ·exact ⟨fun h=>(by cases h),fun c cs _=>let ⟨v,w',r,s⟩:=h c cs;⟨v,w',r,stepsIn_wide.2 s⟩⟩
 ·exact h
 ·exact h.elim
theorem yav2 {ro:Option Nat} {n:Nat} {P:Program} {o:Oper} {a:Act} {w:World} {next:Act→World→Prop} {Q:Exit→Act→World→Prop} (hd:∀ c,o.op≠.defer c) (h:o.wp P a w next Q):o.wpIn (FW ro) n P a w next Q:=by
 refine ⟨fun _ _=>trivial,?_⟩
 rw [yawc hd]
 exact yas8 h
theorem yaad {ro:Option Nat} {n:Nat} {P:Program} {ops:Array Oper} {Q:Exit→Act→World→Prop} (hd:zoo ops=true) (hq:¬ LetsOut Q):∀ (l:List Nat) (a:Act) (w:World),wpOps P ops Q l a w→wpOpsIn (FW ro) n P ops Q l a w
 | [],_,_,h=>h
 | i::l,a,w,h=>by
  simp only [wpOps] at h
  simp only [wpOpsIn]
  cases ho:ops[i]? with
  | none=>rw [ho] at h;exact yaad hd hq l a w h
  | some o =>
   rw [ho] at h
   simp only at h ⊢
   by_cases hw:Region.wanted o (yielded ops a.tmps)=true
   ·rw [if_pos hw] at h ⊢
    rcases h with h | h
    ·exact yav2 (zp1 hd ho) (Oper.wp_mono (fun a w=>yaad hd hq l a w) h)
    ·exact (hq h.2).elim
   ·rw [if_neg hw] at h ⊢
    exact ⟨fun _ _=>trivial,yaad hd hq l _ w h⟩
theorem yacg {ro:Option Nat} {n:Nat} {P:Program} {md:Region.Mode} {ops:Array Oper} {Q:Exit→Act→World→Prop} (hd:zoo ops=true) (hq:¬ LetsOut Q):∀ (m:Nat) (listed:Array Bool) (a:Act) (w:World),wpAny P md ops Q m listed a w→wpAnyIn (FW ro) n P md ops Q m listed a w
 | 0,_,_,_,h=>h
 | m+1,listed,a,w,h=>by
  refine ⟨h.1,fun i hi=>?_⟩
  have h:=h.2 i hi
  unfold wpOp at h
  unfold wpOpIn
  cases ho:ops[i]? with
  | none=>rw [ho] at h;exact yacg hd hq m _ a w h
  | some o =>
   rw [ho] at h
   simp only at h ⊢
   by_cases hw:Region.wanted o (yielded ops a.tmps)=true
   ·rw [if_pos hw] at h ⊢
    rcases h with h | h
    ·exact yav2 (zp1 hd ho) (Oper.wp_mono (fun a w=>yacg hd hq m _ a w) h)
    ·exact (hq h.2).elim
   ·rw [if_neg hw] at h ⊢
    exact ⟨fun _ _=>trivial,yacg hd hq m _ _ w h⟩
theorem yamc {P:Program} {N base:Nat} {rs:List Nat} {ops:Array Oper} {σ:Kn} {hs:List Eff} {ds:List Bool} {r:Drw} {Q:Exit→Act→World→Prop} {C:Cx} {β:Bs} {a:Act} {w:World}
  (h:zkt P N base rs ops 0 ops.toList σ hs ds=some r) (hok:allB r.ok=true) (hcr:∀ q,q∈r.cr→ObOK P q) (hB:Region.lexB .any ops=true) (hA:zd9 0 ops.toList r.E=true) (hr:Rel C N β (fun k=>k<base) σ a w)
  (hQ:∀ β' a' w',Rel C N β' (fun k=>k<base+ops.size) r.σ a' w'→Q .normal a' w'):wpAny P .any ops Q ops.size (Array.replicate ops.size false) a { w with drawn:=w.drawn+1 }:=by
 obtain ⟨hlen,hspec⟩:=zh8 h hok hcr
 have hsz:r.E.length=ops.size:=by simpa using hlen
 let E:Nat→Kn×Eff:=fun i=>r.E.getD i (σ,⟨zpn,[],none⟩)
 have hget:∀ i o,ops[i]?=some o→r.E[i]?=some (E i):=by
  intro i o ho
  have hi:i<ops.size:=by
   rcases Nat.lt_or_ge i ops.size with h3 | h3
   ·exact h3
   ·simp [Array.getElem?_eq_none h3] at ho
  simp only [E,List.getD_eq_getElem?_getD,List.getElem?_eq_getElem (show i<r.E.length by omega),Option.getD_some]
 have hlist:∀ i o,ops[i]?=some o→ops.toList[i]?=some o:=fun i o ho=>by rw [Array.getElem?_toList];exact ho
 have hE:∀ i o,ops[i]?=some o→(∃ σ',(E i).1=foot ops o σ')∧yag5 P N ops o (E i).1 (E i).2∧∀ j cs,(E i).2.nw=some (j,cs)→j=base+i:=by
  intro i o ho
  obtain ⟨o',σ',h1,h2,h3,h4⟩:=hspec i _ (hget i o ho)
  rw [hlist i o ho] at h1
  injection h1 with h1
  subst h1
  exact ⟨⟨σ',h2⟩,h3,fun j cs hn=>by rw [h4 j cs hn];omega⟩
 simp only [Region.lexB,Bool.and_eq_true] at hB
 have hr':Rel C N β (zmi base (Array.replicate ops.size false)) σ a { w with drawn:=w.drawn+1 }:=by
  have h1:=hr.mono (S':=zmi base (Array.replicate ops.size false)) fun k hk=>Or.inl hk
  exact ⟨h1.size,h1.defers,h1.tmp,fun k e he=>⟨(h1.blk k e he).1,⟨(h1.blk k e he).2.1.lt,(h1.blk k e he).2.1.cell,(h1.blk k e he).2.1.free,(h1.blk k e he).2.1.room⟩,(h1.blk k e he).2.2⟩,h1.inj,⟨h1.frame.os,h1.frame.tape,h1.frame.output,h1.frame.size,h1.frame.block⟩,h1.fix,⟨h1.gd.now.keep (Nat.le_refl _) (fun _ _=>rfl),h1.gd.x,h1.gd.size⟩⟩
 have hany:=zxf (P:=P) (N:=N) (base:=base) (ops:=ops) (E:=E) (fun i o ho=>(hE i o ho).1)
  (fun i j oi oj hi hj hlt=>by
   have:=zgf hA i j _ _ (hget i oi hi) (hget j oj hj) hlt
   simp only [Nat.zero_add] at this
   exact this)
  ops.toList 0 (Array.replicate ops.size false) σ hs ds r (by simp) (by simpa using hB.2) h
  (fun m x hx=>by simp only [Nat.zero_add,E,List.getD_eq_getElem?_getD,hx,Option.getD_some]) (fun j hj=>by omega) (fun j _ hj=>by simp [hj])
 have hEn:∀ i j cs,(E i).2.nw=some (j,cs)→j=base+i:=by
  intro i j cs hn
  rcases Nat.lt_or_ge i ops.size with h3 | h3
  ·exact (hE i ops[i] (by simp [h3])).2.2 j cs hn
  ·simp only [E,List.getD_eq_getElem?_getD,List.getElem?_eq_none (show r.E.length≤i by omega),Option.getD_none] at hn
   cases hn
 have:=AAny.sound (P:=P) (Q:=Q) (C:=C) (fun i o ho=>(hE i o ho).2.1) hEn ops.toList.length (Array.replicate ops.size false) σ β a _ (by simp) hany hr' hQ
 simpa using this
def yamo (C:Cx) (N:Nat) (σ:Kn) (e:Exit) (a:Act) (w:World):Prop:=e=.normal∧∃ β,Rel C N β (fun k=>k < σ.n) σ a w
theorem zo1 {C:Cx} {N:Nat} {σ:Kn}:¬ LetsOut (yamo C N σ):=fun ⟨_,_,h,_⟩=>by cases h
theorem yagc {P:Program} {N id:Nat} {rs:List Nat} {ops:Array Oper} {dr:Bool} {σ:Kn} {hs:List Eff} {ds:List Bool} {q:Seq} (h:zmk P N rs ops dr σ hs ds=some q) (hok:allB q.ok=true) (hcr:∀ c,c∈q.cr→ObOK P c) (hd:zoo ops=true)
  {C:Cx} {β:Bs} {a:Act} {w:World} {ro:Option Nat} {n:Nat} (hr:Rel C N β (fun k=>k < σ.n) σ a w):(Code.region id ops dr).wpIn (FW ro) n P (yamo C N q.σ) a w:=by
 unfold zmk at h
 cases dr with
 | false =>
  simp only at h
  split at h
  ·rename_i r hrr
   injection h with h;subst h
   refine wpIn_region (yaad hd zo1 _ _ _ ?_)
   have:=zgx (P:=P) (N:=N) (base:=σ.n) (rs:=rs) (ops:=ops) (Q:=yamo C N { r.σ with n:=σ.n+ops.size }) ops.toList 0 σ hs ds r β a w (by simp) hrr hok hcr (by simpa using hr)
    (fun β' a' w' hr'=>⟨rfl,β',by simpa using hr'.setn (σ.n+ops.size)⟩)
   simpa [List.range_eq_range'] using this
  ·cases h
 | true =>
  simp only at h
  split at h
  ·rename_i r hrr
   cases hc:(Region.lexB .any ops&&zd9 0 ops.toList r.E&&P.follows .mixedOrders) with
   | false=>rw [hc] at h;cases h
   | true =>
    rw [hc] at h
    simp only [cond_true,Option.some.injEq] at h
    subst h
    simp only [Bool.and_eq_true] at hc
    exact wpIn_region_any hc.2 (yacg hd zo1 _ _ _ _ (yamc hrr hok hcr hc.1.1 hc.1.2 hr (fun β' a' w' hr'=>⟨rfl,β',hr'.setn _⟩)))
  ·cases h
def quiet:Code→Bool
 | .skip=>true
 | .seq x y=>quiet x&&quiet y
 | .block _ c=>quiet c
 | .cond _ x y=>quiet x&&quiet y
 | .region _ ops _=>zoo ops
 | _=>false
structure Left (P:Program) (fn:Func) (N:Nat) (rw:List (Nat×Nat)) (C:Cx) (k:List Item) (st:List Bool) (out:Out) (e:Exit) (a:Act) (w:World):Prop where
 e:e=.normal
 go:∃ β σ m hs ds r,Rel C N β (fun k=>k < σ.n) σ a w∧runT P fn N rw m k σ hs ds st=some r∧r.out=out∧allB r.ok=true∧∀ c,c∈r.cr→ObOK P c
theorem zqu {P:Program} {fn:Func} {N:Nat} {rw:List (Nat×Nat)} {C:Cx} {ro:Option Nat} {n:Nat} {st:List Bool}:∀ (c:Code) (k:List Item) (m:Nat) (σ:Kn) (hs:List Eff) (ds:List Bool) (r:Run) (β:Bs) (a:Act) (w:World),quiet c=true →
  runT P fn N rw m (.code c::k) σ hs ds st=some r→allB r.ok=true→(∀ c,c∈r.cr→ObOK P c)→Rel C N β (fun k=>k < σ.n) σ a w→c.wpIn (FW ro) n P (Left P fn N rw C k st r.out) a w:=by
 intro c
 induction c with
 | skip =>
  intro k m σ hs ds r β a w _ h hok hcr hr
  cases m with
  | zero=>cases h
  | succ m=>exact wpIn_skip ⟨rfl,β,σ,m,hs,ds,r,hr,h,rfl,hok,hcr⟩
 | seq x y ihx ihy =>
  intro k m σ hs ds r β a w hq h hok hcr hr
  simp only [quiet,Bool.and_eq_true] at hq
  cases m with
  | zero=>cases h
  | succ m =>
   refine wpIn_seq (wpIn_mono (ihx _ m σ hs ds r β a w hq.1 h hok hcr hr) fun e a' w' hl=>?_)
   obtain ⟨rfl,β',σ',m',hs',ds',r',hr',h',ho',hok',hcr'⟩:=hl
   show y.wpIn _ _ _ _ _ _
   rw [← ho']
   exact ihy _ m' σ' hs' ds' r' β' a' w' hq.2 h' hok' hcr' hr'
 | block id c ih =>
  intro k m σ hs ds r β a w hq h hok hcr hr
  cases m with
  | zero=>cases h
  | succ m =>
   refine wpIn_block (wpIn_mono (ih _ m σ hs ds r β a w hq h hok hcr hr) fun e a' w' hl=>?_)
   obtain ⟨rfl,β',σ',m',hs',ds',r',hr',h',ho',hok',hcr'⟩:=hl
   cases m' with
   | zero=>cases h'
   | succ m'=>exact ⟨rfl,β',σ',m',hs',ds',r',hr',h',ho',hok',hcr'⟩
 | cond t x y ihx ihy =>
  intro k m σ hs ds r β a w hq h hok hcr hr
  simp only [quiet,Bool.and_eq_true] at hq
  cases m with
  | zero=>cases h
  | succ m =>
   unfold runT at h
   simp only at h
   split at h
   ·rename_i b d ds' hx
    split at h
    ·rename_i q hq'
     injection h with h;subst h
     simp only [Run.and,List.cons_append,List.nil_append,allB,Bool.and_eq_true,zr9] at hok
     have hx':a.eval _=.bool b:=(hr.ev hx).1
     refine wpIn_cond hx' ?_
     have hc:∀ c,c∈q.cr→ObOK P c:=fun c hc=>hcr c (by simp [Run.and,hc])
     rw [hok.1]
     cases d with
     | true=>exact ihx _ m σ hs ds' q β a w hq.1 hq' hok.2 hc hr
     | false=>exact ihy _ m σ hs ds' q β a w hq.2 hq' hok.2 hc hr
    ·cases h
   ·cases h
 | region id ops dr =>
  intro k m σ hs ds r β a w hq h hok hcr hr
  cases m with
  | zero=>cases h
  | succ m =>
   unfold runT at h
   simp only at h
   split at h
   ·rename_i q hq'
    split at h
    ·rename_i r' hr'
     injection h with h;subst h
     simp only [Run.and,zil,Bool.and_eq_true] at hok
     refine wpIn_mono (yagc hq' hok.1 (fun c hc=>hcr c (by simp [Run.and,hc])) hq hr) fun e a' w' hl=>?_
     obtain ⟨rfl,β',h'⟩:=hl
     exact ⟨rfl,β',q.σ,m,q.hs,q.ds,r',h',hr',rfl,hok.2,fun c hc=>hcr c (by simp [Run.and,hc])⟩
    ·cases h
   ·cases h
 | _=>intro k m σ hs ds r β a w hq;cases hq
def zmv (P:Program) (C:Cx) (N:Nat) (todo:List Item) (σ σ':Kn):Prop :=
 match todo with
 | .code c::_=>∀ (ro:Option Nat) (n:Nat) (β:Bs) (a:Act) (w:World),Rel C N β (fun k=>k < σ.n) σ a w→c.wpIn (FW ro) n P (yamo C N σ') a w
 | _=>False
theorem Rel.weaken {C:Cx} {N:Nat} {β:Bs} {σ σ':Kn} {a:Act} {w:World} (hr:Rel C N β (fun k=>k < σ.n) σ a w) (hle:Le σ' σ) (hlow:σ'.Low) (hF:∀ k,C.F k→k < σ'.n):Rel C N β (fun k=>k < σ'.n) σ' a w :=
 ⟨hr.size,hr.defers,fun t v hv=>⟨(hr.tmp t v (hle.t t v hv)).1,hlow.t t v hv⟩,fun k e he=>⟨(hlow.h k e he).1,(hr.blk k e (hle.h k e he)).2.1,(hlow.h k e he).2,(hr.blk k e (hle.h k e he)).2.2.2⟩,fun k e k' e' he he'=>hr.inj k e k' e' (hle.h k e he) (hle.h k' e' he'),hr.frame,fun k hk=>⟨hF k hk,(hr.fix k hk).2⟩,hr.gd⟩
theorem zs0 {P:Program} {f:FuncId} {fn:Func} {N:Nat} {C:Cx} {todo:List Item} {σ:Kn} {ok:Bool} {cr:List Ob} (σ':Kn) (m:Nat) (hs:List Eff) (ds st:List Bool) (rw:List (Nat×Nat)) (_hf:P.funcs[f]?=some fn)
  (h:yad5 (σ'.T.map (·.1)) (σ'.H.map (·.1)) (runT P fn N rw m todo σ hs ds st)=some ([.code .skip,.inLoop .skip],σ'.T.map (fun x=>some x.2),σ'.H.map (fun x=>some x.2),ok,cr)) (hok:ok=true) (hcr:∀ c,c∈cr→ObOK P c) (hlow:σ'.Low) (hF:∀ k,C.F k→k < σ'.n)
  (hq:(match todo with
   | [.code c,.inLoop _]=>quiet c
   | _=>false)=true) (hst:st=[true]):zmv P C N todo σ σ':=by
 obtain ⟨σ1,oks,h1,ho,h2,h3⟩:=zjp h
 subst hst
 split at hq
 ·rename_i _ c X _
  intro ro n β a w hr
  refine wpIn_mono (zqu c _ m σ hs ds _ β a w hq h1 (ho.trans hok) hcr hr) fun e a' w' hl=>?_
  obtain ⟨rfl,β',σ2,m',hs',ds',r',hr',h',ho',_,_⟩:=hl
  refine ⟨rfl,β',?_⟩
  cases m' with
  | zero=>cases h'
  | succ m' =>
   unfold runT at h'
   simp only at h'
   split at h'
   ·injection h' with h'
    subst h'
    injection ho' with ho'
    injection ho' with _ ho'
    subst ho'
    exact hr'.weaken ⟨zhm h2,zhm h3⟩ hlow hF
   ·cases h'
 ·cases hq
def yap9 (P:Program) (C:Cx) (N:Nat) (todo:List Item) (σ σ':Kn):Prop :=
 match todo with
 | [.code (.seq x (.seq y z)),.inLoop _]=>∀ (ro:Option Nat) (n:Nat) (d:Code) (Q:Exit→Act→World→Prop),(∀ (β:Bs) (a:Act) (w:World),Rel C N β (fun k=>k < σ'.n) σ' a w→d.wpIn (FW ro) n P Q a w) →
   ∀ (β:Bs) (a:Act) (w:World),Rel C N β (fun k=>k < σ.n) σ a w→(Code.seq x (.seq y (.seq z d))).wpIn (FW ro) n P Q a w
 | _=>False
theorem yap0 {P:Program} {f:FuncId} {fn:Func} {N:Nat} {C:Cx} {todo:List Item} {σ:Kn} {ok:Bool} {cr:List Ob} (σ':Kn) (m:Nat) (hs:List Eff) (ds st:List Bool) (rw:List (Nat×Nat)) (_hf:P.funcs[f]?=some fn)
  (h:yad5 (σ'.T.map (·.1)) (σ'.H.map (·.1)) (runT P fn N rw m todo σ hs ds st)=some ([.code .skip,.inLoop .skip],σ'.T.map (fun x=>some x.2),σ'.H.map (fun x=>some x.2),ok,cr)) (hok:ok=true) (hcr:∀ c,c∈cr→ObOK P c) (hlow:σ'.Low) (hF:∀ k,C.F k→k < σ'.n)
  (hq:(match todo with
   | [.code (.seq x (.seq y z)),.inLoop _]=>quiet x&&(quiet y&&quiet z)
   | _=>false)=true) (hst:st=[true]):yap9 P C N todo σ σ':=by
 obtain ⟨σ1,oks,h1,ho,h2,h3⟩:=zjp h
 subst hst
 split at hq
 ·rename_i _ x y z X _
  intro ro n d Q hd β a w hr
  simp only [Bool.and_eq_true] at hq
  cases m with
  | zero=>cases h1
  | succ m =>
   refine wpIn_seq (wpIn_mono (zqu x _ m σ hs ds _ β a w hq.1 h1 (ho.trans hok) hcr hr) fun e a' w' hl=>?_)
   obtain ⟨rfl,β',σ2,m',hs',ds',r',hr',h',ho',hok',hcr'⟩:=hl
   cases m' with
   | zero=>cases h'
   | succ m' =>
    refine wpIn_seq (wpIn_mono (zqu y _ m' σ2 hs' ds' r' β' a' w' hq.2.1 h' hok' hcr' hr') fun e a' w' hl=>?_)
    obtain ⟨rfl,β',σ2,m',hs',ds',r',hr',h',ho2,hok',hcr'⟩:=hl
    refine wpIn_seq (wpIn_mono (zqu z _ m' σ2 hs' ds' r' β' a' w' hq.2.2 h' hok' hcr' hr') fun e a' w' hl=>?_)
    obtain ⟨rfl,β',σ2,m',hs',ds',r',hr',h',ho3,_,_⟩:=hl
    refine hd β' a' w' ?_
    cases m' with
    | zero=>cases h'
    | succ m' =>
     unfold runT at h'
     simp only at h'
     split at h'
     ·injection h' with h'
      subst h'
      have ho4:=ho3.trans (ho2.trans ho')
      injection ho4 with ho4
      injection ho4 with _ ho4
      subst ho4
      exact hr'.weaken ⟨zhm h2,zhm h3⟩ hlow hF
     ·cases h'
 ·cases hq
def yame (fn:Func):Code :=
 match zdp fn with
 | .seq x (.seq y (.seq z _))=>.seq x (.seq y z)
 | c=>c
def yadj (fn:Func):Code :=
 match zdp fn with
 | .seq _ (.seq _ (.seq _ (.block _ (.rangeFunc _ _ _ c))))=>c
 | c=>c
section
variable {L:List Ins} {p r x:Nat} {C:Cx} {A:List (V6 Bool)} {b a1:V6 Bool}
theorem yapp (h:(decide ((p:Int)≤(p:Int))&&decide ((p:Int)≤1099511627776)&&true&&true)=true) (c0:Eff.mk (.c (.sl 4 0 (p:Int).toNat (p:Int).toNat)) [] (some (1+1+2,Ent.mk true (rows (p:Int).toNat [.b false,.b false,.b false,.b false,.b false,.b false]) 0))=Eff.mk (.c (.sl 4 0 p p)) [] (some (4,Ent.mk true (rcell (List.replicate p no6)) 0))) (c1:CO 118 [.c (.i (p:Int))] [] (Eff.mk (.c (.f 163 [9])) [] (some (9,Ent.mk true [.i (p:Int)] 0)))) (lo:Kn.Low ⟨[(1,.c (.w 1)),(2,.c (.w 5)),(10,.c (.f 163 [9]))],[(0,Ent.mk true (pcell L) 5),(1,Ent.mk true [.sx 0 p] 0),(4,Ent.mk true (rcell (List.replicate p no6)) 0),(5,Ent.mk true [.sl 4 0 p p] 0),(9,Ent.mk true [.i (p:Int)] 0)],10⟩) (hF:∀ k,C.F k→k<10) :
  yap9 Tryz.prog C Tryz.f65.ntmps ([Item.code (yame Tryz.f65),Item.inLoop Code.skip]) (Kn.start [.c (.sx 0 p)] [(0,Ent.mk true (pcell L) 5)] 1) ⟨[(1,.c (.w 1)),(2,.c (.w 5)),(10,.c (.f 163 [9]))],[(0,Ent.mk true (pcell L) 5),(1,Ent.mk true [.sx 0 p] 0),(4,Ent.mk true (rcell (List.replicate p no6)) 0),(5,Ent.mk true [.sl 4 0 p p] 0),(9,Ent.mk true [.i (p:Int)] 0)],10⟩ :=
 yap0 ⟨[(1,.c (.w 1)),(2,.c (.w 5)),(10,.c (.f 163 [9]))],[(0,Ent.mk true (pcell L) 5),(1,Ent.mk true [.sx 0 p] 0),(4,Ent.mk true (rcell (List.replicate p no6)) 0),(5,Ent.mk true [.sl 4 0 p p] 0),(9,Ent.mk true [.i (p:Int)] 0)],10⟩ 2000 [Eff.mk (.c (.sl 4 0 p p)) [] (some (4,Ent.mk true (rcell (List.replicate p no6)) 0)),Eff.mk (.c (.f 163 [9])) [] (some (9,Ent.mk true [.i (p:Int)] 0))] [] ([true]) [(1,2)] Tryz.func65 (by kernel_rfl) h (zac c0 (zab c1 zae)) lo hF rfl rfl
theorem yaxv (h:(decide ((x:Int)<(p:Int))&&(Nat.ble ((x:Int).toNat*5+5) (pcell L).length&&(decide ((x:Int)≤(p:Int))&&decide ((p:Int)≤(p:Int))&&decide ((p:Int)≤(p:Int))&&decide ((x:Int)<(p:Int))&&(decide ((x:Int)<(p:Int))&&(Nat.ble ((x:Int).toNat*5+5) (pcell L).length&&(decide ((elt L x).op≤10)&&(decide ((x:Int)<(p:Int))&&(AC.isI ((pcell L)[(x:Int).toNat*5+1]?.getD (.b false))&&Nat.blt ((x:Int).toNat*5+1) (pcell L).length&&(decide (0≤(elt L x).d)&&decide ((elt L x).d<6)&&(AC.isB ((bcs b)[((elt L x).d).toNat*1]?.getD (.b false))&&Nat.blt (((elt L x).d).toNat*1) (bcs b).length&&(!b.get ((elt L x).d).toNat&&(decide ((x:Int)<(p:Int))&&(Nat.ble ((x:Int).toNat*5+5) (pcell L).length&&true&&(decide ((x:Int)<(p:Int))&&(Nat.ble ((x:Int).toNat*5+5) (pcell (L.set x onI)).length&&(decide ((x:Int)<(p:Int))&&(Nat.ble (0+(x:Int).toNat*6+(bcs a1).length) (rcell A).length&&true&&true)))))))))))))))))=true) (c0:pe (.ag (((pcell L).drop ((x:Int).toNat*5)).take 5))=pe (.ag (elt L x).cs)) (c1:pe (.c (.sl 4 (0+(x:Int).toNat*6) (((p:Int)).toNat - (x:Int).toNat) (((p:Int)).toNat - (x:Int).toNat)))=pe (.c (.sl 4 (x*6) (p - x) (p - x)))) (c2:CO 119 [.ag (elt L x).cs,.c (.sl 4 (x*6) (p - x) (p - x))] [(4,Ent.mk true (rcell A) 0)] (pe (.ag (bcs b)))) (c3:pe (.ag (((pcell L).drop ((x:Int).toNat*5)).take 5))=pe (.ag (elt L x).cs)) (c4:Ok 120 [.ag (elt L x).cs] (.c (.b (decide ((elt L x).op≤10))))) (c5:pe (.c (.i (AC.asI ((pcell L)[(x:Int).toNat*5+1]?.getD (.b false)))))=pe (.c (.i (elt L x).d))) (c6:pe (.c (.b (AC.asB ((bcs b)[((elt L x).d).toNat*1]?.getD (.b false)))))=pe (.c (.b (b.get ((elt L x).d).toNat)))) (c7:Ok 115 [] (.ag onI.cs)) (c8:we 0 (splice (pcell L) ((x:Int).toNat*5) onI.cs)=we 0 (pcell (L.set x onI))) (c9:pe (.ag (((pcell (L.set x onI)).drop ((x:Int).toNat*5)).take 5))=pe (.ag onI.cs)) (c10:Ok 121 [.ag onI.cs,.ag (bcs b)] (.ag (bcs a1))) (c11:we 4 (splice (rcell A) (0+(x:Int).toNat*6) (bcs a1))=we 4 (rcell (A.set x a1))) (lo:Kn.Low ⟨[(1,.c (.w 1)),(2,.c (.w 5))],[(0,Ent.mk true (pcell (L.set x onI)) 0),(1,Ent.mk true [.sx 0 p] 0),(4,Ent.mk true (rcell (A.set x a1)) 0),(5,Ent.mk true [.sl 4 0 p p] 0)],10⟩) (hF:∀ k,C.F k→k<10) :
  zmv Tryz.prog C Tryz.f65.ntmps ([Item.code (yadj Tryz.f65),Item.inLoop Code.skip]) (Kn.mk [(1,.c (.w 1)),(2,.c (.w 5)),(3,.c (.i (x:Int)))] [(0,Ent.mk true (pcell L) r),(1,Ent.mk true [.sx 0 p] 0),(4,Ent.mk true (rcell A) 0),(5,Ent.mk true [.sl 4 0 p p] 0)] 10) ⟨[(1,.c (.w 1)),(2,.c (.w 5))],[(0,Ent.mk true (pcell (L.set x onI)) 0),(1,Ent.mk true [.sx 0 p] 0),(4,Ent.mk true (rcell (A.set x a1)) 0),(5,Ent.mk true [.sl 4 0 p p] 0)],10⟩ :=
 zs0 ⟨[(1,.c (.w 1)),(2,.c (.w 5))],[(0,Ent.mk true (pcell (L.set x onI)) 0),(1,Ent.mk true [.sx 0 p] 0),(4,Ent.mk true (rcell (A.set x a1)) 0),(5,Ent.mk true [.sl 4 0 p p] 0)],10⟩ 2000 [pe (.ag (elt L x).cs),pe (.c (.sl 4 (x*6) (p - x) (p - x))),pe (.ag (bcs b)),pe (.ag (elt L x).cs),pe (.c (.b (decide ((elt L x).op≤10)))),pe (.c (.i (elt L x).d)),pe (.c (.b (b.get ((elt L x).d).toNat))),pe (.ag onI.cs),we 0 (pcell (L.set x onI)),pe (.ag onI.cs),pe (.ag (bcs a1)),we 4 (rcell (A.set x a1))] [true,true] ([true]) [(4,3),(4,6),(5,3),(5,10),(5,12),(6,4),(7,5),(7,9)] Tryz.func65 (by kernel_rfl) h (zac c0 (zac c1 (zab c2 (zac c3 (zab c4 (zac c5 (zac c6 (zab c7 (zac c8 (zac c9 (zab c10 (zac c11 zae)))))))))))) lo hF rfl rfl
theorem yaxn (h:(decide ((x:Int)<(p:Int))&&(Nat.ble ((x:Int).toNat*5+5) (pcell L).length&&(decide ((x:Int)≤(p:Int))&&decide ((p:Int)≤(p:Int))&&decide ((p:Int)≤(p:Int))&&decide ((x:Int)<(p:Int))&&(decide ((x:Int)<(p:Int))&&(Nat.ble ((x:Int).toNat*5+5) (pcell L).length&&(decide ((elt L x).op≤10)&&(decide ((x:Int)<(p:Int))&&(AC.isI ((pcell L)[(x:Int).toNat*5+1]?.getD (.b false))&&Nat.blt ((x:Int).toNat*5+1) (pcell L).length&&(decide (0≤(elt L x).d)&&decide ((elt L x).d<6)&&(AC.isB ((bcs b)[((elt L x).d).toNat*1]?.getD (.b false))&&Nat.blt (((elt L x).d).toNat*1) (bcs b).length&&(!!b.get ((elt L x).d).toNat&&(decide ((x:Int)<(p:Int))&&(Nat.ble ((x:Int).toNat*5+5) (pcell L).length&&(decide ((x:Int)<(p:Int))&&(Nat.ble (0+(x:Int).toNat*6+(bcs a1).length) (rcell A).length&&true&&true)))))))))))))))=true) (c0:pe (.ag (((pcell L).drop ((x:Int).toNat*5)).take 5))=pe (.ag (elt L x).cs)) (c1:pe (.c (.sl 4 (0+(x:Int).toNat*6) (((p:Int)).toNat - (x:Int).toNat) (((p:Int)).toNat - (x:Int).toNat)))=pe (.c (.sl 4 (x*6) (p - x) (p - x)))) (c2:CO 119 [.ag (elt L x).cs,.c (.sl 4 (x*6) (p - x) (p - x))] [(4,Ent.mk true (rcell A) 0)] (pe (.ag (bcs b)))) (c3:pe (.ag (((pcell L).drop ((x:Int).toNat*5)).take 5))=pe (.ag (elt L x).cs)) (c4:Ok 120 [.ag (elt L x).cs] (.c (.b (decide ((elt L x).op≤10))))) (c5:pe (.c (.i (AC.asI ((pcell L)[(x:Int).toNat*5+1]?.getD (.b false)))))=pe (.c (.i (elt L x).d))) (c6:pe (.c (.b (AC.asB ((bcs b)[((elt L x).d).toNat*1]?.getD (.b false)))))=pe (.c (.b (b.get ((elt L x).d).toNat)))) (c7:pe (.ag (((pcell L).drop ((x:Int).toNat*5)).take 5))=pe (.ag (elt L x).cs)) (c8:Ok 121 [.ag (elt L x).cs,.ag (bcs b)] (.ag (bcs a1))) (c9:we 4 (splice (rcell A) (0+(x:Int).toNat*6) (bcs a1))=we 4 (rcell (A.set x a1))) (lo:Kn.Low ⟨[(1,.c (.w 1)),(2,.c (.w 5))],[(0,Ent.mk true (pcell L) r),(1,Ent.mk true [.sx 0 p] 0),(4,Ent.mk true (rcell (A.set x a1)) 0),(5,Ent.mk true [.sl 4 0 p p] 0)],10⟩) (hF:∀ k,C.F k→k<10) :
  zmv Tryz.prog C Tryz.f65.ntmps ([Item.code (yadj Tryz.f65),Item.inLoop Code.skip]) (Kn.mk [(1,.c (.w 1)),(2,.c (.w 5)),(3,.c (.i (x:Int)))] [(0,Ent.mk true (pcell L) r),(1,Ent.mk true [.sx 0 p] 0),(4,Ent.mk true (rcell A) 0),(5,Ent.mk true [.sl 4 0 p p] 0)] 10) ⟨[(1,.c (.w 1)),(2,.c (.w 5))],[(0,Ent.mk true (pcell L) r),(1,Ent.mk true [.sx 0 p] 0),(4,Ent.mk true (rcell (A.set x a1)) 0),(5,Ent.mk true [.sl 4 0 p p] 0)],10⟩ :=
 zs0 ⟨[(1,.c (.w 1)),(2,.c (.w 5))],[(0,Ent.mk true (pcell L) r),(1,Ent.mk true [.sx 0 p] 0),(4,Ent.mk true (rcell (A.set x a1)) 0),(5,Ent.mk true [.sl 4 0 p p] 0)],10⟩ 2000 [pe (.ag (elt L x).cs),pe (.c (.sl 4 (x*6) (p - x) (p - x))),pe (.ag (bcs b)),pe (.ag (elt L x).cs),pe (.c (.b (decide ((elt L x).op≤10)))),pe (.c (.i (elt L x).d)),pe (.c (.b (b.get ((elt L x).d).toNat))),pe (.ag (elt L x).cs),pe (.ag (bcs a1)),we 4 (rcell (A.set x a1))] [true,false] ([true]) [(4,3),(4,6),(5,3),(5,10),(5,12),(6,4),(7,5),(7,9)] Tryz.func65 (by kernel_rfl) h (zac c0 (zac c1 (zab c2 (zac c3 (zab c4 (zac c5 (zac c6 (zac c7 (zab c8 (zac c9 zae)))))))))) lo hF rfl rfl
theorem yawz (h:(decide ((x:Int)<(p:Int))&&(Nat.ble ((x:Int).toNat*5+5) (pcell L).length&&(decide ((x:Int)≤(p:Int))&&decide ((p:Int)≤(p:Int))&&decide ((p:Int)≤(p:Int))&&decide ((x:Int)<(p:Int))&&(decide ((x:Int)<(p:Int))&&(Nat.ble ((x:Int).toNat*5+5) (pcell L).length&&(!decide ((elt L x).op≤10)&&(decide ((x:Int)<(p:Int))&&(Nat.ble ((x:Int).toNat*5+5) (pcell L).length&&(decide ((x:Int)<(p:Int))&&(Nat.ble (0+(x:Int).toNat*6+(bcs a1).length) (rcell A).length&&true&&true))))))))))=true) (c0:pe (.ag (((pcell L).drop ((x:Int).toNat*5)).take 5))=pe (.ag (elt L x).cs)) (c1:pe (.c (.sl 4 (0+(x:Int).toNat*6) (((p:Int)).toNat - (x:Int).toNat) (((p:Int)).toNat - (x:Int).toNat)))=pe (.c (.sl 4 (x*6) (p - x) (p - x)))) (c2:CO 119 [.ag (elt L x).cs,.c (.sl 4 (x*6) (p - x) (p - x))] [(4,Ent.mk true (rcell A) 0)] (pe (.ag (bcs b)))) (c3:pe (.ag (((pcell L).drop ((x:Int).toNat*5)).take 5))=pe (.ag (elt L x).cs)) (c4:Ok 120 [.ag (elt L x).cs] (.c (.b (decide ((elt L x).op≤10))))) (c5:pe (.ag (((pcell L).drop ((x:Int).toNat*5)).take 5))=pe (.ag (elt L x).cs)) (c6:Ok 121 [.ag (elt L x).cs,.ag (bcs b)] (.ag (bcs a1))) (c7:we 4 (splice (rcell A) (0+(x:Int).toNat*6) (bcs a1))=we 4 (rcell (A.set x a1))) (lo:Kn.Low ⟨[(1,.c (.w 1)),(2,.c (.w 5))],[(0,Ent.mk true (pcell L) r),(1,Ent.mk true [.sx 0 p] 0),(4,Ent.mk true (rcell (A.set x a1)) 0),(5,Ent.mk true [.sl 4 0 p p] 0)],10⟩) (hF:∀ k,C.F k→k<10) :
  zmv Tryz.prog C Tryz.f65.ntmps ([Item.code (yadj Tryz.f65),Item.inLoop Code.skip]) (Kn.mk [(1,.c (.w 1)),(2,.c (.w 5)),(3,.c (.i (x:Int)))] [(0,Ent.mk true (pcell L) r),(1,Ent.mk true [.sx 0 p] 0),(4,Ent.mk true (rcell A) 0),(5,Ent.mk true [.sl 4 0 p p] 0)] 10) ⟨[(1,.c (.w 1)),(2,.c (.w 5))],[(0,Ent.mk true (pcell L) r),(1,Ent.mk true [.sx 0 p] 0),(4,Ent.mk true (rcell (A.set x a1)) 0),(5,Ent.mk true [.sl 4 0 p p] 0)],10⟩ :=
 zs0 ⟨[(1,.c (.w 1)),(2,.c (.w 5))],[(0,Ent.mk true (pcell L) r),(1,Ent.mk true [.sx 0 p] 0),(4,Ent.mk true (rcell (A.set x a1)) 0),(5,Ent.mk true [.sl 4 0 p p] 0)],10⟩ 2000 [pe (.ag (elt L x).cs),pe (.c (.sl 4 (x*6) (p - x) (p - x))),pe (.ag (bcs b)),pe (.ag (elt L x).cs),pe (.c (.b (decide ((elt L x).op≤10)))),pe (.ag (elt L x).cs),pe (.ag (bcs a1)),we 4 (rcell (A.set x a1))] [false,false] ([true]) [(4,3),(4,6),(5,3),(5,10),(5,12),(6,4),(7,5),(7,9)] Tryz.func65 (by kernel_rfl) h (zac c0 (zac c1 (zab c2 (zac c3 (zab c4 (zac c5 (zab c6 (zac c7 zae)))))))) lo hF rfl rfl
end
abbrev rdH (L:List Ins) (A:List (V6 Bool)) (p r:Nat):List (Nat×Ent):=[(0,⟨true,pcell L,r⟩),(1,⟨true,[.sx 0 p],0⟩),(4,⟨true,rcell A,0⟩),(5,⟨true,[.sl 4 0 p p],0⟩)]
abbrev rdKn (L:List Ins) (A:List (V6 Bool)) (p r x:Nat):Kn:=⟨[(1,.c (.w 1)),(2,.c (.w 5)),(3,.c (.i (x:Int)))],rdH L A p r,10⟩
abbrev yas1 (L:List Ins) (A:List (V6 Bool)) (p r:Nat):Kn:=⟨[(1,.c (.w 1)),(2,.c (.w 5))],rdH L A p r,10⟩
theorem zht {L:List Ins} {A:List (V6 Bool)} {p r k:Nat} {e:Ent} (h:look (rdH L A p r) k=some e):(k=0∧e=⟨true,pcell L,r⟩)∨(k=1∧e=⟨true,[.sx 0 p],0⟩)∨(k=4∧e=⟨true,rcell A,0⟩)∨(k=5∧e=⟨true,[.sl 4 0 p p],0⟩):=by
 rw [zav] at h
 split at h
 ·rename_i hk;injection h with h;exact Or.inl ⟨hk,h.symm⟩
 ·rw [zav] at h
  split at h
  ·rename_i hk;injection h with h;exact Or.inr (Or.inl ⟨hk,h.symm⟩)
  ·rw [zav] at h
   split at h
   ·rename_i hk;injection h with h;exact Or.inr (Or.inr (Or.inl ⟨hk,h.symm⟩))
   ·exact Or.inr (Or.inr (Or.inr (zbh h)))
theorem zkf {L:List Ins} {A:List (V6 Bool)} {p r k:Nat} {e:Ent} (h:look (rdH L A p r) k=some e):k<10∧∀ c,c∈e.cells→∀ j,j∈c.ks→j<10:=by
 rcases zht h with ⟨rfl,rfl⟩ | ⟨rfl,rfl⟩ | ⟨rfl,rfl⟩ | ⟨rfl,rfl⟩
 ·exact ⟨by decide,fun c hc j hj=>(ze1 (zaj L) hc hj).elim⟩
 ·refine ⟨by decide,fun c hc j hj=>?_⟩
  rw [List.mem_singleton.1 hc] at hj
  rw [List.mem_singleton.1 hj];decide
 ·exact ⟨by decide,fun c hc j hj=>(ze1 (ze9 A) hc hj).elim⟩
 ·refine ⟨by decide,fun c hc j hj=>?_⟩
  rw [List.mem_singleton.1 hc] at hj
  rw [List.mem_singleton.1 hj];decide
theorem yavk {T:List (Nat×AV)} {n:Nat} (h:(T.flatMap fun x=>x.2.ks).all (fun k=>Nat.blt k n)=true) (t:Nat) (v:AV) (hv:look T t=some v) (k:Nat) (hk:k∈v.ks):k<n:=by
 have h1:k∈T.flatMap fun x=>x.2.ks:=List.mem_flatMap.2 ⟨(t,v),zdy hv,hk⟩
 have h2:=List.all_eq_true.1 h k h1
 simpa using h2
theorem yalo (L:List Ins) (A:List (V6 Bool)) (p r:Nat):Kn.Low (yas1 L A p r):=⟨yavk rfl,fun _ _ h=>zkf h⟩
theorem zu1 {i:Ins} {A:List (V6 Bool)} {x c:Nat} (hx:x<A.length) (hA:A.length≤64) (hr:Right i ((A.length - 1 - x:Nat):Int)) (hl:i.op=15∨x+1<A.length) :
  CallOK Tryz.prog ⟨119,[.ag i.cs,.c (.sl 4 (x*6) (A.length - x) c)],[(4,⟨true,rcell A,0⟩)],⟨.ag (bcs (zci i A x)),[],none⟩⟩:=by
 refine CallOK.more (H:=[(4,⟨false,rcell A,0⟩)]) ?_ ⟨fun j en hj=>?_⟩
 ·refine ((zrn (c:=c) hx hA hr hl).ren (swp 0 4) (zbl 0 4)).congr ?_
  unfold CallRec.ren Eff.ren renH
  simp only [List.map_cons,List.map_nil,Option.map_none,Ent.ren,zck _ (ze9 _)]
  rfl
 ·obtain ⟨rfl,rfl⟩:=zbh hj
  exact ⟨⟨true,rcell A,0⟩,rfl,rfl,fun h=>(by cases h),Or.inl rfl⟩
theorem yaa2 {L:List Ins} {x:Nat} (h:x<L.length):L.set x (elt L x)=L:=by
 unfold elt
 rw [List.getD_eq_getElem?_getD,List.getElem?_eq_getElem h]
 exact List.set_getElem_self h
theorem yani {n r x:Nat} {s:List Ins×List (V6 Bool)} (h:DOk n s) (hn:n≤64) (hx:x<n) {C:Cx} (hF:∀ k,C.F k→k<10) :
  ∃ r',zmv Tryz.prog C Tryz.f65.ntmps [Item.code (yadj Tryz.f65),Item.inLoop Code.skip] (rdKn s.1 s.2 n r x) (yas1 (zsx s x).1 (zsx s x).2 n r'):=by
 obtain ⟨L,A⟩:=s
 have h1:L.length=n:=h.l1
 have h2:A.length=n:=h.l2
 have hr:Right (elt L x) ((n - 1 - x:Nat):Int):=h.right x hx
 have hl:(elt L x).op=15∨x+1<n:=h.last x hx
 have hd:Right (zeb (elt L x) (zci (elt L x) A x)) ((n - 1 - x:Nat):Int):=by
  have:=(h.step hx).right x hx
  change Right (elt (L.set x _) x) _ at this
  rwa [znh (by omega),if_pos rfl] at this
 have cB:=zu1 (i:=elt L x) (A:=A) (x:=x) (c:=n - x) (by omega) (by omega) (by rw [h2];exact hr) (by rw [h2];exact hl)
 rw [h2] at cB
 have cA:=zwk hd (zci (elt L x) A x)
 show ∃ r',zmv _ _ _ _ _ (yas1 (L.set x (zeb (elt L x) (zci (elt L x) A x))) (A.set x (zfg (zeb (elt L x) (zci (elt L x) A x)) (zci (elt L x) A x))) n r')
 generalize zci (elt L x) A x=b at *
 have d0:decide ((x:Int)<(n:Int))=true:=decide_eq_true (by omega)
 have d1:∀ M:List Ins,M.length=n→Nat.ble (Int.toNat (x:Int)*5+5) (pcell M).length=true:=fun M hM=>by rw [zau,hM,Nat.ble_eq];omega
 have d2:(decide ((x:Int)≤(n:Int))&&decide ((n:Int)≤(n:Int))&&decide ((n:Int)≤(n:Int))&&decide ((x:Int)<(n:Int)))=true:=by simp;omega
 have d3:∀ u:V6 Bool,(Nat.ble (0+Int.toNat (x:Int)*6+List.length (bcs u)) (rcell A).length&&true&&true)=true:=fun u=>by
  rw [show List.length (bcs u)=6 from rfl,zfu,Bool.and_true,Bool.and_true,Nat.ble_eq];omega
 have e0:∀ M:List Ins,M.length=n→Eff.mk (AV.ag (List.take 5 (List.drop (Int.toNat (x:Int)*5) (pcell M)))) [] none=Eff.mk (AV.ag (elt M x).cs) [] none:=fun M hM=>by rw [Int.toNat_natCast,zet (by omega)]
 have e1:Eff.mk (AV.c (AC.sl 4 (0+Int.toNat (x:Int)*6) (Int.toNat (n:Int) - Int.toNat (x:Int)) (Int.toNat (n:Int) - Int.toNat (x:Int)))) [] none=Eff.mk (AV.c (AC.sl 4 (x*6) (n - x) (n - x))) [] none:=by
  rw [Int.toNat_natCast,Int.toNat_natCast,Nat.zero_add]
 have e2:∀ u:V6 Bool,Eff.mk (AV.raw undef) [(4,splice (rcell A) (0+Int.toNat (x:Int)*6) (bcs u))] none=Eff.mk (AV.raw undef) [(4,rcell (A.set x u))] none:=fun u=>by rw [Nat.zero_add,Int.toNat_natCast,zs7 u (by omega)]
 have cS:=zzd (elt L x)
 have hI:(elt L x).op≤10→(AC.isI (Option.getD (pcell L)[Int.toNat (x:Int)*5+1]? (AC.b false))&&Nat.blt (Int.toNat (x:Int)*5+1) (pcell L).length)=true∧Eff.mk (AV.c (AC.i (AC.asI (Option.getD (pcell L)[Int.toNat (x:Int)*5+1]? (AC.b false))))) [] none=Eff.mk (AV.c (AC.i (elt L x).d)) [] none:=fun _=>by
  have:(pcell L)[Int.toNat (x:Int)*5+1]?=some (AC.i (elt L x).d):=by
   have:=zet (L:=L) (k:=x) (by omega)
   have h3:=congrArg (fun l=>l[1]?) this
   simp only [List.getElem?_take,List.getElem?_drop] at h3
   rw [if_pos (by decide)] at h3
   rw [Int.toNat_natCast]
   exact h3
  rw [this]
  refine ⟨?_,rfl⟩
  rw [Bool.and_eq_true]
  refine ⟨rfl,?_⟩
  rw [zau,h1,Nat.blt_eq];omega
 by_cases ho:(elt L x).op≤10
 ·have hB:=yab5 hr ho
  obtain ⟨g1,g2⟩:=hI ho
  cases hg:b.get (elt L x).d.toNat with
  | false =>
   have eD:zeb (elt L x) b=onI:=by unfold zeb;rw [hg,decide_eq_true ho];rfl
   rw [eD] at cA ⊢
   have hs:elt (L.set x onI) x=onI:=by rw [znh (by omega),if_pos rfl]
   refine ⟨0,yaxv (b:=b) (a1:=zfg onI b) (zaa d0 (zaa (d1 L h1) (zaa d2 (zaa d0 (zaa (d1 L h1) (zaa (decide_eq_true ho) (zaa d0 (zaa g1 (zaa hB (zaa (zn9 b hB) (zaa (by rw [hg];rfl) (zaa d0 (zaa (by rw [d1 L h1];rfl) (zaa d0 (zaa (d1 _ (by rw [List.length_set];exact h1)) (zaa d0 (d3 _))))))))))))))))) (e0 L h1) e1 cB (e0 L h1) cS g2 (zwu b hB) yaz4 (by rw [Int.toNat_natCast];exact congrArg (fun l=>Eff.mk (AV.raw undef) [(0,l)] none) (ziv (L:=L) onI (by omega))) ((e0 _ (by rw [List.length_set];exact h1)).trans (by rw [hs])) cA (e2 _) (yalo _ _ _ _) hF⟩
  | true =>
   have eD:zeb (elt L x) b=elt L x:=by unfold zeb;rw [hg,if_neg (by simp)]
   rw [eD] at cA ⊢
   rw [yaa2 (by omega)]
   exact ⟨r,yaxn (b:=b) (a1:=zfg (elt L x) b) (zaa d0 (zaa (d1 L h1) (zaa d2 (zaa d0 (zaa (d1 L h1) (zaa (decide_eq_true ho) (zaa d0 (zaa g1 (zaa hB (zaa (zn9 b hB) (zaa (by rw [hg];rfl) (zaa d0 (zaa (d1 L h1) (zaa d0 (d3 _))))))))))))))) (e0 L h1) e1 cB (e0 L h1) cS g2 (zwu b hB) (e0 L h1) cA (e2 _) (yalo _ _ _ _) hF⟩
 ·have eD:zeb (elt L x) b=elt L x:=by unfold zeb;rw [decide_eq_false ho,if_neg (by simp)]
  rw [eD] at cA ⊢
  rw [yaa2 (by omega)]
  exact ⟨r,yawz (b:=b) (a1:=zfg (elt L x) b) (zaa d0 (zaa (d1 L h1) (zaa d2 (zaa d0 (zaa (d1 L h1) (zaa (by rw [decide_eq_false ho];rfl) (zaa d0 (zaa (d1 L h1) (zaa d0 (d3 _)))))))))) (e0 L h1) e1 cB (e0 L h1) cS (e0 L h1) cA (e2 _) (yalo _ _ _ _) hF⟩
end Go.Proofs.YtkigmocchaikgabGreatDoor
namespace Go.Proofs.YtkigmocchaikgabGreatDoor
open Go.RowKit Go.Shelf
section
attribute [local go_sem] Oper.semAt_some
abbrev Upto (n:Nat):Type:={ x:Nat // x<n }
def yao3 (n:Nat) (h:0<n) (j:Nat):Upto n:=⟨n - 1 - j,by omega⟩
def down (n:Nat) (h:0<n) (k:Nat):List (Upto n):=(List.range k).map (yao3 n h)
theorem yagv (n:Nat) (h:0<n) (k:Nat):down n h (k+1)=down n h k++[yao3 n h k]:=by simp [down,List.range_succ]
theorem zxs (n:Nat) (h:0<n) (k:Nat):(down n h k).length=k:=by simp [down]
abbrev encN {n:Nat} (x:Upto n):Array Value:=#[Value.int .i64 (x.1:Int)]
set_option maxRecDepth 100000 in
set_option maxHeartbeats 2000000 in
theorem yaht {n:Nat} (hn:0<n) (h64:n≤64) (m l:Nat) (p:Addr) (hm:1≤m) (J Jx:List (Upto n)→World→Prop)
  (hY:∀ pre x W,J pre W→pre.length<n→YieldAt Fence.wide (m - 1) Tryz.prog l (encN x) W fun e W' =>
   (e=.returned (.bool true)∧J (pre++[x]) W'∧True)∨(e=.returned (.bool false)∧Jx (pre++[x]) W'))
  (W:World) (hB:W.cell? p=some (.int .i64 (n:Int))) (h0:J [] W) :
  CallsIn Fence.wide m Tryz.prog 163 #[.func (.yield l) #[] #[],.pointer (some p)] W fun e W'=>(∃ v,e=.returned v) ∧
   ((∃ ys,ys=down n hn n∧J ys W')∨(∃ pre,True∧Jx pre W')):=by
 refine callsIn_of_wp Tryz.func163 rfl trivial ?_ rfl
 simp only [Tryz.ntmps163,List.size_toArray,List.length_cons,List.length_nil,Nat.reduceAdd,Nat.reduceSub,Array.replicate_succ,Array.replicate_zero,List.push_toArray,List.append_toArray,List.nil_append,List.cons_append]
 gi_wp2
 gi_loopw [3] (fun i wr=>∃ k:Nat,k≤n∧i=.int .i64 ((n:Int) - 1 - k)∧J (down n hn k) wr)
  (fun i _=>((intOf i)+1).toNat)
 case atStart=>exact ⟨0,Nat.zero_le _,by simp,h0⟩
 case round =>
  obtain ⟨k,hk,rfl,hJs⟩:=hrel
  by_cases hlt:k<n
  ·obtain ⟨fn,tmps,assign,body,hy,hR⟩:=hY _ (yao3 n hn k) wr hJs (by rw [zxs];exact hlt)
   have e1:((n - 1 - k:Nat):Int)=(n:Int) - 1 - k:=by omega
   simp only [encN,yao3,e1] at hy
   gi_wp2
   refine hR.mono ?_
   rintro e W3 (⟨rfl,hJ3,_⟩ | ⟨rfl,hJx3⟩)
   ·gi_wp2
    go_roundw
    case rel=>exact ⟨k+1,by omega,by simp;omega,by rw [yagv];exact hJ3⟩
    case measure=>simp [intOf];omega
   ·gi_wp2
    refine bodyPost_ret (results_none rfl _ _ _) rfl ?_
    exact ⟨⟨_,rfl⟩,.inr ⟨_,trivial,hJx3⟩⟩
  ·obtain rfl:k=n:=by omega
   gi_wp2
   go_end0
   exact ⟨⟨_,rfl⟩,.inl ⟨_,rfl,hJs⟩⟩
theorem ztm {n:Nat} (hn:0<n) (h64:n≤64) (m:Nat) (p:Addr) (hm:1≤m) (w:World) (hB:p.block<w.heap.size) (hc:w.cell? p=some (.int .i64 (n:Int))) :
  SeqStopsK Fence.wide m Tryz.prog 163 #[.pointer (some p)] (encN (n:=n)) (fun _ _=>True) (fun ys=>ys=down n hn n) (fun _=>True) n w:=fun l J Jx W hW _ _ hY h0 =>
 yaht hn h64 m l p hm J Jx hY W ((hW.cell (p:=p) hB).trans hc) h0
end
def asR (fn:Func):Code :=
 match zdp fn with
 | .seq _ (.seq _ (.seq _ (.block _ (.rangeFunc _ _ c _))))=>c
 | c=>c
theorem yak7 {l m:Nat} {t:Array Value} {v:Value} {W:World} {K:Act→World→Prop} (h11:t[11]?=some v) (hK:K { tmps:=t.setIfInBounds 3 v,defers:=[] } W):(asR Tryz.f65).wpIn (FW (some l)) m Tryz.prog (Exit.then K (fun _ _ _=>False)) { tmps:=t,defers:=[] } W:=by
 have e:asR Tryz.f65=Code.region 3 #[{ dst:=some 3,op:=.assign (.tmp 11),type:=3,pos := "dead.go:16",after:=#[],guard:=none }] false:=by kernel_rfl
 rw [e]
 refine wpIn_region ?_
 simp [wpOpsIn,Oper.wpIn,Oper.uponIn,Region.wanted,Oper.semAt,execOp,go_sem,Act.put]
 rw [h11]
 exact hK
structure RI (β:Bs) (L:List Ins) (w1:World) (pre:List (Upto L.length)) (W:World):Prop where
 blk:∃ r,∀ k e,look (rdH (runD L (pre.map (·.1))).1 (runD L (pre.map (·.1))).2 L.length r) k=some e→Blk β W k e
 fr:Fr (fun B=>∃ k,k∈[0,1,4,5]∧B=(β k).1) w1 W
 gw:Gw W
theorem zue {L:List Ins} {A:List (V6 Bool)} {p r k:Nat} {e:Ent} (h:look (rdH L A p r) k=some e):k∈[0,1,4,5]:=by
 rcases zht h with ⟨rfl,rfl⟩ | ⟨rfl,rfl⟩ | ⟨rfl,rfl⟩ | ⟨rfl,rfl⟩ <;> decide
theorem RI.below {β:Bs} {L:List Ins} {w1 W W':World} {pre:List (Upto L.length)} (h:RI β L w1 pre W) (hlt:∀ k,k∈[0,1,4,5]→(β k).1<w1.heap.size) (hb:Below w1.heap.size W W') (hng:ng≤w1.heap.size):RI β L w1 pre W':=by
 obtain ⟨r,hr⟩:=h.blk
 refine ⟨⟨r,fun k e he=>(hr k e he).congr rfl hb.size (hb.block _ (hlt k (zue he))) fun _ _ _ _=>rfl⟩,⟨hb.os.trans h.fr.os,hb.tape.trans h.fr.tape,hb.output.trans h.fr.output,Nat.le_trans h.fr.size hb.size,fun k hk hx=>(hb.block k hk).trans (h.fr.block k hk hx)⟩,h.gw.keep hb.size fun b hlt'=>hb.block b (Nat.lt_of_lt_of_le hlt' hng)⟩
theorem yapd {β:Bs} {a:Act} {x t:Nat} {v:AV} (h1:a.tmps[1]?=some ((AV.c (AC.w 1)).g β)) (h2:a.tmps[2]?=some ((AV.c (AC.w 5)).g β)) (h3:a.tmps[3]?=some (.int .i64 (x:Int))) (h:look [(1,AV.c (.w 1)),(2,.c (.w 5)),(3,.c (.i (x:Int)))] t=some v):a.tmps[t]?=some (v.g β):=by
 rw [zav] at h
 split at h
 ·rename_i hk;injection h with h;subst h;rw [hk];exact h1
 ·rw [zav] at h
  split at h
  ·rename_i hk;injection h with h;subst h;rw [hk];exact h2
  ·rw [zav] at h
   split at h
   ·rename_i hk;injection h with h;subst h;rw [hk];exact h3
   ·cases h
theorem RI.round {β:Bs} {L:List Ins} (hP:RightP L) {w1:World} {pre:List (Upto L.length)} {x:Upto L.length} {W:World} (h:RI β L w1 pre W) {a:Act} (hsz:a.tmps.size=Tryz.f65.ntmps) (hd:a.defers=[]) (h1:a.tmps[1]?=some ((AV.c (AC.w 1)).g β)) (h2:a.tmps[2]?=some ((AV.c (AC.w 5)).g β)) (h3:a.tmps[3]?=some (.int .i64 (x.1:Int)))
  (hlt:∀ k,k∈[0,1,4,5]→(β k).1<w1.heap.size) (hinj:∀ i j,i∈[0,1,4,5]→j∈[0,1,4,5]→i≠j→(β i).1≠(β j).1) (hng:∀ k,k∈[0,1,4,5]→ng≤(β k).1) (l m:Nat) :
  (yadj Tryz.f65).wpIn (FW (some l)) m Tryz.prog (ownPostG w1.heap.size (fun _ _=>True) (RI β L w1) (fun _ _ _=>False) (pre++[x]) W) a W:=by
 obtain ⟨r,hr⟩:=h.blk
 have hs:=yai1 hP (pre.map (·.1)) (fun y hy=>by obtain ⟨z,_,rfl⟩:=List.mem_map.1 hy;exact z.2)
 obtain ⟨r',hp⟩:=yani (r:=r) hs hP.le x.2 (C:=cx W β 10 [0,1,4,5]) (fun k hk=>hk)
 unfold zmv at hp
 simp only at hp
 have hrel:Rel (cx W β 10 [0,1,4,5]) Tryz.f65.ntmps β (fun k=>k<10) (rdKn (runD L (pre.map (·.1))).1 (runD L (pre.map (·.1))).2 L.length r x.1) a W :=
  ⟨hsz,hd,fun t v hv=>⟨yapd h1 h2 h3 hv,yavk rfl t v hv⟩,fun k e he=>⟨(zkf he).1,hr k e he,(zkf he).2,fun _=>Or.inr ⟨⟨k,zue he,rfl⟩,hng k (zue he)⟩⟩,fun k e k' e' he he' hne _ _ _=>hinj k k' (zue he) (zue he') hne,Fr.refl _ _,fun k hk=>⟨hk,rfl⟩,h.gw,fun _ hb=>hb.2,h.gw.size⟩
 refine wpIn_mono (hp (some l) m β a W hrel) fun e a' W' hl=>?_
 obtain ⟨rfl,β',h'⟩:=hl
 have hfix:∀ k,k<10→β' k=β k:=fun k hk=>(h'.fix k hk).2
 refine ⟨⟨h'.frame.size,fun k o hB hk _=>?_⟩,trivial,⟨⟨r',fun k e he=>?_⟩,h.fr.trans (h'.frame.mono fun _ hB=>hB.1),h'.gd.now⟩⟩
 ·refine (h'.frame.block k (Array.getElem?_eq_some_iff.1 hk).1 ?_).trans hk
  rintro ⟨⟨j,hj,rfl⟩,_⟩
  have:=hlt j hj
  omega
 ·rw [List.map_append,List.map_cons,List.map_nil,zns] at he
  exact (h'.blk k e he).2.1.congr (hfix k (zkf he).1).symm (Nat.le_refl _) rfl fun c hc j hj=>(hfix j ((zkf he).2 c hc j hj)).symm
theorem yaws {L:List Ins} (hP:RightP L):CallOK Tryz.prog ⟨65,[.c (.sx 0 L.length)],[(0,⟨true,pcell L,5⟩)],⟨.tu [],[(0,pcell (ridR L).1)],none⟩⟩:=by
 have hpos:=hP.pos
 have hle:=hP.le
 refine ⟨⟨fun k hk=>(nomatch hk),fun k cs hm c hc j hj=>?_,fun _ _ h=>(nomatch h)⟩,fun k cs hm=>?_,fun β w hgw hgx hB hI=>?_⟩
 ·have:=List.mem_singleton.1 hm;injection this with _ h2;subst h2
  exact (ze1 (zaj _) hc hj).elim
 ·have:=List.mem_singleton.1 hm;injection this with h1 _;subst h1
  exact ⟨⟨true,pcell L,5⟩,rfl,rfl,zlt hpos⟩
 have hrel:=zto (N:=Tryz.f65.ntmps) (args:=[.c (.sx 0 L.length)]) (ztz (b:=true) (r:=5) (cs:=pcell L) rfl (zaj L)) (Nat.le_of_ble_eq_true rfl) hB hI (fun B=>(∃ k,k∈[0]∧B=(β k).1)∧ng≤B) (fun k e he hw=>by have:=hgx k e he hw;obtain ⟨rfl,_⟩:=zbh he;exact ⟨⟨0,by simp,rfl⟩,this⟩) hgw fun _ hb=>hb.2
 refine (callsIn_wide (n:=4)).1 (callsIn_of_wp_marks (c:=zdp Tryz.f65) Tryz.func65 rfl trivial ?_ rfl)
 have hb:zdp Tryz.f65=.seq (match yame Tryz.f65 with | .seq x _=>x | c=>c) (.seq (match yame Tryz.f65 with | .seq _ (.seq y _)=>y | c=>c) (.seq (match yame Tryz.f65 with | .seq _ (.seq _ z)=>z | c=>c) (.block 0 (.rangeFunc (.tmp 10) #[11] (asR Tryz.f65) (yadj Tryz.f65))))):=by kernel_rfl
 rw [hb]
 have cF:CallOK Tryz.prog ⟨118,[.c (.i (L.length:Int))],[],⟨.c (.f 163 [9]),[],some (9,⟨true,[.i (L.length:Int)],0⟩)⟩⟩ :=
  ((zqp (L.length:Int)).ren (swp 0 9) (zbl 0 9)).congr rfl
 have hlow:Kn.Low ⟨[(1,AV.c (AC.w 1)),(2,AV.c (AC.w 5)),(10,AV.c (AC.f 163 [9]))],[(0,Ent.mk true (pcell L) 5),(1,Ent.mk true [AC.sx 0 L.length] 0),(4,Ent.mk true (rcell (List.replicate L.length no6)) 0),(5,Ent.mk true [AC.sl 4 0 L.length L.length] 0),(9,Ent.mk true [AC.i (L.length:Int)] 0)],10⟩:=by
  refine ⟨yavk rfl,fun k e he=>?_⟩
  by_cases h9:k=9
  ·subst h9
   injection he with he;subst he
   refine ⟨show 9<10 by decide,fun c hc j hj=>?_⟩
   rw [List.mem_singleton.1 hc] at hj;cases hj
  ·refine zkf (L:=L) (A:=List.replicate L.length no6) (p:=L.length) (r:=5) (e:=e) ?_
   simp only [zav] at he ⊢
   rw [if_neg h9] at he
   exact he
 have hhead:=yapp (L:=L) (p:=L.length) (C:=cx w β 1 [0]) (by simp;omega) (by rw [Int.toNat_natCast,← zp9];rfl) cF hlow (fun k hk=>Nat.lt_of_lt_of_le hk (by decide))
 refine hhead none 4 _ _ (fun β1 a w1 hr1=>?_) β _ w hrel
 have lift:∀ {k:Nat} {e:Ent},look (rdH L (List.replicate L.length no6) L.length 5) k=some e→look [(0,Ent.mk true (pcell L) 5),(1,Ent.mk true [AC.sx 0 L.length] 0),(4,Ent.mk true (rcell (List.replicate L.length no6)) 0),(5,Ent.mk true [AC.sl 4 0 L.length L.length] 0),(9,Ent.mk true [AC.i (L.length:Int)] 0)] k=some e:=fun {k e} he=>by
  rcases zht he with ⟨rfl,rfl⟩ | ⟨rfl,rfl⟩ | ⟨rfl,rfl⟩ | ⟨rfl,rfl⟩ <;> rfl
 have cne:∀ {k:Nat} {e:Ent},look (rdH L (List.replicate L.length no6) L.length 5) k=some e→e.cells≠[]:=fun {k e} he=>by
  rcases zht he with ⟨rfl,rfl⟩ | ⟨rfl,rfl⟩ | ⟨rfl,rfl⟩ | ⟨rfl,rfl⟩
  ·exact zlt hpos
  ·exact List.cons_ne_nil _ _
  ·intro h0
   have:=congrArg List.length h0
   simp only [zfu,List.length_replicate,List.length_nil] at this
   omega
  ·exact List.cons_ne_nil _ _
 have hk:∀ k e,look (rdH L (List.replicate L.length no6) L.length 5) k=some e→Blk β1 w1 k e∧(w.heap.size≤(β1 k).1∨(β1 k).1=(β 0).1):=fun k e he=>by
  have hx:=hr1.blk k e (lift he)
  refine ⟨hx.2.1,?_⟩
  rcases hx.2.2.2 (by rcases zht he with ⟨rfl,rfl⟩ | ⟨rfl,rfl⟩ | ⟨rfl,rfl⟩ | ⟨rfl,rfl⟩ <;> rfl) with h | ⟨⟨j,hj,h⟩,_⟩
  ·exact Or.inl h
  ·rw [List.mem_singleton.1 hj] at h;exact Or.inr h
 have hkk:∀ k,k∈[0,1,4,5]→∃ e,look (rdH L (List.replicate L.length no6) L.length 5) k=some e:=fun k hk=>by
  simp only [List.mem_cons,List.not_mem_nil,or_false] at hk
  rcases hk with rfl | rfl | rfl | rfl <;> exact ⟨_,rfl⟩
 have hlt:∀ k,k∈[0,1,4,5]→(β1 k).1<w1.heap.size:=fun k h=>by
  obtain ⟨e,he⟩:=hkk k h
  exact (hk k e he).1.lt
 have hinj:∀ i j,i∈[0,1,4,5]→j∈[0,1,4,5]→i≠j→(β1 i).1≠(β1 j).1:=fun i j hi hj hne=>by
  obtain ⟨e,he⟩:=hkk i hi
  obtain ⟨e',he'⟩:=hkk j hj
  refine hr1.inj i e j e' (lift he) (lift he') hne ?_ (cne he) (cne he')
  rcases zht he with ⟨rfl,rfl⟩ | ⟨rfl,rfl⟩ | ⟨rfl,rfl⟩ | ⟨rfl,rfl⟩ <;> rfl
 have hng:∀ k,k∈[0,1,4,5]→ng≤(β1 k).1:=fun k h=>by
  obtain ⟨e,he⟩:=hkk k h
  rcases (hk k e he).2 with h1 | h1
  ·exact Nat.le_trans hgw.size h1
  ·rw [h1];exact hgx 0 _ rfl rfl
 have h9:=hr1.blk 9 _ rfl
 have t1:=(hr1.tmp 1 _ rfl).1
 have t2:=(hr1.tmp 2 _ rfl).1
 have h48:a.tmps.size=48:=hr1.size
 refine wpIn_block (wpIn_rangeFunc_ownG (F:=Fence.wide) (n:=4) (α:=Upto L.length) rfl (by decide) (gf:=163) (lb:=#[.pointer (some (ptr β1 9 0))]) ((hr1.ev (x:=.tmp 10) rfl).1) trivial (enters_of Tryz.func163 (by kernel_rfl) rfl) (ztm hpos hle 3 (ptr β1 9 0) (by decide) w1 h9.2.1.lt (h9.2.1.cell 0 _ rfl)) (fun _ _=>trivial) (fun _ _ _ _ _ _ _ _=>trivial) (Below.refl _ _) (fun _=>rfl) (RI β1 L w1) (fun _ _ _=>False) ?own (fun _ _ _ _ _ h _ _=>h) ?h0 (fun x=>⟨(a.tmps.setIfInBounds 11 (.int .i64 (x.1:Int))).setIfInBounds 3 (.int .i64 (x.1:Int)),[]⟩) ?assign ?body ?done ?stop)
 case own=>exact fun s W W' row hs hg hr=>hs.below hlt ((Below.refl _ W).grown hg hs.fr.size (fun k e=>(hr k e).1)) hr1.gd.now.size
 case h0=>exact ⟨⟨5,fun k e he=>(hk k e he).1⟩,Fr.refl _ _,hr1.gd.now⟩
 case assign =>
  intro l x W K hK
  have e:Array.foldl (fun t (x:Tmp×Value)=>match x with | (p,v)=>t.setIfInBounds p v) a.tmps (#[11].zip (encN x))=a.tmps.setIfInBounds 11 (.int .i64 (x.1:Int)):=by simp [encN]
  have:=yak7 (l:=l) (m:=2) (t:=a.tmps.setIfInBounds 11 (.int .i64 (x.1:Int))) (v:=.int .i64 (x.1:Int)) (W:=W) (K:=K) (by simp [h48]) hK
  rw [← e] at this
  exact this
 case body =>
  intro l pre x W hI hlen
  refine RI.round hP hI ?_ rfl ?_ ?_ ?_ hlt hinj hng l 2
  ·simp [h48]
  ·simp;exact t1
  ·simp;exact t2
  ·simp [h48]
 case done =>
  rintro D xs W hD rfl hI hK
  show LeavesInM Fence.wide 4 Tryz.prog Tryz.f65 a.tmps _ (_::a.defers) .returning W
  rw [hr1.defers]
  refine ⟨by simp,.inl ⟨_,_,rfl,run_takeDeferred hK,?_⟩⟩
  refine ⟨_,results_none rfl _ _ _,?_⟩
  have hw1:=hr1.frame.size
  have hW:=hI.fr.size
  have hne:∀ k,k<w1.heap.size→(W.putObj D (.deferred none)).heap[k]?=W.heap[k]?:=fun k hk=>World.putObj_heap_other (by omega)
  have hps:(W.putObj D (.deferred none)).heap.size=W.heap.size:=by simp [World.putObj]
  have b0:β1 0=β 0:=(hr1.fix 0 (show 0<1 by decide)).2
  refine ⟨β,rfl,⟨hI.fr.os.trans hr1.frame.os,hI.fr.tape.trans hr1.frame.tape,hI.fr.output.trans hr1.frame.output,by rw [hps];exact Nat.le_trans hw1 hW,fun k hkw hx=>?_⟩,fun k cs hm=>?_,rfl⟩
  ·have hx0:¬ k=(β 0).1:=fun e=>hx ⟨0,_,List.mem_singleton.2 rfl,e⟩
   refine (hne k (Nat.lt_of_lt_of_le hkw hw1)).trans ((hI.fr.block k (Nat.lt_of_lt_of_le hkw hw1) ?_).trans (hr1.frame.block k hkw ?_))
   ·rintro ⟨j,hj,rfl⟩
    obtain ⟨e,he⟩:=hkk j hj
    rcases (hk j e he).2 with h | h
    ·change w.heap.size≤_ at h
     exact absurd hkw (by change ¬ _<w.heap.size;omega)
    ·exact hx0 h
   ·rintro ⟨⟨j,hj,rfl⟩,_⟩
    rw [List.mem_singleton.1 hj] at hx0
    exact hx0 rfl
  ·have:=List.mem_singleton.1 hm
   injection this with h1 h2
   subst h1 h2
   obtain ⟨r,hr⟩:=hI.blk
   have hb:=hr 0 _ rfl
   have hm:(down L.length hpos L.length).map (·.1)=(List.range L.length).map fun j=>L.length - 1 - j:=by
    unfold down
    rw [List.map_map];rfl
   rw [hm,yabo] at hb
   have hb':=hb.congr (β':=β) (w':=W.putObj D (.deferred none)) b0.symm (by rw [hps];exact Nat.le_refl _) (hne _ (hlt 0 (by decide))) fun c hc j hj=>(ze1 (zaj _) hc hj).elim
   exact ⟨hb'.lt,hb'.cell,hb'.free,fun h=>absurd rfl h⟩
 case stop =>
  rintro D c pre W _ _ h _
  exact h.elim
end Go.Proofs.YtkigmocchaikgabGreatDoor
namespace Go.Proofs.YtkigmocchaikgabGreatDoor
open Go.RowKit
section
variable {L:List Ins} {c n q:Nat} {s s1:ByteArray} {x y:BitVec 64} {r1:Outc} {e f tr p n1:Int} {w:World} {β:Bs} {S:List St}
end
def zis (K n:Nat) (L:List Ins):Eff:=⟨.tu [.c (.sx K n),.c (.i 0)],[],some (K,⟨true,pcell L,0⟩)⟩
theorem zlz (ρ:Nat→Nat) (K n:Nat) (L:List Ins):(zis K n L).ren ρ=zis (ρ K) n L:=by
 unfold zis Eff.ren
 simp only [Option.map_some,Ent.ren,zck ρ (zaj L)]
 rfl
theorem zlw {L:List Ins} {c:Nat} (hP:RightP L):CallOK Tryz.prog ⟨114,[.c (.sl 0 0 L.length c)],pH L,⟨.c (.sx 14 L.length),[],some (14,⟨true,pcell L,5⟩)⟩⟩:=by
 refine ((yagg (c:=c) hP.pos hP.le).ren (swp 6 14) (zbl 6 14)).congr ?_
 unfold CallRec.ren Eff.ren renH
 simp only [List.map_cons,List.map_nil,Option.map_some,Ent.ren,zck _ (zaj _)]
 rfl
theorem yaqj {f n:Nat} {L M:List Ins} {S:List St} (h:CallOK Tryz.prog ⟨f,[.c (.sx 0 n),.c (.sl 1 0 n n)],[(0,⟨true,pcell L,5⟩),(1,⟨false,scell S,0⟩)],⟨.tu [],[(0,pcell M)],none⟩⟩) :
  CallOK Tryz.prog ⟨f,[.c (.sx 14 n),.c (.sl 4 0 n n)],[(14,⟨true,pcell L,5⟩),(4,⟨true,scell S,0⟩)],⟨.tu [],[(14,pcell M)],none⟩⟩:=by
 refine CallOK.more (H:=[(14,⟨true,pcell L,5⟩),(4,⟨false,scell S,0⟩)]) ?_ ⟨fun j en hj=>?_⟩
 ·refine ((h.ren (swp 1 4) (zbl 1 4)).ren (swp 0 14) (zbl 0 14)).congr ?_
  unfold CallRec.ren Eff.ren renH
  simp only [List.map_cons,List.map_nil,Option.map_none,Ent.ren,zck _ (zaj _),zck _ (za9 _)]
  rfl
 ·rw [zav] at hj
  split at hj
  ·rename_i hk;injection hj with hj;subst hj hk
   exact ⟨⟨true,pcell L,5⟩,rfl,rfl,fun h=>h,Or.inr rfl⟩
  ·obtain ⟨rfl,rfl⟩:=zbh hj
   exact ⟨⟨true,scell S,0⟩,rfl,rfl,fun h=>(by cases h),Or.inl rfl⟩
theorem yapy {L:List Ins} {S:List St} (hP:RightP L):CallOK Tryz.prog ⟨64,[.c (.sx 0 L.length),.c (.sl 1 0 L.length L.length)],[(0,⟨true,pcell L,5⟩),(1,⟨false,scell S,0⟩)],⟨.tu [],[(0,pcell (ridR L).1)],none⟩⟩ :=
 yaql Tryz.func64 rfl rfl rfl (zaj L) (za9 S) (zlt hP.pos) rfl (zaj _) fun _ _ hk=>ybaa (yaws hP) hk
theorem yafu {L:List Ins} {c:Nat} (hL:zan L=0) (h0:(zar L).trap=0):CallOK Tryz.prog ⟨61,[.c (.sl 0 0 L.length c),.c (.f 62 [])],pH L,zis 14 L.length (zei L)⟩:=by
 have hP:=zbu hL
 have hout:=zhh hP
 have e:zei L=zch (zar L).sts L 0:=by unfold zei;rw [if_pos h0]
 rw [e]
 exact zcs Tryz.func61 rfl rfl rfl (zaj L) (by decide) rfl (zaj _) fun _ _ hk=>yapb (zj2 hL h0 (by decide)) (zlw hP) (yaqj (yamw hP (hout.none h0).2 hout.ok)) hk
theorem yad3 {L:List Ins} {c:Nat} (hL:zan L=0) (h0:(zar L).trap=0):CallOK Tryz.prog ⟨61,[.c (.sl 0 0 L.length c),.c (.f 64 [])],pH L,zis 14 L.length (ze4 L)⟩:=by
 have hP:=zbu hL
 have e:ze4 L=(ridR L).1:=by unfold ze4;rw [if_pos h0]
 rw [e]
 exact zcs Tryz.func61 rfl rfl rfl (zaj L) (by decide) rfl (zaj _) fun _ _ hk=>yan1 (zj2 hL h0 (by decide)) (zlw hP) (yaqj (yapy hP)) hk
theorem toK {f a:Nat} {L M:List Ins} {n c:Nat} (h:CallOK Tryz.prog ⟨f,[.c (.sl 0 0 n c)],pH L,zis a n M⟩) (ha:a≠0) {K:Nat} (hK:K≠0):CallOK Tryz.prog ⟨f,[.c (.sl 0 0 n c)],pH L,zis K n M⟩:=by
 have h2:=h.ren (swp a K) (zbl a K)
 have e0:swp a K 0=0:=zfo (Ne.symm ha) (Ne.symm hK)
 unfold CallRec.ren at h2
 simp only [zlz,zel,zo8 e0] at h2
 refine h2.congr ?_
 show CallRec.mk _ [AV.c (AC.sl 0 0 n c)] _ _=CallRec.mk _ [AV.c (AC.sl (swp a K 0) 0 n c)] _ _
 rw [e0]
theorem toK2 {f g a:Nat} {L M:List Ins} {n c:Nat} (h:CallOK Tryz.prog ⟨f,[.c (.sl 0 0 n c),.c (.f g [])],pH L,zis a n M⟩) (ha:a≠0) {K:Nat} (hK:K≠0):CallOK Tryz.prog ⟨f,[.c (.sl 0 0 n c),.c (.f g [])],pH L,zis K n M⟩:=by
 have h2:=h.ren (swp a K) (zbl a K)
 have e0:swp a K 0=0:=zfo (Ne.symm ha) (Ne.symm hK)
 unfold CallRec.ren at h2
 simp only [zlz,zel,zo8 e0] at h2
 refine h2.congr ?_
 show CallRec.mk _ [AV.c (AC.sl 0 0 n c),AV.c (AC.f g [])] _ _=CallRec.mk _ [AV.c (AC.sl (swp a K 0) 0 n c),AV.c (AC.f g [])] _ _
 rw [e0]
theorem yarv {L:List Ins} {c:Nat} (hL:zan L=0) (h0:(zar L).trap=0) {K:Nat} (hK:K≠0):CallOK Tryz.prog ⟨25,[.c (.sl 0 0 L.length c)],pH L,zis K L.length (zei L)⟩ :=
 toK (a:=4) (zcs Tryz.func25 rfl rfl rfl (zaj L) (by decide) rfl (zaj _) fun _ _ hk=>yap7 (toK2 (yafu hL h0) (by decide) (by decide)) hk) (by decide) hK
theorem yatp {L:List Ins} {c:Nat} (hL:zan L=0) (h0:(zar L).trap=0) {K:Nat} (hK:K≠0):CallOK Tryz.prog ⟨26,[.c (.sl 0 0 L.length c)],pH L,zis K L.length (ze4 L)⟩ :=
 toK (a:=4) (zcs Tryz.func26 rfl rfl rfl (zaj L) (by decide) rfl (zaj _) fun _ _ hk=>yaq7 (toK2 (yad3 hL h0) (by decide) (by decide)) hk) (by decide) hK
theorem yat0:(zar fL).trap=0:=by kernel_rfl
theorem yats:zei fL=fF:=by kernel_rfl
theorem yatf:ze4 fF=fD:=by kernel_rfl
theorem zt8 (L:List Ins):(zei L).length=L.length:=by
 unfold zei
 split
 ·exact (zf8 _ L 0).1
 ·rfl
theorem zur (L:List Ins):(ze4 L).length=L.length:=by
 unfold ze4
 split
 ·exact (zly L).1
 ·rfl
theorem yanu {L:List Ins} {c:Nat} (hL:zan L=0) {K:Nat} (hK:K≠0):CallOK Tryz.prog ⟨25,[.c (.sl 0 0 L.length c)],pH L,zis K L.length (zei L)⟩:=by
 by_cases h0:(zar L).trap=0
 ·exact yarv hL h0 hK
 ·have hP:=zbu hL
  have e:zei L=L:=by unfold zei;rw [if_neg h0]
  rw [e]
  have ch:CallOK Tryz.prog ⟨61,[.c (.sl 0 0 L.length c),.c (.f 62 [])],pH L,zis 14 L.length L⟩:=zje (r:=5) (zcs Tryz.func61 rfl rfl rfl (zaj L) (by decide) rfl (zaj _) fun _ _ hk=>yapl (zaa (by simpa using h0) rfl) (zjy hL h0 (by decide)) (zlw hP) hk)
  exact toK (a:=4) (zcs Tryz.func25 rfl rfl rfl (zaj L) (by decide) rfl (zaj _) fun _ _ hk=>yap7 (toK2 ch (by decide) (by decide)) hk) (by decide) hK
theorem yan6 {L:List Ins} {c:Nat} (hL:zan L=0) {K:Nat} (hK:K≠0):CallOK Tryz.prog ⟨26,[.c (.sl 0 0 L.length c)],pH L,zis K L.length (ze4 L)⟩:=by
 by_cases h0:(zar L).trap=0
 ·exact yatp hL h0 hK
 ·have hP:=zbu hL
  have e:ze4 L=L:=by unfold ze4;rw [if_neg h0]
  rw [e]
  have ch:CallOK Tryz.prog ⟨61,[.c (.sl 0 0 L.length c),.c (.f 64 [])],pH L,zis 14 L.length L⟩:=zje (r:=5) (zcs Tryz.func61 rfl rfl rfl (zaj L) (by decide) rfl (zaj _) fun _ _ hk=>yana (zaa (by simpa using h0) rfl) (zjy hL h0 (by decide)) (zlw hP) hk)
  exact toK (a:=4) (zcs Tryz.func26 rfl rfl rfl (zaj L) (by decide) rfl (zaj _) fun _ _ hk=>yaq7 (toK2 ch (by decide) (by decide)) hk) (by decide) hK
end Go.Proofs.YtkigmocchaikgabGreatDoor
namespace Go.Proofs.YtkigmocchaikgabGreatDoor
open Go.RowKit Go.Lib
theorem yaan {s:ByteArray} {L:List Ins} (h:zh0 s=some L) (K:Nat):CallOK Tryz.prog ⟨7,[.c (.s s)],[],⟨.tu [.c (.sx K L.length),.c (.i 0)],[],some (K,⟨false,pcell L,0⟩)⟩⟩:=by
 refine ⟨⟨fun k hk=>Or.inr (List.mem_singleton.1 hk),fun _ _ hm=>(nomatch hm),fun k en hm c hc j hj=>?_⟩,fun _ _ hm=>(nomatch hm),fun β w hgw _ _ _=>?_⟩
 ·injection hm with hm;injection hm with _ hm;subst hm;exact (ze1 (zaj L) hc hj).elim
 ·have hr:=yajw s hgw
  rw [h] at hr
  refine hr.mono fun e w' ⟨⟨g,c,he,hg,hp⟩,hb⟩=>?_
  have hp0:∀ j,ptr (bset β K (g,0,c)) K j=⟨g,0+j,none⟩:=fun j=>by unfold ptr;simp [bset]
  refine ⟨bset β K (g,0,c),?_,Fr.of_below hb,fun _ _ hm=>(nomatch hm),g,0,c,Or.inl hg,hp.1,rfl,?_,fun j x hj=>?_,fun h=>(nomatch h),fun h=>absurd rfl h⟩
  ·rw [he]
   show _=Ending.returned (.tuple #[.slice (some (ptr (bset β K (g,0,c)) K 0)) L.length (bset β K (g,0,c) K).2.2,.int .i64 0])
   rw [hp0];simp [bset]
  ·show (bset β K (g,0,c) K).1<_
   simp only [bset,if_pos];exact hp.1
  ·rw [hp0];exact hp.2 j x hj _
theorem yaf8 {s:ByteArray} (h:zh0 s=none):Ok 7 [.c (.s s)] (.tu [.c zco,.c (.i 1)]) :=
 zd3 (A:=#[.string s]) (V:=.tuple #[.slice none 0 0,.int .i64 1]) (fun _=>rfl) (fun _=>rfl) rfl fun w hw=>by
  have hr:=yajw s hw
  rw [h] at hr
  exact hr
theorem yanw {L:List Ins} (he:zan L=0) (c:Nat):CallOK Tryz.prog ⟨18,[.c (.sl 0 0 L.length c)],pH L,⟨.tu [.c (.s (bs (shown L))),.c (.i 0)],[],none⟩⟩:=by
 refine ⟨⟨fun k hk=>(nomatch hk),fun _ _ hm=>(nomatch hm),fun _ _ hm=>(nomatch hm)⟩,fun _ _ hm=>(nomatch hm),fun β w hgw _ hB _=>?_⟩
 have hb:=hB 0 ⟨false,pcell L,0⟩ rfl
 have hp:PAt w (β 0).1 (β 0).2.1 L:=⟨hb.lt,fun j x hj β'=>by
  have:=hb.cell j x hj
  unfold ptr at this
  rw [this]
  exact congrArg some (AC.g_congr x fun k hk=>(ze1 (zaj L) (List.mem_of_getElem? hj) hk).elim)⟩
 exact (yahs (c:=c) hp hgw he).mono fun e w' ⟨h1,h2⟩=>⟨β,h1,Fr.of_below h2,fun _ _ hm=>(nomatch hm),rfl⟩
theorem zjt {L:List Ins} (hL:zan L=0):zan (zei L)=0:=by
 have hP:=zbu hL
 unfold zei
 split
 ·exact zpa (zyf hP _)
 ·exact hL
theorem zj0 {L:List Ins} (hL:zan L=0):zan (ze4 L)=0:=by
 have hP:=zbu hL
 unfold ze4
 split
 ·exact zpa (yalj hP)
 ·exact hL
def zkx (s:ByteArray):ByteArray×Int :=
 match zh0 s with
 | none=>(bs [],1)
 | some L=>if (zar L).trap≠0 then (bs ([116,114,97,112,32]++itoa (zar L).trap++[32]++itoa (zar L).pos++[10]),0) else (bs ([115,97,102,101,10]++shown (ze4 (zei L))),0)
theorem zlk {n:Int} (h:-9223372036854775808≤n∧n≤9223372036854775807):(bs (itoa n)).size≤21:=by
 rw [zdw];exact itoa_length_le n h.1 h.2
theorem zt0 (a b:Int):ByteArray.mk #[116,114,97,112,32]++bs (itoa a)++ByteArray.mk #[32]++bs (itoa b)++ByteArray.mk #[10]=bs ([116,114,97,112,32]++itoa a++[32]++itoa b++[10]):=by
 show bs [116,114,97,112,32]++bs (itoa a)++bs [32]++bs (itoa b)++bs [10]=_
 simp only [zhd]
theorem zvk (l:List UInt8):ByteArray.mk #[115,97,102,101,10]++bs l=bs ([115,97,102,101,10]++l):=zhd [115,97,102,101,10] l
theorem zo7 {L:List Ins} (h:zan L=0):(bs (shown L)).size≤6300:=by
 obtain ⟨h64,hF⟩:=zg4 h
 have:=zhe hF
 rw [zdw];omega
theorem zyh {L:List Ins} (hL:zan L=0) (c:Nat):CallOK Tryz.prog ⟨10,[.c (.sl 0 0 L.length c)],pH L,⟨.tu [.c (.s (bs (shown (ze4 (zei L))))),.c (.i 0)],[],none⟩⟩:=by
 have h1:=zjt hL
 have h2:=zj0 h1
 have e1:=zt8 L
 have e2:=zur (zei L)
 refine zgr Tryz.func10 rfl rfl (zqn rfl) rfl ro_p fun w β=>yazz (L3:=ze4 (zei L)) (yanu hL (by decide)) ?_ ?_
 ·refine CallOK.of_cap (xs:=[]) (bs:=[]) fun d=>?_
  have:=yan6 (c:=d) h1 (K:=13) (by decide)
  rw [e1] at this
  exact p_to this 4 true rfl (by rw [zlz];rfl)
 ·refine CallOK.of_cap (xs:=[]) (bs:=[]) fun d=>?_
  have:=yanw h2 d
  rw [e2,e1] at this
  exact p_to this 13 true rfl rfl
theorem yau0 (i:Ins) (t:St):0≤(zag i t).2.2∧(zag i t).2.2≤64:=by
 unfold zag zek
 repeat' split
 all_goals simp
theorem yaa6 {L:List Ins} (hP:RightP L) (h0:(zar L).trap≠0):(0≤(zar L).trap∧(zar L).trap≤64)∧0≤(zar L).pos∧(zar L).pos≤64:=by
 obtain ⟨p,h1,_,h3,_,h5⟩:=(zhh hP).some h0
 have hle:=hP.le
 refine ⟨?_,by omega,by omega⟩
 rw [← h5]
 exact yau0 _ _
theorem zs1 (s:ByteArray):Ok 4 [.c (.s s)] (.tu [.c (.s (zkx s).1),.c (.i (zkx s).2)]):=by
 unfold zkx
 cases h:zh0 s with
 | none=>exact yawx (yaf8 h)
 | some L =>
  have hL:=(zof h).1
  have hP:=zbu hL
  simp only
  by_cases h0:(zar L).trap=0
  ·rw [if_neg (fun x=>x h0)]
   have hz:=zo7 (zj0 (zjt hL))
   rw [← zvk]
   refine yawl (S2:=(zar L).sts) (zaa (decide_eq_true (by omega)) rfl) (yaan h 3) ?_ ?_
   ·refine CallOK.of_cap (xs:=[]) (bs:=[]) fun d=>?_
    exact p_to (zj2 (c:=d) hL h0 (K:=12) (by decide)) 3 false rfl (by unfold okE Eff.ren;simp only [Option.map_some,Ent.ren,zck _ (za9 _)];rfl)
   ·refine CallOK.of_cap (xs:=[]) (bs:=[]) fun d=>?_
    exact p_to (zyh hL d) 3 false rfl rfl
  ·rw [if_pos h0]
   obtain ⟨ha,hb⟩:=yaa6 hP h0
   have ia:=zki (zar L).trap (by omega) (by omega)
   have ib:=zki (zar L).pos (by omega) (by omega)
   have la:=zlk (n:=(zar L).trap) (by omega)
   have lb:=zlk (n:=(zar L).pos) (by omega)
   rw [← zt0]
   refine yaxf (q:=(zar L).sts.length) (S2:=(zar L).sts) (zaa (by simpa using h0) ?_) (yaan h 3) ?_ ia ib
   ·repeat' apply zaa
    all_goals first | rfl | (refine zkz ?_;(try simp only [ByteArray.size_append,sz1]);(try simp only [show ByteArray.size (ByteArray.mk #[116,114,97,112,32])=5 from rfl]);omega)
   ·refine CallOK.of_cap (xs:=[]) (bs:=[]) fun d=>?_
    exact p_to (zjy (c:=d) hL h0 (K:=12) (by decide)) 3 false rfl (by unfold zou Eff.ren;simp only [Option.map_some,Ent.ren,zck _ (za9 _)];rfl)
theorem yaui {P:Program} {f:Nat} {args args':List AV} {L:List Ins} {e e':Eff} (h:CallOK P ⟨f,args,pH L,e⟩) (K:Nat) (b:Bool) (r:Nat) (ha:args.map (AV.ren (swp 0 K))=args') (he:e.ren (swp 0 K)=e'):CallOK P ⟨f,args',[(K,⟨b,pcell L,r⟩)],e'⟩:=by
 refine CallOK.more (p_to h K b ha he) ⟨fun j en hj=>?_⟩
 obtain ⟨rfl,rfl⟩:=zbh hj
 exact ⟨⟨b,pcell L,r⟩,by rw [zav,if_pos rfl],rfl,fun h=>h,Or.inl rfl⟩
theorem yack {n:Int} (h0:0≤n) (h1:n≤64):Ok 13 [.c (.u (BitVec.ofInt 64 n))] (.c (.s (bs (itoa n)))):=by
 obtain ⟨k,rfl⟩:∃ k:Nat,n=k:=⟨n.toNat,by omega⟩
 rw [zi8,itoa,if_neg (by omega),Int.toNat_natCast]
 exact zg3 k (by omega)
theorem yaj0 (s:ByteArray):Ok 5 [.c (.s s)] (.tu [.c (.s (zkx s).1),.c (.i (zkx s).2)]):=by
 unfold zkx
 cases h:zh0 s with
 | none=>exact yazk (zr1 ((yab6 s).trans h))
 | some L =>
  have hL:=(zof h).1
  have hP:=zbu hL
  have hcf:CallOK Tryz.prog ⟨11,[.c (.s s)],[],⟨.tu [.c (.sx 3 L.length),.c (.b true)],[],some (3,⟨true,pcell L,5⟩)⟩⟩:=by
   refine ((zr4 ((yab6 s).trans h)).ren (swp 50 3) (zbl 50 3)).congr ?_
   unfold CallRec.ren Eff.ren renH
   simp only [List.map_nil,Option.map_some,Ent.ren,zck _ (zaj L),zel]
   rfl
  simp only
  by_cases h0:(zar L).trap=0
  ·rw [if_neg (fun x=>x h0)]
   have h1:=zjt hL
   have h2:=zj0 h1
   have e1:=zt8 L
   have e2:=zur (zei L)
   have hz:=zo7 h2
   rw [← zvk]
   refine yawg (S2:=(zar L).sts) (L2:=zei L) (L3:=ze4 (zei L)) (zaa (decide_eq_true (by omega)) rfl) hcf ?_ ?_ ?_ ?_
   ·refine CallOK.of_cap (xs:=[]) (bs:=[]) fun d=>?_
    exact yaui (zio (c:=d) hP h0 12 (by decide)) 3 true 5 rfl (by unfold Eff.ren;simp only [Option.map_some,Ent.ren,zck _ (za9 _)];rfl)
   ·refine CallOK.of_cap (xs:=[]) (bs:=[]) fun d=>?_
    exact yaui (yale (c:=d) hP (K:=19) (by decide)) 3 true 5 rfl (by rw [zsb];rfl)
   ·refine CallOK.of_cap (xs:=[]) (bs:=[]) fun d=>?_
    have:=yaiu (c:=d) (zbu h1) (K:=20) (by decide)
    rw [e1] at this
    exact p_to this 19 true rfl (by rw [zsb];rfl)
   ·refine CallOK.of_cap (xs:=[]) (bs:=[]) fun d=>?_
    have:=zin d h2
    rw [e2,e1] at this
    exact p_to this 20 true rfl rfl
  ·rw [if_pos h0]
   obtain ⟨ha,hb⟩:=yaa6 hP h0
   have la:=zlk (n:=(zar L).trap) (by omega)
   have lb:=zlk (n:=(zar L).pos) (by omega)
   rw [← zt0]
   refine yaw6 (q:=(zar L).sts.length) (S2:=verF L L.length 0 (zey L.length)) (zaa (by simpa using h0) ?_) hcf ?_ (yack ha.1 ha.2) (yack hb.1 hb.2)
   ·repeat' apply zaa
    all_goals first | rfl | (refine zkz ?_;(try simp only [ByteArray.size_append,sz1]);(try simp only [show ByteArray.size (ByteArray.mk #[116,114,97,112,32])=5 from rfl]);omega)
   ·refine CallOK.of_cap (xs:=[]) (bs:=[]) fun d=>?_
    exact yaui (zhl (c:=d) hP 12 (by decide)) 3 true 5 rfl (by rw [yah4];rfl)
def tL:List Ins:=[⟨10,0,1,1#64,0⟩,⟨15,0,0,0#64,0⟩]
theorem zzw {L:List Ins} {s:ByteArray} (h:zan L=0) (hn:L.length≤6) (hs:s.data.toList=shown L):zkx s=if (zar L).trap≠0 then (bs ([116,114,97,112,32]++itoa (zar L).trap++[32]++itoa (zar L).pos++[10]),0) else (bs ([115,97,102,101,10]++shown (ze4 (zei L))),0):=by
 have e:s=bs (shown L):=by rw [← hs,zw6]
 have hl:=zhe (zg4 h).2
 have hr:zh0 s=some L:=by rw [e];exact zom h (by rw [zdw];omega)
 unfold zkx
 rw [hr]
theorem ztl:Ok 6 [] (.c (.b true)):=by
 have hL:zan fL=0:=by kernel_rfl
 have hT:zan tL=0:=by kernel_rfl
 have tT:(zar tL).trap=2:=by kernel_rfl
 have tP:(zar tL).pos=0:=by kernel_rfl
 have j1:=fun s hs=>zzw (s:=s) hL (by decide) hs
 have j2:=fun s hs=>zzw (s:=s) hT (by decide) hs
 rw [if_neg (fun x=>x yat0),yats,yatf] at j1
 rw [tT,tP,if_pos (by decide)] at j2
 refine zam (yaz6 (u1:=bs ([115,97,102,101,10]++shown fD)) (u2:=bs ([116,114,97,112,32]++itoa 2++[32]++itoa 0++[10])) ?_ ?_ ?_) ?_
 ·rw [zig,zep]
  decide +kernel
 ·refine zam (zs1 _) ?_
  rw [j1 _ (by decide +kernel)]
 ·refine zam (zs1 _) ?_
  rw [j2 _ (by decide +kernel)]
 ·rw [zig,zep]
  exact congrArg (fun x=>AV.c (.b x)) (by decide +kernel)
theorem zsh (s:ByteArray):Ok 3 [.c (.s s)] (.c (.b true)) :=
 zam (yavq (by simp) (zs1 s) (yaj0 s) ztl) (by simp)
theorem zle (s:ByteArray) {w:World} (hg:Gw w):Calls Tryz.prog 3 #[.string s] w fun e w'=>e=.returned (.bool true)∧Below w.heap.size w w' :=
 zim (fun _=>(0,0,0)) rfl (fun _=>rfl) (zsh s) w hg
end Go.Proofs.YtkigmocchaikgabGreatDoor
