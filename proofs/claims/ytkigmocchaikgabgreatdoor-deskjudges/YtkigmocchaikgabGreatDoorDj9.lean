import Derived.Test.YtkigmocchaikgabGreatDoorDj8
import Derived.Test.YtkigmocchaikgabGreatDoorDj5
import Derived.Test.YtkigmocchaikgabGreatDoorDj6
import Derived.Test.YtkigmocchaikgabGreatDoorDj7
import Derived.Test.YtkigmocchaikgabGreatDoorProg
/- Verifying: each step's state has whatever machine comes to it: plain facts. -/
namespace Go.Proofs.YtkigmocchaikgabGreatDoor
theorem yauh {S:List St} {k:Nat} (h:S.length≤k):stAt S k=St.z:=by
 unfold stAt
 rw [List.getD_eq_getElem?_getD,List.getElem?_eq_none h];rfl
theorem yabn {S:List St} {k j:Nat} {t:St}:stAt (S.set k t) j=if k=j∧k<S.length then t else stAt S j:=by
 unfold stAt
 rw [List.getD_eq_getElem?_getD,List.getD_eq_getElem?_getD,List.getElem?_set]
 by_cases c:k=j
 ·subst c
  by_cases c2:k<S.length
  ·simp [c2]
  ·simp [c2]
 ·simp [c]
theorem zi6 {S:List St} {n j:Nat} (h:j<n):stAt (S.take n) j=stAt S j:=by
 unfold stAt
 rw [List.getD_eq_getElem?_getD,List.getD_eq_getElem?_getD,List.getElem?_take,if_pos h]
theorem zds (S:List St) (k:Nat) (t:St):(addS S k t).length=S.length:=by
 unfold addS;split
 ·exact List.length_set
 ·rfl
theorem zfs {S:List St} {k j:Nat} {t:St}:stAt (addS S k t) j=if t.live=true∧k=j∧k<S.length then (stAt S j).join t else stAt S j:=by
 unfold addS
 by_cases h:t.live=true
 ·rw [if_pos h,yabn]
  by_cases c:k=j
  ·subst c;simp [h]
  ·simp [c]
 ·rw [if_neg h,if_neg (by simp [h])]
theorem yaif {S:List St} {k j:Nat} {t:St} (h:k≠j):stAt (addS S k t) j=stAt S j:=by rw [zfs,if_neg (by simp [h])]
theorem zjv {S:List St} {k:Nat} {t:St} (h:∀ j,(stAt S j).Ok) (ht:t.Ok):∀ j,(stAt (addS S k t) j).Ok:=by
 intro j
 rw [zfs]
 split
 ·exact St.join_Ok (h j) ht
 ·exact h j
theorem znj {S:List St} {k j:Nat} {t:St} {m:Mach} (h:∀ j,(stAt S j).Ok) (ht:t.Ok) (hm:(stAt S j).Has m):(stAt (addS S k t) j).Has m:=by
 rw [zfs]
 split
 ·exact St.join_Has (h j) ht (Or.inl hm)
 ·exact hm
theorem yaa7 {S:List St} {k:Nat} {t:St} {m:Mach} (h:∀ j,(stAt S j).Ok) (ht:t.Ok) (hk:k<S.length) (hm:t.Has m):(stAt (addS S k t) k).Has m:=by
 rw [zfs,if_pos ⟨hm.live,rfl,hk⟩]
 exact St.join_Has (h k) ht (Or.inr hm)
theorem zj8 (n:Nat):(zev n).length=n:=by simp [zev]
theorem yalm {n j:Nat} (hn:0<n):stAt (zev n) j=if j=0 then beginS else St.z:=by
 unfold zev
 rw [yabn]
 by_cases c:j=0
 ·subst c;simp [hn]
 ·rw [if_neg (by omega),if_neg c]
  unfold stAt
  rw [List.getD_eq_getElem?_getD,List.getElem?_replicate]
  split <;> rfl
theorem zly {n:Nat} (hn:0<n):∀ j,(stAt (zev n) j).Ok:=by
 intro j
 rw [yalm hn]
 split
 ·exact yaim
 ·exact St.z_Ok
theorem zdg {L:List Ins} {k:Nat} (hP:RightP L) (hk:k<L.length):Right (elt L k) ((L.length - 1 - k:Nat):Int):=hP.step k hk
theorem zm3 {L:List Ins} (hP:RightP L):(elt L (L.length - 1)).op=15:=hP.last
theorem yap2 {L:List Ins} {k:Nat} {t:St} (hP:RightP L) (hk:k<L.length) (h:(zag (elt L k) t).1.live=true):k+1<L.length:=by
 rcases Nat.lt_or_ge (k+1) L.length with h1 | h1
 ·exact h1
 ·have e:k=L.length - 1:=by omega
  have ho:=zm3 hP
  rw [← e] at ho
  unfold zag goS at h
  rw [ho] at h
  split at h
  ·split at h
   ·cases h
   ·cases h
  ·cases h
theorem zuq {L:List Ins} {k:Nat} {t:St} (hP:RightP L) (hk:k<L.length) (h:(zag (elt L k) t).2.1.live=true):0≤(elt L k).of∧k+1+(elt L k).of.toNat<L.length∧((elt L k).op=12∨(elt L k).op=13∨(elt L k).op=14):=by
 have hr:=zdg hP hk
 unfold zag at h
 split at h
 ·split at h
  ·unfold goS at h
   by_cases c1:(elt L k).op=10
   ·rw [if_pos c1] at h;cases h
   rw [if_neg c1] at h
   by_cases c2:(elt L k).op=11
   ·rw [if_pos c2] at h;cases h
   rw [if_neg c2] at h
   by_cases c3:(elt L k).op=12
   ·have:=zfn hr c3
    exact ⟨this.1,by omega,Or.inl c3⟩
   rw [if_neg c3] at h
   by_cases c4:(elt L k).op=13
   ·have:=zcd hr (Or.inl c4)
    exact ⟨this.2.2.1,by omega,Or.inr (Or.inl c4)⟩
   rw [if_neg c4] at h
   by_cases c5:(elt L k).op=14
   ·have:=zcd hr (Or.inr c5)
    exact ⟨this.2.2.1,by omega,Or.inr (Or.inr c5)⟩
   rw [if_neg c5] at h
   by_cases c6:(elt L k).op=15
   ·rw [if_pos c6] at h;cases h
   rw [if_neg c6] at h
   by_cases c7:(elt L k).op=1
   ·rw [if_pos c7] at h;cases h
   rw [if_neg c7] at h;cases h
  ·cases h
 ·cases h
structure VOut (L:List Ins) (k:Nat) (S:List St) (R:Rep):Prop where
 ok:∀ j,(stAt R.sts j).Ok
 same:∀ j,j≤k→k<L.length→stAt R.sts j=stAt S j
 keep:∀ j m,(stAt S j).Has m→(R.trap=0∨(j:Int)≤R.pos)→(stAt R.sts j).Has m
 step:∀ j,k≤j→j<L.length→(R.trap=0∨(j:Int)<R.pos)→(zag (elt L j) (stAt R.sts j)).2.2=0 ∧
  (∀ m,(zag (elt L j) (stAt R.sts j)).1.Has m→(R.trap=0∨((j+1:Nat):Int)≤R.pos)→(stAt R.sts (j+1)).Has m) ∧
  (∀ m,(zag (elt L j) (stAt R.sts j)).2.1.Has m→(R.trap=0∨((j+1+(elt L j).of.toNat:Nat):Int)≤R.pos)→(stAt R.sts (j+1+(elt L j).of.toNat)).Has m)
 none:R.trap=0→R.pos=0∧R.sts.length=L.length
 some:R.trap≠0→∃ p:Nat,R.pos=p∧k≤p∧p<L.length∧R.sts.length=p+1∧(zag (elt L p) (stAt R.sts p)).2.2=R.trap
theorem yaam {L:List Ins} (hP:RightP L):∀ (n k:Nat) (S:List St),k+n=L.length→S.length=L.length→(∀ j,(stAt S j).Ok)→VOut L k S (verL L n k S)
 | 0,k,S,hk,hS,hok=>⟨hok,fun _ _ _=>rfl,fun _ _ h _=>h,fun j h1 h2=>by omega,fun _=>⟨rfl,hS⟩,fun h=>absurd rfl h⟩
 | n+1,k,S,hk,hS,hok=>by
  have hlt:k<L.length:=by omega
  have hr:=zdg hP hlt
  obtain ⟨q1,q2⟩:=zrz hr (hok k)
  unfold verL
  by_cases h0:(zag (elt L k) (stAt S k)).2.2=0
  ·rw [if_pos h0]
   have hok1:=zjv (k:=k+1) hok q1
   have hok2:=zjv (k:=k+1+(elt L k).of.toNat) hok1 q2
   have ih:=yaam hP n (k+1) (addS (addS S (k+1) (zag (elt L k) (stAt S k)).1) (k+1+(elt L k).of.toNat) (zag (elt L k) (stAt S k)).2.1) (by omega) (by rw [zds,zds];exact hS) hok2
   have hsame:∀ j,j≤k→stAt (addS (addS S (k+1) (zag (elt L k) (stAt S k)).1) (k+1+(elt L k).of.toNat) (zag (elt L k) (stAt S k)).2.1) j=stAt S j:=by
    intro j hj
    rw [yaif (by omega),yaif (by omega)]
   have hsk:∀ j,j≤k→stAt (verL L n (k+1) (addS (addS S (k+1) (zag (elt L k) (stAt S k)).1) (k+1+(elt L k).of.toNat) (zag (elt L k) (stAt S k)).2.1)).sts j=stAt S j:=by
    intro j hj
    by_cases c:k+1<L.length
    ·rw [ih.same j (by omega) c,hsame j hj]
    ·have:n=0:=by omega
     subst this
     exact hsame j hj
   refine ⟨ih.ok,fun j hj _=>hsk j hj,fun j m hm hb=>ih.keep j m (znj hok1 q2 (znj hok q1 hm)) hb,fun j h1 h2 hb=>?_,ih.none,fun h=>?_⟩
   ·by_cases c:j=k
    ·subst c
     rw [hsk j (Nat.le_refl _)]
     refine ⟨h0,fun m hm hb=>?_,fun m hm hb=>?_⟩
     ·have h3:=yap2 hP h2 hm.live
      exact ih.keep _ m (znj hok1 q2 (yaa7 hok q1 (by omega) hm)) hb
     ·have h3:=zuq hP h2 hm.live
      exact ih.keep _ m (yaa7 hok1 q2 (by rw [zds];omega) hm) hb
    ·exact ih.step j (by omega) h2 hb
   ·obtain ⟨p,h1,h2,h3⟩:=ih.some h
    exact ⟨p,h1,by omega,h3⟩
  ·rw [if_neg h0]
   refine ⟨fun j=>?_,fun j hj _=>zi6 (by omega),fun j m hm hb=>?_,fun j h1 _ hb=>?_,fun h=>absurd h h0,fun _=>⟨k,rfl,Nat.le_refl _,hlt,?_,?_⟩⟩
   ·by_cases c:j<k+1
    ·show (stAt (S.take (k+1)) j).Ok
     rw [zi6 c];exact hok j
    ·show (stAt (S.take (k+1)) j).Ok
     rw [yauh (by rw [List.length_take];omega)];exact St.z_Ok
   ·have:(j:Int)≤(k:Int):=hb.resolve_left h0
    show (stAt (S.take (k+1)) j).Has m
    rw [zi6 (by omega)];exact hm
   ·have:(j:Int)<(k:Int):=hb.resolve_left h0
    omega
   ·show (S.take (k+1)).length=k+1
    rw [List.length_take];omega
   ·show (zag (elt L k) (stAt (S.take (k+1)) k)).2.2=_
    rw [zi6 (by omega)]
theorem zhn {L:List Ins} (hP:RightP L):VOut L 0 (zev L.length) (zar L) :=
 yaam hP L.length 0 _ (by omega) (zj8 _) (zly hP.pos)
end Go.Proofs.YtkigmocchaikgabGreatDoor
namespace Go.Proofs.YtkigmocchaikgabGreatDoor
open Go.RowKit
section
variable {α:Type} {f:α→List AC} {m:Nat}
theorem zso (hf:∀ x,(f x).length=m):∀ l:List α,(l.flatMap f).length=l.length*m
 | []=>by simp
 | x::l=>by rw [List.flatMap_cons,List.length_append,hf,zso hf l,List.length_cons,Nat.add_mul,Nat.one_mul,Nat.add_comm]
theorem zmc (hf:∀ x,(f x).length=m):∀ (l:List α) (k:Nat),(l.flatMap f).drop (k*m)=(l.drop k).flatMap f
 | l,0=>by simp
 | [],k+1=>by simp
 | x::l,k+1=>by
  rw [List.flatMap_cons,show (k+1)*m=(f x).length+k*m by rw [hf,Nat.add_mul,Nat.one_mul,Nat.add_comm],← List.drop_drop,List.drop_left,zmc hf l k]
  rfl
theorem zmz (hf:∀ x,(f x).length=m):∀ (l:List α) (k:Nat),(l.flatMap f).take (k*m)=(l.take k).flatMap f
 | l,0=>by simp
 | [],k+1=>by simp
 | x::l,k+1=>by
  rw [List.flatMap_cons,show (k+1)*m=(f x).length+k*m by rw [hf,Nat.add_mul,Nat.one_mul,Nat.add_comm],List.take_append,Nat.add_sub_cancel_left,zmz hf l k,List.take_of_length_le (by omega)]
  rfl
theorem yajz (hf:∀ x,(f x).length=m) {l:List α} {k:Nat} (d:α) (h:k<l.length):((l.flatMap f).drop (k*m)).take m=f (l.getD k d):=by
 rw [zmc hf,List.drop_eq_getElem_cons h,List.flatMap_cons,List.getD_eq_getElem?_getD,List.getElem?_eq_getElem h]
 rw [List.take_append_of_le_length (by rw [hf];exact Nat.le_refl _)]
 exact List.take_of_length_le (by rw [hf];exact Nat.le_refl _)
theorem zq3 (hf:∀ x,(f x).length=m) {l:List α} {k:Nat} (x:α) (h:k<l.length):(l.flatMap f).take (k*m)++(f x++(l.flatMap f).drop (k*m+(f x).length))=(l.set k x).flatMap f:=by
 rw [hf,show k*m+m=(k+1)*m by rw [Nat.add_mul,Nat.one_mul],zmz hf,zmc hf,List.set_eq_take_append_cons_drop,if_pos h,List.flatMap_append,List.flatMap_cons]
theorem zyk (hf:∀ x,(f x).flatMap AC.ks=[]):∀ l:List α,(l.flatMap f).flatMap AC.ks=[]
 | []=>rfl
 | x::l=>by rw [List.flatMap_cons,List.flatMap_append,hf,zyk hf l];rfl
theorem zl9 (x:α):∀ n:Nat,rows n (f x)=(List.replicate n x).flatMap f
 | 0=>rfl
 | n+1=>by
  have:=zl9 x n
  unfold rows at this ⊢
  rw [List.replicate_succ,List.flatten_cons,this,List.replicate_succ,List.flatMap_cons]
end
theorem zew (S:List St):(scell S).length=S.length*31:=zso (f:=St.cs) (fun _=>rfl) S
theorem za8 (S:List St):(scell S).flatMap AC.ks=[]:=zyk (f:=St.cs) (fun _=>rfl) S
theorem yao0 {S:List St} {k:Nat} (h:k<S.length):List.take 31 (List.drop (k*31) (scell S))=(stAt S k).cs:=yajz (f:=St.cs) (fun _=>rfl) St.z h
theorem zg7 {S:List St} {k:Nat} (t:St) (h:k<S.length):splice (scell S) (k*31) t.cs=scell (S.set k t):=zq3 (f:=St.cs) (fun _=>rfl) t h
theorem yaez (S:List St) (q:Nat):List.take (q*31) (scell S)=scell (S.take q):=zmz (f:=St.cs) (fun _=>rfl) S q
theorem zp5 (n:Nat):rows n St.z.cs=scell (List.replicate n St.z):=zl9 (f:=St.cs) St.z n
theorem zjg {L:List Ins} {k:Nat} (i:Ins) (h:k<L.length):splice (pcell L) (k*5) i.cs=pcell (L.set k i):=zq3 (f:=Ins.cs) (fun _=>rfl) i h
theorem sble {S:List St} {k:Nat} (h:k<S.length):Nat.ble (0+k*31+31) (scell S).length=true:=by
 rw [zew,Nat.ble_eq];omega
theorem zfw {S:List St} {k:Nat} (h:k<S.length):Eff.mk (AV.ag (List.take 31 (List.drop (0+k*31) (scell S)))) [] none=Eff.mk (AV.ag (St.cs (stAt S k))) [] none:=by
 rw [Nat.zero_add,yao0 h]
theorem zcu {P:Program} {f:FuncId} {fn:Func} {args:List AV} {cs:List AC} {K:Nat} {en:Ent} {v:AV} (hf:P.funcs[f]?=some fn) (hb:fn.body.isSome=true) (hN:Nat.ble args.length fn.ntmps=true) (ha:(ze2 args).all (fun k=>Nat.blt k 1)=true) (hcs:cs.flatMap AC.ks=[]) (hK:1≤K) (hv:v.ks=[K]) (hc:en.cells.flatMap AC.ks=[])
  (h:∀ w β,EKeys 1 [] (some K) ⟨v,[],some (K,en)⟩→ART P f (cx w β 1 []) fn.ntmps [.code (zdn fn)] (Kn.start args [(0,⟨false,cs,0⟩)] 1) (REff w β ⟨v,[],some (K,en)⟩)):CallOK P ⟨f,args,[(0,⟨false,cs,0⟩)],⟨v,[],some (K,en)⟩⟩:=by
 have e:EKeys 1 [] (some K) ⟨v,[],some (K,en)⟩:=by
  refine ⟨fun k hk=>Or.inr ?_,fun _ _ hm=>(nomatch hm),fun k en' h'=>?_,fun _ h=>(nomatch h),fun k h=>⟨?_,rfl⟩⟩
  ·simp only at hk;rw [hv] at hk;rw [List.mem_singleton.1 hk]
  ·injection h' with h';injection h' with _ h';subst h';exact hc
  ·injection h with h;subst h;exact hK
 have hB:Begin args [(0,⟨false,cs,0⟩)] 1:=by
  refine ⟨fun v hv k hk=>?_,fun k e he=>?_⟩
  ·have h2:=List.all_eq_true.1 ha k (List.mem_flatMap.2 ⟨v,hv,hk⟩)
   simpa using h2
  ·obtain ⟨rfl,rfl⟩:=zbg he
   exact ⟨by decide,fun c hc j hj=>(zeu hcs hc hj).elim⟩
 refine zns [] (some K) hf hb hN hB (fun k hk=>Or.inr ?_) (fun k en' h'=>?_) (fun k h=>⟨en,?_⟩) e (fun _ _ hm=>(nomatch hm)) (fun k en h1 h2=>?_) fun w β _=>h w β e
 ·simp only at hk;rw [hv] at hk;rw [List.mem_singleton.1 hk]
 ·injection h' with h';injection h' with h' _;rw [h']
 ·injection h with h;subst h;rfl
 ·obtain ⟨_,rfl⟩:=zbg h1;cases h2
theorem yah4 {S:List St} {q c:Nat} (h0:0<q) (h1:q≤S.length) (h2:q≤64):CallOK Tryz.prog ⟨22,[.c (.sl 0 0 q c)],[(0,⟨false,scell S,0⟩)],⟨.c (.sx 6 q),[],some (6,⟨true,scell (S.take q),31⟩)⟩⟩:=by
 refine zcu Tryz.func22 rfl rfl rfl (za8 S) (by decide) rfl (za8 _) fun w β hk=>yai3 ?_ ?_ hk
 ·have e:Nat.ble (0+q*31) (scell S).length=true:=by rw [zew,Nat.ble_eq];omega
  rw [e,decide_eq_true (by omega:0+q≤137438953472),decide_eq_true (by omega:0<0+q)];rfl
 ·rw [Nat.zero_add,List.drop_zero,List.drop_zero,yaez];rfl
theorem yak6 {L:List Ins} {c:Nat} (h0:0<L.length) (h2:L.length≤64):CallOK Tryz.prog ⟨114,[.c (.sl 0 0 L.length c)],pH L,⟨.c (.sx 6 L.length),[],some (6,⟨true,pcell L,5⟩)⟩⟩:=by
 refine zcu Tryz.func114 rfl rfl rfl (zaj L) (by decide) rfl (zaj _) fun w β hk=>yahw ?_ ?_ hk
 ·have e:Nat.ble (0+L.length*5) (pcell L).length=true:=by rw [zat,Nat.ble_eq];omega
  rw [e,decide_eq_true (by omega:0+L.length≤137438953472),decide_eq_true (by omega:0<0+L.length)];rfl
 ·rw [Nat.zero_add,List.drop_zero,List.drop_zero,← zat,List.take_length];rfl
theorem ybaf {P:Program} {f:FuncId} {fn:Func} {args:List AV} {cs cs':List AC} {v:AV} (hf:P.funcs[f]?=some fn) (hb:fn.body.isSome=true) (hN:Nat.ble args.length fn.ntmps=true) (ha:(ze2 args).all (fun k=>Nat.blt k 1)=true) (hcs:cs.flatMap AC.ks=[]) (hne:cs≠[]) (hv:v.ks=[]) (hc:cs'.flatMap AC.ks=[])
  (h:∀ w β,EKeys 1 [0] none ⟨v,[(0,cs')],none⟩→ART P f (cx w β 1 [0]) fn.ntmps [.code (zdn fn)] (Kn.start args [(0,⟨true,cs,0⟩)] 1) (REff w β ⟨v,[(0,cs')],none⟩)):CallOK P ⟨f,args,[(0,⟨true,cs,0⟩)],⟨v,[(0,cs')],none⟩⟩:=by
 have e:EKeys 1 [0] none ⟨v,[(0,cs')],none⟩:=by
  refine ⟨fun k hk=>?_,fun k cs hm=>?_,fun _ _ h'=>(nomatch h'),fun k h=>?_,fun _ h=>(nomatch h)⟩
  ·simp only at hk;rw [hv] at hk;cases hk
  ·have:=List.mem_singleton.1 hm;injection this with _ h2;subst h2;exact hc
  ·rw [List.mem_singleton.1 h];decide
 have hB:Begin args [(0,⟨true,cs,0⟩)] 1:=by
  refine ⟨fun v hv k hk=>?_,fun k e he=>?_⟩
  ·have h2:=List.all_eq_true.1 ha k (List.mem_flatMap.2 ⟨v,hv,hk⟩)
   simpa using h2
  ·obtain ⟨rfl,rfl⟩:=zbg he
   exact ⟨by decide,fun c hc j hj=>(zeu hcs hc hj).elim⟩
 refine zns [0] none hf hb hN hB (fun k hk=>?_) (fun _ _ h'=>(nomatch h')) (fun _ h=>(nomatch h)) e (fun k cs' hm=>?_) (fun k en h1 h2=>?_) fun w β _=>h w β e
 ·simp only at hk;rw [hv] at hk;cases hk
 ·have:=List.mem_singleton.1 hm;injection this with h1 h2;subst h1
  exact ⟨⟨true,cs,0⟩,rfl,rfl,hne⟩
 ·obtain ⟨rfl,_⟩:=zbg h1;exact List.mem_singleton.2 rfl
theorem yaml {S:List St} (h:0<S.length):scell S≠[]:=fun e=>by
 have:=zew S
 rw [e] at this
 simp at this
 omega
theorem yaq2 {S:List St} {c:Nat} {k:Int} {t:St} (h0:0<S.length) (hk:t.live=true→0≤k∧k<S.length) (ht:t.Ok) (hS:∀ j,(stAt S j).Ok):CallOK Tryz.prog ⟨23,[.c (.sl 0 0 S.length c),.c (.i k),.ag t.cs],[(0,⟨true,scell S,0⟩)],⟨.tu [],[(0,scell (addS S k.toNat t))],none⟩⟩:=by
 refine ybaf Tryz.func23 rfl rfl rfl (za8 S) (yaml h0) rfl (za8 _) fun w β hkk=>?_
 refine yann (j1:=(stAt S k.toNat).join t) (e:=0) (fun hl=>?_) (fun hl=>?_)
 ·obtain ⟨k0,k1⟩:=hk hl
  have hlt:k.toNat<S.length:=by omega
  have e1:(decide (0≤k)&&decide (k<(↑S.length:Int)))=true:=zaa (decide_eq_true k0) (decide_eq_true k1)
  have ea:addS S k.toNat t=S.set k.toNat ((stAt S k.toNat).join t):=by unfold addS;rw [if_pos hl]
  rw [ea] at hkk
  have hj:=yanb (stAt S k.toNat) t
  have ab:((stAt S k.toNat).ok&&t.ok)=true:=zaa (St.ok_iff.2 (hS _)) (St.ok_iff.2 ht)
  unfold yae6 yad9 at hj
  rw [if_pos ab,if_pos ab] at hj
  refine ⟨e1,sble hlt,e1,?_,zfw hlt,hj,?_,hkk,?_⟩
  ·rw [show (St.cs ((stAt S k.toNat).join t)).length=31 from rfl,sble hlt];rfl
  ·rw [Nat.zero_add,zg7 _ hlt]
  ·rw [ea]
 ·have ea:addS S k.toNat t=S:=by unfold addS;rw [if_neg (by rw [hl];decide)]
  rw [ea] at hkk ⊢
  exact ⟨hkk,rfl⟩
abbrev vKn (L:List Ins) (c:Nat) (S:List St) (j:Nat):Kn:=⟨[(2,.c (.w 1)),(5,.c (.sl 10 0 L.length L.length)),(24,.c (.sl 0 0 L.length c)),(25,.c (.i (L.length:Int))),(26,.c (.i (j:Int)))],[(0,⟨false,pcell L,0⟩),(1,⟨true,[AC.i 0,AC.i 0,zco],0⟩),(10,⟨true,scell S,0⟩)],11⟩
theorem yaxd (L:List Ins) (c:Nat) (S:List St) (j:Nat):Kn.Low (vKn L c S j):=zg9 rfl rfl ⟨zaj L,rfl,za8 S,trivial⟩
def okE (K:Nat) (n:Nat) (S:List St):Eff:=⟨.tu [.ag [.i 0,.i 0,.sl K 0 n n],.c (.i 0)],[],some (K,⟨true,scell S,0⟩)⟩
def zow (K:Nat) (R:Rep):Eff:=⟨.tu [.ag [.i R.trap,.i R.pos,.sx K R.sts.length],.c (.i 0)],[],some (K,⟨true,scell R.sts,31⟩)⟩
def verE (n:Nat) (R:Rep):Eff:=if R.trap=0 then okE 10 n R.sts else zow 43 R
theorem yany (K n:Nat) (S:List St) (hK:1≤K):EKeys 1 [] (some K) (okE K n S):=by
 refine ⟨fun k hk=>Or.inr ?_,fun _ _ hm=>(nomatch hm),fun k en' h'=>?_,fun _ h=>(nomatch h),fun k h=>⟨?_,rfl⟩⟩
 ·have:k∈[K]:=hk
  rw [List.mem_singleton.1 this]
 ·injection h' with h';injection h' with _ h';subst h';exact za8 S
 ·injection h with h;subst h;exact hK
theorem yaeo (K:Nat) (R:Rep) (hK:1≤K):EKeys 1 [] (some K) (zow K R):=by
 refine ⟨fun k hk=>Or.inr ?_,fun _ _ hm=>(nomatch hm),fun k en' h'=>?_,fun _ h=>(nomatch h),fun k h=>⟨?_,rfl⟩⟩
 ·have:k∈[K]:=hk
  rw [List.mem_singleton.1 this]
 ·injection h' with h';injection h' with _ h';subst h';exact za8 R.sts
 ·injection h with h;subst h;exact hK
theorem yaka {L:List Ins} {k:Nat} {t:St} (hP:RightP L) (hk:k<L.length) (ht:t.Ok):Ok 21 [.ag (elt L k).cs,.ag t.cs] (.tu [.ag (zag (elt L k) t).1.cs,.ag (zag (elt L k) t).2.1.cs,.c (.i (zag (elt L k) t).2.2),.c (.i 0)]):=by
 have h:=yao1 (elt L k) t
 have hle:=hP.le
 have hb:(zfv (elt L k)&&t.ok)=true:=zaa (fine_right.2 ((zdg hP hk).mono (by omega))) (St.ok_iff.2 ht)
 unfold zo0 yaem at h
 rwa [if_pos hb,if_pos hb] at h
theorem offB {i:Ins} {n:Int} (hr:Right i n) (hn:n≤64):-64≤i.of∧i.of≤64:=by
 rcases zld hr with c | c | c | c | c | c | c | c
 ·have:=zbv hr (Or.inl c);omega
 ·have:=zbv hr (Or.inr c);omega
 ·have:=zfn hr c;omega
 ·have:=zcd hr (Or.inl c);omega
 ·have:=zcd hr (Or.inr c);omega
 ·have:=zl5 hr c;omega
 ·have:=ze7 hr (by omega);omega
 ·have:=ze7 hr (by omega);omega
theorem yahn {L:List Ins} {c:Nat} (hP:RightP L) {w:World} {β:Bs}:∀ (n k:Nat) (S:List St),k+n=L.length→S.length=L.length→(∀ j,(stAt S j).Ok) →
  ART Tryz.prog 8 (cx w β 1 []) Tryz.f8.ntmps (zdk Tryz.f8 0) (vKn L c S k) (REff w β (verE L.length (verL L n k S)))
 | 0,k,S,hk,hS,hok=>by
  have e:verE L.length (verL L 0 k S)=okE 10 L.length S:=by unfold verL verE;rw [if_pos rfl]
  rw [e]
  refine yauw ?_ (yany 10 L.length S (by decide))
  rw [decide_eq_false (by omega:¬ (k:Int)<(L.length:Int))];rfl
 | n+1,k,S,hk,hS,hok=>by
  have hlt:k<L.length:=by omega
  have hltS:k<S.length:=by omega
  have hle:=hP.le
  have hr:=zdg hP hlt
  have hst:=yaka hP hlt (hok k)
  have d0:decide ((k:Int)<(L.length:Int))=true:=jl hlt
  have f1:Nat.ble (0+Int.toNat (k:Int)*5+5) (pcell L).length=true:=pble hlt
  have f2:Nat.ble (0+Int.toNat (k:Int)*31+31) (scell S).length=true:=sble hltS
  have f3:=zdj hlt
  have f4:Eff.mk (AV.ag (List.take 31 (List.drop (0+Int.toNat (k:Int)*31) (scell S)))) [] none=Eff.mk (AV.ag (St.cs (stAt S k))) [] none:=zfw hltS
  have f5:Eff.mk (AV.c (AC.i (IntKind.wrap IntKind.i64 ((k:Int)+1)))) [] none=Eff.mk (AV.c (AC.i ((k+1:Nat):Int))) [] none:=by rw [zhz (by omega)]
  obtain ⟨q1,q2⟩:=zrz hr (hok k)
  unfold verL
  by_cases h0:(zag (elt L k) (stAt S k)).2.2=0
  ·rw [if_pos h0]
   have e1:(!(zag (elt L k) (stAt S k)).2.2 != 0)=true:=by rw [h0];rfl
   have hok1:=zjv (k:=k+1) hok q1
   have hok2:=zjv (k:=k+1+(elt L k).of.toNat) hok1 q2
   have a1:=yaq2 (S:=S) (c:=L.length) (k:=((k+1:Nat):Int)) (by omega) (fun hl=>by have:=yap2 hP hlt hl;omega) q1 hok
   have len1:(addS S (k+1) (zag (elt L k) (stAt S k)).1).length=L.length:=by rw [zds];exact hS
   have a2:=yaq2 (S:=addS S (k+1) (zag (elt L k) (stAt S k)).1) (c:=L.length) (k:=((k+1:Nat):Int)+(elt L k).of) (by omega) (fun hl=>by have:=zuq hP hlt hl;omega) q2 hok1
   rw [hS] at a1
   rw [len1] at a2
   have hS2:addS (addS S (k+1) (zag (elt L k) (stAt S k)).1) (((k+1:Nat):Int)+(elt L k).of).toNat (zag (elt L k) (stAt S k)).2.1=addS (addS S (k+1) (zag (elt L k) (stAt S k)).1) (k+1+(elt L k).of.toNat) (zag (elt L k) (stAt S k)).2.1:=by
    by_cases hl:(zag (elt L k) (stAt S k)).2.1.live=true
    ·have:=zuq hP hlt hl
     rw [show (((k+1:Nat):Int)+(elt L k).of).toNat=k+1+(elt L k).of.toNat by omega]
    ·unfold addS;rw [if_neg hl,if_neg hl]
   rw [hS2] at a2
   rw [show ((k+1:Nat):Int).toNat=k+1 from rfl] at a1
   have b1:=a1.ren (swp 0 10) (zbm 0 10)
   have b2:=a2.ren (swp 0 10) (zbm 0 10)
   unfold CallRec.ren Eff.ren renH at b1 b2
   simp only [List.map_cons,List.map_nil,Option.map_none] at b1 b2
   have hR:=offB hr (by omega)
   refine yakv (S1:=addS S (k+1) (zag (elt L k) (stAt S k)).1) (S2:=addS (addS S (k+1) (zag (elt L k) (stAt S k)).1) (k+1+(elt L k).of.toNat) (zag (elt L k) (stAt S k)).2.1)
    (zaa d0 (zaa d0 (zaa f1 (zaa d0 (zaa f2 (zaa e1 rfl)))))) f3 f4 hst f5 (b1.congr ?_) f5 ?_ (b2.congr ?_) f5 (yaxd _ _ _ _) (fun _ h=>Nat.lt_of_lt_of_le h (by decide)) (yahn hP n (k+1) _ (by omega) (by rw [zds,zds];exact hS) hok2)
   ·simp only [Ent.ren,zck _ (za8 _)]
    rfl
   ·rw [zfp (by omega) (by omega)]
   ·simp only [Ent.ren,zck _ (za8 _)]
    rfl
  ·rw [if_neg h0]
   have e1:((zag (elt L k) (stAt S k)).2.2 != 0)=true:=by simpa using h0
   have eE:verE L.length ⟨(zag (elt L k) (stAt S k)).2.2,k,S.take (k+1)⟩=zow 43 ⟨(zag (elt L k) (stAt S k)).2.2,k,S.take (k+1)⟩:=by unfold verE;rw [if_neg h0]
   have hlen:(S.take (k+1)).length=k+1:=by rw [List.length_take];omega
   have hk:=yaeo 43 ⟨(zag (elt L k) (stAt S k)).2.2,k,S.take (k+1)⟩ (by decide)
   have cl:=((yah4 (S:=S) (q:=k+1) (c:=L.length) (by omega) (by omega) (by omega)).ren (swp 6 43) (zbm 6 43)).ren (swp 0 10) (zbm 0 10)
   rw [eE]
   unfold zow at hk ⊢
   simp only [hlen] at hk ⊢
   refine yanf (zaa d0 (zaa d0 (zaa f1 (zaa d0 (zaa f2 (zaa e1 (zaa (zaa (decide_eq_true (by omega)) (decide_eq_true (by omega))) rfl))))))) f3 f4 hst f5 rfl ?_ hk
   refine CallOK.more (H:=[(10,⟨false,scell S,0⟩)]) ?_ ⟨fun j en hj=>?_⟩
   ·refine cl.congr ?_
    unfold CallRec.ren Eff.ren renH
    simp only [List.map_cons,List.map_nil,Option.map_some,Ent.ren,zck _ (za8 _)]
    rfl
   ·obtain ⟨rfl,rfl⟩:=zbg hj
    exact ⟨⟨true,scell S,0⟩,rfl,rfl,fun h=>(by cases h),Or.inl rfl⟩
theorem zpj {L:List Ins} {c:Nat} (h:zan L=0):CallOK Tryz.prog ⟨8,[.c (.sl 0 0 L.length c)],pH L,verE L.length (zar L)⟩:=by
 have hP:=zbu h
 have hp:=hP.pos
 have hle:=hP.le
 have main:∀ w β,ART Tryz.prog 8 (cx w β 1 []) Tryz.f8.ntmps [.code (zdn Tryz.f8)] (Kn.start [.c (.sl 0 0 L.length c)] (pH L) 1) (REff w β (verE L.length (zar L))):=by
  intro w β
  have hb:(scell (List.replicate L.length St.z)).length=L.length*31:=by rw [zew,List.length_replicate]
  refine yaup (b:=beginS) (e:=zan L) ?_ (zi0 L c) ?_ yakl ?_ (yaxd L c (zev L.length) 0) (fun _ h=>Nat.lt_of_lt_of_le h (by decide)) (yahn hP L.length 0 (zev L.length) (by omega) (zj8 _) (zly hp))
  ·have e1:(!zan L != 0)=true:=by rw [h];rfl
   have e2:Nat.ble (0+(St.cs beginS).length) (scell (List.replicate L.length St.z)).length=true:=by rw [hb,yaih,Nat.ble_eq];omega
   rw [e1,e2,decide_eq_true (by omega:(L.length:Int)≤(L.length:Int)),decide_eq_true (by omega:(L.length:Int)≤1099511627776),decide_eq_true (by omega:(0:Int)<(L.length:Int))];rfl
  ·rw [Int.toNat_natCast,zp5]
  ·have:=zg7 (S:=List.replicate L.length St.z) (k:=0) beginS (by rw [List.length_replicate];exact hp)
   rw [Nat.zero_mul] at this
   rw [this]
 by_cases h0:(zar L).trap=0
 ·have e:verE L.length (zar L)=okE 10 L.length (zar L).sts:=by unfold verE;rw [if_pos h0]
  rw [e] at main ⊢
  exact zcu Tryz.func8 rfl rfl rfl (zaj L) (by decide) rfl (za8 _) fun w β _=>main w β
 ·have e:verE L.length (zar L)=zow 43 (zar L):=by unfold verE;rw [if_neg h0]
  rw [e] at main ⊢
  exact zcu Tryz.func8 rfl rfl rfl (zaj L) (by decide) rfl (za8 _) fun w β _=>main w β
def verF (L:List Ins):Nat→Nat→List St→List St
 | 0,_,S=>S
 | n+1,k,S=>if (zag (elt L k) (stAt S k)).2.2=0 then verF L n (k+1) (addS (addS S (k+1) (zag (elt L k) (stAt S k)).1) (k+1+(elt L k).of.toNat) (zag (elt L k) (stAt S k)).2.1) else S
def voE (K:Nat) (L:List Ins) (R:Rep) (F:List St):Eff:=⟨.ag [.i R.trap,.i R.pos,.sl K 0 R.sts.length L.length],[],some (K,⟨true,scell F,0⟩)⟩
theorem yais (K:Nat) (L:List Ins) (R:Rep) (F:List St) (hK:1≤K):EKeys 1 [] (some K) (voE K L R F):=by
 refine ⟨fun k hk=>Or.inr ?_,fun _ _ hm=>(nomatch hm),fun k en' h'=>?_,fun _ h=>(nomatch h),fun k h=>⟨?_,rfl⟩⟩
 ·have:k∈[K]:=hk
  rw [List.mem_singleton.1 this]
 ·injection h' with h';injection h' with _ h';subst h';exact za8 F
 ·injection h with h;subst h;exact hK
theorem yauk {S:List St} {k:Nat} {t:St} (h:S.length≤k):addS S k t=S:=by
 unfold addS
 split
 ·exact List.set_eq_of_length_le h
 ·rfl
theorem yaaz {S:List St} {k:Nat} (h:k<S.length):S.set k (stAt S k)=S:=by
 unfold stAt
 rw [List.getD_eq_getElem?_getD,List.getElem?_eq_getElem h]
 exact List.set_getElem_self h
theorem yag8 {S:List St} {k:Nat} {t:St} (hS:(stAt S k).Ok) (ht:t.Ok) (h:k<S.length):S.set k ((stAt S k).join t)=addS S k t:=by
 unfold addS
 by_cases hl:t.live=true
 ·rw [if_pos hl]
 ·rw [if_neg hl]
  have hd:t=St.z:=ht.dead (by simpa using hl)
  unfold St.join
  by_cases h1:(stAt S k).live=true
  ·rw [if_pos h1,if_neg hl];exact yaaz h
  ·rw [if_neg h1,hd,← hS.dead (by simpa using h1)];exact yaaz h
abbrev voKn (L:List Ins) (c:Nat) (S:List St) (j:Nat):Kn:=⟨[(0,.c (.sl 0 0 L.length c)),(2,.c (.w 1)),(3,.c (.sl 4 0 L.length L.length)),(4,.c (.i (j:Int)))],[(0,⟨false,pcell L,0⟩),(1,⟨true,[.i 0,.i 0,zco],0⟩),(4,⟨true,scell S,0⟩)],6⟩
theorem zzv (L:List Ins) (c:Nat) (S:List St) (j:Nat):Kn.Low (voKn L c S j):=zg9 rfl rfl ⟨zaj L,rfl,za8 S,trivial⟩
theorem yap3 {L:List Ins} {c:Nat} (hP:RightP L) {w:World} {β:Bs}:∀ (n k:Nat) (S:List St),k+n=L.length→S.length=L.length→(∀ j,(stAt S j).Ok) →
  ART Tryz.prog 12 (cx w β 1 []) Tryz.f12.ntmps (zdk Tryz.f12 0) (voKn L c S k) (REff w β (voE 4 L (verL L n k S) (verF L n k S)))
 | 0,k,S,hk,hS,_=>by
  have hkk:=yais 4 L ⟨0,0,S⟩ S (by decide)
  unfold verL verF
  unfold voE at hkk ⊢
  simp only [hS] at hkk ⊢
  exact yaj0 (zaa (by rw [decide_eq_false (by omega)];rfl) rfl) hkk
 | n+1,k,S,hk,hS,hok=>by
  have hlt:k<L.length:=by omega
  have hltS:k<S.length:=by omega
  have hle:=hP.le
  have hr:=zdg hP hlt
  have hst:=zk2 (i:=elt L k) (t:=stAt S k) (hr.mono (by omega)) (hok k)
  unfold stE at hst
  have d0:decide ((k:Int)<(L.length:Int))=true:=jl hlt
  have f1:Nat.ble (0+Int.toNat (k:Int)*5+5) (pcell L).length=true:=pble hlt
  have f2:Nat.ble (0+Int.toNat (k:Int)*31+31) (scell S).length=true:=sble hltS
  have f3:=zdj hlt
  have f4:Eff.mk (AV.ag (List.take 31 (List.drop (0+Int.toNat (k:Int)*31) (scell S)))) [] none=Eff.mk (AV.ag (St.cs (stAt S k))) [] none:=zfw hltS
  have f5:Eff.mk (AV.c (AC.i (IntKind.wrap IntKind.i64 ((k:Int)+1)))) [] none=Eff.mk (AV.c (AC.i ((k+1:Nat):Int))) [] none:=by rw [zhz (by omega)]
  obtain ⟨q1,q2⟩:=zrz hr (hok k)
  have hR:=offB hr (by omega)
  unfold verL verF
  by_cases h0:(zag (elt L k) (stAt S k)).2.2=0
  ·rw [if_pos h0,if_pos h0]
   rw [h0] at hst
   have hok1:=zjv (k:=k+1) hok q1
   have hok2:=zjv (k:=k+1+(elt L k).of.toNat) hok1 q2
   have len1:(addS S (k+1) (zag (elt L k) (stAt S k)).1).length=L.length:=by rw [zds];exact hS
   have next:=yap3 (c:=c) hP (w:=w) (β:=β) n (k+1) (addS (addS S (k+1) (zag (elt L k) (stAt S k)).1) (k+1+(elt L k).of.toNat) (zag (elt L k) (stAt S k)).2.1) (by omega) (by rw [zds,zds];exact hS) hok2
   have g0:(pcell L)[0+Int.toNat (k:Int)*5+4]?=some (AC.i (elt L k).of):=by
    have h3:=congrArg (fun l=>l[4]?) (zet (L:=L) (k:=k) hlt)
    simp only [List.getElem?_take,List.getElem?_drop] at h3
    rw [if_pos (by decide)] at h3
    rw [Int.toNat_natCast,Nat.zero_add]
    exact h3
   have g1:(AC.isI (Option.getD (pcell L)[0+Int.toNat (k:Int)*5+4]? (AC.b false))&&Nat.blt (0+Int.toNat (k:Int)*5+4) (pcell L).length)=true:=by
    rw [g0,Bool.and_eq_true]
    exact ⟨rfl,by rw [zat,Nat.blt_eq];omega⟩
   have g2:Eff.mk (AV.c (AC.i (AC.asI (Option.getD (pcell L)[0+Int.toNat (k:Int)*5+4]? (AC.b false))))) [] none=Eff.mk (AV.c (AC.i (elt L k).of)) [] none:=by rw [g0];rfl
   have g3:Eff.mk (AV.c (AC.i (IntKind.wrap IntKind.i64 (((k+1:Nat):Int)+(elt L k).of)))) [] none=Eff.mk (AV.c (AC.i (((k+1:Nat):Int)+(elt L k).of))) [] none:=by rw [zfp (by omega) (by omega)]
   have hF:∀ j,(cx w β 1 []).F j→j<6:=fun _ h=>Nat.lt_of_lt_of_le h (by decide)
   have sb:∀ (T:List St) (x:Nat) (u:St),T.length=L.length→x<L.length→(Nat.ble (0+x*31+List.length (St.cs u)) (scell T).length&&true)=true:=fun T x u hT hx=>by
    rw [show List.length (St.cs u)=31 from rfl,sble (by omega)];rfl
   by_cases hla:k+1<L.length
   ·have d1:decide (((k+1:Nat):Int)<(L.length:Int))=true:=decide_eq_true (by omega)
    have j1:=znz (hok (k+1)) q1
    have s1:Eff.mk (AV.raw undef) [(4,splice (scell S) (0+Int.toNat ((k+1:Nat):Int)*31) (St.cs ((stAt S (k+1)).join (zag (elt L k) (stAt S k)).1)))] none=Eff.mk (AV.raw undef) [(4,scell (addS S (k+1) (zag (elt L k) (stAt S k)).1))] none:=by
     rw [Int.toNat_natCast,Nat.zero_add,zg7 _ (by omega),yag8 (hok _) q1 (by omega)]
    by_cases hl:(zag (elt L k) (stAt S k)).2.1.live=true
    ·have hx:=zuq hP hlt hl
     have ex:(((k+1:Nat):Int)+(elt L k).of).toNat=k+1+(elt L k).of.toNat:=by omega
     have j2:=znz (hok1 (k+1+(elt L k).of.toNat)) q2
     have d2:(decide (0≤((k+1:Nat):Int)+(elt L k).of)&&decide (((k+1:Nat):Int)+(elt L k).of<(L.length:Int)))=true:=zaa (decide_eq_true (by omega)) (decide_eq_true (by omega))
     refine yamx (zaa d0 (zaa d0 (zaa f1 (zaa d0 (zaa f2 (zaa d1 (zaa d1 (zaa (sble (by omega)) (zaa d1 (zaa (sb S (k+1) _ hS hla) (zaa d0 (zaa g1 (zaa hl (zaa d2 (zaa (by rw [ex];exact sble (by omega)) (zaa d2 (by rw [ex,sb _ _ _ len1 (by omega)];rfl))))))))))))))))) f3 f4 hst f5 f5 f5 (zfw (by omega)) j1 s1 f5 g2 g3 (by rw [ex];exact zfw (by omega)) j2 ?_ f5 (zzv _ _ _ _) hF next
     rw [ex,Nat.zero_add,zg7 _ (by omega),yag8 (hok1 _) q2 (by omega)]
    ·have e2:∀ x,addS (addS S (k+1) (zag (elt L k) (stAt S k)).1) x (zag (elt L k) (stAt S k)).2.1=addS S (k+1) (zag (elt L k) (stAt S k)).1:=fun x=>by rw [addS,if_neg hl]
     rw [e2] at next ⊢
     exact yanp (zaa d0 (zaa d0 (zaa f1 (zaa d0 (zaa f2 (zaa d1 (zaa d1 (zaa (sble (by omega)) (zaa d1 (zaa (sb S (k+1) _ hS hla) (zaa d0 (zaa g1 (zaa (by rw [Bool.not_eq_true] at hl;rw [hl];rfl) rfl))))))))))))) f3 f4 hst f5 f5 f5 (zfw (by omega)) j1 s1 f5 g2 g3 f5 (zzv _ _ _ _) hF next
   ·have d1:(!decide (((k+1:Nat):Int)<(L.length:Int)))=true:=by rw [decide_eq_false (by omega)];rfl
    have e1:addS S (k+1) (zag (elt L k) (stAt S k)).1=S:=yauk (by omega)
    have hl:¬ (zag (elt L k) (stAt S k)).2.1.live=true:=fun hl=>by have:=zuq hP hlt hl;omega
    have e2:∀ x,addS S x (zag (elt L k) (stAt S k)).2.1=S:=fun x=>by rw [addS,if_neg hl]
    rw [e1,e2] at next ⊢
    exact yaoa (zaa d0 (zaa d0 (zaa f1 (zaa d0 (zaa f2 (zaa d1 (zaa d0 (zaa g1 (zaa (by rw [Bool.not_eq_true] at hl;rw [hl];rfl) rfl))))))))) f3 f4 hst f5 f5 g2 g3 f5 (zzv _ _ _ _) hF next
  ·rw [if_neg h0,if_neg h0]
   have hlen:(S.take (k+1)).length=k+1:=by rw [List.length_take];omega
   have hkk:=yais 4 L ⟨(zag (elt L k) (stAt S k)).2.2,k,S.take (k+1)⟩ S (by decide)
   unfold voE at hkk ⊢
   simp only [hlen] at hkk ⊢
   exact yae3 (zaa d0 (zaa d0 (zaa f1 (zaa d0 (zaa f2 (zaa (by simpa using h0) (zaa (zaa (decide_eq_true (by omega)) (decide_eq_true (by omega))) rfl))))))) f3 f4 hst f5 rfl hkk
theorem zxk {L:List Ins} {c:Nat} (hP:RightP L):CallOK Tryz.prog ⟨12,[.c (.sl 0 0 L.length c)],pH L,voE 4 L (zar L) (verF L L.length 0 (zev L.length))⟩:=by
 have hpos:=hP.pos
 have hle:=hP.le
 refine zcu Tryz.func12 rfl rfl rfl (zaj L) (by decide) rfl (za8 _) fun w β _=>?_
 refine yaxj (b:=beginS) ?_ ?_ yahf ?_ (zzv _ _ _ 0) (fun _ h=>Nat.lt_of_lt_of_le h (by decide)) (yap3 hP L.length 0 (zev L.length) (by omega) (zj8 _) (zly hpos))
 ·have:Nat.ble (0+List.length (St.cs beginS)) (scell (List.replicate L.length St.z)).length=true:=by rw [zew,List.length_replicate,Nat.ble_eq];show 0+31≤_;omega
  rw [this]
  simp;omega
 ·rw [Int.toNat_natCast,zp5]
 ·have:=zg7 (S:=List.replicate L.length St.z) (k:=0) beginS (by rw [List.length_replicate];exact hpos)
  rw [Nat.zero_mul] at this
  rw [this]
section
variable {i:Ins} {t a b:St} {tr:Int}
end
section
variable {s a b c d e f j:St}
end
section
variable {S S2:List St}
end
theorem CallOK.off {P:Program} {f n c o r:Nat} {b:Bool} {cs cells:List AC} {e:Eff} (h:CallOK P ⟨f,[.c (.sl 0 0 n c)],[(0,⟨false,cs,0⟩)],e⟩) (hwr:e.wr=[]) (hv:∀ k,k∈e.v.ks→k≠0) (hn0:∀ k en,e.nw=some (k,en)→k≠0) (hnk:∀ k en,e.nw=some (k,en)→en.cells.flatMap AC.ks=[])
  (hcs:∀ j x,cs[j]?=some x→cells[o+j]?=some x) (hks:cs.flatMap AC.ks=[]):CallOK P ⟨f,[.c (.sl 0 o n c)],[(0,⟨b,cells,r⟩)],e⟩:=by
 have look0:∀ k,(∃ en,look [(0,(⟨false,cs,0⟩:Ent))] k=some en)→∃ en,look [(0,(⟨b,cells,r⟩:Ent))] k=some en:=fun k ⟨en,hk⟩=>by
  obtain ⟨rfl,_⟩:=zbg hk
  exact ⟨_,rfl⟩
 refine ⟨⟨fun k hk=>zjl look0 _ k (h.keys.v k hk),fun k x hm=>(by rw [hwr] at hm;cases hm),fun k en hm x hx j hj=>(zeu (hnk k en hm) hx hj).elim⟩,fun k x hm=>(by rw [hwr] at hm;cases hm),fun β w hgw hgx hB hI=>?_⟩
 have hb0:=hB 0 ⟨b,cells,r⟩ rfl
 have h1:=h.call (bset β 0 ((β 0).1,(β 0).2.1+o,(β 0).2.2)) w hgw (fun k en hk hw=>by obtain ⟨_,rfl⟩:=zbg hk;cases hw) (fun k en hk=>?_) (fun k en k' en' hk hk' hne=>?_)
 ·have ha:([AV.c (AC.sl 0 0 n c)].map (AV.g (bset β 0 ((β 0).1,(β 0).2.1+o,(β 0).2.2)))).toArray=([AV.c (AC.sl 0 o n c)].map (AV.g β)).toArray:=by
   simp [AV.g,AC.g,ptr,bset]
  simp only at h1
  rw [ha] at h1
  refine h1.mono fun en w' ⟨β',he,hu⟩=>?_
  have hnw:=hu.nw
  have hfr:Fr (fun B=>∃ k x,(k,x)∈e.wr∧B=(β k).1) w w':=hu.frame.mono fun B ⟨k,x,hm,_⟩=>(by rw [hwr] at hm;cases hm)
  cases hn:e.nw with
  | none =>
   rw [hn] at hnw
   have hβ:β'=bset β 0 ((β 0).1,(β 0).2.1+o,(β 0).2.2):=hnw
   refine ⟨β,?_,⟨hfr,fun k x hm=>(by rw [hwr] at hm;cases hm),by rw [hn];rfl⟩⟩
   rw [he,hβ,AV.g_congr e.v fun k hk=>?_]
   unfold bset
   rw [if_neg (hv k hk)]
  | some x =>
   obtain ⟨k,en'⟩:=x
   rw [hn] at hnw
   obtain ⟨b1,o1,c1,h2,h3,h4,h5⟩:=hnw
   have hk0:=hn0 k en' hn
   have hβ:∀ j,j≠0→β' j=bset β k (b1,o1,c1) j:=fun j hj=>by
    rw [h4]
    unfold bset
    by_cases c:j=k
    ·rw [if_pos c,if_pos c]
    ·rw [if_neg c,if_neg c,if_neg hj]
   refine ⟨bset β k (b1,o1,c1),?_,⟨hfr,fun k x hm=>(by rw [hwr] at hm;cases hm),?_⟩⟩
   ·rw [he]
    rw [AV.g_congr e.v fun j hj=>hβ j (hv j hj)]
   ·rw [hn]
    refine ⟨b1,o1,c1,Or.inl (h2.resolve_right fun ⟨k0,hk,_⟩=>(by rw [hwr] at hk;cases hk)),h3,rfl,?_⟩
    exact h5.congr (hβ k hk0).symm (Nat.le_refl _) rfl fun x hx j hj=>(zeu (hnk k en' hn) hx hj).elim
 ·obtain ⟨rfl,rfl⟩:=zbg hk
  refine ⟨hb0.lt,fun j x hj=>?_,(fun h=>by cases h),fun h=>absurd rfl h⟩
  have:=hb0.cell (o+j) x (hcs j x hj)
  have e1:ptr (bset β 0 ((β 0).1,(β 0).2.1+o,(β 0).2.2)) 0 j=ptr β 0 (o+j):=by simp [ptr,bset,Nat.add_assoc]
  rw [e1,this,AC.g_congr x fun k hk=>(zeu hks (List.mem_of_getElem? hj) hk).elim]
 ·obtain ⟨rfl,_⟩:=zbg hk
  obtain ⟨rfl,_⟩:=zbg hk'
  exact absurd rfl hne
theorem yarb (ρ:Nat→Nat) (K n:Nat) (S:List St):(okE K n S).ren ρ=okE (ρ K) n S:=by
 unfold okE Eff.ren
 simp only [Option.map_some,Ent.ren,zck ρ (za8 S)]
 rfl
theorem yahr (ρ:Nat→Nat) (K:Nat) (R:Rep):(zow K R).ren ρ=zow (ρ K) R:=by
 unfold zow Eff.ren
 simp only [Option.map_some,Ent.ren,zck ρ (za8 R.sts)]
 rfl
theorem p_to {P:Program} {f:Nat} {args args':List AV} {L:List Ins} {e e':Eff} (h:CallOK P ⟨f,args,pH L,e⟩) (K:Nat) (b:Bool) (ha:args.map (AV.ren (swp 0 K))=args') (he:e.ren (swp 0 K)=e'):CallOK P ⟨f,args',[(K,⟨b,pcell L,0⟩)],e'⟩:=by
 have h1:=h.ren (swp 0 K) (zbm 0 K)
 unfold CallRec.ren at h1
 simp only [ha,he] at h1
 refine h1.more ⟨fun k en hk=>?_⟩
 have e1:renH (swp 0 K) (pH L)=[(K,⟨false,pcell L,0⟩)]:=by
  show [(swp 0 K 0,Ent.mk false ((pcell L).map (AC.ren (swp 0 K))) 0)]=_
  rw [zck _ (zaj L)]
  rfl
 rw [e1] at hk
 obtain ⟨rfl,rfl⟩:=zbg hk
 exact ⟨⟨b,pcell L,0⟩,by rw [zav,if_pos rfl],rfl,fun h=>(by cases h),Or.inl rfl⟩
theorem zjz {L:List Ins} {c:Nat} (h:zan L=0) (h0:(zar L).trap=0) {K:Nat} (hK:K≠0):CallOK Tryz.prog ⟨8,[.c (.sl 0 0 L.length c)],pH L,okE K L.length (zar L).sts⟩:=by
 have h1:=zpj (c:=c) h
 unfold verE at h1
 rw [if_pos h0] at h1
 have h2:=h1.ren (swp 10 K) (zbm 10 K)
 have e0:swp 10 K 0=0:=zfu (by decide) (Ne.symm hK)
 unfold CallRec.ren at h2
 simp only [yarb,zek,zqa e0] at h2
 refine h2.congr ?_
 show CallRec.mk _ [AV.c (AC.sl 0 0 L.length c)] _ _=CallRec.mk _ [AV.c (AC.sl (swp 10 K 0) 0 L.length c)] _ _
 rw [e0]
theorem zjq {L:List Ins} {c:Nat} (h:zan L=0) (h0:(zar L).trap≠0) {K:Nat} (hK:K≠0):CallOK Tryz.prog ⟨8,[.c (.sl 0 0 L.length c)],pH L,zow K (zar L)⟩:=by
 have h1:=zpj (c:=c) h
 unfold verE at h1
 rw [if_neg h0] at h1
 have h2:=h1.ren (swp 43 K) (zbm 43 K)
 have e0:swp 43 K 0=0:=zfu (by decide) (Ne.symm hK)
 unfold CallRec.ren at h2
 simp only [yahr,zek,zqa e0] at h2
 refine h2.congr ?_
 show CallRec.mk _ [AV.c (AC.sl 0 0 L.length c)] _ _=CallRec.mk _ [AV.c (AC.sl (swp 43 K 0) 0 L.length c)] _ _
 rw [e0]
theorem yag5 (ρ:Nat→Nat) (K:Nat) (L:List Ins) (R:Rep) (F:List St):(voE K L R F).ren ρ=voE (ρ K) L R F:=by
 unfold voE Eff.ren
 simp only [Option.map_some,Ent.ren,zck ρ (za8 F)]
 rfl
def newE (K n:Nat) (L:List Ins):Eff:=⟨.c (.sx K n),[],some (K,⟨true,pcell L,0⟩)⟩
theorem zsf (ρ:Nat→Nat) (K n:Nat) (L:List Ins):(newE K n L).ren ρ=newE (ρ K) n L:=by
 unfold newE Eff.ren
 simp only [Option.map_some,Ent.ren,zck ρ (zaj L)]
 rfl
theorem yajw {f a:Nat} {L M:List Ins} {n c:Nat} (h:CallOK Tryz.prog ⟨f,[.c (.sl 0 0 n c)],pH L,newE a n M⟩) (ha:a≠0) {K:Nat} (hK:K≠0):CallOK Tryz.prog ⟨f,[.c (.sl 0 0 n c)],pH L,newE K n M⟩:=by
 have h2:=h.ren (swp a K) (zbm a K)
 have e0:swp a K 0=0:=zfu (Ne.symm ha) (Ne.symm hK)
 unfold CallRec.ren at h2
 simp only [zsf,zek,zqa e0] at h2
 refine h2.congr ?_
 show CallRec.mk _ [AV.c (AC.sl 0 0 n c)] _ _=CallRec.mk _ [AV.c (AC.sl (swp a K 0) 0 n c)] _ _
 rw [e0]
section
abbrev zlu (L:List Ins) (S:List St) (j p r:Nat) (q:Int):Kn:=⟨[(0,.c (.sx 0 p)),(1,.c (.sl 1 0 p p)),(7,.c (.i q)),(8,.c (.i (j:Int)))],[(0,Ent.mk true (pcell L) r),(1,Ent.mk false (scell S) 0)],2⟩
variable {i f:Ins} {A:List (V6 Bool)} {o c n j r:Nat} {w:World} {β:Bs} {v u b:V6 Bool} {E:Eff} {V:AV} {n1 e tr:Int} {L L2:List Ins} {S:List St} {C:Cx} {R:Ending→World→Prop}
theorem yax5 {q:Nat} (h:(i.op==15&&true)=true) :
  BO 119 Tryz.f119 (cx w β n []) [.ag i.cs,.c (.sl 0 o q c)] [(0,Ent.mk false (rcell A) 0)] 1 (REff w β ⟨.ag [.b false,.b false,.b false,.b false,.b false,.b false],[],none⟩) :=
 zah [] none [true] ([]) [(4,3),(4,5),(6,2),(6,6),(6,8),(7,2)] Tryz.func119 (zau rfl n) (by kernel_rfl) h zae
theorem yay5 {q:Nat} (h:(!i.op==15&&(i.op==12&&(decide (0≤1+i.of)&&decide (1+i.of<(q:Int))&&(Nat.ble (o+(1+i.of).toNat*6+6) (rcell A).length&&true))))=true) (c0:pe (.c (.i (IntKind.i64.wrap (1+i.of))))=pe (.c (.i (1+i.of)))) (c1:pe (.ag (((rcell A).drop (o+(1+i.of).toNat*6)).take 6))=pe (.ag (bcs v))) :
  BO 119 Tryz.f119 (cx w β n []) [.ag i.cs,.c (.sl 0 o q c)] [(0,Ent.mk false (rcell A) 0)] 1 (REff w β ⟨.ag (bcs v),[],none⟩) :=
 zah [] none [false,true] ([]) [(4,3),(4,5),(6,2),(6,6),(6,8),(7,2)] Tryz.func119 (zau rfl n) (by kernel_rfl) h (zac c0 (zac c1 zae))
theorem yax6 {q:Nat} (h:(!i.op==15&&(!i.op==12&&(zak i&&(decide (1<(q:Int))&&(Nat.ble (o+6+6) (rcell A).length&&(decide (0≤1+i.of)&&decide (1+i.of<(q:Int))&&(Nat.ble (o+(1+i.of).toNat*6+6) (rcell A).length&&true)))))))=true) (c0:Ok 117 [.ag i.cs] (.c (.b (zak i)))) (c1:pe (.ag (((rcell A).drop (o+6)).take 6))=pe (.ag (bcs u))) (c2:pe (.c (.i (IntKind.i64.wrap (1+i.of))))=pe (.c (.i (1+i.of)))) (c3:pe (.ag (((rcell A).drop (o+(1+i.of).toNat*6)).take 6))=pe (.ag (bcs v))) (c4:Ok 164 [.ag (bcs u),.ag (bcs v)] (.ag [.b (u.x0||v.x0),.b (u.x1||v.x1),.b (u.x2||v.x2),.b (u.x3||v.x3),.b (u.x4||v.x4),.b (u.x5||v.x5)])) :
  BO 119 Tryz.f119 (cx w β n []) [.ag i.cs,.c (.sl 0 o q c)] [(0,Ent.mk false (rcell A) 0)] 1 (REff w β ⟨.ag [.b (u.x0||v.x0),.b (u.x1||v.x1),.b (u.x2||v.x2),.b (u.x3||v.x3),.b (u.x4||v.x4),.b (u.x5||v.x5)],[],none⟩) :=
 zah [] none [false,false,true] ([]) [(4,3),(4,5),(6,2),(6,6),(6,8),(7,2)] Tryz.func119 (zau rfl n) (by kernel_rfl) h (zab c0 (zac c1 (zac c2 (zac c3 (zab c4 zae)))))
theorem yavr {q:Nat} (h:(!i.op==15&&(!i.op==12&&(!zak i&&(decide (1<(q:Int))&&(Nat.ble (o+6+6) (rcell A).length&&true)))))=true) (c0:Ok 117 [.ag i.cs] (.c (.b (zak i)))) (c1:pe (.ag (((rcell A).drop (o+6)).take 6))=pe (.ag (bcs u))) :
  BO 119 Tryz.f119 (cx w β n []) [.ag i.cs,.c (.sl 0 o q c)] [(0,Ent.mk false (rcell A) 0)] 1 (REff w β ⟨.ag (bcs u),[],none⟩) :=
 zah [] none [false,false,false] ([]) [(4,3),(4,5),(6,2),(6,6),(6,8),(7,2)] Tryz.func119 (zau rfl n) (by kernel_rfl) h (zab c0 (zac c1 zae))
theorem yat5 {q:Nat}
  (l0:(i.op==15)=true→((⟨.ag [.b false,.b false,.b false,.b false,.b false,.b false],[],none⟩:Eff)=E))
  (l1:(i.op==15)=false→(i.op==12)=true→(decide (0≤1+i.of)&&decide (1+i.of<(q:Int)))=true∧(Nat.ble (o+(1+i.of).toNat*6+6) (rcell A).length)=true∧(pe (.c (.i (IntKind.i64.wrap (1+i.of))))=pe (.c (.i (1+i.of))))∧(pe (.ag (((rcell A).drop (o+(1+i.of).toNat*6)).take 6))=pe (.ag (bcs v)))∧((⟨.ag (bcs v),[],none⟩:Eff)=E))
  (l2:(i.op==15)=false→(i.op==12)=false→(zak i)=true→(decide (1<(q:Int)))=true∧(Nat.ble (o+6+6) (rcell A).length)=true∧(decide (0≤1+i.of)&&decide (1+i.of<(q:Int)))=true∧(Nat.ble (o+(1+i.of).toNat*6+6) (rcell A).length)=true∧(Ok 117 [.ag i.cs] (.c (.b (zak i))))∧(pe (.ag (((rcell A).drop (o+6)).take 6))=pe (.ag (bcs u)))∧(pe (.c (.i (IntKind.i64.wrap (1+i.of))))=pe (.c (.i (1+i.of))))∧(pe (.ag (((rcell A).drop (o+(1+i.of).toNat*6)).take 6))=pe (.ag (bcs v)))∧(Ok 164 [.ag (bcs u),.ag (bcs v)] (.ag [.b (u.x0||v.x0),.b (u.x1||v.x1),.b (u.x2||v.x2),.b (u.x3||v.x3),.b (u.x4||v.x4),.b (u.x5||v.x5)]))∧((⟨.ag [.b (u.x0||v.x0),.b (u.x1||v.x1),.b (u.x2||v.x2),.b (u.x3||v.x3),.b (u.x4||v.x4),.b (u.x5||v.x5)],[],none⟩:Eff)=E))
  (l3:(i.op==15)=false→(i.op==12)=false→(zak i)=false→(decide (1<(q:Int)))=true∧(Nat.ble (o+6+6) (rcell A).length)=true∧(Ok 117 [.ag i.cs] (.c (.b (zak i))))∧(pe (.ag (((rcell A).drop (o+6)).take 6))=pe (.ag (bcs u)))∧((⟨.ag (bcs u),[],none⟩:Eff)=E)) :
  BO 119 Tryz.f119 (cx w β n []) [.ag i.cs,.c (.sl 0 o q c)] [(0,Ent.mk false (rcell A) 0)] 1 (REff w β E) :=
 (tf (i.op==15)).elim (fun h0=>(match l0 h0 with | e=>za5 (yax5 (zaa h0 rfl)) e)) (fun h0=>(tf (i.op==12)).elim (fun h1=>(match l1 h0 h1 with | ⟨o0,o1,c0,c1,e⟩=>za5 (yay5 (zaa (zad h0) (zaa h1 (zaa o0 (zaa o1 rfl)))) c0 c1) e)) (fun h1=>(tf (zak i)).elim (fun h2=>(match l2 h0 h1 h2 with | ⟨o0,o1,o2,o3,c0,c1,c2,c3,c4,e⟩=>za5 (yax6 (zaa (zad h0) (zaa (zad h1) (zaa h2 (zaa o0 (zaa o1 (zaa o2 (zaa o3 rfl))))))) c0 c1 c2 c3 c4) e)) (fun h2=>(match l3 h0 h1 h2 with | ⟨o0,o1,c0,c1,e⟩=>za5 (yavr (zaa (zad h0) (zaa (zad h1) (zaa (zad h2) (zaa o0 (zaa o1 rfl))))) c0 c1) e))))
theorem yaxr (h:(decide (i.op≤10)&&(decide (0≤i.d)&&decide (i.d<6)&&(Nat.ble ((i.d).toNat*1+1) (bcs b).length&&true&&true)))=true) (c0:Ok 120 [.ag i.cs] (.c (.b (decide (i.op≤10))))) (c1:we 1 (splice (bcs b) ((i.d).toNat*1) [.b false])=we 1 (bcs (b.set (i.d).toNat false))) (c2:Ok 99 [.ag i.cs] (.ag (bcs (zaw i)))) (c3:Ok 164 [.ag (bcs (zaw i)),.ag (bcs (b.set (i.d).toNat false))] (.ag [.b ((zaw i).x0||(b.set (i.d).toNat false).x0),.b ((zaw i).x1||(b.set (i.d).toNat false).x1),.b ((zaw i).x2||(b.set (i.d).toNat false).x2),.b ((zaw i).x3||(b.set (i.d).toNat false).x3),.b ((zaw i).x4||(b.set (i.d).toNat false).x4),.b ((zaw i).x5||(b.set (i.d).toNat false).x5)])) :
  Ok 121 [.ag i.cs,.ag (bcs b)] (.ag [.b ((zaw i).x0||(b.set (i.d).toNat false).x0),.b ((zaw i).x1||(b.set (i.d).toNat false).x1),.b ((zaw i).x2||(b.set (i.d).toNat false).x2),.b ((zaw i).x3||(b.set (i.d).toNat false).x3),.b ((zaw i).x4||(b.set (i.d).toNat false).x4),.b ((zaw i).x5||(b.set (i.d).toNat false).x5)]) :=
 zaf [true] ([]) [(2,3)] Tryz.func121 rfl rfl rfl rfl (by kernel_rfl) h (zab c0 (zac c1 (zab c2 (zab c3 zae))))
theorem yaxf (h:(!decide (i.op≤10)&&true)=true) (c0:Ok 120 [.ag i.cs] (.c (.b (decide (i.op≤10))))) (c1:Ok 99 [.ag i.cs] (.ag (bcs (zaw i)))) (c2:Ok 164 [.ag (bcs (zaw i)),.ag (bcs b)] (.ag [.b ((zaw i).x0||b.x0),.b ((zaw i).x1||b.x1),.b ((zaw i).x2||b.x2),.b ((zaw i).x3||b.x3),.b ((zaw i).x4||b.x4),.b ((zaw i).x5||b.x5)])) :
  Ok 121 [.ag i.cs,.ag (bcs b)] (.ag [.b ((zaw i).x0||b.x0),.b ((zaw i).x1||b.x1),.b ((zaw i).x2||b.x2),.b ((zaw i).x3||b.x3),.b ((zaw i).x4||b.x4),.b ((zaw i).x5||b.x5)]) :=
 zaf [false] ([]) [(2,3)] Tryz.func121 rfl rfl rfl rfl (by kernel_rfl) h (zab c0 (zab c1 (zab c2 zae)))
theorem yaui
  (l0:(decide (i.op≤10))=true→(decide (0≤i.d)&&decide (i.d<6))=true∧(Nat.ble ((i.d).toNat*1+1) (bcs b).length&&true)=true∧(Ok 120 [.ag i.cs] (.c (.b (decide (i.op≤10)))))∧(we 1 (splice (bcs b) ((i.d).toNat*1) [.b false])=we 1 (bcs (b.set (i.d).toNat false)))∧(Ok 99 [.ag i.cs] (.ag (bcs (zaw i))))∧(Ok 164 [.ag (bcs (zaw i)),.ag (bcs (b.set (i.d).toNat false))] (.ag [.b ((zaw i).x0||(b.set (i.d).toNat false).x0),.b ((zaw i).x1||(b.set (i.d).toNat false).x1),.b ((zaw i).x2||(b.set (i.d).toNat false).x2),.b ((zaw i).x3||(b.set (i.d).toNat false).x3),.b ((zaw i).x4||(b.set (i.d).toNat false).x4),.b ((zaw i).x5||(b.set (i.d).toNat false).x5)]))∧(AV.ag [.b ((zaw i).x0||(b.set (i.d).toNat false).x0),.b ((zaw i).x1||(b.set (i.d).toNat false).x1),.b ((zaw i).x2||(b.set (i.d).toNat false).x2),.b ((zaw i).x3||(b.set (i.d).toNat false).x3),.b ((zaw i).x4||(b.set (i.d).toNat false).x4),.b ((zaw i).x5||(b.set (i.d).toNat false).x5)]=V))
  (l1:(decide (i.op≤10))=false→(Ok 120 [.ag i.cs] (.c (.b (decide (i.op≤10)))))∧(Ok 99 [.ag i.cs] (.ag (bcs (zaw i))))∧(Ok 164 [.ag (bcs (zaw i)),.ag (bcs b)] (.ag [.b ((zaw i).x0||b.x0),.b ((zaw i).x1||b.x1),.b ((zaw i).x2||b.x2),.b ((zaw i).x3||b.x3),.b ((zaw i).x4||b.x4),.b ((zaw i).x5||b.x5)]))∧(AV.ag [.b ((zaw i).x0||b.x0),.b ((zaw i).x1||b.x1),.b ((zaw i).x2||b.x2),.b ((zaw i).x3||b.x3),.b ((zaw i).x4||b.x4),.b ((zaw i).x5||b.x5)]=V)) :
  Ok 121 [.ag i.cs,.ag (bcs b)] V :=
 (tf (decide (i.op≤10))).elim (fun h0=>(match l0 h0 with | ⟨o0,o1,c0,c1,c2,c3,e⟩=>zam (yaxr (zaa h0 (zaa o0 (zaa o1 rfl))) c0 c1 c2 c3) e)) (fun h0=>(match l1 h0 with | ⟨c0,c1,c2,e⟩=>zam (yaxf (zaa (zad h0) rfl) c0 c1 c2) e))
theorem yayz (hk:EKeys n [] (some 0) ⟨.c (.f 163 [0+0]),[],some (0,Ent.mk true [.i n1] 0)⟩) :
  BO 118 Tryz.f118 (cx w β n []) [.c (.i n1)] [] 0 (REff w β ⟨.c (.f 163 [0+0]),[],some (0,Ent.mk true [.i n1] 0)⟩) :=
 zah [] (some 0) [] ([]) [] Tryz.func118 hk (by kernel_rfl) rfl zae
theorem yal6 {p:Nat} (c0:pe (.c (.i (IntKind.i64.wrap ((p:Int) - 1))))=pe (.c (.i ((p:Int) - 1)))) (lo:Kn.Low ⟨[(0,.c (.sx 0 p)),(1,.c (.sl 1 0 p p)),(7,.c (.i ((p:Int) - 1))),(8,.c (.i 0))],[(0,Ent.mk true (pcell L) 5),(1,Ent.mk false (scell S) 0)],2⟩) (hF:∀ k,C.F k→k<2) (z:AR 62 Tryz.f62 C 0 ⟨[(0,.c (.sx 0 p)),(1,.c (.sl 1 0 p p)),(7,.c (.i ((p:Int) - 1))),(8,.c (.i 0))],[(0,Ent.mk true (pcell L) 5),(1,Ent.mk false (scell S) 0)],2⟩ R) :
  BO 62 Tryz.f62 C [.c (.sx 0 p),.c (.sl 1 0 p p)] [(0,Ent.mk true (pcell L) 5),(1,Ent.mk false (scell S) 0)] 2 R :=
 zai [] ([true]) [(0,2)] Tryz.func62 (by kernel_rfl) rfl (zac c0 zae) lo hF z
theorem yagb {p:Nat} {q:Int} (h:(decide ((j:Int)<q)&&(decide ((j:Int)<(p:Int))&&(Nat.ble ((j:Int).toNat*5+5) (pcell L).length&&(decide ((j:Int)<(p:Int))&&(Nat.ble (0+(j:Int).toNat*31+31) (scell S).length&&(decide ((j:Int)<(p:Int))&&(Nat.ble ((j:Int).toNat*5+(f.cs).length) (pcell L).length&&true&&true)))))))=true) (c0:pe (.ag (((pcell L).drop ((j:Int).toNat*5)).take 5))=pe (.ag (elt L j).cs)) (c1:pe (.ag (((scell S).drop (0+(j:Int).toNat*31)).take 31))=pe (.ag (stAt S j).cs)) (c2:Ok 63 [.ag (elt L j).cs,.ag (stAt S j).cs] (.ag f.cs)) (c3:we 0 (splice (pcell L) ((j:Int).toNat*5) f.cs)=we 0 (pcell (L.set j f))) (c4:pe (.c (.i (IntKind.i64.wrap ((j:Int)+1))))=pe (.c (.i (↑(j+1):Int)))) (lo:Kn.Low (zlu (L.set j f) S (j+1) p 0 q)) (hF:∀ k,C.F k→k<2) (z:AR 62 Tryz.f62 C 0 (zlu (L.set j f) S (j+1) p 0 q) R) :
  AR 62 Tryz.f62 C 0 (zlu L S j p r q) R :=
 zai [true] ([true]) [(3,5),(3,9),(3,12),(4,0)] Tryz.func62 (by kernel_rfl) h (zac c0 (zac c1 (zab c2 (zac c3 (zac c4 zae))))) lo hF z
theorem yao7 {p:Nat} {q:Int} (h:(!decide ((j:Int)<q)&&true)=true) (hk:EKeys n [0] none ⟨.tu [],[(0,pcell L)],none⟩) :
  AR 62 Tryz.f62 (cx w β n [0]) 0 (zlu L S j p r q) (REff w β ⟨.tu [],[(0,pcell L)],none⟩) :=
 zah [0] none [false] ([true]) [] Tryz.func62 hk (by kernel_rfl) h zae
theorem yan5 {q:Nat} {p:Int} (h:(!tr==0&&true)=true) (c0:CO 8 [.c (.sl 0 0 L.length c)] [(0,Ent.mk false (pcell L) 0)] (Eff.mk (.tu [.ag [.i tr,.i p,.sx 4 q],.c (.i 0)]) [] (some (4,Ent.mk true (scell S) 31)))) (c1:CO 114 [.c (.sl 0 0 L.length c)] [(0,Ent.mk false (pcell L) 0)] (Eff.mk (.c (.sx 14 L.length)) [] (some (14,Ent.mk true (pcell L) 5)))) (hk:EKeys n [] (some 14) ⟨.tu [.c (.sx 14 L.length),.c (.i 0)],[],some (14,Ent.mk true (pcell L) 5)⟩) :
  BO 61 Tryz.f61 (cx w β n []) [.c (.sl 0 0 L.length c),.c (.f 62 [])] [(0,Ent.mk false (pcell L) 0)] 1 (REff w β ⟨.tu [.c (.sx 14 L.length),.c (.i 0)],[],some (14,Ent.mk true (pcell L) 5)⟩) :=
 zah [] (some 14) [false,false] ([]) [] Tryz.func61 hk (by kernel_rfl) h (zab c0 (zab c1 zae))
theorem yamp (c0:CO 8 [.c (.sl 0 0 L.length c)] [(0,Ent.mk false (pcell L) 0)] (Eff.mk (.tu [.ag [.i 0,.i 0,.sl 4 0 L.length L.length],.c (.i 0)]) [] (some (4,Ent.mk true (scell S) 0)))) (c1:CO 114 [.c (.sl 0 0 L.length c)] [(0,Ent.mk false (pcell L) 0)] (Eff.mk (.c (.sx 14 L.length)) [] (some (14,Ent.mk true (pcell L) 5)))) (c2:CO 62 [.c (.sx 14 L.length),.c (.sl 4 0 L.length L.length)] [(14,Ent.mk true (pcell L) 5),(4,Ent.mk true (scell S) 0)] (Eff.mk (.tu []) [(14,pcell L2)] none)) (hk:EKeys n [] (some 14) ⟨.tu [.c (.sx 14 L.length),.c (.i 0)],[],some (14,Ent.mk true (pcell L2) 0)⟩) :
  BO 61 Tryz.f61 (cx w β n []) [.c (.sl 0 0 L.length c),.c (.f 62 [])] [(0,Ent.mk false (pcell L) 0)] 1 (REff w β ⟨.tu [.c (.sx 14 L.length),.c (.i 0)],[],some (14,Ent.mk true (pcell L2) 0)⟩) :=
 zah [] (some 14) [false,true] ([]) [] Tryz.func61 hk (by kernel_rfl) rfl (zab c0 (zab c1 (zab c2 zae)))
theorem yaoe {q:Nat} {p:Int} (h:(!tr==0&&true)=true) (c0:CO 8 [.c (.sl 0 0 L.length c)] [(0,Ent.mk false (pcell L) 0)] (Eff.mk (.tu [.ag [.i tr,.i p,.sx 4 q],.c (.i 0)]) [] (some (4,Ent.mk true (scell S) 31)))) (c1:CO 114 [.c (.sl 0 0 L.length c)] [(0,Ent.mk false (pcell L) 0)] (Eff.mk (.c (.sx 14 L.length)) [] (some (14,Ent.mk true (pcell L) 5)))) (hk:EKeys n [] (some 14) ⟨.tu [.c (.sx 14 L.length),.c (.i 0)],[],some (14,Ent.mk true (pcell L) 5)⟩) :
  BO 61 Tryz.f61 (cx w β n []) [.c (.sl 0 0 L.length c),.c (.f 64 [])] [(0,Ent.mk false (pcell L) 0)] 1 (REff w β ⟨.tu [.c (.sx 14 L.length),.c (.i 0)],[],some (14,Ent.mk true (pcell L) 5)⟩) :=
 zah [] (some 14) [false,false] ([]) [] Tryz.func61 hk (by kernel_rfl) h (zab c0 (zab c1 zae))
theorem yan7 (c0:CO 8 [.c (.sl 0 0 L.length c)] [(0,Ent.mk false (pcell L) 0)] (Eff.mk (.tu [.ag [.i 0,.i 0,.sl 4 0 L.length L.length],.c (.i 0)]) [] (some (4,Ent.mk true (scell S) 0)))) (c1:CO 114 [.c (.sl 0 0 L.length c)] [(0,Ent.mk false (pcell L) 0)] (Eff.mk (.c (.sx 14 L.length)) [] (some (14,Ent.mk true (pcell L) 5)))) (c2:CO 64 [.c (.sx 14 L.length),.c (.sl 4 0 L.length L.length)] [(14,Ent.mk true (pcell L) 5),(4,Ent.mk true (scell S) 0)] (Eff.mk (.tu []) [(14,pcell L2)] none)) (hk:EKeys n [] (some 14) ⟨.tu [.c (.sx 14 L.length),.c (.i 0)],[],some (14,Ent.mk true (pcell L2) 0)⟩) :
  BO 61 Tryz.f61 (cx w β n []) [.c (.sl 0 0 L.length c),.c (.f 64 [])] [(0,Ent.mk false (pcell L) 0)] 1 (REff w β ⟨.tu [.c (.sx 14 L.length),.c (.i 0)],[],some (14,Ent.mk true (pcell L2) 0)⟩) :=
 zah [] (some 14) [false,true] ([]) [] Tryz.func61 hk (by kernel_rfl) rfl (zab c0 (zab c1 (zab c2 zae)))
end
section
abbrev yatz (a b:V6 Bool) (j:Int):Kn:=⟨[(2,.c (.w 0)),(3,.c (.w 1)),(4,.c (.w 2)),(6,.c (.i j))],[(0,Ent.mk true (bcs a) 0),(1,Ent.mk true (bcs b) 0),(2,Ent.mk true (bcs no6) 0)],3⟩
variable {i:Ins} {V:AV} {t:St} {b:V6 Bool} {C:Cx} {R:Ending→World→Prop} {j:Int} {w:World} {β:Bs} {n:Nat}
theorem yazk :
  Ok 115 [] (.ag [.i 12,.i 0,.i 0,.u 0#64,.i 0]) :=
 zaf [] ([]) [] Tryz.func115 rfl rfl rfl rfl (by kernel_rfl) rfl zae
theorem yawd {a:V4} :
  Ok 116 [.ag a.cs] (.c (.b (eqb a.l a.h))) :=
 zaf [] ([]) [] Tryz.func116 rfl rfl rfl rfl (by kernel_rfl) rfl zae
theorem yayi (h:(i.op==13&&true)=true) :
  Ok 117 [.ag i.cs] (.c (.b true)) :=
 zaf [true] ([]) [] Tryz.func117 rfl rfl rfl rfl (by kernel_rfl) h zae
theorem yawv (h:(!i.op==13&&true)=true) :
  Ok 117 [.ag i.cs] (.c (.b (i.op==14))) :=
 zaf [false] ([]) [] Tryz.func117 rfl rfl rfl rfl (by kernel_rfl) h zae
theorem yas3
  (l0:(i.op==13)=true→(AV.c (.b true)=V))
  (l1:(i.op==13)=false→(AV.c (.b (i.op==14))=V)) :
  Ok 117 [.ag i.cs] V :=
 (tf (i.op==13)).elim (fun h0=>(match l0 h0 with | e=>zam (yayi (zaa h0 rfl)) e)) (fun h0=>(match l1 h0 with | e=>zam (yawv (zaa (zad h0) rfl)) e))
theorem yazz :
  Ok 120 [.ag i.cs] (.c (.b (decide (i.op≤10)))) :=
 zaf [] ([]) [] Tryz.func120 rfl rfl rfl rfl (by kernel_rfl) rfl zae
theorem yayf (h:(!t.live&&true)=true) (c0:Ok 115 [] (.ag onI.cs)) :
  Ok 63 [.ag i.cs,.ag t.cs] (.ag [.i 12,.i 0,.i 0,.u 0#64,.i 0]) :=
 zaf [true] ([]) [(4,8),(5,7)] Tryz.func63 rfl rfl rfl rfl (by kernel_rfl) h (zab c0 zae)
theorem yayl (h:(!!t.live&&(decide (i.op≤9)&&(decide (0≤i.d)&&decide (i.d<6)&&(Nat.ble (7+(i.d).toNat*4+4) ((Prod.fst (zag i t)).cs).length&&((((Prod.fst (zag i t)).r).get (i.d).toNat).l==(((Prod.fst (zag i t)).r).get (i.d).toNat).h&&(decide (0≤i.d)&&decide (i.d<6)&&(AC.isU (((Prod.fst (zag i t)).cs)[7+(i.d).toNat*4+2]?.getD (.b false))&&Nat.blt (7+(i.d).toNat*4+2) ((Prod.fst (zag i t)).cs).length&&true)))))))=true) (c0:Ok 21 [.ag i.cs,.ag t.cs] (.tu [.ag (Prod.fst (zag i t)).cs,.ag (Prod.fst (Prod.snd (zag i t))).cs,.c (.i (Prod.snd (Prod.snd (zag i t)))),.c (.i 0)])) (c1:pe (.ag ((((Prod.fst (zag i t)).cs).drop (7+(i.d).toNat*4)).take 4))=pe (.ag (((Prod.fst (zag i t)).r).get (i.d).toNat).cs)) (c2:Ok 116 [.ag (((Prod.fst (zag i t)).r).get (i.d).toNat).cs] (.c (.b ((((Prod.fst (zag i t)).r).get (i.d).toNat).l==(((Prod.fst (zag i t)).r).get (i.d).toNat).h)))) (c3:pe (.c (.u (AC.asU (((Prod.fst (zag i t)).cs)[7+(i.d).toNat*4+2]?.getD (.b false)))))=pe (.c (.u (((Prod.fst (zag i t)).r).get (i.d).toNat).l))) :
  Ok 63 [.ag i.cs,.ag t.cs] (.ag [.i 1,.i i.d,.i (-1),.u (((Prod.fst (zag i t)).r).get (i.d).toNat).l,.i 0]) :=
 zaf [false,true,true] ([]) [(4,8),(5,7)] Tryz.func63 rfl rfl rfl rfl (by kernel_rfl) h (zab c0 (zac c1 (zab c2 (zac c3 zae))))
theorem yawk (h:(!!t.live&&(decide (i.op≤9)&&(decide (0≤i.d)&&decide (i.d<6)&&(Nat.ble (7+(i.d).toNat*4+4) ((Prod.fst (zag i t)).cs).length&&(!(((Prod.fst (zag i t)).r).get (i.d).toNat).l==(((Prod.fst (zag i t)).r).get (i.d).toNat).h&&(zak i&&(!(Prod.fst (Prod.snd (zag i t))).live&&true)))))))=true) (c0:Ok 21 [.ag i.cs,.ag t.cs] (.tu [.ag (Prod.fst (zag i t)).cs,.ag (Prod.fst (Prod.snd (zag i t))).cs,.c (.i (Prod.snd (Prod.snd (zag i t)))),.c (.i 0)])) (c1:pe (.ag ((((Prod.fst (zag i t)).cs).drop (7+(i.d).toNat*4)).take 4))=pe (.ag (((Prod.fst (zag i t)).r).get (i.d).toNat).cs)) (c2:Ok 116 [.ag (((Prod.fst (zag i t)).r).get (i.d).toNat).cs] (.c (.b ((((Prod.fst (zag i t)).r).get (i.d).toNat).l==(((Prod.fst (zag i t)).r).get (i.d).toNat).h)))) (c3:Ok 117 [.ag i.cs] (.c (.b (zak i)))) (c4:Ok 115 [] (.ag onI.cs)) :
  Ok 63 [.ag i.cs,.ag t.cs] (.ag [.i 12,.i 0,.i 0,.u 0#64,.i 0]) :=
 zaf [false,true,false,true,true] ([]) [(4,8),(5,7)] Tryz.func63 rfl rfl rfl rfl (by kernel_rfl) h (zab c0 (zac c1 (zab c2 (zab c3 (zab c4 zae)))))
theorem yayp (h:(!!t.live&&(decide (i.op≤9)&&(decide (0≤i.d)&&decide (i.d<6)&&(Nat.ble (7+(i.d).toNat*4+4) ((Prod.fst (zag i t)).cs).length&&(!(((Prod.fst (zag i t)).r).get (i.d).toNat).l==(((Prod.fst (zag i t)).r).get (i.d).toNat).h&&(zak i&&(!!(Prod.fst (Prod.snd (zag i t))).live&&(zak i&&(!(Prod.fst (zag i t)).live&&true)))))))))=true) (c0:Ok 21 [.ag i.cs,.ag t.cs] (.tu [.ag (Prod.fst (zag i t)).cs,.ag (Prod.fst (Prod.snd (zag i t))).cs,.c (.i (Prod.snd (Prod.snd (zag i t)))),.c (.i 0)])) (c1:pe (.ag ((((Prod.fst (zag i t)).cs).drop (7+(i.d).toNat*4)).take 4))=pe (.ag (((Prod.fst (zag i t)).r).get (i.d).toNat).cs)) (c2:Ok 116 [.ag (((Prod.fst (zag i t)).r).get (i.d).toNat).cs] (.c (.b ((((Prod.fst (zag i t)).r).get (i.d).toNat).l==(((Prod.fst (zag i t)).r).get (i.d).toNat).h)))) (c3:Ok 117 [.ag i.cs] (.c (.b (zak i)))) (c4:Ok 117 [.ag i.cs] (.c (.b (zak i)))) :
  Ok 63 [.ag i.cs,.ag t.cs] (.ag [.i 12,.i 0,.i 0,.u 0#64,.i i.of]) :=
 zaf [false,true,false,true,false,true,true] ([]) [(4,8),(5,7)] Tryz.func63 rfl rfl rfl rfl (by kernel_rfl) h (zab c0 (zac c1 (zab c2 (zab c3 (zab c4 zae)))))
theorem yayx (h:(!!t.live&&(decide (i.op≤9)&&(decide (0≤i.d)&&decide (i.d<6)&&(Nat.ble (7+(i.d).toNat*4+4) ((Prod.fst (zag i t)).cs).length&&(!(((Prod.fst (zag i t)).r).get (i.d).toNat).l==(((Prod.fst (zag i t)).r).get (i.d).toNat).h&&(zak i&&(!!(Prod.fst (Prod.snd (zag i t))).live&&(zak i&&(!!(Prod.fst (zag i t)).live&&true)))))))))=true) (c0:Ok 21 [.ag i.cs,.ag t.cs] (.tu [.ag (Prod.fst (zag i t)).cs,.ag (Prod.fst (Prod.snd (zag i t))).cs,.c (.i (Prod.snd (Prod.snd (zag i t)))),.c (.i 0)])) (c1:pe (.ag ((((Prod.fst (zag i t)).cs).drop (7+(i.d).toNat*4)).take 4))=pe (.ag (((Prod.fst (zag i t)).r).get (i.d).toNat).cs)) (c2:Ok 116 [.ag (((Prod.fst (zag i t)).r).get (i.d).toNat).cs] (.c (.b ((((Prod.fst (zag i t)).r).get (i.d).toNat).l==(((Prod.fst (zag i t)).r).get (i.d).toNat).h)))) (c3:Ok 117 [.ag i.cs] (.c (.b (zak i)))) (c4:Ok 117 [.ag i.cs] (.c (.b (zak i)))) :
  Ok 63 [.ag i.cs,.ag t.cs] (.ag i.cs) :=
 zaf [false,true,false,true,false,true,false] ([]) [(4,8),(5,7)] Tryz.func63 rfl rfl rfl rfl (by kernel_rfl) h (zab c0 (zac c1 (zab c2 (zab c3 (zab c4 zae)))))
theorem yawm (h:(!!t.live&&(decide (i.op≤9)&&(decide (0≤i.d)&&decide (i.d<6)&&(Nat.ble (7+(i.d).toNat*4+4) ((Prod.fst (zag i t)).cs).length&&(!(((Prod.fst (zag i t)).r).get (i.d).toNat).l==(((Prod.fst (zag i t)).r).get (i.d).toNat).h&&(!zak i&&(!zak i&&true)))))))=true) (c0:Ok 21 [.ag i.cs,.ag t.cs] (.tu [.ag (Prod.fst (zag i t)).cs,.ag (Prod.fst (Prod.snd (zag i t))).cs,.c (.i (Prod.snd (Prod.snd (zag i t)))),.c (.i 0)])) (c1:pe (.ag ((((Prod.fst (zag i t)).cs).drop (7+(i.d).toNat*4)).take 4))=pe (.ag (((Prod.fst (zag i t)).r).get (i.d).toNat).cs)) (c2:Ok 116 [.ag (((Prod.fst (zag i t)).r).get (i.d).toNat).cs] (.c (.b ((((Prod.fst (zag i t)).r).get (i.d).toNat).l==(((Prod.fst (zag i t)).r).get (i.d).toNat).h)))) (c3:Ok 117 [.ag i.cs] (.c (.b (zak i)))) (c4:Ok 117 [.ag i.cs] (.c (.b (zak i)))) :
  Ok 63 [.ag i.cs,.ag t.cs] (.ag i.cs) :=
 zaf [false,true,false,false,false,false,false] ([]) [(4,8),(5,7)] Tryz.func63 rfl rfl rfl rfl (by kernel_rfl) h (zab c0 (zac c1 (zab c2 (zab c3 (zab c4 zae)))))
theorem yazf (h:(!!t.live&&(!decide (i.op≤9)&&(zak i&&(!(Prod.fst (Prod.snd (zag i t))).live&&true))))=true) (c0:Ok 21 [.ag i.cs,.ag t.cs] (.tu [.ag (Prod.fst (zag i t)).cs,.ag (Prod.fst (Prod.snd (zag i t))).cs,.c (.i (Prod.snd (Prod.snd (zag i t)))),.c (.i 0)])) (c1:Ok 117 [.ag i.cs] (.c (.b (zak i)))) (c2:Ok 115 [] (.ag onI.cs)) :
  Ok 63 [.ag i.cs,.ag t.cs] (.ag [.i 12,.i 0,.i 0,.u 0#64,.i 0]) :=
 zaf [false,false,false,true,true] ([]) [(4,8),(5,7)] Tryz.func63 rfl rfl rfl rfl (by kernel_rfl) h (zab c0 (zab c1 (zab c2 zae)))
theorem yawf (h:(!!t.live&&(!decide (i.op≤9)&&(zak i&&(!!(Prod.fst (Prod.snd (zag i t))).live&&(zak i&&(!(Prod.fst (zag i t)).live&&true))))))=true) (c0:Ok 21 [.ag i.cs,.ag t.cs] (.tu [.ag (Prod.fst (zag i t)).cs,.ag (Prod.fst (Prod.snd (zag i t))).cs,.c (.i (Prod.snd (Prod.snd (zag i t)))),.c (.i 0)])) (c1:Ok 117 [.ag i.cs] (.c (.b (zak i)))) (c2:Ok 117 [.ag i.cs] (.c (.b (zak i)))) :
  Ok 63 [.ag i.cs,.ag t.cs] (.ag [.i 12,.i 0,.i 0,.u 0#64,.i i.of]) :=
 zaf [false,false,false,true,false,true,true] ([]) [(4,8),(5,7)] Tryz.func63 rfl rfl rfl rfl (by kernel_rfl) h (zab c0 (zab c1 (zab c2 zae)))
theorem yax7 (h:(!!t.live&&(!decide (i.op≤9)&&(zak i&&(!!(Prod.fst (Prod.snd (zag i t))).live&&(zak i&&(!!(Prod.fst (zag i t)).live&&true))))))=true) (c0:Ok 21 [.ag i.cs,.ag t.cs] (.tu [.ag (Prod.fst (zag i t)).cs,.ag (Prod.fst (Prod.snd (zag i t))).cs,.c (.i (Prod.snd (Prod.snd (zag i t)))),.c (.i 0)])) (c1:Ok 117 [.ag i.cs] (.c (.b (zak i)))) (c2:Ok 117 [.ag i.cs] (.c (.b (zak i)))) :
  Ok 63 [.ag i.cs,.ag t.cs] (.ag i.cs) :=
 zaf [false,false,false,true,false,true,false] ([]) [(4,8),(5,7)] Tryz.func63 rfl rfl rfl rfl (by kernel_rfl) h (zab c0 (zab c1 (zab c2 zae)))
theorem yawh (h:(!!t.live&&(!decide (i.op≤9)&&(!zak i&&(!zak i&&true))))=true) (c0:Ok 21 [.ag i.cs,.ag t.cs] (.tu [.ag (Prod.fst (zag i t)).cs,.ag (Prod.fst (Prod.snd (zag i t))).cs,.c (.i (Prod.snd (Prod.snd (zag i t)))),.c (.i 0)])) (c1:Ok 117 [.ag i.cs] (.c (.b (zak i)))) (c2:Ok 117 [.ag i.cs] (.c (.b (zak i)))) :
  Ok 63 [.ag i.cs,.ag t.cs] (.ag i.cs) :=
 zaf [false,false,false,false,false,false,false] ([]) [(4,8),(5,7)] Tryz.func63 rfl rfl rfl rfl (by kernel_rfl) h (zab c0 (zab c1 (zab c2 zae)))
theorem yats
  (l0:(!t.live)=true→(Ok 115 [] (.ag onI.cs))∧(AV.ag [.i 12,.i 0,.i 0,.u 0#64,.i 0]=V))
  (l1:(!t.live)=false→(decide (i.op≤9))=true→((((Prod.fst (zag i t)).r).get (i.d).toNat).l==(((Prod.fst (zag i t)).r).get (i.d).toNat).h)=true→(decide (0≤i.d)&&decide (i.d<6))=true∧(Nat.ble (7+(i.d).toNat*4+4) ((Prod.fst (zag i t)).cs).length)=true∧(decide (0≤i.d)&&decide (i.d<6))=true∧(AC.isU (((Prod.fst (zag i t)).cs)[7+(i.d).toNat*4+2]?.getD (.b false))&&Nat.blt (7+(i.d).toNat*4+2) ((Prod.fst (zag i t)).cs).length)=true∧(Ok 21 [.ag i.cs,.ag t.cs] (.tu [.ag (Prod.fst (zag i t)).cs,.ag (Prod.fst (Prod.snd (zag i t))).cs,.c (.i (Prod.snd (Prod.snd (zag i t)))),.c (.i 0)]))∧(pe (.ag ((((Prod.fst (zag i t)).cs).drop (7+(i.d).toNat*4)).take 4))=pe (.ag (((Prod.fst (zag i t)).r).get (i.d).toNat).cs))∧(Ok 116 [.ag (((Prod.fst (zag i t)).r).get (i.d).toNat).cs] (.c (.b ((((Prod.fst (zag i t)).r).get (i.d).toNat).l==(((Prod.fst (zag i t)).r).get (i.d).toNat).h))))∧(pe (.c (.u (AC.asU (((Prod.fst (zag i t)).cs)[7+(i.d).toNat*4+2]?.getD (.b false)))))=pe (.c (.u (((Prod.fst (zag i t)).r).get (i.d).toNat).l)))∧(AV.ag [.i 1,.i i.d,.i (-1),.u (((Prod.fst (zag i t)).r).get (i.d).toNat).l,.i 0]=V))
  (l2:(!t.live)=false→(decide (i.op≤9))=true→((((Prod.fst (zag i t)).r).get (i.d).toNat).l==(((Prod.fst (zag i t)).r).get (i.d).toNat).h)=false→(zak i)=true→(!(Prod.fst (Prod.snd (zag i t))).live)=true→(decide (0≤i.d)&&decide (i.d<6))=true∧(Nat.ble (7+(i.d).toNat*4+4) ((Prod.fst (zag i t)).cs).length)=true∧(Ok 21 [.ag i.cs,.ag t.cs] (.tu [.ag (Prod.fst (zag i t)).cs,.ag (Prod.fst (Prod.snd (zag i t))).cs,.c (.i (Prod.snd (Prod.snd (zag i t)))),.c (.i 0)]))∧(pe (.ag ((((Prod.fst (zag i t)).cs).drop (7+(i.d).toNat*4)).take 4))=pe (.ag (((Prod.fst (zag i t)).r).get (i.d).toNat).cs))∧(Ok 116 [.ag (((Prod.fst (zag i t)).r).get (i.d).toNat).cs] (.c (.b ((((Prod.fst (zag i t)).r).get (i.d).toNat).l==(((Prod.fst (zag i t)).r).get (i.d).toNat).h))))∧(Ok 117 [.ag i.cs] (.c (.b (zak i))))∧(Ok 115 [] (.ag onI.cs))∧(AV.ag [.i 12,.i 0,.i 0,.u 0#64,.i 0]=V))
  (l3:(!t.live)=false→(decide (i.op≤9))=true→((((Prod.fst (zag i t)).r).get (i.d).toNat).l==(((Prod.fst (zag i t)).r).get (i.d).toNat).h)=false→(zak i)=true→(!(Prod.fst (Prod.snd (zag i t))).live)=false→(!(Prod.fst (zag i t)).live)=true→(decide (0≤i.d)&&decide (i.d<6))=true∧(Nat.ble (7+(i.d).toNat*4+4) ((Prod.fst (zag i t)).cs).length)=true∧(Ok 21 [.ag i.cs,.ag t.cs] (.tu [.ag (Prod.fst (zag i t)).cs,.ag (Prod.fst (Prod.snd (zag i t))).cs,.c (.i (Prod.snd (Prod.snd (zag i t)))),.c (.i 0)]))∧(pe (.ag ((((Prod.fst (zag i t)).cs).drop (7+(i.d).toNat*4)).take 4))=pe (.ag (((Prod.fst (zag i t)).r).get (i.d).toNat).cs))∧(Ok 116 [.ag (((Prod.fst (zag i t)).r).get (i.d).toNat).cs] (.c (.b ((((Prod.fst (zag i t)).r).get (i.d).toNat).l==(((Prod.fst (zag i t)).r).get (i.d).toNat).h))))∧(Ok 117 [.ag i.cs] (.c (.b (zak i))))∧(Ok 117 [.ag i.cs] (.c (.b (zak i))))∧(AV.ag [.i 12,.i 0,.i 0,.u 0#64,.i i.of]=V))
  (l4:(!t.live)=false→(decide (i.op≤9))=true→((((Prod.fst (zag i t)).r).get (i.d).toNat).l==(((Prod.fst (zag i t)).r).get (i.d).toNat).h)=false→(zak i)=true→(!(Prod.fst (Prod.snd (zag i t))).live)=false→(!(Prod.fst (zag i t)).live)=false→(decide (0≤i.d)&&decide (i.d<6))=true∧(Nat.ble (7+(i.d).toNat*4+4) ((Prod.fst (zag i t)).cs).length)=true∧(Ok 21 [.ag i.cs,.ag t.cs] (.tu [.ag (Prod.fst (zag i t)).cs,.ag (Prod.fst (Prod.snd (zag i t))).cs,.c (.i (Prod.snd (Prod.snd (zag i t)))),.c (.i 0)]))∧(pe (.ag ((((Prod.fst (zag i t)).cs).drop (7+(i.d).toNat*4)).take 4))=pe (.ag (((Prod.fst (zag i t)).r).get (i.d).toNat).cs))∧(Ok 116 [.ag (((Prod.fst (zag i t)).r).get (i.d).toNat).cs] (.c (.b ((((Prod.fst (zag i t)).r).get (i.d).toNat).l==(((Prod.fst (zag i t)).r).get (i.d).toNat).h))))∧(Ok 117 [.ag i.cs] (.c (.b (zak i))))∧(Ok 117 [.ag i.cs] (.c (.b (zak i))))∧(AV.ag i.cs=V))
  (l5:(!t.live)=false→(decide (i.op≤9))=true→((((Prod.fst (zag i t)).r).get (i.d).toNat).l==(((Prod.fst (zag i t)).r).get (i.d).toNat).h)=false→(zak i)=false→(decide (0≤i.d)&&decide (i.d<6))=true∧(Nat.ble (7+(i.d).toNat*4+4) ((Prod.fst (zag i t)).cs).length)=true∧(Ok 21 [.ag i.cs,.ag t.cs] (.tu [.ag (Prod.fst (zag i t)).cs,.ag (Prod.fst (Prod.snd (zag i t))).cs,.c (.i (Prod.snd (Prod.snd (zag i t)))),.c (.i 0)]))∧(pe (.ag ((((Prod.fst (zag i t)).cs).drop (7+(i.d).toNat*4)).take 4))=pe (.ag (((Prod.fst (zag i t)).r).get (i.d).toNat).cs))∧(Ok 116 [.ag (((Prod.fst (zag i t)).r).get (i.d).toNat).cs] (.c (.b ((((Prod.fst (zag i t)).r).get (i.d).toNat).l==(((Prod.fst (zag i t)).r).get (i.d).toNat).h))))∧(Ok 117 [.ag i.cs] (.c (.b (zak i))))∧(Ok 117 [.ag i.cs] (.c (.b (zak i))))∧(AV.ag i.cs=V))
  (l6:(!t.live)=false→(decide (i.op≤9))=false→(zak i)=true→(!(Prod.fst (Prod.snd (zag i t))).live)=true→(Ok 21 [.ag i.cs,.ag t.cs] (.tu [.ag (Prod.fst (zag i t)).cs,.ag (Prod.fst (Prod.snd (zag i t))).cs,.c (.i (Prod.snd (Prod.snd (zag i t)))),.c (.i 0)]))∧(Ok 117 [.ag i.cs] (.c (.b (zak i))))∧(Ok 115 [] (.ag onI.cs))∧(AV.ag [.i 12,.i 0,.i 0,.u 0#64,.i 0]=V))
  (l7:(!t.live)=false→(decide (i.op≤9))=false→(zak i)=true→(!(Prod.fst (Prod.snd (zag i t))).live)=false→(!(Prod.fst (zag i t)).live)=true→(Ok 21 [.ag i.cs,.ag t.cs] (.tu [.ag (Prod.fst (zag i t)).cs,.ag (Prod.fst (Prod.snd (zag i t))).cs,.c (.i (Prod.snd (Prod.snd (zag i t)))),.c (.i 0)]))∧(Ok 117 [.ag i.cs] (.c (.b (zak i))))∧(Ok 117 [.ag i.cs] (.c (.b (zak i))))∧(AV.ag [.i 12,.i 0,.i 0,.u 0#64,.i i.of]=V))
  (l8:(!t.live)=false→(decide (i.op≤9))=false→(zak i)=true→(!(Prod.fst (Prod.snd (zag i t))).live)=false→(!(Prod.fst (zag i t)).live)=false→(Ok 21 [.ag i.cs,.ag t.cs] (.tu [.ag (Prod.fst (zag i t)).cs,.ag (Prod.fst (Prod.snd (zag i t))).cs,.c (.i (Prod.snd (Prod.snd (zag i t)))),.c (.i 0)]))∧(Ok 117 [.ag i.cs] (.c (.b (zak i))))∧(Ok 117 [.ag i.cs] (.c (.b (zak i))))∧(AV.ag i.cs=V))
  (l9:(!t.live)=false→(decide (i.op≤9))=false→(zak i)=false→(Ok 21 [.ag i.cs,.ag t.cs] (.tu [.ag (Prod.fst (zag i t)).cs,.ag (Prod.fst (Prod.snd (zag i t))).cs,.c (.i (Prod.snd (Prod.snd (zag i t)))),.c (.i 0)]))∧(Ok 117 [.ag i.cs] (.c (.b (zak i))))∧(Ok 117 [.ag i.cs] (.c (.b (zak i))))∧(AV.ag i.cs=V)) :
  Ok 63 [.ag i.cs,.ag t.cs] V :=
 (tf (!t.live)).elim (fun h0=>(match l0 h0 with | ⟨c0,e⟩=>zam (yayf (zaa h0 rfl) c0) e)) (fun h0=>(tf (decide (i.op≤9))).elim (fun h1=>(tf ((((Prod.fst (zag i t)).r).get (i.d).toNat).l==(((Prod.fst (zag i t)).r).get (i.d).toNat).h)).elim (fun h2=>(match l1 h0 h1 h2 with | ⟨o0,o1,o2,o3,c0,c1,c2,c3,e⟩=>zam (yayl (zaa (zad h0) (zaa h1 (zaa o0 (zaa o1 (zaa h2 (zaa o2 (zaa o3 rfl))))))) c0 c1 c2 c3) e)) (fun h2=>(tf (zak i)).elim (fun h3=>(tf (!(Prod.fst (Prod.snd (zag i t))).live)).elim (fun h4=>(match l2 h0 h1 h2 h3 h4 with | ⟨o0,o1,c0,c1,c2,c3,c4,e⟩=>zam (yawk (zaa (zad h0) (zaa h1 (zaa o0 (zaa o1 (zaa (zad h2) (zaa h3 (zaa h4 rfl))))))) c0 c1 c2 c3 c4) e)) (fun h4=>(tf (!(Prod.fst (zag i t)).live)).elim (fun h5=>(match l3 h0 h1 h2 h3 h4 h5 with | ⟨o0,o1,c0,c1,c2,c3,c4,e⟩=>zam (yayp (zaa (zad h0) (zaa h1 (zaa o0 (zaa o1 (zaa (zad h2) (zaa h3 (zaa (zad h4) (zaa h3 (zaa h5 rfl))))))))) c0 c1 c2 c3 c4) e)) (fun h5=>(match l4 h0 h1 h2 h3 h4 h5 with | ⟨o0,o1,c0,c1,c2,c3,c4,e⟩=>zam (yayx (zaa (zad h0) (zaa h1 (zaa o0 (zaa o1 (zaa (zad h2) (zaa h3 (zaa (zad h4) (zaa h3 (zaa (zad h5) rfl))))))))) c0 c1 c2 c3 c4) e)))) (fun h3=>(match l5 h0 h1 h2 h3 with | ⟨o0,o1,c0,c1,c2,c3,c4,e⟩=>zam (yawm (zaa (zad h0) (zaa h1 (zaa o0 (zaa o1 (zaa (zad h2) (zaa (zad h3) (zaa (zad h3) rfl))))))) c0 c1 c2 c3 c4) e)))) (fun h1=>(tf (zak i)).elim (fun h2=>(tf (!(Prod.fst (Prod.snd (zag i t))).live)).elim (fun h3=>(match l6 h0 h1 h2 h3 with | ⟨c0,c1,c2,e⟩=>zam (yazf (zaa (zad h0) (zaa (zad h1) (zaa h2 (zaa h3 rfl)))) c0 c1 c2) e)) (fun h3=>(tf (!(Prod.fst (zag i t)).live)).elim (fun h4=>(match l7 h0 h1 h2 h3 h4 with | ⟨c0,c1,c2,e⟩=>zam (yawf (zaa (zad h0) (zaa (zad h1) (zaa h2 (zaa (zad h3) (zaa h2 (zaa h4 rfl)))))) c0 c1 c2) e)) (fun h4=>(match l8 h0 h1 h2 h3 h4 with | ⟨c0,c1,c2,e⟩=>zam (yax7 (zaa (zad h0) (zaa (zad h1) (zaa h2 (zaa (zad h3) (zaa h2 (zaa (zad h4) rfl)))))) c0 c1 c2) e)))) (fun h2=>(match l9 h0 h1 h2 with | ⟨c0,c1,c2,e⟩=>zam (yawh (zaa (zad h0) (zaa (zad h1) (zaa (zad h2) (zaa (zad h2) rfl)))) c0 c1 c2) e))))
theorem yal9 {a:V6 Bool} (lo:Kn.Low ⟨[(2,.c (.w 0)),(3,.c (.w 1)),(4,.c (.w 2)),(6,.c (.i 0))],[(0,Ent.mk true (bcs a) 0),(1,Ent.mk true (bcs b) 0),(2,Ent.mk true [.b false,.b false,.b false,.b false,.b false,.b false] 0)],3⟩) (hF:∀ k,C.F k→k<3) (z:AR 164 Tryz.f164 C 0 ⟨[(2,.c (.w 0)),(3,.c (.w 1)),(4,.c (.w 2)),(6,.c (.i 0))],[(0,Ent.mk true (bcs a) 0),(1,Ent.mk true (bcs b) 0),(2,Ent.mk true [.b false,.b false,.b false,.b false,.b false,.b false] 0)],3⟩ R) :
  BO 164 Tryz.f164 C [.ag (bcs a),.ag (bcs b)] [] 0 R :=
 zai [] ([true]) [] Tryz.func164 (by kernel_rfl) rfl zae lo hF z
theorem yaug {a:V6 Bool} (h:(decide (j<6)&&(decide (0≤j)&&decide (j<6)&&(AC.isB ((bcs a)[j.toNat*1]?.getD (.b false))&&Nat.blt (j.toNat*1) (bcs a).length&&(a.get j.toNat&&(decide (0≤j)&&decide (j<6)&&(Nat.ble (j.toNat*1+1) (bcs a).length&&true&&true))))))=true) (c0:pe (.c (.b (AC.asB ((bcs a)[j.toNat*1]?.getD (.b false)))))=pe (.c (.b (a.get j.toNat)))) (c1:we 0 (splice (bcs a) (j.toNat*1) [.b true])=we 0 (bcs (a.set j.toNat true))) (lo:Kn.Low ⟨[(2,.c (.w 0)),(3,.c (.w 1)),(4,.c (.w 2)),(6,.c (.i (IntKind.i64.wrap (j+1))))],[(0,Ent.mk true (bcs (a.set j.toNat true)) 0),(1,Ent.mk true (bcs b) 0),(2,Ent.mk true [.b false,.b false,.b false,.b false,.b false,.b false] 0)],3⟩) (hF:∀ k,C.F k→k<3) (z:AR 164 Tryz.f164 C 0 ⟨[(2,.c (.w 0)),(3,.c (.w 1)),(4,.c (.w 2)),(6,.c (.i (IntKind.i64.wrap (j+1))))],[(0,Ent.mk true (bcs (a.set j.toNat true)) 0),(1,Ent.mk true (bcs b) 0),(2,Ent.mk true [.b false,.b false,.b false,.b false,.b false,.b false] 0)],3⟩ R) :
  AR 164 Tryz.f164 C 0 (yatz a b j) R :=
 zai [true,true] ([true]) [(4,3),(4,7),(4,10)] Tryz.func164 (by kernel_rfl) h (zac c0 (zac c1 zae)) lo hF z
theorem yasn {a:V6 Bool} (h:(decide (j<6)&&(decide (0≤j)&&decide (j<6)&&(AC.isB ((bcs a)[j.toNat*1]?.getD (.b false))&&Nat.blt (j.toNat*1) (bcs a).length&&(!a.get j.toNat&&(decide (0≤j)&&decide (j<6)&&(AC.isB ((bcs b)[j.toNat*1]?.getD (.b false))&&Nat.blt (j.toNat*1) (bcs b).length&&(decide (0≤j)&&decide (j<6)&&(Nat.ble (j.toNat*1+List.length [AC.b (b.get j.toNat)]) (bcs a).length&&true&&true))))))))=true) (c0:pe (.c (.b (AC.asB ((bcs a)[j.toNat*1]?.getD (.b false)))))=pe (.c (.b (a.get j.toNat)))) (c1:pe (.c (.b (AC.asB ((bcs b)[j.toNat*1]?.getD (.b false)))))=pe (.c (.b (b.get j.toNat)))) (c2:we 0 (splice (bcs a) (j.toNat*1) [.b (b.get j.toNat)])=we 0 (bcs (a.set j.toNat (b.get j.toNat)))) (lo:Kn.Low ⟨[(2,.c (.w 0)),(3,.c (.w 1)),(4,.c (.w 2)),(6,.c (.i (IntKind.i64.wrap (j+1))))],[(0,Ent.mk true (bcs (a.set j.toNat (b.get j.toNat))) 0),(1,Ent.mk true (bcs b) 0),(2,Ent.mk true [.b false,.b false,.b false,.b false,.b false,.b false] 0)],3⟩) (hF:∀ k,C.F k→k<3) (z:AR 164 Tryz.f164 C 0 ⟨[(2,.c (.w 0)),(3,.c (.w 1)),(4,.c (.w 2)),(6,.c (.i (IntKind.i64.wrap (j+1))))],[(0,Ent.mk true (bcs (a.set j.toNat (b.get j.toNat))) 0),(1,Ent.mk true (bcs b) 0),(2,Ent.mk true [.b false,.b false,.b false,.b false,.b false,.b false] 0)],3⟩ R) :
  AR 164 Tryz.f164 C 0 (yatz a b j) R :=
 zai [true,false] ([true]) [(4,3),(4,7),(4,10)] Tryz.func164 (by kernel_rfl) h (zac c0 (zac c1 (zac c2 zae))) lo hF z
theorem yapg {a:V6 Bool} :
  AR 164 Tryz.f164 (cx w β n []) 0 (yatz a b 6) (REff w β ⟨.ag (bcs a),[],none⟩) :=
 zah [] none [false] ([true]) [] Tryz.func164 (zau rfl n) (by kernel_rfl) rfl zae
end
theorem yaz4:Ok 115 [] (.ag onI.cs):=yazk
theorem yam4 (a:V4):Ok 116 [.ag a.cs] (.c (.b (a.l==a.h))):=yawd
theorem zno (i:Ins):Ok 117 [.ag i.cs] (.c (.b (zak i))):=by
 refine yas3 (fun h=>?_) (fun h=>?_)
 ·unfold zak;rw [h];rfl
 ·unfold zak;rw [h];rfl
theorem zx0 (i:Ins):Ok 120 [.ag i.cs] (.c (.b (decide (i.op≤10)))):=yazz
theorem zvn (t:St) {j:Int} (h:regB j=true):(AC.isU (Option.getD (St.cs t)[7+Int.toNat j*4+2]? (AC.b false))&&Nat.blt (7+Int.toNat j*4+2) (List.length (St.cs t)))=true :=
 zcb (P:=fun j=>(AC.isU (Option.getD (St.cs t)[7+Int.toNat j*4+2]? (AC.b false))&&Nat.blt (7+Int.toNat j*4+2) (List.length (St.cs t)))=true) h rfl rfl rfl rfl rfl rfl
theorem zo4 (t:St) {j:Int} (h:regB j=true):Eff.mk (AV.c (AC.u (AC.asU (Option.getD (St.cs t)[7+Int.toNat j*4+2]? (AC.b false))))) [] none=Eff.mk (AV.c (AC.u (V4.l (V6.get (St.r t) (Int.toNat j))))) [] none :=
 zcb (P:=fun j=>Eff.mk (AV.c (AC.u (AC.asU (Option.getD (St.cs t)[7+Int.toNat j*4+2]? (AC.b false))))) [] none=Eff.mk (AV.c (AC.u (V4.l (V6.get (St.r t) (Int.toNat j))))) [] none) h rfl rfl rfl rfl rfl rfl
theorem yajp {L:List Ins} {k:Nat} {t:St} (hP:RightP L) (hk:k<L.length) (ht:t.Ok):Ok 63 [.ag (elt L k).cs,.ag t.cs] (.ag (zfo (elt L k) t).cs):=by
 have c0:=yaz4
 have c1:=yaka hP hk ht
 have hr:=hP.step k hk
 change Right (elt L k) _ at hr
 generalize elt L k=i at *
 have c2:=yam4 ((zag i t).1.r.get i.d.toNat)
 have c3:=zno i
 have hB:decide (i.op≤9)=true→regB i.d=true:=fun h=>(ze7 hr (of_decide_eq_true h)).1
 have q0:=fun h=>zbe (zag i t).1 (hB h)
 have q1:=fun h=>zvn (zag i t).1 (hB h)
 have q2:=fun h=>zax (zag i t).1 (hB h)
 have q3:=fun h=>zo4 (zag i t).1 (hB h)
 have hne:decide (i.op≤9)=true→zak i=false:=fun h=>by
  have:=of_decide_eq_true h
  unfold zak
  rw [Bool.or_eq_false_iff]
  constructor <;> (rw [beq_eq_false_iff_ne];omega)
 have fin:∀ x:Ins,zfo i t=x→(AV.ag x.cs)=AV.ag (zfo i t).cs:=fun x h=>by rw [h]
 refine yats (fun a=>⟨c0,fin onI ?_⟩) (fun a b d=>⟨hB b,q0 b,hB b,q1 b,c1,q2 b,c2,q3 b,fin ⟨1,i.d,-1,((zag i t).1.r.get i.d.toNat).l,0⟩ ?_⟩)
  (fun a b d e=>absurd e (by rw [hne b];decide)) (fun a b d e=>absurd e (by rw [hne b];decide)) (fun a b d e=>absurd e (by rw [hne b];decide)) (fun a b d e=>⟨hB b,q0 b,c1,q2 b,c2,c3,c3,fin i ?_⟩)
  (fun a b d e=>⟨c1,c3,c0,fin onI ?_⟩) (fun a b d e g=>⟨c1,c3,c3,fin ⟨12,0,0,0#64,i.of⟩ ?_⟩) (fun a b d e g=>⟨c1,c3,c3,fin i ?_⟩) (fun a b d=>⟨c1,c3,c3,fin i ?_⟩)
 all_goals unfold zfo V4.alone eqb
 all_goals simp only [Bool.not_eq_eq_eq_not,Bool.not_true,Bool.not_false] at *
 all_goals simp [*]
def orF (b:V6 Bool):Nat→V6 Bool→V6 Bool
 | 0,a=>a
 | n+1,a=>orF b n (a.set (5 - n) (a.get (5 - n)||b.get (5 - n)))
abbrev feKn (a b:V6 Bool) (j:Int):Kn:=⟨[(2,.c (.w 0)),(3,.c (.w 1)),(4,.c (.w 2)),(6,.c (.i j))],[(0,⟨true,bcs a,0⟩),(1,⟨true,bcs b,0⟩),(2,⟨true,bcs no6,0⟩)],3⟩
theorem zl4 (u:V6 Bool) {j:Int} (h:regB j=true):(AC.isB (Option.getD (bcs u)[Int.toNat j*1]? (AC.b false))&&Nat.blt (Int.toNat j*1) (List.length (bcs u)))=true :=
 zcb (P:=fun j=>(AC.isB (Option.getD (bcs u)[Int.toNat j*1]? (AC.b false))&&Nat.blt (Int.toNat j*1) (List.length (bcs u)))=true) h rfl rfl rfl rfl rfl rfl
theorem zkl (u:V6 Bool) {j:Int} (h:regB j=true):Nat.ble (Int.toNat j*1+1) (List.length (bcs u))=true :=
 zcb (P:=fun j=>Nat.ble (Int.toNat j*1+1) (List.length (bcs u))=true) h rfl rfl rfl rfl rfl rfl
theorem yacb (u:V6 Bool) {j:Int} (x:Bool) (h:regB j=true):splice (bcs u) (Int.toNat j*1) [AC.b x]=bcs (V6.set u (Int.toNat j) x) :=
 zcb (P:=fun j=>splice (bcs u) (Int.toNat j*1) [AC.b x]=bcs (V6.set u (Int.toNat j) x)) h rfl rfl rfl rfl rfl rfl
theorem yap8 {b:V6 Bool} {w:World} {β:Bs}:∀ n,n≤6→∀ a:V6 Bool,
  ART Tryz.prog 164 (cx w β 0 []) Tryz.f164.ntmps (zdk Tryz.f164 0) (feKn a b (6 - n:Nat)) (REff w β ⟨.ag (bcs (orF b n a)),[],none⟩)
 | 0,_,a=>yapg
 | n+1,hn,a=>by
  have hj:=zn8 hn
  have ej:=zog hn
  have f0:=zv3 hj
  have f2:(decide (0≤((6 - (n+1):Nat):Int))&&decide (((6 - (n+1):Nat):Int)<6))=true:=hj
  have next:∀ a':V6 Bool,a.set (5 - n) (a.get (5 - n)||b.get (5 - n))=a'→ART Tryz.prog 164 (cx w β 0 []) Tryz.f164.ntmps (zdk Tryz.f164 0) (feKn a' b (IntKind.wrap IntKind.i64 (((6 - (n+1):Nat):Int)+1))) (REff w β ⟨.ag (bcs (orF b (n+1) a)),[],none⟩):=by
   intro a' ha
   rw [zjf hn,orF,ha]
   exact yap8 n (by omega) a'
  cases hg:a.get ((6 - (n+1):Nat):Int).toNat with
  | true =>
   refine yaug (zaa f0 (zaa f2 (zaa (zl4 a hj) (zaa hg (zaa f2 (by rw [zkl a hj];rfl)))))) (zzj a hj) (by rw [yacb a true hj]) (zc8 rfl) (fun _ h=>absurd h (Nat.not_lt_zero _)) (next _ ?_)
   rw [ej] at hg ⊢;rw [hg];rfl
  | false =>
   refine yasn (zaa f0 (zaa f2 (zaa (zl4 a hj) (zaa (by rw [hg];rfl) (zaa f2 (zaa (zl4 b hj) (zaa f2 (by have:=zkl a hj;rw [show List.length [AC.b (V6.get b (Int.toNat ((6 - (n+1):Nat):Int)))]=1 from rfl,this];rfl)))))))) (zzj a hj) (zzj b hj) (by rw [yacb a _ hj]) (zc8 rfl) (fun _ h=>absurd h (Nat.not_lt_zero _)) (next _ ?_)
   rw [ej] at hg ⊢;rw [hg];rfl
theorem znl (a b:V6 Bool):Ok 164 [.ag (bcs a),.ag (bcs b)] (.ag (bcs (orS a b))) :=
 zk5 Tryz.func164 rfl rfl rfl rfl fun _ _=>yal9 (zc8 rfl) (fun _ h=>absurd h (Nat.not_lt_zero _)) (yap8 6 (Nat.le_refl _) a)
end Go.Proofs.YtkigmocchaikgabGreatDoor
namespace Go.Proofs.YtkigmocchaikgabGreatDoor
theorem branch_iff {i:Ins}:zak i=true↔i.op=13∨i.op=14:=by simp [zak]
theorem yamk {L:List Ins}:(∀ k,k<L.length→inB (elt L k) ((L.length - 1 - k:Nat):Int)=true)→zfq L=true:=by
 induction L with
 | nil=>intro _;rfl
 | cons i l ih =>
  intro h
  rw [zfq,Bool.and_eq_true]
  refine ⟨?_,ih fun k hk=>?_⟩
  ·have:=h 0 (by simp)
   simpa [elt] using this
  ·have:=h (k+1) (by simpa using hk)
   have e:elt (i::l) (k+1)=elt l k:=rfl
   rw [e] at this
   rw [show (l.length - 1 - k)=((i::l).length - 1 - (k+1)) by simp;omega]
   exact this
theorem yaq4 {L:List Ins} {p:Ins→Bool} (h:∀ k,k<L.length→p (elt L k)=true):L.all p=true:=by
 rw [List.all_eq_true]
 intro x hx
 obtain ⟨k,hk,rfl⟩:=List.getElem_of_mem hx
 have:=h k hk
 unfold elt at this
 rwa [List.getD_eq_getElem?_getD,List.getElem?_eq_getElem hk] at this
theorem zpl {L:List Ins} (hP:RightP L):zan L=0:=by
 have hp:=hP.pos
 have hl:=hP.le
 have h1:L.all zcl=true:=yaq4 fun k hk=>(zdg hP hk).kind
 have h2:zfq L=true:=yamk fun k hk=>(zdg hP hk).fits
 have h3:L.all zbc=true:=yaq4 fun k hk=>(zdg hP hk).bare
 have h4:zb3 L=15:=by
  have:=hP.last
  unfold zb3
  rw [List.getLast?_eq_getElem?,List.getElem?_eq_getElem (by omega)]
  rw [List.getD_eq_getElem?_getD,List.getElem?_eq_getElem (by omega)] at this
  exact this
 unfold zan
 rw [if_neg (by omega),h1,h2,h3,h4]
 rfl
theorem zre (i:Ins) (l:List Ins) (k:Nat):elt (i::l) (k+1)=elt l k:=rfl
theorem zgf (S:List St):∀ (L:List Ins) (q:Nat),(zci S L q).length=L.length∧∀ k,elt (zci S L q) k=if k+1<L.length then zfo (elt L k) (stAt S (q+k)) else elt L k
 | [],q=>⟨rfl,fun k=>by rw [if_neg (by simp)];rfl⟩
 | [i],q=>⟨rfl,fun k=>by rw [if_neg (by simp)];rfl⟩
 | i::j::l,q=>by
  obtain ⟨h1,h2⟩:=zgf S (j::l) (q+1)
  refine ⟨by simp [zci,h1],fun k=>?_⟩
  cases k with
  | zero=>rw [if_pos (by simp)];rfl
  | succ k =>
   show elt (zci S (j::l) (q+1)) k=_
   rw [h2 k,zre]
   simp only [List.length_cons]
   by_cases c:k+1<l.length+1
   ·rw [if_pos c,if_pos (by omega),show q+1+k=q+(k+1) by omega]
   ·rw [if_neg c,if_neg (by omega)]
theorem zmg {n:Int} (h:0<n):Right onI n:=by
 refine ⟨rfl,?_,rfl⟩
 show zch 0 n=true
 simp [zch,h]
theorem zyo {i:Ins} {n:Int} {t:St} (h:0<n) (hr:Right i n):Right (zfo i t) n:=by
 unfold zfo
 by_cases hl:t.live=true
 ·rw [if_pos hl]
  split
  ·refine ⟨rfl,?_,rfl⟩
   show (regB i.d&&srcB (-1))=true
   rw [(zbn hr).1];rfl
  ·split
   ·exact zmg h
   ·split
    ·rename_i c
     rw [Bool.and_eq_true] at c
     have:=zcd hr (branch_iff.1 c.1)
     refine ⟨rfl,?_,rfl⟩
     show zch i.of n=true
     simp [zch];omega
    ·exact hr
 ·rw [if_neg hl];exact zmg h
theorem zyl {L:List Ins} (hP:RightP L) (S:List St):RightP (zci S L 0):=by
 obtain ⟨h1,h2⟩:=zgf S L 0
 have hp:=hP.pos
 refine ⟨by rw [h1];exact hP.pos,by rw [h1];exact hP.le,fun k hk=>?_,?_⟩
 ·rw [h1] at hk ⊢
  show Right (elt (zci S L 0) k) _
  rw [h2 k]
  split
  ·exact zyo (by omega) (zdg hP hk)
  ·exact zdg hP hk
 ·show (elt (zci S L 0) ((zci S L 0).length - 1)).op=15
  rw [h1,h2,if_neg (by omega)]
  exact zm3 hP
theorem yase {a b:V6 Bool}:∀ j,j<6→(orS a b).get j=(a.get j||b.get j):=lt6 rfl rfl rfl rfl rfl rfl
def zcj (i:Ins) (A:List (V6 Bool)) (k:Nat):V6 Bool :=
 if i.op=15 then no6 else if i.op=12 then lvAt A (k+1+i.of.toNat) else if zak i then orS (lvAt A (k+1)) (lvAt A (k+1+i.of.toNat)) else lvAt A (k+1)
theorem zjb (a:V6 Bool) (A:List (V6 Bool)) (k:Nat):lvAt (a::A) (k+1)=lvAt A k:=rfl
theorem yafc (i:Ins) (a:V6 Bool) (A:List (V6 Bool)):zcj i (a::A) 0=yaf9 i A:=by
 unfold zcj yaf9
 rw [show 0+1+i.of.toNat=i.of.toNat+1 by omega,zjb,show 0+1=0+1 from rfl,zjb]
theorem yaes (i:Ins) (a:V6 Bool) (A:List (V6 Bool)) (k:Nat):zcj i (a::A) (k+1)=zcj i A k:=by
 unfold zcj
 rw [show k+1+1+i.of.toNat=(k+1+i.of.toNat)+1 by omega,zjb,zjb]
theorem znh:∀ L:List Ins,(ridR L).1.length=L.length∧∀ k,k<L.length→elt (ridR L).1 k=zec (elt L k) (zcj (elt L k) (ridR L).2 k)∧lvAt (ridR L).2 k=zfh (elt (ridR L).1 k) (zcj (elt L k) (ridR L).2 k)
 | []=>⟨rfl,fun k hk=>absurd hk (by simp)⟩
 | i::l=>by
  obtain ⟨h1,h2⟩:=znh l
  refine ⟨by simp [ridR,h1],fun k hk=>?_⟩
  cases k with
  | zero =>
   have e:zcj (elt (i::l) 0) (ridR (i::l)).2 0=yaf9 i (ridR l).2:=yafc i _ _
   rw [e]
   exact ⟨rfl,rfl⟩
  | succ k =>
   have e:zcj (elt (i::l) (k+1)) (ridR (i::l)).2 (k+1)=zcj (elt l k) (ridR l).2 k:=yaes _ _ _ k
   rw [e]
   exact h2 k (by simpa using hk)
theorem zoh {i:Ins} {n:Int} {b:V6 Bool} (h:0<n∨i.op=15) (hr:Right i n):Right (zec i b) n:=by
 unfold zec
 split
 ·rename_i c
  rw [Bool.and_eq_true,decide_eq_true_eq] at c
  exact zmg (h.resolve_right (by omega))
 ·exact hr
theorem yagr {L:List Ins} (hP:RightP L):RightP (ridR L).1:=by
 obtain ⟨h1,h2⟩:=znh L
 have hp:=hP.pos
 refine ⟨by rw [h1];exact hP.pos,by rw [h1];exact hP.le,fun k hk=>?_,?_⟩
 ·rw [h1] at hk ⊢
  show Right (elt (ridR L).1 k) _
  rw [(h2 k hk).1]
  refine zoh ?_ (zdg hP hk)
  by_cases c:k=L.length - 1
  ·right;rw [c];exact zm3 hP
  ·left;omega
 ·show (elt (ridR L).1 ((ridR L).1.length - 1)).op=15
  rw [h1,(h2 _ (by omega)).1]
  unfold zec
  rw [zm3 hP]
  simp [zm3 hP]
structure RelM (A:V6 Bool) (m m':Mach):Prop where
 t:m.t=m'.t
 mem:m.mem=m'.mem
 fin:m.fin=m'.fin
 reg:∀ j,j<6→A.get j=true→m.s.get j=m'.s.get j∧m.r.get j=m'.r.get j
theorem RelM.sub {A B:V6 Bool} {m m':Mach} (h:RelM A m m') (hs:∀ j,j<6→B.get j=true→A.get j=true):RelM B m m':=⟨h.t,h.mem,h.fin,fun j hj hb=>h.reg j hj (hs j hj hb)⟩
theorem zid {i:Ins} {n:Int} {b:V6 Bool} {j:Nat} (hr:Right i n) (hj:j<6) (h:b.get j=true) (hd:i.op≤10→j≠i.d.toNat):(zfh i b).get j=true:=by
 unfold zfh
 rw [yase j hj]
 split
 ·rename_i c
  rw [V6.get_set _ _ _ _ (zbp (zbn hr).1) hj,if_neg (fun e=>hd c e.symm),h]
  cases (zaw i).get j <;> rfl
 ·rw [h];cases (zaw i).get j <;> rfl
theorem RelM.wth {i:Ins} {n:Int} {b:V6 Bool} {m m':Mach} {x:BitVec 64} {o:Int} (hr:Right i n) (h:RelM (zfh i b) m m'):RelM b ((m.wth i.d.toNat x).on o) ((m'.wth i.d.toNat x).on o):=by
 have hd:=zbp (zbn hr).1
 refine ⟨by simp only [Mach.on,Mach.wth];rw [h.t],h.mem,h.fin,fun j hj hb=>?_⟩
 simp only [Mach.on,Mach.wth]
 rw [V6.get_set _ _ _ _ hd hj,V6.get_set _ _ _ _ hd hj,V6.get_set _ _ _ _ hd hj,V6.get_set _ _ _ _ hd hj]
 by_cases c:i.d.toNat=j
 ·rw [if_pos c,if_pos c,if_pos c,if_pos c];exact ⟨rfl,rfl⟩
 ·rw [if_neg c,if_neg c,if_neg c,if_neg c]
  exact h.reg j hj (zid hr hj hb fun _ e=>c e.symm)
theorem RelM.on {i:Ins} {n:Int} {b:V6 Bool} {m m':Mach} {o:Int} (hr:Right i n) (h:RelM (zfh i b) m m') (ho:10<i.op):RelM b (m.on o) (m'.on o) :=
 ⟨by simp only [Mach.on];rw [h.t],h.mem,h.fin,fun j hj hb=>h.reg j hj (zid hr hj hb fun c=>by omega)⟩
theorem RelM.refl (A:V6 Bool) (m:Mach):RelM A m m:=⟨rfl,rfl,rfl,fun _ _ _=>⟨rfl,rfl⟩⟩
structure RelS (A:V6 Bool) (t t':St):Prop where
 live:t.live=t'.live
 reg:∀ j,j<6→A.get j=true→t.s.get j=t'.s.get j∧t.r.get j=t'.r.get j
theorem RelS.refl (A:V6 Bool) (t:St):RelS A t t:=⟨rfl,fun _ _ _=>⟨rfl,rfl⟩⟩
theorem RelS.sub {A B:V6 Bool} {t t':St} (h:RelS A t t') (hs:∀ j,j<6→B.get j=true→A.get j=true):RelS B t t':=⟨h.live,fun j hj hb=>h.reg j hj (hs j hj hb)⟩
theorem RelS.join {A:V6 Bool} {t t' u u':St} (h:RelS A t t') (k:RelS A u u'):RelS A (t.join u) (t'.join u'):=by
 by_cases h1:t.live=true
 ·have h1':t'.live=true:=by rw [← h.live];exact h1
  by_cases h2:u.live=true
  ·have h2':u'.live=true:=by rw [← k.live];exact h2
   obtain ⟨a1,a2⟩:=St.join_live h1 h2
   obtain ⟨b1,b2⟩:=St.join_live h1' h2'
   refine ⟨a1.trans b1.symm,fun j hj hA=>?_⟩
   obtain ⟨x1,x2⟩:=a2 j hj
   obtain ⟨y1,y2⟩:=b2 j hj
   rw [x1,x2,y1,y2,(h.reg j hj hA).1,(h.reg j hj hA).2,(k.reg j hj hA).1,(k.reg j hj hA).2]
   exact ⟨rfl,rfl⟩
  ·have h2':¬ u'.live=true:=by rw [← k.live];exact h2
   unfold St.join
   rw [if_pos h1,if_neg h2,if_pos h1',if_neg h2'];exact h
 ·have h1':¬ t'.live=true:=by rw [← h.live];exact h1
  unfold St.join
  rw [if_neg h1,if_neg h1'];exact k
theorem RelS.wth {i:Ins} {n:Int} {b:V6 Bool} {t t':St} {a:V4} (hr:Right i n) (h:RelS (zfh i b) t t'):RelS b (t.wth i.d.toNat a) (t'.wth i.d.toNat a):=by
 have hd:=zbp (zbn hr).1
 refine ⟨h.live,fun j hj hb=>?_⟩
 rw [St.wth_s hd hj,St.wth_s hd hj,St.wth_r hd hj,St.wth_r hd hj]
 by_cases c:i.d.toNat=j
 ·rw [if_pos c,if_pos c,if_pos c,if_pos c];exact ⟨rfl,rfl⟩
 ·rw [if_neg c,if_neg c,if_neg c,if_neg c]
  exact h.reg j hj (zid hr hj hb fun _ e=>c e.symm)
def RelL (A:List (V6 Bool)) (S S':List St):Prop:=S.length=S'.length∧∀ j,RelS (lvAt A j) (stAt S j) (stAt S' j)
theorem RelL.add {A:List (V6 Bool)} {S S':List St} {k:Nat} {t t':St} (h:RelL A S S') (ht:RelS (lvAt A k) t t'):RelL A (addS S k t) (addS S' k t'):=by
 refine ⟨by rw [zds,zds];exact h.1,fun j=>?_⟩
 rw [zfs,zfs,← ht.live,← h.1]
 by_cases c:t.live=true∧k=j∧k<S.length
 ·rw [if_pos c,if_pos c]
  obtain ⟨_,rfl,_⟩:=c
  exact (h.2 k).join ht
 ·rw [if_neg c,if_neg c];exact h.2 j
end Go.Proofs.YtkigmocchaikgabGreatDoor
namespace Go.Proofs.YtkigmocchaikgabGreatDoor
open Go.RowKit
theorem zfk (A:List (V6 Bool)):(rcell A).length=A.length*6:=zso (f:=bcs) (fun _=>rfl) A
theorem ze6 (A:List (V6 Bool)):(rcell A).flatMap AC.ks=[]:=zyk (f:=bcs) (fun _=>rfl) A
theorem zrv {A:List (V6 Bool)} {k:Nat} (h:k<A.length):List.take 6 (List.drop (k*6) (rcell A))=bcs (lvAt A k):=yajz (f:=bcs) (fun _=>rfl) no6 h
theorem zts {A:List (V6 Bool)} {k:Nat} (t:V6 Bool) (h:k<A.length):splice (rcell A) (k*6) (bcs t)=rcell (A.set k t):=zq3 (f:=bcs) (fun _=>rfl) t h
theorem zpk (n:Nat):rows n (bcs no6)=rcell (List.replicate n no6):=zl9 (f:=bcs) no6 n
theorem zui {cs:List AC} {args:List AV} {b:Bool} {r:Nat} (ha:(ze2 args).all (fun k=>Nat.blt k 1)=true) (hcs:cs.flatMap AC.ks=[]):Begin args [(0,⟨b,cs,r⟩)] 1:=by
 refine ⟨fun v hv k hk=>?_,fun k e he=>?_⟩
 ·have h2:=List.all_eq_true.1 ha k (List.mem_flatMap.2 ⟨v,hv,hk⟩)
  simpa using h2
 ·obtain ⟨rfl,rfl⟩:=zbg he
  exact ⟨by decide,fun c hc j hj=>(zeu hcs hc hj).elim⟩
theorem zwx {i:Ins} {n:Int} (hr:Right i n) (h:i.op=12∨i.op=13∨i.op=14):0≤i.of∧i.of<n:=by
 rcases h with h | h
 ·exact ⟨(zfn hr h).1,(zfn hr h).2.1⟩
 ·exact (zcd hr h).2.2
theorem zsn {i:Ins} {A:List (V6 Bool)} {x c:Nat} (hx:x<A.length) (hA:A.length≤64) (hr:Right i ((A.length - 1 - x:Nat):Int)) (hl:i.op=15∨x+1<A.length) :
  CallOK Tryz.prog ⟨119,[.ag i.cs,.c (.sl 0 (x*6) (A.length - x) c)],[(0,⟨false,rcell A,0⟩)],⟨.ag (bcs (zcj i A x)),[],none⟩⟩:=by
 refine zg8 Tryz.func119 rfl rfl (zui rfl (ze6 A)) rfl (fun k en h=>by obtain ⟨_,rfl⟩:=zbg h;rfl) fun w β=>?_
 have c0:=zno i
 have n15:(i.op==15)=false→x+1<A.length:=fun h=>by
  rcases hl with h1 | h1
  ·rw [h1] at h;cases h
  ·exact h1
 have hbr:zak i=true→i.op=13∨i.op=14:=fun h=>by unfold zak at h;simpa using h
 have q1:x+1<A.length→decide (1<((A.length - x:Nat):Int))=true∧Nat.ble (x*6+6+6) (rcell A).length=true∧Eff.mk (AV.ag (List.take 6 (List.drop (x*6+6) (rcell A)))) [] none=Eff.mk (AV.ag (bcs (lvAt A (x+1)))) [] none:=fun h=>by
  refine ⟨decide_eq_true (by omega),?_,?_⟩
  ·rw [zfk,Nat.ble_eq];omega
  ·rw [show x*6+6=(x+1)*6 by omega,zrv h]
 have q2:(i.op=12∨i.op=13∨i.op=14)→(decide (0≤1+i.of)&&decide (1+i.of<((A.length - x:Nat):Int)))=true∧Nat.ble (x*6+Int.toNat (1+i.of)*6+6) (rcell A).length=true∧Eff.mk (AV.c (AC.i (IntKind.wrap IntKind.i64 (1+i.of)))) [] none=Eff.mk (AV.c (AC.i (1+i.of))) [] none∧Eff.mk (AV.ag (List.take 6 (List.drop (x*6+Int.toNat (1+i.of)*6) (rcell A)))) [] none=Eff.mk (AV.ag (bcs (lvAt A (x+1+i.of.toNat)))) [] none:=fun h=>by
  obtain ⟨h1,h2⟩:=zwx hr h
  refine ⟨zaa (decide_eq_true (by omega)) (decide_eq_true (by omega)),?_,?_,?_⟩
  ·rw [zfk,Nat.ble_eq];omega
  ·rw [zfp (by omega) (by omega)]
  ·rw [show x*6+Int.toNat (1+i.of)*6=(x+1+i.of.toNat)*6 by omega,zrv (by omega)]
 refine yat5 (u:=lvAt A (x+1)) (v:=lvAt A (x+1+i.of.toNat)) (fun a=>?_) (fun a b=>?_) (fun a b d=>?_) (fun a b d=>?_)
 ·have:i.op=15:=by simpa using a
  unfold zcj;rw [if_pos this];rfl
 ·have h1:i.op=12:=by simpa using b
  have h0:¬ i.op=15:=by simpa using a
  obtain ⟨f1,f2,f3,f4⟩:=q2 (Or.inl h1)
  exact ⟨f1,f2,f3,f4,by unfold zcj;rw [if_neg h0,if_pos h1]⟩
 ·have h1:¬ i.op=12:=by simpa using b
  have h0:¬ i.op=15:=by simpa using a
  obtain ⟨f1,f2,f3,f4⟩:=q2 (Or.inr (hbr d))
  obtain ⟨g1,g2,g3⟩:=q1 (n15 a)
  exact ⟨g1,g2,f1,f2,c0,g3,f3,f4,znl _ _,by unfold zcj;rw [if_neg h0,if_neg h1,if_pos d];rfl⟩
 ·have h1:¬ i.op=12:=by simpa using b
  have h0:¬ i.op=15:=by simpa using a
  obtain ⟨g1,g2,g3⟩:=q1 (n15 a)
  exact ⟨g1,g2,c0,g3,by unfold zcj;rw [if_neg h0,if_neg h1,if_neg (by rw [d];decide)]⟩
theorem yar1 {i:Ins} {n:Int} (hr:Right i n):i.op=12∨i.op=15∨(regB i.d=true∧srcB i.s=true):=by
 rcases zld hr with c | c | c | c | c | c | c | c
 ·have:=zbv hr (Or.inl c);exact Or.inr (Or.inr ⟨this.1,srcB_iff.2 (Or.inr this.2.1)⟩)
 ·have:=zbv hr (Or.inr c);exact Or.inr (Or.inr ⟨this.1,srcB_iff.2 (Or.inr this.2.1)⟩)
 ·exact Or.inl c
 ·have:=zcd hr (Or.inl c);exact Or.inr (Or.inr ⟨this.1,this.2.1⟩)
 ·have:=zcd hr (Or.inr c);exact Or.inr (Or.inr ⟨this.1,this.2.1⟩)
 ·exact Or.inr (Or.inl c)
 ·have:=ze7 hr (by omega);exact Or.inr (Or.inr ⟨this.1,this.2.1⟩)
 ·have:=ze7 hr (by omega);exact Or.inr (Or.inr ⟨this.1,this.2.1⟩)
theorem yab7 {i:Ins} {n:Int} (hr:Right i n) (h:i.op≤10):regB i.d=true:=by
 by_cases h1:i.op≤9
 ·exact (ze7 hr h1).1
 ·exact (zbv hr (Or.inl (by omega))).1
theorem zv1 {i:Ins} {n:Int} (hr:Right i n) (b:V6 Bool):Ok 121 [.ag i.cs,.ag (bcs b)] (.ag (bcs (zfh i b))):=by
 have c1:=zt3 (yar1 hr)
 refine yaui (fun a=>?_) (fun a=>?_)
 ·have h:=of_decide_eq_true a
  have hB:=yab7 hr h
  exact ⟨hB,by rw [zkl b hB];rfl,zx0 i,by rw [yacb b false hB],c1,znl _ _,by unfold zfh;rw [if_pos h];rfl⟩
 ·have h:=of_decide_eq_false a
  exact ⟨zx0 i,c1,znl _ _,by unfold zfh;rw [if_neg h];rfl⟩
theorem zsh (p:Int):CallOK Tryz.prog ⟨118,[.c (.i p)],[],⟨.c (.f 163 [0]),[],some (0,⟨true,[.i p],0⟩)⟩⟩ :=
 zks Tryz.func118 rfl rfl rfl rfl rfl fun _ _ hk=>yayz hk
theorem yali {α:Type} {X L:List α} {j:Nat} (d:α) (hX:j<X.length) (hL:j<L.length):(X.take j++L.drop j).set j (X.getD j d)=X.take (j+1)++L.drop (j+1):=by
 have h1:(X.take j).length=j:=by rw [List.length_take];omega
 rw [List.set_append_right _ _ (by omega),h1,Nat.sub_self,List.drop_eq_getElem_cons hL,List.set_cons_zero,List.take_succ_eq_append_getElem hX,List.append_assoc,List.getD_eq_getElem?_getD,List.getElem?_eq_getElem hX]
 rfl
theorem yaqz {α:Type} {X L:List α} {j:Nat} (d:α) (hX:j≤X.length):(X.take j++L.drop j).getD j d=L.getD j d:=by
 have h1:(X.take j).length=j:=by rw [List.length_take];omega
 rw [List.getD_eq_getElem?_getD,List.getD_eq_getElem?_getD,List.getElem?_append_right (by omega),h1,Nat.sub_self,List.getElem?_drop,Nat.add_zero]
theorem yaqx {P:Program} {f:FuncId} {fn:Func} {args:List AV} {cs cs' ds:List AC} {v:AV} {r:Nat} (hf:P.funcs[f]?=some fn) (hb:fn.body.isSome=true) (hN:Nat.ble args.length fn.ntmps=true) (ha:(ze2 args).all (fun k=>Nat.blt k 2)=true) (hcs:cs.flatMap AC.ks=[]) (hds:ds.flatMap AC.ks=[]) (hne:cs≠[]) (hv:v.ks=[]) (hc:cs'.flatMap AC.ks=[])
  (h:∀ w β,EKeys 2 [0] none ⟨v,[(0,cs')],none⟩→ART P f (cx w β 2 [0]) fn.ntmps [.code (zdn fn)] (Kn.start args [(0,⟨true,cs,r⟩),(1,⟨false,ds,0⟩)] 2) (REff w β ⟨v,[(0,cs')],none⟩)):CallOK P ⟨f,args,[(0,⟨true,cs,r⟩),(1,⟨false,ds,0⟩)],⟨v,[(0,cs')],none⟩⟩:=by
 have e:EKeys 2 [0] none ⟨v,[(0,cs')],none⟩:=by
  refine ⟨fun k hk=>?_,fun k cs hm=>?_,fun _ _ h'=>(nomatch h'),fun k h=>?_,fun _ h=>(nomatch h)⟩
  ·simp only at hk;rw [hv] at hk;cases hk
  ·have:=List.mem_singleton.1 hm;injection this with _ h2;subst h2;exact hc
  ·rw [List.mem_singleton.1 h];decide
 have two:∀ {k:Nat} {en:Ent},look [(0,⟨true,cs,r⟩),(1,⟨false,ds,0⟩)] k=some en→(k=0∧en=⟨true,cs,r⟩)∨(k=1∧en=⟨false,ds,0⟩):=fun {k en} he=>by
  rw [zav] at he
  split at he
  ·rename_i hk;injection he with he;exact Or.inl ⟨hk,he.symm⟩
  ·exact Or.inr (zbg he)
 have hB:Begin args [(0,⟨true,cs,r⟩),(1,⟨false,ds,0⟩)] 2:=by
  refine ⟨fun v hv k hk=>?_,fun k e he=>?_⟩
  ·have h2:=List.all_eq_true.1 ha k (List.mem_flatMap.2 ⟨v,hv,hk⟩)
   simpa using h2
  ·rcases two he with ⟨rfl,rfl⟩ | ⟨rfl,rfl⟩
   ·exact ⟨by decide,fun c hc j hj=>(zeu hcs hc hj).elim⟩
   ·exact ⟨by decide,fun c hc j hj=>(zeu hds hc hj).elim⟩
 refine zns [0] none hf hb hN hB (fun k hk=>?_) (fun _ _ h'=>(nomatch h')) (fun _ h=>(nomatch h)) e (fun k cs' hm=>?_) (fun k en h1 h2=>?_) fun w β _=>h w β e
 ·simp only at hk;rw [hv] at hk;cases hk
 ·have:=List.mem_singleton.1 hm;injection this with h1 h2;subst h1
  exact ⟨⟨true,cs,r⟩,rfl,rfl,hne⟩
 ·rcases two h1 with ⟨rfl,_⟩ | ⟨rfl,rfl⟩
  ·exact List.mem_singleton.2 rfl
  ·cases h2
theorem zlm {L:List Ins} (h:0<L.length):pcell L≠[]:=fun e=>by
 have:=congrArg List.length e
 rw [zat] at this
 simp at this;omega
abbrev f1Kn (L:List Ins) (S:List St) (p r j:Nat):Kn:=⟨[(0,.c (.sx 0 p)),(1,.c (.sl 1 0 p p)),(7,.c (.i ((p:Int) - 1))),(8,.c (.i (j:Int)))],[(0,⟨true,pcell L,r⟩),(1,⟨false,scell S,0⟩)],2⟩
theorem yaxe (L:List Ins) (S:List St) (p r j:Nat):Kn.Low (f1Kn L S p r j):=zg9 rfl rfl ⟨zaj L,za8 S,trivial⟩
theorem yaqg {L:List Ins} {S:List St} (hP:RightP L) (hS:S.length=L.length) (hok:∀ j,(stAt S j).Ok) {w:World} {β:Bs} (hk:EKeys 2 [0] none ⟨.tu [],[(0,pcell (zci S L 0))],none⟩):∀ (m j r:Nat),j+m+1=L.length →
  ART Tryz.prog 62 (cx w β 2 [0]) Tryz.f62.ntmps (zdk Tryz.f62 0) (f1Kn ((zci S L 0).take j++L.drop j) S L.length r j) (REff w β ⟨.tu [],[(0,pcell (zci S L 0))],none⟩)
 | 0,j,r,hj=>by
  obtain ⟨hl,hat⟩:=zgf S L 0
  have e:(zci S L 0).take j++L.drop j=zci S L 0:=by
   have hj':j<L.length:=by omega
   have h1:=hat j
   rw [if_neg (by omega)] at h1
   conv=>rhs;rw [← List.take_append_drop j (zci S L 0)]
   congr 1
   rw [List.drop_eq_getElem_cons hj',List.drop_eq_getElem_cons (by omega:j<(zci S L 0).length),List.drop_of_length_le (by omega),List.drop_of_length_le (by omega)]
   unfold elt at h1
   rw [List.getD_eq_getElem?_getD,List.getD_eq_getElem?_getD,List.getElem?_eq_getElem hj',List.getElem?_eq_getElem (by omega:j<(zci S L 0).length)] at h1
   simp only [Option.getD_some] at h1
   rw [h1]
  rw [e]
  exact yao7 (zaa (by rw [decide_eq_false (by omega)];rfl) rfl) hk
 | m+1,j,r,hj=>by
  obtain ⟨hl,hat⟩:=zgf S L 0
  have hle:=hP.le
  have hjL:j<L.length:=by omega
  have h1:=hat j
  rw [if_pos (by omega),Nat.zero_add] at h1
  have hlen:((zci S L 0).take j++L.drop j).length=L.length:=by rw [List.length_append,List.length_take,List.length_drop];omega
  have ea:elt ((zci S L 0).take j++L.drop j) j=elt L j:=yaqz _ (by omega)
  have es:((zci S L 0).take j++L.drop j).set j (zfo (elt L j) (stAt S j))=(zci S L 0).take (j+1)++L.drop (j+1):=by
   rw [← h1];exact yali _ (by omega) hjL
  have d1:decide ((j:Int)<(L.length:Int))=true:=jl hjL
  have d2:Nat.ble (Int.toNat (j:Int)*5+5) (pcell ((zci S L 0).take j++L.drop j)).length=true:=by rw [zat,hlen,Nat.ble_eq];omega
  have d3:Nat.ble (0+Int.toNat (j:Int)*31+31) (scell S).length=true:=by rw [zew,Nat.ble_eq];omega
  refine yagb (f:=zfo (elt L j) (stAt S j)) (zaa (decide_eq_true (by omega)) (zaa d1 (zaa d2 (zaa d1 (zaa d3 (zaa d1 (by rw [show List.length (Ins.cs (zfo (elt L j) (stAt S j)))=5 from rfl,d2];rfl))))))) ?_ ?_ ?_ ?_ (by rw [zhz (by omega)]) (zg9 rfl rfl ⟨zaj _,za8 S,trivial⟩) (fun k hk=>hk) ?_
  ·rw [Int.toNat_natCast,zet (by omega),ea]
  ·rw [Int.toNat_natCast];exact zfw (by omega)
  ·rw [ea];exact yajp hP hjL (hok j)
  ·rw [Int.toNat_natCast,zjg _ (by omega)]
  ·rw [es]
   exact yaqg hP hS hok hk m (j+1) 0 (by omega)
theorem yaos {L:List Ins} {S:List St} (hP:RightP L) (hS:S.length=L.length) (hok:∀ j,(stAt S j).Ok):CallOK Tryz.prog ⟨62,[.c (.sx 0 L.length),.c (.sl 1 0 L.length L.length)],[(0,⟨true,pcell L,5⟩),(1,⟨false,scell S,0⟩)],⟨.tu [],[(0,pcell (zci S L 0))],none⟩⟩:=by
 have hpos:=hP.pos
 have hle:=hP.le
 refine yaqx Tryz.func62 rfl rfl rfl (zaj L) (za8 S) (zlm hpos) rfl (zaj _) fun w β hk=>yal6 (by rw [zfp (by omega) (by omega)]) (yaxe _ _ _ _ 0) (fun k hk=>hk) (yaqg hP hS hok hk (L.length - 1) 0 5 (by omega))
def lowH (n:Nat):List (Nat×Ent)→Prop
 | []=>True
 | x::l=>x.1<n∧(∀ c,c∈x.2.cells→∀ j,j∈AC.ks c→j<n)∧lowH n l
theorem ltB {a b:Nat} (h:Nat.blt a b=true):a<b:=by simpa using h
theorem yatb {cs:List AC} {n:Nat} (h:cs.flatMap AC.ks=[]):∀ c,c∈cs→∀ j,j∈AC.ks c→j<n:=fun _ hc _ hj=>(zeu h hc hj).elim
theorem ybaw {cs:List AC} {n:Nat} (h:(cs.flatMap AC.ks).all (fun k=>Nat.blt k n)=true):∀ c,c∈cs→∀ j,j∈AC.ks c→j<n:=fun c hc j hj=>by
 simpa using List.all_eq_true.1 h j (List.mem_flatMap.2 ⟨c,hc,hj⟩)
theorem zt7 {n:Nat}:∀ {H:List (Nat×Ent)} {k:Nat} {e:Ent},lowH n H→look H k=some e→k<n∧∀ c,c∈e.cells→∀ j,j∈AC.ks c→j<n
 | [],_,_,_,h=>by cases h
 | (j,x)::l,k,e,hn,h=>by
  rw [zav] at h
  split at h
  ·rename_i hk;injection h with h;subst h hk;exact ⟨hn.1,hn.2.1⟩
  ·exact zt7 hn.2.2 h
theorem ybay {T:List (Nat×AV)} {H:List (Nat×Ent)} {n:Nat} (hT:(T.flatMap fun x=>x.2.ks).all (fun k=>Nat.blt k n)=true) (hH:lowH n H):Kn.Low ⟨T,H,n⟩:=⟨yazu hT,fun _ _ h=>zt7 hH h⟩
theorem yaad {L:List Ins}:∀ (n k:Nat) (S:List St),(verL L n k S).trap=0→verF L n k S=(verL L n k S).sts
 | 0,_,_,_=>rfl
 | n+1,k,S,h=>by
  unfold verL verF at *
  by_cases h0:(zag (elt L k) (stAt S k)).2.2=0
  ·rw [if_pos h0] at h;rw [if_pos h0,if_pos h0]
   exact yaad n (k+1) _ h
  ·rw [if_neg h0] at h;exact absurd h h0
theorem zhm {L:List Ins} {c:Nat} (hP:RightP L) (K:Nat) (hK:K≠0):CallOK Tryz.prog ⟨12,[.c (.sl 0 0 L.length c)],pH L,voE K L (zar L) (verF L L.length 0 (zev L.length))⟩:=by
 have h2:=(zxk (c:=c) hP).ren (swp 4 K) (zbm 4 K)
 have e0:swp 4 K 0=0:=zfu (by decide) (Ne.symm hK)
 unfold CallRec.ren at h2
 simp only [yag5,zek,zqa e0] at h2
 refine h2.congr ?_
 show CallRec.mk _ [AV.c (AC.sl 0 0 L.length c)] _ _=CallRec.mk _ [AV.c (AC.sl (swp 4 K 0) 0 L.length c)] _ _
 rw [e0]
theorem zit {L:List Ins} {c:Nat} (hP:RightP L) (h0:(zar L).trap=0) (K:Nat) (hK:K≠0):CallOK Tryz.prog ⟨12,[.c (.sl 0 0 L.length c)],pH L,⟨.ag [.i 0,.i 0,.sl K 0 L.length L.length],[],some (K,⟨true,scell (zar L).sts,0⟩)⟩⟩:=by
 have h:=zhm (c:=c) hP K hK
 have ho:=(zhn hP).none h0
 have e:=yaad (L:=L) L.length 0 (zev L.length) h0
 change verF L L.length 0 (zev L.length)=(zar L).sts at e
 unfold voE at h
 rw [h0,ho.1,ho.2,e] at h
 exact h
theorem zjx:Ok 36 [] (.ag onI.cs):=yawp
theorem yaov {L:List Ins}:Eff.mk (AV.c (AC.sx 4 (0+List.length L))) [] (some (1+1+2,Ent.mk true (List.take 0 (List.drop 0 (rows 0 [AC.i 0,AC.i 0,AC.i 0,AC.u 0#64,AC.i 0]))++List.take (List.length L*5) (List.drop 0 (pcell L))) 5))=Eff.mk (AV.c (AC.sx 4 (List.length L))) [] (some (4,Ent.mk true (pcell L) 5)):=by
 have:List.take (List.length L*5) (List.drop 0 (pcell L))=pcell L:=by rw [List.drop_zero,List.take_of_length_le (by rw [zat];omega)]
 rw [this,Nat.zero_add]
 rfl
theorem yaob {L:List Ins} (hP:RightP L):(Nat.ble (0+List.length L*5) (List.length (pcell L))&&(decide (0+List.length L≤137438953472)&&decide (0<0+List.length L)))=true:=by
 have h1:=hP.pos
 have h2:=hP.le
 rw [zat]
 simp;omega
theorem zla {M:List Ins} {j:Nat} (h:j<M.length):M.set j (elt M j)=M:=by
 unfold elt
 rw [List.getD_eq_getElem?_getD,List.getElem?_eq_getElem h]
 exact List.set_getElem_self h
theorem yaev {S:List St} {k:Nat} (h:k<S.length):(AC.isB (Option.getD (scell S)[0+Int.toNat (k:Int)*31+0]? (AC.b false))&&Nat.blt (0+Int.toNat (k:Int)*31+0) (List.length (scell S)))=true∧Eff.mk (AV.c (AC.b (AC.asB (Option.getD (scell S)[0+Int.toNat (k:Int)*31+0]? (AC.b false))))) [] none=Eff.mk (AV.c (AC.b (St.live (stAt S k)))) [] none:=by
 have h3:(scell S)[0+Int.toNat (k:Int)*31+0]?=some (AC.b (St.live (stAt S k))):=by
  have h4:=zfw (S:=S) (k:=k) h
  injection h4 with h4
  injection h4 with h4
  injection h4 with h4
  have h5:=congrArg (fun l=>l[0]?) h4
  simp only [List.getElem?_take,List.getElem?_drop] at h5
  rw [if_pos (by decide)] at h5
  rw [Int.toNat_natCast]
  exact h5
 rw [h3]
 refine ⟨?_,rfl⟩
 rw [Bool.and_eq_true]
 exact ⟨rfl,by rw [zew,Nat.blt_eq,Int.toNat_natCast];omega⟩
abbrev foKn (L:List Ins) (c:Nat) (S:List St) (M:List Ins) (j r:Nat):Kn:=⟨[(0,.c (.sl 0 0 L.length c)),(3,.c (.sx 4 L.length)),(4,.c (.w 8)),(5,.c (.i (j:Int)))],[(0,⟨false,pcell L,0⟩),(4,⟨true,pcell M,r⟩),(7,⟨true,scell S,0⟩),(8,⟨true,[.i 0,.i 0,.sl 7 0 L.length L.length],0⟩)],10⟩
theorem zk4 (L:List Ins) (c:Nat) (S:List St) (M:List Ins) (j r:Nat):Kn.Low (foKn L c S M j r):=ybay rfl ⟨ltB rfl,yatb (zaj L),ltB rfl,yatb (zaj M),ltB rfl,yatb (za8 S),ltB rfl,ybaw rfl,trivial⟩
theorem yabr {K:Nat} {n:Nat} (L:List Ins) (r:Nat) (hK:1≤K):EKeys 1 [] (some K) ⟨.c (.sx K n),[],some (K,⟨true,pcell L,r⟩)⟩:=by
 refine ⟨fun k hk=>Or.inr ?_,fun _ _ hm=>(nomatch hm),fun k en' h'=>?_,fun _ h=>(nomatch h),fun k h=>⟨?_,rfl⟩⟩
 ·have:k∈[K]:=hk
  rw [List.mem_singleton.1 this]
 ·injection h' with h';injection h' with _ h';subst h';exact zaj L
 ·injection h with h;subst h;exact hK
theorem yaqy {L:List Ins} {c:Nat} {S:List St} (hP:RightP L) (hS:S.length=L.length) (hok:∀ j,(stAt S j).Ok) {w:World} {β:Bs}:∀ (m j r:Nat),j+m+1=L.length →
  ART Tryz.prog 16 (cx w β 1 []) Tryz.f16.ntmps (zdk Tryz.f16 0) (foKn L c S ((zci S L 0).take j++L.drop j) j r) (REff w β (newE 4 L.length (zci S L 0)))
 | 0,j,r,hj=>by
  have hle:=hP.le
  obtain ⟨hl,hat⟩:=zgf S L 0
  have e:(zci S L 0).take j++L.drop j=zci S L 0:=by
   have hj':j<L.length:=by omega
   have h1:=hat j
   rw [if_neg (by omega)] at h1
   conv=>rhs;rw [← List.take_append_drop j (zci S L 0)]
   congr 1
   rw [List.drop_eq_getElem_cons hj',List.drop_eq_getElem_cons (by omega:j<(zci S L 0).length),List.drop_of_length_le (by omega),List.drop_of_length_le (by omega)]
   unfold elt at h1
   rw [List.getD_eq_getElem?_getD,List.getD_eq_getElem?_getD,List.getElem?_eq_getElem hj',List.getElem?_eq_getElem (by omega:j<(zci S L 0).length)] at h1
   simp only [Option.getD_some] at h1
   rw [h1]
  rw [e]
  exact yaa6 (yapi (zaa (by rw [decide_eq_false (by omega)];rfl) rfl) (by rw [zhz (by omega)]) (yabr _ r (by decide))) fun _ _ h=>zme h
 | m+1,j,r,hj=>by
  obtain ⟨hl,hat⟩:=zgf S L 0
  have hle:=hP.le
  have hjL:j<L.length:=by omega
  have h1:=hat j
  rw [if_pos (by omega),Nat.zero_add] at h1
  have hlen:((zci S L 0).take j++L.drop j).length=L.length:=by rw [List.length_append,List.length_take,List.length_drop];omega
  have ea:elt ((zci S L 0).take j++L.drop j) j=elt L j:=yaqz _ (by omega)
  have es:((zci S L 0).take j++L.drop j).set j (zfo (elt L j) (stAt S j))=(zci S L 0).take (j+1)++L.drop (j+1):=by
   rw [← h1];exact yali _ (by omega) hjL
  have eself:=zla (M:=(zci S L 0).take j++L.drop j) (j:=j) (by omega)
  rw [ea] at eself
  have next:=fun r'=>yaqy (c:=c) hP hS hok (w:=w) (β:=β) m (j+1) r' (by omega)
  rw [← es] at next
  generalize (zci S L 0).take j++L.drop j=M at *
  have hr:=zdg hP hjL
  have hreg:=(zbn hr).1
  have hst:=zk2 (i:=elt L j) (t:=stAt S j) (hr.mono (by omega)) (hok j)
  unfold stE at hst
  have hop:=zld hr
  have d0:decide (((j+1:Nat):Int)<(L.length:Int))=true:=decide_eq_true (by omega)
  have d1:decide ((j:Int)<(L.length:Int))=true:=jl hjL
  have f1:Nat.ble (0+Int.toNat (j:Int)*5+5) (pcell L).length=true:=pble hjL
  have f2:Nat.ble (0+Int.toNat (j:Int)*31+31) (scell S).length=true:=sble (by omega)
  have f3:=zdj hjL
  have f4:Eff.mk (AV.ag (List.take 31 (List.drop (0+Int.toNat (j:Int)*31) (scell S)))) [] none=Eff.mk (AV.ag (St.cs (stAt S j))) [] none:=zfw (by omega)
  obtain ⟨f5,f6⟩:=yaev (S:=S) (k:=j) (by omega)
  have f7:Eff.mk (AV.c (AC.i (IntKind.wrap IntKind.i64 ((j:Int)+1)))) [] none=Eff.mk (AV.c (AC.i ((j+1:Nat):Int))) [] none:=by rw [zhz (by omega)]
  have g1:Nat.ble (Int.toNat (j:Int)*5+5) (pcell M).length=true:=by rw [zat,hlen,Nat.ble_eq];omega
  have gs:∀ i:Ins,Eff.mk (AV.raw undef) [(4,splice (pcell M) (Int.toNat (j:Int)*5) (Ins.cs i))] none=Eff.mk (AV.raw undef) [(4,pcell (List.set M j i))] none:=fun i=>by rw [Int.toNat_natCast,zjg _ (by omega)]
  have hF:∀ k,(cx w β 1 []).F k→k<10:=fun _ h=>Nat.lt_of_lt_of_le h (by decide)
  have cr:=zdr (elt L j).op
  have cb:=zao (elt L j).op
  by_cases hlv:(stAt S j).live=true
  ·have n0:(!!(stAt S j).live)=true:=by rw [hlv];rfl
   by_cases hrk:(elt L j).op≤9
   ·have b1:(decide (1≤(elt L j).op)&&decide ((elt L j).op≤9))=true:=by
     rw [Bool.and_eq_true]
     exact ⟨decide_eq_true (by omega),decide_eq_true hrk⟩
    have b2:((elt L j).op==13||(elt L j).op==14)=false:=by
     rw [Bool.or_eq_false_iff]
     exact ⟨beq_eq_false_iff_ne.2 (by omega),beq_eq_false_iff_ne.2 (by omega)⟩
    rw [b1] at cr
    rw [b2] at cb
    have ca:=zd0 ((zag (elt L j) (stAt S j)).1.r.get (elt L j).d.toNat)
    by_cases hal:((zag (elt L j) (stAt S j)).1.r.get (elt L j).d.toNat).alone=true
    ·have ef:zfo (elt L j) (stAt S j)=⟨1,(elt L j).d,-1,((zag (elt L j) (stAt S j)).1.r.get (elt L j).d.toNat).l,0⟩:=by
      unfold zfo;rw [if_pos hlv,if_pos (by rw [hal,decide_eq_true hrk];rfl)]
     rw [ef] at next
     rw [hal] at ca
     refine yawo (i:=elt L j) (zaa d0 (zaa d1 (zaa f1 (zaa d1 (zaa f2 (zaa d1 (zaa f5 (zaa n0 (zaa hreg (zaa (zbe _ hreg) (zaa hreg (zaa (zvn _ hreg) (zaa d1 ?_))))))))))))) f7 f3 f4 hst f6 cr (zax _ hreg) ca (zo4 _ hreg) (gs ⟨1,(elt L j).d,-1,((zag (elt L j) (stAt S j)).1.r.get (elt L j).d.toNat).l,0⟩) f7 (zk4 _ _ _ _ _ _) hF (next 0)
     exact zaa (zaa g1 rfl) rfl
    ·have hal':((zag (elt L j) (stAt S j)).1.r.get (elt L j).d.toNat).alone=false:=by simpa using hal
     have ef:zfo (elt L j) (stAt S j)=elt L j:=by
      have hb:zak (elt L j)=false:=b2
      unfold zfo;rw [if_pos hlv,if_neg (by rw [hal'];simp),if_neg (by rw [hb];simp),if_neg (by rw [hb];simp)]
     rw [ef,eself] at next
     rw [hal'] at ca
     exact yaz0 (i:=elt L j) (zaa d0 (zaa d1 (zaa f1 (zaa d1 (zaa f2 (zaa d1 (zaa f5 (zaa n0 (zaa hreg (zaa (zbe _ hreg) rfl)))))))))) f7 f3 f4 hst f6 cr (zax _ hreg) ca cb cb f7 (zk4 _ _ _ _ _ _) hF (next r)
   ·have b1:(decide (1≤(elt L j).op)&&decide ((elt L j).op≤9))=false:=by
     rw [decide_eq_false hrk,Bool.and_false]
    rw [b1] at cr
    have f0:∀ x,zfo (elt L j) (stAt S j)=x↔(if zak (elt L j)&&!(zag (elt L j) (stAt S j)).2.1.live then onI else if zak (elt L j)&&!(zag (elt L j) (stAt S j)).1.live then ⟨12,0,0,0#64,(elt L j).of⟩ else elt L j)=x:=fun x=>by
     unfold zfo;rw [if_pos hlv,if_neg (by rw [decide_eq_false hrk];simp)]
    by_cases hb:zak (elt L j)=true
    ·have hb':((elt L j).op==13||(elt L j).op==14)=true:=hb
     rw [hb'] at cb
     by_cases hj2:(zag (elt L j) (stAt S j)).2.1.live=true
     ·have n2:(!!(zag (elt L j) (stAt S j)).2.1.live)=true:=by rw [hj2];rfl
      by_cases hj1:(zag (elt L j) (stAt S j)).1.live=true
      ·have n1:(!!(zag (elt L j) (stAt S j)).1.live)=true:=by rw [hj1];rfl
       have ef:=(f0 (elt L j)).2 (by rw [hb,hj2,hj1];rfl)
       rw [ef,eself] at next
       exact yayn (i:=elt L j) (zaa d0 (zaa d1 (zaa f1 (zaa d1 (zaa f2 (zaa d1 (zaa f5 (zaa n0 (zaa n2 (zaa n1 rfl)))))))))) f7 f3 f4 hst f6 cr cb cb f7 (zk4 _ _ _ _ _ _) hF (next r)
      ·have n1:(!(zag (elt L j) (stAt S j)).1.live)=true:=by simpa using hj1
       have ef:=(f0 ⟨12,0,0,0#64,(elt L j).of⟩).2 (by rw [hb,hj2,n1];rfl)
       rw [ef] at next
       exact yawa (i:=elt L j) (zaa d0 (zaa d1 (zaa f1 (zaa d1 (zaa f2 (zaa d1 (zaa f5 (zaa n0 (zaa n2 (zaa n1 (zaa d1 (zaa (zaa g1 rfl) rfl)))))))))))) f7 f3 f4 hst f6 cr cb cb (gs ⟨12,0,0,0#64,(elt L j).of⟩) f7 (zk4 _ _ _ _ _ _) hF (next 0)
     ·have n2:(!(zag (elt L j) (stAt S j)).2.1.live)=true:=by simpa using hj2
      have ef:=(f0 onI).2 (by rw [hb,n2];rfl)
      rw [ef] at next
      exact yav2 (i:=elt L j) (zaa d0 (zaa d1 (zaa f1 (zaa d1 (zaa f2 (zaa d1 (zaa f5 (zaa n0 (zaa n2 (zaa d1 (zaa (zaa g1 rfl) rfl))))))))))) f7 f3 f4 hst f6 cr cb zjx (gs _) f7 (zk4 _ _ _ _ _ _) hF (next 0)
    ·have hb0:zak (elt L j)=false:=by simpa using hb
     have hb':((elt L j).op==13||(elt L j).op==14)=false:=hb0
     rw [hb'] at cb
     have ef:=(f0 (elt L j)).2 (by rw [hb0];rfl)
     rw [ef,eself] at next
     exact yazg (i:=elt L j) (zaa d0 (zaa d1 (zaa f1 (zaa d1 (zaa f2 (zaa d1 (zaa f5 (zaa n0 rfl)))))))) f7 f3 f4 hst f6 cr cb cb f7 (zk4 _ _ _ _ _ _) hF (next r)
  ·have n0:(!(stAt S j).live)=true:=by simpa using hlv
   have ef:zfo (elt L j) (stAt S j)=onI:=by unfold zfo;rw [if_neg hlv]
   rw [ef] at next
   exact yaxm (i:=elt L j) (zaa d0 (zaa d1 (zaa f1 (zaa d1 (zaa f2 (zaa d1 (zaa f5 (zaa n0 (zaa d1 (zaa (zaa g1 rfl) rfl)))))))))) f7 f3 f4 hst f6 zjx (gs _) f7 (zk4 _ _ _ _ _ _) hF (next 0)
theorem yaks {L:List Ins} {c:Nat} (hP:RightP L) {K:Nat} (hK:K≠0):CallOK Tryz.prog ⟨16,[.c (.sl 0 0 L.length c)],pH L,newE K L.length (zel L)⟩:=by
 have hpos:=hP.pos
 have hout:=zhn hP
 refine yajw (a:=4) ?_ (by decide) hK
 by_cases h0:(zar L).trap=0
 ·have e:zel L=zci (zar L).sts L 0:=by unfold zel;rw [if_pos h0]
  rw [e]
  exact zcu Tryz.func16 rfl rfl rfl (zaj L) (by decide) rfl (zaj _) fun w β _=>yaol (zaa (yaob hP) rfl) yaov (zit hP h0 7 (by decide)) (zk4 _ _ _ _ 0 _) (fun _ h=>Nat.lt_of_lt_of_le h (by decide)) (yaqy hP (hout.none h0).2 hout.ok (L.length - 1) 0 5 (by omega))
 ·have e:zel L=L:=by unfold zel;rw [if_neg h0]
  rw [e]
  exact zjd (r:=5) (zcu Tryz.func16 rfl rfl rfl (zaj L) (by decide) rfl (zaj _) fun w β hk=>yarh (zaa (yaob hP) (zaa (by simpa using h0) rfl)) yaov (zhm hP 7 (by decide)) hk)
theorem yaar {α:Type} {A B:List α} {x:Nat} (d:α) (hA:x<A.length) (hB:x<B.length):(A.take (x+1)++B.drop (x+1)).set x (B.getD x d)=A.take x++B.drop x:=by
 have h1:(A.take x).length=x:=by rw [List.length_take];omega
 rw [List.take_succ_eq_append_getElem hA,List.append_assoc,List.set_append_right _ _ (by omega),h1,Nat.sub_self,List.drop_eq_getElem_cons hB,List.getD_eq_getElem?_getD,List.getElem?_eq_getElem hB]
 rfl
theorem yao3 {α:Type} {A B:List α} {m j:Nat} (d:α) (hA:m≤A.length) (h:j<m):(A.take m++B.drop m).getD j d=A.getD j d:=by
 have h1:(A.take m).length=m:=by rw [List.length_take];omega
 rw [List.getD_eq_getElem?_getD,List.getD_eq_getElem?_getD,List.getElem?_append_left (by omega),List.getElem?_take_of_lt h]
theorem yalr {α:Type} {A B:List α} {m j:Nat} (d:α) (hA:m≤A.length) (h:m≤j):(A.take m++B.drop m).getD j d=B.getD j d:=by
 have h1:(A.take m).length=m:=by rw [List.length_take];omega
 rw [List.getD_eq_getElem?_getD,List.getD_eq_getElem?_getD,List.getElem?_append_right (by omega),h1,List.getElem?_drop,show m+(j - m)=j by omega]
theorem zri:∀ L:List Ins,(ridR L).2.length=L.length
 | []=>rfl
 | _::L=>by
  show (ridR L).2.length+1=L.length+1
  rw [zri L]
theorem zxn {i:Ins} {A B:List (V6 Bool)} {k:Nat} (h:∀ j,k+1≤j→lvAt A j=lvAt B j):zcj i A k=zcj i B k:=by
 unfold zcj
 rw [h (k+1) (Nat.le_refl _),h (k+1+i.of.toNat) (by omega)]
def zsz (s:List Ins×List (V6 Bool)) (x:Nat):List Ins×List (V6 Bool) :=
 (s.1.set x (zec (elt s.1 x) (zcj (elt s.1 x) s.2 x)),s.2.set x (zfh (zec (elt s.1 x) (zcj (elt s.1 x) s.2 x)) (zcj (elt s.1 x) s.2 x)))
structure DOk (n:Nat) (s:List Ins×List (V6 Bool)):Prop where
 l1:s.1.length=n
 l2:s.2.length=n
 right:∀ k,k<n→Right (elt s.1 k) ((n - 1 - k:Nat):Int)
 last:∀ k,k<n→(elt s.1 k).op=15∨k+1<n
theorem DOk.start {L:List Ins} (hP:RightP L):DOk L.length (L,List.replicate L.length no6):=by
 refine ⟨rfl,List.length_replicate,fun k hk=>hP.step k hk,fun k hk=>?_⟩
 by_cases h:k+1<L.length
 ·exact Or.inr h
 ·have:k=L.length - 1:=by omega
  subst this
  exact Or.inl hP.last
theorem znd {L:List Ins} {x k:Nat} {i:Ins} (hx:x<L.length):elt (L.set x i) k=if k=x then i else elt L k:=by
 unfold elt
 rw [List.getD_eq_getElem?_getD,List.getD_eq_getElem?_getD,List.getElem?_set]
 by_cases h:x=k
 ·subst h;rw [if_pos rfl,if_pos hx,if_pos rfl];rfl
 ·rw [if_neg h,if_neg (Ne.symm h)]
theorem DOk.step {n:Nat} {s:List Ins×List (V6 Bool)} (h:DOk n s) {x:Nat} (hx:x<n):DOk n (zsz s x):=by
 have hr:=h.right x hx
 have hl:=h.last x hx
 refine ⟨?_,?_,fun k hk=>?_,fun k hk=>?_⟩
 ·show (s.1.set _ _).length=n;rw [List.length_set];exact h.l1
 ·show (s.2.set _ _).length=n;rw [List.length_set];exact h.l2
 ·show Right (elt (s.1.set _ _) k) _
  rw [znd (by rw [h.l1];exact hx)]
  by_cases e:k=x
  ·subst e
   rw [if_pos rfl]
   refine zoh ?_ hr
   rcases hl with h1 | h1
   ·exact Or.inr h1
   ·exact Or.inl (by omega)
  ·rw [if_neg e];exact h.right k hk
 ·show (elt (s.1.set _ _) k).op=15∨_
  rw [znd (by rw [h.l1];exact hx)]
  by_cases e:k=x
  ·subst e
   rw [if_pos rfl]
   rcases hl with h1 | h1
   ·refine Or.inl ?_
    unfold zec
    rw [if_neg (by simp [h1])]
    exact h1
   ·exact Or.inr h1
  ·rw [if_neg e];exact h.last k hk
def runD (L:List Ins) (pre:List Nat):List Ins×List (V6 Bool):=pre.foldl zsz (L,List.replicate L.length no6)
theorem zmy (L:List Ins) (pre:List Nat) (x:Nat):runD L (pre++[x])=zsz (runD L pre) x:=by unfold runD;rw [List.foldl_append];rfl
theorem yaiq {L:List Ins} (hP:RightP L):∀ pre:List Nat,(∀ x,x∈pre→x<L.length)→DOk L.length (runD L pre):=by
 have:∀ (pre:List Nat) (s:List Ins×List (V6 Bool)),DOk L.length s→(∀ x,x∈pre→x<L.length)→DOk L.length (pre.foldl zsz s):=by
  intro pre
  induction pre with
  | nil=>intro s h _;exact h
  | cons x pre ih=>intro s h hx;exact ih _ (h.step (hx x (by simp))) fun y hy=>hx y (by simp [hy])
 exact fun pre h=>this pre _ (DOk.start hP) h
theorem zum {L:List Ins}:∀ k,k≤L.length→runD L ((List.range k).map fun j=>L.length - 1 - j)=(L.take (L.length - k)++(ridR L).1.drop (L.length - k),(List.replicate L.length no6).take (L.length - k)++(ridR L).2.drop (L.length - k))
 | 0,_=>by
  obtain ⟨h1,_⟩:=znh L
  show (L,List.replicate L.length no6)=_
  rw [Nat.sub_zero,List.drop_of_length_le (by omega),List.drop_of_length_le (by rw [zri];omega),List.append_nil,List.append_nil,List.take_of_length_le (Nat.le_refl _),List.take_of_length_le (by rw [List.length_replicate];omega)]
 | k+1,hk=>by
  obtain ⟨h1,h2⟩:=znh L
  have hl:=zri L
  rw [List.range_succ,List.map_append,List.map_cons,List.map_nil,zmy,zum k (by omega)]
  have e:L.length - k=(L.length - (k+1))+1:=by omega
  have e2:L.length - 1 - k=L.length - (k+1):=by omega
  rw [e,e2]
  have hx:L.length - (k+1)<L.length:=by omega
  generalize L.length - (k+1)=x at *
  obtain ⟨g1,g2⟩:=h2 x hx
  have a1:elt (L.take (x+1)++(ridR L).1.drop (x+1)) x=elt L x:=yao3 _ (by omega) (by omega)
  have a2:∀ i,zcj i ((List.replicate L.length no6).take (x+1)++(ridR L).2.drop (x+1)) x=zcj i (ridR L).2 x:=fun i=>zxn fun j hj=>yalr _ (by rw [List.length_replicate];omega) hj
  unfold zsz
  simp only [a1,a2]
  rw [← g1,← g2]
  exact Prod.ext (yaar _ (by omega) (by omega)) (yaar _ (by rw [List.length_replicate];omega) (by omega))
theorem yaaj (L:List Ins):(runD L ((List.range L.length).map fun j=>L.length - 1 - j)).1=(ridR L).1:=by
 rw [zum L.length (Nat.le_refl _),Nat.sub_self]
 rfl
def useL (i:Ins):List Int :=
 if i.op=12 then [] else if i.op=15 then [0] else if i.op=1∨i.op=10 then (if i.s=-1 then [] else [i.s]) else if i.s=-1 then [i.d] else [i.d,i.s]
def setL (U:List Int) (u:V6 Bool):V6 Bool:=U.foldl (fun u d=>u.set d.toNat true) u
theorem yajb {a b:V6 Bool}:∀ d,d<6→orS (a.set d true) b=(orS a b).set d true :=
 lt6 (by simp [orS,V6.set]) (by simp [orS,V6.set]) (by simp [orS,V6.set]) (by simp [orS,V6.set]) (by simp [orS,V6.set]) (by simp [orS,V6.set])
theorem yarm (b:V6 Bool):orS no6 b=b:=rfl
structure UseOk (i:Ins):Prop where
 nil:useL i=[]→Ok 37 [.ag i.cs] (.c zco)
 some:useL i≠[]→∀ K,CallOK Tryz.prog ⟨37,[.ag i.cs],[],⟨.c (.sx K (useL i).length),[],some (K,⟨true,(useL i).map AC.i,1⟩)⟩⟩
 reg:∀ d,d∈useL i→regB d=true
 le:(useL i).length≤2
 same:∀ u,orS (zaw i) u=setL (useL i) u
theorem yay6 {i:Ins} {n:Int} (hr:Right i n):UseOk i:=by
 have hg:=zbn hr
 have hd:=hg.1
 have so:i.s≠-1→regB i.s=true:=fun h=>(srcB_iff.1 hg.2).resolve_left h
 have one:∀ d,regB d=true→useL i=[d]→zaw i=(no6).set d.toNat true→(∀ K,CallOK Tryz.prog ⟨37,[.ag i.cs],[],⟨.c (.sx K 1),[],some (K,⟨true,[.i d],1⟩)⟩⟩)→UseOk i:=fun d h1 h2 h3 h4=>by
  refine ⟨fun h=>(by rw [h2] at h;cases h),fun _ K=>(by rw [h2];exact h4 K),?_,by rw [h2];simp,fun u=>?_⟩
  ·rw [h2];exact mem1 h1
  ·rw [h2,h3,yajb _ (zbp h1),yarm];rfl
 have two:regB i.s=true→useL i=[i.d,i.s]→zaw i=((no6).set i.d.toNat true).set i.s.toNat true→(∀ K,CallOK Tryz.prog ⟨37,[.ag i.cs],[],⟨.c (.sx K 2),[],some (K,⟨true,[.i i.d,.i i.s],1⟩)⟩⟩)→UseOk i:=fun h1 h2 h3 h4=>by
  refine ⟨fun h=>(by rw [h2] at h;cases h),fun _ K=>(by rw [h2];exact h4 K),?_,by rw [h2];simp,fun u=>?_⟩
  ·rw [h2];exact mem2 hd h1
  ·rw [h2,h3,yajb _ (zbp h1),yajb _ (zbp hd),yarm];rfl
 have none:useL i=[]→zaw i=no6→Ok 37 [.ag i.cs] (.c zco)→UseOk i:=fun h2 h3 h4=>by
  refine ⟨fun _=>h4,fun h=>absurd h2 h,?_,by rw [h2];simp,fun u=>?_⟩
  ·rw [h2];exact fun _ h=>(nomatch h)
  ·rw [h2,h3,yarm];rfl
 have ds:((2≤i.op∧i.op≤9)∨i.op=13∨i.op=14)→UseOk i:=fun c=>by
  by_cases hs:i.s=-1
  ·refine one i.d hd ?_ (yabj c hs) fun K=>?_
   ·unfold useL;rw [if_neg (by omega),if_neg (by omega),if_neg (by omega),if_pos hs]
   ·have:=zlk (op:=i.op) (d:=i.d) (of:=i.of) (im:=i.im) K c
    rw [← hs] at this
    exact this
  ·refine two (so hs) ?_ (zjs (by omega) hs) fun K=>zhj K (by omega) hs
   unfold useL;rw [if_neg (by omega),if_neg (by omega),if_neg (by omega),if_neg hs]
 rcases zld hr with c | c | c | c | c | c | c | c
 ·obtain ⟨_,hs,_,_⟩:=zbv hr (Or.inl c)
  have hn:i.s≠-1:=fun e=>by rw [e] at hs;cases hs
  refine one i.s hs ?_ (yabf (Or.inr c) hn) fun K=>zlr K (Or.inr c) hn
  unfold useL;rw [if_neg (by omega),if_neg (by omega),if_pos (Or.inr c),if_neg hn]
 ·obtain ⟨_,hs,_,_⟩:=zbv hr (Or.inr c)
  have hn:i.s≠-1:=fun e=>by rw [e] at hs;cases hs
  refine two hs ?_ (zjs (by omega) hn) fun K=>zhj K (by omega) hn
  unfold useL;rw [if_neg (by omega),if_neg (by omega),if_neg (by omega),if_neg hn]
 ·refine none (by unfold useL;rw [if_pos c]) (by unfold zaw;rw [if_pos c]) ?_
  have:=zq0 (d:=i.d) (s:=i.s) (of:=i.of) (im:=i.im)
  rw [← c] at this
  exact this
 ·exact ds (by omega)
 ·exact ds (by omega)
 ·refine one 0 rfl (by unfold useL;rw [if_neg (by omega),if_pos c]) (by unfold zaw;rw [if_neg (by omega),if_pos c];rfl) fun K=>?_
  have:=yab3 (d:=i.d) (s:=i.s) (of:=i.of) (im:=i.im) K
  rw [← c] at this
  exact this
 ·by_cases hs:i.s=-1
  ·refine none (by unfold useL;rw [if_neg (by omega),if_neg (by omega),if_pos (Or.inl c),if_pos hs]) (by unfold zaw;rw [if_neg (by omega),if_neg (by omega),if_pos hs,if_pos (Or.inl c)]) ?_
   have:=yaay (d:=i.d) (of:=i.of) (im:=i.im)
   rw [← hs,← c] at this
   exact this
  ·refine one i.s (so hs) ?_ (yabf (Or.inl c) hs) fun K=>zlr K (Or.inl c) hs
   unfold useL;rw [if_neg (by omega),if_neg (by omega),if_pos (Or.inl c),if_neg hs]
 ·exact ds (Or.inl c)
theorem yatd {A:List (V6 Bool)} {k x:Nat} (hk:k<A.length) (hx:x<6):(AC.isB (Option.getD (rcell A)[0+k*6+Int.toNat (x:Int)*1]? (AC.b false))&&Nat.blt (0+k*6+Int.toNat (x:Int)*1) (List.length (rcell A)))=true∧Eff.mk (AV.c (AC.b (AC.asB (Option.getD (rcell A)[0+k*6+Int.toNat (x:Int)*1]? (AC.b false))))) [] none=Eff.mk (AV.c (AC.b ((lvAt A k).get x))) [] none:=by
 have h1:(rcell A)[0+k*6+Int.toNat (x:Int)*1]?=some (AC.b ((lvAt A k).get x)):=by
  have h4:=congrArg (fun l=>l[x]?) (zrv (A:=A) hk)
  simp only [List.getElem?_take,List.getElem?_drop] at h4
  rw [if_pos hx] at h4
  rw [Nat.zero_add,Int.toNat_natCast,Nat.mul_one,h4]
  revert x
  intro x hx _
  exact lt6 (P:=fun x=>(bcs (lvAt A k))[x]?=some (AC.b ((lvAt A k).get x))) rfl rfl rfl rfl rfl rfl x hx
 rw [h1]
 refine ⟨?_,rfl⟩
 rw [Bool.and_eq_true]
 exact ⟨rfl,by rw [zfk,Nat.blt_eq,Int.toNat_natCast];omega⟩
theorem zpr (u:V6 Bool) {j:Int} (h:regB j=true):Eff.mk (AV.c (AC.b (AC.asB (Option.getD (bcs u)[Int.toNat j*1]? (AC.b false))))) [] none=Eff.mk (AV.c (AC.b (u.get j.toNat))) [] none :=
 zcb (P:=fun j=>Eff.mk (AV.c (AC.b (AC.asB (Option.getD (bcs u)[Int.toNat j*1]? (AC.b false))))) [] none=Eff.mk (AV.c (AC.b (u.get j.toNat))) [] none) h rfl rfl rfl rfl rfl rfl
theorem zh3 (K:Nat) (u:V6 Bool) {j:Int} (x:Bool) (h:regB j=true):Eff.mk (AV.raw undef) [(K,splice (bcs u) (Int.toNat j*1) [AC.b x])] none=Eff.mk (AV.raw undef) [(K,bcs (V6.set u (Int.toNat j) x))] none:=by rw [yacb u x h]
theorem zzr {x:Nat} (h:x<6):regB (x:Int)=true:=regB_iff.2 ⟨by omega,by omega⟩
theorem get_set (u:V6 Bool) (g:Bool):∀ x,x<6→(u.set x g).get x=g:=lt6 rfl rfl rfl rfl rfl rfl
theorem set_set (u:V6 Bool) (g h:Bool):∀ x,x<6→(u.set x g).set x h=u.set x h:=lt6 rfl rfl rfl rfl rfl rfl
abbrev yag7 (L M:List Ins) (A:List (V6 Bool)) (r:Nat) (q:Int):Kn:=⟨[(3,.c (.sx 4 L.length)),(4,.c (.sl 12 0 L.length L.length)),(5,.c (.i q))],[(0,⟨false,pcell L,0⟩),(4,⟨true,pcell M,r⟩),(12,⟨true,rcell A,0⟩)],14⟩
abbrev yad8 (L M:List Ins) (A:List (V6 Bool)) (r j:Nat) (i:Ins) (x:Int) (u:V6 Bool):Kn:=⟨[(3,.c (.sx 4 L.length)),(4,.c (.sl 12 0 L.length L.length)),(5,.c (.i (j:Int))),(6,.c (.w 20)),(7,.c (.w 22)),(8,.c (.i x))],[(0,⟨false,pcell L,0⟩),(4,⟨true,pcell M,r⟩),(12,⟨true,rcell A,0⟩),(20,⟨true,i.cs,0⟩),(22,⟨true,bcs u,0⟩)],24⟩
abbrev yba8 (L M:List Ins) (A:List (V6 Bool)) (r j:Nat) (u:V6 Bool):Kn:=⟨[(3,.c (.sx 4 L.length)),(4,.c (.sl 12 0 L.length L.length)),(5,.c (.i (j:Int))),(7,.c (.w 22)),(9,.c zco),(10,.c (.i 0))],[(0,⟨false,pcell L,0⟩),(4,⟨true,pcell M,r⟩),(12,⟨true,rcell A,0⟩),(22,⟨true,bcs u,0⟩)],45⟩
abbrev zot (K:Nat) (L M:List Ins) (A:List (V6 Bool)) (r j:Nat) (u:V6 Bool) (U:List Int) (x:Nat):Kn:=⟨[(3,.c (.sx 4 L.length)),(4,.c (.sl 12 0 L.length L.length)),(5,.c (.i (j:Int))),(7,.c (.w 22)),(9,.c (.sx K U.length)),(10,.c (.i (x:Int)))],[(0,⟨false,pcell L,0⟩),(4,⟨true,pcell M,r⟩),(12,⟨true,rcell A,0⟩),(22,⟨true,bcs u,0⟩),(K,⟨true,U.map AC.i,1⟩)],45⟩
theorem zjt (L M:List Ins) (A:List (V6 Bool)) (r:Nat) (q:Int):Kn.Low (yag7 L M A r q):=zg9 rfl rfl ⟨zaj L,zaj M,ze6 A,trivial⟩
theorem zig (L M:List Ins) (A:List (V6 Bool)) (r j:Nat) (i:Ins) (x:Int) (u:V6 Bool):Kn.Low (yad8 L M A r j i x u):=zg9 rfl rfl ⟨zaj L,zaj M,ze6 A,rfl,rfl,trivial⟩
theorem zxy (L M:List Ins) (A:List (V6 Bool)) (r j:Nat) (u:V6 Bool):Kn.Low (yba8 L M A r j u):=zg9 rfl rfl ⟨zaj L,zaj M,ze6 A,rfl,trivial⟩
theorem zu4 (L M:List Ins) (A:List (V6 Bool)) (r j:Nat) (u:V6 Bool) (U:List Int) (x:Nat):Kn.Low (zot 39 L M A r j u U x):=zg9 rfl rfl ⟨zaj L,zaj M,ze6 A,rfl,zq5 U,trivial⟩
theorem zt5 (L M:List Ins) (A:List (V6 Bool)) (r j:Nat) (u:V6 Bool) (U:List Int) (x:Nat):Kn.Low (zot 30 L M A r j u U x):=zg9 rfl rfl ⟨zaj L,zaj M,ze6 A,rfl,zq5 U,trivial⟩
section
variable {L M:List Ins} {A:List (V6 Bool)} {w:World} {β:Bs} {R:Ending→World→Prop}
abbrev DA (w:World) (β:Bs) (k:Nat) (σ:Kn) (R:Ending→World→Prop):Prop:=ART Tryz.prog 15 (cx w β 1 []) Tryz.f15.ntmps (zdk Tryz.f15 k) σ R
theorem de_F {n:Nat} (h:1≤n):∀ k,(cx w β 1 []).F k→k<n:=fun _ hk=>Nat.lt_of_lt_of_le hk h
theorem ybav {r j:Nat} {i:Ins} {v:V6 Bool} (hM:L.length≤64) (hA:A.length=L.length) (hj:j<L.length) (hr:Right i ((L.length - 1 - j:Nat):Int)) (hl:i.op=15∨j+1<L.length) (hv:v=zcj i A j)
  (z:DA w β 1 (yad8 L M A r j i 6 v) R):DA w β 1 (yad8 L M A r j i 0 no6) R:=by
 have w1:∀ x:Nat,x<6→Eff.mk (AV.c (AC.i (IntKind.wrap IntKind.i64 ((x:Int)+1)))) [] none=Eff.mk (AV.c (AC.i ((x+1:Nat):Int))) [] none:=fun x hx=>by rw [zhz (by omega)]
 have wj:Eff.mk (AV.c (AC.i (IntKind.wrap IntKind.i64 ((j:Int)+1)))) [] none=Eff.mk (AV.c (AC.i ((j+1:Nat):Int))) [] none:=by rw [zhz (by omega)]
 have d6:∀ x:Nat,x<6→decide ((x:Int)<6)=true:=fun x hx=>decide_eq_true (by omega)
 have cb:=zao i.op
 have key:∀ f:Nat→Bool→Bool,(∀ (x:Nat) (u:V6 Bool),x<6→DA w β 1 (yad8 L M A r j i ((x+1:Nat):Int) (u.set x (f x (u.get x)))) R→DA w β 1 (yad8 L M A r j i (x:Int) u) R)→(⟨f 0 false,f 1 false,f 2 false,f 3 false,f 4 false,f 5 false⟩:V6 Bool)=v→DA w β 1 (yad8 L M A r j i 0 no6) R:=by
  intro f hf hv'
  subst hv'
  exact hf 0 no6 (by decide) (hf 1 _ (by decide) (hf 2 _ (by decide) (hf 3 _ (by decide) (hf 4 _ (by decide) (hf 5 _ (by decide) z)))))
 by_cases h15:i.op=15
 ·have hb:(i.op==13||i.op==14)=false:=by rw [h15];rfl
  rw [hb] at cb
  refine key (fun _ b=>b) (fun x u hx z=>?_) ?_
  ·have e:u.set x (u.get x)=u:=lt6 (P:=fun x=>u.set x (u.get x)=u) rfl rfl rfl rfl rfl rfl x hx
   rw [e] at z
   exact yatw (zaa (d6 x hx) (zaa (by rw [h15];rfl) (zaa (zay (by omega)) rfl))) cb (w1 x hx) (zig _ _ _ _ _ _ _ _) (de_F (by decide)) z
  ·rw [hv];unfold zcj;rw [if_pos h15];rfl
 ·have hj1:j+1<L.length:=hl.resolve_left h15
  have n15:(i.op != 15)=true:=by simpa using h15
  have dj:decide (((j+1:Nat):Int)<(L.length:Int))=true:=decide_eq_true (by omega)
  have a1:∀ x:Nat,x<6→_:=fun x hx=>yatd (A:=A) (k:=j+1) (x:=x) (by omega) hx
  by_cases h12:i.op=12
  ·obtain ⟨o1,o2⟩:=zwx hr (Or.inl h12)
   have ex:(((j+1:Nat):Int)+i.of).toNat=j+1+i.of.toNat:=by omega
   have hk:j+1+i.of.toNat<L.length:=by omega
   have wo:Eff.mk (AV.c (AC.i (IntKind.wrap IntKind.i64 (((j+1:Nat):Int)+i.of)))) [] none=Eff.mk (AV.c (AC.i (((j+1:Nat):Int)+i.of))) [] none:=by rw [zfp (by omega) (by omega)]
   have dk:(decide (0≤((j+1:Nat):Int)+i.of)&&decide (((j+1:Nat):Int)+i.of<(L.length:Int)))=true:=zaa (decide_eq_true (by omega)) (decide_eq_true (by omega))
   have n12:(!i.op != 12)=true:=by rw [h12];rfl
   refine key (fun x b=>b||(lvAt A (j+1+i.of.toNat)).get x) (fun x u hx z=>?_) ?_
   ·have hx':=zzr hx
    have a2:=yatd (A:=A) (k:=j+1+i.of.toNat) (x:=x) (by omega) hx
    rw [← ex] at a2
    by_cases hg:u.get x=true
    ·rw [hg,Bool.true_or] at z
     exact yape (g2:=u.get x) (zaa (d6 x hx) (zaa n15 (zaa n12 (zaa (zfg h12) (zaa (d6 x hx) (zaa (zl4 u hx') (zaa hg (zaa (d6 x hx) (zaa (zaa (zkl u hx') rfl) rfl))))))))) (zpr u hx') (zh3 22 u true hx') (w1 x hx) (zig _ _ _ _ _ _ _ _) (de_F (by decide)) z
    ·have hg':u.get x=false:=by simpa using hg
     rw [hg',Bool.false_or] at z
     exact yapp (g2:=u.get x) (zaa (d6 x hx) (zaa n15 (zaa n12 (zaa (zfg h12) (zaa (d6 x hx) (zaa (zl4 u hx') (zaa (by rw [hg'];rfl) (zaa dk (zaa (d6 x hx) (zaa a2.1 (zaa (d6 x hx) (zaa (zaa (zkl u hx') rfl) rfl)))))))))))) (zpr u hx') wj wo a2.2 (zh3 22 u _ hx') (w1 x hx) (zig _ _ _ _ _ _ _ _) (de_F (by decide)) (by rw [ex];exact z)
   ·rw [hv];unfold zcj;rw [if_neg h15,if_pos h12];rfl
  ·have n12:(i.op != 12)=true:=by simpa using h12
   by_cases hb:zak i=true
   ·have hb':(i.op==13||i.op==14)=true:=hb
    rw [hb'] at cb
    have hop:i.op=13∨i.op=14:=by simpa using hb'
    obtain ⟨o1,o2⟩:=zwx hr (Or.inr hop)
    have ex:(((j+1:Nat):Int)+i.of).toNat=j+1+i.of.toNat:=by omega
    have hk:j+1+i.of.toNat<L.length:=by omega
    have wo:Eff.mk (AV.c (AC.i (IntKind.wrap IntKind.i64 (((j+1:Nat):Int)+i.of)))) [] none=Eff.mk (AV.c (AC.i (((j+1:Nat):Int)+i.of))) [] none:=by rw [zfp (by omega) (by omega)]
    have dk:(decide (0≤((j+1:Nat):Int)+i.of)&&decide (((j+1:Nat):Int)+i.of<(L.length:Int)))=true:=zaa (decide_eq_true (by omega)) (decide_eq_true (by omega))
    refine key (fun x _=>(lvAt A (j+1)).get x||(lvAt A (j+1+i.of.toNat)).get x) (fun x u hx z=>?_) ?_
    ·have hx':=zzr hx
     have a0:=a1 x hx
     have a2:=yatd (A:=A) (k:=j+1+i.of.toNat) (x:=x) (by omega) hx
     rw [← ex] at a2
     have e2:=get_set u ((lvAt A (j+1)).get x) x hx
     have b4:Eff.mk (AV.c (AC.b (AC.asB (Option.getD (bcs (V6.set u x ((lvAt A (j+1)).get x)))[Int.toNat (x:Int)*1]? (AC.b false))))) [] none=Eff.mk (AV.c (AC.b ((lvAt A (j+1)).get x))) [] none:=(zpr (V6.set u x ((lvAt A (j+1)).get x)) hx').trans (by rw [Int.toNat_natCast,e2])
     have b5:∀ g,Eff.mk (AV.raw undef) [(22,splice (bcs (V6.set u x ((lvAt A (j+1)).get x))) (Int.toNat (x:Int)*1) [AC.b g])] none=Eff.mk (AV.raw undef) [(22,bcs (u.set x g))] none:=fun g=>(zh3 22 (V6.set u x ((lvAt A (j+1)).get x)) g hx').trans (by rw [Int.toNat_natCast,set_set _ _ _ x hx])
     by_cases hg:(lvAt A (j+1)).get x=true
     ·rw [hg,Bool.true_or] at z
      exact yaok (zaa (d6 x hx) (zaa n15 (zaa n12 (zaa dj (zaa (d6 x hx) (zaa a0.1 (zaa (d6 x hx) (zaa (zaa (zkl u hx') rfl) (zaa (zay h12) (zaa (d6 x hx) (zaa (zl4 _ hx') (zaa hg (zaa (d6 x hx) (zaa (zaa (zkl _ hx') rfl) rfl)))))))))))))) wj a0.2 (zh3 22 u _ hx') cb b4 (b5 true) (w1 x hx) (zig _ _ _ _ _ _ _ _) (de_F (by decide)) z
     ·have hg':(lvAt A (j+1)).get x=false:=by simpa using hg
      rw [hg',Bool.false_or] at z
      exact yal8 (zaa (d6 x hx) (zaa n15 (zaa n12 (zaa dj (zaa (d6 x hx) (zaa a0.1 (zaa (d6 x hx) (zaa (zaa (zkl u hx') rfl) (zaa (zay h12) (zaa (d6 x hx) (zaa (zl4 _ hx') (zaa (by rw [hg'];rfl) (zaa dk (zaa (d6 x hx) (zaa a2.1 (zaa (d6 x hx) (zaa (zaa (zkl _ hx') rfl) rfl))))))))))))))))) wj a0.2 (zh3 22 u _ hx') cb b4 wj wo a2.2 (b5 _) (w1 x hx) (zig _ _ _ _ _ _ _ _) (de_F (by decide)) (by rw [ex];exact z)
    ·rw [hv];unfold zcj;rw [if_neg h15,if_neg h12,if_pos hb];rfl
   ·have hb0:zak i=false:=by simpa using hb
    have hb':(i.op==13||i.op==14)=false:=hb0
    rw [hb'] at cb
    refine key (fun x _=>(lvAt A (j+1)).get x) (fun x u hx z=>?_) ?_
    ·have hx':=zzr hx
     have a0:=a1 x hx
     exact yatx (zaa (d6 x hx) (zaa n15 (zaa n12 (zaa dj (zaa (d6 x hx) (zaa a0.1 (zaa (d6 x hx) (zaa (zaa (zkl u hx') rfl) (zaa (zay h12) rfl))))))))) wj a0.2 (zh3 22 u _ hx') cb (w1 x hx) (zig _ _ _ _ _ _ _ _) (de_F (by decide)) z
    ·rw [hv];unfold zcj;rw [if_neg h15,if_neg h12,if_neg hb];rfl
theorem yath {K r j:Nat} {U:List Int} (hround:∀ (u:V6 Bool) (x:Nat),x<U.length→DA w β 2 (zot K L M A r j (u.set (U.getD x 0).toNat true) U (x+1)) R→DA w β 2 (zot K L M A r j u U x) R):∀ (n x:Nat) (u:V6 Bool),x+n=U.length →
  DA w β 2 (zot K L M A r j (setL (U.drop x) u) U U.length) R→DA w β 2 (zot K L M A r j u U x) R
 | 0,x,u,hx,z=>by
  obtain rfl:x=U.length:=by omega
  rw [List.drop_of_length_le (Nat.le_refl _)] at z
  exact z
 | n+1,x,u,hx,z=>by
  refine hround u x (by omega) (yath hround n (x+1) _ (by omega) ?_)
  rw [List.drop_eq_getElem_cons (by omega:x<U.length)] at z
  rw [List.getD_eq_getElem?_getD,List.getElem?_eq_getElem (by omega:x<U.length)]
  exact z
theorem zls {U:List Int} {x:Nat} (h:x<U.length):(AC.isI (Option.getD (U.map AC.i)[Int.toNat (x:Int)*1]? (AC.b false))&&Nat.blt (Int.toNat (x:Int)*1) (List.length (U.map AC.i)))=true∧Eff.mk (AV.c (AC.i (AC.asI (Option.getD (U.map AC.i)[Int.toNat (x:Int)*1]? (AC.b false))))) [] none=Eff.mk (AV.c (AC.i (U.getD x 0))) [] none:=by
 have hg:(U.map AC.i)[Int.toNat (x:Int)*1]?=some (.i (U.getD x 0)):=by
  rw [Int.toNat_natCast,Nat.mul_one,List.getElem?_map,List.getD_eq_getElem?_getD,List.getElem?_eq_getElem h];rfl
 rw [hg]
 refine ⟨?_,rfl⟩
 rw [Bool.and_eq_true]
 exact ⟨rfl,by rw [List.length_map,Nat.blt_eq];omega⟩
theorem yah0 {U:List Int} {x:Nat} (h:x<U.length):U.getD x 0∈U:=by
 rw [List.getD_eq_getElem?_getD,List.getElem?_eq_getElem h];exact List.getElem_mem h
theorem ybag {r j:Nat} {U:List Int} (h2:U.length≤2) (hU:∀ d,d∈U→regB d=true) (u:V6 Bool) (z:DA w β 2 (zot 39 L M A r j (setL U u) U U.length) R):DA w β 2 (zot 39 L M A r j u U 0) R:=by
 refine yath (fun u x hx z=>?_) U.length 0 u (by omega) (by rw [List.drop_zero];exact z)
 have hd:=hU _ (yah0 hx)
 have d0:decide ((x:Int)<(U.length:Int))=true:=decide_eq_true (by omega)
 exact yalh (zaa d0 (zaa d0 (zaa (zls hx).1 (zaa hd (zaa (zaa (zkl u hd) rfl) rfl))))) (zls hx).2 (zh3 22 u true hd) (by rw [zhz (by omega)]) (zu4 _ _ _ _ _ _ _ _) (de_F (by decide)) z
theorem ybas {r j:Nat} {U:List Int} (h2:U.length≤2) (hU:∀ d,d∈U→regB d=true) (u:V6 Bool) (z:DA w β 2 (zot 30 L M A r j (setL U u) U U.length) R):DA w β 2 (zot 30 L M A r j u U 0) R:=by
 refine yath (fun u x hx z=>?_) U.length 0 u (by omega) (by rw [List.drop_zero];exact z)
 have hd:=hU _ (yah0 hx)
 have d0:decide ((x:Int)<(U.length:Int))=true:=decide_eq_true (by omega)
 exact yah6 (zaa d0 (zaa d0 (zaa (zls hx).1 (zaa hd (zaa (zaa (zkl u hd) rfl) rfl))))) (zls hx).2 (zh3 22 u true hd) (by rw [zhz (by omega)]) (zt5 _ _ _ _ _ _ _ _) (de_F (by decide)) z
theorem zuf {K j:Nat} {u:V6 Bool} (hA:A.length=L.length) (hj:j<L.length):Eff.mk (AV.raw undef) [(K,splice (rcell A) (0+Int.toNat (j:Int)*6) (bcs u))] none=Eff.mk (AV.raw undef) [(K,rcell (List.set A j u))] none:=by rw [Int.toNat_natCast,Nat.zero_add,zts u (by omega)]
theorem zur {j:Nat} {u:V6 Bool} (hA:A.length=L.length) (hj:j<L.length):(decide ((j:Int)<(L.length:Int))&&(Nat.ble (0+Int.toNat (j:Int)*6+List.length (bcs u)) (List.length (rcell A))&&true&&true))=true:=by
 have h:Nat.ble (0+j*6+6) (A.length*6)=true:=by rw [Nat.ble_eq];omega
 rw [zfk,jl hj,show List.length (bcs u)=6 from rfl,Int.toNat_natCast,h];rfl
theorem yaw9 {j:Nat} (hM:L.length≤64) (hj:j<L.length):Eff.mk (AV.c (AC.i (IntKind.wrap IntKind.i64 ((j:Int) - 1)))) [] none=Eff.mk (AV.c (AC.i ((j:Int) - 1))) [] none:=by rw [zfp (by omega) (by omega)]
theorem yavg {r j:Nat} (hM:L.length≤64) (hs:DOk L.length (M,A)) (hj:j<L.length) (z:∀ r',DA w β 0 (yag7 L (zsz (M,A) j).1 (zsz (M,A) j).2 r' ((j:Int) - 1)) R):DA w β 0 (yag7 L M A r (j:Int)) R:=by
 have l1:M.length=L.length:=hs.l1
 have l2:A.length=L.length:=hs.l2
 have hr:Right (elt M j) ((L.length - 1 - j:Nat):Int):=hs.right j hj
 have hl:(elt M j).op=15∨j+1<L.length:=hs.last j hj
 have z:∀ r',DA w β 0 (yag7 L (M.set j (zec (elt M j) (zcj (elt M j) A j))) (A.set j (zfh (zec (elt M j) (zcj (elt M j) A j)) (zcj (elt M j) A j))) r' ((j:Int) - 1)) R:=z
 have eself:=zla (M:=M) (j:=j) (by omega)
 have e0:Eff.mk (AV.ag (List.take 5 (List.drop (Int.toNat (j:Int)*5) (pcell M)))) [] none=Eff.mk (AV.ag (Ins.cs (elt M j))) [] none:=by rw [Int.toNat_natCast,zet (by omega)]
 have g1:Nat.ble (Int.toNat (j:Int)*5+5) (pcell M).length=true:=by rw [zat,Nat.ble_eq];omega
 refine yax2 (i:=elt M j) (zaa (jl hj) (zaa g1 rfl)) e0 (zig _ _ _ _ _ _ 0 no6) (de_F (by decide)) (ybav hM l2 hj hr hl rfl ?_)
 have hu:=yay6 hr
 have hd:=(zbn hr).1
 have h1:1≤(elt M j).op:=by rcases zld hr with c | c | c | c | c | c | c | c <;> omega
 have cw:=zb8 (elt M j).op 1 10
 have wj:=yaw9 hM hj
 generalize hb:zcj (elt M j) A j=b at *
 generalize hi:elt M j=i at *
 have nl:∀ {p:Nat},(!decide ((p:Int)<(p:Int)))=true:=fun {p}=>by rw [decide_eq_false (by omega)];rfl
 by_cases hop:i.op≤10
 ·have b1:(decide (1≤i.op)&&decide (i.op≤10))=true:=by rw [decide_eq_true h1,decide_eq_true hop];rfl
  rw [b1] at cw
  by_cases hg:b.get i.d.toNat=true
  ·have ed:zec i b=i:=by unfold zec;rw [if_neg (by rw [hg];simp)]
   have el:zfh i b=setL (useL i) (b.set i.d.toNat false):=by unfold zfh;rw [if_pos hop,hu.same]
   rw [ed,el,eself] at z
   have hh:(decide (0≤i.d)&&decide (i.d<6)&&(AC.isB (Option.getD (bcs b)[Int.toNat i.d*1]? (AC.b false))&&Nat.blt (Int.toNat i.d*1) (List.length (bcs b))&&(!!b.get i.d.toNat&&(decide (0≤i.d)&&decide (i.d<6)&&(Nat.ble (Int.toNat i.d*1+1) (List.length (bcs b))&&true&&true)))))=true:=zaa hd (zaa (zl4 b hd) (zaa (by rw [hg];rfl) (zaa hd (zaa (zaa (zkl b hd) rfl) rfl))))
   by_cases hn:useL i=[]
   ·rw [hn] at z
    exact yap0 hh cw (zpr b hd) (zh3 22 b false hd) (hu.nil hn) (zxy _ _ _ _ _ _) (de_F (by decide)) (zqy (zur l2 hj) (zuf l2 hj) wj (zjt _ _ _ _ _) (de_F (by decide)) (z r))
   ·exact yaoz hh cw (zpr b hd) (zh3 22 b false hd) (hu.some hn 39) (zu4 _ _ _ _ _ _ _ 0) (de_F (by decide)) (ybag hu.le hu.reg _ (yakc (zaa nl (zur l2 hj)) (zuf l2 hj) wj (zjt _ _ _ _ _) (de_F (by decide)) (z r)))
  ·have hg':b.get i.d.toNat=false:=by simpa using hg
   have ed:zec i b=onI:=by unfold zec;rw [if_pos (by rw [hg',decide_eq_true hop];rfl)]
   have el:zfh onI b=b:=rfl
   rw [ed,el] at z
   have e3:Eff.mk (AV.raw undef) [(4,splice (pcell M) (Int.toNat (j:Int)*5) (Ins.cs onI))] none=Eff.mk (AV.raw undef) [(4,pcell (List.set M j onI))] none:=by rw [Int.toNat_natCast,zjg _ (by omega)]
   have e4:Eff.mk (AV.ag (List.take 5 (List.drop (Int.toNat (j:Int)*5) (pcell (List.set M j onI))))) [] none=Eff.mk (AV.ag (Ins.cs onI)) [] none:=by rw [Int.toNat_natCast,zet (by rw [List.length_set];omega),znd (by omega),if_pos rfl]
   have g2:Nat.ble (Int.toNat (j:Int)*5+5) (pcell (M.set j onI)).length=true:=by rw [zat,List.length_set,Nat.ble_eq];omega
   exact yart (zaa hd (zaa (zl4 b hd) (zaa (by rw [hg'];rfl) (zaa (jl hj) (zaa (zaa g1 rfl) (zaa (jl hj) (zaa g2 rfl))))))) cw (zpr b hd) zjx e3 e4 zq0 (zxy _ _ _ _ _ _) (de_F (by decide)) (zqy (zur l2 hj) (zuf l2 hj) wj (zjt _ _ _ _ _) (de_F (by decide)) (z 0))
 ·have b1:(decide (1≤i.op)&&decide (i.op≤10))=false:=by rw [decide_eq_false hop,Bool.and_false]
  rw [b1] at cw
  have ed:zec i b=i:=by unfold zec;rw [if_neg (by rw [decide_eq_false hop];simp)]
  have el:zfh i b=setL (useL i) b:=by unfold zfh;rw [if_neg hop,hu.same]
  rw [ed,el,eself] at z
  by_cases hn:useL i=[]
  ·rw [hn] at z
   exact yal4 cw (hu.nil hn) (zxy _ _ _ _ _ _) (de_F (by decide)) (zqy (zur l2 hj) (zuf l2 hj) wj (zjt _ _ _ _ _) (de_F (by decide)) (z r))
  ·exact yal2 cw (hu.some hn 30) (zt5 _ _ _ _ _ _ _ 0) (de_F (by decide)) (ybas hu.le hu.reg _ (yaig (zaa nl (zur l2 hj)) (zuf l2 hj) wj (zjt _ _ _ _ _) (de_F (by decide)) (z r)))
end
theorem yap9 {L:List Ins} (hP:RightP L) {w:World} {β:Bs}:∀ (n k r:Nat),k+n=L.length →
  DA w β 0 (yag7 L (runD L ((List.range k).map fun j=>L.length - 1 - j)).1 (runD L ((List.range k).map fun j=>L.length - 1 - j)).2 r ((n:Int) - 1)) (REff w β (newE 4 L.length (ridR L).1))
 | 0,k,r,hk=>by
  obtain rfl:k=L.length:=by omega
  rw [yaaj]
  exact yaa6 (yamd (yabr _ r (by decide))) fun _ _ h=>zme h
 | n+1,k,r,hk=>by
  have hs:=yaiq hP ((List.range k).map fun j=>L.length - 1 - j) (fun x hx=>by obtain ⟨y,hy,rfl⟩:=List.mem_map.1 hx;have:=List.mem_range.1 hy;omega)
  have next:=fun r'=>yap9 hP (w:=w) (β:=β) n (k+1) r' (by omega)
  rw [List.range_succ,List.map_append,List.map_cons,List.map_nil,zmy] at next
  have e:((n+1:Nat):Int) - 1=(n:Int):=by omega
  have e2:L.length - 1 - k=n:=by omega
  rw [e2] at next
  rw [e]
  generalize runD L ((List.range k).map fun j=>L.length - 1 - j)=s at *
  obtain ⟨M,A⟩:=s
  exact yavg hP.le hs (by omega) next
theorem yagm {L:List Ins} {c:Nat} (hP:RightP L) {K:Nat} (hK:K≠0):CallOK Tryz.prog ⟨15,[.c (.sl 0 0 L.length c)],pH L,newE K L.length (ze3 L)⟩:=by
 have hpos:=hP.pos
 have hle:=hP.le
 refine yajw (a:=4) ?_ (by decide) hK
 by_cases h0:(zar L).trap=0
 ·have e:ze3 L=(ridR L).1:=by unfold ze3;rw [if_pos h0]
  rw [e]
  refine zcu Tryz.func15 rfl rfl rfl (zaj L) (by decide) rfl (zaj _) fun w β _=>yan4 (zaa (yaob hP) ?_) yaov (zit hP h0 7 (by decide)) ?_ (by rw [zfp (by omega) (by omega)]) (zjt _ _ _ _ _) (fun _ h=>Nat.lt_of_lt_of_le h (by decide)) (yap9 hP L.length 0 5 (by omega))
  ·simp;omega
  ·rw [Int.toNat_natCast]
   have:=zpk L.length
   unfold bcs no6 at this
   rw [this]
   rfl
 ·have e:ze3 L=L:=by unfold ze3;rw [if_neg h0]
  rw [e]
  exact zjd (r:=5) (zcu Tryz.func15 rfl rfl rfl (zaj L) (by decide) rfl (zaj _) fun w β hk=>yaro (zaa (yaob hP) (zaa (by simpa using h0) rfl)) yaov (zhm hP 7 (by decide)) hk)
section
variable {L L2 L3 L4:List Ins} {c p n q:Nat} {w:World} {β:Bs} {S S2 S3:List St} {s s1:ByteArray} {x y:BitVec 64} {r1:Outc} {e f tr t1 n1:Int}
theorem yaqm (c0:CO 61 [.c (.sl 0 0 p c),.c (.f 62 [])] [(0,Ent.mk false (pcell L) 0)] (Eff.mk (.tu [.c (.sx 4 p),.c (.i 0)]) [] (some (4,Ent.mk true (pcell L2) 0)))) (hk:EKeys n [] (some 4) ⟨.tu [.c (.sx 4 p),.c (.i 0)],[],some (4,Ent.mk true (pcell L2) 0)⟩) :
  BO 25 Tryz.f25 (cx w β n []) [.c (.sl 0 0 p c)] [(0,Ent.mk false (pcell L) 0)] 1 (REff w β ⟨.tu [.c (.sx 4 p),.c (.i 0)],[],some (4,Ent.mk true (pcell L2) 0)⟩) :=
 zah [] (some 4) [] ([]) [] Tryz.func25 hk (by kernel_rfl) rfl (zab c0 zae)
theorem yaqc (c0:CO 61 [.c (.sl 0 0 p c),.c (.f 64 [])] [(0,Ent.mk false (pcell L) 0)] (Eff.mk (.tu [.c (.sx 4 p),.c (.i 0)]) [] (some (4,Ent.mk true (pcell L2) 0)))) (hk:EKeys n [] (some 4) ⟨.tu [.c (.sx 4 p),.c (.i 0)],[],some (4,Ent.mk true (pcell L2) 0)⟩) :
  BO 26 Tryz.f26 (cx w β n []) [.c (.sl 0 0 p c)] [(0,Ent.mk false (pcell L) 0)] 1 (REff w β ⟨.tu [.c (.sx 4 p),.c (.i 0)],[],some (4,Ent.mk true (pcell L2) 0)⟩) :=
 zah [] (some 4) [] ([]) [] Tryz.func26 hk (by kernel_rfl) rfl (zab c0 zae)
theorem yba4 (c0:CO 65 [.c (.sx 0 p)] [(0,Ent.mk true (pcell L) 5)] (Eff.mk (.tu []) [(0,pcell L2)] none)) (hk:EKeys n [0] none ⟨.tu [],[(0,pcell L2)],none⟩) :
  BO 64 Tryz.f64 (cx w β n [0]) [.c (.sx 0 p),.c (.sl 1 0 p p)] [(0,Ent.mk true (pcell L) 5),(1,Ent.mk false (scell S) 0)] 2 (REff w β ⟨.tu [],[(0,pcell L2)],none⟩) :=
 zah [0] none [] ([]) [] Tryz.func64 hk (by kernel_rfl) rfl (zab c0 zae)
end
end Go.Proofs.YtkigmocchaikgabGreatDoor
