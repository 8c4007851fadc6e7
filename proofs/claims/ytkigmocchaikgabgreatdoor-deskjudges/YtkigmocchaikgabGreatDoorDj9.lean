import Derived.Test.YtkigmocchaikgabGreatDoorDj7
import Derived.Test.YtkigmocchaikgabGreatDoorDj8
import Derived.Test.YtkigmocchaikgabGreatDoorDj6
import Derived.Test.YtkigmocchaikgabGreatDoorDj2
import Derived.Test.YtkigmocchaikgabGreatDoorProg
import Derived.Test.YtkigmocchaikgabGreatDoorDj4
import Derived.Test.YtkigmocchaikgabGreatDoorDj5
/- The contract of flow.Step, and of what it calls. -/
namespace Go.Proofs.YtkigmocchaikgabGreatDoor
open Go.RowKit
theorem yayo (a:Ins):(zan [a,zhb]==0)=(zcl a&&(inB a 1&&zbd a)):=by
 have e1:zcl zhb=true:=rfl
 have e2:inB zhb 0=true:=rfl
 have e3:zbd zhb=true:=rfl
 have e4:zbz [a,zhb]=15:=rfl
 cases h1:zcl a <;> cases h2:inB a 1 <;> cases h3:zbd a <;> simp [zan,List.all,zfk,h1,h2,h3,e1,e2,e3,e4]
theorem yayd {i:Ins} {n n':Int} (h:i.op≠12) (h2:i.op≠13) (h3:i.op≠14):inB i n=inB i n':=by
 unfold inB
 by_cases c:i.op=10∨i.op=11
 ·rw [if_pos c,if_pos c]
 ·have h4:¬ (i.op=13∨i.op=14):=by omega
  simp only [if_neg c,if_neg h,if_neg h4]
theorem yal4 {op d s of:Int} {im:BitVec 64} (ho:op=12∨op=13∨op=14):zft ⟨op,d,s,im,of⟩=((zan [⟨op,d,s,im,0⟩,zhb]==0)&&zcj of 65):=by
 rw [yayo]
 unfold zft
 have eb:zbd ⟨op,d,s,im,of⟩=zbd ⟨op,d,s,im,0⟩:=by
  unfold zbd
  simp only
  rcases ho with rfl | rfl | rfl <;> rfl
 have ek:zcl ⟨op,d,s,im,of⟩=zcl ⟨op,d,s,im,0⟩:=rfl
 have ei:inB ⟨op,d,s,im,of⟩ 65=(inB ⟨op,d,s,im,0⟩ 1&&zcj of 65):=by
  have g:zcj 0 1=true:=rfl
  unfold inB
  simp only
  rcases ho with rfl | rfl | rfl
  ·simp [g]
  ·simp [g]
  ·simp [g]
 rw [eb,ek,ei]
 cases zcl ⟨op,d,s,im,0⟩ <;> cases inB ⟨op,d,s,im,0⟩ 1 <;> cases zbd ⟨op,d,s,im,0⟩ <;> cases zcj of 65 <;> rfl
theorem yazc (i:Ins):Ok 55 [.ag i.cs] (.c (.b (zft i))):=by
 have out:∀ {b:Bool},zft i=b→AV.c (AC.b b)=AV.c (AC.b (zft i)):=fun h=>by rw [h]
 by_cases ho:i.op=12∨i.op=13∨i.op=14
 ·have hf:=yal4 (op:=i.op) (d:=i.d) (s:=i.s) (of:=i.of) (im:=i.im) ho
  have hf:zft i=((zan [⟨i.op,i.d,i.s,i.im,0⟩,zhb]==0)&&zcj i.of 65):=hf
  have low:decide (i.of<0)=true→zft i=false:=fun h=>by
   have:i.of<0:=of_decide_eq_true h
   rw [hf,show zcj i.of 65=false by unfold zcj;rw [decide_eq_false (by omega)];rfl];simp
  have high:decide (64<i.of)=true→zft i=false:=fun h=>by
   have:64<i.of:=of_decide_eq_true h
   rw [hf,show zcj i.of 65=false by unfold zcj;rw [decide_eq_false (by omega:¬ i.of<65)];simp];simp
  have mid:decide (i.of<0)=false→decide (64<i.of)=false→zft i=(zan [⟨i.op,i.d,i.s,i.im,0⟩,zhb]==0):=fun h k=>by
   have h:¬ i.of<0:=of_decide_eq_false h
   have k:¬ 64<i.of:=of_decide_eq_false k
   rw [hf,show zcj i.of 65=true by unfold zcj;rw [decide_eq_true (by omega:0≤i.of),decide_eq_true (by omega:i.of<65)];rfl];simp
  have call:∀ K,CallOK Tryz.prog ⟨19,[.c (.sl K 0 2 2)],[(K,⟨true,pcell [⟨i.op,i.d,i.s,i.im,0⟩,zhb],0⟩)],⟨.c (.i (zan [⟨i.op,i.d,i.s,i.im,0⟩,zhb])),[],none⟩⟩:=fun K=>by
   refine p_at (zjk [⟨i.op,i.d,i.s,i.im,0⟩,zhb] 2) K true ?_ rfl
   show [AV.c (AC.sl (swp 0 K 0) 0 2 2)]=_
   rfl
  exact yajb (e:=zan [⟨i.op,i.d,i.s,i.im,0⟩,zhb])
   (fun a b=>out (low b)) (fun a b c=>out (high c)) (fun a b c=>⟨call 18,out (mid b c)⟩)
   (fun _ a b=>out (low b)) (fun _ a b c=>out (high c)) (fun _ a b c=>⟨call 20,out (mid b c)⟩)
   (fun _ _ a b=>out (low b)) (fun _ _ a b c=>out (high c)) (fun _ _ a b c=>⟨call 22,out (mid b c)⟩)
   (fun a b c=>absurd ho (by simp at a b c;omega))
 ·have hf:zft i=(zan [i,zhb]==0):=by
   rw [yayo]
   unfold zft
   rw [yayd (n:=65) (n':=1) (by omega) (by omega) (by omega)]
  have call:∀ K,CallOK Tryz.prog ⟨19,[.c (.sl K 0 2 2)],[(K,⟨true,pcell [i,zhb],0⟩)],⟨.c (.i (zan [i,zhb])),[],none⟩⟩:=fun K=>by
   refine p_at (zjk [i,zhb] 2) K true ?_ rfl
   show [AV.c (AC.sl (swp 0 K 0) 0 2 2)]=_
   rfl
  have no:∀ {P:Prop},i.op=12∨i.op=13∨i.op=14→P:=fun h=>absurd h ho
  exact yajb (e:=zan [i,zhb])
   (fun a b=>no (Or.inl (by simpa using a))) (fun a b c=>no (Or.inl (by simpa using a))) (fun a b c=>no (Or.inl (by simpa using a)))
   (fun _ a b=>no (Or.inr (Or.inl (by simpa using a)))) (fun _ a b c=>no (Or.inr (Or.inl (by simpa using a)))) (fun _ a b c=>no (Or.inr (Or.inl (by simpa using a))))
   (fun _ _ a b=>no (Or.inr (Or.inr (by simpa using a)))) (fun _ _ a b c=>no (Or.inr (Or.inr (by simpa using a)))) (fun _ _ a b c=>no (Or.inr (Or.inr (by simpa using a))))
   (fun a b c=>⟨call 12,out hf⟩)
def farE (i:Ins) (a:V4):Int:=if farS i a then 2 else 0
theorem zuc {i:Ins} {a:V4} (ha:a.ok=true):Ok 100 [.ag i.cs,.ag a.cs] (.c (.i (farE i a))):=by
 have h1:=yaax (BitVec.ofInt 64 i.of)
 have h2:=zp8 (op:=2) (by decide) ha (V4.of_ok (BitVec.ofInt 64 i.of))
 refine yaee (b:=V4.of (BitVec.ofInt 64 i.of)) (c:=V4.two 2 a (V4.of (BitVec.ofInt 64 i.of))) (fun h=>⟨h1,h2,?_⟩) (fun h=>⟨h1,h2,?_⟩)
 ·unfold farE farS;rw [h];rfl
 ·unfold farE farS;rw [h];rfl
theorem zbn {i:Ins} {t:St} (h:srcB i.s=true):Ok 107 [.ag i.cs,.ag t.cs] (.ag (srcV i t).cs):=by
 unfold srcV
 refine zzi (b:=V4.of i.im) (fun a=>⟨yaax _,?_⟩) (fun a=>?_)
 ·rw [if_pos (by simpa using a)]
 ·have a:¬ i.s=-1:=by simpa using a
  have hs:=(srcB_iff.1 h).resolve_left a
  exact ⟨hs,zbe t hs,zax t hs,by rw [if_neg a]⟩
section
variable {i:Ins} {t:St}
theorem yab2 {x:V4×V4×Bool} (h:(!x.2.2)=true):AV.ag St.z.cs=AV.ag (zeo i t x).cs:=by
 unfold zeo;rw [if_neg (by simpa using h)]
theorem yaby {x:V4×V4×Bool} (h:(!x.2.2)=false) (k:(i.s != -1)=true):AV.ag ((t.wth i.d.toNat x.1).wth i.s.toNat x.2.1).cs=AV.ag (zeo i t x).cs:=by
 unfold zeo;rw [if_pos (by simpa using h),if_neg (by simpa using k)]
theorem yaaq {x:V4×V4×Bool} (h:(!x.2.2)=false) (k:(i.s != -1)=false):AV.ag (t.wth i.d.toNat x.1).cs=AV.ag (zeo i t x).cs:=by
 unfold zeo;rw [if_pos (by simpa using h),if_pos (by simpa using k)]
theorem zz9 (hs:srcB i.s=true) (k:(i.s != -1)=true):regB i.s=true:=(srcB_iff.1 hs).resolve_left (by simpa using k)
theorem yade (hd:regB i.d=true) (hs:srcB i.s=true) (hv:(t.r.get i.d.toNat).ok=true) (hw:(srcV i t).ok=true):Ok 102 [.ag i.cs,.ag t.cs,.c (.f 103 [])] (.ag (zeo i t ((t.r.get i.d.toNat).other (srcV i t))).cs) :=
 zxd (b:=srcV i t) (x:=((t.r.get i.d.toNat).other (srcV i t)).1) (y:=((t.r.get i.d.toNat).other (srcV i t)).2.1) (q:=((t.r.get i.d.toNat).other (srcV i t)).2.2) (t1:=t.wth i.d.toNat ((t.r.get i.d.toNat).other (srcV i t)).1) (t2:=(t.wth i.d.toNat ((t.r.get i.d.toNat).other (srcV i t)).1).wth i.s.toNat ((t.r.get i.d.toNat).other (srcV i t)).2.1)
  (fun a=>⟨hd,zbe t hd,zax t hd,zbn hs,zgs hv hw,yab2 a⟩) (fun a k=>⟨hd,zbe t hd,zax t hd,zbn hs,zgs hv hw,zb9 _ hd,zb9 _ (zz9 hs k),yaby a k⟩) (fun a k=>⟨hd,zbe t hd,zax t hd,zbn hs,zgs hv hw,zb9 _ hd,yaaq a k⟩)
theorem yaev (hd:regB i.d=true) (hs:srcB i.s=true) (hv:(t.r.get i.d.toNat).ok=true) (hw:(srcV i t).ok=true):Ok 102 [.ag i.cs,.ag t.cs,.c (.f 104 [])] (.ag (zeo i t ((t.r.get i.d.toNat).equal (srcV i t))).cs) :=
 zze (b:=srcV i t) (x:=((t.r.get i.d.toNat).equal (srcV i t)).1) (y:=((t.r.get i.d.toNat).equal (srcV i t)).2.1) (q:=((t.r.get i.d.toNat).equal (srcV i t)).2.2) (t1:=t.wth i.d.toNat ((t.r.get i.d.toNat).equal (srcV i t)).1) (t2:=(t.wth i.d.toNat ((t.r.get i.d.toNat).equal (srcV i t)).1).wth i.s.toNat ((t.r.get i.d.toNat).equal (srcV i t)).2.1)
  (fun a=>⟨hd,zbe t hd,zax t hd,zbn hs,zgt hv hw,yab2 a⟩) (fun a k=>⟨hd,zbe t hd,zax t hd,zbn hs,zgt hv hw,zb9 _ hd,zb9 _ (zz9 hs k),yaby a k⟩) (fun a k=>⟨hd,zbe t hd,zax t hd,zbn hs,zgt hv hw,zb9 _ hd,yaaq a k⟩)
theorem yad1 (hd:regB i.d=true) (hs:srcB i.s=true) (hv:(t.r.get i.d.toNat).ok=true) (hw:(srcV i t).ok=true):Ok 102 [.ag i.cs,.ag t.cs,.c (.f 105 [])] (.ag (zeo i t ((t.r.get i.d.toNat).notLess (srcV i t))).cs) :=
 zy5 (b:=srcV i t) (x:=((t.r.get i.d.toNat).notLess (srcV i t)).1) (y:=((t.r.get i.d.toNat).notLess (srcV i t)).2.1) (q:=((t.r.get i.d.toNat).notLess (srcV i t)).2.2) (t1:=t.wth i.d.toNat ((t.r.get i.d.toNat).notLess (srcV i t)).1) (t2:=(t.wth i.d.toNat ((t.r.get i.d.toNat).notLess (srcV i t)).1).wth i.s.toNat ((t.r.get i.d.toNat).notLess (srcV i t)).2.1)
  (fun a=>⟨hd,zbe t hd,zax t hd,zbn hs,zfd hv hw,yab2 a⟩) (fun a k=>⟨hd,zbe t hd,zax t hd,zbn hs,zfd hv hw,zb9 _ hd,zb9 _ (zz9 hs k),yaby a k⟩) (fun a k=>⟨hd,zbe t hd,zax t hd,zbn hs,zfd hv hw,zb9 _ hd,yaaq a k⟩)
theorem yafk (hd:regB i.d=true) (hs:srcB i.s=true) (hv:(t.r.get i.d.toNat).ok=true) (hw:(srcV i t).ok=true):Ok 102 [.ag i.cs,.ag t.cs,.c (.f 106 [])] (.ag (zeo i t ((t.r.get i.d.toNat).less (srcV i t))).cs) :=
 zxt (b:=srcV i t) (x:=((t.r.get i.d.toNat).less (srcV i t)).1) (y:=((t.r.get i.d.toNat).less (srcV i t)).2.1) (q:=((t.r.get i.d.toNat).less (srcV i t)).2.2) (t1:=t.wth i.d.toNat ((t.r.get i.d.toNat).less (srcV i t)).1) (t2:=(t.wth i.d.toNat ((t.r.get i.d.toNat).less (srcV i t)).1).wth i.s.toNat ((t.r.get i.d.toNat).less (srcV i t)).2.1)
  (fun a=>⟨hd,zbe t hd,zax t hd,zbn hs,zii hv hw,yab2 a⟩) (fun a k=>⟨hd,zbe t hd,zax t hd,zbn hs,zii hv hw,zb9 _ hd,zb9 _ (zz9 hs k),yaby a k⟩) (fun a k=>⟨hd,zbe t hd,zax t hd,zbn hs,zii hv hw,zb9 _ hd,yaaq a k⟩)
end
abbrev ftKn (i:Ins) (t:St) (u:V6 Bool) (j:Int):Kn:=⟨[(2,.c (.w 0)),(3,.c (.w 1)),(8,.ag (bcs u)),(9,.c (.i j))],[(0,⟨true,i.cs,0⟩),(1,⟨true,t.cs,0⟩)],2⟩
theorem yaqt {i:Ins} {t:St} {u:V6 Bool} {w:World} {β:Bs} {E:Eff}:∀ n,n≤6→(zcv (fun j=>u.get j&&!t.s.get j) n=true→⟨.c (.i 1),[],none⟩=E) →
  (zcv (fun j=>u.get j&&!t.s.get j) n=false→ART Tryz.prog 57 (cx w β 0 []) Tryz.f57.ntmps (zdm Tryz.f57 0) (ftKn i t u 6) (REff w β E)) →
  ART Tryz.prog 57 (cx w β 0 []) Tryz.f57.ntmps (zdm Tryz.f57 0) (ftKn i t u (6 - n:Nat)) (REff w β E)
 | 0,_,_,hz=>hz rfl
 | n+1,hn,hy,hz=>by
  have hj:=zm5 hn
  have ej:=zn0 hn
  have f0:=zwg hj
  have f1:=b_ok u hj
  have f2:(decide (0≤((6 - (n+1):Nat):Int))&&decide (((6 - (n+1):Nat):Int)<6))=true:=hj
  have f3:=zx1 t hj
  have f4:=zwu u hj
  have f5:=znd t hj
  have yes:(u.get (5 - n)&&!t.s.get (5 - n))=true→(⟨.c (.i 1),[],none⟩:Eff)=E:=fun h=>hy (by rw [zcv,h];rfl)
  have next:(u.get (5 - n)&&!t.s.get (5 - n))=false→ART Tryz.prog 57 (cx w β 0 []) Tryz.f57.ntmps (zdm Tryz.f57 0) (ftKn i t u (IntKind.wrap IntKind.i64 (((6 - (n+1):Nat):Int)+1))) (REff w β E):=by
   intro hb
   rw [zjg hn]
   refine yaqt n (by omega) (fun h=>hy ?_) (fun h=>hz ?_)
   ·rw [zcv,hb,h];rfl
   ·rw [zcv,hb,h];rfl
  refine zy9 (by omega) (fun a b=>⟨f0,f1,f2,f3,f4,f5,yes ?_⟩) (fun a b=>⟨f0,f1,f2,f3,f4,f5,zc8 rfl,next ?_⟩) (fun a=>⟨f0,f1,f4,zc8 rfl,next ?_⟩)
  ·rw [ej] at a b;rw [a,b];rfl
  ·rw [ej] at a b;rw [a,b];rfl
  ·rw [ej] at a;rw [a];rfl
theorem yam1 {i:Ins} {t:St} (hr:Right i 65) (ht:t.Ok):Ok 57 [.ag i.cs,.ag t.cs] (.c (.i (zek i t))):=by
 refine zk7 Tryz.func57 rfl rfl rfl rfl fun w β=>?_
 have hg:=zbo hr
 refine yaoq (u:=zaw i) (zuu (Or.inr (Or.inr hg))) (zc8 rfl) (fun _ h=>absurd h (by simp [cx])) (yaqt 6 (Nat.le_refl 6) (fun h=>?_) (fun h=>?_))
 ·rw [← zka] at h
  unfold zek;rw [if_pos h]
 ·rw [← zka] at h
  unfold zek
  rw [if_neg (by rw [h];decide)]
  by_cases c1:i.op=10
  ·obtain ⟨_,hs,_⟩:=zbv hr (Or.inl c1)
   have hok:=ht.set _ (zbp hs) (zrt h _ (zbp hs) (yaxh (by omega) (by omega) hs))
   rw [if_pos c1]
   exact zma (e:=farE i (t.r.get i.s.toNat)) (fun _=>⟨hs,zbe t hs,zax t hs,zuc hok,rfl⟩) (fun a _=>absurd c1 (by simpa using a)) (fun a _=>absurd c1 (by simpa using a))
  rw [if_neg c1]
  by_cases c2:i.op=11
  ·have hok:=zdx hr ht h (by omega) (by omega) (by omega) c1
   rw [if_pos c2]
   exact zma (e:=farE i (t.r.get i.d.toNat)) (fun a=>absurd (show i.op=10 by simpa using a) c1) (fun _ _=>⟨hg.1,zbe t hg.1,zax t hg.1,zuc hok,rfl⟩) (fun _ a=>absurd c2 (by simpa using a))
  rw [if_neg c2]
  exact zma (e:=0) (fun a=>absurd (show i.op=10 by simpa using a) c1) (fun _ a=>absurd (show i.op=11 by simpa using a) c2) (fun _ _=>rfl)
theorem zay {i:Ins} {k:Int} (h:i.op≠k):(!i.op==k)=true:=by simpa using h
theorem zfe {i:Ins} {k:Int} (h:i.op=k):(i.op==k)=true:=by simpa using h
theorem yahf {x:BitVec 64} (h:zc0 x=true):nv x=1∨nv x=2∨nv x=4∨nv x=8 :=
 yagi (P:=fun x=>nv x=1∨nv x=2∨nv x=4∨nv x=8) h (Or.inl rfl) (Or.inr (Or.inl rfl)) (Or.inr (Or.inr (Or.inl rfl))) (Or.inr (Or.inr (Or.inr rfl)))
theorem yawv {i:Ins} {t:St} (hr:Right i 65) (ht:t.Ok) (h0:zek i t=0):Ok 58 [.ag i.cs,.ag t.cs] (.tu [.ag (goS i t).1.cs,.ag (goS i t).2.cs]):=by
 have hg:=zbo hr
 obtain ⟨hu,_,_⟩:=zux h0
 rcases zkw hr with c | c | c | c | c | c | c | c
 ·obtain ⟨_,_,hz,_⟩:=zbv hr (Or.inl c)
  rw [zso c]
  have hn:=yahf hz
  exact yaup (zaa (zfe c) rfl) (by rw [zfj (by omega) (by omega)]) (ztd hn) (zb9 _ hg.1)
 ·rw [zne c]
  exact yau2 (zaa (zay (by omega)) (zaa (zfe c) rfl))
 ·rw [zsy c]
  exact yat3 (zaa (zay (by omega)) (zaa (zay (by omega)) (zaa (zfe c) rfl)))
 ·have hs:=zeu hr ht hu (by omega) (by omega)
  have hv:=zdx hr ht hu (by omega) (by omega) (by omega) (by omega)
  rw [yabw c]
  exact yan2 (zaa (zay (by omega)) (zaa (zay (by omega)) (zaa (zay (by omega)) (zaa (zfe c) rfl)))) (yade hg.1 hg.2 hv hs) (yaev hg.1 hg.2 hv hs)
 ·have hs:=zeu hr ht hu (by omega) (by omega)
  have hv:=zdx hr ht hu (by omega) (by omega) (by omega) (by omega)
  rw [yaab c]
  exact yaox (zaa (zay (by omega)) (zaa (zay (by omega)) (zaa (zay (by omega)) (zaa (zay (by omega)) (zaa (zfe c) rfl))))) (yad1 hg.1 hg.2 hv hs) (yafk hg.1 hg.2 hv hs)
 ·rw [zq9 c]
  exact yasg (zaa (zay (by omega)) (zaa (zay (by omega)) (zaa (zay (by omega)) (zaa (zay (by omega)) (zaa (zay (by omega)) (zaa (zfe c) rfl))))))
 ·rw [zs4 c]
  exact yauf (zaa (zay (by omega)) (zaa (zay (by omega)) (zaa (zay (by omega)) (zaa (zay (by omega)) (zaa (zay (by omega)) (zaa (zay (by omega)) (zaa (zfe c) rfl))))))) (zbn hg.2) (zb9 _ hg.1)
 ·have hs:=zeu hr ht hu (by omega) (by omega)
  have hv:=zdx hr ht hu (by omega) (by omega) (by omega) (by omega)
  rw [zq3 c]
  exact yavd (zaa (zay (by omega)) (zaa (zay (by omega)) (zaa (zay (by omega)) (zaa (zay (by omega)) (zaa (zay (by omega)) (zaa (zay (by omega)) (zaa (zay (by omega)) (zaa hg.1 (zaa (zbe t hg.1) rfl))))))))) (zax t hg.1) (zbn hg.2) (zp8 (by omega) hv hs) (zb9 _ hg.1)
theorem yamk (i:Ins) (t:St):Ok 21 [.ag i.cs,.ag t.cs] (.tu [.ag (zor i t).1.cs,.ag (zor i t).2.1.cs,.c (.i (zor i t).2.2),.c (.i (yaex i t))]):=by
 have h1:=yazc i
 have h2:=zde t
 have bad:(zft i&&t.ok)=false→AV.tu [AT.ag (St.cs St.z),AT.ag (St.cs St.z),AT.c (AC.i 0),AT.c (AC.i 1)]=.tu [.ag (zor i t).1.cs,.ag (zor i t).2.1.cs,.c (.i (zor i t).2.2),.c (.i (yaex i t))]:=fun h=>by
  unfold zor yaex;rw [h];rfl
 by_cases hb:(zft i&&t.ok)=true
 ·have hb':=hb
  rw [Bool.and_eq_true] at hb'
  have hr:=fine_right.1 hb'.1
  have ht:=St.ok_iff.1 hb'.2
  have h3:=yam1 hr ht
  have eA:zor i t=zag i t:=by unfold zor;rw [if_pos hb]
  have eE:yaex i t=0:=by unfold yaex;rw [if_pos hb]
  rw [eA,eE]
  unfold zag
  by_cases hl:t.live=true
  ·rw [if_pos hl]
   by_cases h0:zek i t=0
   ·rw [if_pos h0]
    refine zix (tr:=zek i t) (fun a=>?_) (fun _ a=>?_) (fun _ _ a=>?_) (fun _ _ _ a=>?_) (fun _ _ _ _=>⟨h1,h2,h3,yawv hr ht h0,rfl⟩)
    ·rw [hb'.1] at a;cases a
    ·rw [zqo,hb'.2] at a;cases a
    ·rw [hl] at a;cases a
    ·rw [h0] at a;cases a
   ·rw [if_neg h0]
    refine zix (t1:=t) (t2:=t) (tr:=zek i t) (fun a=>?_) (fun _ a=>?_) (fun _ _ a=>?_) (fun _ _ _ a=>⟨h1,h2,h3,rfl⟩) (fun _ _ _ a=>?_)
    ·rw [hb'.1] at a;cases a
    ·rw [zqo,hb'.2] at a;cases a
    ·rw [hl] at a;cases a
    ·exact absurd (by simpa using a) h0
  ·rw [if_neg hl]
   refine zix (t1:=t) (t2:=t) (tr:=zek i t) (fun a=>?_) (fun _ a=>?_) (fun _ _ _=>⟨h1,h2,rfl⟩) (fun _ _ a=>?_) (fun _ _ a=>?_)
   ·rw [hb'.1] at a;cases a
   ·rw [zqo,hb'.2] at a;cases a
   ·exact absurd (by simpa using a) hl
   ·exact absurd (by simpa using a) hl
 ·have hb:(zft i&&t.ok)=false:=by simpa using hb
  refine zix (t1:=t) (t2:=t) (tr:=0) (fun a=>⟨h1,bad hb⟩) (fun _ a=>⟨h1,h2,bad hb⟩) (fun a b=>?_) (fun a b=>?_) (fun a b=>?_)
  all_goals
   rw [zqo] at b
   rw [show zft i=true by simpa using a,show t.ok=true by simpa using b] at hb
   cases hb
theorem zfa {t:St} {d:Int} (a:V4) (h:regB d=true):Ok 82 [.ag t.cs,.c (.i d),.ag a.cs] (.ag (t.wth d.toNat a).cs):=by
 have h1:=regB_iff.1 h
 have h2:=zbp h
 refine yaoc ?_ ?_ ?_
 ·simp [h1.1,h1.2,yaj4,V4.cs];omega
 ·rw [zry h]
 ·rw [zss a h];rfl
theorem ze6 {i:Ins} {t:St} (x:V4×V4×Bool) (hd:regB i.d=true) (hs:srcB i.s=true):Ok 79 [.ag i.cs,.ag t.cs,.ag x.1.cs,.ag x.2.1.cs,.c (.b x.2.2)] (.ag (zeo i t x).cs):=by
 refine yago (t1:=t.wth i.d.toNat x.1) (t2:=(t.wth i.d.toNat x.1).wth i.s.toNat x.2.1) (fun a=>?_) (fun a b=>?_) (fun a b=>?_)
 ·unfold zeo;rw [if_neg (by simpa using a)]
 ·have hn:i.s≠-1:=by simpa using b
  refine ⟨zfa _ hd,zfa _ ((srcB_iff.1 hs).resolve_left hn),?_⟩
  unfold zeo;rw [if_pos (by simpa using a),if_neg hn]
 ·have hn:i.s=-1:=by simpa using b
  refine ⟨zfa _ hd,?_⟩
  unfold zeo;rw [if_pos (by simpa using a),if_pos hn]
theorem zmu {u s:V6 Bool}:∀ d,d<6→lacks (u.set d true) s=(lacks u s||!s.get d) :=
 lt6 (by cases h:s.x0 <;> simp [lacks,V6.set,V6.get,h]) (by cases h:s.x1 <;> simp [lacks,V6.set,V6.get,h]) (by cases h:s.x2 <;> simp [lacks,V6.set,V6.get,h]) (by cases h:s.x3 <;> simp [lacks,V6.set,V6.get,h]) (by cases h:s.x4 <;> simp [lacks,V6.set,V6.get,h]) (by cases h:s.x5 <;> simp [lacks,V6.set,V6.get,h])
theorem yakq (s:V6 Bool):lacks no6 s=false:=rfl
def zzh (Us:List Int) (t:St):Bool:=Us.any fun d=>!t.s.get d.toNat
def stE (i:Ins) (t:St):Eff:=⟨.tu [.ag (zag i t).1.cs,.ag (zag i t).2.1.cs,.c (.i (zag i t).2.2)],[],none⟩
theorem yanp {i:Ins} {t:St} (hl:t.live=true) (h:lacks (zaw i) t.s=true):stE i t=⟨.tu [.ag St.z.cs,.ag St.z.cs,.c (.i 1)],[],none⟩:=by
 have e:zek i t=1:=by unfold zek;rw [if_pos h]
 unfold stE zag
 rw [if_pos hl,e,if_neg (by decide)]
theorem zgi {i:Ins} {t:St} (hl:t.live=true) (h:zek i t=0):stE i t=⟨.tu [.ag (goS i t).1.cs,.ag (goS i t).2.cs,.c (.i 0)],[],none⟩:=by
 unfold stE zag
 rw [if_pos hl,if_pos h]
theorem yahk {i:Ins} {t:St} (hl:t.live=true) (h:zek i t=2):stE i t=⟨.tu [.ag St.z.cs,.ag St.z.cs,.c (.i 2)],[],none⟩:=by
 unfold stE zag
 rw [if_pos hl,h,if_neg (by decide)]
abbrev ssKn (i:Ins) (t:St) (q k:Nat) (U:List AC):Kn:=⟨[(2,.c (.w 0)),(3,.c (.w 1)),(4,.c (.w 2)),(5,.c (.w 3)),(7,.c (.sx 9 q)),(8,.c (.i (k:Int)))],[(0,⟨true,i.cs,0⟩),(1,⟨true,t.cs,0⟩),(2,⟨true,St.z.cs,0⟩),(3,⟨true,St.z.cs,0⟩),(9,⟨true,U,1⟩)],10⟩
theorem zr0 (Us:List Int):(Us.map AC.i).flatMap AC.ks=[]:=by
 induction Us with
 | nil=>rfl
 | cons d l ih=>rw [List.map_cons,List.flatMap_cons,ih];rfl
theorem yaqs (i:Ins) (t:St) (q k:Nat) (Us:List Int):Kn.Low (ssKn i t q k (Us.map AC.i)):=zg2 rfl rfl ⟨rfl,rfl,rfl,rfl,zr0 Us,trivial⟩
theorem yaqw {i:Ins} {t:St} {Us:List Int} (hl:t.live=true) (h2:Us.length≤2) (hU:∀ d,d∈Us→regB d=true) (hlk:lacks (zaw i) t.s=zzh Us t) {w:World} {β:Bs}
  (z:lacks (zaw i) t.s=false→ART Tryz.prog 31 (cx w β 0 []) Tryz.f31.ntmps (zdm Tryz.f31 0) (ssKn i t Us.length Us.length (Us.map AC.i)) (REff w β (stE i t))):∀ n k,k+n=Us.length→(∀ j,j<k→t.s.get (Us.getD j 0).toNat=true) →
  ART Tryz.prog 31 (cx w β 0 []) Tryz.f31.ntmps (zdm Tryz.f31 0) (ssKn i t Us.length k (Us.map AC.i)) (REff w β (stE i t))
 | 0,k,hk,ha=>by
  obtain rfl:k=Us.length:=by omega
  refine z ?_
  rw [hlk]
  unfold zzh
  rw [List.any_eq_false]
  intro d hd
  obtain ⟨j,hj,rfl⟩:=List.mem_iff_getElem.1 hd
  have:=ha j hj
  rw [List.getD_eq_getElem?_getD,List.getElem?_eq_getElem hj] at this
  simpa using this
 | n+1,k,hk,ha=>by
  have hlt:k<Us.length:=by omega
  have hm:Us.getD k 0∈Us:=by rw [List.getD_eq_getElem?_getD,List.getElem?_eq_getElem hlt];exact List.getElem_mem hlt
  have hr:=hU _ hm
  have hg:(Us.map AC.i)[Int.toNat (k:Int)*1]?=some (.i (Us.getD k 0)):=by
   rw [Int.toNat_natCast,Nat.mul_one,List.getElem?_map,List.getD_eq_getElem?_getD,List.getElem?_eq_getElem hlt];rfl
  have d0:decide ((k:Int)<(Us.length:Int))=true:=decide_eq_true (by omega)
  have d1:(AC.isI (Option.getD (Us.map AC.i)[Int.toNat (k:Int)*1]? (AC.b false))&&Nat.blt (Int.toNat (k:Int)*1) (Us.map AC.i).length)=true:=by
   rw [hg,Bool.and_eq_true]
   exact ⟨rfl,by rw [List.length_map,Nat.blt_eq];omega⟩
  have e0:Eff.mk (AV.c (AC.i (AC.asI (Option.getD (Us.map AC.i)[Int.toNat (k:Int)*1]? (AC.b false))))) [] none=Eff.mk (AV.c (AC.i (Us.getD k 0))) [] none:=by rw [hg];rfl
  refine zyc (d:=Us.getD k 0) (by decide) (fun a=>⟨d0,d0,d1,hr,zx1 t hr,e0,znd t hr,?_⟩) (fun a=>⟨d0,d0,d1,hr,zx1 t hr,e0,znd t hr,by rw [zhx (by omega)],yaqs _ _ _ _ _,?_⟩)
  ·refine (yanp hl ?_).symm
   rw [hlk]
   exact List.any_eq_true.2 ⟨_,hm,a⟩
  ·refine yaqw hl h2 hU hlk z n (k+1) (by omega) fun j hj=>?_
   by_cases e:j=k
   ·subst e;simpa using a
   ·exact ha j (by omega)
theorem ssGo {i:Ins} {t:St} {Us:List Int} (hl:t.live=true) (h2:Us.length≤2) (hU:∀ d,d∈Us→regB d=true) (hlk:lacks (zaw i) t.s=zzh Us t) (hu:CallOK Tryz.prog ⟨37,[.ag i.cs],[],⟨.c (.sx 9 Us.length),[],some (9,⟨true,Us.map AC.i,1⟩)⟩⟩)
  (z:∀ w β,lacks (zaw i) t.s=false→ART Tryz.prog 31 (cx w β 0 []) Tryz.f31.ntmps (zdm Tryz.f31 0) (ssKn i t Us.length Us.length (Us.map AC.i)) (REff w β (stE i t))):Ok 31 [.ag i.cs,.ag t.cs] (stE i t).v :=
 zk7 Tryz.func31 rfl rfl rfl rfl fun w β=>yam3 (zaa (by rw [hl];rfl) rfl) hu (yaqs i t _ 0 Us) (fun _ h=>absurd h (Nat.not_lt_zero _)) (yaqw hl h2 hU hlk (z w β) Us.length 0 (by omega) fun _ h=>absurd h (Nat.not_lt_zero _))
section
variable {i:Ins} {t:St}
theorem dn (q:Nat):(!decide ((q:Int)<(q:Int)))=true:=by rw [decide_eq_false (by omega)];rfl
theorem zd5 (h:i.op≠10) (h':i.op≠11):Ok 75 [.c (.i i.op)] (.c (.b false)):=zam (zfy i.op) (by rw [beq_eq_false_iff_ne.2 h,beq_eq_false_iff_ne.2 h'];rfl)
theorem zjc (h:i.op=10∨i.op=11):Ok 75 [.c (.i i.op)] (.c (.b true)):=zam (zfy i.op) (by rcases h with h | h <;> rw [h] <;> rfl)
theorem zfc (hu:lacks (zaw i) t.s=false) (h:i.op≠10) (h':i.op≠11):zek i t=0:=by
 unfold zek;rw [if_neg (by rw [hu];decide),if_neg h,if_neg h']
theorem s_ne (h:i.s≠-1):(i.s != -1)=true:=by simpa using h
theorem s_is (h:i.s=-1):(!i.s != -1)=true:=by simp [h]
theorem yanr (h:i.s=-1):srcV i t=V4.of i.im:=by unfold srcV;rw [if_pos h]
theorem zti (h:i.s≠-1):srcV i t=t.r.get i.s.toNat:=by unfold srcV;rw [if_neg h]
theorem yaes {d:Int} (h:regB d=true):lacks ((no6).set d.toNat true) t.s=zzh [d] t:=by
 rw [zmu _ (zbp h),yakq];simp [zzh]
theorem yam9 {d s:Int} (h:regB d=true) (h':regB s=true):lacks (((no6).set d.toNat true).set s.toNat true) t.s=zzh [d,s] t:=by
 rw [zmu _ (zbp h'),zmu _ (zbp h),yakq];simp [zzh]
theorem mem1 {d:Int} (h:regB d=true):∀ e,e∈[d]→regB e=true:=fun e he=>by rw [List.mem_singleton.1 he];exact h
theorem mem2 {d s:Int} (h:regB d=true) (h':regB s=true):∀ e,e∈[d,s]→regB e=true:=fun e he=>by
 rcases List.mem_cons.1 he with h1 | h1
 ·rw [h1];exact h
 ·rw [List.mem_singleton.1 h1];exact h'
theorem yab0 (h:(2≤i.op∧i.op≤9)∨i.op=13∨i.op=14) (hs:i.s=-1):zaw i=(no6).set i.d.toNat true:=by
 unfold zaw;rw [if_neg (by omega),if_neg (by omega),if_pos hs,if_neg (by omega)]
theorem zkc (h:(2≤i.op∧i.op≤9)∨i.op=11∨i.op=13∨i.op=14) (hs:i.s≠-1):zaw i=((no6).set i.d.toNat true).set i.s.toNat true:=by
 unfold zaw;rw [if_neg (by omega),if_neg (by omega),if_neg hs,if_neg (by omega)]
theorem yabk (h:i.op=1∨i.op=10) (hs:i.s≠-1):zaw i=(no6).set i.s.toNat true:=by
 unfold zaw;rw [if_neg (by omega),if_neg (by omega),if_neg hs,if_pos h]
end
theorem zk4 {i:Ins} {t:St} (hr:Right i 65) (ht:t.Ok):Ok 31 [.ag i.cs,.ag t.cs] (stE i t).v:=by
 by_cases hl:t.live=true
 ·have hg:=zbo hr
  have hd:=hg.1
  have so:i.s≠-1→regB i.s=true:=fun h=>(srcB_iff.1 hg.2).resolve_left h
  have cI:=yaaa i.im
  have cO:=yaaa (BitVec.ofInt 64 i.of)
  rcases zkw hr with c | c | c | c | c | c | c | c
  ·-- load
   obtain ⟨_,hs,hz,_⟩:=zbv hr (Or.inl c)
   have hn:i.s≠-1:=fun e=>by rw [e] at hs;cases hs
   refine ssGo (Us:=[i.s]) hl (by simp) (mem1 hs) (by rw [yabk (Or.inr c) hn];exact yaes hs) (zlo 9 (Or.inr c) hn) fun w β hu=>?_
   have hv:(t.r.get i.s.toNat).ok=true:=by have:=zeu hr ht hu (by omega) (by omega);rwa [zti hn] at this
   have cT:=zi2 (op:=2) (by decide) hv (V4.of_ok (BitVec.ofInt 64 i.of))
   have hn8:=yahf hz
   have cB:Ok 83 [.c (.i (IntKind.wrap IntKind.i64 (nv i.im)))] (.ag (V4.bytes (nv i.im)).cs):=by rw [zfj (by omega) (by omega)];exact zw9 hn8
   refine yal6 (fun a=>⟨dn _,s_ne hn,hs,zbe t hs,hd,zbe t hd,zfe c,cI,zax t hs,zax t hd,zjc (Or.inl c),cO,cT,?_⟩) (fun a=>⟨dn _,s_ne hn,hs,zbe t hs,hd,zbe t hd,zfe c,hd,zbe t hd,zay (by omega),zay (by omega),zay (by omega),zay (by omega),zfe c,cI,zax t hs,zax t hd,zjc (Or.inl c),cO,cT,zax t hd,cB,zfa _ hd,?_⟩)
   ·refine (yahk hl ?_).symm
    unfold zek farS;rw [if_neg (by rw [hu];decide),if_pos c,if_pos a]
   ·rw [zgi hl ?_,zso c]
    unfold zek farS;rw [if_neg (by rw [hu];decide),if_pos c,if_neg (by rw [a];decide)]
  ·-- store
   obtain ⟨_,hs,hz,_⟩:=zbv hr (Or.inr c)
   have hn:i.s≠-1:=fun e=>by rw [e] at hs;cases hs
   refine ssGo (Us:=[i.d,i.s]) hl (by simp) (mem2 hd hs) (by rw [zkc (Or.inr (Or.inl c)) hn];exact yam9 hd hs) (zhg 9 (Or.inr (Or.inl c)) hn) fun w β hu=>?_
   have hv:=zdx hr ht hu (by omega) (by omega) (by omega) (by omega)
   have cT:=zi2 (op:=2) (by decide) hv (V4.of_ok (BitVec.ofInt 64 i.of))
   refine yapn (fun a=>⟨dn _,s_ne hn,hs,zbe t hs,hd,zbe t hd,zay (by omega),cI,zax t hs,zax t hd,zjc (Or.inr c),cO,cT,?_⟩) (fun a=>⟨dn _,s_ne hn,hs,zbe t hs,hd,zbe t hd,zay (by omega),hd,zbe t hd,zay (by omega),zay (by omega),zay (by omega),zay (by omega),zay (by omega),zfe c,cI,zax t hs,zax t hd,zjc (Or.inr c),cO,cT,zax t hd,?_⟩)
   ·refine (yahk hl ?_).symm
    unfold zek farS;rw [if_neg (by rw [hu];decide),if_neg (by omega),if_pos c,if_pos a]
   ·rw [zgi hl ?_,zne c]
    unfold zek farS;rw [if_neg (by rw [hu];decide),if_neg (by omega),if_pos c,if_neg (by rw [a];decide)]
  ·-- jump
   obtain ⟨_,_,d0,s0⟩:=zfm hr c
   have hs:regB i.s=true:=by rw [s0];rfl
   have hu:lacks (zaw i) t.s=false:=by unfold zaw;rw [if_pos c];rfl
   have e:=zgi hl (zfc hu (by omega) (by omega))
   rw [zsy c] at e
   rw [e]
   refine yarl (zaa (by rw [hl];rfl) (zaa (s_ne (by omega)) (zaa hs (zaa (zbe t hs) (zaa hd (zaa (zbe t hd) (zaa (zay (by omega)) (zaa hd (zaa (zbe t hd) (zaa (zay (by omega)) (zaa (zfe c) rfl))))))))))) ?_ cI (zax t hs) (zax t hd) (zd5 (by omega) (by omega)) (zax t hd)
   have:=zrf (d:=i.d) (s:=i.s) (of:=i.of) (im:=i.im)
   rw [← c] at this
   exact this
  ·-- ifeq
   by_cases hs:i.s=-1
   ·refine ssGo (Us:=[i.d]) hl (by simp) (mem1 hd) (by rw [yab0 (Or.inr (Or.inl c)) hs];exact yaes hd) (by rw [show AV.ag i.cs=AV.ag (Ins.mk i.op i.d (-1) i.im i.of).cs from by unfold Ins.cs;rw [hs]];exact zls 9 (Or.inr (Or.inl c))) fun w β hu=>?_
    have hv:=zdx hr ht hu (by omega) (by omega) (by omega) (by omega)
    refine za6 (yand (zaa (dn _) (zaa (s_is hs) (zaa hd (zaa (zbe t hd) (zaa (zay (by omega)) (zaa hd (zaa (zbe t hd) (zaa (zay (by omega)) (zaa (zay (by omega)) (zaa (zfe c) rfl)))))))))) cI (zax t hd) (zd5 (by omega) (by omega)) (zax t hd) (zm6 hv (V4.of_ok _)) (zmb hv (V4.of_ok _)) (ze6 ((t.r.get i.d.toNat).other (V4.of i.im)) hd hg.2) (ze6 ((t.r.get i.d.toNat).equal (V4.of i.im)) hd hg.2)) ?_
    rw [zgi hl (zfc hu (by omega) (by omega)),yabw c,yanr hs]
   ·have h1:=so hs
    refine ssGo (Us:=[i.d,i.s]) hl (by simp) (mem2 hd h1) (by rw [zkc (Or.inr (Or.inr (Or.inl c))) hs];exact yam9 hd h1) (zhg 9 (Or.inr (Or.inr (Or.inl c))) hs) fun w β hu=>?_
    have hv:=zdx hr ht hu (by omega) (by omega) (by omega) (by omega)
    have hw:(t.r.get i.s.toNat).ok=true:=by have:=zeu hr ht hu (by omega) (by omega);rwa [zti hs] at this
    refine za6 (yal2 (zaa (dn _) (zaa (s_ne hs) (zaa h1 (zaa (zbe t h1) (zaa hd (zaa (zbe t hd) (zaa (zay (by omega)) (zaa hd (zaa (zbe t hd) (zaa (zay (by omega)) (zaa (zay (by omega)) (zaa (zfe c) rfl)))))))))))) cI (zax t h1) (zax t hd) (zd5 (by omega) (by omega)) (zax t hd) (zm6 hv hw) (zmb hv hw) (ze6 ((t.r.get i.d.toNat).other (t.r.get i.s.toNat)) hd hg.2) (ze6 ((t.r.get i.d.toNat).equal (t.r.get i.s.toNat)) hd hg.2)) ?_
    rw [zgi hl (zfc hu (by omega) (by omega)),yabw c,zti hs]
  ·-- iflt
   by_cases hs:i.s=-1
   ·refine ssGo (Us:=[i.d]) hl (by simp) (mem1 hd) (by rw [yab0 (Or.inr (Or.inr c)) hs];exact yaes hd) (by rw [show AV.ag i.cs=AV.ag (Ins.mk i.op i.d (-1) i.im i.of).cs from by unfold Ins.cs;rw [hs]];exact zls 9 (Or.inr (Or.inr c))) fun w β hu=>?_
    have hv:=zdx hr ht hu (by omega) (by omega) (by omega) (by omega)
    refine za6 (yal8 (zaa (dn _) (zaa (s_is hs) (zaa hd (zaa (zbe t hd) (zaa (zay (by omega)) (zaa hd (zaa (zbe t hd) (zaa (zay (by omega)) (zaa (zay (by omega)) (zaa (zay (by omega)) (zaa (zfe c) rfl))))))))))) cI (zax t hd) (zd5 (by omega) (by omega)) (zax t hd) (ziu hv (V4.of_ok _)) (zpg hv (V4.of_ok _)) (ze6 ((t.r.get i.d.toNat).notLess (V4.of i.im)) hd hg.2) (ze6 ((t.r.get i.d.toNat).less (V4.of i.im)) hd hg.2)) ?_
    rw [zgi hl (zfc hu (by omega) (by omega)),yaab c,yanr hs]
   ·have h1:=so hs
    refine ssGo (Us:=[i.d,i.s]) hl (by simp) (mem2 hd h1) (by rw [zkc (Or.inr (Or.inr (Or.inr c))) hs];exact yam9 hd h1) (zhg 9 (Or.inr (Or.inr (Or.inr c))) hs) fun w β hu=>?_
    have hv:=zdx hr ht hu (by omega) (by omega) (by omega) (by omega)
    have hw:(t.r.get i.s.toNat).ok=true:=by have:=zeu hr ht hu (by omega) (by omega);rwa [zti hs] at this
    refine za6 (yaoe (zaa (dn _) (zaa (s_ne hs) (zaa h1 (zaa (zbe t h1) (zaa hd (zaa (zbe t hd) (zaa (zay (by omega)) (zaa hd (zaa (zbe t hd) (zaa (zay (by omega)) (zaa (zay (by omega)) (zaa (zay (by omega)) (zaa (zfe c) rfl))))))))))))) cI (zax t h1) (zax t hd) (zd5 (by omega) (by omega)) (zax t hd) (ziu hv hw) (zpg hv hw) (ze6 ((t.r.get i.d.toNat).notLess (t.r.get i.s.toNat)) hd hg.2) (ze6 ((t.r.get i.d.toNat).less (t.r.get i.s.toNat)) hd hg.2)) ?_
    rw [zgi hl (zfc hu (by omega) (by omega)),yaab c,zti hs]
  ·-- exit
   obtain ⟨d0,s0,_,_⟩:=znz hr c
   have hs:regB i.s=true:=by rw [s0];rfl
   have eu:zaw i=(no6).set (0:Int).toNat true:=by unfold zaw;rw [if_neg (by omega),if_pos c];rfl
   refine ssGo (Us:=[0]) hl (by decide) (mem1 rfl) (by rw [eu];exact yaes rfl) ?_ fun w β hu=>?_
   ·have:=yabp (d:=i.d) (s:=i.s) (of:=i.of) (im:=i.im) 9
    rw [← c] at this
    exact this
   ·refine za6 (yatn (zaa (dn _) (zaa (s_ne (by omega)) (zaa hs (zaa (zbe t hs) (zaa hd (zaa (zbe t hd) (zaa (zay (by omega)) (zaa hd (zaa (zbe t hd) (zaa (zfe c) rfl)))))))))) cI (zax t hs) (zax t hd) (zd5 (by omega) (by omega)) (zax t hd)) ?_
    rw [zgi hl (zfc hu (by omega) (by omega)),zq9 c]
  ·-- mov
   by_cases hs:i.s=-1
   ·have hu:lacks (zaw i) t.s=false:=by unfold zaw;rw [if_neg (by omega),if_neg (by omega),if_pos hs,if_pos (Or.inl c)];rfl
    have e:=zgi hl (zfc hu (by omega) (by omega))
    rw [zs4 c,yanr hs] at e
    rw [e]
    refine yaub (zaa (by rw [hl];rfl) (zaa (s_is hs) (zaa hd (zaa (zbe t hd) (zaa (zay (by omega)) (zaa hd (zaa (zbe t hd) (zaa (zay (by omega)) (zaa (zay (by omega)) (zaa (zay (by omega)) (zaa (zay (by omega)) (zaa (zay (by omega)) (zaa (zay (by omega)) (zaa (zfe c) rfl)))))))))))))) ?_ cI (zax t hd) (zd5 (by omega) (by omega)) (zax t hd) (zfa _ hd)
    rw [show AV.ag i.cs=AV.ag (Ins.mk 1 i.d (-1) i.im i.of).cs from by unfold Ins.cs;rw [c,hs]]
    exact yabi
   ·have h1:=so hs
    refine ssGo (Us:=[i.s]) hl (by simp) (mem1 h1) (by rw [yabk (Or.inl c) hs];exact yaes h1) (zlo 9 (Or.inl c) hs) fun w β hu=>?_
    refine za6 (yaug (zaa (dn _) (zaa (s_ne hs) (zaa h1 (zaa (zbe t h1) (zaa hd (zaa (zbe t hd) (zaa (zay (by omega)) (zaa hd (zaa (zbe t hd) (zaa (zay (by omega)) (zaa (zay (by omega)) (zaa (zay (by omega)) (zaa (zay (by omega)) (zaa (zay (by omega)) (zaa (zay (by omega)) (zaa (zfe c) rfl)))))))))))))))) cI (zax t h1) (zax t hd) (zd5 (by omega) (by omega)) (zax t hd) (zfa _ hd)) ?_
    rw [zgi hl (zfc hu (by omega) (by omega)),zs4 c,zti hs]
  ·-- reckons
   by_cases hs:i.s=-1
   ·refine ssGo (Us:=[i.d]) hl (by simp) (mem1 hd) (by rw [yab0 (Or.inl c) hs];exact yaes hd) (by rw [show AV.ag i.cs=AV.ag (Ins.mk i.op i.d (-1) i.im i.of).cs from by unfold Ins.cs;rw [hs]];exact zls 9 (Or.inl c)) fun w β hu=>?_
    have hv:=zdx hr ht hu (by omega) (by omega) (by omega) (by omega)
    refine za6 (yat9 (zaa (dn _) (zaa (s_is hs) (zaa hd (zaa (zbe t hd) (zaa (zay (by omega)) (zaa hd (zaa (zbe t hd) (zaa (zay (by omega)) (zaa (zay (by omega)) (zaa (zay (by omega)) (zaa (zay (by omega)) (zaa (zay (by omega)) (zaa (zay (by omega)) (zaa (zay (by omega)) rfl)))))))))))))) cI (zax t hd) (zd5 (by omega) (by omega)) (zax t hd) (zi2 c hv (V4.of_ok _)) (zfa _ hd)) ?_
    rw [zgi hl (zfc hu (by omega) (by omega)),zq3 c,yanr hs]
   ·have h1:=so hs
    refine ssGo (Us:=[i.d,i.s]) hl (by simp) (mem2 hd h1) (by rw [zkc (Or.inl c) hs];exact yam9 hd h1) (zhg 9 (Or.inl c) hs) fun w β hu=>?_
    have hv:=zdx hr ht hu (by omega) (by omega) (by omega) (by omega)
    have hw:(t.r.get i.s.toNat).ok=true:=by have:=zeu hr ht hu (by omega) (by omega);rwa [zti hs] at this
    refine za6 (yast (zaa (dn _) (zaa (s_ne hs) (zaa h1 (zaa (zbe t h1) (zaa hd (zaa (zbe t hd) (zaa (zay (by omega)) (zaa hd (zaa (zbe t hd) (zaa (zay (by omega)) (zaa (zay (by omega)) (zaa (zay (by omega)) (zaa (zay (by omega)) (zaa (zay (by omega)) (zaa (zay (by omega)) (zaa (zay (by omega)) rfl)))))))))))))))) cI (zax t h1) (zax t hd) (zd5 (by omega) (by omega)) (zax t hd) (zi2 c hv hw) (zfa _ hd)) ?_
    rw [zgi hl (zfc hu (by omega) (by omega)),zq3 c,zti hs]
 ·have hl:t.live=false:=by simpa using hl
  refine zk7 Tryz.func31 rfl rfl rfl rfl fun w β=>za6 (yan5 (zaa (by rw [hl];rfl) rfl)) ?_
  unfold stE zag
  rw [if_neg (by rw [hl];decide)]
section
variable {a b p:V4} {i:Bool}
theorem zxp (c0:Ok 130 [.ag [.u a.v,.u a.m],.ag [.u b.v,.u b.m]] (.ag [.u (jV a.v a.m b.v b.m),.u (jM a.v a.m b.v b.m)])) (c1:Ok 126 [.ag [.u (jV a.v a.m b.v b.m),.u (jM a.v a.m b.v b.m),.u (bmin a.l b.l),.u (bmax a.h b.h)]] (.tu [.ag p.cs,.c (.b i)])) :
  Ok 84 [.ag a.cs,.ag b.cs] (.ag p.cs) :=
 zaf [] ([]) [] Tryz.func84 rfl rfl rfl rfl (by kernel_rfl) rfl (zab c0 (zab c1 zae))
end
section
abbrev zc2 (t u b:St) (j:Int):Kn:=⟨[(2,.c (.w 0)),(3,.c (.w 1)),(4,.c (.w 2)),(5,.c (.w 10)),(6,.c (.i j))],[(0,Ent.mk true t.cs 0),(1,Ent.mk true u.cs 0),(2,Ent.mk true St.z.cs 0),(10,Ent.mk true b.cs 0)],11⟩
variable {a:V4} {t u b:St} {w:World} {β:Bs} {n:Nat} {C:Cx} {R:Ending→World→Prop} {E:Eff} {j:Int}
theorem yahg (c0:Ok 73 [] (.ag a.cs)) :
  Ok 30 [] (.ag [.b true,.b false,.b true,.b false,.b false,.b false,.b false,.u 0#64,.u 0#64,.u 0#64,.u 0#64,.u a.v,.u a.m,.u a.l,.u a.h,.u 0#64,.u 0#64,.u 0#64,.u 0#64,.u 0#64,.u 0#64,.u 0#64,.u 0#64,.u 0#64,.u 0#64,.u 0#64,.u 0#64,.u 0#64,.u 0#64,.u 0#64,.u 0#64]) :=
 zaf [] ([]) [] Tryz.func30 rfl rfl rfl rfl (by kernel_rfl) rfl (zab c0 zae)
theorem yanv (h:(!t.live&&true)=true) :
  BO 32 Tryz.f32 (cx w β n []) [.ag t.cs,.ag u.cs] [] 0 (REff w β ⟨.ag u.cs,[],none⟩) :=
 zah [] none [true] ([true]) [] Tryz.func32 (zat rfl n) (by kernel_rfl) h zae
theorem yal3 (h:(!!t.live&&(!u.live&&true))=true) :
  BO 32 Tryz.f32 (cx w β n []) [.ag t.cs,.ag u.cs] [] 0 (REff w β ⟨.ag t.cs,[],none⟩) :=
 zah [] none [false,true] ([true]) [] Tryz.func32 (zat rfl n) (by kernel_rfl) h zae
theorem yao6 (h:(!!t.live&&(!!u.live&&true))=true) (lo:Kn.Low ⟨[(2,.c (.w 0)),(3,.c (.w 1)),(4,.c (.w 2)),(5,.c (.w 10)),(6,.c (.i 0))],[(0,Ent.mk true t.cs 0),(1,Ent.mk true u.cs 0),(2,Ent.mk true St.z.cs 0),(10,Ent.mk true St.e.cs 0)],11⟩) (hF:∀ k,C.F k→k<11) (z:AR 32 Tryz.f32 C 0 ⟨[(2,.c (.w 0)),(3,.c (.w 1)),(4,.c (.w 2)),(5,.c (.w 10)),(6,.c (.i 0))],[(0,Ent.mk true t.cs 0),(1,Ent.mk true u.cs 0),(2,Ent.mk true St.z.cs 0),(10,Ent.mk true St.e.cs 0)],11⟩ R) :
  BO 32 Tryz.f32 C [.ag t.cs,.ag u.cs] [] 0 R :=
 zai [false,false] ([true]) [] Tryz.func32 (by kernel_rfl) h zae lo hF z
theorem yai2 (hn:n≤11)
  (l0:(!t.live)=true→((⟨.ag u.cs,[],none⟩:Eff)=E))
  (l1:(!t.live)=false→(!u.live)=true→((⟨.ag t.cs,[],none⟩:Eff)=E))
  (l2:(!t.live)=false→(!u.live)=false→Kn.Low ⟨[(2,.c (.w 0)),(3,.c (.w 1)),(4,.c (.w 2)),(5,.c (.w 10)),(6,.c (.i 0))],[(0,Ent.mk true t.cs 0),(1,Ent.mk true u.cs 0),(2,Ent.mk true St.z.cs 0),(10,Ent.mk true St.e.cs 0)],11⟩∧AR 32 Tryz.f32 (cx w β n []) 0 ⟨[(2,.c (.w 0)),(3,.c (.w 1)),(4,.c (.w 2)),(5,.c (.w 10)),(6,.c (.i 0))],[(0,Ent.mk true t.cs 0),(1,Ent.mk true u.cs 0),(2,Ent.mk true St.z.cs 0),(10,Ent.mk true St.e.cs 0)],11⟩ (REff w β E)) :
  BO 32 Tryz.f32 (cx w β n []) [.ag t.cs,.ag u.cs] [] 0 (REff w β E) :=
 (tf (!t.live)).elim (fun h0=>(match l0 h0 with | e=>za6 (yanv (zaa h0 rfl)) e)) (fun h0=>(tf (!u.live)).elim (fun h1=>(match l1 h0 h1 with | e=>za6 (yal3 (zaa (zad h0) (zaa h1 rfl))) e)) (fun h1=>(match l2 h0 h1 with | ⟨lo,z⟩=>yao6 (zaa (zad h0) (zaa (zad h1) rfl)) lo (fun _ hk=>Nat.lt_of_lt_of_le hk hn) z)))
theorem yadh (h:(decide (j<6)&&(decide (0≤j)&&decide (j<6)&&(AC.isB ((t.cs)[1+j.toNat*1]?.getD (.b false))&&Nat.blt (1+j.toNat*1) (t.cs).length&&((t.s).get j.toNat&&(decide (0≤j)&&decide (j<6)&&(AC.isB ((u.cs)[1+j.toNat*1]?.getD (.b false))&&Nat.blt (1+j.toNat*1) (u.cs).length&&((u.s).get j.toNat&&(decide (0≤j)&&decide (j<6)&&(Nat.ble (1+j.toNat*1+1) (b.cs).length&&true&&(decide (0≤j)&&decide (j<6)&&(Nat.ble (7+j.toNat*4+4) (t.cs).length&&(decide (0≤j)&&decide (j<6)&&(Nat.ble (7+j.toNat*4+4) (u.cs).length&&(decide (0≤j)&&decide (j<6)&&(Nat.ble (7+j.toNat*4+(a.cs).length) ((St.mk b.live ((b.s).set j.toNat true) b.r).cs).length&&true&&true)))))))))))))))=true) (c0:pe (.c (.b (AC.asB ((t.cs)[1+j.toNat*1]?.getD (.b false)))))=pe (.c (.b ((t.s).get j.toNat)))) (c1:pe (.c (.b (AC.asB ((u.cs)[1+j.toNat*1]?.getD (.b false)))))=pe (.c (.b ((u.s).get j.toNat)))) (c2:we 10 ((b.cs).set (1+j.toNat*1) (.b true))=we 10 ((St.mk b.live ((b.s).set j.toNat true) b.r).cs)) (c3:pe (.ag (((t.cs).drop (7+j.toNat*4)).take 4))=pe (.ag ((t.r).get j.toNat).cs)) (c4:pe (.ag (((u.cs).drop (7+j.toNat*4)).take 4))=pe (.ag ((u.r).get j.toNat).cs)) (c5:Ok 84 [.ag ((t.r).get j.toNat).cs,.ag ((u.r).get j.toNat).cs] (.ag a.cs)) (c6:we 10 (splice (St.mk b.live ((b.s).set j.toNat true) b.r).cs (7+j.toNat*4) a.cs)=we 10 ((St.wth b j.toNat a).cs)) (lo:Kn.Low ⟨[(2,.c (.w 0)),(3,.c (.w 1)),(4,.c (.w 2)),(5,.c (.w 10)),(6,.c (.i (IntKind.i64.wrap (j+1))))],[(0,Ent.mk true t.cs 0),(1,Ent.mk true u.cs 0),(2,Ent.mk true St.z.cs 0),(10,Ent.mk true [.b b.live,.b ((b.s).set j.toNat true).x0,.b ((b.s).set j.toNat true).x1,.b ((b.s).set j.toNat true).x2,.b ((b.s).set j.toNat true).x3,.b ((b.s).set j.toNat true).x4,.b ((b.s).set j.toNat true).x5,.u (((b.r).set j.toNat a).x0).v,.u (((b.r).set j.toNat a).x0).m,.u (((b.r).set j.toNat a).x0).l,.u (((b.r).set j.toNat a).x0).h,.u (((b.r).set j.toNat a).x1).v,.u (((b.r).set j.toNat a).x1).m,.u (((b.r).set j.toNat a).x1).l,.u (((b.r).set j.toNat a).x1).h,.u (((b.r).set j.toNat a).x2).v,.u (((b.r).set j.toNat a).x2).m,.u (((b.r).set j.toNat a).x2).l,.u (((b.r).set j.toNat a).x2).h,.u (((b.r).set j.toNat a).x3).v,.u (((b.r).set j.toNat a).x3).m,.u (((b.r).set j.toNat a).x3).l,.u (((b.r).set j.toNat a).x3).h,.u (((b.r).set j.toNat a).x4).v,.u (((b.r).set j.toNat a).x4).m,.u (((b.r).set j.toNat a).x4).l,.u (((b.r).set j.toNat a).x4).h,.u (((b.r).set j.toNat a).x5).v,.u (((b.r).set j.toNat a).x5).m,.u (((b.r).set j.toNat a).x5).l,.u (((b.r).set j.toNat a).x5).h] 0)],11⟩) (hF:∀ k,C.F k→k<11) (z:AR 32 Tryz.f32 C 0 ⟨[(2,.c (.w 0)),(3,.c (.w 1)),(4,.c (.w 2)),(5,.c (.w 10)),(6,.c (.i (IntKind.i64.wrap (j+1))))],[(0,Ent.mk true t.cs 0),(1,Ent.mk true u.cs 0),(2,Ent.mk true St.z.cs 0),(10,Ent.mk true [.b b.live,.b ((b.s).set j.toNat true).x0,.b ((b.s).set j.toNat true).x1,.b ((b.s).set j.toNat true).x2,.b ((b.s).set j.toNat true).x3,.b ((b.s).set j.toNat true).x4,.b ((b.s).set j.toNat true).x5,.u (((b.r).set j.toNat a).x0).v,.u (((b.r).set j.toNat a).x0).m,.u (((b.r).set j.toNat a).x0).l,.u (((b.r).set j.toNat a).x0).h,.u (((b.r).set j.toNat a).x1).v,.u (((b.r).set j.toNat a).x1).m,.u (((b.r).set j.toNat a).x1).l,.u (((b.r).set j.toNat a).x1).h,.u (((b.r).set j.toNat a).x2).v,.u (((b.r).set j.toNat a).x2).m,.u (((b.r).set j.toNat a).x2).l,.u (((b.r).set j.toNat a).x2).h,.u (((b.r).set j.toNat a).x3).v,.u (((b.r).set j.toNat a).x3).m,.u (((b.r).set j.toNat a).x3).l,.u (((b.r).set j.toNat a).x3).h,.u (((b.r).set j.toNat a).x4).v,.u (((b.r).set j.toNat a).x4).m,.u (((b.r).set j.toNat a).x4).l,.u (((b.r).set j.toNat a).x4).h,.u (((b.r).set j.toNat a).x5).v,.u (((b.r).set j.toNat a).x5).m,.u (((b.r).set j.toNat a).x5).l,.u (((b.r).set j.toNat a).x5).h] 0)],11⟩ R) :
  AR 32 Tryz.f32 C 0 (zc2 t u b j) R :=
 zai [true,true,true] ([true]) [(9,3),(9,8),(10,3),(11,4),(11,8),(11,12)] Tryz.func32 (by kernel_rfl) h (zac c0 (zac c1 (zac c2 (zac c3 (zac c4 (zab c5 (zac c6 zae))))))) lo hF z
theorem yafs (h:(decide (j<6)&&(decide (0≤j)&&decide (j<6)&&(AC.isB ((t.cs)[1+j.toNat*1]?.getD (.b false))&&Nat.blt (1+j.toNat*1) (t.cs).length&&((t.s).get j.toNat&&(decide (0≤j)&&decide (j<6)&&(AC.isB ((u.cs)[1+j.toNat*1]?.getD (.b false))&&Nat.blt (1+j.toNat*1) (u.cs).length&&(!(u.s).get j.toNat&&true)))))))=true) (c0:pe (.c (.b (AC.asB ((t.cs)[1+j.toNat*1]?.getD (.b false)))))=pe (.c (.b ((t.s).get j.toNat)))) (c1:pe (.c (.b (AC.asB ((u.cs)[1+j.toNat*1]?.getD (.b false)))))=pe (.c (.b ((u.s).get j.toNat)))) (lo:Kn.Low (zc2 t u b (IntKind.i64.wrap (j+1)))) (hF:∀ k,C.F k→k<11) (z:AR 32 Tryz.f32 C 0 (zc2 t u b (IntKind.i64.wrap (j+1))) R) :
  AR 32 Tryz.f32 C 0 (zc2 t u b j) R :=
 zai [true,true,false] ([true]) [(9,3),(9,8),(10,3),(11,4),(11,8),(11,12)] Tryz.func32 (by kernel_rfl) h (zac c0 (zac c1 zae)) lo hF z
theorem yad2 (h:(decide (j<6)&&(decide (0≤j)&&decide (j<6)&&(AC.isB ((t.cs)[1+j.toNat*1]?.getD (.b false))&&Nat.blt (1+j.toNat*1) (t.cs).length&&(!(t.s).get j.toNat&&true))))=true) (c0:pe (.c (.b (AC.asB ((t.cs)[1+j.toNat*1]?.getD (.b false)))))=pe (.c (.b ((t.s).get j.toNat)))) (lo:Kn.Low (zc2 t u b (IntKind.i64.wrap (j+1)))) (hF:∀ k,C.F k→k<11) (z:AR 32 Tryz.f32 C 0 (zc2 t u b (IntKind.i64.wrap (j+1))) R) :
  AR 32 Tryz.f32 C 0 (zc2 t u b j) R :=
 zai [true,false,false] ([true]) [(9,3),(9,8),(10,3),(11,4),(11,8),(11,12)] Tryz.func32 (by kernel_rfl) h (zac c0 zae) lo hF z
theorem zyd (hn:n≤11)
  (l0:((t.s).get j.toNat)=true→((u.s).get j.toNat)=true→(decide (j<6))=true∧(decide (0≤j)&&decide (j<6))=true∧(AC.isB ((t.cs)[1+j.toNat*1]?.getD (.b false))&&Nat.blt (1+j.toNat*1) (t.cs).length)=true∧(decide (0≤j)&&decide (j<6))=true∧(AC.isB ((u.cs)[1+j.toNat*1]?.getD (.b false))&&Nat.blt (1+j.toNat*1) (u.cs).length)=true∧(decide (0≤j)&&decide (j<6))=true∧(Nat.ble (1+j.toNat*1+1) (b.cs).length&&true)=true∧(decide (0≤j)&&decide (j<6))=true∧(Nat.ble (7+j.toNat*4+4) (t.cs).length)=true∧(decide (0≤j)&&decide (j<6))=true∧(Nat.ble (7+j.toNat*4+4) (u.cs).length)=true∧(decide (0≤j)&&decide (j<6))=true∧(Nat.ble (7+j.toNat*4+(a.cs).length) ((St.mk b.live ((b.s).set j.toNat true) b.r).cs).length&&true)=true∧(pe (.c (.b (AC.asB ((t.cs)[1+j.toNat*1]?.getD (.b false)))))=pe (.c (.b ((t.s).get j.toNat))))∧(pe (.c (.b (AC.asB ((u.cs)[1+j.toNat*1]?.getD (.b false)))))=pe (.c (.b ((u.s).get j.toNat))))∧(we 10 ((b.cs).set (1+j.toNat*1) (.b true))=we 10 ((St.mk b.live ((b.s).set j.toNat true) b.r).cs))∧(pe (.ag (((t.cs).drop (7+j.toNat*4)).take 4))=pe (.ag ((t.r).get j.toNat).cs))∧(pe (.ag (((u.cs).drop (7+j.toNat*4)).take 4))=pe (.ag ((u.r).get j.toNat).cs))∧(Ok 84 [.ag ((t.r).get j.toNat).cs,.ag ((u.r).get j.toNat).cs] (.ag a.cs))∧(we 10 (splice (St.mk b.live ((b.s).set j.toNat true) b.r).cs (7+j.toNat*4) a.cs)=we 10 ((St.wth b j.toNat a).cs))∧Kn.Low ⟨[(2,.c (.w 0)),(3,.c (.w 1)),(4,.c (.w 2)),(5,.c (.w 10)),(6,.c (.i (IntKind.i64.wrap (j+1))))],[(0,Ent.mk true t.cs 0),(1,Ent.mk true u.cs 0),(2,Ent.mk true St.z.cs 0),(10,Ent.mk true [.b b.live,.b ((b.s).set j.toNat true).x0,.b ((b.s).set j.toNat true).x1,.b ((b.s).set j.toNat true).x2,.b ((b.s).set j.toNat true).x3,.b ((b.s).set j.toNat true).x4,.b ((b.s).set j.toNat true).x5,.u (((b.r).set j.toNat a).x0).v,.u (((b.r).set j.toNat a).x0).m,.u (((b.r).set j.toNat a).x0).l,.u (((b.r).set j.toNat a).x0).h,.u (((b.r).set j.toNat a).x1).v,.u (((b.r).set j.toNat a).x1).m,.u (((b.r).set j.toNat a).x1).l,.u (((b.r).set j.toNat a).x1).h,.u (((b.r).set j.toNat a).x2).v,.u (((b.r).set j.toNat a).x2).m,.u (((b.r).set j.toNat a).x2).l,.u (((b.r).set j.toNat a).x2).h,.u (((b.r).set j.toNat a).x3).v,.u (((b.r).set j.toNat a).x3).m,.u (((b.r).set j.toNat a).x3).l,.u (((b.r).set j.toNat a).x3).h,.u (((b.r).set j.toNat a).x4).v,.u (((b.r).set j.toNat a).x4).m,.u (((b.r).set j.toNat a).x4).l,.u (((b.r).set j.toNat a).x4).h,.u (((b.r).set j.toNat a).x5).v,.u (((b.r).set j.toNat a).x5).m,.u (((b.r).set j.toNat a).x5).l,.u (((b.r).set j.toNat a).x5).h] 0)],11⟩∧AR 32 Tryz.f32 (cx w β n []) 0 ⟨[(2,.c (.w 0)),(3,.c (.w 1)),(4,.c (.w 2)),(5,.c (.w 10)),(6,.c (.i (IntKind.i64.wrap (j+1))))],[(0,Ent.mk true t.cs 0),(1,Ent.mk true u.cs 0),(2,Ent.mk true St.z.cs 0),(10,Ent.mk true [.b b.live,.b ((b.s).set j.toNat true).x0,.b ((b.s).set j.toNat true).x1,.b ((b.s).set j.toNat true).x2,.b ((b.s).set j.toNat true).x3,.b ((b.s).set j.toNat true).x4,.b ((b.s).set j.toNat true).x5,.u (((b.r).set j.toNat a).x0).v,.u (((b.r).set j.toNat a).x0).m,.u (((b.r).set j.toNat a).x0).l,.u (((b.r).set j.toNat a).x0).h,.u (((b.r).set j.toNat a).x1).v,.u (((b.r).set j.toNat a).x1).m,.u (((b.r).set j.toNat a).x1).l,.u (((b.r).set j.toNat a).x1).h,.u (((b.r).set j.toNat a).x2).v,.u (((b.r).set j.toNat a).x2).m,.u (((b.r).set j.toNat a).x2).l,.u (((b.r).set j.toNat a).x2).h,.u (((b.r).set j.toNat a).x3).v,.u (((b.r).set j.toNat a).x3).m,.u (((b.r).set j.toNat a).x3).l,.u (((b.r).set j.toNat a).x3).h,.u (((b.r).set j.toNat a).x4).v,.u (((b.r).set j.toNat a).x4).m,.u (((b.r).set j.toNat a).x4).l,.u (((b.r).set j.toNat a).x4).h,.u (((b.r).set j.toNat a).x5).v,.u (((b.r).set j.toNat a).x5).m,.u (((b.r).set j.toNat a).x5).l,.u (((b.r).set j.toNat a).x5).h] 0)],11⟩ (REff w β E))
  (l1:((t.s).get j.toNat)=true→((u.s).get j.toNat)=false→(decide (j<6))=true∧(decide (0≤j)&&decide (j<6))=true∧(AC.isB ((t.cs)[1+j.toNat*1]?.getD (.b false))&&Nat.blt (1+j.toNat*1) (t.cs).length)=true∧(decide (0≤j)&&decide (j<6))=true∧(AC.isB ((u.cs)[1+j.toNat*1]?.getD (.b false))&&Nat.blt (1+j.toNat*1) (u.cs).length)=true∧(pe (.c (.b (AC.asB ((t.cs)[1+j.toNat*1]?.getD (.b false)))))=pe (.c (.b ((t.s).get j.toNat))))∧(pe (.c (.b (AC.asB ((u.cs)[1+j.toNat*1]?.getD (.b false)))))=pe (.c (.b ((u.s).get j.toNat))))∧Kn.Low (zc2 t u b (IntKind.i64.wrap (j+1)))∧AR 32 Tryz.f32 (cx w β n []) 0 (zc2 t u b (IntKind.i64.wrap (j+1))) (REff w β E))
  (l2:((t.s).get j.toNat)=false→(decide (j<6))=true∧(decide (0≤j)&&decide (j<6))=true∧(AC.isB ((t.cs)[1+j.toNat*1]?.getD (.b false))&&Nat.blt (1+j.toNat*1) (t.cs).length)=true∧(pe (.c (.b (AC.asB ((t.cs)[1+j.toNat*1]?.getD (.b false)))))=pe (.c (.b ((t.s).get j.toNat))))∧Kn.Low (zc2 t u b (IntKind.i64.wrap (j+1)))∧AR 32 Tryz.f32 (cx w β n []) 0 (zc2 t u b (IntKind.i64.wrap (j+1))) (REff w β E)) :
  AR 32 Tryz.f32 (cx w β n []) 0 (zc2 t u b j) (REff w β E) :=
 (tf ((t.s).get j.toNat)).elim (fun h0=>(tf ((u.s).get j.toNat)).elim (fun h1=>(match l0 h0 h1 with | ⟨o0,o1,o2,o3,o4,o5,o6,o7,o8,o9,o10,o11,o12,c0,c1,c2,c3,c4,c5,c6,lo,z⟩=>yadh (zaa o0 (zaa o1 (zaa o2 (zaa h0 (zaa o3 (zaa o4 (zaa h1 (zaa o5 (zaa o6 (zaa o7 (zaa o8 (zaa o9 (zaa o10 (zaa o11 (zaa o12 rfl))))))))))))))) c0 c1 c2 c3 c4 c5 c6 lo (fun _ hk=>Nat.lt_of_lt_of_le hk hn) z)) (fun h1=>(match l1 h0 h1 with | ⟨o0,o1,o2,o3,o4,c0,c1,lo,z⟩=>yafs (zaa o0 (zaa o1 (zaa o2 (zaa h0 (zaa o3 (zaa o4 (zaa (zad h1) rfl))))))) c0 c1 lo (fun _ hk=>Nat.lt_of_lt_of_le hk hn) z))) (fun h0=>(match l2 h0 with | ⟨o0,o1,o2,c0,lo,z⟩=>yad2 (zaa o0 (zaa o1 (zaa o2 (zaa (zad h0) rfl)))) c0 lo (fun _ hk=>Nat.lt_of_lt_of_le hk hn) z))
theorem yane :
  AR 32 Tryz.f32 (cx w β n []) 0 (zc2 t u b 6) (REff w β ⟨.ag b.cs,[],none⟩) :=
 zah [] none [false] ([true]) [] Tryz.func32 (zat rfl n) (by kernel_rfl) rfl zae
end
theorem yaew {a b:V4} (ha:a.ok=true) (hb:b.ok=true):Ok 84 [.ag a.cs,.ag b.cs] (.ag (a.join b).cs):=by
 have h1:Ok 130 [.ag [.u a.v,.u a.m],.ag [.u b.v,.u b.m]] (.ag [.u (jV a.v a.m b.v b.m),.u (jM a.v a.m b.v b.m)]):=by
  refine okc (A:=#[Bt a.v a.m,Bt b.v b.m]) (V:=Bt (jV a.v a.m b.v b.m) (jM a.v a.m b.v b.m)) (fun w=>?_) (fun _=>rfl) (fun _=>rfl) rfl
  have hj:=zvr a.v a.m b.v b.m w
  rw [(yag6 (zn2 (V4.rt_of ha) (V4.rt_of hb))).1,(yag6 (zn2 (V4.rt_of ha) (V4.rt_of hb))).2] at hj
  exact hj
 have hf:=(zkb ha hb).1
 have h2:=zdn (a:=a.rawJoin b) ((zef _ _).2 (zjw a.v a.m b.v b.m))
 unfold V4.norm at h2
 rw [if_pos (show (a.rawJoin b).nok=true from hf)] at h2
 exact zxp h1 h2
theorem yagx:Ok 30 [] (.ag beginS.cs):=yahg (a:=V4.any) zu6
abbrev rjKn (t u b:St) (j:Int):Kn:=⟨[(2,.c (.w 0)),(3,.c (.w 1)),(4,.c (.w 2)),(5,.c (.w 10)),(6,.c (.i j))],[(0,⟨true,t.cs,0⟩),(1,⟨true,u.cs,0⟩),(2,⟨true,St.z.cs,0⟩),(10,⟨true,b.cs,0⟩)],11⟩
theorem yaqe {t u:St} (ht:t.Ok) (hu:u.Ok) {w:World} {β:Bs}:∀ n,n≤6→∀ b:St,
  ART Tryz.prog 32 (cx w β 0 []) Tryz.f32.ntmps (zdm Tryz.f32 0) (rjKn t u b (6 - n:Nat)) (REff w β ⟨.ag (zc6 t u n b).cs,[],none⟩)
 | 0,_,b=>yane
 | n+1,hn,b=>by
  have hj:=zm5 hn
  have ej:=zn0 hn
  have hlt:5 - n<6:=by omega
  have f0:=zwg hj
  have f1:=zx1 t hj
  have f2:(decide (0≤((6 - (n+1):Nat):Int))&&decide (((6 - (n+1):Nat):Int)<6))=true:=hj
  have f3:=zx1 u hj
  have f4:=zbe t hj
  have f5:=zbe u hj
  have f6:=znd t hj
  have f7:=znd u hj
  have f8:=zax t hj
  have f9:=zax u hj
  have next:∀ b':St,zhz t u (5 - n) b=b'→ART Tryz.prog 32 (cx w β 0 []) Tryz.f32.ntmps (zdm Tryz.f32 0) (rjKn t u b' (IntKind.wrap IntKind.i64 (((6 - (n+1):Nat):Int)+1))) (REff w β ⟨.ag (zc6 t u (n+1) b).cs,[],none⟩):=by
   intro b' hb
   rw [zjg hn,zc6,hb]
   exact yaqe ht hu n (by omega) b'
  have hJ:t.s.get ((6 - (n+1):Nat):Int).toNat=true→u.s.get ((6 - (n+1):Nat):Int).toNat=true→Ok 84 [.ag (t.r.get ((6 - (n+1):Nat):Int).toNat).cs,.ag (u.r.get ((6 - (n+1):Nat):Int).toNat).cs] (.ag ((t.r.get ((6 - (n+1):Nat):Int).toNat).join (u.r.get ((6 - (n+1):Nat):Int).toNat)).cs):=fun a d=>by
   rw [ej] at a d ⊢
   exact yaew (ht.set _ hlt a) (hu.set _ hlt d)
  have g1:(Nat.ble (1+Int.toNat ((6 - (n+1):Nat):Int)*1+1) (List.length (St.cs b))&&true)=true :=
   zb8 (P:=fun j=>(Nat.ble (1+Int.toNat j*1+1) (List.length (St.cs b))&&true)=true) hj rfl rfl rfl rfl rfl rfl
  have g2:∀ (b:St) (a:V4),(Nat.ble (7+Int.toNat ((6 - (n+1):Nat):Int)*4+List.length (V4.cs a)) (List.length (St.cs b))&&true)=true:=fun b a =>
   zb8 (P:=fun j=>(Nat.ble (7+Int.toNat j*4+List.length (V4.cs a)) (List.length (St.cs b))&&true)=true) hj rfl rfl rfl rfl rfl rfl
  have g3:Eff.mk (AV.raw undef) [(10,List.set (St.cs b) (1+Int.toNat ((6 - (n+1):Nat):Int)*1) (AC.b true))] none=Eff.mk (AV.raw undef) [(10,St.cs (St.mk (St.live b) (V6.set (St.s b) (Int.toNat ((6 - (n+1):Nat):Int)) true) (St.r b)))] none:=by rw [zry hj]
  have g4:∀ (b:St) (a:V4),Eff.mk (AV.raw undef) [(10,splice (St.cs (St.mk (St.live b) (V6.set (St.s b) (Int.toNat ((6 - (n+1):Nat):Int)) true) (St.r b))) (7+Int.toNat ((6 - (n+1):Nat):Int)*4) (V4.cs a))] none=Eff.mk (AV.raw undef) [(10,St.cs (St.wth b (Int.toNat ((6 - (n+1):Nat):Int)) a))] none:=fun b a=>by rw [zss a hj];rfl
  refine zyd (a:=(t.r.get ((6 - (n+1):Nat):Int).toNat).join (u.r.get ((6 - (n+1):Nat):Int).toNat)) (by omega) (fun a d=>?_) (fun a d=>?_) (fun a=>?_)
  ·refine ⟨f0,f2,f1,f2,f3,f2,g1,f2,f4,f2,f5,f2,g2 _ _,f6,f7,g3,f8,f9,hJ a d,g4 _ _,zc8 rfl,?_⟩
   refine next (b.wth ((6 - (n+1):Nat):Int).toNat ((t.r.get ((6 - (n+1):Nat):Int).toNat).join (u.r.get ((6 - (n+1):Nat):Int).toNat))) ?_
   rw [ej] at a d ⊢
   unfold zhz;rw [a,d];rfl
  ·repeat' apply And.intro
   all_goals first | assumption | exact zc8 rfl | exact next b (by rw [ej] at a d;unfold zhz;rw [a,d];rfl)
  ·repeat' apply And.intro
   all_goals first | assumption | exact zc8 rfl | exact next b (by rw [ej] at a;unfold zhz;rw [a];rfl)
theorem zob {t u:St} (ht:t.Ok) (hu:u.Ok):Ok 32 [.ag t.cs,.ag u.cs] (.ag (t.join u).cs):=by
 refine zk7 Tryz.func32 rfl rfl rfl rfl fun w β=>?_
 unfold St.join
 refine yai2 (Nat.zero_le 11) (fun a=>?_) (fun a b=>?_) (fun a b=>⟨zc8 rfl,?_⟩)
 ·rw [if_neg (by simpa using a)]
 ·rw [if_pos (by simpa using a),if_neg (by simpa using b)]
 ·rw [if_pos (by simpa using a),if_pos (by simpa using b)]
  exact yaqe ht hu 6 (Nat.le_refl 6) St.e
section
abbrev zl4 (L:List Ins) (c j:Nat) (S:List St):Kn:=⟨[(2,.c (.w 1)),(5,.c (.sl 10 0 L.length L.length)),(24,.c (.sl 0 0 L.length c)),(25,.c (.i (L.length:Int))),(26,.c (.i (j:Int)))],[(0,Ent.mk false (pcell L) 0),(1,Ent.mk true [.i 0,.i 0,zco] 0),(10,Ent.mk true (scell S) 0)],11⟩
variable {S S1 S2:List St} {q c n j:Nat} {k e tr g:Int} {t j1 b a:St} {w:World} {β:Bs} {E:Eff} {L:List Ins} {C:Cx} {R:Ending→World→Prop}
theorem yauw (h:(t.live&&(decide (0≤k)&&decide (k<(q:Int))&&(Nat.ble (0+k.toNat*31+31) (scell S).length&&(decide (0≤k)&&decide (k<(q:Int))&&(Nat.ble (0+k.toNat*31+(j1.cs).length) (scell S).length&&true&&true)))))=true) (c0:pe (.ag (((scell S).drop (0+k.toNat*31)).take 31))=pe (.ag (stAt S k.toNat).cs)) (c1:Ok 59 [.ag (stAt S k.toNat).cs,.ag t.cs] (.tu [.ag j1.cs,.c (.i e)])) (c2:we 0 (splice (scell S) (0+k.toNat*31) j1.cs)=we 0 (scell (S.set k.toNat j1))) (hk:EKeys n [0] none ⟨.tu [],[(0,scell (S.set k.toNat j1))],none⟩) :
  BO 23 Tryz.f23 (cx w β n [0]) [.c (.sl 0 0 q c),.c (.i k),.ag t.cs] [(0,Ent.mk true (scell S) 0)] 1 (REff w β ⟨.tu [],[(0,scell (S.set k.toNat j1))],none⟩) :=
 zah [0] none [true] ([]) [(2,5),(2,12)] Tryz.func23 hk (by kernel_rfl) h (zac c0 (zab c1 (zac c2 zae)))
theorem yart (h:(!t.live&&true)=true) (hk:EKeys n [0] none ⟨.tu [],[(0,scell S)],none⟩) :
  BO 23 Tryz.f23 (cx w β n [0]) [.c (.sl 0 0 q c),.c (.i k),.ag t.cs] [(0,Ent.mk true (scell S) 0)] 1 (REff w β ⟨.tu [],[(0,scell S)],none⟩) :=
 zah [0] none [false] ([]) [(2,5),(2,12)] Tryz.func23 hk (by kernel_rfl) h zae
theorem yam5
  (l0:t.live=true→(decide (0≤k)&&decide (k<(q:Int)))=true∧(Nat.ble (0+k.toNat*31+31) (scell S).length)=true∧(decide (0≤k)&&decide (k<(q:Int)))=true∧(Nat.ble (0+k.toNat*31+(j1.cs).length) (scell S).length&&true)=true∧(pe (.ag (((scell S).drop (0+k.toNat*31)).take 31))=pe (.ag (stAt S k.toNat).cs))∧(Ok 59 [.ag (stAt S k.toNat).cs,.ag t.cs] (.tu [.ag j1.cs,.c (.i e)]))∧(we 0 (splice (scell S) (0+k.toNat*31) j1.cs)=we 0 (scell (S.set k.toNat j1)))∧EKeys n [0] none ⟨.tu [],[(0,scell (S.set k.toNat j1))],none⟩∧((⟨.tu [],[(0,scell (S.set k.toNat j1))],none⟩:Eff)=E))
  (l1:t.live=false→EKeys n [0] none ⟨.tu [],[(0,scell S)],none⟩∧((⟨.tu [],[(0,scell S)],none⟩:Eff)=E)) :
  BO 23 Tryz.f23 (cx w β n [0]) [.c (.sl 0 0 q c),.c (.i k),.ag t.cs] [(0,Ent.mk true (scell S) 0)] 1 (REff w β E) :=
 (tf t.live).elim (fun h0=>(match l0 h0 with | ⟨o0,o1,o2,o3,c0,c1,c2,hk,e⟩=>za6 (yauw (zaa h0 (zaa o0 (zaa o1 (zaa o2 (zaa o3 rfl))))) c0 c1 c2 hk) e)) (fun h0=>(match l1 h0 with | ⟨hk,e⟩=>za6 (yart (zaa (zad h0) rfl) hk) e))
theorem yauo (h:(!e != 0&&(decide ((L.length:Int)≤(L.length:Int))&&decide ((L.length:Int)≤1099511627776)&&true&&(decide (0<(L.length:Int))&&(Nat.ble (0+(b.cs).length) (scell (List.replicate L.length St.z)).length&&true&&true))))=true) (c0:CO 19 [.c (.sl 0 0 L.length c)] [(0,Ent.mk false (pcell L) 0)] (pe (.c (.i e)))) (c1:Eff.mk (.c (.sl 10 0 (L.length:Int).toNat (L.length:Int).toNat)) [] (some (1+2+3+2+2,Ent.mk true (rows (L.length:Int).toNat St.z.cs) 0))=Eff.mk (.c (.sl 10 0 L.length L.length)) [] (some (10,Ent.mk true (scell (List.replicate L.length St.z)) 0))) (c2:Ok 20 [] (.ag b.cs)) (c3:we 10 (splice (scell (List.replicate L.length St.z)) 0 b.cs)=we 10 (scell ((List.replicate L.length St.z).set 0 b))) (lo:Kn.Low ⟨[(2,.c (.w 1)),(5,.c (.sl 10 0 L.length L.length)),(24,.c (.sl 0 0 L.length c)),(25,.c (.i (L.length:Int))),(26,.c (.i 0))],[(0,Ent.mk false (pcell L) 0),(1,Ent.mk true [.i 0,.i 0,zco] 0),(10,Ent.mk true (scell ((List.replicate L.length St.z).set 0 b)) 0)],11⟩) (hF:∀ k,C.F k→k<11) (z:AR 8 Tryz.f8 C 0 ⟨[(2,.c (.w 1)),(5,.c (.sl 10 0 L.length L.length)),(24,.c (.sl 0 0 L.length c)),(25,.c (.i (L.length:Int))),(26,.c (.i 0))],[(0,Ent.mk false (pcell L) 0),(1,Ent.mk true [.i 0,.i 0,zco] 0),(10,Ent.mk true (scell ((List.replicate L.length St.z).set 0 b)) 0)],11⟩ R) :
  BO 8 Tryz.f8 C [.c (.sl 0 0 L.length c)] [(0,Ent.mk false (pcell L) 0)] 1 R :=
 zai [false] ([true]) [(4,2),(5,3)] Tryz.func8 (by kernel_rfl) h (zab c0 (zac c1 (zab c2 (zac c3 zae)))) lo hF z
theorem yaoo (h:(decide ((j:Int)<(L.length:Int))&&(decide ((j:Int)<(L.length:Int))&&(Nat.ble (0+(j:Int).toNat*5+5) (pcell L).length&&(decide ((j:Int)<(L.length:Int))&&(Nat.ble (0+(j:Int).toNat*31+31) (scell S).length&&(tr != 0&&(decide ((↑(j+1):Int)≤(L.length:Int))&&decide ((L.length:Int)≤(L.length:Int))&&true)))))))=true) (c0:pe (.ag (((pcell L).drop (0+(j:Int).toNat*5)).take 5))=pe (.ag (elt L j).cs)) (c1:pe (.ag (((scell S).drop (0+(j:Int).toNat*31)).take 31))=pe (.ag (stAt S j).cs)) (c2:Ok 21 [.ag (elt L j).cs,.ag (stAt S j).cs] (.tu [.ag a.cs,.ag b.cs,.c (.i tr),.c (.i g)])) (c3:pe (.c (.i (IntKind.i64.wrap ((j:Int)+1))))=pe (.c (.i (↑(j+1):Int)))) (c4:pe (.c (.sl 10 0 ((↑(j+1):Int)).toNat ((L.length:Int)).toNat))=pe (.c (.sl 10 0 (j+1) L.length))) (c5:CO 22 [.c (.sl 10 0 (j+1) L.length)] [(10,Ent.mk true (scell S) 0)] (Eff.mk (.c (.sx 43 (j+1))) [] (some (43,Ent.mk true (scell (S.take (j+1))) 31)))) (hk:EKeys n [] (some 43) ⟨.tu [.ag [.i tr,.i (j:Int),.sx 43 (j+1)],.c (.i 0)],[],some (43,Ent.mk true (scell (S.take (j+1))) 31)⟩) :
  AR 8 Tryz.f8 (cx w β n []) 0 (zl4 L c j S) (REff w β ⟨.tu [.ag [.i tr,.i (j:Int),.sx 43 (j+1)],.c (.i 0)],[],some (43,Ent.mk true (scell (S.take (j+1))) 31)⟩) :=
 zah [] (some 43) [true,true] ([true]) [(8,2),(9,4),(11,4),(11,5)] Tryz.func8 hk (by kernel_rfl) h (zac c0 (zac c1 (zab c2 (zac c3 (zac c4 (zab c5 zae))))))
theorem yakd (h:(decide ((j:Int)<(L.length:Int))&&(decide ((j:Int)<(L.length:Int))&&(Nat.ble (0+(j:Int).toNat*5+5) (pcell L).length&&(decide ((j:Int)<(L.length:Int))&&(Nat.ble (0+(j:Int).toNat*31+31) (scell S).length&&(!tr != 0&&true))))))=true) (c0:pe (.ag (((pcell L).drop (0+(j:Int).toNat*5)).take 5))=pe (.ag (elt L j).cs)) (c1:pe (.ag (((scell S).drop (0+(j:Int).toNat*31)).take 31))=pe (.ag (stAt S j).cs)) (c2:Ok 21 [.ag (elt L j).cs,.ag (stAt S j).cs] (.tu [.ag a.cs,.ag b.cs,.c (.i tr),.c (.i g)])) (c3:pe (.c (.i (IntKind.i64.wrap ((j:Int)+1))))=pe (.c (.i (↑(j+1):Int)))) (c4:CO 23 [.c (.sl 10 0 L.length L.length),.c (.i (↑(j+1):Int)),.ag a.cs] [(10,Ent.mk true (scell S) 0)] (Eff.mk (.tu []) [(10,scell S1)] none)) (c5:pe (.c (.i (IntKind.i64.wrap ((j:Int)+1))))=pe (.c (.i (↑(j+1):Int)))) (c6:pe (.c (.i (IntKind.i64.wrap ((↑(j+1):Int)+(elt L j).of))))=pe (.c (.i ((↑(j+1):Int)+(elt L j).of)))) (c7:CO 23 [.c (.sl 10 0 L.length L.length),.c (.i ((↑(j+1):Int)+(elt L j).of)),.ag b.cs] [(10,Ent.mk true (scell S1) 0)] (Eff.mk (.tu []) [(10,scell S2)] none)) (c8:pe (.c (.i (IntKind.i64.wrap ((j:Int)+1))))=pe (.c (.i (↑(j+1):Int)))) (lo:Kn.Low (zl4 L c (j+1) S2)) (hF:∀ k,C.F k→k<11) (z:AR 8 Tryz.f8 C 0 (zl4 L c (j+1) S2) R) :
  AR 8 Tryz.f8 C 0 (zl4 L c j S) R :=
 zai [true,false] ([true]) [(8,2),(9,4),(12,2),(13,2),(13,5),(14,0)] Tryz.func8 (by kernel_rfl) h (zac c0 (zac c1 (zab c2 (zac c3 (zab c4 (zac c5 (zac c6 (zab c7 (zac c8 zae))))))))) lo hF z
theorem yaua (h:(!decide ((j:Int)<(L.length:Int))&&true)=true) (hk:EKeys n [] (some 10) ⟨.tu [.ag [.i 0,.i 0,.sl 10 0 L.length L.length],.c (.i 0)],[],some (10,Ent.mk true (scell S) 0)⟩) :
  AR 8 Tryz.f8 (cx w β n []) 0 (zl4 L c j S) (REff w β ⟨.tu [.ag [.i 0,.i 0,.sl 10 0 L.length L.length],.c (.i 0)],[],some (10,Ent.mk true (scell S) 0)⟩) :=
 zah [] (some 10) [false] ([true]) [] Tryz.func8 hk (by kernel_rfl) h zae
end
section
variable {S:List St} {q c n:Nat} {w:World} {β:Bs} {L:List Ins}
theorem yaks (h:(Nat.ble (0+q*31) (scell S).length&&(decide (0+q≤137438953472)&&decide (0<0+q))&&true)=true) (c0:Eff.mk (.c (.sx 6 (0+q))) [] (some (1+1+2+2,Ent.mk true (((rows 0 St.z.cs).drop 0).take 0++((scell S).drop 0).take (q*31)) 31))=Eff.mk (.c (.sx 6 q)) [] (some (6,Ent.mk true (scell (S.take q)) 31))) (hk:EKeys n [] (some 6) ⟨.c (.sx 6 q),[],some (6,Ent.mk true (scell (S.take q)) 31)⟩) :
  BO 22 Tryz.f22 (cx w β n []) [.c (.sl 0 0 q c)] [(0,Ent.mk false (scell S) 0)] 1 (REff w β ⟨.c (.sx 6 q),[],some (6,Ent.mk true (scell (S.take q)) 31)⟩) :=
 zah [] (some 6) [false] ([]) [(3,2)] Tryz.func22 hk (by kernel_rfl) h (zac c0 zae)
theorem yaji (h:(Nat.ble (0+L.length*5) (pcell L).length&&(decide (0+L.length≤137438953472)&&decide (0<0+L.length))&&true)=true) (c0:Eff.mk (.c (.sx 6 (0+L.length))) [] (some (1+1+2+2,Ent.mk true (((rows 0 [.i 0,.i 0,.i 0,.u 0#64,.i 0]).drop 0).take 0++((pcell L).drop 0).take (L.length*5)) 5))=Eff.mk (.c (.sx 6 L.length)) [] (some (6,Ent.mk true (pcell L) 5))) (hk:EKeys n [] (some 6) ⟨.c (.sx 6 L.length),[],some (6,Ent.mk true (pcell L) 5)⟩) :
  BO 114 Tryz.f114 (cx w β n []) [.c (.sl 0 0 L.length c)] [(0,Ent.mk false (pcell L) 0)] 1 (REff w β ⟨.c (.sx 6 L.length),[],some (6,Ent.mk true (pcell L) 5)⟩) :=
 zah [] (some 6) [false] ([]) [(3,2)] Tryz.func114 hk (by kernel_rfl) h (zac c0 zae)
end
end Go.Proofs.YtkigmocchaikgabGreatDoor
namespace Go.Proofs.YtkigmocchaikgabGreatDoor
theorem yass {S:List St} {k:Nat} (h:S.length≤k):stAt S k=St.z:=by
 unfold stAt
 rw [List.getD_eq_getElem?_getD,List.getElem?_eq_none h];rfl
theorem yaa3 {S:List St} {k j:Nat} {t:St}:stAt (S.set k t) j=if k=j∧k<S.length then t else stAt S j:=by
 unfold stAt
 rw [List.getD_eq_getElem?_getD,List.getD_eq_getElem?_getD,List.getElem?_set]
 by_cases c:k=j
 ·subst c
  by_cases c2:k<S.length
  ·simp [c2]
  ·simp [c2]
 ·simp [c]
theorem zjb {S:List St} {n j:Nat} (h:j<n):stAt (S.take n) j=stAt S j:=by
 unfold stAt
 rw [List.getD_eq_getElem?_getD,List.getD_eq_getElem?_getD,List.getElem?_take,if_pos h]
theorem zds (S:List St) (k:Nat) (t:St):(addS S k t).length=S.length:=by
 unfold addS;split
 ·exact List.length_set
 ·rfl
theorem zfq {S:List St} {k j:Nat} {t:St}:stAt (addS S k t) j=if t.live=true∧k=j∧k<S.length then (stAt S j).join t else stAt S j:=by
 unfold addS
 by_cases h:t.live=true
 ·rw [if_pos h,yaa3]
  by_cases c:k=j
  ·subst c;simp [h]
  ·simp [c]
 ·rw [if_neg h,if_neg (by simp [h])]
theorem yair {S:List St} {k j:Nat} {t:St} (h:k≠j):stAt (addS S k t) j=stAt S j:=by rw [zfq,if_neg (by simp [h])]
theorem zj1 {S:List St} {k:Nat} {t:St} (h:∀ j,(stAt S j).Ok) (ht:t.Ok):∀ j,(stAt (addS S k t) j).Ok:=by
 intro j
 rw [zfq]
 split
 ·exact St.join_Ok (h j) ht
 ·exact h j
theorem zok {S:List St} {k j:Nat} {t:St} {m:Mach} (h:∀ j,(stAt S j).Ok) (ht:t.Ok) (hm:(stAt S j).Has m):(stAt (addS S k t) j).Has m:=by
 rw [zfq]
 split
 ·exact St.join_Has (h j) ht (Or.inl hm)
 ·exact hm
theorem yaae {S:List St} {k:Nat} {t:St} {m:Mach} (h:∀ j,(stAt S j).Ok) (ht:t.Ok) (hk:k<S.length) (hm:t.Has m):(stAt (addS S k t) k).Has m:=by
 rw [zfq,if_pos ⟨hm.live,rfl,hk⟩]
 exact St.join_Has (h k) ht (Or.inr hm)
theorem zkp (n:Nat):(zey n).length=n:=by simp [zey]
theorem yajg {n j:Nat} (hn:0<n):stAt (zey n) j=if j=0 then beginS else St.z:=by
 unfold zey
 rw [yaa3]
 by_cases c:j=0
 ·subst c;simp [hn]
 ·rw [if_neg (by omega),if_neg c]
  unfold stAt
  rw [List.getD_eq_getElem?_getD,List.getElem?_replicate]
  split <;> rfl
theorem znc {n:Nat} (hn:0<n):∀ j,(stAt (zey n) j).Ok:=by
 intro j
 rw [yajg hn]
 split
 ·exact yakj
 ·exact St.z_Ok
theorem zdg {L:List Ins} {k:Nat} (hP:RightP L) (hk:k<L.length):Right (elt L k) ((L.length - 1 - k:Nat):Int):=hP.step k hk
theorem znu {L:List Ins} (hP:RightP L):(elt L (L.length - 1)).op=15:=hP.last
theorem yaqq {L:List Ins} {k:Nat} {t:St} (hP:RightP L) (hk:k<L.length) (h:(zag (elt L k) t).1.live=true):k+1<L.length:=by
 rcases Nat.lt_or_ge (k+1) L.length with h1 | h1
 ·exact h1
 ·have e:k=L.length - 1:=by omega
  have ho:=znu hP
  rw [← e] at ho
  unfold zag goS at h
  rw [ho] at h
  split at h
  ·split at h
   ·cases h
   ·cases h
  ·cases h
theorem zs8 {L:List Ins} {k:Nat} {t:St} (hP:RightP L) (hk:k<L.length) (h:(zag (elt L k) t).2.1.live=true):0≤(elt L k).of∧k+1+(elt L k).of.toNat<L.length∧((elt L k).op=12∨(elt L k).op=13∨(elt L k).op=14):=by
 have hr:=zdg hP hk
 unfold zag at h
 split at h
 ·split at h
  ·unfold goS at h
   by_cases c1:(elt L k).op=10
   ·rw [if_pos c1] at h;cases h
   rw [if_neg c1] at h
   by_cases c2:(elt L k).op=11
   ·rw [if_pos c2] at h;cases h
   rw [if_neg c2] at h
   by_cases c3:(elt L k).op=12
   ·have:=zfm hr c3
    exact ⟨this.1,by omega,Or.inl c3⟩
   rw [if_neg c3] at h
   by_cases c4:(elt L k).op=13
   ·have:=zce hr (Or.inl c4)
    exact ⟨this.2.2.1,by omega,Or.inr (Or.inl c4)⟩
   rw [if_neg c4] at h
   by_cases c5:(elt L k).op=14
   ·have:=zce hr (Or.inr c5)
    exact ⟨this.2.2.1,by omega,Or.inr (Or.inr c5)⟩
   rw [if_neg c5] at h
   by_cases c6:(elt L k).op=15
   ·rw [if_pos c6] at h;cases h
   rw [if_neg c6] at h
   by_cases c7:(elt L k).op=1
   ·rw [if_pos c7] at h;cases h
   rw [if_neg c7] at h;cases h
  ·cases h
 ·cases h
structure VOut (L:List Ins) (k:Nat) (S:List St) (R:Rep):Prop where
 ok:∀ j,(stAt R.sts j).Ok
 same:∀ j,j≤k→k<L.length→stAt R.sts j=stAt S j
 keep:∀ j m,(stAt S j).Has m→(R.trap=0∨(j:Int)≤R.pos)→(stAt R.sts j).Has m
 step:∀ j,k≤j→j<L.length→(R.trap=0∨(j:Int)<R.pos)→(zag (elt L j) (stAt R.sts j)).2.2=0 ∧
  (∀ m,(zag (elt L j) (stAt R.sts j)).1.Has m→(R.trap=0∨((j+1:Nat):Int)≤R.pos)→(stAt R.sts (j+1)).Has m) ∧
  (∀ m,(zag (elt L j) (stAt R.sts j)).2.1.Has m→(R.trap=0∨((j+1+(elt L j).of.toNat:Nat):Int)≤R.pos)→(stAt R.sts (j+1+(elt L j).of.toNat)).Has m)
 none:R.trap=0→R.pos=0∧R.sts.length=L.length
 some:R.trap≠0→∃ p:Nat,R.pos=p∧k≤p∧p<L.length∧R.sts.length=p+1∧(zag (elt L p) (stAt R.sts p)).2.2=R.trap
theorem zz7 {L:List Ins} (hP:RightP L):∀ (n k:Nat) (S:List St),k+n=L.length→S.length=L.length→(∀ j,(stAt S j).Ok)→VOut L k S (verL L n k S)
 | 0,k,S,hk,hS,hok=>⟨hok,fun _ _ _=>rfl,fun _ _ h _=>h,fun j h1 h2=>by omega,fun _=>⟨rfl,hS⟩,fun h=>absurd rfl h⟩
 | n+1,k,S,hk,hS,hok=>by
  have hlt:k<L.length:=by omega
  have hr:=zdg hP hlt
  obtain ⟨q1,q2⟩:=zqr hr (hok k)
  unfold verL
  by_cases h0:(zag (elt L k) (stAt S k)).2.2=0
  ·rw [if_pos h0]
   have hok1:=zj1 (k:=k+1) hok q1
   have hok2:=zj1 (k:=k+1+(elt L k).of.toNat) hok1 q2
   have ih:=zz7 hP n (k+1) (addS (addS S (k+1) (zag (elt L k) (stAt S k)).1) (k+1+(elt L k).of.toNat) (zag (elt L k) (stAt S k)).2.1) (by omega) (by rw [zds,zds];exact hS) hok2
   have hsame:∀ j,j≤k→stAt (addS (addS S (k+1) (zag (elt L k) (stAt S k)).1) (k+1+(elt L k).of.toNat) (zag (elt L k) (stAt S k)).2.1) j=stAt S j:=by
    intro j hj
    rw [yair (by omega),yair (by omega)]
   have hsk:∀ j,j≤k→stAt (verL L n (k+1) (addS (addS S (k+1) (zag (elt L k) (stAt S k)).1) (k+1+(elt L k).of.toNat) (zag (elt L k) (stAt S k)).2.1)).sts j=stAt S j:=by
    intro j hj
    by_cases c:k+1<L.length
    ·rw [ih.same j (by omega) c,hsame j hj]
    ·have:n=0:=by omega
     subst this
     exact hsame j hj
   refine ⟨ih.ok,fun j hj _=>hsk j hj,fun j m hm hb=>ih.keep j m (zok hok1 q2 (zok hok q1 hm)) hb,fun j h1 h2 hb=>?_,ih.none,fun h=>?_⟩
   ·by_cases c:j=k
    ·subst c
     rw [hsk j (Nat.le_refl _)]
     refine ⟨h0,fun m hm hb=>?_,fun m hm hb=>?_⟩
     ·have h3:=yaqq hP h2 hm.live
      exact ih.keep _ m (zok hok1 q2 (yaae hok q1 (by omega) hm)) hb
     ·have h3:=zs8 hP h2 hm.live
      exact ih.keep _ m (yaae hok1 q2 (by rw [zds];omega) hm) hb
    ·exact ih.step j (by omega) h2 hb
   ·obtain ⟨p,h1,h2,h3⟩:=ih.some h
    exact ⟨p,h1,by omega,h3⟩
  ·rw [if_neg h0]
   refine ⟨fun j=>?_,fun j hj _=>zjb (by omega),fun j m hm hb=>?_,fun j h1 _ hb=>?_,fun h=>absurd h h0,fun _=>⟨k,rfl,Nat.le_refl _,hlt,?_,?_⟩⟩
   ·by_cases c:j<k+1
    ·show (stAt (S.take (k+1)) j).Ok
     rw [zjb c];exact hok j
    ·show (stAt (S.take (k+1)) j).Ok
     rw [yass (by rw [List.length_take];omega)];exact St.z_Ok
   ·have:(j:Int)≤(k:Int):=hb.resolve_left h0
    show (stAt (S.take (k+1)) j).Has m
    rw [zjb (by omega)];exact hm
   ·have:(j:Int)<(k:Int):=hb.resolve_left h0
    omega
   ·show (S.take (k+1)).length=k+1
    rw [List.length_take];omega
   ·show (zag (elt L k) (stAt (S.take (k+1)) k)).2.2=_
    rw [zjb (by omega)]
theorem zhh {L:List Ins} (hP:RightP L):VOut L 0 (zey L.length) (zar L) :=
 zz7 hP L.length 0 _ (by omega) (zkp _) (znc hP.pos)
end Go.Proofs.YtkigmocchaikgabGreatDoor
namespace Go.Proofs.YtkigmocchaikgabGreatDoor
open Go.RowKit
section
variable {α:Type} {f:α→List AC} {m:Nat}
theorem zq0 (hf:∀ x,(f x).length=m):∀ l:List α,(l.flatMap f).length=l.length*m
 | []=>by simp
 | x::l=>by rw [List.flatMap_cons,List.length_append,hf,zq0 hf l,List.length_cons,Nat.add_mul,Nat.one_mul,Nat.add_comm]
theorem zny (hf:∀ x,(f x).length=m):∀ (l:List α) (k:Nat),(l.flatMap f).drop (k*m)=(l.drop k).flatMap f
 | l,0=>by simp
 | [],k+1=>by simp
 | x::l,k+1=>by
  rw [List.flatMap_cons,show (k+1)*m=(f x).length+k*m by rw [hf,Nat.add_mul,Nat.one_mul,Nat.add_comm],← List.drop_drop,List.drop_left,zny hf l k]
  rfl
theorem zoi (hf:∀ x,(f x).length=m):∀ (l:List α) (k:Nat),(l.flatMap f).take (k*m)=(l.take k).flatMap f
 | l,0=>by simp
 | [],k+1=>by simp
 | x::l,k+1=>by
  rw [List.flatMap_cons,show (k+1)*m=(f x).length+k*m by rw [hf,Nat.add_mul,Nat.one_mul,Nat.add_comm],List.take_append,Nat.add_sub_cancel_left,zoi hf l k,List.take_of_length_le (by omega)]
  rfl
theorem yaha (hf:∀ x,(f x).length=m) {l:List α} {k:Nat} (d:α) (h:k<l.length):((l.flatMap f).drop (k*m)).take m=f (l.getD k d):=by
 rw [zny hf,List.drop_eq_getElem_cons h,List.flatMap_cons,List.getD_eq_getElem?_getD,List.getElem?_eq_getElem h]
 rw [List.take_append_of_le_length (by rw [hf];exact Nat.le_refl _)]
 exact List.take_of_length_le (by rw [hf];exact Nat.le_refl _)
theorem zqt (hf:∀ x,(f x).length=m) {l:List α} {k:Nat} (x:α) (h:k<l.length):(l.flatMap f).take (k*m)++(f x++(l.flatMap f).drop (k*m+(f x).length))=(l.set k x).flatMap f:=by
 rw [hf,show k*m+m=(k+1)*m by rw [Nat.add_mul,Nat.one_mul],zoi hf,zny hf,List.set_eq_take_append_cons_drop,if_pos h,List.flatMap_append,List.flatMap_cons]
theorem zwt (hf:∀ x,(f x).flatMap AC.ks=[]):∀ l:List α,(l.flatMap f).flatMap AC.ks=[]
 | []=>rfl
 | x::l=>by rw [List.flatMap_cons,List.flatMap_append,hf,zwt hf l];rfl
theorem zm8 (x:α):∀ n:Nat,rows n (f x)=(List.replicate n x).flatMap f
 | 0=>rfl
 | n+1=>by
  have:=zm8 x n
  unfold rows at this ⊢
  rw [List.replicate_succ,List.flatten_cons,this,List.replicate_succ,List.flatMap_cons]
end
theorem zez (S:List St):(scell S).length=S.length*31:=zq0 (f:=St.cs) (fun _=>rfl) S
theorem za9 (S:List St):(scell S).flatMap AC.ks=[]:=zwt (f:=St.cs) (fun _=>rfl) S
theorem yapw {S:List St} {k:Nat} (h:k<S.length):List.take 31 (List.drop (k*31) (scell S))=(stAt S k).cs:=yaha (f:=St.cs) (fun _=>rfl) St.z h
theorem zgu {S:List St} {k:Nat} (t:St) (h:k<S.length):splice (scell S) (k*31) t.cs=scell (S.set k t):=zqt (f:=St.cs) (fun _=>rfl) t h
theorem yadt (S:List St) (q:Nat):List.take (q*31) (scell S)=scell (S.take q):=zoi (f:=St.cs) (fun _=>rfl) S q
theorem zps (n:Nat):rows n St.z.cs=scell (List.replicate n St.z):=zm8 (f:=St.cs) St.z n
theorem ziv {L:List Ins} {k:Nat} (i:Ins) (h:k<L.length):splice (pcell L) (k*5) i.cs=pcell (L.set k i):=zqt (f:=Ins.cs) (fun _=>rfl) i h
theorem sble {S:List St} {k:Nat} (h:k<S.length):Nat.ble (0+k*31+31) (scell S).length=true:=by
 rw [zez,Nat.ble_eq];omega
theorem zfw {S:List St} {k:Nat} (h:k<S.length):Eff.mk (AV.ag (List.take 31 (List.drop (0+k*31) (scell S)))) [] none=Eff.mk (AV.ag (St.cs (stAt S k))) [] none:=by
 rw [Nat.zero_add,yapw h]
theorem zcs {P:Program} {f:FuncId} {fn:Func} {args:List AV} {cs:List AC} {K:Nat} {en:Ent} {v:AV} (hf:P.funcs[f]?=some fn) (hb:fn.body.isSome=true) (hN:Nat.ble args.length fn.ntmps=true) (ha:(zev args).all (fun k=>Nat.blt k 1)=true) (hcs:cs.flatMap AC.ks=[]) (hK:1≤K) (hv:v.ks=[K]) (hc:en.cells.flatMap AC.ks=[])
  (h:∀ w β,EKeys 1 [] (some K) ⟨v,[],some (K,en)⟩→ART P f (cx w β 1 []) fn.ntmps [.code (zdp fn)] (Kn.start args [(0,⟨false,cs,0⟩)] 1) (REff w β ⟨v,[],some (K,en)⟩)):CallOK P ⟨f,args,[(0,⟨false,cs,0⟩)],⟨v,[],some (K,en)⟩⟩:=by
 have e:EKeys 1 [] (some K) ⟨v,[],some (K,en)⟩:=by
  refine ⟨fun k hk=>Or.inr ?_,fun _ _ hm=>(nomatch hm),fun k en' h'=>?_,fun _ h=>(nomatch h),fun k h=>⟨?_,rfl⟩⟩
  ·simp only at hk;rw [hv] at hk;rw [List.mem_singleton.1 hk]
  ·injection h' with h';injection h' with _ h';subst h';exact hc
  ·injection h with h;subst h;exact hK
 have hB:Begin args [(0,⟨false,cs,0⟩)] 1:=by
  refine ⟨fun v hv k hk=>?_,fun k e he=>?_⟩
  ·have h2:=List.all_eq_true.1 ha k (List.mem_flatMap.2 ⟨v,hv,hk⟩)
   simpa using h2
  ·obtain ⟨rfl,rfl⟩:=zbh he
   exact ⟨by decide,fun c hc j hj=>(ze1 hcs hc hj).elim⟩
 refine zm4 [] (some K) hf hb hN hB (fun k hk=>Or.inr ?_) (fun k en' h'=>?_) (fun k h=>⟨en,?_⟩) e (fun _ _ hm=>(nomatch hm)) (fun k en h1 h2=>?_) fun w β _=>h w β e
 ·simp only at hk;rw [hv] at hk;rw [List.mem_singleton.1 hk]
 ·injection h' with h';injection h' with h' _;rw [h']
 ·injection h with h;subst h;rfl
 ·obtain ⟨_,rfl⟩:=zbh h1;cases h2
theorem yah1 {S:List St} {q c:Nat} (h0:0<q) (h1:q≤S.length) (h2:q≤64):CallOK Tryz.prog ⟨22,[.c (.sl 0 0 q c)],[(0,⟨false,scell S,0⟩)],⟨.c (.sx 6 q),[],some (6,⟨true,scell (S.take q),31⟩)⟩⟩:=by
 refine zcs Tryz.func22 rfl rfl rfl (za9 S) (by decide) rfl (za9 _) fun w β hk=>yaks ?_ ?_ hk
 ·have e:Nat.ble (0+q*31) (scell S).length=true:=by rw [zez,Nat.ble_eq];omega
  rw [e,decide_eq_true (by omega:0+q≤137438953472),decide_eq_true (by omega:0<0+q)];rfl
 ·rw [Nat.zero_add,List.drop_zero,List.drop_zero,yadt];rfl
theorem yagg {L:List Ins} {c:Nat} (h0:0<L.length) (h2:L.length≤64):CallOK Tryz.prog ⟨114,[.c (.sl 0 0 L.length c)],pH L,⟨.c (.sx 6 L.length),[],some (6,⟨true,pcell L,5⟩)⟩⟩:=by
 refine zcs Tryz.func114 rfl rfl rfl (zaj L) (by decide) rfl (zaj _) fun w β hk=>yaji ?_ ?_ hk
 ·have e:Nat.ble (0+L.length*5) (pcell L).length=true:=by rw [zau,Nat.ble_eq];omega
  rw [e,decide_eq_true (by omega:0+L.length≤137438953472),decide_eq_true (by omega:0<0+L.length)];rfl
 ·rw [Nat.zero_add,List.drop_zero,List.drop_zero,← zau,List.take_length];rfl
theorem ybat {P:Program} {f:FuncId} {fn:Func} {args:List AV} {cs cs':List AC} {v:AV} (hf:P.funcs[f]?=some fn) (hb:fn.body.isSome=true) (hN:Nat.ble args.length fn.ntmps=true) (ha:(zev args).all (fun k=>Nat.blt k 1)=true) (hcs:cs.flatMap AC.ks=[]) (hne:cs≠[]) (hv:v.ks=[]) (hc:cs'.flatMap AC.ks=[])
  (h:∀ w β,EKeys 1 [0] none ⟨v,[(0,cs')],none⟩→ART P f (cx w β 1 [0]) fn.ntmps [.code (zdp fn)] (Kn.start args [(0,⟨true,cs,0⟩)] 1) (REff w β ⟨v,[(0,cs')],none⟩)):CallOK P ⟨f,args,[(0,⟨true,cs,0⟩)],⟨v,[(0,cs')],none⟩⟩:=by
 have e:EKeys 1 [0] none ⟨v,[(0,cs')],none⟩:=by
  refine ⟨fun k hk=>?_,fun k cs hm=>?_,fun _ _ h'=>(nomatch h'),fun k h=>?_,fun _ h=>(nomatch h)⟩
  ·simp only at hk;rw [hv] at hk;cases hk
  ·have:=List.mem_singleton.1 hm;injection this with _ h2;subst h2;exact hc
  ·rw [List.mem_singleton.1 h];decide
 have hB:Begin args [(0,⟨true,cs,0⟩)] 1:=by
  refine ⟨fun v hv k hk=>?_,fun k e he=>?_⟩
  ·have h2:=List.all_eq_true.1 ha k (List.mem_flatMap.2 ⟨v,hv,hk⟩)
   simpa using h2
  ·obtain ⟨rfl,rfl⟩:=zbh he
   exact ⟨by decide,fun c hc j hj=>(ze1 hcs hc hj).elim⟩
 refine zm4 [0] none hf hb hN hB (fun k hk=>?_) (fun _ _ h'=>(nomatch h')) (fun _ h=>(nomatch h)) e (fun k cs' hm=>?_) (fun k en h1 h2=>?_) fun w β _=>h w β e
 ·simp only at hk;rw [hv] at hk;cases hk
 ·have:=List.mem_singleton.1 hm;injection this with h1 h2;subst h1
  exact ⟨⟨true,cs,0⟩,rfl,rfl,hne⟩
 ·obtain ⟨rfl,_⟩:=zbh h1;exact List.mem_singleton.2 rfl
theorem yam8 {S:List St} (h:0<S.length):scell S≠[]:=fun e=>by
 have:=zez S
 rw [e] at this
 simp at this
 omega
theorem yaqr {S:List St} {c:Nat} {k:Int} {t:St} (h0:0<S.length) (hk:t.live=true→0≤k∧k<S.length) (ht:t.Ok) (hS:∀ j,(stAt S j).Ok):CallOK Tryz.prog ⟨23,[.c (.sl 0 0 S.length c),.c (.i k),.ag t.cs],[(0,⟨true,scell S,0⟩)],⟨.tu [],[(0,scell (addS S k.toNat t))],none⟩⟩:=by
 refine ybat Tryz.func23 rfl rfl rfl (za9 S) (yam8 h0) rfl (za9 _) fun w β hkk=>?_
 refine yam5 (j1:=(stAt S k.toNat).join t) (e:=0) (fun hl=>?_) (fun hl=>?_)
 ·obtain ⟨k0,k1⟩:=hk hl
  have hlt:k.toNat<S.length:=by omega
  have e1:(decide (0≤k)&&decide (k<(↑S.length:Int)))=true:=zaa (decide_eq_true k0) (decide_eq_true k1)
  have ea:addS S k.toNat t=S.set k.toNat ((stAt S k.toNat).join t):=by unfold addS;rw [if_pos hl]
  rw [ea] at hkk
  have hj:=yamj (stAt S k.toNat) t
  have ab:((stAt S k.toNat).ok&&t.ok)=true:=zaa (St.ok_iff.2 (hS _)) (St.ok_iff.2 ht)
  unfold yaeh yad4 at hj
  rw [if_pos ab,if_pos ab] at hj
  refine ⟨e1,sble hlt,e1,?_,zfw hlt,hj,?_,hkk,?_⟩
  ·rw [show (St.cs ((stAt S k.toNat).join t)).length=31 from rfl,sble hlt];rfl
  ·rw [Nat.zero_add,zgu _ hlt]
  ·rw [ea]
 ·have ea:addS S k.toNat t=S:=by unfold addS;rw [if_neg (by rw [hl];decide)]
  rw [ea] at hkk ⊢
  exact ⟨hkk,rfl⟩
abbrev vKn (L:List Ins) (c:Nat) (S:List St) (j:Nat):Kn:=⟨[(2,.c (.w 1)),(5,.c (.sl 10 0 L.length L.length)),(24,.c (.sl 0 0 L.length c)),(25,.c (.i (L.length:Int))),(26,.c (.i (j:Int)))],[(0,⟨false,pcell L,0⟩),(1,⟨true,[AC.i 0,AC.i 0,zco],0⟩),(10,⟨true,scell S,0⟩)],11⟩
theorem yavr (L:List Ins) (c:Nat) (S:List St) (j:Nat):Kn.Low (vKn L c S j):=zg2 rfl rfl ⟨zaj L,rfl,za9 S,trivial⟩
def okE (K:Nat) (n:Nat) (S:List St):Eff:=⟨.tu [.ag [.i 0,.i 0,.sl K 0 n n],.c (.i 0)],[],some (K,⟨true,scell S,0⟩)⟩
def zou (K:Nat) (R:Rep):Eff:=⟨.tu [.ag [.i R.trap,.i R.pos,.sx K R.sts.length],.c (.i 0)],[],some (K,⟨true,scell R.sts,31⟩)⟩
def verE (n:Nat) (R:Rep):Eff:=if R.trap=0 then okE 10 n R.sts else zou 43 R
theorem yang (K n:Nat) (S:List St) (hK:1≤K):EKeys 1 [] (some K) (okE K n S):=by
 refine ⟨fun k hk=>Or.inr ?_,fun _ _ hm=>(nomatch hm),fun k en' h'=>?_,fun _ h=>(nomatch h),fun k h=>⟨?_,rfl⟩⟩
 ·have:k∈[K]:=hk
  rw [List.mem_singleton.1 this]
 ·injection h' with h';injection h' with _ h';subst h';exact za9 S
 ·injection h with h;subst h;exact hK
theorem yac9 (K:Nat) (R:Rep) (hK:1≤K):EKeys 1 [] (some K) (zou K R):=by
 refine ⟨fun k hk=>Or.inr ?_,fun _ _ hm=>(nomatch hm),fun k en' h'=>?_,fun _ h=>(nomatch h),fun k h=>⟨?_,rfl⟩⟩
 ·have:k∈[K]:=hk
  rw [List.mem_singleton.1 this]
 ·injection h' with h';injection h' with _ h';subst h';exact za9 R.sts
 ·injection h with h;subst h;exact hK
theorem yaj1 {L:List Ins} {k:Nat} {t:St} (hP:RightP L) (hk:k<L.length) (ht:t.Ok):Ok 21 [.ag (elt L k).cs,.ag t.cs] (.tu [.ag (zag (elt L k) t).1.cs,.ag (zag (elt L k) t).2.1.cs,.c (.i (zag (elt L k) t).2.2),.c (.i 0)]):=by
 have h:=yamk (elt L k) t
 have hle:=hP.le
 have hb:(zft (elt L k)&&t.ok)=true:=zaa (fine_right.2 ((zdg hP hk).mono (by omega))) (St.ok_iff.2 ht)
 unfold zor yaex at h
 rwa [if_pos hb,if_pos hb] at h
theorem offB {i:Ins} {n:Int} (hr:Right i n) (hn:n≤64):-64≤i.of∧i.of≤64:=by
 rcases zkw hr with c | c | c | c | c | c | c | c
 ·have:=zbv hr (Or.inl c);omega
 ·have:=zbv hr (Or.inr c);omega
 ·have:=zfm hr c;omega
 ·have:=zce hr (Or.inl c);omega
 ·have:=zce hr (Or.inr c);omega
 ·have:=znz hr c;omega
 ·have:=ze8 hr (by omega);omega
 ·have:=ze8 hr (by omega);omega
theorem yajr {L:List Ins} {c:Nat} (hP:RightP L) {w:World} {β:Bs}:∀ (n k:Nat) (S:List St),k+n=L.length→S.length=L.length→(∀ j,(stAt S j).Ok) →
  ART Tryz.prog 8 (cx w β 1 []) Tryz.f8.ntmps (zdm Tryz.f8 0) (vKn L c S k) (REff w β (verE L.length (verL L n k S)))
 | 0,k,S,hk,hS,hok=>by
  have e:verE L.length (verL L 0 k S)=okE 10 L.length S:=by unfold verL verE;rw [if_pos rfl]
  rw [e]
  refine yaua ?_ (yang 10 L.length S (by decide))
  rw [decide_eq_false (by omega:¬ (k:Int)<(L.length:Int))];rfl
 | n+1,k,S,hk,hS,hok=>by
  have hlt:k<L.length:=by omega
  have hltS:k<S.length:=by omega
  have hle:=hP.le
  have hr:=zdg hP hlt
  have hst:=yaj1 hP hlt (hok k)
  have d0:decide ((k:Int)<(L.length:Int))=true:=jl hlt
  have f1:Nat.ble (0+Int.toNat (k:Int)*5+5) (pcell L).length=true:=pble hlt
  have f2:Nat.ble (0+Int.toNat (k:Int)*31+31) (scell S).length=true:=sble hltS
  have f3:=zdk hlt
  have f4:Eff.mk (AV.ag (List.take 31 (List.drop (0+Int.toNat (k:Int)*31) (scell S)))) [] none=Eff.mk (AV.ag (St.cs (stAt S k))) [] none:=zfw hltS
  have f5:Eff.mk (AV.c (AC.i (IntKind.wrap IntKind.i64 ((k:Int)+1)))) [] none=Eff.mk (AV.c (AC.i ((k+1:Nat):Int))) [] none:=by rw [zhx (by omega)]
  obtain ⟨q1,q2⟩:=zqr hr (hok k)
  unfold verL
  by_cases h0:(zag (elt L k) (stAt S k)).2.2=0
  ·rw [if_pos h0]
   have e1:(!(zag (elt L k) (stAt S k)).2.2 != 0)=true:=by rw [h0];rfl
   have hok1:=zj1 (k:=k+1) hok q1
   have hok2:=zj1 (k:=k+1+(elt L k).of.toNat) hok1 q2
   have a1:=yaqr (S:=S) (c:=L.length) (k:=((k+1:Nat):Int)) (by omega) (fun hl=>by have:=yaqq hP hlt hl;omega) q1 hok
   have len1:(addS S (k+1) (zag (elt L k) (stAt S k)).1).length=L.length:=by rw [zds];exact hS
   have a2:=yaqr (S:=addS S (k+1) (zag (elt L k) (stAt S k)).1) (c:=L.length) (k:=((k+1:Nat):Int)+(elt L k).of) (by omega) (fun hl=>by have:=zs8 hP hlt hl;omega) q2 hok1
   rw [hS] at a1
   rw [len1] at a2
   have hS2:addS (addS S (k+1) (zag (elt L k) (stAt S k)).1) (((k+1:Nat):Int)+(elt L k).of).toNat (zag (elt L k) (stAt S k)).2.1=addS (addS S (k+1) (zag (elt L k) (stAt S k)).1) (k+1+(elt L k).of.toNat) (zag (elt L k) (stAt S k)).2.1:=by
    by_cases hl:(zag (elt L k) (stAt S k)).2.1.live=true
    ·have:=zs8 hP hlt hl
     rw [show (((k+1:Nat):Int)+(elt L k).of).toNat=k+1+(elt L k).of.toNat by omega]
    ·unfold addS;rw [if_neg hl,if_neg hl]
   rw [hS2] at a2
   rw [show ((k+1:Nat):Int).toNat=k+1 from rfl] at a1
   have b1:=a1.ren (swp 0 10) (zbl 0 10)
   have b2:=a2.ren (swp 0 10) (zbl 0 10)
   unfold CallRec.ren Eff.ren renH at b1 b2
   simp only [List.map_cons,List.map_nil,Option.map_none] at b1 b2
   have hR:=offB hr (by omega)
   refine yakd (S1:=addS S (k+1) (zag (elt L k) (stAt S k)).1) (S2:=addS (addS S (k+1) (zag (elt L k) (stAt S k)).1) (k+1+(elt L k).of.toNat) (zag (elt L k) (stAt S k)).2.1)
    (zaa d0 (zaa d0 (zaa f1 (zaa d0 (zaa f2 (zaa e1 rfl)))))) f3 f4 hst f5 (b1.congr ?_) f5 ?_ (b2.congr ?_) f5 (yavr _ _ _ _) (fun _ h=>Nat.lt_of_lt_of_le h (by decide)) (yajr hP n (k+1) _ (by omega) (by rw [zds,zds];exact hS) hok2)
   ·simp only [Ent.ren,zck _ (za9 _)]
    rfl
   ·rw [zfj (by omega) (by omega)]
   ·simp only [Ent.ren,zck _ (za9 _)]
    rfl
  ·rw [if_neg h0]
   have e1:((zag (elt L k) (stAt S k)).2.2 != 0)=true:=by simpa using h0
   have eE:verE L.length ⟨(zag (elt L k) (stAt S k)).2.2,k,S.take (k+1)⟩=zou 43 ⟨(zag (elt L k) (stAt S k)).2.2,k,S.take (k+1)⟩:=by unfold verE;rw [if_neg h0]
   have hlen:(S.take (k+1)).length=k+1:=by rw [List.length_take];omega
   have hk:=yac9 43 ⟨(zag (elt L k) (stAt S k)).2.2,k,S.take (k+1)⟩ (by decide)
   have cl:=((yah1 (S:=S) (q:=k+1) (c:=L.length) (by omega) (by omega) (by omega)).ren (swp 6 43) (zbl 6 43)).ren (swp 0 10) (zbl 0 10)
   rw [eE]
   unfold zou at hk ⊢
   simp only [hlen] at hk ⊢
   refine yaoo (zaa d0 (zaa d0 (zaa f1 (zaa d0 (zaa f2 (zaa e1 (zaa (zaa (decide_eq_true (by omega)) (decide_eq_true (by omega))) rfl))))))) f3 f4 hst f5 rfl ?_ hk
   refine CallOK.more (H:=[(10,⟨false,scell S,0⟩)]) ?_ ⟨fun j en hj=>?_⟩
   ·refine cl.congr ?_
    unfold CallRec.ren Eff.ren renH
    simp only [List.map_cons,List.map_nil,Option.map_some,Ent.ren,zck _ (za9 _)]
    rfl
   ·obtain ⟨rfl,rfl⟩:=zbh hj
    exact ⟨⟨true,scell S,0⟩,rfl,rfl,fun h=>(by cases h),Or.inl rfl⟩
theorem zo3 {L:List Ins} {c:Nat} (h:zan L=0):CallOK Tryz.prog ⟨8,[.c (.sl 0 0 L.length c)],pH L,verE L.length (zar L)⟩:=by
 have hP:=zbu h
 have hp:=hP.pos
 have hle:=hP.le
 have main:∀ w β,ART Tryz.prog 8 (cx w β 1 []) Tryz.f8.ntmps [.code (zdp Tryz.f8)] (Kn.start [.c (.sl 0 0 L.length c)] (pH L) 1) (REff w β (verE L.length (zar L))):=by
  intro w β
  have hb:(scell (List.replicate L.length St.z)).length=L.length*31:=by rw [zez,List.length_replicate]
  refine yauo (b:=beginS) (e:=zan L) ?_ (zjk L c) ?_ yak1 ?_ (yavr L c (zey L.length) 0) (fun _ h=>Nat.lt_of_lt_of_le h (by decide)) (yajr hP L.length 0 (zey L.length) (by omega) (zkp _) (znc hp))
  ·have e1:(!zan L != 0)=true:=by rw [h];rfl
   have e2:Nat.ble (0+(St.cs beginS).length) (scell (List.replicate L.length St.z)).length=true:=by rw [hb,yaj4,Nat.ble_eq];omega
   rw [e1,e2,decide_eq_true (by omega:(L.length:Int)≤(L.length:Int)),decide_eq_true (by omega:(L.length:Int)≤1099511627776),decide_eq_true (by omega:(0:Int)<(L.length:Int))];rfl
  ·rw [Int.toNat_natCast,zps]
  ·have:=zgu (S:=List.replicate L.length St.z) (k:=0) beginS (by rw [List.length_replicate];exact hp)
   rw [Nat.zero_mul] at this
   rw [this]
 by_cases h0:(zar L).trap=0
 ·have e:verE L.length (zar L)=okE 10 L.length (zar L).sts:=by unfold verE;rw [if_pos h0]
  rw [e] at main ⊢
  exact zcs Tryz.func8 rfl rfl rfl (zaj L) (by decide) rfl (za9 _) fun w β _=>main w β
 ·have e:verE L.length (zar L)=zou 43 (zar L):=by unfold verE;rw [if_neg h0]
  rw [e] at main ⊢
  exact zcs Tryz.func8 rfl rfl rfl (zaj L) (by decide) rfl (za9 _) fun w β _=>main w β
def verF (L:List Ins):Nat→Nat→List St→List St
 | 0,_,S=>S
 | n+1,k,S=>if (zag (elt L k) (stAt S k)).2.2=0 then verF L n (k+1) (addS (addS S (k+1) (zag (elt L k) (stAt S k)).1) (k+1+(elt L k).of.toNat) (zag (elt L k) (stAt S k)).2.1) else S
def voE (K:Nat) (L:List Ins) (R:Rep) (F:List St):Eff:=⟨.ag [.i R.trap,.i R.pos,.sl K 0 R.sts.length L.length],[],some (K,⟨true,scell F,0⟩)⟩
theorem yalu (K:Nat) (L:List Ins) (R:Rep) (F:List St) (hK:1≤K):EKeys 1 [] (some K) (voE K L R F):=by
 refine ⟨fun k hk=>Or.inr ?_,fun _ _ hm=>(nomatch hm),fun k en' h'=>?_,fun _ h=>(nomatch h),fun k h=>⟨?_,rfl⟩⟩
 ·have:k∈[K]:=hk
  rw [List.mem_singleton.1 this]
 ·injection h' with h';injection h' with _ h';subst h';exact za9 F
 ·injection h with h;subst h;exact hK
theorem yatw {S:List St} {k:Nat} {t:St} (h:S.length≤k):addS S k t=S:=by
 unfold addS
 split
 ·exact List.set_eq_of_length_le h
 ·rfl
theorem yaa1 {S:List St} {k:Nat} (h:k<S.length):S.set k (stAt S k)=S:=by
 unfold stAt
 rw [List.getD_eq_getElem?_getD,List.getElem?_eq_getElem h]
 exact List.set_getElem_self h
theorem yain {S:List St} {k:Nat} {t:St} (hS:(stAt S k).Ok) (ht:t.Ok) (h:k<S.length):S.set k ((stAt S k).join t)=addS S k t:=by
 unfold addS
 by_cases hl:t.live=true
 ·rw [if_pos hl]
 ·rw [if_neg hl]
  have hd:t=St.z:=ht.dead (by simpa using hl)
  unfold St.join
  by_cases h1:(stAt S k).live=true
  ·rw [if_pos h1,if_neg hl];exact yaa1 h
  ·rw [if_neg h1,hd,← hS.dead (by simpa using h1)];exact yaa1 h
abbrev voKn (L:List Ins) (c:Nat) (S:List St) (j:Nat):Kn:=⟨[(0,.c (.sl 0 0 L.length c)),(2,.c (.w 1)),(3,.c (.sl 4 0 L.length L.length)),(4,.c (.i (j:Int)))],[(0,⟨false,pcell L,0⟩),(1,⟨true,[.i 0,.i 0,zco],0⟩),(4,⟨true,scell S,0⟩)],6⟩
theorem yacp (L:List Ins) (c:Nat) (S:List St) (j:Nat):Kn.Low (voKn L c S j):=zg2 rfl rfl ⟨zaj L,rfl,za9 S,trivial⟩
theorem yap2 {L:List Ins} {c:Nat} (hP:RightP L) {w:World} {β:Bs}:∀ (n k:Nat) (S:List St),k+n=L.length→S.length=L.length→(∀ j,(stAt S j).Ok) →
  ART Tryz.prog 12 (cx w β 1 []) Tryz.f12.ntmps (zdm Tryz.f12 0) (voKn L c S k) (REff w β (voE 4 L (verL L n k S) (verF L n k S)))
 | 0,k,S,hk,hS,_=>by
  have hkk:=yalu 4 L ⟨0,0,S⟩ S (by decide)
  unfold verL verF
  unfold voE at hkk ⊢
  simp only [hS] at hkk ⊢
  exact yakw (zaa (by rw [decide_eq_false (by omega)];rfl) rfl) hkk
 | n+1,k,S,hk,hS,hok=>by
  have hlt:k<L.length:=by omega
  have hltS:k<S.length:=by omega
  have hle:=hP.le
  have hr:=zdg hP hlt
  have hst:=zk4 (i:=elt L k) (t:=stAt S k) (hr.mono (by omega)) (hok k)
  unfold stE at hst
  have d0:decide ((k:Int)<(L.length:Int))=true:=jl hlt
  have f1:Nat.ble (0+Int.toNat (k:Int)*5+5) (pcell L).length=true:=pble hlt
  have f2:Nat.ble (0+Int.toNat (k:Int)*31+31) (scell S).length=true:=sble hltS
  have f3:=zdk hlt
  have f4:Eff.mk (AV.ag (List.take 31 (List.drop (0+Int.toNat (k:Int)*31) (scell S)))) [] none=Eff.mk (AV.ag (St.cs (stAt S k))) [] none:=zfw hltS
  have f5:Eff.mk (AV.c (AC.i (IntKind.wrap IntKind.i64 ((k:Int)+1)))) [] none=Eff.mk (AV.c (AC.i ((k+1:Nat):Int))) [] none:=by rw [zhx (by omega)]
  obtain ⟨q1,q2⟩:=zqr hr (hok k)
  have hR:=offB hr (by omega)
  unfold verL verF
  by_cases h0:(zag (elt L k) (stAt S k)).2.2=0
  ·rw [if_pos h0,if_pos h0]
   rw [h0] at hst
   have hok1:=zj1 (k:=k+1) hok q1
   have hok2:=zj1 (k:=k+1+(elt L k).of.toNat) hok1 q2
   have len1:(addS S (k+1) (zag (elt L k) (stAt S k)).1).length=L.length:=by rw [zds];exact hS
   have next:=yap2 (c:=c) hP (w:=w) (β:=β) n (k+1) (addS (addS S (k+1) (zag (elt L k) (stAt S k)).1) (k+1+(elt L k).of.toNat) (zag (elt L k) (stAt S k)).2.1) (by omega) (by rw [zds,zds];exact hS) hok2
   have g0:(pcell L)[0+Int.toNat (k:Int)*5+4]?=some (AC.i (elt L k).of):=by
    have h3:=congrArg (fun l=>l[4]?) (zet (L:=L) (k:=k) hlt)
    simp only [List.getElem?_take,List.getElem?_drop] at h3
    rw [if_pos (by decide)] at h3
    rw [Int.toNat_natCast,Nat.zero_add]
    exact h3
   have g1:(AC.isI (Option.getD (pcell L)[0+Int.toNat (k:Int)*5+4]? (AC.b false))&&Nat.blt (0+Int.toNat (k:Int)*5+4) (pcell L).length)=true:=by
    rw [g0,Bool.and_eq_true]
    exact ⟨rfl,by rw [zau,Nat.blt_eq];omega⟩
   have g2:Eff.mk (AV.c (AC.i (AC.asI (Option.getD (pcell L)[0+Int.toNat (k:Int)*5+4]? (AC.b false))))) [] none=Eff.mk (AV.c (AC.i (elt L k).of)) [] none:=by rw [g0];rfl
   have g3:Eff.mk (AV.c (AC.i (IntKind.wrap IntKind.i64 (((k+1:Nat):Int)+(elt L k).of)))) [] none=Eff.mk (AV.c (AC.i (((k+1:Nat):Int)+(elt L k).of))) [] none:=by rw [zfj (by omega) (by omega)]
   have hF:∀ j,(cx w β 1 []).F j→j<6:=fun _ h=>Nat.lt_of_lt_of_le h (by decide)
   have sb:∀ (T:List St) (x:Nat) (u:St),T.length=L.length→x<L.length→(Nat.ble (0+x*31+List.length (St.cs u)) (scell T).length&&true)=true:=fun T x u hT hx=>by
    rw [show List.length (St.cs u)=31 from rfl,sble (by omega)];rfl
   by_cases hla:k+1<L.length
   ·have d1:decide (((k+1:Nat):Int)<(L.length:Int))=true:=decide_eq_true (by omega)
    have j1:=zob (hok (k+1)) q1
    have s1:Eff.mk (AV.raw undef) [(4,splice (scell S) (0+Int.toNat ((k+1:Nat):Int)*31) (St.cs ((stAt S (k+1)).join (zag (elt L k) (stAt S k)).1)))] none=Eff.mk (AV.raw undef) [(4,scell (addS S (k+1) (zag (elt L k) (stAt S k)).1))] none:=by
     rw [Int.toNat_natCast,Nat.zero_add,zgu _ (by omega),yain (hok _) q1 (by omega)]
    by_cases hl:(zag (elt L k) (stAt S k)).2.1.live=true
    ·have hx:=zs8 hP hlt hl
     have ex:(((k+1:Nat):Int)+(elt L k).of).toNat=k+1+(elt L k).of.toNat:=by omega
     have j2:=zob (hok1 (k+1+(elt L k).of.toNat)) q2
     have d2:(decide (0≤((k+1:Nat):Int)+(elt L k).of)&&decide (((k+1:Nat):Int)+(elt L k).of<(L.length:Int)))=true:=zaa (decide_eq_true (by omega)) (decide_eq_true (by omega))
     refine yapf (zaa d0 (zaa d0 (zaa f1 (zaa d0 (zaa f2 (zaa d1 (zaa d1 (zaa (sble (by omega)) (zaa d1 (zaa (sb S (k+1) _ hS hla) (zaa d0 (zaa g1 (zaa hl (zaa d2 (zaa (by rw [ex];exact sble (by omega)) (zaa d2 (by rw [ex,sb _ _ _ len1 (by omega)];rfl))))))))))))))))) f3 f4 hst f5 f5 f5 (zfw (by omega)) j1 s1 f5 g2 g3 (by rw [ex];exact zfw (by omega)) j2 ?_ f5 (yacp _ _ _ _) hF next
     rw [ex,Nat.zero_add,zgu _ (by omega),yain (hok1 _) q2 (by omega)]
    ·have e2:∀ x,addS (addS S (k+1) (zag (elt L k) (stAt S k)).1) x (zag (elt L k) (stAt S k)).2.1=addS S (k+1) (zag (elt L k) (stAt S k)).1:=fun x=>by rw [addS,if_neg hl]
     rw [e2] at next ⊢
     exact yapk (zaa d0 (zaa d0 (zaa f1 (zaa d0 (zaa f2 (zaa d1 (zaa d1 (zaa (sble (by omega)) (zaa d1 (zaa (sb S (k+1) _ hS hla) (zaa d0 (zaa g1 (zaa (by rw [Bool.not_eq_true] at hl;rw [hl];rfl) rfl))))))))))))) f3 f4 hst f5 f5 f5 (zfw (by omega)) j1 s1 f5 g2 g3 f5 (yacp _ _ _ _) hF next
   ·have d1:(!decide (((k+1:Nat):Int)<(L.length:Int)))=true:=by rw [decide_eq_false (by omega)];rfl
    have e1:addS S (k+1) (zag (elt L k) (stAt S k)).1=S:=yatw (by omega)
    have hl:¬ (zag (elt L k) (stAt S k)).2.1.live=true:=fun hl=>by have:=zs8 hP hlt hl;omega
    have e2:∀ x,addS S x (zag (elt L k) (stAt S k)).2.1=S:=fun x=>by rw [addS,if_neg hl]
    rw [e1,e2] at next ⊢
    exact yal9 (zaa d0 (zaa d0 (zaa f1 (zaa d0 (zaa f2 (zaa d1 (zaa d0 (zaa g1 (zaa (by rw [Bool.not_eq_true] at hl;rw [hl];rfl) rfl))))))))) f3 f4 hst f5 f5 g2 g3 f5 (yacp _ _ _ _) hF next
  ·rw [if_neg h0,if_neg h0]
   have hlen:(S.take (k+1)).length=k+1:=by rw [List.length_take];omega
   have hkk:=yalu 4 L ⟨(zag (elt L k) (stAt S k)).2.2,k,S.take (k+1)⟩ S (by decide)
   unfold voE at hkk ⊢
   simp only [hlen] at hkk ⊢
   exact yac2 (zaa d0 (zaa d0 (zaa f1 (zaa d0 (zaa f2 (zaa (by simpa using h0) (zaa (zaa (decide_eq_true (by omega)) (decide_eq_true (by omega))) rfl))))))) f3 f4 hst f5 rfl hkk
theorem zyn {L:List Ins} {c:Nat} (hP:RightP L):CallOK Tryz.prog ⟨12,[.c (.sl 0 0 L.length c)],pH L,voE 4 L (zar L) (verF L L.length 0 (zey L.length))⟩:=by
 have hpos:=hP.pos
 have hle:=hP.le
 refine zcs Tryz.func12 rfl rfl rfl (zaj L) (by decide) rfl (za9 _) fun w β _=>?_
 refine yazo (b:=beginS) ?_ ?_ yagx ?_ (yacp _ _ _ 0) (fun _ h=>Nat.lt_of_lt_of_le h (by decide)) (yap2 hP L.length 0 (zey L.length) (by omega) (zkp _) (znc hpos))
 ·have:Nat.ble (0+List.length (St.cs beginS)) (scell (List.replicate L.length St.z)).length=true:=by rw [zez,List.length_replicate,Nat.ble_eq];show 0+31≤_;omega
  rw [this]
  simp;omega
 ·rw [Int.toNat_natCast,zps]
 ·have:=zgu (S:=List.replicate L.length St.z) (k:=0) beginS (by rw [List.length_replicate];exact hpos)
  rw [Nat.zero_mul] at this
  rw [this]
section
variable {i:Ins} {t a b:St} {tr:Int}
end
section
variable {s a b c d e f j:St}
end
section
variable {S S2:List St}
end
theorem CallOK.off {P:Program} {f n c o r:Nat} {b:Bool} {cs cells:List AC} {e:Eff} (h:CallOK P ⟨f,[.c (.sl 0 0 n c)],[(0,⟨false,cs,0⟩)],e⟩) (hwr:e.wr=[]) (hv:∀ k,k∈e.v.ks→k≠0) (hn0:∀ k en,e.nw=some (k,en)→k≠0) (hnk:∀ k en,e.nw=some (k,en)→en.cells.flatMap AC.ks=[])
  (hcs:∀ j x,cs[j]?=some x→cells[o+j]?=some x) (hks:cs.flatMap AC.ks=[]):CallOK P ⟨f,[.c (.sl 0 o n c)],[(0,⟨b,cells,r⟩)],e⟩:=by
 have look0:∀ k,(∃ en,look [(0,(⟨false,cs,0⟩:Ent))] k=some en)→∃ en,look [(0,(⟨b,cells,r⟩:Ent))] k=some en:=fun k ⟨en,hk⟩=>by
  obtain ⟨rfl,_⟩:=zbh hk
  exact ⟨_,rfl⟩
 refine ⟨⟨fun k hk=>zi5 look0 _ k (h.keys.v k hk),fun k x hm=>(by rw [hwr] at hm;cases hm),fun k en hm x hx j hj=>(ze1 (hnk k en hm) hx hj).elim⟩,fun k x hm=>(by rw [hwr] at hm;cases hm),fun β w hgw hgx hB hI=>?_⟩
 have hb0:=hB 0 ⟨b,cells,r⟩ rfl
 have h1:=h.call (bset β 0 ((β 0).1,(β 0).2.1+o,(β 0).2.2)) w hgw (fun k en hk hw=>by obtain ⟨_,rfl⟩:=zbh hk;cases hw) (fun k en hk=>?_) (fun k en k' en' hk hk' hne=>?_)
 ·have ha:([AV.c (AC.sl 0 0 n c)].map (AV.g (bset β 0 ((β 0).1,(β 0).2.1+o,(β 0).2.2)))).toArray=([AV.c (AC.sl 0 o n c)].map (AV.g β)).toArray:=by
   simp [AV.g,AC.g,ptr,bset]
  simp only at h1
  rw [ha] at h1
  refine h1.mono fun en w' ⟨β',he,hu⟩=>?_
  have hnw:=hu.nw
  have hfr:Fr (fun B=>∃ k x,(k,x)∈e.wr∧B=(β k).1) w w':=hu.frame.mono fun B ⟨k,x,hm,_⟩=>(by rw [hwr] at hm;cases hm)
  cases hn:e.nw with
  | none =>
   rw [hn] at hnw
   have hβ:β'=bset β 0 ((β 0).1,(β 0).2.1+o,(β 0).2.2):=hnw
   refine ⟨β,?_,⟨hfr,fun k x hm=>(by rw [hwr] at hm;cases hm),by rw [hn];rfl⟩⟩
   rw [he,hβ,AV.g_congr e.v fun k hk=>?_]
   unfold bset
   rw [if_neg (hv k hk)]
  | some x =>
   obtain ⟨k,en'⟩:=x
   rw [hn] at hnw
   obtain ⟨b1,o1,c1,h2,h3,h4,h5⟩:=hnw
   have hk0:=hn0 k en' hn
   have hβ:∀ j,j≠0→β' j=bset β k (b1,o1,c1) j:=fun j hj=>by
    rw [h4]
    unfold bset
    by_cases c:j=k
    ·rw [if_pos c,if_pos c]
    ·rw [if_neg c,if_neg c,if_neg hj]
   refine ⟨bset β k (b1,o1,c1),?_,⟨hfr,fun k x hm=>(by rw [hwr] at hm;cases hm),?_⟩⟩
   ·rw [he]
    rw [AV.g_congr e.v fun j hj=>hβ j (hv j hj)]
   ·rw [hn]
    refine ⟨b1,o1,c1,Or.inl (h2.resolve_right fun ⟨k0,hk,_⟩=>(by rw [hwr] at hk;cases hk)),h3,rfl,?_⟩
    exact h5.congr (hβ k hk0).symm (Nat.le_refl _) rfl fun x hx j hj=>(ze1 (hnk k en' hn) hx hj).elim
 ·obtain ⟨rfl,rfl⟩:=zbh hk
  refine ⟨hb0.lt,fun j x hj=>?_,(fun h=>by cases h),fun h=>absurd rfl h⟩
  have:=hb0.cell (o+j) x (hcs j x hj)
  have e1:ptr (bset β 0 ((β 0).1,(β 0).2.1+o,(β 0).2.2)) 0 j=ptr β 0 (o+j):=by simp [ptr,bset,Nat.add_assoc]
  rw [e1,this,AC.g_congr x fun k hk=>(ze1 hks (List.mem_of_getElem? hj) hk).elim]
 ·obtain ⟨rfl,_⟩:=zbh hk
  obtain ⟨rfl,_⟩:=zbh hk'
  exact absurd rfl hne
theorem yatq (ρ:Nat→Nat) (K n:Nat) (S:List St):(okE K n S).ren ρ=okE (ρ K) n S:=by
 unfold okE Eff.ren
 simp only [Option.map_some,Ent.ren,zck ρ (za9 S)]
 rfl
theorem yahc (ρ:Nat→Nat) (K:Nat) (R:Rep):(zou K R).ren ρ=zou (ρ K) R:=by
 unfold zou Eff.ren
 simp only [Option.map_some,Ent.ren,zck ρ (za9 R.sts)]
 rfl
theorem p_to {P:Program} {f:Nat} {args args':List AV} {L:List Ins} {e e':Eff} (h:CallOK P ⟨f,args,pH L,e⟩) (K:Nat) (b:Bool) (ha:args.map (AV.ren (swp 0 K))=args') (he:e.ren (swp 0 K)=e'):CallOK P ⟨f,args',[(K,⟨b,pcell L,0⟩)],e'⟩:=by
 have h1:=h.ren (swp 0 K) (zbl 0 K)
 unfold CallRec.ren at h1
 simp only [ha,he] at h1
 refine h1.more ⟨fun k en hk=>?_⟩
 have e1:renH (swp 0 K) (pH L)=[(K,⟨false,pcell L,0⟩)]:=by
  show [(swp 0 K 0,Ent.mk false ((pcell L).map (AC.ren (swp 0 K))) 0)]=_
  rw [zck _ (zaj L)]
  rfl
 rw [e1] at hk
 obtain ⟨rfl,rfl⟩:=zbh hk
 exact ⟨⟨b,pcell L,0⟩,by rw [zav,if_pos rfl],rfl,fun h=>(by cases h),Or.inl rfl⟩
theorem zj2 {L:List Ins} {c:Nat} (h:zan L=0) (h0:(zar L).trap=0) {K:Nat} (hK:K≠0):CallOK Tryz.prog ⟨8,[.c (.sl 0 0 L.length c)],pH L,okE K L.length (zar L).sts⟩:=by
 have h1:=zo3 (c:=c) h
 unfold verE at h1
 rw [if_pos h0] at h1
 have h2:=h1.ren (swp 10 K) (zbl 10 K)
 have e0:swp 10 K 0=0:=zfo (by decide) (Ne.symm hK)
 unfold CallRec.ren at h2
 simp only [yatq,zel,zo8 e0] at h2
 refine h2.congr ?_
 show CallRec.mk _ [AV.c (AC.sl 0 0 L.length c)] _ _=CallRec.mk _ [AV.c (AC.sl (swp 10 K 0) 0 L.length c)] _ _
 rw [e0]
theorem zjy {L:List Ins} {c:Nat} (h:zan L=0) (h0:(zar L).trap≠0) {K:Nat} (hK:K≠0):CallOK Tryz.prog ⟨8,[.c (.sl 0 0 L.length c)],pH L,zou K (zar L)⟩:=by
 have h1:=zo3 (c:=c) h
 unfold verE at h1
 rw [if_neg h0] at h1
 have h2:=h1.ren (swp 43 K) (zbl 43 K)
 have e0:swp 43 K 0=0:=zfo (by decide) (Ne.symm hK)
 unfold CallRec.ren at h2
 simp only [yahc,zel,zo8 e0] at h2
 refine h2.congr ?_
 show CallRec.mk _ [AV.c (AC.sl 0 0 L.length c)] _ _=CallRec.mk _ [AV.c (AC.sl (swp 43 K 0) 0 L.length c)] _ _
 rw [e0]
theorem yah4 (ρ:Nat→Nat) (K:Nat) (L:List Ins) (R:Rep) (F:List St):(voE K L R F).ren ρ=voE (ρ K) L R F:=by
 unfold voE Eff.ren
 simp only [Option.map_some,Ent.ren,zck ρ (za9 F)]
 rfl
def newE (K n:Nat) (L:List Ins):Eff:=⟨.c (.sx K n),[],some (K,⟨true,pcell L,0⟩)⟩
theorem zsb (ρ:Nat→Nat) (K n:Nat) (L:List Ins):(newE K n L).ren ρ=newE (ρ K) n L:=by
 unfold newE Eff.ren
 simp only [Option.map_some,Ent.ren,zck ρ (zaj L)]
 rfl
theorem yaig {f a:Nat} {L M:List Ins} {n c:Nat} (h:CallOK Tryz.prog ⟨f,[.c (.sl 0 0 n c)],pH L,newE a n M⟩) (ha:a≠0) {K:Nat} (hK:K≠0):CallOK Tryz.prog ⟨f,[.c (.sl 0 0 n c)],pH L,newE K n M⟩:=by
 have h2:=h.ren (swp a K) (zbl a K)
 have e0:swp a K 0=0:=zfo (Ne.symm ha) (Ne.symm hK)
 unfold CallRec.ren at h2
 simp only [zsb,zel,zo8 e0] at h2
 refine h2.congr ?_
 show CallRec.mk _ [AV.c (AC.sl 0 0 n c)] _ _=CallRec.mk _ [AV.c (AC.sl (swp a K 0) 0 n c)] _ _
 rw [e0]
section
abbrev zlu (L:List Ins) (S:List St) (j p r:Nat) (q:Int):Kn:=⟨[(0,.c (.sx 0 p)),(1,.c (.sl 1 0 p p)),(7,.c (.i q)),(8,.c (.i (j:Int)))],[(0,Ent.mk true (pcell L) r),(1,Ent.mk false (scell S) 0)],2⟩
variable {i f:Ins} {A:List (V6 Bool)} {o c n j r:Nat} {w:World} {β:Bs} {v u b:V6 Bool} {E:Eff} {V:AV} {n1 e tr:Int} {L L2:List Ins} {S:List St} {C:Cx} {R:Ending→World→Prop}
theorem yaxy {q:Nat} (h:(i.op==15&&true)=true) :
  BO 119 Tryz.f119 (cx w β n []) [.ag i.cs,.c (.sl 0 o q c)] [(0,Ent.mk false (rcell A) 0)] 1 (REff w β ⟨.ag [.b false,.b false,.b false,.b false,.b false,.b false],[],none⟩) :=
 zah [] none [true] ([]) [(4,3),(4,5),(6,2),(6,6),(6,8),(7,2)] Tryz.func119 (zat rfl n) (by kernel_rfl) h zae
theorem yaxd {q:Nat} (h:(!i.op==15&&(i.op==12&&(decide (0≤1+i.of)&&decide (1+i.of<(q:Int))&&(Nat.ble (o+(1+i.of).toNat*6+6) (rcell A).length&&true))))=true) (c0:pe (.c (.i (IntKind.i64.wrap (1+i.of))))=pe (.c (.i (1+i.of)))) (c1:pe (.ag (((rcell A).drop (o+(1+i.of).toNat*6)).take 6))=pe (.ag (bcs v))) :
  BO 119 Tryz.f119 (cx w β n []) [.ag i.cs,.c (.sl 0 o q c)] [(0,Ent.mk false (rcell A) 0)] 1 (REff w β ⟨.ag (bcs v),[],none⟩) :=
 zah [] none [false,true] ([]) [(4,3),(4,5),(6,2),(6,6),(6,8),(7,2)] Tryz.func119 (zat rfl n) (by kernel_rfl) h (zac c0 (zac c1 zae))
theorem yaw5 {q:Nat} (h:(!i.op==15&&(!i.op==12&&(zak i&&(decide (1<(q:Int))&&(Nat.ble (o+6+6) (rcell A).length&&(decide (0≤1+i.of)&&decide (1+i.of<(q:Int))&&(Nat.ble (o+(1+i.of).toNat*6+6) (rcell A).length&&true)))))))=true) (c0:Ok 117 [.ag i.cs] (.c (.b (zak i)))) (c1:pe (.ag (((rcell A).drop (o+6)).take 6))=pe (.ag (bcs u))) (c2:pe (.c (.i (IntKind.i64.wrap (1+i.of))))=pe (.c (.i (1+i.of)))) (c3:pe (.ag (((rcell A).drop (o+(1+i.of).toNat*6)).take 6))=pe (.ag (bcs v))) (c4:Ok 164 [.ag (bcs u),.ag (bcs v)] (.ag [.b (u.x0||v.x0),.b (u.x1||v.x1),.b (u.x2||v.x2),.b (u.x3||v.x3),.b (u.x4||v.x4),.b (u.x5||v.x5)])) :
  BO 119 Tryz.f119 (cx w β n []) [.ag i.cs,.c (.sl 0 o q c)] [(0,Ent.mk false (rcell A) 0)] 1 (REff w β ⟨.ag [.b (u.x0||v.x0),.b (u.x1||v.x1),.b (u.x2||v.x2),.b (u.x3||v.x3),.b (u.x4||v.x4),.b (u.x5||v.x5)],[],none⟩) :=
 zah [] none [false,false,true] ([]) [(4,3),(4,5),(6,2),(6,6),(6,8),(7,2)] Tryz.func119 (zat rfl n) (by kernel_rfl) h (zab c0 (zac c1 (zac c2 (zac c3 (zab c4 zae)))))
theorem yawn {q:Nat} (h:(!i.op==15&&(!i.op==12&&(!zak i&&(decide (1<(q:Int))&&(Nat.ble (o+6+6) (rcell A).length&&true)))))=true) (c0:Ok 117 [.ag i.cs] (.c (.b (zak i)))) (c1:pe (.ag (((rcell A).drop (o+6)).take 6))=pe (.ag (bcs u))) :
  BO 119 Tryz.f119 (cx w β n []) [.ag i.cs,.c (.sl 0 o q c)] [(0,Ent.mk false (rcell A) 0)] 1 (REff w β ⟨.ag (bcs u),[],none⟩) :=
 zah [] none [false,false,false] ([]) [(4,3),(4,5),(6,2),(6,6),(6,8),(7,2)] Tryz.func119 (zat rfl n) (by kernel_rfl) h (zab c0 (zac c1 zae))
theorem yauy {q:Nat}
  (l0:(i.op==15)=true→((⟨.ag [.b false,.b false,.b false,.b false,.b false,.b false],[],none⟩:Eff)=E))
  (l1:(i.op==15)=false→(i.op==12)=true→(decide (0≤1+i.of)&&decide (1+i.of<(q:Int)))=true∧(Nat.ble (o+(1+i.of).toNat*6+6) (rcell A).length)=true∧(pe (.c (.i (IntKind.i64.wrap (1+i.of))))=pe (.c (.i (1+i.of))))∧(pe (.ag (((rcell A).drop (o+(1+i.of).toNat*6)).take 6))=pe (.ag (bcs v)))∧((⟨.ag (bcs v),[],none⟩:Eff)=E))
  (l2:(i.op==15)=false→(i.op==12)=false→(zak i)=true→(decide (1<(q:Int)))=true∧(Nat.ble (o+6+6) (rcell A).length)=true∧(decide (0≤1+i.of)&&decide (1+i.of<(q:Int)))=true∧(Nat.ble (o+(1+i.of).toNat*6+6) (rcell A).length)=true∧(Ok 117 [.ag i.cs] (.c (.b (zak i))))∧(pe (.ag (((rcell A).drop (o+6)).take 6))=pe (.ag (bcs u)))∧(pe (.c (.i (IntKind.i64.wrap (1+i.of))))=pe (.c (.i (1+i.of))))∧(pe (.ag (((rcell A).drop (o+(1+i.of).toNat*6)).take 6))=pe (.ag (bcs v)))∧(Ok 164 [.ag (bcs u),.ag (bcs v)] (.ag [.b (u.x0||v.x0),.b (u.x1||v.x1),.b (u.x2||v.x2),.b (u.x3||v.x3),.b (u.x4||v.x4),.b (u.x5||v.x5)]))∧((⟨.ag [.b (u.x0||v.x0),.b (u.x1||v.x1),.b (u.x2||v.x2),.b (u.x3||v.x3),.b (u.x4||v.x4),.b (u.x5||v.x5)],[],none⟩:Eff)=E))
  (l3:(i.op==15)=false→(i.op==12)=false→(zak i)=false→(decide (1<(q:Int)))=true∧(Nat.ble (o+6+6) (rcell A).length)=true∧(Ok 117 [.ag i.cs] (.c (.b (zak i))))∧(pe (.ag (((rcell A).drop (o+6)).take 6))=pe (.ag (bcs u)))∧((⟨.ag (bcs u),[],none⟩:Eff)=E)) :
  BO 119 Tryz.f119 (cx w β n []) [.ag i.cs,.c (.sl 0 o q c)] [(0,Ent.mk false (rcell A) 0)] 1 (REff w β E) :=
 (tf (i.op==15)).elim (fun h0=>(match l0 h0 with | e=>za6 (yaxy (zaa h0 rfl)) e)) (fun h0=>(tf (i.op==12)).elim (fun h1=>(match l1 h0 h1 with | ⟨o0,o1,c0,c1,e⟩=>za6 (yaxd (zaa (zad h0) (zaa h1 (zaa o0 (zaa o1 rfl)))) c0 c1) e)) (fun h1=>(tf (zak i)).elim (fun h2=>(match l2 h0 h1 h2 with | ⟨o0,o1,o2,o3,c0,c1,c2,c3,c4,e⟩=>za6 (yaw5 (zaa (zad h0) (zaa (zad h1) (zaa h2 (zaa o0 (zaa o1 (zaa o2 (zaa o3 rfl))))))) c0 c1 c2 c3 c4) e)) (fun h2=>(match l3 h0 h1 h2 with | ⟨o0,o1,c0,c1,e⟩=>za6 (yawn (zaa (zad h0) (zaa (zad h1) (zaa (zad h2) (zaa o0 (zaa o1 rfl))))) c0 c1) e))))
theorem yavt (h:(decide (i.op≤10)&&(decide (0≤i.d)&&decide (i.d<6)&&(Nat.ble ((i.d).toNat*1+1) (bcs b).length&&true&&true)))=true) (c0:Ok 120 [.ag i.cs] (.c (.b (decide (i.op≤10))))) (c1:we 1 (splice (bcs b) ((i.d).toNat*1) [.b false])=we 1 (bcs (b.set (i.d).toNat false))) (c2:Ok 99 [.ag i.cs] (.ag (bcs (zaw i)))) (c3:Ok 164 [.ag (bcs (zaw i)),.ag (bcs (b.set (i.d).toNat false))] (.ag [.b ((zaw i).x0||(b.set (i.d).toNat false).x0),.b ((zaw i).x1||(b.set (i.d).toNat false).x1),.b ((zaw i).x2||(b.set (i.d).toNat false).x2),.b ((zaw i).x3||(b.set (i.d).toNat false).x3),.b ((zaw i).x4||(b.set (i.d).toNat false).x4),.b ((zaw i).x5||(b.set (i.d).toNat false).x5)])) :
  Ok 121 [.ag i.cs,.ag (bcs b)] (.ag [.b ((zaw i).x0||(b.set (i.d).toNat false).x0),.b ((zaw i).x1||(b.set (i.d).toNat false).x1),.b ((zaw i).x2||(b.set (i.d).toNat false).x2),.b ((zaw i).x3||(b.set (i.d).toNat false).x3),.b ((zaw i).x4||(b.set (i.d).toNat false).x4),.b ((zaw i).x5||(b.set (i.d).toNat false).x5)]) :=
 zaf [true] ([]) [(2,3)] Tryz.func121 rfl rfl rfl rfl (by kernel_rfl) h (zab c0 (zac c1 (zab c2 (zab c3 zae))))
theorem yax5 (h:(!decide (i.op≤10)&&true)=true) (c0:Ok 120 [.ag i.cs] (.c (.b (decide (i.op≤10))))) (c1:Ok 99 [.ag i.cs] (.ag (bcs (zaw i)))) (c2:Ok 164 [.ag (bcs (zaw i)),.ag (bcs b)] (.ag [.b ((zaw i).x0||b.x0),.b ((zaw i).x1||b.x1),.b ((zaw i).x2||b.x2),.b ((zaw i).x3||b.x3),.b ((zaw i).x4||b.x4),.b ((zaw i).x5||b.x5)])) :
  Ok 121 [.ag i.cs,.ag (bcs b)] (.ag [.b ((zaw i).x0||b.x0),.b ((zaw i).x1||b.x1),.b ((zaw i).x2||b.x2),.b ((zaw i).x3||b.x3),.b ((zaw i).x4||b.x4),.b ((zaw i).x5||b.x5)]) :=
 zaf [false] ([]) [(2,3)] Tryz.func121 rfl rfl rfl rfl (by kernel_rfl) h (zab c0 (zab c1 (zab c2 zae)))
theorem yauv
  (l0:(decide (i.op≤10))=true→(decide (0≤i.d)&&decide (i.d<6))=true∧(Nat.ble ((i.d).toNat*1+1) (bcs b).length&&true)=true∧(Ok 120 [.ag i.cs] (.c (.b (decide (i.op≤10)))))∧(we 1 (splice (bcs b) ((i.d).toNat*1) [.b false])=we 1 (bcs (b.set (i.d).toNat false)))∧(Ok 99 [.ag i.cs] (.ag (bcs (zaw i))))∧(Ok 164 [.ag (bcs (zaw i)),.ag (bcs (b.set (i.d).toNat false))] (.ag [.b ((zaw i).x0||(b.set (i.d).toNat false).x0),.b ((zaw i).x1||(b.set (i.d).toNat false).x1),.b ((zaw i).x2||(b.set (i.d).toNat false).x2),.b ((zaw i).x3||(b.set (i.d).toNat false).x3),.b ((zaw i).x4||(b.set (i.d).toNat false).x4),.b ((zaw i).x5||(b.set (i.d).toNat false).x5)]))∧(AV.ag [.b ((zaw i).x0||(b.set (i.d).toNat false).x0),.b ((zaw i).x1||(b.set (i.d).toNat false).x1),.b ((zaw i).x2||(b.set (i.d).toNat false).x2),.b ((zaw i).x3||(b.set (i.d).toNat false).x3),.b ((zaw i).x4||(b.set (i.d).toNat false).x4),.b ((zaw i).x5||(b.set (i.d).toNat false).x5)]=V))
  (l1:(decide (i.op≤10))=false→(Ok 120 [.ag i.cs] (.c (.b (decide (i.op≤10)))))∧(Ok 99 [.ag i.cs] (.ag (bcs (zaw i))))∧(Ok 164 [.ag (bcs (zaw i)),.ag (bcs b)] (.ag [.b ((zaw i).x0||b.x0),.b ((zaw i).x1||b.x1),.b ((zaw i).x2||b.x2),.b ((zaw i).x3||b.x3),.b ((zaw i).x4||b.x4),.b ((zaw i).x5||b.x5)]))∧(AV.ag [.b ((zaw i).x0||b.x0),.b ((zaw i).x1||b.x1),.b ((zaw i).x2||b.x2),.b ((zaw i).x3||b.x3),.b ((zaw i).x4||b.x4),.b ((zaw i).x5||b.x5)]=V)) :
  Ok 121 [.ag i.cs,.ag (bcs b)] V :=
 (tf (decide (i.op≤10))).elim (fun h0=>(match l0 h0 with | ⟨o0,o1,c0,c1,c2,c3,e⟩=>zam (yavt (zaa h0 (zaa o0 (zaa o1 rfl))) c0 c1 c2 c3) e)) (fun h0=>(match l1 h0 with | ⟨c0,c1,c2,e⟩=>zam (yax5 (zaa (zad h0) rfl) c0 c1 c2) e))
theorem yazx (hk:EKeys n [] (some 0) ⟨.c (.f 163 [0+0]),[],some (0,Ent.mk true [.i n1] 0)⟩) :
  BO 118 Tryz.f118 (cx w β n []) [.c (.i n1)] [] 0 (REff w β ⟨.c (.f 163 [0+0]),[],some (0,Ent.mk true [.i n1] 0)⟩) :=
 zah [] (some 0) [] ([]) [] Tryz.func118 hk (by kernel_rfl) rfl zae
theorem yaof {p:Nat} (c0:pe (.c (.i (IntKind.i64.wrap ((p:Int) - 1))))=pe (.c (.i ((p:Int) - 1)))) (lo:Kn.Low ⟨[(0,.c (.sx 0 p)),(1,.c (.sl 1 0 p p)),(7,.c (.i ((p:Int) - 1))),(8,.c (.i 0))],[(0,Ent.mk true (pcell L) 5),(1,Ent.mk false (scell S) 0)],2⟩) (hF:∀ k,C.F k→k<2) (z:AR 62 Tryz.f62 C 0 ⟨[(0,.c (.sx 0 p)),(1,.c (.sl 1 0 p p)),(7,.c (.i ((p:Int) - 1))),(8,.c (.i 0))],[(0,Ent.mk true (pcell L) 5),(1,Ent.mk false (scell S) 0)],2⟩ R) :
  BO 62 Tryz.f62 C [.c (.sx 0 p),.c (.sl 1 0 p p)] [(0,Ent.mk true (pcell L) 5),(1,Ent.mk false (scell S) 0)] 2 R :=
 zai [] ([true]) [(0,2)] Tryz.func62 (by kernel_rfl) rfl (zac c0 zae) lo hF z
theorem yaem {p:Nat} {q:Int} (h:(decide ((j:Int)<q)&&(decide ((j:Int)<(p:Int))&&(Nat.ble ((j:Int).toNat*5+5) (pcell L).length&&(decide ((j:Int)<(p:Int))&&(Nat.ble (0+(j:Int).toNat*31+31) (scell S).length&&(decide ((j:Int)<(p:Int))&&(Nat.ble ((j:Int).toNat*5+(f.cs).length) (pcell L).length&&true&&true)))))))=true) (c0:pe (.ag (((pcell L).drop ((j:Int).toNat*5)).take 5))=pe (.ag (elt L j).cs)) (c1:pe (.ag (((scell S).drop (0+(j:Int).toNat*31)).take 31))=pe (.ag (stAt S j).cs)) (c2:Ok 63 [.ag (elt L j).cs,.ag (stAt S j).cs] (.ag f.cs)) (c3:we 0 (splice (pcell L) ((j:Int).toNat*5) f.cs)=we 0 (pcell (L.set j f))) (c4:pe (.c (.i (IntKind.i64.wrap ((j:Int)+1))))=pe (.c (.i (↑(j+1):Int)))) (lo:Kn.Low (zlu (L.set j f) S (j+1) p 0 q)) (hF:∀ k,C.F k→k<2) (z:AR 62 Tryz.f62 C 0 (zlu (L.set j f) S (j+1) p 0 q) R) :
  AR 62 Tryz.f62 C 0 (zlu L S j p r q) R :=
 zai [true] ([true]) [(3,5),(3,9),(3,12),(4,0)] Tryz.func62 (by kernel_rfl) h (zac c0 (zac c1 (zab c2 (zac c3 (zac c4 zae))))) lo hF z
theorem yam2 {p:Nat} {q:Int} (h:(!decide ((j:Int)<q)&&true)=true) (hk:EKeys n [0] none ⟨.tu [],[(0,pcell L)],none⟩) :
  AR 62 Tryz.f62 (cx w β n [0]) 0 (zlu L S j p r q) (REff w β ⟨.tu [],[(0,pcell L)],none⟩) :=
 zah [0] none [false] ([true]) [] Tryz.func62 hk (by kernel_rfl) h zae
theorem yapl {q:Nat} {p:Int} (h:(!tr==0&&true)=true) (c0:CO 8 [.c (.sl 0 0 L.length c)] [(0,Ent.mk false (pcell L) 0)] (Eff.mk (.tu [.ag [.i tr,.i p,.sx 4 q],.c (.i 0)]) [] (some (4,Ent.mk true (scell S) 31)))) (c1:CO 114 [.c (.sl 0 0 L.length c)] [(0,Ent.mk false (pcell L) 0)] (Eff.mk (.c (.sx 14 L.length)) [] (some (14,Ent.mk true (pcell L) 5)))) (hk:EKeys n [] (some 14) ⟨.tu [.c (.sx 14 L.length),.c (.i 0)],[],some (14,Ent.mk true (pcell L) 5)⟩) :
  BO 61 Tryz.f61 (cx w β n []) [.c (.sl 0 0 L.length c),.c (.f 62 [])] [(0,Ent.mk false (pcell L) 0)] 1 (REff w β ⟨.tu [.c (.sx 14 L.length),.c (.i 0)],[],some (14,Ent.mk true (pcell L) 5)⟩) :=
 zah [] (some 14) [false,false] ([]) [] Tryz.func61 hk (by kernel_rfl) h (zab c0 (zab c1 zae))
theorem yapb (c0:CO 8 [.c (.sl 0 0 L.length c)] [(0,Ent.mk false (pcell L) 0)] (Eff.mk (.tu [.ag [.i 0,.i 0,.sl 4 0 L.length L.length],.c (.i 0)]) [] (some (4,Ent.mk true (scell S) 0)))) (c1:CO 114 [.c (.sl 0 0 L.length c)] [(0,Ent.mk false (pcell L) 0)] (Eff.mk (.c (.sx 14 L.length)) [] (some (14,Ent.mk true (pcell L) 5)))) (c2:CO 62 [.c (.sx 14 L.length),.c (.sl 4 0 L.length L.length)] [(14,Ent.mk true (pcell L) 5),(4,Ent.mk true (scell S) 0)] (Eff.mk (.tu []) [(14,pcell L2)] none)) (hk:EKeys n [] (some 14) ⟨.tu [.c (.sx 14 L.length),.c (.i 0)],[],some (14,Ent.mk true (pcell L2) 0)⟩) :
  BO 61 Tryz.f61 (cx w β n []) [.c (.sl 0 0 L.length c),.c (.f 62 [])] [(0,Ent.mk false (pcell L) 0)] 1 (REff w β ⟨.tu [.c (.sx 14 L.length),.c (.i 0)],[],some (14,Ent.mk true (pcell L2) 0)⟩) :=
 zah [] (some 14) [false,true] ([]) [] Tryz.func61 hk (by kernel_rfl) rfl (zab c0 (zab c1 (zab c2 zae)))
theorem yana {q:Nat} {p:Int} (h:(!tr==0&&true)=true) (c0:CO 8 [.c (.sl 0 0 L.length c)] [(0,Ent.mk false (pcell L) 0)] (Eff.mk (.tu [.ag [.i tr,.i p,.sx 4 q],.c (.i 0)]) [] (some (4,Ent.mk true (scell S) 31)))) (c1:CO 114 [.c (.sl 0 0 L.length c)] [(0,Ent.mk false (pcell L) 0)] (Eff.mk (.c (.sx 14 L.length)) [] (some (14,Ent.mk true (pcell L) 5)))) (hk:EKeys n [] (some 14) ⟨.tu [.c (.sx 14 L.length),.c (.i 0)],[],some (14,Ent.mk true (pcell L) 5)⟩) :
  BO 61 Tryz.f61 (cx w β n []) [.c (.sl 0 0 L.length c),.c (.f 64 [])] [(0,Ent.mk false (pcell L) 0)] 1 (REff w β ⟨.tu [.c (.sx 14 L.length),.c (.i 0)],[],some (14,Ent.mk true (pcell L) 5)⟩) :=
 zah [] (some 14) [false,false] ([]) [] Tryz.func61 hk (by kernel_rfl) h (zab c0 (zab c1 zae))
theorem yan1 (c0:CO 8 [.c (.sl 0 0 L.length c)] [(0,Ent.mk false (pcell L) 0)] (Eff.mk (.tu [.ag [.i 0,.i 0,.sl 4 0 L.length L.length],.c (.i 0)]) [] (some (4,Ent.mk true (scell S) 0)))) (c1:CO 114 [.c (.sl 0 0 L.length c)] [(0,Ent.mk false (pcell L) 0)] (Eff.mk (.c (.sx 14 L.length)) [] (some (14,Ent.mk true (pcell L) 5)))) (c2:CO 64 [.c (.sx 14 L.length),.c (.sl 4 0 L.length L.length)] [(14,Ent.mk true (pcell L) 5),(4,Ent.mk true (scell S) 0)] (Eff.mk (.tu []) [(14,pcell L2)] none)) (hk:EKeys n [] (some 14) ⟨.tu [.c (.sx 14 L.length),.c (.i 0)],[],some (14,Ent.mk true (pcell L2) 0)⟩) :
  BO 61 Tryz.f61 (cx w β n []) [.c (.sl 0 0 L.length c),.c (.f 64 [])] [(0,Ent.mk false (pcell L) 0)] 1 (REff w β ⟨.tu [.c (.sx 14 L.length),.c (.i 0)],[],some (14,Ent.mk true (pcell L2) 0)⟩) :=
 zah [] (some 14) [false,true] ([]) [] Tryz.func61 hk (by kernel_rfl) rfl (zab c0 (zab c1 (zab c2 zae)))
end
section
abbrev yarp (a b:V6 Bool) (j:Int):Kn:=⟨[(2,.c (.w 0)),(3,.c (.w 1)),(4,.c (.w 2)),(6,.c (.i j))],[(0,Ent.mk true (bcs a) 0),(1,Ent.mk true (bcs b) 0),(2,Ent.mk true (bcs no6) 0)],3⟩
variable {i:Ins} {V:AV} {t:St} {b:V6 Bool} {C:Cx} {R:Ending→World→Prop} {j:Int} {w:World} {β:Bs} {n:Nat}
theorem yavw :
  Ok 115 [] (.ag [.i 12,.i 0,.i 0,.u 0#64,.i 0]) :=
 zaf [] ([]) [] Tryz.func115 rfl rfl rfl rfl (by kernel_rfl) rfl zae
theorem yayc {a:V4} :
  Ok 116 [.ag a.cs] (.c (.b (eqb a.l a.h))) :=
 zaf [] ([]) [] Tryz.func116 rfl rfl rfl rfl (by kernel_rfl) rfl zae
theorem yaxu (h:(i.op==13&&true)=true) :
  Ok 117 [.ag i.cs] (.c (.b true)) :=
 zaf [true] ([]) [] Tryz.func117 rfl rfl rfl rfl (by kernel_rfl) h zae
theorem yazw (h:(!i.op==13&&true)=true) :
  Ok 117 [.ag i.cs] (.c (.b (i.op==14))) :=
 zaf [false] ([]) [] Tryz.func117 rfl rfl rfl rfl (by kernel_rfl) h zae
theorem yasw
  (l0:(i.op==13)=true→(AV.c (.b true)=V))
  (l1:(i.op==13)=false→(AV.c (.b (i.op==14))=V)) :
  Ok 117 [.ag i.cs] V :=
 (tf (i.op==13)).elim (fun h0=>(match l0 h0 with | e=>zam (yaxu (zaa h0 rfl)) e)) (fun h0=>(match l1 h0 with | e=>zam (yazw (zaa (zad h0) rfl)) e))
theorem yawy :
  Ok 120 [.ag i.cs] (.c (.b (decide (i.op≤10)))) :=
 zaf [] ([]) [] Tryz.func120 rfl rfl rfl rfl (by kernel_rfl) rfl zae
theorem yav9 (h:(!t.live&&true)=true) (c0:Ok 115 [] (.ag onI.cs)) :
  Ok 63 [.ag i.cs,.ag t.cs] (.ag [.i 12,.i 0,.i 0,.u 0#64,.i 0]) :=
 zaf [true] ([]) [(4,8),(5,7)] Tryz.func63 rfl rfl rfl rfl (by kernel_rfl) h (zab c0 zae)
theorem yaxz (h:(!!t.live&&(decide (i.op≤9)&&(decide (0≤i.d)&&decide (i.d<6)&&(Nat.ble (7+(i.d).toNat*4+4) ((Prod.fst (zag i t)).cs).length&&((((Prod.fst (zag i t)).r).get (i.d).toNat).l==(((Prod.fst (zag i t)).r).get (i.d).toNat).h&&(decide (0≤i.d)&&decide (i.d<6)&&(AC.isU (((Prod.fst (zag i t)).cs)[7+(i.d).toNat*4+2]?.getD (.b false))&&Nat.blt (7+(i.d).toNat*4+2) ((Prod.fst (zag i t)).cs).length&&true)))))))=true) (c0:Ok 21 [.ag i.cs,.ag t.cs] (.tu [.ag (Prod.fst (zag i t)).cs,.ag (Prod.fst (Prod.snd (zag i t))).cs,.c (.i (Prod.snd (Prod.snd (zag i t)))),.c (.i 0)])) (c1:pe (.ag ((((Prod.fst (zag i t)).cs).drop (7+(i.d).toNat*4)).take 4))=pe (.ag (((Prod.fst (zag i t)).r).get (i.d).toNat).cs)) (c2:Ok 116 [.ag (((Prod.fst (zag i t)).r).get (i.d).toNat).cs] (.c (.b ((((Prod.fst (zag i t)).r).get (i.d).toNat).l==(((Prod.fst (zag i t)).r).get (i.d).toNat).h)))) (c3:pe (.c (.u (AC.asU (((Prod.fst (zag i t)).cs)[7+(i.d).toNat*4+2]?.getD (.b false)))))=pe (.c (.u (((Prod.fst (zag i t)).r).get (i.d).toNat).l))) :
  Ok 63 [.ag i.cs,.ag t.cs] (.ag [.i 1,.i i.d,.i (-1),.u (((Prod.fst (zag i t)).r).get (i.d).toNat).l,.i 0]) :=
 zaf [false,true,true] ([]) [(4,8),(5,7)] Tryz.func63 rfl rfl rfl rfl (by kernel_rfl) h (zab c0 (zac c1 (zab c2 (zac c3 zae))))
theorem yaxl (h:(!!t.live&&(decide (i.op≤9)&&(decide (0≤i.d)&&decide (i.d<6)&&(Nat.ble (7+(i.d).toNat*4+4) ((Prod.fst (zag i t)).cs).length&&(!(((Prod.fst (zag i t)).r).get (i.d).toNat).l==(((Prod.fst (zag i t)).r).get (i.d).toNat).h&&(zak i&&(!(Prod.fst (Prod.snd (zag i t))).live&&true)))))))=true) (c0:Ok 21 [.ag i.cs,.ag t.cs] (.tu [.ag (Prod.fst (zag i t)).cs,.ag (Prod.fst (Prod.snd (zag i t))).cs,.c (.i (Prod.snd (Prod.snd (zag i t)))),.c (.i 0)])) (c1:pe (.ag ((((Prod.fst (zag i t)).cs).drop (7+(i.d).toNat*4)).take 4))=pe (.ag (((Prod.fst (zag i t)).r).get (i.d).toNat).cs)) (c2:Ok 116 [.ag (((Prod.fst (zag i t)).r).get (i.d).toNat).cs] (.c (.b ((((Prod.fst (zag i t)).r).get (i.d).toNat).l==(((Prod.fst (zag i t)).r).get (i.d).toNat).h)))) (c3:Ok 117 [.ag i.cs] (.c (.b (zak i)))) (c4:Ok 115 [] (.ag onI.cs)) :
  Ok 63 [.ag i.cs,.ag t.cs] (.ag [.i 12,.i 0,.i 0,.u 0#64,.i 0]) :=
 zaf [false,true,false,true,true] ([]) [(4,8),(5,7)] Tryz.func63 rfl rfl rfl rfl (by kernel_rfl) h (zab c0 (zac c1 (zab c2 (zab c3 (zab c4 zae)))))
theorem yaxx (h:(!!t.live&&(decide (i.op≤9)&&(decide (0≤i.d)&&decide (i.d<6)&&(Nat.ble (7+(i.d).toNat*4+4) ((Prod.fst (zag i t)).cs).length&&(!(((Prod.fst (zag i t)).r).get (i.d).toNat).l==(((Prod.fst (zag i t)).r).get (i.d).toNat).h&&(zak i&&(!!(Prod.fst (Prod.snd (zag i t))).live&&(zak i&&(!(Prod.fst (zag i t)).live&&true)))))))))=true) (c0:Ok 21 [.ag i.cs,.ag t.cs] (.tu [.ag (Prod.fst (zag i t)).cs,.ag (Prod.fst (Prod.snd (zag i t))).cs,.c (.i (Prod.snd (Prod.snd (zag i t)))),.c (.i 0)])) (c1:pe (.ag ((((Prod.fst (zag i t)).cs).drop (7+(i.d).toNat*4)).take 4))=pe (.ag (((Prod.fst (zag i t)).r).get (i.d).toNat).cs)) (c2:Ok 116 [.ag (((Prod.fst (zag i t)).r).get (i.d).toNat).cs] (.c (.b ((((Prod.fst (zag i t)).r).get (i.d).toNat).l==(((Prod.fst (zag i t)).r).get (i.d).toNat).h)))) (c3:Ok 117 [.ag i.cs] (.c (.b (zak i)))) (c4:Ok 117 [.ag i.cs] (.c (.b (zak i)))) :
  Ok 63 [.ag i.cs,.ag t.cs] (.ag [.i 12,.i 0,.i 0,.u 0#64,.i i.of]) :=
 zaf [false,true,false,true,false,true,true] ([]) [(4,8),(5,7)] Tryz.func63 rfl rfl rfl rfl (by kernel_rfl) h (zab c0 (zac c1 (zab c2 (zab c3 (zab c4 zae)))))
theorem yay1 (h:(!!t.live&&(decide (i.op≤9)&&(decide (0≤i.d)&&decide (i.d<6)&&(Nat.ble (7+(i.d).toNat*4+4) ((Prod.fst (zag i t)).cs).length&&(!(((Prod.fst (zag i t)).r).get (i.d).toNat).l==(((Prod.fst (zag i t)).r).get (i.d).toNat).h&&(zak i&&(!!(Prod.fst (Prod.snd (zag i t))).live&&(zak i&&(!!(Prod.fst (zag i t)).live&&true)))))))))=true) (c0:Ok 21 [.ag i.cs,.ag t.cs] (.tu [.ag (Prod.fst (zag i t)).cs,.ag (Prod.fst (Prod.snd (zag i t))).cs,.c (.i (Prod.snd (Prod.snd (zag i t)))),.c (.i 0)])) (c1:pe (.ag ((((Prod.fst (zag i t)).cs).drop (7+(i.d).toNat*4)).take 4))=pe (.ag (((Prod.fst (zag i t)).r).get (i.d).toNat).cs)) (c2:Ok 116 [.ag (((Prod.fst (zag i t)).r).get (i.d).toNat).cs] (.c (.b ((((Prod.fst (zag i t)).r).get (i.d).toNat).l==(((Prod.fst (zag i t)).r).get (i.d).toNat).h)))) (c3:Ok 117 [.ag i.cs] (.c (.b (zak i)))) (c4:Ok 117 [.ag i.cs] (.c (.b (zak i)))) :
  Ok 63 [.ag i.cs,.ag t.cs] (.ag i.cs) :=
 zaf [false,true,false,true,false,true,false] ([]) [(4,8),(5,7)] Tryz.func63 rfl rfl rfl rfl (by kernel_rfl) h (zab c0 (zac c1 (zab c2 (zab c3 (zab c4 zae)))))
theorem yav4 (h:(!!t.live&&(decide (i.op≤9)&&(decide (0≤i.d)&&decide (i.d<6)&&(Nat.ble (7+(i.d).toNat*4+4) ((Prod.fst (zag i t)).cs).length&&(!(((Prod.fst (zag i t)).r).get (i.d).toNat).l==(((Prod.fst (zag i t)).r).get (i.d).toNat).h&&(!zak i&&(!zak i&&true)))))))=true) (c0:Ok 21 [.ag i.cs,.ag t.cs] (.tu [.ag (Prod.fst (zag i t)).cs,.ag (Prod.fst (Prod.snd (zag i t))).cs,.c (.i (Prod.snd (Prod.snd (zag i t)))),.c (.i 0)])) (c1:pe (.ag ((((Prod.fst (zag i t)).cs).drop (7+(i.d).toNat*4)).take 4))=pe (.ag (((Prod.fst (zag i t)).r).get (i.d).toNat).cs)) (c2:Ok 116 [.ag (((Prod.fst (zag i t)).r).get (i.d).toNat).cs] (.c (.b ((((Prod.fst (zag i t)).r).get (i.d).toNat).l==(((Prod.fst (zag i t)).r).get (i.d).toNat).h)))) (c3:Ok 117 [.ag i.cs] (.c (.b (zak i)))) (c4:Ok 117 [.ag i.cs] (.c (.b (zak i)))) :
  Ok 63 [.ag i.cs,.ag t.cs] (.ag i.cs) :=
 zaf [false,true,false,false,false,false,false] ([]) [(4,8),(5,7)] Tryz.func63 rfl rfl rfl rfl (by kernel_rfl) h (zab c0 (zac c1 (zab c2 (zab c3 (zab c4 zae)))))
theorem yawd (h:(!!t.live&&(!decide (i.op≤9)&&(zak i&&(!(Prod.fst (Prod.snd (zag i t))).live&&true))))=true) (c0:Ok 21 [.ag i.cs,.ag t.cs] (.tu [.ag (Prod.fst (zag i t)).cs,.ag (Prod.fst (Prod.snd (zag i t))).cs,.c (.i (Prod.snd (Prod.snd (zag i t)))),.c (.i 0)])) (c1:Ok 117 [.ag i.cs] (.c (.b (zak i)))) (c2:Ok 115 [] (.ag onI.cs)) :
  Ok 63 [.ag i.cs,.ag t.cs] (.ag [.i 12,.i 0,.i 0,.u 0#64,.i 0]) :=
 zaf [false,false,false,true,true] ([]) [(4,8),(5,7)] Tryz.func63 rfl rfl rfl rfl (by kernel_rfl) h (zab c0 (zab c1 (zab c2 zae)))
theorem yawh (h:(!!t.live&&(!decide (i.op≤9)&&(zak i&&(!!(Prod.fst (Prod.snd (zag i t))).live&&(zak i&&(!(Prod.fst (zag i t)).live&&true))))))=true) (c0:Ok 21 [.ag i.cs,.ag t.cs] (.tu [.ag (Prod.fst (zag i t)).cs,.ag (Prod.fst (Prod.snd (zag i t))).cs,.c (.i (Prod.snd (Prod.snd (zag i t)))),.c (.i 0)])) (c1:Ok 117 [.ag i.cs] (.c (.b (zak i)))) (c2:Ok 117 [.ag i.cs] (.c (.b (zak i)))) :
  Ok 63 [.ag i.cs,.ag t.cs] (.ag [.i 12,.i 0,.i 0,.u 0#64,.i i.of]) :=
 zaf [false,false,false,true,false,true,true] ([]) [(4,8),(5,7)] Tryz.func63 rfl rfl rfl rfl (by kernel_rfl) h (zab c0 (zab c1 (zab c2 zae)))
theorem yaw3 (h:(!!t.live&&(!decide (i.op≤9)&&(zak i&&(!!(Prod.fst (Prod.snd (zag i t))).live&&(zak i&&(!!(Prod.fst (zag i t)).live&&true))))))=true) (c0:Ok 21 [.ag i.cs,.ag t.cs] (.tu [.ag (Prod.fst (zag i t)).cs,.ag (Prod.fst (Prod.snd (zag i t))).cs,.c (.i (Prod.snd (Prod.snd (zag i t)))),.c (.i 0)])) (c1:Ok 117 [.ag i.cs] (.c (.b (zak i)))) (c2:Ok 117 [.ag i.cs] (.c (.b (zak i)))) :
  Ok 63 [.ag i.cs,.ag t.cs] (.ag i.cs) :=
 zaf [false,false,false,true,false,true,false] ([]) [(4,8),(5,7)] Tryz.func63 rfl rfl rfl rfl (by kernel_rfl) h (zab c0 (zab c1 (zab c2 zae)))
theorem yax3 (h:(!!t.live&&(!decide (i.op≤9)&&(!zak i&&(!zak i&&true))))=true) (c0:Ok 21 [.ag i.cs,.ag t.cs] (.tu [.ag (Prod.fst (zag i t)).cs,.ag (Prod.fst (Prod.snd (zag i t))).cs,.c (.i (Prod.snd (Prod.snd (zag i t)))),.c (.i 0)])) (c1:Ok 117 [.ag i.cs] (.c (.b (zak i)))) (c2:Ok 117 [.ag i.cs] (.c (.b (zak i)))) :
  Ok 63 [.ag i.cs,.ag t.cs] (.ag i.cs) :=
 zaf [false,false,false,false,false,false,false] ([]) [(4,8),(5,7)] Tryz.func63 rfl rfl rfl rfl (by kernel_rfl) h (zab c0 (zab c1 (zab c2 zae)))
theorem yarc
  (l0:(!t.live)=true→(Ok 115 [] (.ag onI.cs))∧(AV.ag [.i 12,.i 0,.i 0,.u 0#64,.i 0]=V))
  (l1:(!t.live)=false→(decide (i.op≤9))=true→((((Prod.fst (zag i t)).r).get (i.d).toNat).l==(((Prod.fst (zag i t)).r).get (i.d).toNat).h)=true→(decide (0≤i.d)&&decide (i.d<6))=true∧(Nat.ble (7+(i.d).toNat*4+4) ((Prod.fst (zag i t)).cs).length)=true∧(decide (0≤i.d)&&decide (i.d<6))=true∧(AC.isU (((Prod.fst (zag i t)).cs)[7+(i.d).toNat*4+2]?.getD (.b false))&&Nat.blt (7+(i.d).toNat*4+2) ((Prod.fst (zag i t)).cs).length)=true∧(Ok 21 [.ag i.cs,.ag t.cs] (.tu [.ag (Prod.fst (zag i t)).cs,.ag (Prod.fst (Prod.snd (zag i t))).cs,.c (.i (Prod.snd (Prod.snd (zag i t)))),.c (.i 0)]))∧(pe (.ag ((((Prod.fst (zag i t)).cs).drop (7+(i.d).toNat*4)).take 4))=pe (.ag (((Prod.fst (zag i t)).r).get (i.d).toNat).cs))∧(Ok 116 [.ag (((Prod.fst (zag i t)).r).get (i.d).toNat).cs] (.c (.b ((((Prod.fst (zag i t)).r).get (i.d).toNat).l==(((Prod.fst (zag i t)).r).get (i.d).toNat).h))))∧(pe (.c (.u (AC.asU (((Prod.fst (zag i t)).cs)[7+(i.d).toNat*4+2]?.getD (.b false)))))=pe (.c (.u (((Prod.fst (zag i t)).r).get (i.d).toNat).l)))∧(AV.ag [.i 1,.i i.d,.i (-1),.u (((Prod.fst (zag i t)).r).get (i.d).toNat).l,.i 0]=V))
  (l2:(!t.live)=false→(decide (i.op≤9))=true→((((Prod.fst (zag i t)).r).get (i.d).toNat).l==(((Prod.fst (zag i t)).r).get (i.d).toNat).h)=false→(zak i)=true→(!(Prod.fst (Prod.snd (zag i t))).live)=true→(decide (0≤i.d)&&decide (i.d<6))=true∧(Nat.ble (7+(i.d).toNat*4+4) ((Prod.fst (zag i t)).cs).length)=true∧(Ok 21 [.ag i.cs,.ag t.cs] (.tu [.ag (Prod.fst (zag i t)).cs,.ag (Prod.fst (Prod.snd (zag i t))).cs,.c (.i (Prod.snd (Prod.snd (zag i t)))),.c (.i 0)]))∧(pe (.ag ((((Prod.fst (zag i t)).cs).drop (7+(i.d).toNat*4)).take 4))=pe (.ag (((Prod.fst (zag i t)).r).get (i.d).toNat).cs))∧(Ok 116 [.ag (((Prod.fst (zag i t)).r).get (i.d).toNat).cs] (.c (.b ((((Prod.fst (zag i t)).r).get (i.d).toNat).l==(((Prod.fst (zag i t)).r).get (i.d).toNat).h))))∧(Ok 117 [.ag i.cs] (.c (.b (zak i))))∧(Ok 115 [] (.ag onI.cs))∧(AV.ag [.i 12,.i 0,.i 0,.u 0#64,.i 0]=V))
  (l3:(!t.live)=false→(decide (i.op≤9))=true→((((Prod.fst (zag i t)).r).get (i.d).toNat).l==(((Prod.fst (zag i t)).r).get (i.d).toNat).h)=false→(zak i)=true→(!(Prod.fst (Prod.snd (zag i t))).live)=false→(!(Prod.fst (zag i t)).live)=true→(decide (0≤i.d)&&decide (i.d<6))=true∧(Nat.ble (7+(i.d).toNat*4+4) ((Prod.fst (zag i t)).cs).length)=true∧(Ok 21 [.ag i.cs,.ag t.cs] (.tu [.ag (Prod.fst (zag i t)).cs,.ag (Prod.fst (Prod.snd (zag i t))).cs,.c (.i (Prod.snd (Prod.snd (zag i t)))),.c (.i 0)]))∧(pe (.ag ((((Prod.fst (zag i t)).cs).drop (7+(i.d).toNat*4)).take 4))=pe (.ag (((Prod.fst (zag i t)).r).get (i.d).toNat).cs))∧(Ok 116 [.ag (((Prod.fst (zag i t)).r).get (i.d).toNat).cs] (.c (.b ((((Prod.fst (zag i t)).r).get (i.d).toNat).l==(((Prod.fst (zag i t)).r).get (i.d).toNat).h))))∧(Ok 117 [.ag i.cs] (.c (.b (zak i))))∧(Ok 117 [.ag i.cs] (.c (.b (zak i))))∧(AV.ag [.i 12,.i 0,.i 0,.u 0#64,.i i.of]=V))
  (l4:(!t.live)=false→(decide (i.op≤9))=true→((((Prod.fst (zag i t)).r).get (i.d).toNat).l==(((Prod.fst (zag i t)).r).get (i.d).toNat).h)=false→(zak i)=true→(!(Prod.fst (Prod.snd (zag i t))).live)=false→(!(Prod.fst (zag i t)).live)=false→(decide (0≤i.d)&&decide (i.d<6))=true∧(Nat.ble (7+(i.d).toNat*4+4) ((Prod.fst (zag i t)).cs).length)=true∧(Ok 21 [.ag i.cs,.ag t.cs] (.tu [.ag (Prod.fst (zag i t)).cs,.ag (Prod.fst (Prod.snd (zag i t))).cs,.c (.i (Prod.snd (Prod.snd (zag i t)))),.c (.i 0)]))∧(pe (.ag ((((Prod.fst (zag i t)).cs).drop (7+(i.d).toNat*4)).take 4))=pe (.ag (((Prod.fst (zag i t)).r).get (i.d).toNat).cs))∧(Ok 116 [.ag (((Prod.fst (zag i t)).r).get (i.d).toNat).cs] (.c (.b ((((Prod.fst (zag i t)).r).get (i.d).toNat).l==(((Prod.fst (zag i t)).r).get (i.d).toNat).h))))∧(Ok 117 [.ag i.cs] (.c (.b (zak i))))∧(Ok 117 [.ag i.cs] (.c (.b (zak i))))∧(AV.ag i.cs=V))
  (l5:(!t.live)=false→(decide (i.op≤9))=true→((((Prod.fst (zag i t)).r).get (i.d).toNat).l==(((Prod.fst (zag i t)).r).get (i.d).toNat).h)=false→(zak i)=false→(decide (0≤i.d)&&decide (i.d<6))=true∧(Nat.ble (7+(i.d).toNat*4+4) ((Prod.fst (zag i t)).cs).length)=true∧(Ok 21 [.ag i.cs,.ag t.cs] (.tu [.ag (Prod.fst (zag i t)).cs,.ag (Prod.fst (Prod.snd (zag i t))).cs,.c (.i (Prod.snd (Prod.snd (zag i t)))),.c (.i 0)]))∧(pe (.ag ((((Prod.fst (zag i t)).cs).drop (7+(i.d).toNat*4)).take 4))=pe (.ag (((Prod.fst (zag i t)).r).get (i.d).toNat).cs))∧(Ok 116 [.ag (((Prod.fst (zag i t)).r).get (i.d).toNat).cs] (.c (.b ((((Prod.fst (zag i t)).r).get (i.d).toNat).l==(((Prod.fst (zag i t)).r).get (i.d).toNat).h))))∧(Ok 117 [.ag i.cs] (.c (.b (zak i))))∧(Ok 117 [.ag i.cs] (.c (.b (zak i))))∧(AV.ag i.cs=V))
  (l6:(!t.live)=false→(decide (i.op≤9))=false→(zak i)=true→(!(Prod.fst (Prod.snd (zag i t))).live)=true→(Ok 21 [.ag i.cs,.ag t.cs] (.tu [.ag (Prod.fst (zag i t)).cs,.ag (Prod.fst (Prod.snd (zag i t))).cs,.c (.i (Prod.snd (Prod.snd (zag i t)))),.c (.i 0)]))∧(Ok 117 [.ag i.cs] (.c (.b (zak i))))∧(Ok 115 [] (.ag onI.cs))∧(AV.ag [.i 12,.i 0,.i 0,.u 0#64,.i 0]=V))
  (l7:(!t.live)=false→(decide (i.op≤9))=false→(zak i)=true→(!(Prod.fst (Prod.snd (zag i t))).live)=false→(!(Prod.fst (zag i t)).live)=true→(Ok 21 [.ag i.cs,.ag t.cs] (.tu [.ag (Prod.fst (zag i t)).cs,.ag (Prod.fst (Prod.snd (zag i t))).cs,.c (.i (Prod.snd (Prod.snd (zag i t)))),.c (.i 0)]))∧(Ok 117 [.ag i.cs] (.c (.b (zak i))))∧(Ok 117 [.ag i.cs] (.c (.b (zak i))))∧(AV.ag [.i 12,.i 0,.i 0,.u 0#64,.i i.of]=V))
  (l8:(!t.live)=false→(decide (i.op≤9))=false→(zak i)=true→(!(Prod.fst (Prod.snd (zag i t))).live)=false→(!(Prod.fst (zag i t)).live)=false→(Ok 21 [.ag i.cs,.ag t.cs] (.tu [.ag (Prod.fst (zag i t)).cs,.ag (Prod.fst (Prod.snd (zag i t))).cs,.c (.i (Prod.snd (Prod.snd (zag i t)))),.c (.i 0)]))∧(Ok 117 [.ag i.cs] (.c (.b (zak i))))∧(Ok 117 [.ag i.cs] (.c (.b (zak i))))∧(AV.ag i.cs=V))
  (l9:(!t.live)=false→(decide (i.op≤9))=false→(zak i)=false→(Ok 21 [.ag i.cs,.ag t.cs] (.tu [.ag (Prod.fst (zag i t)).cs,.ag (Prod.fst (Prod.snd (zag i t))).cs,.c (.i (Prod.snd (Prod.snd (zag i t)))),.c (.i 0)]))∧(Ok 117 [.ag i.cs] (.c (.b (zak i))))∧(Ok 117 [.ag i.cs] (.c (.b (zak i))))∧(AV.ag i.cs=V)) :
  Ok 63 [.ag i.cs,.ag t.cs] V :=
 (tf (!t.live)).elim (fun h0=>(match l0 h0 with | ⟨c0,e⟩=>zam (yav9 (zaa h0 rfl) c0) e)) (fun h0=>(tf (decide (i.op≤9))).elim (fun h1=>(tf ((((Prod.fst (zag i t)).r).get (i.d).toNat).l==(((Prod.fst (zag i t)).r).get (i.d).toNat).h)).elim (fun h2=>(match l1 h0 h1 h2 with | ⟨o0,o1,o2,o3,c0,c1,c2,c3,e⟩=>zam (yaxz (zaa (zad h0) (zaa h1 (zaa o0 (zaa o1 (zaa h2 (zaa o2 (zaa o3 rfl))))))) c0 c1 c2 c3) e)) (fun h2=>(tf (zak i)).elim (fun h3=>(tf (!(Prod.fst (Prod.snd (zag i t))).live)).elim (fun h4=>(match l2 h0 h1 h2 h3 h4 with | ⟨o0,o1,c0,c1,c2,c3,c4,e⟩=>zam (yaxl (zaa (zad h0) (zaa h1 (zaa o0 (zaa o1 (zaa (zad h2) (zaa h3 (zaa h4 rfl))))))) c0 c1 c2 c3 c4) e)) (fun h4=>(tf (!(Prod.fst (zag i t)).live)).elim (fun h5=>(match l3 h0 h1 h2 h3 h4 h5 with | ⟨o0,o1,c0,c1,c2,c3,c4,e⟩=>zam (yaxx (zaa (zad h0) (zaa h1 (zaa o0 (zaa o1 (zaa (zad h2) (zaa h3 (zaa (zad h4) (zaa h3 (zaa h5 rfl))))))))) c0 c1 c2 c3 c4) e)) (fun h5=>(match l4 h0 h1 h2 h3 h4 h5 with | ⟨o0,o1,c0,c1,c2,c3,c4,e⟩=>zam (yay1 (zaa (zad h0) (zaa h1 (zaa o0 (zaa o1 (zaa (zad h2) (zaa h3 (zaa (zad h4) (zaa h3 (zaa (zad h5) rfl))))))))) c0 c1 c2 c3 c4) e)))) (fun h3=>(match l5 h0 h1 h2 h3 with | ⟨o0,o1,c0,c1,c2,c3,c4,e⟩=>zam (yav4 (zaa (zad h0) (zaa h1 (zaa o0 (zaa o1 (zaa (zad h2) (zaa (zad h3) (zaa (zad h3) rfl))))))) c0 c1 c2 c3 c4) e)))) (fun h1=>(tf (zak i)).elim (fun h2=>(tf (!(Prod.fst (Prod.snd (zag i t))).live)).elim (fun h3=>(match l6 h0 h1 h2 h3 with | ⟨c0,c1,c2,e⟩=>zam (yawd (zaa (zad h0) (zaa (zad h1) (zaa h2 (zaa h3 rfl)))) c0 c1 c2) e)) (fun h3=>(tf (!(Prod.fst (zag i t)).live)).elim (fun h4=>(match l7 h0 h1 h2 h3 h4 with | ⟨c0,c1,c2,e⟩=>zam (yawh (zaa (zad h0) (zaa (zad h1) (zaa h2 (zaa (zad h3) (zaa h2 (zaa h4 rfl)))))) c0 c1 c2) e)) (fun h4=>(match l8 h0 h1 h2 h3 h4 with | ⟨c0,c1,c2,e⟩=>zam (yaw3 (zaa (zad h0) (zaa (zad h1) (zaa h2 (zaa (zad h3) (zaa h2 (zaa (zad h4) rfl)))))) c0 c1 c2) e)))) (fun h2=>(match l9 h0 h1 h2 with | ⟨c0,c1,c2,e⟩=>zam (yax3 (zaa (zad h0) (zaa (zad h1) (zaa (zad h2) (zaa (zad h2) rfl)))) c0 c1 c2) e))))
theorem yapq {a:V6 Bool} (lo:Kn.Low ⟨[(2,.c (.w 0)),(3,.c (.w 1)),(4,.c (.w 2)),(6,.c (.i 0))],[(0,Ent.mk true (bcs a) 0),(1,Ent.mk true (bcs b) 0),(2,Ent.mk true [.b false,.b false,.b false,.b false,.b false,.b false] 0)],3⟩) (hF:∀ k,C.F k→k<3) (z:AR 164 Tryz.f164 C 0 ⟨[(2,.c (.w 0)),(3,.c (.w 1)),(4,.c (.w 2)),(6,.c (.i 0))],[(0,Ent.mk true (bcs a) 0),(1,Ent.mk true (bcs b) 0),(2,Ent.mk true [.b false,.b false,.b false,.b false,.b false,.b false] 0)],3⟩ R) :
  BO 164 Tryz.f164 C [.ag (bcs a),.ag (bcs b)] [] 0 R :=
 zai [] ([true]) [] Tryz.func164 (by kernel_rfl) rfl zae lo hF z
theorem yauz {a:V6 Bool} (h:(decide (j<6)&&(decide (0≤j)&&decide (j<6)&&(AC.isB ((bcs a)[j.toNat*1]?.getD (.b false))&&Nat.blt (j.toNat*1) (bcs a).length&&(a.get j.toNat&&(decide (0≤j)&&decide (j<6)&&(Nat.ble (j.toNat*1+1) (bcs a).length&&true&&true))))))=true) (c0:pe (.c (.b (AC.asB ((bcs a)[j.toNat*1]?.getD (.b false)))))=pe (.c (.b (a.get j.toNat)))) (c1:we 0 (splice (bcs a) (j.toNat*1) [.b true])=we 0 (bcs (a.set j.toNat true))) (lo:Kn.Low ⟨[(2,.c (.w 0)),(3,.c (.w 1)),(4,.c (.w 2)),(6,.c (.i (IntKind.i64.wrap (j+1))))],[(0,Ent.mk true (bcs (a.set j.toNat true)) 0),(1,Ent.mk true (bcs b) 0),(2,Ent.mk true [.b false,.b false,.b false,.b false,.b false,.b false] 0)],3⟩) (hF:∀ k,C.F k→k<3) (z:AR 164 Tryz.f164 C 0 ⟨[(2,.c (.w 0)),(3,.c (.w 1)),(4,.c (.w 2)),(6,.c (.i (IntKind.i64.wrap (j+1))))],[(0,Ent.mk true (bcs (a.set j.toNat true)) 0),(1,Ent.mk true (bcs b) 0),(2,Ent.mk true [.b false,.b false,.b false,.b false,.b false,.b false] 0)],3⟩ R) :
  AR 164 Tryz.f164 C 0 (yarp a b j) R :=
 zai [true,true] ([true]) [(4,3),(4,7),(4,10)] Tryz.func164 (by kernel_rfl) h (zac c0 (zac c1 zae)) lo hF z
theorem yaum {a:V6 Bool} (h:(decide (j<6)&&(decide (0≤j)&&decide (j<6)&&(AC.isB ((bcs a)[j.toNat*1]?.getD (.b false))&&Nat.blt (j.toNat*1) (bcs a).length&&(!a.get j.toNat&&(decide (0≤j)&&decide (j<6)&&(AC.isB ((bcs b)[j.toNat*1]?.getD (.b false))&&Nat.blt (j.toNat*1) (bcs b).length&&(decide (0≤j)&&decide (j<6)&&(Nat.ble (j.toNat*1+List.length [AC.b (b.get j.toNat)]) (bcs a).length&&true&&true))))))))=true) (c0:pe (.c (.b (AC.asB ((bcs a)[j.toNat*1]?.getD (.b false)))))=pe (.c (.b (a.get j.toNat)))) (c1:pe (.c (.b (AC.asB ((bcs b)[j.toNat*1]?.getD (.b false)))))=pe (.c (.b (b.get j.toNat)))) (c2:we 0 (splice (bcs a) (j.toNat*1) [.b (b.get j.toNat)])=we 0 (bcs (a.set j.toNat (b.get j.toNat)))) (lo:Kn.Low ⟨[(2,.c (.w 0)),(3,.c (.w 1)),(4,.c (.w 2)),(6,.c (.i (IntKind.i64.wrap (j+1))))],[(0,Ent.mk true (bcs (a.set j.toNat (b.get j.toNat))) 0),(1,Ent.mk true (bcs b) 0),(2,Ent.mk true [.b false,.b false,.b false,.b false,.b false,.b false] 0)],3⟩) (hF:∀ k,C.F k→k<3) (z:AR 164 Tryz.f164 C 0 ⟨[(2,.c (.w 0)),(3,.c (.w 1)),(4,.c (.w 2)),(6,.c (.i (IntKind.i64.wrap (j+1))))],[(0,Ent.mk true (bcs (a.set j.toNat (b.get j.toNat))) 0),(1,Ent.mk true (bcs b) 0),(2,Ent.mk true [.b false,.b false,.b false,.b false,.b false,.b false] 0)],3⟩ R) :
  AR 164 Tryz.f164 C 0 (yarp a b j) R :=
 zai [true,false] ([true]) [(4,3),(4,7),(4,10)] Tryz.func164 (by kernel_rfl) h (zac c0 (zac c1 (zac c2 zae))) lo hF z
theorem yamm {a:V6 Bool} :
  AR 164 Tryz.f164 (cx w β n []) 0 (yarp a b 6) (REff w β ⟨.ag (bcs a),[],none⟩) :=
 zah [] none [false] ([true]) [] Tryz.func164 (zat rfl n) (by kernel_rfl) rfl zae
end
theorem yaz4:Ok 115 [] (.ag onI.cs):=yavw
theorem yam4 (a:V4):Ok 116 [.ag a.cs] (.c (.b (a.l==a.h))):=yayc
theorem zm3 (i:Ins):Ok 117 [.ag i.cs] (.c (.b (zak i))):=by
 refine yasw (fun h=>?_) (fun h=>?_)
 ·unfold zak;rw [h];rfl
 ·unfold zak;rw [h];rfl
theorem zzd (i:Ins):Ok 120 [.ag i.cs] (.c (.b (decide (i.op≤10)))):=yawy
theorem zwb (t:St) {j:Int} (h:regB j=true):(AC.isU (Option.getD (St.cs t)[7+Int.toNat j*4+2]? (AC.b false))&&Nat.blt (7+Int.toNat j*4+2) (List.length (St.cs t)))=true :=
 zb8 (P:=fun j=>(AC.isU (Option.getD (St.cs t)[7+Int.toNat j*4+2]? (AC.b false))&&Nat.blt (7+Int.toNat j*4+2) (List.length (St.cs t)))=true) h rfl rfl rfl rfl rfl rfl
theorem zo4 (t:St) {j:Int} (h:regB j=true):Eff.mk (AV.c (AC.u (AC.asU (Option.getD (St.cs t)[7+Int.toNat j*4+2]? (AC.b false))))) [] none=Eff.mk (AV.c (AC.u (V4.l (V6.get (St.r t) (Int.toNat j))))) [] none :=
 zb8 (P:=fun j=>Eff.mk (AV.c (AC.u (AC.asU (Option.getD (St.cs t)[7+Int.toNat j*4+2]? (AC.b false))))) [] none=Eff.mk (AV.c (AC.u (V4.l (V6.get (St.r t) (Int.toNat j))))) [] none) h rfl rfl rfl rfl rfl rfl
theorem yajo {L:List Ins} {k:Nat} {t:St} (hP:RightP L) (hk:k<L.length) (ht:t.Ok):Ok 63 [.ag (elt L k).cs,.ag t.cs] (.ag (zfi (elt L k) t).cs):=by
 have c0:=yaz4
 have c1:=yaj1 hP hk ht
 have hr:=hP.step k hk
 change Right (elt L k) _ at hr
 generalize elt L k=i at *
 have c2:=yam4 ((zag i t).1.r.get i.d.toNat)
 have c3:=zm3 i
 have hB:decide (i.op≤9)=true→regB i.d=true:=fun h=>(ze8 hr (of_decide_eq_true h)).1
 have q0:=fun h=>zbe (zag i t).1 (hB h)
 have q1:=fun h=>zwb (zag i t).1 (hB h)
 have q2:=fun h=>zax (zag i t).1 (hB h)
 have q3:=fun h=>zo4 (zag i t).1 (hB h)
 have hne:decide (i.op≤9)=true→zak i=false:=fun h=>by
  have:=of_decide_eq_true h
  unfold zak
  rw [Bool.or_eq_false_iff]
  constructor <;> (rw [beq_eq_false_iff_ne];omega)
 have fin:∀ x:Ins,zfi i t=x→(AV.ag x.cs)=AV.ag (zfi i t).cs:=fun x h=>by rw [h]
 refine yarc (fun a=>⟨c0,fin onI ?_⟩) (fun a b d=>⟨hB b,q0 b,hB b,q1 b,c1,q2 b,c2,q3 b,fin ⟨1,i.d,-1,((zag i t).1.r.get i.d.toNat).l,0⟩ ?_⟩)
  (fun a b d e=>absurd e (by rw [hne b];decide)) (fun a b d e=>absurd e (by rw [hne b];decide)) (fun a b d e=>absurd e (by rw [hne b];decide)) (fun a b d e=>⟨hB b,q0 b,c1,q2 b,c2,c3,c3,fin i ?_⟩)
  (fun a b d e=>⟨c1,c3,c0,fin onI ?_⟩) (fun a b d e g=>⟨c1,c3,c3,fin ⟨12,0,0,0#64,i.of⟩ ?_⟩) (fun a b d e g=>⟨c1,c3,c3,fin i ?_⟩) (fun a b d=>⟨c1,c3,c3,fin i ?_⟩)
 all_goals unfold zfi V4.alone eqb
 all_goals simp only [Bool.not_eq_eq_eq_not,Bool.not_true,Bool.not_false] at *
 all_goals simp [*]
def orF (b:V6 Bool):Nat→V6 Bool→V6 Bool
 | 0,a=>a
 | n+1,a=>orF b n (a.set (5 - n) (a.get (5 - n)||b.get (5 - n)))
abbrev feKn (a b:V6 Bool) (j:Int):Kn:=⟨[(2,.c (.w 0)),(3,.c (.w 1)),(4,.c (.w 2)),(6,.c (.i j))],[(0,⟨true,bcs a,0⟩),(1,⟨true,bcs b,0⟩),(2,⟨true,bcs no6,0⟩)],3⟩
theorem zn9 (u:V6 Bool) {j:Int} (h:regB j=true):(AC.isB (Option.getD (bcs u)[Int.toNat j*1]? (AC.b false))&&Nat.blt (Int.toNat j*1) (List.length (bcs u)))=true :=
 zb8 (P:=fun j=>(AC.isB (Option.getD (bcs u)[Int.toNat j*1]? (AC.b false))&&Nat.blt (Int.toNat j*1) (List.length (bcs u)))=true) h rfl rfl rfl rfl rfl rfl
theorem zj3 (u:V6 Bool) {j:Int} (h:regB j=true):Nat.ble (Int.toNat j*1+1) (List.length (bcs u))=true :=
 zb8 (P:=fun j=>Nat.ble (Int.toNat j*1+1) (List.length (bcs u))=true) h rfl rfl rfl rfl rfl rfl
theorem yabn (u:V6 Bool) {j:Int} (x:Bool) (h:regB j=true):splice (bcs u) (Int.toNat j*1) [AC.b x]=bcs (V6.set u (Int.toNat j) x) :=
 zb8 (P:=fun j=>splice (bcs u) (Int.toNat j*1) [AC.b x]=bcs (V6.set u (Int.toNat j) x)) h rfl rfl rfl rfl rfl rfl
theorem yaq6 {b:V6 Bool} {w:World} {β:Bs}:∀ n,n≤6→∀ a:V6 Bool,
  ART Tryz.prog 164 (cx w β 0 []) Tryz.f164.ntmps (zdm Tryz.f164 0) (feKn a b (6 - n:Nat)) (REff w β ⟨.ag (bcs (orF b n a)),[],none⟩)
 | 0,_,a=>yamm
 | n+1,hn,a=>by
  have hj:=zm5 hn
  have ej:=zn0 hn
  have f0:=zwg hj
  have f2:(decide (0≤((6 - (n+1):Nat):Int))&&decide (((6 - (n+1):Nat):Int)<6))=true:=hj
  have next:∀ a':V6 Bool,a.set (5 - n) (a.get (5 - n)||b.get (5 - n))=a'→ART Tryz.prog 164 (cx w β 0 []) Tryz.f164.ntmps (zdm Tryz.f164 0) (feKn a' b (IntKind.wrap IntKind.i64 (((6 - (n+1):Nat):Int)+1))) (REff w β ⟨.ag (bcs (orF b (n+1) a)),[],none⟩):=by
   intro a' ha
   rw [zjg hn,orF,ha]
   exact yaq6 n (by omega) a'
  cases hg:a.get ((6 - (n+1):Nat):Int).toNat with
  | true =>
   refine yauz (zaa f0 (zaa f2 (zaa (zn9 a hj) (zaa hg (zaa f2 (by rw [zj3 a hj];rfl)))))) (zwu a hj) (by rw [yabn a true hj]) (zc8 rfl) (fun _ h=>absurd h (Nat.not_lt_zero _)) (next _ ?_)
   rw [ej] at hg ⊢;rw [hg];rfl
  | false =>
   refine yaum (zaa f0 (zaa f2 (zaa (zn9 a hj) (zaa (by rw [hg];rfl) (zaa f2 (zaa (zn9 b hj) (zaa f2 (by have:=zj3 a hj;rw [show List.length [AC.b (V6.get b (Int.toNat ((6 - (n+1):Nat):Int)))]=1 from rfl,this];rfl)))))))) (zwu a hj) (zwu b hj) (by rw [yabn a _ hj]) (zc8 rfl) (fun _ h=>absurd h (Nat.not_lt_zero _)) (next _ ?_)
   rw [ej] at hg ⊢;rw [hg];rfl
theorem znf (a b:V6 Bool):Ok 164 [.ag (bcs a),.ag (bcs b)] (.ag (bcs (orS a b))) :=
 zk7 Tryz.func164 rfl rfl rfl rfl fun _ _=>yapq (zc8 rfl) (fun _ h=>absurd h (Nat.not_lt_zero _)) (yaq6 6 (Nat.le_refl _) a)
end Go.Proofs.YtkigmocchaikgabGreatDoor
namespace Go.Proofs.YtkigmocchaikgabGreatDoor
theorem branch_iff {i:Ins}:zak i=true↔i.op=13∨i.op=14:=by simp [zak]
theorem yamh {L:List Ins}:(∀ k,k<L.length→inB (elt L k) ((L.length - 1 - k:Nat):Int)=true)→zfk L=true:=by
 induction L with
 | nil=>intro _;rfl
 | cons i l ih =>
  intro h
  rw [zfk,Bool.and_eq_true]
  refine ⟨?_,ih fun k hk=>?_⟩
  ·have:=h 0 (by simp)
   simpa [elt] using this
  ·have:=h (k+1) (by simpa using hk)
   have e:elt (i::l) (k+1)=elt l k:=rfl
   rw [e] at this
   rw [show (l.length - 1 - k)=((i::l).length - 1 - (k+1)) by simp;omega]
   exact this
theorem yaqa {L:List Ins} {p:Ins→Bool} (h:∀ k,k<L.length→p (elt L k)=true):L.all p=true:=by
 rw [List.all_eq_true]
 intro x hx
 obtain ⟨k,hk,rfl⟩:=List.getElem_of_mem hx
 have:=h k hk
 unfold elt at this
 rwa [List.getD_eq_getElem?_getD,List.getElem?_eq_getElem hk] at this
theorem zpa {L:List Ins} (hP:RightP L):zan L=0:=by
 have hp:=hP.pos
 have hl:=hP.le
 have h1:L.all zcl=true:=yaqa fun k hk=>(zdg hP hk).kind
 have h2:zfk L=true:=yamh fun k hk=>(zdg hP hk).fits
 have h3:L.all zbd=true:=yaqa fun k hk=>(zdg hP hk).bare
 have h4:zbz L=15:=by
  have:=hP.last
  unfold zbz
  rw [List.getLast?_eq_getElem?,List.getElem?_eq_getElem (by omega)]
  rw [List.getD_eq_getElem?_getD,List.getElem?_eq_getElem (by omega)] at this
  exact this
 unfold zan
 rw [if_neg (by omega),h1,h2,h3,h4]
 rfl
theorem zqw (i:Ins) (l:List Ins) (k:Nat):elt (i::l) (k+1)=elt l k:=rfl
theorem zf8 (S:List St):∀ (L:List Ins) (q:Nat),(zch S L q).length=L.length∧∀ k,elt (zch S L q) k=if k+1<L.length then zfi (elt L k) (stAt S (q+k)) else elt L k
 | [],q=>⟨rfl,fun k=>by rw [if_neg (by simp)];rfl⟩
 | [i],q=>⟨rfl,fun k=>by rw [if_neg (by simp)];rfl⟩
 | i::j::l,q=>by
  obtain ⟨h1,h2⟩:=zf8 S (j::l) (q+1)
  refine ⟨by simp [zch,h1],fun k=>?_⟩
  cases k with
  | zero=>rw [if_pos (by simp)];rfl
  | succ k =>
   show elt (zch S (j::l) (q+1)) k=_
   rw [h2 k,zqw]
   simp only [List.length_cons]
   by_cases c:k+1<l.length+1
   ·rw [if_pos c,if_pos (by omega),show q+1+k=q+(k+1) by omega]
   ·rw [if_neg c,if_neg (by omega)]
theorem zna {n:Int} (h:0<n):Right onI n:=by
 refine ⟨rfl,?_,rfl⟩
 show zcj 0 n=true
 simp [zcj,h]
theorem zy7 {i:Ins} {n:Int} {t:St} (h:0<n) (hr:Right i n):Right (zfi i t) n:=by
 unfold zfi
 by_cases hl:t.live=true
 ·rw [if_pos hl]
  split
  ·refine ⟨rfl,?_,rfl⟩
   show (regB i.d&&srcB (-1))=true
   rw [(zbo hr).1];rfl
  ·split
   ·exact zna h
   ·split
    ·rename_i c
     rw [Bool.and_eq_true] at c
     have:=zce hr (branch_iff.1 c.1)
     refine ⟨rfl,?_,rfl⟩
     show zcj i.of n=true
     simp [zcj];omega
    ·exact hr
 ·rw [if_neg hl];exact zna h
theorem zyf {L:List Ins} (hP:RightP L) (S:List St):RightP (zch S L 0):=by
 obtain ⟨h1,h2⟩:=zf8 S L 0
 have hp:=hP.pos
 refine ⟨by rw [h1];exact hP.pos,by rw [h1];exact hP.le,fun k hk=>?_,?_⟩
 ·rw [h1] at hk ⊢
  show Right (elt (zch S L 0) k) _
  rw [h2 k]
  split
  ·exact zy7 (by omega) (zdg hP hk)
  ·exact zdg hP hk
 ·show (elt (zch S L 0) ((zch S L 0).length - 1)).op=15
  rw [h1,h2,if_neg (by omega)]
  exact znu hP
end Go.Proofs.YtkigmocchaikgabGreatDoor
