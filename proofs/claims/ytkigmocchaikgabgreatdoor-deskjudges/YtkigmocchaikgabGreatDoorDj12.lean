import Derived.Test.YtkigmocchaikgabGreatDoorDj11
import Derived.Test.YtkigmocchaikgabGreatDoorDj6
import Derived.Test.YtkigmocchaikgabGreatDoorDj7
import Derived.Test.YtkigmocchaikgabGreatDoorDj10
/- A step as a text, a program as a text: the reference's. -/
namespace Go.Proofs.YtkigmocchaikgabGreatDoor
open Go.RowKit Go.Lib
def nmC:List AC:=wcell ([]::oNames)
theorem yaqj:nmC.flatMap AC.ks=[]:=zdh _
set_option maxRecDepth 100000 in
theorem names_ok:CallOK Tryz.prog ⟨66,[],[],⟨.c (.sl 1 0 16 16),[],some (1,⟨true,nmC,0⟩)⟩⟩ :=
 zks Tryz.func66 rfl rfl rfl rfl yaqj fun _ _ hk=>zah [] (some 1) [] [] [] Tryz.func66 hk (by kernel_rfl) rfl zae
theorem zcf (K:Nat):CallOK Tryz.prog ⟨66,[],[],⟨.c (.sl K 0 16 16),[],some (K,⟨true,nmC,0⟩)⟩⟩:=by
 refine (names_ok.ren (swp 1 K) (zbm 1 K)).congr ?_
 unfold CallRec.ren Eff.ren renH
 simp only [List.map_nil,Option.map_some,Ent.ren,zck _ yaqj,AV.ren,AC.ren,zek]
theorem yakk:nmC.length=16:=rfl
theorem yagh {k:Nat} (h:k<15):nmC[k+1]?=some (.s (bs (nmL k))):=by
 have e:oNames[k]?=some (nmL k):=by
  rw [nmL,List.getD_eq_getElem?_getD,List.getElem?_eq_getElem (show k<oNames.length from h)];rfl
 show (wcell oNames)[k]?=_
 unfold wcell
 rw [List.getElem?_map,e];rfl
structure Rg (i:Ins):Prop where
 d:0≤i.d
 s:i.s=-1∨0≤i.s
 m:i.op=10∨i.op=11→0≤i.s
theorem yazy {i:Ins} {n:Int} (hi:inB i n=true) (hb:zbc i=true):Rg i:=by
 obtain ⟨op,d,s,im,f⟩:=i
 simp only [inB,regB,srcB,zch] at hi
 simp only [zbc] at hb
 refine ⟨?_,?_,?_⟩ <;> simp only
 all_goals
  repeat' split at hi
  all_goals
   repeat' split at hb
   all_goals
    simp only [Bool.and_eq_true,Bool.or_eq_true,decide_eq_true_eq] at hi hb
    omega
theorem yba0 {L:List Ins} (h:zan L=0):∀ i∈L,Rg i:=by
 have hB:=zw5 h
 unfold zan at h
 split at h
 ·omega
 split at h
 ·omega
 split at h
 ·omega
 rename_i h3
 have h3':zfq L=true:=by simpa using h3
 intro i hi
 obtain ⟨n,_,h5⟩:=zoc h3' hi
 exact yazy h5 (hB i hi)
theorem zku {a:Nat} (h:a≤1000):decide (a≤9223372036854775807)=true:=decide_eq_true (by omega)
theorem sz1 (c:UInt8):ByteArray.size (ByteArray.mk #[c])=1:=rfl
set_option maxRecDepth 100000 in
theorem ztt {i:Ins} (h:Fld i) (hr:Rg i):Ok 33 [.ag i.cs] (.c (.s (bs (zgj i)))):=by
 have h1:=h.o1
 have h2:=h.o2
 obtain ⟨k,hk⟩:∃ k:Nat,i.op=(k:Int)+1:=⟨(i.op - 1).toNat,by omega⟩
 have hk15:k<15:=by omega
 have ho:0+(i.op).toNat*1=k+1:=by omega
 have hnm:=yagh hk15
 have g0:(decide (0≤i.op)&&decide (i.op<16))=true:=zaa (decide_eq_true (by omega)) (decide_eq_true (by omega))
 have g1:(AC.isS (nmC[0+(i.op).toNat*1]?.getD (.b false))&&Nat.blt (0+(i.op).toNat*1) nmC.length)=true:=by
  rw [ho,hnm,yakk]
  refine zaa rfl ?_
  simp;omega
 have g2:pe (.c (.s (AC.asS (nmC[0+(i.op).toNat*1]?.getD (.b false)))))=pe (.c (.s (bs (nmL k)))):=by rw [ho,hnm];rfl
 have hln:=yajv k
 have hw:=zs1 h
 have sW:∀ p,(bs (za7 i p)).size≤22:=fun p=>by rw [zdt];exact hw p
 have sN:(bs (nmL k)).size≤5:=by rw [zdt];exact hln
 have w0:Ok 85 [.c (.i i.d)] (.c (.s (bs (za7 i 0)))):=zzu _ hr.d h.d.2
 have w2:Ok 86 [.ag i.cs] (.c (.s (bs (za7 i 2)))):=yatl (hr.s.imp id fun x=>⟨x,h.s.2⟩)
 have w3:Ok 13 [.c (.u i.im)] (.c (.s (bs (za7 i 3)))):=yaaa _
 have w4:Ok 87 [.c (.i i.of)] (.c (.s (bs (za7 i 4)))):=yaji _ h.f.1 h.f.2
 have hl:zgj i=nmL k++zed i (plcs i.op)++[10]:=by unfold zgj;rw [show (i.op - 1).toNat=k by omega]
 have cR:=zdr i.op
 have cB:=zao i.op
 rw [hl]
 by_cases h9:i.op≤9
 ·rw [decide_eq_true h1,decide_eq_true h9] at cR
  have e:plcs i.op=[0,2]:=by unfold plcs;rw [if_neg (by omega),if_neg (by omega),if_neg (by omega),if_neg (by omega),if_neg (by omega)]
  refine zam (yaz5 (u1:=bs (za7 i 0)) (u2:=bs (za7 i 2)) ?_ (zcf 2) g2 cR w0 w2) ?_
  ·have a:=sW 0;have b:=sW 2
   refine zaa g0 (zaa g1 ?_)
   repeat' apply zaa
   all_goals first | rfl | (refine zku ?_;(try simp only [ByteArray.size_append,sz1]);omega)
  ·show AV.c (.s (bs (nmL k)++bs [32]++bs (za7 i 0)++bs [32]++bs (za7 i 2)++bs [10]))=_
   simp only [zgs,e]
   simp [zed]
 ·rw [decide_eq_false h9,Bool.and_false] at cR
  by_cases h10:i.op=10
  ·have w1:Ok 85 [.c (.i i.s)] (.c (.s (bs (za7 i 1)))):=zzu _ (hr.m (Or.inl h10)) h.s.2
   have e:plcs i.op=[3,0,1,4]:=by simp [plcs,h10]
   refine zam (yawz (u1:=bs (za7 i 3)) (u2:=bs (za7 i 0)) (u3:=bs (za7 i 1)) (u4:=bs (za7 i 4)) ?_ (zcf 2) g2 cR w3 w0 w1 w4) ?_
   ·have a:=sW 0;have b:=sW 1;have c:=sW 3;have d:=sW 4
    refine zaa g0 (zaa g1 (zaa (by simp [h10]) ?_))
    repeat' apply zaa
    all_goals first | rfl | (refine zku ?_;(try simp only [ByteArray.size_append,sz1]);omega)
   ·show AV.c (.s (bs (nmL k)++bs [32]++bs (za7 i 3)++bs [32]++bs (za7 i 0)++bs [32]++bs (za7 i 1)++bs [32]++bs (za7 i 4)++bs [10]))=_
    simp only [zgs,e]
    simp [zed]
  ·have f10:(!(i.op==10))=true:=by simp [h10]
   by_cases h11:i.op=11
   ·have w1:Ok 85 [.c (.i i.s)] (.c (.s (bs (za7 i 1)))):=zzu _ (hr.m (Or.inr h11)) h.s.2
    have e:plcs i.op=[3,0,4,1]:=by simp [plcs,h11]
    refine zam (yazb (u1:=bs (za7 i 3)) (u2:=bs (za7 i 0)) (u3:=bs (za7 i 4)) (u4:=bs (za7 i 1)) ?_ (zcf 2) g2 cR w3 w0 w4 w1) ?_
    ·have a:=sW 0;have b:=sW 1;have c:=sW 3;have d:=sW 4
     refine zaa g0 (zaa g1 (zaa f10 (zaa (by simp [h11]) ?_)))
     repeat' apply zaa
     all_goals first | rfl | (refine zku ?_;(try simp only [ByteArray.size_append,sz1]);omega)
    ·show AV.c (.s (bs (nmL k)++bs [32]++bs (za7 i 3)++bs [32]++bs (za7 i 0)++bs [32]++bs (za7 i 4)++bs [32]++bs (za7 i 1)++bs [10]))=_
     simp only [zgs,e]
     simp [zed]
   ·have f11:(!(i.op==11))=true:=by simp [h11]
    by_cases h13:i.op=13∨i.op=14
    ·have cB2:Ok 34 [.c (.i i.op)] (.c (.b true)):=zam cB (by rcases h13 with e | e <;> rw [e] <;> rfl)
     have e:plcs i.op=[0,2,4]:=by unfold plcs;rw [if_neg h10,if_neg h11,if_neg (by omega),if_pos h13]
     refine zam (yawx (u1:=bs (za7 i 0)) (u2:=bs (za7 i 2)) (u3:=bs (za7 i 4)) ?_ (zcf 2) g2 cR cB2 w0 w2 w4) ?_
     ·have a:=sW 0;have b:=sW 2;have c:=sW 4
      refine zaa g0 (zaa g1 (zaa f10 (zaa f11 ?_)))
      repeat' apply zaa
      all_goals first | rfl | (refine zku ?_;(try simp only [ByteArray.size_append,sz1]);omega)
     ·show AV.c (.s (bs (nmL k)++bs [32]++bs (za7 i 0)++bs [32]++bs (za7 i 2)++bs [32]++bs (za7 i 4)++bs [10]))=_
      simp only [zgs,e]
      simp [zed]
    ·have cB2:Ok 34 [.c (.i i.op)] (.c (.b false)):=zam cB (by
      have e13:(i.op==13)=false:=beq_eq_false_iff_ne.2 fun e=>h13 (Or.inl e)
      have e14:(i.op==14)=false:=beq_eq_false_iff_ne.2 fun e=>h13 (Or.inr e)
      rw [e13,e14];rfl)
     by_cases h12:i.op=12
     ·have e:plcs i.op=[4]:=by simp [plcs,h12]
      refine zam (yawn (u1:=bs (za7 i 4)) ?_ (zcf 2) g2 cR cB2 w4) ?_
      ·have a:=sW 4
       refine zaa g0 (zaa g1 (zaa f10 (zaa f11 (zaa (by simp [h12]) ?_))))
       repeat' apply zaa
       all_goals first | rfl | (refine zku ?_;(try simp only [ByteArray.size_append,sz1]);omega)
      ·show AV.c (.s (bs (nmL k)++bs [32]++bs (za7 i 4)++bs [10]))=_
       simp only [zgs,e]
       simp [zed]
     ·have e:plcs i.op=[]:=by unfold plcs;rw [if_neg h10,if_neg h11,if_neg h12,if_neg h13,if_pos (by omega)]
      refine zam (yawb ?_ (zcf 2) g2 cR cB2) ?_
      ·refine zaa g0 (zaa g1 (zaa f10 (zaa f11 (zaa (by simp [h12]) ?_))))
       repeat' apply zaa
       all_goals first | rfl | (refine zku ?_;omega)
      ·show AV.c (.s (bs (nmL k)++bs [10]))=_
       simp only [zgs,e]
       simp [zed]
theorem yaq1 (L:List Ins) (c j:Nat) (t:ByteArray):Kn.Low (ctRK L c j t):=zg9 rfl rfl ⟨zaj L,trivial⟩
theorem yaf8 {L:List Ins} {j:Nat} (h:j<L.length):shown (L.take (j+1))=shown (L.take j)++zgj (elt L j):=by
 have e:L[j]?=some (elt L j):=by unfold elt;rw [List.getD_eq_getElem?_getD,List.getElem?_eq_getElem h];rfl
 rw [zmv e]
 simp [shown]
theorem yarn {L:List Ins} {j:Nat} (h:j<L.length):elt L j∈L:=by
 unfold elt;rw [List.getD_eq_getElem?_getD,List.getElem?_eq_getElem h]
 exact List.getElem_mem _
theorem yaqq {L:List Ins} {c:Nat} (he:zan L=0) {w:World} {β:Bs}:∀ n j,j+n=L.length →
  AR 14 Tryz.f14 (cx w β 1 []) 0 (ctRK L c j (bs (shown (L.take j)))) (REff w β ⟨.c (.s (bs (shown L))),[],none⟩)
 | 0,j,hj=>by
  rw [List.take_of_length_le (by omega)]
  exact yayc (zaa (zad (decide_eq_false (by omega))) rfl)
 | n+1,j,hj=>by
  obtain ⟨h64,hF⟩:=zg2 he
  have hm:=yarn (L:=L) (j:=j) (by omega)
  have d0:decide ((j:Int)<(L.length:Int))=true:=decide_eq_true (by omega)
  have hl:=zqc (hF _ hm)
  have hs:=zg0 (L:=L.take j) fun x hx=>hF x (List.mem_of_mem_take hx)
  rw [List.length_take] at hs
  refine yavw (i:=elt L j) (u1:=bs (zgj (elt L j))) (m:=bs (shown (L.take (j+1)))) (zaa d0 (zaa d0 (zaa (pble (by omega)) (zaa ?_ rfl)))) (zdj (by omega)) (ztt (hF _ hm) (yba0 he _ hm)) ?_ (ze4 (by omega)) (yaq1 _ _ _ _) (fun _ h=>h) (yaqq he n (j+1) (by omega))
  ·rw [zdt,zdt];exact decide_eq_true (by omega)
  ·rw [zgs,yaf8 (by omega)]
theorem zik {L:List Ins} (c:Nat) (he:zan L=0):CallOK Tryz.prog ⟨14,[.c (.sl 0 0 L.length c)],pH L,⟨.c (.s (bs (shown L))),[],none⟩⟩ :=
 zg8 Tryz.func14 rfl rfl (zqo rfl) rfl ro_p fun _ _=>yao6 (yaq1 _ _ 0 _) (fun _ h=>h) (yaqq he _ 0 (Nat.zero_add _))
theorem zio (l:List UInt8):(bs l).toList=l:=by rw [zep]
theorem yazd {P:Program} {f:FuncId} {fn:Func} {args:List AV} {cs cs':List AC} {v:AV} (hf:P.funcs[f]?=some fn) (hb:fn.body.isSome=true) (hN:Nat.ble args.length fn.ntmps=true) (ha:(ze2 args).all (fun k=>Nat.blt k 1)=true) (hcs:cs.flatMap AC.ks=[]) (hne:cs≠[]) (hv:v.ks=[]) (hc:cs'.flatMap AC.ks=[])
  (h:∀ w β,EKeys 1 [0] none ⟨v,[(0,cs')],none⟩→ART P f (cx w β 1 [0]) fn.ntmps [.code (zdn fn)] (Kn.start args [(0,⟨true,cs,0⟩)] 1) (REff w β ⟨v,[(0,cs')],none⟩)):CallOK P ⟨f,args,[(0,⟨true,cs,0⟩)],⟨v,[(0,cs')],none⟩⟩:=by
 have e:EKeys 1 [0] none ⟨v,[(0,cs')],none⟩:=by
  refine ⟨fun k hk=>?_,fun k cs hm=>?_,fun _ _ h'=>(nomatch h'),fun k h=>?_,fun _ h=>(nomatch h)⟩
  ·simp only at hk;rw [hv] at hk;cases hk
  ·have:=List.mem_singleton.1 hm;injection this with _ h2;subst h2;exact hc
  ·rw [List.mem_singleton.1 h];decide
 have hB:Begin args [(0,⟨true,cs,0⟩)] 1:=by
  refine ⟨fun v hv k hk=>?_,fun k e he=>?_⟩
  ·have h2:=List.all_eq_true.1 ha k (List.mem_flatMap.2 ⟨v,hv,hk⟩)
   simpa using h2
  ·obtain ⟨rfl,rfl⟩:=zbg he
   exact ⟨by decide,fun c hc j hj=>(zeu hcs hc hj).elim⟩
 refine zns [0] none hf hb hN hB (fun k hk=>?_) (fun _ _ h'=>(nomatch h')) (fun _ h=>(nomatch h)) e (fun k cs' hm=>?_) (fun k en h1 h2=>?_) fun w β _=>h w β e
 ·simp only at hk;rw [hv] at hk;cases hk
 ·have:=List.mem_singleton.1 hm;injection this with h1 h2;subst h1
  exact ⟨⟨true,cs,0⟩,rfl,rfl,hne⟩
 ·obtain ⟨rfl,_⟩:=zbg h1;exact List.mem_singleton.2 rfl
theorem yaz9 {t:ByteArray} (ht:t.size≤4096) (i:Ins):CallOK Tryz.prog ⟨67,[.c (.s t),.c (.w 0)],[(0,⟨true,i.cs,0⟩)],⟨.tu [],[(0,(zov i t.data.toList).cs)],none⟩⟩:=by
 refine yazd Tryz.func67 rfl rfl rfl rfl (by simp [Ins.cs]) rfl rfl fun w β hk=>?_
 unfold zov at hk ⊢
 by_cases h0:0<t.size
 ·have b0:=yaxu t 114 h0
  have d0:decide (0<(t.size:Int))=true:=decide_eq_true (by omega)
  by_cases h:t.data.toList.head?=some 114
  ·rw [if_pos h] at hk ⊢
   rw [decide_eq_true h] at b0
   exact yay7 (zaa d0 (zaa (decide_eq_true h0) (zaa b0 rfl))) (yaap ht) hk
  ·rw [if_neg h] at hk ⊢
   rw [decide_eq_false h] at b0
   exact yaye (zaa d0 (zaa (decide_eq_true h0) (zaa (zad b0) rfl))) (zhh ht) hk
 ·have hl:t.data.toList=[]:=List.length_eq_zero_iff.1 (by rw [zdv];omega)
  have h:¬ t.data.toList.head?=some 114:=by rw [hl];simp
  rw [if_neg h] at hk ⊢
  exact yazl (zaa (zad (decide_eq_false (by omega))) rfl) (zhh ht) hk
theorem yaxx {t:ByteArray} (ht:t.size≤4096) (i:Ins) (K:Nat):CallOK Tryz.prog ⟨67,[.c (.s t),.c (.w K)],[(K,⟨true,i.cs,0⟩)],⟨.tu [],[(K,(zov i t.data.toList).cs)],none⟩⟩:=by
 refine ((yaz9 ht i).ren (swp 0 K) (zbm 0 K)).congr ?_
 unfold CallRec.ren Eff.ren renH
 simp only [List.map_cons,List.map_nil,Option.map_none,Ent.ren,AV.ren,AC.ren,zek,Ins.cs]
def zq9 (l:List UInt8):Nat→Int
 | 0=>0
 | j+1=>if 1≤j∧nmL (j - 1)=l then (j:Int) else zq9 l j
theorem ztk {l:List UInt8} (h:∀ k,k<15→nmL k≠l):∀ j,j≤16→zq9 l j=0
 | 0,_=>rfl
 | j+1,hj=>by
  unfold zq9
  rw [if_neg (fun e=>h (j - 1) (by omega) e.2),ztk h j (by omega)]
theorem yakr:∀ k,k<15→zq9 (nmL k) 16=(k:Int)+1:=by decide
theorem yar2 (l:List UInt8):zq9 l 16=opP l:=by
 unfold opP
 cases h:zkp l with
 | some k =>
  obtain ⟨hk,rfl⟩:=zho h
  exact yakr k hk
 | none=>exact ztk (fun k hk e=>by rw [← e,zlj k hk] at h;cases h) 16 (Nat.le_refl _)
theorem yapd (l:List UInt8):0≤opP l∧opP l≤15:=by
 unfold opP
 cases h:zkp l with
 | some k =>
  obtain ⟨hk,_⟩:=zho h
  simp only
  omega
 | none=>simp
theorem wd (ws:List (List UInt8)) {k:Nat} (hk:k<5):(wcell ws++E5)[k]?=some (.s (bs (ws.getD k []))):=by
 by_cases h:k<ws.length
 ·rw [List.getElem?_append_left (by rw [zgx];exact h),List.getD_eq_getElem?_getD]
  unfold wcell
  rw [List.getElem?_map,List.getElem?_eq_getElem h];rfl
 ·have e:ws.getD k []=[]:=by rw [List.getD_eq_getElem?_getD,List.getElem?_eq_none (by omega)];rfl
  rw [List.getElem?_append_right (by rw [zgx];omega),e]
  show (List.replicate 5 (AC.s ⟨#[]⟩))[k - (wcell ws).length]?=_
  rw [List.getElem?_replicate,if_pos (by omega)]
abbrev guK (ws:List (List UInt8)) (j:Nat) (o:Int):Kn:=guYK ws.length j o (wcell ws++E5)
theorem ybao (ws:List (List UInt8)):(wcell ws++E5).flatMap AC.ks=[]:=by rw [List.flatMap_append,zdh];rfl
theorem yag0 (ws:List (List UInt8)) (j:Nat) (o:Int):Kn.Low (guK ws j o):=zg9 rfl rfl ⟨rfl,ybao ws,rfl,trivial⟩
theorem yaun (ws:List (List UInt8)) {k:Nat} (hk:k<5):(AC.isS ((wcell ws++E5)[k]?.getD (.b false))&&Nat.blt k (wcell ws++E5).length)=true:=by
 rw [wd ws hk]
 refine zaa rfl ?_
 rw [List.length_append]
 simp;omega
theorem yatn (ws:List (List UInt8)) {k:Nat} (hk:k<5):pe (.c (.s (AC.asS ((wcell ws++E5)[k]?.getD (.b false)))))=pe (.c (.s (bs (ws.getD k [])))):=by rw [wd ws hk];rfl
theorem yaqw (ws:List (List UInt8)) {C:Cx} {R:Ending→World→Prop} (hF:∀ k,C.F k→k<8) (z:AR 28 Tryz.f28 C 0 (guK ws 16 (opP (ws.getD 0 []))) R):∀ n j,j+n=16→1≤j→AR 28 Tryz.f28 C 0 (guK ws j (zq9 (ws.getD 0 []) j)) R
 | 0,j,hj,_=>by
  obtain rfl:j=16:=by omega
  rw [yar2];exact z
 | n+1,j,hj,h1=>by
  obtain ⟨k,rfl⟩:∃ k,j=k+1:=⟨j - 1,by omega⟩
  have hk:k<15:=by omega
  have d0:decide (((k+1:Nat):Int)<16)=true:=decide_eq_true (by omega)
  have dr:decide (0<(((ws.length+5:Nat)):Int))=true:=decide_eq_true (by omega)
  have e0:0+((k+1:Nat):Int).toNat*1=k+1:=by omega
  have g1:(AC.isS (nmC[0+((k+1:Nat):Int).toNat*1]?.getD (.b false))&&Nat.blt (0+((k+1:Nat):Int).toNat*1) nmC.length)=true:=by
   rw [e0,yagh hk,yakk]
   refine zaa rfl ?_
   simp;omega
  have g2:pe (.c (.s (AC.asS (nmC[0+((k+1:Nat):Int).toNat*1]?.getD (.b false)))))=pe (.c (.s (bs (nmL k)))):=by rw [e0,yagh hk];rfl
  have ih:=yaqw ws hF z n (k+1+1) (by omega) (by omega)
  have es:zq9 (ws.getD 0 []) (k+1+1)=if nmL k=ws.getD 0 [] then ((k+1:Nat):Int) else zq9 (ws.getD 0 []) (k+1):=by
   show (if 1≤k+1∧nmL (k+1 - 1)=ws.getD 0 [] then ((k+1:Nat):Int) else zq9 (ws.getD 0 []) (k+1))=_
   simp
  rw [es] at ih
  by_cases h:nmL k=ws.getD 0 []
  ·rw [if_pos h] at ih
   exact yazp (zaa d0 (zaa d0 (zaa g1 (zaa dr (zaa (yaun ws (by decide)) (zaa (by rw [zio,zio,h];simp) rfl)))))) (zcf 9) (zcf 12) g2 (yatn ws (by decide)) (ze4 (by omega)) (yag0 _ _ _) hF ih
  ·rw [if_neg h] at ih
   exact yaz1 (zaa d0 (zaa d0 (zaa g1 (zaa dr (zaa (yaun ws (by decide)) (zaa (zad (by rw [zio,zio];exact beq_eq_false_iff_ne.2 h)) rfl)))))) (zcf 9) (zcf 12) g2 (yatn ws (by decide)) (ze4 (by omega)) (yag0 _ _ _) hF ih
theorem yba2 (ws:List (List UInt8)) (hs:∀ k,(bs (ws.getD k [])).size≤4096) {w:World} {β:Bs} {n:Nat}:AR 28 Tryz.f28 (cx w β n []) 0 (guK ws 16 (opP (ws.getD 0 []))) (REff w β ⟨.ag (yabq ws).cs,[],none⟩):=by
 have d0:(!decide (((16:Nat):Int)<16))=true:=rfl
 have dr:∀ k:Nat,k<5→decide ((k:Int)<(((ws.length+5:Nat)):Int))=true:=fun k h=>decide_eq_true (by omega)
 have g:∀ k,k<5→_:=fun k h=>yaun ws h
 have p:∀ k,k<5→_:=fun k h=>yatn ws h
 have vR:∀ k,Ok 68 [.c (.s (bs (ws.getD k [])))] (.c (.i (regP (ws.getD k [])))):=fun k=>yaap (hs k)
 have vS:∀ k,Ok 70 [.c (.s (bs (ws.getD k [])))] (.c (.i (zgi (ws.getD k [])))):=fun k=>yab4 (hs k)
 have vV:∀ k,Ok 69 [.c (.s (bs (ws.getD k [])))] (.c (.u (valP (ws.getD k [])))):=fun k=>zhh (hs k)
 have hr:=yapd (ws.getD 0 [])
 unfold yabq
 generalize opP (ws.getD 0 [])=o at *
 have cR:=zdr o
 have cB:=zao o
 unfold yalw
 by_cases h9:1≤o∧o≤9
 ·rw [if_pos h9]
  rw [decide_eq_true h9.1,decide_eq_true h9.2] at cR
  exact yazr (zaa d0 (zaa (dr 1 (by decide)) (zaa (g 1 (by decide)) (zaa (dr 2 (by decide)) (zaa (g 2 (by decide)) rfl))))) (zcf 9) cR (p 1 (by decide)) (vR 1) (p 2 (by decide)) (yaxx (hs 2) ⟨o,regP (ws.getD 1 []),0,0,0⟩ 6)
 ·rw [if_neg h9]
  have cR2:Ok 38 [.c (.i o)] (.c (.b false)):=zam cR (by
   rcases Int.lt_or_le o 1 with h | h
   ·rw [decide_eq_false (by omega)];rfl
   ·rw [decide_eq_false (show ¬ o≤9 by omega),Bool.and_false])
  by_cases h10:o=10
  ·subst h10
   rw [if_pos rfl]
   exact yaz3 (zaa d0 (zaa rfl (zaa (dr 1 (by decide)) (zaa (g 1 (by decide)) (zaa (dr 2 (by decide)) (zaa (g 2 (by decide)) (zaa (dr 3 (by decide)) (zaa (g 3 (by decide)) (zaa (dr 4 (by decide)) (zaa (g 4 (by decide)) rfl)))))))))) (zcf 9) cR2 (p 1 (by decide)) (vV 1) (p 2 (by decide)) (vR 2) (p 3 (by decide)) (vR 3) (p 4 (by decide)) (vS 4)
  ·rw [if_neg h10]
   have f10:(!(o==10))=true:=by simp [h10]
   by_cases h11:o=11
   ·subst h11
    rw [if_pos rfl]
    exact yay1 (zaa d0 (zaa f10 (zaa rfl (zaa (dr 1 (by decide)) (zaa (g 1 (by decide)) (zaa (dr 2 (by decide)) (zaa (g 2 (by decide)) (zaa (dr 3 (by decide)) (zaa (g 3 (by decide)) (zaa (dr 4 (by decide)) (zaa (g 4 (by decide)) rfl))))))))))) (zcf 9) cR2 (p 1 (by decide)) (vV 1) (p 2 (by decide)) (vR 2) (p 3 (by decide)) (vS 3) (p 4 (by decide)) (vR 4)
   ·rw [if_neg h11]
    have f11:(!(o==11))=true:=by simp [h11]
    by_cases h13:o=13∨o=14
    ·rw [if_pos h13]
     have cB2:Ok 34 [.c (.i o)] (.c (.b true)):=zam cB (by rcases h13 with e | e <;> rw [e] <;> rfl)
     exact yayy (i:=zov ⟨o,regP (ws.getD 1 []),0,0,0⟩ (ws.getD 2 [])) (zaa d0 (zaa f10 (zaa f11 (zaa (dr 1 (by decide)) (zaa (g 1 (by decide)) (zaa (dr 2 (by decide)) (zaa (g 2 (by decide)) (zaa (dr 3 (by decide)) (zaa (g 3 (by decide)) rfl))))))))) (zcf 9) cR2 cB2 (p 1 (by decide)) (vR 1) (p 2 (by decide)) (yaxx (hs 2) ⟨o,regP (ws.getD 1 []),0,0,0⟩ 6) (p 3 (by decide)) (vS 3)
    ·rw [if_neg h13]
     have cB2:Ok 34 [.c (.i o)] (.c (.b false)):=zam cB (by
      have e13:(o==13)=false:=beq_eq_false_iff_ne.2 fun e=>h13 (Or.inl e)
      have e14:(o==14)=false:=beq_eq_false_iff_ne.2 fun e=>h13 (Or.inr e)
      rw [e13,e14];rfl)
     by_cases h12:o=12
     ·subst h12
      rw [if_pos rfl]
      exact yav9 (zaa d0 (zaa f10 (zaa f11 (zaa rfl (zaa (dr 1 (by decide)) (zaa (g 1 (by decide)) rfl)))))) (zcf 9) cR2 cB2 (p 1 (by decide)) (vS 1)
     ·rw [if_neg h12]
      exact yaxw (zaa d0 (zaa f10 (zaa f11 (zaa (by simp [h12]) rfl)))) (zcf 9) cR2 cB2
theorem yaao {l:List UInt8} {c:UInt8} {k:Nat} (j:Nat):((cutL c k [] l).getD j []).length≤l.length:=by
 rw [List.getD_eq_getElem?_getD]
 cases h:(cutL c k [] l)[j]? with
 | none=>simp
 | some x=>exact zyi c l [] k l.length (by simp) x (List.mem_of_getElem? h)
theorem yaai {t:ByteArray} (ht:t.size≤4096):Ok 28 [.c (.s t)] (.ag (zdw t.data.toList).cs):=by
 refine zg8 Tryz.func28 rfl rfl (zvr rfl) rfl (fun _ _ h=>(nomatch h)) fun w β=>?_
 have hc:=yaqi ht 32 (k:=5) (by omega) 2
 have hl:=zhs 32 t.data.toList [] 6
 have h0:0<(cutL 32 6 [] t.data.toList).length:=List.length_pos_iff.2 (zl7 32 5 _ _)
 have hs:∀ k,(bs ((cutL 32 6 [] t.data.toList).getD k [])).size≤4096:=fun k=>by
  rw [zdt]
  have:=yaao (l:=t.data.toList) (c:=32) (k:=6) k
  rw [zdv] at this
  omega
 unfold zdw
 generalize cutL 32 6 [] t.data.toList=ws at *
 have g0:(Nat.beq (ws.length*1) (wcell ws).length&&decide (ws.length+5≤137438953472)&&Nat.blt 0 ws.length)=true:=by
  rw [zgx,Nat.mul_one,Nat.beq_refl,decide_eq_true (by omega)]
  simpa using h0
 exact yan3 (zaa g0 rfl) hc rfl (yag0 ws 1 0) (fun k hk=>absurd hk (Nat.not_lt_zero k)) (yaqw ws (fun k hk=>absurd hk (Nat.not_lt_zero k)) (yba2 ws hs) 15 1 rfl (Nat.le_refl _))
theorem p_sx {f:Nat} {L:List Ins} {v:AV} (h:∀ c,CallOK Tryz.prog ⟨f,[.c (.sl 0 0 L.length c)],pH L,⟨v,[],none⟩⟩) (hv:∀ ρ,v.ren ρ=v) (K:Nat) (b:Bool) (r:Nat):CallOK Tryz.prog ⟨f,[.c (.sx K L.length)],[(K,⟨b,pcell L,r⟩)],⟨v,[],none⟩⟩:=by
 refine CallOK.of_cap (xs:=[]) (bs:=[]) fun c=>?_
 refine CallOK.more (H:=[(K,⟨false,pcell L,0⟩)]) ?_ ⟨fun j en hj=>?_⟩
 ·refine ((h c).ren (swp 0 K) (zbm 0 K)).congr ?_
  unfold CallRec.ren Eff.ren renH
  have e:AV.ren (swp 0 K) (.c (.sl 0 0 L.length c))=.c (.sl K 0 L.length c):=by simp only [AV.ren,AC.ren,zek]
  simp only [List.map_cons,List.map_nil,Option.map_none,Ent.ren,zck _ (zaj L),e,zek,hv,List.nil_append]
 ·obtain ⟨rfl,rfl⟩:=zbg hj
  exact ⟨⟨b,pcell L,r⟩,by rw [zav,if_pos rfl],rfl,fun h=>(by cases h),Or.inl rfl⟩
theorem yaux (t:ByteArray) (r j:Nat) (ws:List (List UInt8)):Kn.Low (yaof t r j (wcell ws)):=zg9 rfl rfl ⟨zdh ws,trivial⟩
theorem yag1 (t:ByteArray) (r j:Nat) (ws:List (List UInt8)) (M:List Ins):Kn.Low (zos t r j (wcell ws) M):=zg9 rfl rfl ⟨zdh ws,zaj M,trivial⟩
abbrev cfYK (t:ByteArray) (r j q:Nat) (D:List AC) (M:List Ins):Kn:=⟨[(0,.c (.s t)),(4,.c (.sx 6 r)),(5,.c (.sx 63 q)),(6,.c (.i (j:Int)))],[(6,Ent.mk true D 1),(63,Ent.mk true (pcell M) 5)],64⟩
theorem yalt (t:ByteArray) (r j q:Nat) (ws:List (List UInt8)) (M:List Ins):Kn.Low (cfYK t r j q (wcell ws) M):=zg9 rfl rfl ⟨zdh ws,zaj M,trivial⟩
theorem yaqp (t:ByteArray) (r j q:Nat) (ws:List (List UInt8)) (M:List Ins) (hq:q=M.length):(cfYK t r j q (wcell ws) M).ren (swp 50 63) 51=zos t r j (wcell ws) M:=by
 subst hq
 unfold Kn.ren renH
 simp only [List.map_cons,List.map_nil,Ent.ren,zck _ (zdh ws),zck _ (zaj M)]
 rfl
theorem yav5 {ws:List (List UInt8)} {j:Nat} (h:j<ws.length):(wcell ws)[(j:Int).toNat*1]?=some (.s (bs (ws.getD j []))):=by
 rw [Int.toNat_natCast,Nat.mul_one]
 unfold wcell
 rw [List.getElem?_map,List.getD_eq_getElem?_getD,List.getElem?_eq_getElem h];rfl
theorem yaxk {ws:List (List UInt8)} {j:Nat} (h:j<ws.length):(AC.isS ((wcell ws)[(j:Int).toNat*1]?.getD (.b false))&&Nat.blt ((j:Int).toNat*1) (wcell ws).length)=true:=by
 rw [yav5 h,zgx]
 refine zaa rfl ?_
 simpa using h
theorem yavz {ws:List (List UInt8)} {j:Nat} (h:j<ws.length):pe (.c (.s (AC.asS ((wcell ws)[(j:Int).toNat*1]?.getD (.b false)))))=pe (.c (.s (bs (ws.getD j [])))):=by rw [yav5 h];rfl
theorem yald (ws:List (List UInt8)) {j:Nat} (h:j<ws.length):(ws.take j).map zdw++[zdw (ws.getD j [])]=(ws.take (j+1)).map zdw:=by
 rw [List.take_add_one,List.map_append,List.getElem?_eq_getElem h,List.getD_eq_getElem?_getD,List.getElem?_eq_getElem h];rfl
theorem zvq (i:Ins):i.cs=pcell [i]:=by simp [pcell]
theorem yaq6 {t:ByteArray} {ws:List (List UInt8)} (hs:∀ k,(bs (ws.getD k [])).size≤4096) (h66:ws.length≤66) {C:Cx} {R:Ending→World→Prop} (hF:∀ k,C.F k→k<0) (z:AR 11 Tryz.f11 C 0 (zos t ws.length (ws.length - 1) (wcell ws) (ws.dropLast.map zdw)) R):∀ n j,j+n+1=ws.length→1≤j→AR 11 Tryz.f11 C 0 (zos t ws.length j (wcell ws) ((ws.take j).map zdw)) R
 | 0,j,hj,_=>by
  obtain rfl:j=ws.length - 1:=by omega
  rw [← List.dropLast_eq_take];exact z
 | n+1,j,hj,h1=>by
  have hl:((ws.take j).map zdw).length=j:=by rw [List.length_map,List.length_take];omega
  have d0:decide (((j+1:Nat):Int)<(ws.length:Int))=true:=decide_eq_true (by omega)
  have d1:decide ((j:Int)<(ws.length:Int))=true:=decide_eq_true (by omega)
  have hjw:j<ws.length:=by omega
  have da:(Nat.beq (((ws.take j).map zdw).length*5) (pcell ((ws.take j).map zdw)).length&&decide (((ws.take j).map zdw).length+1≤137438953472)&&Nat.blt 0 ((ws.take j).map zdw).length)=true:=by
   rw [zat,Nat.beq_refl,hl,decide_eq_true (by omega)]
   simp;omega
  have hg:=yaai (hs j)
  refine yavf (zaa d0 (zaa d1 (zaa (yaxk hjw) (zaa da rfl)))) (ze4 (by omega)) (yavz hjw) hg ?_ (ze4 (by omega)) (yalt _ _ _ _ _ _) (fun k hk=>absurd (hF k hk) (Nat.not_lt_zero k)) ?_
  ·rw [yaj9,← zvq];rfl
  ·have e:=yald ws hjw
   refine ART.ren (swp 50 63) 51 (zrk 50 63) (yaqp _ _ _ _ _ _ (by simp)) (fun k hk=>absurd (hF k hk) (Nat.not_lt_zero k)) (yag1 _ _ _ _ _) ?_
   show AR 11 Tryz.f11 C 0 (zos t ws.length (j+1) (wcell ws) ((ws.take j).map zdw++[zdw (bs (ws.getD j [])).data.toList])) R
   rw [show (bs (ws.getD j [])).data.toList=ws.getD j [] from rfl,e]
   exact yaq6 hs h66 hF z n (j+1) (by omega) (by omega)
theorem yaze {t:ByteArray} (ht:t.size≤4096) {C:Cx} {R:Ending→World→Prop} (hF:∀ k,C.F k→k<0)
  (zn:zh0 t=[]→AR 11 Tryz.f11 C 0 (yaof t 1 0 (wcell (cutL 10 66 [] t.data.toList))) R)
  (zx:AR 11 Tryz.f11 C 0 (zos t (cutL 10 66 [] t.data.toList).length ((cutL 10 66 [] t.data.toList).length - 1) (wcell (cutL 10 66 [] t.data.toList)) (zh0 t)) R) :
  BO 11 Tryz.f11 C [.c (.s t)] [] 0 R:=by
 have hc:=yaqi ht 10 (k:=65) (by omega) 6
 have hl:=zhs 10 t.data.toList [] 66
 have h0:0<(cutL 10 66 [] t.data.toList).length:=List.length_pos_iff.2 (zl7 10 65 _ _)
 have hs:∀ k,(bs ((cutL 10 66 [] t.data.toList).getD k [])).size≤4096:=fun k=>by
  rw [zdt]
  have:=yaao (l:=t.data.toList) (c:=10) (k:=66) k
  rw [zdv] at this
  omega
 unfold zh0 at zn zx
 generalize cutL 10 66 [] t.data.toList=ws at *
 refine yao2 (zaa (zad (decide_eq_false (by omega))) rfl) hc (yaux t ws.length 0 ws) (fun k hk=>absurd (hF k hk) (Nat.not_lt_zero k)) ?_
 by_cases h1:ws.length=1
 ·have e:ws.dropLast=[]:=List.length_eq_zero_iff.1 (by rw [List.length_dropLast];omega)
  rw [h1]
  exact zn (by rw [e];rfl)
 ·have hg:=yaai (hs 0)
  have d0:decide (((0+1:Nat):Int)<(ws.length:Int))=true:=decide_eq_true (by omega)
  have d1:decide (((0:Nat):Int)<(ws.length:Int))=true:=decide_eq_true (by omega)
  refine yark (j:=0) (zaa d0 (zaa d1 (zaa (yaxk h0) rfl))) (ze4 (by omega)) (yavz h0) hg (by rw [zvq]) (ze4 (by omega)) (yalt _ _ _ _ _ _) (fun k hk=>absurd (hF k hk) (Nat.not_lt_zero k)) ?_
  refine ART.ren (swp 50 63) 51 (zrk 50 63) (yaqp _ _ _ _ _ _ rfl) (fun k hk=>absurd (hF k hk) (Nat.not_lt_zero k)) (yag1 _ _ _ _ _) ?_
  have e:=yald ws h0
  have e2:[zdw (bs (ws.getD 0 [])).data.toList]=(ws.take 1).map zdw:=by rw [← e];rfl
  rw [e2]
  exact yaq6 hs hl hF zx (ws.length - 2) 1 (by omega) (Nat.le_refl _)
theorem yaua (L:List Ins):EKeys 0 [] (some 50) ⟨.tu [.c (.sx 50 L.length),.c (.b true)],[],some (50,⟨true,pcell L,5⟩)⟩:=by
 refine ⟨fun k hk=>Or.inr ?_,fun _ _ hm=>(nomatch hm),fun k en' h'=>?_,fun _ h=>(nomatch h),fun k h=>⟨Nat.zero_le _,rfl⟩⟩
 ·rw [List.mem_singleton.1 hk]
 ·injection h' with h';injection h' with _ h';subst h';exact zaj L
theorem yaae (M:List Ins):CallOK Tryz.prog ⟨29,[.c (.sx 50 M.length)],[(50,⟨true,pcell M,5⟩)],⟨.c (.i (zan M)),[],none⟩⟩:=p_sx (fun c=>zuo M c) (fun _=>rfl) 50 true 5
theorem zr7 {t:ByteArray} {L:List Ins} (h:zzt t=some L):CallOK Tryz.prog ⟨11,[.c (.s t)],[],⟨.tu [.c (.sx 50 L.length),.c (.b true)],[],some (50,⟨true,pcell L,5⟩)⟩⟩:=by
 unfold zzt at h
 split at h
 ·rename_i ht
  split at h
  ·rename_i hL
   injection h with h
   subst h
   have h0:=zl7 10 65 t.data.toList []
   have hl:=List.length_pos_iff.2 h0
   have h66:=zhs 10 t.data.toList [] 66
   refine zks Tryz.func11 rfl rfl rfl rfl (zaj _) fun w β _=>?_
   refine yaze ht (fun k hk=>hk) (fun e=>?_) ?_
   ·rw [e] at hL;exact absurd hL.1 (by decide)
   ·have hc:=yaae (zh0 t)
    rw [hL.1] at hc
    refine yau3 (u:=t) (zaa (zad (decide_eq_false (by omega))) (zaa (by simp) rfl)) (ze4 (by omega)) hc ?_ (yaua _)
    have:=p_sx (fun c=>zik c hL.1) (fun _=>rfl) 50 true 5
    rwa [show bs (shown (zh0 t))=t from hL.2] at this
  ·cases h
 ·cases h
theorem zra {t:ByteArray} (h:zzt t=none):Ok 11 [.c (.s t)] (.tu [.c zco,.c (.b false)]):=by
 unfold zzt at h
 split at h
 ·rename_i ht
  split at h
  ·cases h
  ·rename_i hL
   have h0:=zl7 10 65 t.data.toList []
   have hl:=List.length_pos_iff.2 h0
   have h66:=zhs 10 t.data.toList [] 66
   refine zg8 Tryz.func11 rfl rfl (zvr rfl) rfl (fun _ _ h=>(nomatch h)) fun w β=>?_
   refine yaze ht (fun k hk=>hk) (fun _=>?_) ?_
   ·exact yar8 (zaa (zad (decide_eq_false (by omega))) rfl) (ze4 (by omega)) zqr
   ·have hc:=yaae (zh0 t)
    by_cases he:zan (zh0 t)=0
    ·rw [he] at hc
     have hne:(⟨(shown (zh0 t)).toArray⟩:ByteArray)≠t:=fun e=>hL ⟨he,e⟩
     refine yarg (u:=bs (shown (zh0 t))) (zaa (zad (decide_eq_false (by omega))) (zaa (zad ?_) rfl)) (ze4 (by omega)) hc (p_sx (fun c=>zik c he) (fun _=>rfl) 50 true 5)
     rw [zio,zep]
     exact beq_eq_false_iff_ne.2 fun e=>hne ((congrArg (fun l=>bs l) e).trans (zy1 t))
    ·refine yauj (e:=zan (zh0 t)) (zaa (zad (decide_eq_false (by omega))) (zaa (by simpa using he) rfl)) (ze4 (by omega)) hc
 ·exact yamj (zaa (decide_eq_true (by omega)) rfl)
end Go.Proofs.YtkigmocchaikgabGreatDoor
namespace Go.Proofs.YtkigmocchaikgabGreatDoor
open Go.Shelf Go.RowKit Go.Sort Go.Lib
theorem yakx {L:List Ins} {W:World} {b o c:Nat} (h:PAt W b o L) (hw:Gw W) (he:zan L=0):Calls Tryz.prog 18 #[.slice (some ⟨b,o,none⟩) L.length c] W fun e w'=>e=.returned (.tuple #[.string ⟨(shown L).toArray⟩,.int .i64 0])∧Below W.heap.size W w' :=
 zjy h hw (zg2 he).1 he (zg2 he).2
end Go.Proofs.YtkigmocchaikgabGreatDoor
namespace Go.Proofs.YtkigmocchaikgabGreatDoor
open Go.RowKit Go.Lib
theorem yaco {s:ByteArray} {L:List Ins} (h:zhy s=some L) (K:Nat):CallOK Tryz.prog ⟨7,[.c (.s s)],[],⟨.tu [.c (.sx K L.length),.c (.i 0)],[],some (K,⟨false,pcell L,0⟩)⟩⟩:=by
 refine ⟨⟨fun k hk=>Or.inr (List.mem_singleton.1 hk),fun _ _ hm=>(nomatch hm),fun k en hm c hc j hj=>?_⟩,fun _ _ hm=>(nomatch hm),fun β w hgw _ _ _=>?_⟩
 ·injection hm with hm;injection hm with _ hm;subst hm;exact (zeu (zaj L) hc hj).elim
 ·have hr:=yahx s hgw
  rw [h] at hr
  refine hr.mono fun e w' ⟨⟨g,c,he,hg,hp⟩,hb⟩=>?_
  have hp0:∀ j,ptr (bset β K (g,0,c)) K j=⟨g,0+j,none⟩:=fun j=>by unfold ptr;simp [bset]
  refine ⟨bset β K (g,0,c),?_,Fr.of_below hb,fun _ _ hm=>(nomatch hm),g,0,c,Or.inl hg,hp.1,rfl,?_,fun j x hj=>?_,fun h=>(nomatch h),fun h=>absurd rfl h⟩
  ·rw [he]
   show _=Ending.returned (.tuple #[.slice (some (ptr (bset β K (g,0,c)) K 0)) L.length (bset β K (g,0,c) K).2.2,.int .i64 0])
   rw [hp0];simp [bset]
  ·show (bset β K (g,0,c) K).1<_
   simp only [bset,if_pos];exact hp.1
  ·rw [hp0];exact hp.2 j x hj _
theorem yadw {s:ByteArray} (h:zhy s=none):Ok 7 [.c (.s s)] (.tu [.c zco,.c (.i 1)]) :=
 zd3 (A:=#[.string s]) (V:=.tuple #[.slice none 0 0,.int .i64 1]) (fun _=>rfl) (fun _=>rfl) rfl fun w hw=>by
  have hr:=yahx s hw
  rw [h] at hr
  exact hr
theorem yamw {L:List Ins} (he:zan L=0) (c:Nat):CallOK Tryz.prog ⟨18,[.c (.sl 0 0 L.length c)],pH L,⟨.tu [.c (.s (bs (shown L))),.c (.i 0)],[],none⟩⟩:=by
 refine ⟨⟨fun k hk=>(nomatch hk),fun _ _ hm=>(nomatch hm),fun _ _ hm=>(nomatch hm)⟩,fun _ _ hm=>(nomatch hm),fun β w hgw _ hB _=>?_⟩
 have hb:=hB 0 ⟨false,pcell L,0⟩ rfl
 have hp:PAt w (β 0).1 (β 0).2.1 L:=⟨hb.lt,fun j x hj β'=>by
  have:=hb.cell j x hj
  unfold ptr at this
  rw [this]
  exact congrArg some (AC.g_congr x fun k hk=>(zeu (zaj L) (List.mem_of_getElem? hj) hk).elim)⟩
 exact (yakx (c:=c) hp hgw he).mono fun e w' ⟨h1,h2⟩=>⟨β,h1,Fr.of_below h2,fun _ _ hm=>(nomatch hm),rfl⟩
theorem zjw {L:List Ins} (hL:zan L=0):zan (zel L)=0:=by
 have hP:=zbu hL
 unfold zel
 split
 ·exact zpl (zyl hP _)
 ·exact hL
theorem zj7 {L:List Ins} (hL:zan L=0):zan (ze3 L)=0:=by
 have hP:=zbu hL
 unfold ze3
 split
 ·exact zpl (yagr hP)
 ·exact hL
def zk3 (s:ByteArray):ByteArray×Int :=
 match zhy s with
 | none=>(bs [],1)
 | some L=>if (zar L).trap≠0 then (bs ([116,114,97,112,32]++itoa (zar L).trap++[32]++itoa (zar L).pos++[10]),0) else (bs ([115,97,102,101,10]++shown (ze3 (zel L))),0)
theorem zll {n:Int} (h:-9223372036854775808≤n∧n≤9223372036854775807):(bs (itoa n)).size≤21:=by
 rw [zdt];exact itoa_length_le n h.1 h.2
theorem zvl (a b:Int):ByteArray.mk #[116,114,97,112,32]++bs (itoa a)++ByteArray.mk #[32]++bs (itoa b)++ByteArray.mk #[10]=bs ([116,114,97,112,32]++itoa a++[32]++itoa b++[10]):=by
 show bs [116,114,97,112,32]++bs (itoa a)++bs [32]++bs (itoa b)++bs [10]=_
 simp only [zgs]
theorem zua (l:List UInt8):ByteArray.mk #[115,97,102,101,10]++bs l=bs ([115,97,102,101,10]++l):=zgs [115,97,102,101,10] l
theorem zpg {L:List Ins} (h:zan L=0):(bs (shown L)).size≤6300:=by
 obtain ⟨h64,hF⟩:=zg2 h
 have:=zg0 hF
 rw [zdt];omega
theorem zzc {L:List Ins} (hL:zan L=0) (c:Nat):CallOK Tryz.prog ⟨10,[.c (.sl 0 0 L.length c)],pH L,⟨.tu [.c (.s (bs (shown (ze3 (zel L))))),.c (.i 0)],[],none⟩⟩:=by
 have h1:=zjw hL
 have h2:=zj7 h1
 have e1:=zux L
 have e2:=zu0 (zel L)
 refine zg8 Tryz.func10 rfl rfl (zqo rfl) rfl ro_p fun w β=>yav0 (L3:=ze3 (zel L)) (yal3 hL (by decide)) ?_ ?_
 ·refine CallOK.of_cap (xs:=[]) (bs:=[]) fun d=>?_
  have:=yapf (c:=d) h1 (K:=13) (by decide)
  rw [e1] at this
  exact p_to this 4 true rfl (by rw [zlz];rfl)
 ·refine CallOK.of_cap (xs:=[]) (bs:=[]) fun d=>?_
  have:=yamw h2 d
  rw [e2,e1] at this
  exact p_to this 13 true rfl rfl
theorem yasy (i:Ins) (t:St):0≤(zag i t).2.2∧(zag i t).2.2≤64:=by
 unfold zag zej
 repeat' split
 all_goals simp
theorem yabk {L:List Ins} (hP:RightP L) (h0:(zar L).trap≠0):(0≤(zar L).trap∧(zar L).trap≤64)∧0≤(zar L).pos∧(zar L).pos≤64:=by
 obtain ⟨p,h1,_,h3,_,h5⟩:=(zhn hP).some h0
 have hle:=hP.le
 refine ⟨?_,by omega,by omega⟩
 rw [← h5]
 exact yasy _ _
theorem zrj (s:ByteArray):Ok 4 [.c (.s s)] (.tu [.c (.s (zk3 s).1),.c (.i (zk3 s).2)]):=by
 unfold zk3
 cases h:zhy s with
 | none=>exact yayt (yadw h)
 | some L =>
  have hL:=(zmo h).1
  have hP:=zbu hL
  simp only
  by_cases h0:(zar L).trap=0
  ·rw [if_neg (fun x=>x h0)]
   have hz:=zpg (zj7 (zjw hL))
   rw [← zua]
   refine yaxh (S2:=(zar L).sts) (zaa (decide_eq_true (by omega)) rfl) (yaco h 3) ?_ ?_
   ·refine CallOK.of_cap (xs:=[]) (bs:=[]) fun d=>?_
    exact p_to (zjz (c:=d) hL h0 (K:=12) (by decide)) 3 false rfl (by unfold okE Eff.ren;simp only [Option.map_some,Ent.ren,zck _ (za8 _)];rfl)
   ·refine CallOK.of_cap (xs:=[]) (bs:=[]) fun d=>?_
    exact p_to (zzc hL d) 3 false rfl rfl
  ·rw [if_pos h0]
   obtain ⟨ha,hb⟩:=yabk hP h0
   have ia:=zj3 (zar L).trap (by omega) (by omega)
   have ib:=zj3 (zar L).pos (by omega) (by omega)
   have la:=zll (n:=(zar L).trap) (by omega)
   have lb:=zll (n:=(zar L).pos) (by omega)
   rw [← zvl]
   refine yazh (q:=(zar L).sts.length) (S2:=(zar L).sts) (zaa (by simpa using h0) ?_) (yaco h 3) ?_ ia ib
   ·repeat' apply zaa
    all_goals first | rfl | (refine zku ?_;(try simp only [ByteArray.size_append,sz1]);(try simp only [show ByteArray.size (ByteArray.mk #[116,114,97,112,32])=5 from rfl]);omega)
   ·refine CallOK.of_cap (xs:=[]) (bs:=[]) fun d=>?_
    exact p_to (zjq (c:=d) hL h0 (K:=12) (by decide)) 3 false rfl (by unfold zow Eff.ren;simp only [Option.map_some,Ent.ren,zck _ (za8 _)];rfl)
theorem yarz {P:Program} {f:Nat} {args args':List AV} {L:List Ins} {e e':Eff} (h:CallOK P ⟨f,args,pH L,e⟩) (K:Nat) (b:Bool) (r:Nat) (ha:args.map (AV.ren (swp 0 K))=args') (he:e.ren (swp 0 K)=e'):CallOK P ⟨f,args',[(K,⟨b,pcell L,r⟩)],e'⟩:=by
 refine CallOK.more (p_to h K b ha he) ⟨fun j en hj=>?_⟩
 obtain ⟨rfl,rfl⟩:=zbg hj
 exact ⟨⟨b,pcell L,r⟩,by rw [zav,if_pos rfl],rfl,fun h=>h,Or.inl rfl⟩
theorem yabv {n:Int} (h0:0≤n) (h1:n≤64):Ok 13 [.c (.u (BitVec.ofInt 64 n))] (.c (.s (bs (itoa n)))):=by
 obtain ⟨k,rfl⟩:∃ k:Nat,n=k:=⟨n.toNat,by omega⟩
 rw [zjc,itoa,if_neg (by omega),Int.toNat_natCast]
 exact zhc k (by omega)
theorem yak3 (s:ByteArray):Ok 5 [.c (.s s)] (.tu [.c (.s (zk3 s).1),.c (.i (zk3 s).2)]):=by
 unfold zk3
 cases h:zhy s with
 | none=>exact yaza (zra ((zzy s).trans h))
 | some L =>
  have hL:=(zmo h).1
  have hP:=zbu hL
  have hcf:CallOK Tryz.prog ⟨11,[.c (.s s)],[],⟨.tu [.c (.sx 3 L.length),.c (.b true)],[],some (3,⟨true,pcell L,5⟩)⟩⟩:=by
   refine ((zr7 ((zzy s).trans h)).ren (swp 50 3) (zbm 50 3)).congr ?_
   unfold CallRec.ren Eff.ren renH
   simp only [List.map_nil,Option.map_some,Ent.ren,zck _ (zaj L),zek]
   rfl
  simp only
  by_cases h0:(zar L).trap=0
  ·rw [if_neg (fun x=>x h0)]
   have h1:=zjw hL
   have h2:=zj7 h1
   have e1:=zux L
   have e2:=zu0 (zel L)
   have hz:=zpg h2
   rw [← zua]
   refine yawj (S2:=(zar L).sts) (L2:=zel L) (L3:=ze3 (zel L)) (zaa (decide_eq_true (by omega)) rfl) hcf ?_ ?_ ?_ ?_
   ·refine CallOK.of_cap (xs:=[]) (bs:=[]) fun d=>?_
    exact yarz (zit (c:=d) hP h0 12 (by decide)) 3 true 5 rfl (by unfold Eff.ren;simp only [Option.map_some,Ent.ren,zck _ (za8 _)];rfl)
   ·refine CallOK.of_cap (xs:=[]) (bs:=[]) fun d=>?_
    exact yarz (yaks (c:=d) hP (K:=19) (by decide)) 3 true 5 rfl (by rw [zsf];rfl)
   ·refine CallOK.of_cap (xs:=[]) (bs:=[]) fun d=>?_
    have:=yagm (c:=d) (zbu h1) (K:=20) (by decide)
    rw [e1] at this
    exact p_to this 19 true rfl (by rw [zsf];rfl)
   ·refine CallOK.of_cap (xs:=[]) (bs:=[]) fun d=>?_
    have:=zik d h2
    rw [e2,e1] at this
    exact p_to this 20 true rfl rfl
  ·rw [if_pos h0]
   obtain ⟨ha,hb⟩:=yabk hP h0
   have la:=zll (n:=(zar L).trap) (by omega)
   have lb:=zll (n:=(zar L).pos) (by omega)
   rw [← zvl]
   refine yayb (q:=(zar L).sts.length) (S2:=verF L L.length 0 (zev L.length)) (zaa (by simpa using h0) ?_) hcf ?_ (yabv ha.1 ha.2) (yabv hb.1 hb.2)
   ·repeat' apply zaa
    all_goals first | rfl | (refine zku ?_;(try simp only [ByteArray.size_append,sz1]);(try simp only [show ByteArray.size (ByteArray.mk #[116,114,97,112,32])=5 from rfl]);omega)
   ·refine CallOK.of_cap (xs:=[]) (bs:=[]) fun d=>?_
    exact yarz (zhm (c:=d) hP 12 (by decide)) 3 true 5 rfl (by rw [yag5];rfl)
def tL:List Ins:=[⟨10,0,1,1#64,0⟩,⟨15,0,0,0#64,0⟩]
theorem yaab {L:List Ins} {s:ByteArray} (h:zan L=0) (hn:L.length≤6) (hs:s.data.toList=shown L):zk3 s=if (zar L).trap≠0 then (bs ([116,114,97,112,32]++itoa (zar L).trap++[32]++itoa (zar L).pos++[10]),0) else (bs ([115,97,102,101,10]++shown (ze3 (zel L))),0):=by
 have e:s=bs (shown L):=by rw [← hs,zy1]
 have hl:=zg0 (zg2 h).2
 have hr:zhy s=some L:=by rw [e];exact zmd h (by rw [zdt];omega)
 unfold zk3
 rw [hr]
theorem zt0:Ok 6 [] (.c (.b true)):=by
 have hL:zan fL=0:=by kernel_rfl
 have hT:zan tL=0:=by kernel_rfl
 have tT:(zar tL).trap=2:=by kernel_rfl
 have tP:(zar tL).pos=0:=by kernel_rfl
 have j1:=fun s hs=>yaab (s:=s) hL (by decide) hs
 have j2:=fun s hs=>yaab (s:=s) hT (by decide) hs
 rw [if_neg (fun x=>x yaul),yars,yas9] at j1
 rw [tT,tP,if_pos (by decide)] at j2
 refine zam (yaxa (u1:=bs ([115,97,102,101,10]++shown fD)) (u2:=bs ([116,114,97,112,32]++itoa 2++[32]++itoa 0++[10])) ?_ ?_ ?_) ?_
 ·rw [zio,zep]
  decide +kernel
 ·refine zam (zrj _) ?_
  rw [j1 _ (by decide +kernel)]
 ·refine zam (zrj _) ?_
  rw [j2 _ (by decide +kernel)]
 ·rw [zio,zep]
  exact congrArg (fun x=>AV.c (.b x)) (by decide +kernel)
theorem zrr (s:ByteArray):Ok 3 [.c (.s s)] (.c (.b true)) :=
 zam (yaw0 (by simp) (zrj s) (yak3 s) zt0) (by simp)
theorem zlf (s:ByteArray) {w:World} (hg:Gw w):Calls Tryz.prog 3 #[.string s] w fun e w'=>e=.returned (.bool true)∧Below w.heap.size w w' :=
 zif (fun _=>(0,0,0)) rfl (fun _=>rfl) (zrr s) w hg
end Go.Proofs.YtkigmocchaikgabGreatDoor
