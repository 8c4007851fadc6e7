import Derived.Test.YtkigmocchaikgabGreatDoorDj4
import Derived.ArgAppend
import Derived.Laws.BytesString
import Derived.Test.YtkigmocchaikgabGreatDoorDj1
import Derived.ChangeArms
import Derived.OpenShut
import Derived.WideShapes
import Derived.Test.YtkigmocchaikgabGreatDoorProg
import Derived.Test.YtkigmocchaikgabGreatDoorDj2
/- Slices: one that grows; bytes as a text: words. -/
namespace Go.Proofs.YtkigmocchaikgabGreatDoor
open Go.RowKit
section
variable {P:Program}
theorem zl0 {φ:Kn} {size n:Nat} {v:AV} {l:List AC} {ok:Bool} (h:yajt φ size v=some (n,l,ok)) (hok:ok=true) {C:Cx} {N:Nat} {β:Bs} {S:Nat→Prop} {a:Act} {w:World} (hr:Rel C N β S φ a w) :
  ∃ k o c,v.g β=.slice (some (ptr β k o)) n c∧l.length=n*size∧(∀ (j:Nat) (u:Value),(l.map (AC.g β))[j]?=some u→w.cell? ((ptr β k o).add j)=some u)∧∀ c,c∈l→∀ j,j∈c.ks→S j:=by
 unfold yajt at h
 split at h
 ·rename_i k o n' c
  split at h
  ·rename_i e he
   simp only [Option.some.injEq,Prod.mk.injEq] at h
   obtain ⟨rfl,rfl,rfl⟩:=h
   have hok:=Nat.le_of_ble_eq_true hok
   obtain ⟨_,hb,hk,_⟩:=hr.blk k e he
   refine ⟨k,o,c,rfl,by simp;omega,fun j u hj=>?_,fun c hc j hj=>hk c (List.mem_of_mem_drop (List.mem_of_mem_take hc)) j hj⟩
   rw [List.getElem?_map] at hj
   cases hc:((e.cells.drop o).take (n'*size))[j]? with
   | none=>rw [hc] at hj;cases hj
   | some c =>
    rw [hc] at hj
    simp at hj
    subst hj
    rw [zgd]
    refine hb.cell (o+j) c ?_
    rw [List.getElem?_take] at hc
    split at hc
    ·rw [List.getElem?_drop] at hc;exact hc
    ·cases hc
  ·cases h
 ·rename_i k n'
  split at h
  ·rename_i e he
   simp only [Option.some.injEq,Prod.mk.injEq] at h
   obtain ⟨rfl,rfl,rfl⟩:=h
   have hok:=Nat.eq_of_beq_eq_true hok
   obtain ⟨_,hb,hk,_⟩:=hr.blk k e he
   refine ⟨k,0,_,rfl,hok.symm,fun j u hj=>?_,hk⟩
   rw [List.getElem?_map] at hj
   cases hc:e.cells[j]? with
   | none=>rw [hc] at hj;cases hj
   | some c =>
    rw [hc] at hj
    simp at hj
    subst hj
    rw [zgd,Nat.zero_add]
    exact hb.cell j c hc
  ·cases h
 ·cases h
theorem zo6:∀ (l:List AC) (r:ByteArray),(l.map (fun c=>((c.asY).toNat:Int))).foldl (fun r n=>r.push (UInt8.ofNat n.toNat)) r=⟨r.data++(l.map (fun c=>UInt8.ofBitVec c.asY)).toArray⟩
 | [],r=>by simp
 | c::l,r=>by
  rw [List.map_cons,List.foldl_cons,zo6 l]
  have:UInt8.ofNat ((c.asY.toNat:Int)).toNat=UInt8.ofBitVec c.asY:=by
   apply UInt8.toBitVec_inj.1
   simp
  rw [this]
  simp [ByteArray.push]
theorem yae0 {o:Oper} {φ:Kn} {T D:TypeId} {x:Operand} {xv v:AV} {ok:Bool} (ho:o.op=.convert T D x) (hx:φ.ev x=some xv) (h:yavl P φ T D xv=some (v,ok)) (hok:ok=true):zdf P o φ ⟨v,[],none⟩ :=
 za6 fun C N β S a w hr=>by
  obtain ⟨h1,_⟩:=hr.ev hx
  unfold yavl at h
  split at h
  ·rename_i el hT hD
   split at h
   ·rename_i n l ok' hel hrow
    simp only [Option.some.injEq,Prod.mk.injEq] at h
    obtain ⟨rfl,rfl⟩:=h
    rw [Bool.and_eq_true,List.all_eq_true] at hok
    obtain ⟨k,off,c,g1,g2,g3,_⟩:=zl0 hrow hok.1 hr
    rw [g1] at h1
    refine ⟨fun j hj=>(nomatch hj),?_⟩
    have hl:l.map (AC.g β)=(l.map (fun c=>((c.asY).toNat:Int))).map (Value.int .u8):=by
     rw [List.map_map]
     refine List.map_congr_left fun c hc=>?_
     have hy:=hok.2 c hc
     cases c using AC.tells <;> first | rfl | cases hy
    have hload:=run_loadCells_list (P:=P) w (ptr β k off) (l.map (AC.g β)) g3
    rw [List.length_map,g2,Nat.mul_one,hl] at hload
    generalize a.eval=ρ at *
    have hb:=run_bytesToString w (ptr β k off) n c _ hload
    rw [zo6] at hb
    have hx:(convert T D (ρ x)).run P w=.ok (.string (zmu l)) w:=by
     rw [h1]
     simp only [convert,Sem.run_bind,zal hT,zal hD,zal hel,Result.andThen_ok,hb]
     simp [zmu]
    simp only [execOp,ho,Sem.run_bind]
    refine (congrArg (fun r=>Result.andThen r _) hx).trans ?_
    rfl
   ·cases h
  ·cases h
theorem Up.emptied {v:AV} {β β':Bs} {w w':World} {j:Nat} {nw:Option (Nat×Ent)} (h:Up ⟨v,[],nw⟩ β β' w w') (hj:(β j).1<w.heap.size) (hb:β' j=β j):Up ⟨v,[(j,[])],nw⟩ β β' w w':=by
 refine ⟨h.frame.mono (fun k ⟨_,_,hm,_⟩=>by simp at hm),fun k cs hm=>?_,?_⟩
 ·simp at hm
  obtain ⟨rfl,rfl⟩:=hm
  exact Blk.nil (by rw [hb];exact Nat.lt_of_lt_of_le hj h.frame.size)
 ·have:=h.nw
  cases nw with
  | none=>exact this
  | some x =>
   obtain ⟨k,e⟩:=x
   obtain ⟨b,o,c,h1,h2,h3,h4⟩:=this
   refine ⟨b,o,c,Or.inl ?_,h2,h3,h4⟩
   rcases h1 with h1 | ⟨k0,h1,_⟩
   ·exact h1
   ·cases h1
theorem zr2 {v:AV} {β:Bs} {w:World} {k m cap size:Nat} {cs:List AC} {T:TypeId} {z:Array Value} (hz:z.size=size) (hcs:cs.length=m*size) (hc:m≤cap) (hk:∀ c,c∈cs→∀ j,j∈c.ks→j≠k) (all:Array Value) (hall:all=(cs.map (AC.g β)).toArray++Builtin.zeroCells z (cap - m)) :
  Up ⟨v,[],some (k,⟨true,cs,size⟩)⟩ β (bset β k (w.heap.size,0,cap)) w (w.drew.alloc (.cells all T)):=by
 have hs:all.size=cap*size:=by
  rw [hall,Array.size_append,size_zeroCells,hz]
  simp only [List.size_toArray,List.length_map,hcs,← Nat.add_mul]
  congr 1
  omega
 have:=yaq9 (v:=v) (β:=β) (k:=k) (r:=size) (c:=cap) (cs:=cs) (T:=T) (all:=all) (Fr.drew _ w) (fun j c hj=>?_) (fun _=>⟨by rw [hcs];exact Nat.mul_le_mul_right _ hc,by rw [hs];exact Nat.le_refl _⟩) hk
 ·exact this
 ·have hlt:j<cs.length:=(List.getElem?_eq_some_iff.1 hj).1
  rw [hall,Array.getElem?_append_left (by simpa using hlt)]
  simp [hj]
theorem zv4 {o:Oper} {φ:Kn} {k:Nat} {c:Call} {s x:AV} {hs:List Eff} {r:Res} (ho:o.op=.call c) (hc:c.callee=.builtin .append) (hl:zi7 φ c.args.toList=some [s,x]) (h:znc P φ k c.argTypes s x hs=some r) (hok:r.ok=true):zdf P o φ r.e:=by
 unfold znc at h
 split at h
 ·rename_i tS tX hts
  cases htt:Nat.beq tS tX with
  | false=>rw [htt] at h;cases h
  | true =>
   rw [htt] at h
   simp only [cond_true] at h
   have htt:=Nat.eq_of_beq_eq_true htt
   subst htt
   split at h
   ·rename_i el hu
    split at h
    ·rename_i i hi
     split at h
     ·rename_i z m new ok' hz hrow
      cases hsm:(Nat.ble i.bytes 512&&Nat.blt 0 i.size) with
      | false=>rw [hsm] at h;cases h
      | true =>
       rw [hsm] at h
       simp only [cond_true] at h
       simp only [Bool.and_eq_true] at hsm
       obtain ⟨hby,hsz⟩:=hsm
       have hby:=Nat.le_of_ble_eq_true hby
       have hsz:0<i.size:=by simpa using hsz
       obtain ⟨zv,hz1,hz2,hz3,hz4⟩:=zj9 hz
       have hzs:zv.cells.size=i.size:=by rw [hz2 (fun _=>(0,0,0))];simp [hz3]
       have hts':c.argTypes=#[tS,tS]:=Array.toList_inj.1 hts
       -- what the operation is
       have hex:∀ {C N β S a w},Rel C N β S φ a w→∀ {V w'},(∀ ty,(Builtin.append_ #[tS,tS] ty #[s.g β,x.g β]).run P w=.ok V w')→(execOp a.eval o).run P w=.ok (.value V) w':=by
        intro C N β S a w hr V w' hrun
        have hargs:c.args.map a.eval=#[s.g β,x.g β]:=by
         apply Array.toList_inj.1
         rw [Array.toList_map,(zi1 hr hl).1]
         rfl
        generalize a.eval=ρ at *
        simp only [execOp,ho,resolve,hc,hargs,hts',Sem.run_bind,Sem.run_pure,Result.andThen_ok,invoke,builtin,hrun]
       split at h
       ·rename_i n' c'
        injection h with h;subst h
        simp only [Bool.and_eq_true,decide_eq_true_eq] at hok
        obtain ⟨hok',⟨⟨hn,hc0⟩,hm⟩,hm0⟩:=hok
        have hn:=Nat.eq_of_beq_eq_true hn
        have hc0:=Nat.eq_of_beq_eq_true hc0
        have hm0:0<m:=by simpa using hm0
        subst hn hc0
        refine ⟨fun _ _ hm=>(nomatch hm),fun C N β S a w hr hnw=>?_⟩
        obtain ⟨k',o',cx,g1,g2,g3,g4⟩:=zl0 hrow hok' hr
        have hkk:∀ c,c∈new→∀ j,j∈c.ks→j≠k:=fun c hc j hj e=>hnw k _ rfl (e ▸ g4 c hc j hj)
        refine ⟨⟨fun j hj=>?_,fun _ _ hm=>(nomatch hm),fun k1 en he c hc j hj=>?_⟩,?_⟩
        ·simp [AV.ks,AC.ks] at hj;exact Or.inr hj
        ·simp at he;rw [← he.2] at hc;exact Or.inl (g4 c hc j hj)
        ·have hb:m*i.bytes≤281474976710656:=by
          have:m*i.bytes≤137438953472*512:=Nat.mul_le_mul hm hby
          omega
         have hrun:=fun ty=>run_append_nil (P:=P) w tS ty el i zv hu hi hz1 (ptr β k' o') m cx (new.map (AC.g β)) (by simp [g2]) g3 hm0 (by omega) hb
         have hex:=hex hr (V:=_) (w':=_) (fun ty=>by rw [g1];exact hrun ty)
         unfold Oper.wp
         rw [hex]
         have hge:=grownCap_ge w m 0 el
         refine ⟨_,zr2 (z:=zv.cells) hzs g2 hge hkk _ rfl,?_⟩
         simp [AV.g,AC.g,ptr,bset]
       ·rename_i j0 o0 n0 c0
        split at h
        ·rename_i n1 old ok0 hrow0
         have hn1:n1=n0:=by
          change (match look φ.H j0 with | some e=>some (n0,(e.cells.drop o0).take (n0*i.size),Nat.ble (o0+n0*i.size) e.cells.length) | none=>none)=some (n1,old,ok0) at hrow0
          split at hrow0
          ·simp only [Option.some.injEq,Prod.mk.injEq] at hrow0;exact hrow0.1.symm
          ·cases hrow0
         subst hn1
         injection h with h;subst h
         simp only [Bool.and_eq_true,decide_eq_true_eq] at hok
         obtain ⟨hok',⟨hok0,hm⟩,hlt⟩:=hok
         refine ⟨fun _ _ hm=>(nomatch hm),fun C N β S a w hr hnw=>?_⟩
         obtain ⟨k',o',cx,g1,g2,g3,g4⟩:=zl0 hrow hok' hr
         obtain ⟨k0,o0',cx0,f1,f2,f3,f4⟩:=zl0 hrow0 hok0 hr
         have f1':AV.g β (.c (.sl j0 o0 n1 c0))=.slice (some (ptr β k0 o0')) n1 c0:=by
          have e:AV.g β (.c (.sl j0 o0 n1 c0))=.slice (some (ptr β j0 o0)) n1 c0:=rfl
          rw [e] at f1 ⊢
          injection f1 with f1 _ _
          rw [f1]
         have hmem:∀ c,c∈old++new→∀ j,j∈c.ks→S j:=fun c hc j hj=>by
          rcases List.mem_append.1 hc with hc | hc
          ·exact f4 c hc j hj
          ·exact g4 c hc j hj
         refine ⟨⟨fun j hj=>?_,fun _ _ hm=>(nomatch hm),fun k1 en he c hc j hj=>?_⟩,?_⟩
         ·simp [AV.ks,AC.ks] at hj;exact Or.inr hj
         ·simp only [Option.some.injEq,Prod.mk.injEq] at he;rw [← he.2] at hc;exact Or.inl (hmem c hc j hj)
         ·have hb:(n1+m)*i.bytes≤140737488355328:=by
           have:(n1+m)*i.bytes≤137438953472*512:=Nat.mul_le_mul hm hby
           omega
          have hrun:=fun ty=>run_append_grow (P:=P) w tS ty el i zv hu hi hz1 (ptr β k0 o0') n1 c0 (old.map (AC.g β)) (by simp [f2]) f3 (ptr β k' o') m cx (new.map (AC.g β)) (by simp [g2]) g3 hlt (by omega) (growslice_fits hlt hb)
          have hex:=hex hr (V:=_) (w':=_) (fun ty=>by rw [g1];exact (congrArg (fun v=>(Builtin.append_ #[tS,tS] ty #[v,_]).run P w) f1').trans (hrun ty))
          unfold Oper.wp
          rw [hex]
          have hge:=grownCap_ge w (n1+m) c0 el
          refine ⟨_,zr2 (k:=k) (cs:=old++new) (z:=zv.cells) hzs (by rw [List.length_append,f2,g2,Nat.add_mul]) hge (fun c hc j hj e=>hnw k _ rfl (e ▸ hmem c hc j hj)) _ (by simp),?_⟩
          simp [AV.g,AC.g,ptr,bset]
        ·cases h
       ·rename_i j0 n0
        split at h
        ·rename_i e he
         cases hew:(e.wr&&Nat.beq e.room i.size) with
         | false=>rw [hew] at h;cases h
         | true =>
          rw [hew] at h
          simp only [cond_true,Option.some.injEq] at h
          subst h
          rw [Bool.and_eq_true] at hew
          have hroom:=Nat.eq_of_beq_eq_true hew.2
          simp only [Bool.and_eq_true,decide_eq_true_eq] at hok
          obtain ⟨hok',⟨hlen,hm⟩,hn0⟩:=hok
          have hlen:=Nat.eq_of_beq_eq_true hlen
          have hn0:0<n0:=by simpa using hn0
          have hne:e.cells≠[]:=fun e0=>by
           rw [e0] at hlen
           have:=Nat.mul_pos hn0 hsz
           simp at hlen
           omega
          refine ⟨fun k1 cs hm=>?_,fun C N β S a w hr hnw=>?_⟩
          ·simp at hm
           obtain ⟨rfl,rfl⟩:=hm
           exact ⟨e,he,hew.1,hne⟩
          ·obtain ⟨k',o',cx,g1,g2,g3,g4⟩:=zl0 hrow hok' hr
           obtain ⟨hS0,hb0,hk0,_⟩:=hr.blk j0 e he
           have hjk:j0≠k:=fun e=>hnw k _ rfl (e ▸ hS0)
           have hmem:∀ c,c∈e.cells++new→∀ j,j∈c.ks→S j:=fun c hc j hj=>by
            rcases List.mem_append.1 hc with hc | hc
            ·exact hk0 c hc j hj
            ·exact g4 c hc j hj
           have holds:∀ (j:Nat) (u:Value),(e.cells.map (AC.g β))[j]?=some u→w.cell? ((ptr β j0 0).add j)=some u:=fun j u hj=>by
            rw [List.getElem?_map] at hj
            cases hc:e.cells[j]? with
            | none=>rw [hc] at hj;cases hj
            | some c =>
             rw [hc] at hj
             simp at hj
             subst hj
             rw [zgd,Nat.zero_add]
             exact hb0.cell j c hc
           refine ⟨⟨fun j hj=>?_,fun k1 cs hm c hc=>?_,fun k1 en he c hc j hj=>?_⟩,?_⟩
           ·simp [AV.ks,AC.ks] at hj;exact Or.inr hj
           ·simp at hm;rw [hm.2] at hc;cases hc
           ·simp only [Option.some.injEq,Prod.mk.injEq] at he;rw [← he.2] at hc;exact Or.inl (hmem c hc j hj)
           ·have hs:AV.g β (.c (.sx j0 n0))=.slice (some ⟨(β j0).1,(β j0).2.1,none⟩) n0 (β j0).2.2:=rfl
            by_cases hcap:n0+m≤(β j0).2.2
            ·obtain ⟨r1,r2⟩:=hb0.room (by rw [hroom];omega) hne
             rw [hroom] at r1 r2
             have hle:∀ j,j<(new.map (AC.g β)).length→n0*i.size+j<(β j0).2.2*i.size:=fun j hj=>by
              simp only [List.length_map,g2] at hj
              have:(n0+m)*i.size≤(β j0).2.2*i.size:=Nat.mul_le_mul_right _ hcap
              rw [Nat.add_mul] at this
              omega
             have hcs:∀ j,j<(new.map (AC.g β)).length→(w.cell? ⟨(β j0).1,(β j0).2.1+n0*i.size+j,none⟩).isSome=true:=fun j hj=>by
              obtain ⟨⟨u,hu⟩,_⟩:=r2 _ (hle j hj)
              rw [ptr,← Nat.add_assoc] at hu
              rw [hu];rfl
             have hfr:∀ j,j<(new.map (AC.g β)).length→w.frozen? ⟨(β j0).1,(β j0).2.1+n0*i.size+j,none⟩=false:=fun j hj=>by
              have:=(r2 _ (hle j hj)).2
              rw [ptr,← Nat.add_assoc] at this
              exact this
             have hrun:=fun ty=>run_append_room_cells (P:=P) w tS ty el i hu hi (β j0).1 (β j0).2.1 n0 (β j0).2.2 (ptr β k' o') m cx (new.map (AC.g β)) (by simp [g2]) g3 (fun u hu=>by
              obtain ⟨c,_,rfl⟩:=List.mem_map.1 hu
              exact c.one β) hcap hcs hfr
             have hex:=hex hr (V:=_) (w':=_) (fun ty=>by rw [g1];exact (congrArg (fun v=>(Builtin.append_ #[tS,tS] ty #[v,_]).run P w) hs).trans (hrun ty))
             unfold Oper.wp
             rw [hex]
             have hbk:bset β k (β j0) k=β j0:=by simp [bset]
             have hp:∀ j,ptr (bset β k (β j0)) k j=ptr β j0 j:=fun j=>by simp only [ptr,hbk]
             have hβ:∀ j,S j→bset β k (β j0) j=β j:=fun j hj=>by
              unfold bset
              rw [if_neg (show ¬ j=k from fun e'=>hnw k _ rfl (by rw [← e'];exact hj))]
             have hcell:∀ j,j<(β j0).2.2*i.size→∃ u,(w.setCells (β j0).1 ((β j0).2.1+n0*i.size) (new.map (AC.g β))).cell? (ptr β j0 j)=some u:=fun j hj=>by
              by_cases hin:n0*i.size≤j∧j<n0*i.size+new.length
              ·have h1:=World.cell?_setCells_in (β j0).1 (new.map (AC.g β)) ((β j0).2.1+n0*i.size) w hcs (j - n0*i.size) (by simp;omega)
               have e:ptr β j0 j=⟨(β j0).1,(β j0).2.1+n0*i.size+(j - n0*i.size),none⟩:=by unfold ptr;congr 1;omega
               exact ⟨_,by rw [e];exact h1⟩
              ·rw [World.cell?_setCells_out (β j0).1 (new.map (AC.g β)) ((β j0).2.1+n0*i.size) w (ptr β j0 j) (fun _ _=>by simp only [ptr,List.length_map];omega)]
               exact (r2 j hj).1
             refine ⟨bset β k (β j0),⟨⟨?_,?_,?_,?_,fun B hB hX=>?_⟩,fun k1 cs hm=>?_,⟨(β j0).1,(β j0).2.1,(β j0).2.2,Or.inr ⟨j0,rfl,rfl⟩,?_,rfl,?_,?_,?_,?_⟩⟩,?_⟩
             ·exact (za9 _ _ _ _).1
             ·exact (za9 _ _ _ _).2.1
             ·exact (za9 _ _ _ _).2.2.1
             ·rw [(za9 _ _ _ _).2.2.2];exact Nat.le_refl _
             ·exact zgc _ _ _ _ _ fun e=>hX ⟨j0,[],List.mem_singleton.2 rfl,e⟩
             ·simp at hm
              obtain ⟨rfl,rfl⟩:=hm
              exact Blk.nil (by rw [hβ _ hS0,(za9 _ _ _ _).2.2.2];exact hb0.lt)
             ·rw [(za9 _ _ _ _).2.2.2];exact hb0.lt
             ·rw [hbk,(za9 _ _ _ _).2.2.2];exact hb0.lt
             ·intro j c hj
              rw [hp,c.g_congr fun q hq=>hβ q (hmem c (List.mem_of_getElem? hj) q hq)]
              by_cases hlt:j<e.cells.length
              ·rw [World.cell?_setCells_out (β j0).1 (new.map (AC.g β)) ((β j0).2.1+n0*i.size) w (ptr β j0 j) (fun _ _=>by simp only [ptr,List.length_map];omega)]
               rw [List.getElem?_append_left hlt] at hj
               exact hb0.cell j c hj
              ·rw [List.getElem?_append_right (by omega)] at hj
               have hjl:j - e.cells.length<new.length:=(List.getElem?_eq_some_iff.1 hj).1
               have h1:=World.cell?_setCells_in (β j0).1 (new.map (AC.g β)) ((β j0).2.1+n0*i.size) w hcs (j - e.cells.length) (by simpa using hjl)
               have e':ptr β j0 j=⟨(β j0).1,(β j0).2.1+n0*i.size+(j - e.cells.length),none⟩:=by unfold ptr;congr 1;omega
               rw [e',h1]
               have h2:new[j - e.cells.length]?=some (new[j - e.cells.length]'hjl):=List.getElem?_eq_getElem hjl
               rw [h2] at hj
               injection hj with hj
               simp [hj]
             ·intro _ j hj
              rw [hp,World.frozen?_setCells]
              have:j<(β j0).2.2*i.size:=by
               simp only [List.length_append,g2] at hj
               have:(n0+m)*i.size≤(β j0).2.2*i.size:=Nat.mul_le_mul_right _ hcap
               rw [Nat.add_mul] at this
               omega
              exact (r2 j this).2
             ·intro _ _
              rw [hbk]
              refine ⟨?_,fun j hj=>⟨?_,?_⟩⟩
              ·simp only [List.length_append,g2]
               have:(n0+m)*i.size≤(β j0).2.2*i.size:=Nat.mul_le_mul_right _ hcap
               rw [Nat.add_mul] at this
               omega
              ·rw [hp];exact hcell j hj
              ·rw [hp,World.frozen?_setCells];exact (r2 j hj).2
             ·simp [AV.g,AC.g,hbk,ptr]
            ·have hlt:(β j0).2.2<n0+m:=by omega
             have hb:(n0+m)*i.bytes≤140737488355328:=by
              have:(n0+m)*i.bytes≤137438953472*512:=Nat.mul_le_mul hm hby
              omega
             have hrun:=fun ty=>run_append_grow (P:=P) w tS ty el i zv hu hi hz1 (ptr β j0 0) n0 (β j0).2.2 (e.cells.map (AC.g β)) (by simp [hlen]) holds (ptr β k' o') m cx (new.map (AC.g β)) (by simp [g2]) g3 hlt (by omega) (growslice_fits hlt hb)
             have hex:=hex hr (V:=_) (w':=_) (fun ty=>by rw [g1];exact (congrArg (fun v=>(Builtin.append_ #[tS,tS] ty #[v,_]).run P w) hs).trans (hrun ty))
             unfold Oper.wp
             rw [hex]
             have hge:=grownCap_ge w (n0+m) (β j0).2.2 el
             have hup:=zr2 (v:=.c (.sx k (n0+m))) (β:=β) (w:=w) (k:=k) (T:=el) (cap:=grownCap w (n0+m) (β j0).2.2 el) (z:=zv.cells) (cs:=e.cells++new) hzs (by rw [List.length_append,← hlen,g2,Nat.add_mul]) hge (fun c hc j hj e=>hnw k _ rfl (e ▸ hmem c hc j hj)) _ rfl
             refine ⟨bset β k (w.heap.size,0,grownCap w (n0+m) (β j0).2.2 el),?_,?_⟩
             ·refine Up.emptied (β':=bset β k (w.heap.size,0,grownCap w (n0+m) (β j0).2.2 el)) ?_ hb0.lt (by unfold bset;rw [if_neg hjk])
              simpa using hup
             ·simp [AV.g,AC.g,ptr,bset]
        ·cases h
       ·cases h
     ·cases h
    ·cases h
   ·cases h
 ·cases h
end
structure CallOK (P:Program) (r:CallRec):Prop where
 keys:r.e.Keys (fun k=>∃ e,look r.H k=some e)
 wr:WrOk r.e r.H
 call:∀ (β:Bs) (w:World),Gw w→(∀ k e,look r.H k=some e→e.wr=true→ng≤(β k).1)→(∀ k e,look r.H k=some e→Blk β w k e)→(∀ k e k' e',look r.H k=some e→look r.H k'=some e'→k≠k'→e.wr=true→e.cells≠[]→e'.cells≠[]→(β k).1≠(β k').1) →
  Calls P r.f (r.args.map (AV.g β)).toArray w fun en w'=>∃ β',en=.returned (r.e.v.g β')∧Up r.e β β' w w'
def ObOK (P:Program):Ob→Prop
 | .inl r=>CallOK P r
 | .inr x=>x.1=x.2
theorem zc1 {H:List (Nat×Ent)}:∀ {ks:List Nat} {k:Nat} {e:Ent},look (zvj H ks) k=some e→look H k=some e
 | [],_,_,h=>by simp [zvj,look] at h
 | j::ks,k,e,h=>by
  unfold zvj at h
  split at h
  ·rename_i e' he'
   rw [zav] at h
   split at h
   ·rename_i hk;subst hk;injection h with h;subst h;exact he'
   ·exact zc1 h
  ·exact zc1 h
theorem zjl {S S':Nat→Prop} (h:∀ k,S k→S' k) (nw:Option (Nat×Ent)) (k:Nat) (hk:ext S nw k):ext S' nw k:=by
 cases nw with
 | none=>exact h k hk
 | some x=>obtain ⟨j,cs⟩:=x;exact hk.elim (fun a=>Or.inl (h k a)) Or.inr
section
variable {P:Program}
theorem zvv {f:Nat} (h:zjo P f=true) (args:Array Value) (w:World):(callFunc f args).run P w=.ok (.enter f args) w:=by
 unfold zjo at h
 split at h
 ·rename_i fn hf
  simp only [Bool.and_eq_true,Bool.not_eq_true'] at h
  have h1:fn.body.isNone=false:=by cases hb:fn.body <;> simp_all
  simp only [callFunc,Sem.run_bind,run_program,Result.andThen_ok,hf,h.2,h1,Bool.false_eq_true,if_false,Sem.run_pure]
 ·cases h
theorem yadh {o:Oper} {φ:Kn} {c:Call} {x:Operand} {g k:Nat} {caps:List Nat} {args:List AV} {hs:List Eff} {r:Res} (ho:o.op=.call c) (hc:c.callee=.value x) (hx:φ.ev x=some (.c (.f g caps)))
  (hl:zi7 φ c.args.toList=some args) (h:yanj P k φ hs g args caps=some r) (hcr:∀ q,q∈r.cr→ObOK P q):zdf P o φ r.e:=by
 unfold yanj at h
 split at h
 ·rename_i e hs'
  cases hcal:(zjo P g&&zk7 k e) with
  | false=>simp [hcal] at h
  | true =>
   simp only [hcal,cond_true,Option.some.injEq] at h
   rw [Bool.and_eq_true] at hcal
   subst h
   have hq:CallOK P _:=hcr _ (List.mem_singleton.2 rfl)
   refine ⟨fun k cs hm=>?_,fun C N β S a w hr hn=>?_⟩
   ·obtain ⟨c',hc'⟩:=hq.wr k cs hm
    exact ⟨c',zc1 hc'.1,hc'.2⟩
   ·obtain ⟨p1,p2⟩:=zi1 hr hl
    obtain ⟨h1,h2⟩:=hr.ev hx
    have hS:∀ k,(∃ e,look (zvj φ.H (ze2 args++caps)) k=some e)→S k:=fun k ⟨e,he⟩=>(hr.blk k e (zc1 he)).1
    refine ⟨⟨fun k hk=>zjl hS _ k (hq.keys.v k hk),fun k cs hm c hc j hj=>hS j (hq.keys.wr k cs hm c hc j hj),fun k cs hm c hc j hj=>zjl hS _ j (hq.keys.nw k cs hm c hc j hj)⟩,?_⟩
    have hcall:=hq.call β w hr.gd.now (fun k e he hw=>((hr.blk k e (zc1 he)).2.2.2 hw).elim (Nat.le_trans hr.gd.size) (hr.gd.x _)) (fun k e he=>(hr.blk k e (zc1 he)).2.1) (fun k e k' e' he he' hne hw=>hr.inj k e k' e' (zc1 he) (zc1 he') hne hw)
    have e2:c.args.map a.eval=(args.map (AV.g β)).toArray:=by
     apply Array.ext'
     rw [Array.toList_map,p1]
    have h1':a.eval x=.func (.func g) #[] (caps.map fun k=>Value.pointer (some (ptr β k 0))).toArray:=h1
    have hargs:(args.map (AV.g β)).toArray++(caps.map fun k=>Value.pointer (some (ptr β k 0))).toArray=((args++caps.map (fun k=>AV.c (.w k))).map (AV.g β)).toArray:=by
     simp only [List.map_append,List.map_map,List.append_toArray]
     rfl
    have hex:(execOp a.eval o).run P w=.ok (.enter g ((args++caps.map (fun k=>AV.c (.w k))).map (AV.g β)).toArray) w:=by
     generalize a.eval=ρ at *
     simp only [execOp,ho,resolve,hc,e2,h1',Deferred.ofValue,Sem.run_bind,Sem.run_pure,Result.andThen_ok,invoke,Array.empty_append,hargs]
     exact zvv hcal.1 _ w
    unfold Oper.wp
    rw [hex]
    refine hcall.mono fun en w' ⟨β',he,hu⟩=>?_
    subst he
    exact ⟨β',hu,rfl⟩
 ·cases h
theorem zd5 {hs:List Eff} {x:Option AV} {r:Res} (h:pv1 hs x=some r):∃ v,x=some v∧r=⟨⟨v,[],none⟩,true,[],hs⟩:=by
 cases x with
 | none=>cases h
 | some v=>injection h with h;exact ⟨v,rfl,h.symm⟩
theorem zd9 {hs:List Eff} {x:Option (AV×Bool)} {r:Res} (h:pv2 hs x=some r):∃ v ok,x=some (v,ok)∧r=⟨⟨v,[],none⟩,ok,[],hs⟩:=by
 cases x with
 | none=>cases h
 | some x=>obtain ⟨v,ok⟩:=x;injection h with h;exact ⟨v,ok,rfl,h.symm⟩
theorem zve {k:Nat} {σ:Kn} {hs:List Eff} {o:Oper} {r:Res} (h:eOp P k σ hs o.op=some r) (hok:r.ok=true) (hcr:∀ q,q∈r.cr→ObOK P q):zdf P o σ r.e:=by
 unfold eOp at h
 split at h
 ·rename_i x ho
  obtain ⟨v,hv,rfl⟩:=zd5 h
  exact yadn ho hv
 ·rename_i x ho
  obtain ⟨v,hv,rfl⟩:=zd5 h
  exact zwl ho hv
 ·rename_i c x y ho
  split at h
  ·rename_i t hc
   cases t
   ·obtain ⟨v,hv,rfl⟩:=zd5 h
    exact zqm ho hc hv
   ·obtain ⟨v,hv,rfl⟩:=zd5 h
    exact zqm ho hc hv
  ·cases h
 ·rename_i T ho
  split at h
  ·rename_i i hi
   split at h
   ·rename_i z hz
    split at h
    ·rename_i zv hzv
     split at h
     ·rename_i cs hcs
      injection h with h;subst h
      exact zyg ho hi hz hzv hcs
     ·cases h
    ·cases h
   ·cases h
  ·cases h
 ·rename_i T x ho
  split at h
  ·rename_i v hv
   split at h
   ·rename_i cs hcs
    injection h with h;subst h
    exact yaj1 ho hv hcs
   ·cases h
  ·cases h
 ·rename_i T ps ho
  split at h
  ·rename_i l hl
   obtain ⟨v,ok,hv,rfl⟩:=zd9 h
   exact zws ho hl hv hok
  ·cases h
 ·rename_i T x ho
  split at h
  ·rename_i a ha
   obtain ⟨v,ok,hv,rfl⟩:=zd9 h
   exact yacz ho ha hv hok
  ·cases h
 ·rename_i T x y ho
  split at h
  ·rename_i a v ha hv
   split at h
   ·rename_i k' l ok hst
    injection h with h;subst h
    exact zw6 ho ha hv hst hok
   ·cases h
  ·cases h
 ·rename_i T x f ho
  split at h
  ·rename_i a ha
   obtain ⟨v,hv,rfl⟩:=zd5 h
   exact zob ho ha hv
  ·cases h
 ·rename_i T x f ho
  split at h
  ·rename_i a ha
   obtain ⟨v,ok,hv,rfl⟩:=zd9 h
   exact zxd ho ha hv hok
  ·cases h
 ·rename_i T x ix ho
  split at h
  ·rename_i a n ha hn
   obtain ⟨v,ok,hv,rfl⟩:=zd9 h
   exact zmr ho ha hn hv hok
  ·cases h
 ·rename_i T x ix ho
  split at h
  ·rename_i a n ha hn
   obtain ⟨v,ok,hv,rfl⟩:=zd9 h
   exact zx8 ho ha hn hv hok
  ·cases h
 ·rename_i op T x y T' ho
  split at h
  ·rename_i s t hx hy
   split at h
   ·rename_i hT
    injection h with h;subst h
    exact zji false ho hx hy hT
   ·rename_i hT
    injection h with h;subst h
    exact zji true ho hx hy hT
   ·cases h
  ·rename_i l r' hx hy
   obtain ⟨v,ok,hv,rfl⟩:=zd9 h
   exact yaet ho hx hy hv hok
  ·rename_i a d _ _ hx hy
   obtain ⟨v,ok,hv,rfl⟩:=zd9 h
   exact yae2 ho hx hy hv hok
  ·cases h
 ·rename_i op T x ho
  split at h
  ·rename_i a ha
   obtain ⟨v,hv,rfl⟩:=zd5 h
   exact yapk ho ha hv
  ·cases h
 ·rename_i T D x ho
  split at h
  ·rename_i el a hT ha
   obtain ⟨v,ok,hv,rfl⟩:=zd9 h
   exact yae0 ho ha hv hok
  ·rename_i d a _ hT ha
   obtain ⟨v,hv,rfl⟩:=zd5 h
   exact yaeu ho hT ha hv
  ·cases h
 ·rename_i T len ps ho
  split at h
  ·rename_i l hl
   exact zlg ho hl h hok
  ·cases h
 ·rename_i T x y ho
  split at h
  ·rename_i n m hn hm
   exact zl2 ho hn hm h hok
  ·cases h
 ·rename_i T x lo hi mx ho
  split at h
  ·rename_i a l hh m ha hl hhh hm
   obtain ⟨v,ok,hv,rfl⟩:=zd9 h
   exact zzh ho ha hl hhh hm hv hok
  ·cases h
 ·rename_i x i ho
  split at h
  ·rename_i a ha
   obtain ⟨v,hv,rfl⟩:=zd5 h
   exact zq1 ho ha hv
  ·cases h
 ·rename_i g first caps ho
  split at h
  ·rename_i l hf hl
   split at h
   ·rename_i ks hks
    injection h with h;subst h
    exact zoq ho hf hl hks
   ·cases h
  ·cases h
 ·rename_i c ho
  split at h
  ·rename_i args hl
   split at h
   ·rename_i hc
    split at h
    ·exact zv4 ho hc hl h hok
    ·cases h
   ·rename_i bi _ hc
    obtain ⟨v,hv,rfl⟩:=zd5 h
    exact zrh ho hc hl hv
   ·rename_i x hc
    split at h
    ·rename_i g caps hx
     exact yadh ho hc hx hl h hcr
    ·cases h
   ·cases h
  ·cases h
 ·cases h
end
def zr4 (ops:Array Oper) (σ:Kn) (o:Oper):Option Bool :=
 match o.guard with
 | none=>some true
 | some (j,want)=>match ops[j]? with
  | some oj=>match oj.dst with
   | some t=>match look σ.T t with
    | some (Sum.inl (Sum.inr (Sum.inl (Sum.inl x))))=>some (x==want)
    | some (.raw (.tuple _))=>some false
    | _=>none
   | none=>none
  | none=>none
def ze1 (ops:List Oper) (i:Nat):Bool :=
 match ops with
 | []=>false
 | o::l=>match o.guard with
  | some (j,_)=>Nat.beq j i||ze1 l i
  | none=>ze1 l i
def yan0 (N:Nat):Option Tmp→Bool
 | some t=>Nat.blt t N
 | none=>true
def same (x d:Bool):Bool:=bif d then x else !x
theorem zr9 {x d:Bool}:same x d=true↔x=d:=by cases x <;> cases d <;> simp [same]
structure Stp where
 e:Eff
 ok:Bool
 cr:List Ob
 hs:List Eff
 ds:List Bool
def eOpR (P:Program) (k:Nat) (σ:Kn) (hs:List Eff) (q:Bool) (o:Op):Option Res :=
 match eOp P k σ hs o with
 | some r=>match q with
  | false=>some r
  | true=>match r.hs with
   | e::hs=>bif zk7 k e then some ⟨e,r.ok,.inr (r.e,e)::r.cr,hs⟩ else none
   | []=>none
 | none=>none
theorem zpw {P:Program} {k:Nat} {σ:Kn} {hs:List Eff} {q:Bool} {o:Oper} {r:Res} (h:eOpR P k σ hs q o.op=some r) (hok:r.ok=true) (hcr:∀ q,q∈r.cr→ObOK P q):zdf P o σ r.e:=by
 unfold eOpR at h
 split at h
 ·rename_i r0 h0
  cases q with
  | false=>injection h with h;subst h;exact zve h0 hok hcr
  | true =>
   simp only at h
   split at h
   ·rename_i e hs' he
    cases hk:zk7 k e with
    | false=>rw [hk] at h;cases h
    | true =>
     rw [hk] at h
     simp only [cond_true,Option.some.injEq] at h
     subst h
     have h1:r0.e=e:=hcr (.inr (r0.e,e)) (by simp)
     have:=zve h0 hok fun q hq=>hcr q (by simp [hq])
     rw [h1] at this
     exact this
   ·cases h
 ·cases h
def zp7 (P:Program) (N base:Nat) (rs:List Nat) (ops:Array Oper) (i:Nat) (o:Oper) (σ:Kn) (hs:List Eff) (ds:List Bool):Option Stp :=
 bif yan0 N o.dst then
  match zr4 ops σ o with
  | some true=>match eOpR P (base+i) σ hs (rs.any (Nat.beq i)) o.op with
   | some r=>bif ze1 ops.toList i then
     match r.e.v,ds with
     | (Sum.inl (Sum.inr (Sum.inl (Sum.inl x)))),d::ds=>some ⟨⟨.c (.b d),r.e.wr,r.e.nw⟩,r.ok&&same x d,r.cr,r.hs,ds⟩
     | _,_=>none
    else some ⟨r.e,r.ok,r.cr,r.hs,ds⟩
   | none=>none
  | some false=>some ⟨⟨zqh,[],none⟩,true,[],hs,ds⟩
  | none=>none
 else none
def yaio (P:Program) (N:Nat) (ops:Array Oper) (o:Oper) (φ:Kn) (e:Eff):Prop :=
 WrOk e φ.H∧(∀ t,o.dst=some t→t<N) ∧
 ∀ C N' β S a w,Rel C N' β S φ a w→(∀ k cs,e.nw=some (k,cs)→¬ S k)→e.Keys S ∧
  ((Region.wanted o (yielded ops a.tmps)=true∧o.wp P a w (fun a' w'=>∃ β',Up e β β' w w'∧a'=a.put o.dst (e.v.g β')) (fun _ _ _=>False)) ∨
    (Region.wanted o (yielded ops a.tmps)=false∧e=⟨zqh,[],none⟩))
theorem zii {ops:Array Oper} {φ:Kn} {o:Oper} {t:Bool} (h:zr4 ops φ o=some t) {C:Cx} {N:Nat} {β:Bs} {S:Nat→Prop} {a:Act} {w:World} (hr:Rel C N β S φ a w) :
  Region.wanted o (yielded ops a.tmps)=t:=by
 unfold zr4 at h
 unfold Region.wanted
 split at h
 ·rename_i hg;injection h with h;simp [hg,h]
 ·rename_i j want hg
  simp only [hg]
  split at h
  ·rename_i oj hj
   split at h
   ·rename_i tm htm
    split at h
    ·rename_i x hx
     injection h with h
     have:=(hr.tmp tm _ hx).1
     have hy:yielded ops a.tmps j=some x:=by simp [yielded,hj,htm,this,AV.g,AC.g]
     rw [hy,← h];cases x <;> cases want <;> rfl
    ·rename_i y hx
     injection h with h
     have:=(hr.tmp tm _ hx).1
     have hy:yielded ops a.tmps j=none:=by simp [yielded,hj,htm,this,AV.g]
     rw [hy,← h];cases want <;> rfl
    ·cases h
   ·cases h
  ·cases h
theorem zk9 {P:Program} {N base i:Nat} {rs:List Nat} {ops:Array Oper} {o:Oper} {σ:Kn} {hs:List Eff} {ds:List Bool} {r:Stp} (h:zp7 P N base rs ops i o σ hs ds=some r) (hok:r.ok=true) (hcr:∀ q,q∈r.cr→ObOK P q) :
  yaio P N ops o σ r.e:=by
 unfold zp7 at h
 cases hd:yan0 N o.dst with
 | false=>simp [hd] at h
 | true =>
  simp only [hd,cond_true] at h
  have hdst:∀ t,o.dst=some t→t<N:=fun t ht=>by rw [ht] at hd;simpa [yan0] using hd
  split at h
  ·rename_i hg
   split at h
   ·rename_i q hq
    cases hu:ze1 ops.toList i with
    | true =>
     simp only [hu,cond_true] at h
     split at h
     ·rename_i x d ds' hv
      injection h with h;subst h
      simp only [Bool.and_eq_true,zr9] at hok
      obtain ⟨h1,h2⟩:=zpw hq hok.1 hcr
      have hee:(⟨.c (.b d),q.e.wr,q.e.nw⟩:Eff)=q.e:=by rw [← hok.2];exact congrArg (fun v=>(⟨v,q.e.wr,q.e.nw⟩:Eff)) hv.symm
      rw [hee]
      refine ⟨h1,hdst,fun C N' β S a w hr hn=>?_⟩
      obtain ⟨h3,h4⟩:=h2 C N' β S a w hr hn
      exact ⟨h3,Or.inl ⟨zii hg hr,h4⟩⟩
     ·cases h
    | false =>
     simp only [hu,cond_false] at h
     injection h with h;subst h
     obtain ⟨h1,h2⟩:=zpw hq hok hcr
     refine ⟨h1,hdst,fun C N' β S a w hr hn=>?_⟩
     obtain ⟨h3,h4⟩:=h2 C N' β S a w hr hn
     exact ⟨h3,Or.inl ⟨zii hg hr,h4⟩⟩
   ·cases h
  ·rename_i hg
   injection h with h;subst h
   refine ⟨fun _ _ hm=>(nomatch hm),hdst,fun C N' β S a w hr hn=>⟨ztv (fun k hk=>(nomatch hk)),Or.inr ⟨zii hg hr,rfl⟩⟩⟩
  ·cases h
theorem Oper.wp_mono' {P:Program} {o:Oper} {a:Act} {w:World} {K K':Act→World→Prop} {Q Q':Exit→Act→World→Prop} (h:o.wp P a w K Q) (hk:∀ a w,K a w→K' a w) (hq:∀ e a w,Q e a w→Q' e a w):o.wp P a w K' Q':=by
 unfold Oper.wp at *
 generalize (execOp a.eval o).run P w=r at *
 cases r with
 | ok n w' =>
  cases n <;> simp only [Oper.upon] at h ⊢ <;> first
   | exact hk _ _ h
   | exact h.elim
   | (refine Calls.mono h ?_
      intro e w''
      cases e with
      | returned v=>exact hk _ _
      | panicked ch=>exact hq _ _ _
      | outgrown=>rintro ⟨a0,w0,h0⟩;exact ⟨a0,w0,hq _ _ _ h0⟩)
   | exact Rows.mono h fun v w''=>hk _ _
 | halt x w' =>
  cases x <;> simp only [Oper.upon] at h ⊢ <;> first
   | exact hq _ _ _ h
   | exact h.elim
theorem Rel.mono {C:Cx} {N:Nat} {β:Bs} {S S':Nat→Prop} {σ:Kn} {a:Act} {w:World} (h:Rel C N β S σ a w) (hs:∀ k,S k→S' k):Rel C N β S' σ a w :=
 ⟨h.size,h.defers,fun t v hl=>⟨(h.tmp t v hl).1,fun k hk=>hs k ((h.tmp t v hl).2 k hk)⟩,fun k e hl=>⟨hs k (h.blk k e hl).1,(h.blk k e hl).2.1,fun c hc j hj=>hs j ((h.blk k e hl).2.2.1 c hc j hj),(h.blk k e hl).2.2.2⟩,h.inj,h.frame,fun k hF=>⟨hs k (h.fix k hF).1,(h.fix k hF).2⟩,h.gd⟩
theorem zof {k:Nat} {e:Eff} (h:zk7 k e=true):∀ j cs,e.nw=some (j,cs)→j=k:=by
 intro j cs hn
 unfold zk7 at h
 rw [hn] at h
 exact Nat.eq_of_beq_eq_true h
theorem zwr {P:Program} {σ:Kn} {k:Nat} {ts:Array TypeId} {s x:AV} {hs:List Eff} {r:Res} (h:znc P σ k ts s x hs=some r):∀ j cs,r.e.nw=some (j,cs)→j=k:=by
 intro j cs hn
 unfold znc at h
 split at h
 ·rename_i tS tX _
  cases hc:Nat.beq tS tX with
  | false=>rw [hc] at h;cases h
  | true =>
   rw [hc] at h
   simp only [cond_true] at h
   split at h
   ·split at h
    ·rename_i i _
     split at h
     ·rename_i ok' _ _
      cases hc:(Nat.ble i.bytes 512&&Nat.blt 0 i.size) with
      | false=>rw [hc] at h;cases h
      | true =>
       rw [hc] at h
       simp only [cond_true] at h
       split at h
       ·injection h with h;subst h;simp at hn;exact hn.1.symm
       ·split at h
        ·injection h with h;subst h;simp at hn;exact hn.1.symm
        ·cases h
       ·split at h
        ·rename_i e he
         cases hc:(e.wr&&Nat.beq e.room i.size) with
         | false=>rw [hc] at h;cases h
         | true =>
          rw [hc] at h
          simp only [cond_true,Option.some.injEq] at h
          subst h;simp at hn;exact hn.1.symm
        ·cases h
       ·cases h
     ·cases h
    ·cases h
   ·cases h
 ·cases h
theorem yave {P:Program} {k:Nat} {σ:Kn} {hs:List Eff} {o:Op} {r:Res} (h:eOp P k σ hs o=some r):∀ j cs,r.e.nw=some (j,cs)→j=k:=by
 intro j cs hn
 have p1:∀ {x},pv1 hs x=some r→False:=fun h'=>by obtain ⟨v,_,rfl⟩:=zd5 h';cases hn
 have p2:∀ {x},pv2 hs x=some r→False:=fun h'=>by obtain ⟨v,ok,_,rfl⟩:=zd9 h';cases hn
 have p3:∀ {v ok},pv hs v ok=some r→False:=fun h'=>by injection h' with h';subst h';cases hn
 cases o <;> simp only [eOp] at h
 case move=>exact (p1 h).elim
 case assign=>exact (p1 h).elim
 case pick =>
  split at h
  ·split at h <;> exact (p1 h).elim
  ·cases h
 case alloc =>
  split at h
  ·split at h
   ·split at h
    ·split at h
     ·injection h with h;subst h;simp at hn;exact hn.1.symm
     ·cases h
    ·cases h
   ·cases h
  ·cases h
 case box =>
  split at h
  ·split at h
   ·injection h with h;subst h;simp at hn;exact hn.1.symm
   ·cases h
  ·cases h
 case store =>
  split at h
  ·split at h
   ·injection h with h;subst h;cases hn
   ·cases h
  ·cases h
 case binOp =>
  split at h
  ·split at h
   ·exact (p3 h).elim
   ·exact (p3 h).elim
   ·cases h
  ·exact (p2 h).elim
  ·exact (p2 h).elim
  ·cases h
 case convert =>
  split at h
  ·exact (p2 h).elim
  ·exact (p1 h).elim
  ·cases h
 case buildSlice =>
  split at h
  ·unfold zgb at h
   split at h
   ·split at h
    ·split at h
     ·split at h
      ·injection h with h;subst h;simp at hn;exact hn.1.symm
      ·cases h
     ·cases h
    ·cases h
   ·cases h
  ·cases h
 case makeSlice =>
  split at h
  ·unfold zhu at h
   split at h
   ·split at h
    ·split at h
     ·injection h with h;subst h;simp at hn;exact hn.1.symm
     ·cases h
    ·cases h
   ·cases h
  ·cases h
 case makeFunc fn first caps =>
  cases fn <;> simp only at h
  case func =>
   split at h
   ·split at h
    ·exact (p3 h).elim
    ·cases h
   ·cases h
  all_goals cases h
 case call =>
  split at h
  ·split at h
   ·split at h
    ·exact zwr h j cs hn
    ·cases h
   ·exact (p1 h).elim
   ·split at h
    ·unfold yanj at h
     split at h
     ·rename_i e hs'
      cases hc:(zjo P _&&zk7 k e) with
      | false=>rw [hc] at h;cases h
      | true =>
       rw [hc] at h
       simp only [cond_true,Option.some.injEq] at h
       subst h
       rw [Bool.and_eq_true] at hc
       exact zof hc.2 j cs hn
     ·cases h
    ·cases h
   ·cases h
  ·cases h
 all_goals first
  | (split at h <;> first | exact (p1 h).elim | exact (p2 h).elim | cases h)
  | cases h
theorem zzx {P:Program} {k:Nat} {σ:Kn} {hs:List Eff} {q:Bool} {o:Op} {r:Res} (h:eOpR P k σ hs q o=some r):∀ j cs,r.e.nw=some (j,cs)→j=k:=by
 intro j cs hn
 unfold eOpR at h
 split at h
 ·rename_i r0 h0
  cases q with
  | false=>injection h with h;subst h;exact yave h0 j cs hn
  | true =>
   simp only at h
   split at h
   ·rename_i e hs' he
    cases hk:zk7 k e with
    | false=>rw [hk] at h;cases h
    | true =>
     rw [hk] at h
     simp only [cond_true,Option.some.injEq] at h
     subst h
     exact zof hk j cs hn
   ·cases h
 ·cases h
theorem zpc {P:Program} {N base i:Nat} {rs:List Nat} {ops:Array Oper} {o:Oper} {σ:Kn} {hs:List Eff} {ds:List Bool} {r:Stp} (h:zp7 P N base rs ops i o σ hs ds=some r):∀ j cs,r.e.nw=some (j,cs)→j=base+i:=by
 intro j cs hn
 unfold zp7 at h
 cases hd:yan0 N o.dst with
 | false=>simp [hd] at h
 | true =>
  simp only [hd,cond_true] at h
  split at h
  ·split at h
   ·rename_i q hq
    cases hu:ze1 ops.toList i with
    | true =>
     simp only [hu,cond_true] at h
     split at h
     ·injection h with h;subst h;exact zzx hq j cs hn
     ·cases h
    | false =>
     simp only [hu,cond_false] at h
     injection h with h;subst h;exact zzx hq j cs hn
   ·cases h
  ·injection h with h;subst h;cases hn
  ·cases h
def allB:List Bool→Bool
 | []=>true
 | c::l=>c&&allB l
theorem ziq:∀ (l r:List Bool),allB (l++r)=(allB l&&allB r)
 | [],r=>by simp [allB]
 | c::l,r=>by simp [allB,ziq l r,Bool.and_assoc]
structure Seq where
 σ:Kn
 ok:List Bool
 cr:List Ob
 hs:List Eff
 ds:List Bool
def yaca (P:Program) (N base:Nat) (rs:List Nat) (ops:Array Oper):Nat→List Oper→Kn→List Eff→List Bool→Option Seq
 | _,[],σ,hs,ds=>some ⟨σ,[],[],hs,ds⟩
 | i,o::l,σ,hs,ds=>match zp7 P N base rs ops i o σ hs ds with
  | some r=>match yaca P N base rs ops (i+1) l (σ.upd o.dst r.e) r.hs r.ds with
   | some q=>some ⟨q.σ,r.ok::q.ok,r.cr++q.cr,q.hs,q.ds⟩
   | none=>none
  | none=>none
theorem zgt {P:Program} {N base:Nat} {rs:List Nat} {ops:Array Oper} {Q:Exit→Act→World→Prop} {C:Cx}:∀ (l:List Oper) (i:Nat) (σ:Kn) (hs:List Eff) (ds:List Bool) (r:Seq) (β:Bs) (a:Act) (w:World),
  (∀ j,l[j]?=ops[i+j]?)→yaca P N base rs ops i l σ hs ds=some r→allB r.ok=true→(∀ q,q∈r.cr→ObOK P q)→Rel C N β (fun k=>k<base+i) σ a w →
  (∀ β' a' w',Rel C N β' (fun k=>k<base+(i+l.length)) r.σ a' w'→Q .normal a' w')→wpOps P ops Q (List.range' i l.length) a w
 | [],i,σ,hs,ds,r,β,a,w,_,h,_,_,hr,hQ=>by
  injection h with h;subst h
  exact hQ β a w hr
 | o::l,i,σ,hs,ds,r,β,a,w,hl,h,hok,hcr,hr,hQ=>by
  have h0:ops[i]?=some o:=by simpa using (hl 0).symm
  simp only [yaca] at h
  split at h
  ·rename_i s hs'
   split at h
   ·rename_i q hq
    injection h with h;subst h
    simp only [allB,Bool.and_eq_true] at hok
    have hnew:=zpc hs'
    obtain ⟨hw,hd,hst⟩:=zk9 hs' hok.1 (fun c hc=>hcr c (by simp [hc]))
    have hn:∀ k cs,s.e.nw=some (k,cs)→¬ k<base+i:=fun k cs hk=>by rw [hnew k cs hk];omega
    obtain ⟨hk,hcase⟩:=hst C N β _ a w hr hn
    have hext:∀ k,ext (fun k=>k<base+i) s.e.nw k→k<base+(i+1):=by
     intro k hk'
     cases hnw:s.e.nw with
     | none=>rw [hnw] at hk';simp only [ext] at hk';omega
     | some x =>
      obtain ⟨j,cs⟩:=x
      rw [hnw] at hk'
      have:=hnew j cs hnw
      rcases hk' with h1 | h1 <;> omega
    have next:∀ β' a' w',Up s.e β β' w w'→a'=a.put o.dst (s.e.v.g β')→wpOps P ops Q (List.range' (i+1) l.length) a' w':=by
     intro β' a' w' hu ha
     subst ha
     have hr':=(hr.upd hu hk hw hn hd).mono hext
     refine zgt l (i+1) _ _ _ q β' _ w' (fun j=>by have:=hl (j+1);simpa [Nat.add_assoc,Nat.add_comm 1 j] using this) hq hok.2 (fun c hc=>hcr c (by simp [hc])) hr' ?_
     intro β'' a'' w'' hr''
     refine hQ β'' a'' w'' ?_
     simp only [List.length_cons]
     rwa [show base+(i+(l.length+1))=base+(i+1+l.length) by omega]
    simp only [List.length_cons,List.range'_succ,wpOps,h0]
    rcases hcase with ⟨hwant,hwp⟩ | ⟨hwant,he⟩
    ·rw [if_pos hwant]
     exact Or.inl (Oper.wp_mono' hwp (fun a' w' ⟨β',hu,ha⟩=>next β' a' w' hu ha) (fun _ _ _ h=>h.elim))
    ·rw [if_neg (by rw [hwant];exact Bool.false_ne_true)]
     refine next β _ w ?_ ?_
     ·rw [he];exact Up.pure _ _ _
     ·rw [he];rfl
   ·cases h
  ·cases h
def yafq (T:List (Nat×AV)):List Nat→List (Nat×AV)
 | []=>[]
 | t::r=>match look T t with
  | some v=>(t,v)::yafq T r
  | none=>yafq T r
theorem zer {T:List (Nat×AV)}:∀ {ts:List Nat} {t:Nat} {v:AV},look (yafq T ts) t=some v→look T t=some v∧t∈ts
 | [],_,_,h=>by simp [yafq,look] at h
 | j::ts,t,v,h=>by
  unfold yafq at h
  split at h
  ·rename_i v' hv'
   rw [zav] at h
   split at h
   ·rename_i ht;subst ht;injection h with h;subst h;exact ⟨hv',by simp⟩
   ·exact ⟨(zer h).1,by simp [(zer h).2]⟩
  ·exact ⟨(zer h).1,by simp [(zer h).2]⟩
def yalo:Op→Bool
 | .fieldAddr _ _ _=>false
 | .indexAddr _ _ _=>false
 | .move _=>false
 | .assign _=>false
 | _=>true
def foot (ops:Array Oper) (o:Oper) (σ:Kn):Kn :=
 let T:=yafq σ.T (Oper.looksAt ops o)
 { T:=T,H:=bif yalo o.op then zvj σ.H (T.flatMap fun x=>x.2.ks) else [],n:=σ.n }
structure Le (φ σ:Kn):Prop where
 t:∀ t v,look φ.T t=some v→look σ.T t=some v
 h:∀ k e,look φ.H k=some e→look σ.H k=some e
theorem yarv (ops:Array Oper) (o:Oper) (σ:Kn):Le (foot ops o σ) σ:=⟨fun _ _ h=>(zer h).1,fun _ _ h=>by
 unfold foot at h
 cases hl:yalo o.op with
 | true=>rw [hl] at h;exact zc1 h
 | false=>rw [hl] at h;cases h⟩
theorem Rel.le {C:Cx} {N:Nat} {β:Bs} {S:Nat→Prop} {σ φ:Kn} {a:Act} {w:World} (h:Rel C N β S σ a w) (hl:Le φ σ):Rel C N β S φ a w :=
 ⟨h.size,h.defers,fun t v hv=>h.tmp t v (hl.t t v hv),fun k e he=>h.blk k e (hl.h k e he),fun k e k' e' he he'=>h.inj k e k' e' (hl.h k e he) (hl.h k' e' he'),h.frame,h.fix,h.gd⟩
structure Eqv (σ τ:Kn):Prop where
 t:∀ t,look σ.T t=look τ.T t
 h:∀ k,look σ.H k=look τ.H k
theorem Eqv.refl (σ:Kn):Eqv σ σ:=⟨fun _=>rfl,fun _=>rfl⟩
theorem Eqv.symm {σ τ:Kn} (h:Eqv σ τ):Eqv τ σ:=⟨fun t=>(h.t t).symm,fun k=>(h.h k).symm⟩
theorem Eqv.trans {σ τ ρ:Kn} (h:Eqv σ τ) (k:Eqv τ ρ):Eqv σ ρ:=⟨fun t=>(h.t t).trans (k.t t),fun i=>(h.h i).trans (k.h i)⟩
theorem Eqv.le {σ τ:Kn} (h:Eqv σ τ):Le σ τ:=⟨fun t v hv=>by rw [← h.t];exact hv,fun k e he=>by rw [← h.h];exact he⟩
theorem Le.trans {φ σ τ:Kn} (h:Le φ σ) (k:Le σ τ):Le φ τ:=⟨fun t v hv=>k.t t v (h.t t v hv),fun i e he=>k.h i e (h.h i e he)⟩
theorem ziw (T:List (Nat×AV)) (d:Option Tmp) (v:AV) (t:Nat):look (putT T d v) t=if d=some t then some v else look T t:=by
 cases d with
 | none=>simp [putT]
 | some d =>
  simp only [putT,zav,Option.some.injEq]
  by_cases h:t=d
  ·subst h;simp
  ·rw [if_neg h,if_neg (fun e=>h e.symm)]
def wkeys (e:Eff):List Nat:=e.wr.map (·.1)++(match e.nw with | some (k,_)=>[k] | none=>[])
def updH (e:Eff) (H:List (Nat×Ent)):List (Nat×Ent):=newH e.nw (e.wr.map (fun x=>(x.1,Ent.mk true x.2 0))++H)
theorem zbs {e:Eff} {H:List (Nat×Ent)} {k:Nat} (hk:k∉wkeys e):look (updH e H) k=look H k:=by
 have h1:look (e.wr.map (fun x=>(x.1,Ent.mk true x.2 0))++H) k=look H k:=by
  rcases yagy e.wr H k with ⟨cs,hm,_⟩ | ⟨_,he⟩
  ·exact absurd (by simp [wkeys];exact Or.inl ⟨cs,hm⟩) hk
  ·exact he
 unfold updH
 cases hn:e.nw with
 | none=>exact h1
 | some x =>
  obtain ⟨j,cs⟩:=x
  simp only [newH,zav]
  rw [if_neg,h1]
  intro hj
  exact hk (by simp [wkeys,hn,hj])
theorem zg4 {e:Eff} {k:Nat} (hk:k∈wkeys e) (H H':List (Nat×Ent)):look (updH e H) k=look (updH e H') k:=by
 have key:∀ {cs},(k,cs)∈e.wr→look (e.wr.map (fun x=>(x.1,Ent.mk true x.2 0))++H) k=look (e.wr.map (fun x=>(x.1,Ent.mk true x.2 0))++H') k:=by
  intro cs hm
  clear hk
  generalize e.wr=l at *
  induction l with
  | nil=>cases hm
  | cons x l ih =>
   obtain ⟨j,c⟩:=x
   simp only [List.map_cons,List.cons_append,zav]
   by_cases hj:k=j
   ·simp [hj]
   ·simp only [hj,if_false]
    rcases List.mem_cons.1 hm with h1 | h1
    ·exact absurd (by injection h1) hj
    ·exact ih h1
 unfold updH
 cases hn:e.nw with
 | none =>
  simp only [wkeys,hn,List.append_nil,List.mem_map] at hk
  obtain ⟨⟨j,cs⟩,hm,rfl⟩:=hk
  exact key hm
 | some x =>
  obtain ⟨j,c⟩:=x
  simp only [newH,zav]
  by_cases hj:k=j
  ·simp [hj]
  ·simp only [hj,if_false]
   simp only [wkeys,hn,List.mem_append,List.mem_map,List.mem_singleton,hj,or_false] at hk
   obtain ⟨⟨j',cs⟩,hm,rfl⟩:=hk
   exact key hm
structure Apart (oi oj:Oper) (φi φj:Kn) (ei ej:Eff):Prop where
 ij:∀ d,oi.dst=some d→look φj.T d=none
 ji:∀ d,oj.dst=some d→look φi.T d=none
 dd:∀ d,oi.dst=some d→oj.dst≠some d
 hij:∀ k,k∈wkeys ei→look φj.H k=none∧k∉wkeys ej
 hji:∀ k,k∈wkeys ej→look φi.H k=none
theorem Le.under {φ σ:Kn} {d:Option Tmp} {e:Eff} (h:Le φ (σ.upd d e)) (hd:∀ t,d=some t→look φ.T t=none) (hk:∀ k,k∈wkeys e→look φ.H k=none):Le φ σ:=by
 refine ⟨fun t v hv=>?_,fun k en he=>?_⟩
 ·have:=h.t t v hv
  simp only [Kn.upd,ziw] at this
  by_cases hdt:d=some t
  ·rw [hd t hdt] at hv;cases hv
  ·rwa [if_neg hdt] at this
 ·have h1:=h.h k en he
  by_cases hkw:k∈wkeys e
  ·rw [hk k hkw] at he;cases he
  ·have h2:look (updH e σ.H) k=some en:=h1
   rwa [zbs hkw] at h2
theorem Le.over {φ σ:Kn} {d:Option Tmp} {e:Eff} (h:Le φ σ) (hd:∀ t,d=some t→look φ.T t=none) (hk:∀ k,k∈wkeys e→look φ.H k=none):Le φ (σ.upd d e):=by
 refine ⟨fun t v hv=>?_,fun k en he=>?_⟩
 ·simp only [Kn.upd,ziw]
  by_cases hdt:d=some t
  ·rw [hd t hdt] at hv;cases hv
  ·rw [if_neg hdt];exact h.t t v hv
 ·by_cases hkw:k∈wkeys e
  ·rw [hk k hkw] at he;cases he
  ·show look (updH e σ.H) k=some en
   rw [zbs hkw];exact h.h k en he
theorem yanr (σ:Kn) {di dj:Option Tmp} {ei ej:Eff} (hd:∀ d,di=some d→dj≠some d) (hk:∀ k,k∈wkeys ei→k∉wkeys ej):Eqv ((σ.upd di ei).upd dj ej) ((σ.upd dj ej).upd di ei):=by
 refine ⟨fun t=>?_,fun k=>?_⟩
 ·simp only [Kn.upd,ziw]
  by_cases h1:dj=some t
  ·by_cases h2:di=some t
   ·exact absurd h1 (hd t h2)
   ·simp [h1,h2]
  ·simp [h1]
 ·show look (updH ej (updH ei σ.H)) k=look (updH ei (updH ej σ.H)) k
  by_cases h1:k∈wkeys ei
  ·rw [zbs (hk k h1)]
   exact zg4 h1 _ _
  ·rw [zbs (e:=ei) h1]
   by_cases h2:k∈wkeys ej
   ·exact zg4 h2 _ _
   ·rw [zbs h2,zbs h2,zbs h1]
theorem Eqv.upd {σ τ:Kn} (h:Eqv σ τ) (d:Option Tmp) (e:Eff):Eqv (σ.upd d e) (τ.upd d e):=by
 refine ⟨fun t=>?_,fun k=>?_⟩
 ·simp only [Kn.upd,ziw,h.t]
 ·show look (updH e σ.H) k=look (updH e τ.H) k
  by_cases h1:k∈wkeys e
  ·exact zg4 h1 _ _
  ·rw [zbs h1,zbs h1,h.h]
def AAny (ops:Array Oper) (E:Nat→Kn×Eff) (σf:Kn):Nat→Array Bool→Kn→Prop
 | 0,listed,σ=>Region.ready .any ops listed=[]∧Eqv σ σf
 | n+1,listed,σ=>(Region.ready .any ops listed=[]→Eqv σ σf) ∧
  ∀ i,i∈Region.ready .any ops listed→∀ o,ops[i]?=some o→Le (E i).1 σ∧AAny ops E σf n (listed.setIfInBounds i true) (σ.upd o.dst (E i).2)
theorem AAny.congr {ops:Array Oper} {E:Nat→Kn×Eff} {σf:Kn}:∀ {n:Nat} {listed:Array Bool} {σ τ:Kn},AAny ops E σf n listed σ→Eqv σ τ→AAny ops E σf n listed τ
 | 0,_,_,_,h,he=>⟨h.1,he.symm.trans h.2⟩
 | _+1,_,_,_,h,he=>⟨fun h0=>he.symm.trans (h.1 h0),fun i hi o ho=>⟨(h.2 i hi o ho).1.trans he.le,(h.2 i hi o ho).2.congr (he.upd _ _)⟩⟩
theorem AAny.first {ops:Array Oper} {E:Nat→Kn×Eff} {σf:Kn} {i:Nat} {oi:Oper} (hi:ops[i]?=some oi) (T:Nat→Prop) (hT:∀ j oj,ops[j]?=some oj→T j→∃ e∈oj.after,Region.binds .any e=true∧(e.on=i∨T e.on)):∀ (n:Nat) (listed:Array Bool) (σ:Kn),
  (∀ j,T j→listed.getD j true=false) →
  (∀ j oj,ops[j]?=some oj→j≠i→listed.getD j true=false→(∀ e∈oj.after,Region.binds .any e=true→e.on≠i)→¬ T j→Apart oi oj (E i).1 (E j).1 (E i).2 (E j).2) →
  i∈Region.ready .any ops listed→Le (E i).1 σ→AAny ops E σf n (listed.setIfInBounds i true) (σ.upd oi.dst (E i).2)→AAny ops E σf (n+1) listed σ:=by
 intro n
 induction n with
 | zero =>
  intro listed σ _ _ hr hl H
  refine ⟨fun h=>(by rw [h] at hr;cases hr),fun j hj oj hoj=>?_⟩
  by_cases hji:j=i
  ·subst hji
   rw [hi] at hoj
   injection hoj with hoj
   subst hoj
   exact ⟨hl,H⟩
  ·have:=ready_mono hj hji
   rw [H.1] at this
   cases this
 | succ n ih =>
  intro listed σ hun' hfree hr hl H
  refine ⟨fun h=>(by rw [h] at hr;cases hr),fun j hj oj hoj=>?_⟩
  by_cases hji:j=i
  ·subst hji
   rw [hi] at hoj
   injection hoj with hoj
   subst hoj
   exact ⟨hl,H⟩
  ·obtain ⟨h1,h2⟩:=H.2 j (ready_mono hj hji) oj hoj
   obtain ⟨hjun,oj',hoj',hall⟩:=mem_ready.1 hj
   rw [hoj] at hoj'
   injection hoj' with hoj'
   subst hoj'
   have hnot:∀ e∈oj.after,Region.binds .any e=true→e.on≠i:=fun e he hb heq=>by
    have h1:=hall e he hb
    have h0:=(mem_ready.1 hr).1
    rw [heq] at h1
    rcases Nat.lt_or_ge i listed.size with h' | h'
    ·simp [h'] at h0 h1;rw [h0] at h1;cases h1
    ·simp [Array.getElem?_eq_none h'] at h1
   have hnT:¬ T j:=fun hTj=>by
    obtain ⟨e,he,hb,heq | hTe⟩:=hT j oj hoj hTj
    ·exact hnot e he hb heq
    ·have h1:=hall e he hb
     have h0:=hun' e.on hTe
     rcases Nat.lt_or_ge e.on listed.size with h' | h'
     ·simp [h'] at h0 h1;rw [h0] at h1;cases h1
     ·simp [Array.getElem?_eq_none h'] at h1
   have hap:=hfree j oj hoj hji hjun hnot hnT
   refine ⟨h1.under hap.ij (fun k hk=>(hap.hij k hk).1),?_⟩
   have hfree':∀ k ok,ops[k]?=some ok→k≠i→(listed.setIfInBounds j true).getD k true=false→(∀ e∈ok.after,Region.binds .any e=true→e.on≠i)→¬ T k→Apart oi ok (E i).1 (E k).1 (E i).2 (E k).2:=fun k ok hk hki hun hno hnk=>by
    refine hfree k ok hk hki ?_ hno hnk
    by_cases hjk:j=k
    ·subst hjk;exact hjun
    ·rw [getD_set_ne true hjk] at hun;exact hun
   have hun2:∀ k,T k→(listed.setIfInBounds j true).getD k true=false:=fun k hk=>by
    have hjk:j≠k:=fun h=>hnT (h ▸ hk)
    rw [getD_set_ne true hjk];exact hun' k hk
   refine ih (listed.setIfInBounds j true) (σ.upd oj.dst (E j).2) hun2 hfree' (ready_mono hr (Ne.symm hji)) (hl.over hap.ji hap.hji) ?_
   rw [Array.setIfInBounds_comm _ _ hji]
   exact h2.congr (yanr σ hap.dd (fun k hk=>(hap.hij k hk).2))
def zoi (base:Nat) (listed:Array Bool) (k:Nat):Prop:=k<base∨(base≤k∧listed.getD (k - base) false=true)
theorem AAny.sound {P:Program} {N base:Nat} {ops:Array Oper} {E:Nat→Kn×Eff} {σf:Kn} {Q:Exit→Act→World→Prop} {C:Cx}
  (hE:∀ i o,ops[i]?=some o→yaio P N ops o (E i).1 (E i).2) (hnew:∀ i j cs,(E i).2.nw=some (j,cs)→j=base+i) :
  ∀ (n:Nat) (listed:Array Bool) (σ:Kn) (β:Bs) (a:Act) (w:World),listed.size=ops.size→AAny ops E σf n listed σ→Rel C N β (zoi base listed) σ a w →
  (∀ β' a' w',Rel C N β' (fun k=>k<base+ops.size) σf a' w'→Q .normal a' w')→wpAny P .any ops Q n listed a w:=by
 have fin:∀ (listed:Array Bool) (σ:Kn) (β:Bs) (a:Act) (w:World),listed.size=ops.size→Eqv σ σf→Rel C N β (zoi base listed) σ a w→(∀ β' a' w',Rel C N β' (fun k=>k<base+ops.size) σf a' w'→Q .normal a' w')→Q .normal a w:=by
  intro listed σ β a w hsz he hr hQ
  refine hQ β a w ((hr.le he.symm.le).mono fun k hk=>?_)
  rcases hk with h | ⟨h1,h2⟩
  ·omega
  ·rcases Nat.lt_or_ge (k - base) listed.size with h3 | h3
   ·omega
   ·simp [Array.getElem?_eq_none h3] at h2
 intro n
 induction n with
 | zero =>
  intro listed σ β a w hsz h hr hQ
  exact ⟨h.1,fin listed σ β a w hsz h.2 hr hQ⟩
 | succ n ih =>
  intro listed σ β a w hsz h hr hQ
  refine ⟨fun h0=>fin listed σ β a w hsz (h.1 h0) hr hQ,fun i hi=>?_⟩
  obtain ⟨hun,o,ho,_⟩:=mem_ready.1 hi
  obtain ⟨hle,hrest⟩:=h.2 i hi o ho
  obtain ⟨hw,hd,hst⟩:=hE i o ho
  have hlt:i<listed.size:=by
   rcases Nat.lt_or_ge i listed.size with h3 | h3
   ·exact h3
   ·simp [Array.getElem?_eq_none h3] at hun
  have hun':listed.getD i false=false:=by simp [hlt] at hun ⊢;exact hun
  have hn:∀ k cs,(E i).2.nw=some (k,cs)→¬ zoi base listed k:=by
   intro k cs hk hin
   have:=hnew i k cs hk
   subst this
   rcases hin with h1 | ⟨_,h1⟩
   ·omega
   ·rw [Nat.add_sub_cancel_left,hun'] at h1;cases h1
  obtain ⟨hk,hcase⟩:=hst C N β _ a w (hr.le hle) hn
  have hext:∀ k,ext (zoi base listed) (E i).2.nw k→zoi base (listed.setIfInBounds i true) k:=by
   intro k hk'
   have old:zoi base listed k→zoi base (listed.setIfInBounds i true) k:=by
    rintro (h1 | ⟨h1,h2⟩)
    ·exact Or.inl h1
    ·refine Or.inr ⟨h1,?_⟩
     by_cases hki:i=k - base
     ·rw [← hki];simp [hlt]
     ·rw [getD_set_ne false hki];exact h2
   cases hnw:(E i).2.nw with
   | none=>rw [hnw] at hk';exact old hk'
   | some x =>
    obtain ⟨j,cs⟩:=x
    rw [hnw] at hk'
    rcases hk' with h1 | h1
    ·exact old h1
    ·have:=hnew i j cs hnw
     subst h1
     rw [this]
     exact Or.inr ⟨by omega,by rw [Nat.add_sub_cancel_left];simp [hlt]⟩
  have next:∀ β' a' w',Up (E i).2 β β' w w'→a'=a.put o.dst ((E i).2.v.g β')→wpAny P .any ops Q n (listed.setIfInBounds i true) a' w':=by
   intro β' a' w' hu ha
   subst ha
   exact ih _ _ β' _ w' (by simp [hsz]) hrest ((hr.upd hu hk (fun k cs hm=>by obtain ⟨c,hc⟩:=hw k cs hm;exact ⟨c,hle.h _ _ hc.1,hc.2⟩) hn hd).mono hext) hQ
  unfold wpOp
  simp only [ho]
  rcases hcase with ⟨hwant,hwp⟩ | ⟨hwant,he⟩
  ·rw [if_pos hwant]
   exact Or.inl (Oper.wp_mono' hwp (fun a' w' ⟨β',hu,ha⟩=>next β' a' w' hu ha) (fun _ _ _ h=>h.elim))
  ·rw [if_neg (by rw [hwant];exact Bool.false_ne_true)]
   refine next β _ w ?_ ?_
   ·rw [he];exact Up.pure _ _ _
   ·rw [he];rfl
structure Drw where
 σ:Kn
 E:List (Kn×Eff)
 ok:List Bool
 cr:List Ob
 hs:List Eff
 ds:List Bool
def zkq (P:Program) (N base:Nat) (rs:List Nat) (ops:Array Oper):Nat→List Oper→Kn→List Eff→List Bool→Option Drw
 | _,[],σ,hs,ds=>some ⟨σ,[],[],[],hs,ds⟩
 | i,o::l,σ,hs,ds=>match zp7 P N base rs ops i o (foot ops o σ) hs ds with
  | some r=>match zkq P N base rs ops (i+1) l (σ.upd o.dst r.e) r.hs r.ds with
   | some q=>some ⟨q.σ,(foot ops o σ,r.e)::q.E,r.ok::q.ok,r.cr++q.cr,q.hs,q.ds⟩
   | none=>none
  | none=>none
def lates (i:Nat):Nat→List Oper→List Nat→List Nat
 | _,[],acc=>acc
 | j,o::l,acc=>lates i (j+1) l (bif o.after.any (fun e=>Region.binds .any e&&(e.on==i||acc.contains e.on)) then j::acc else acc)
def yarl (ks:List Nat) (H:List (Nat×Ent)):Bool:=ks.all fun k=>(look H k).isNone
def zo7 (x y:Kn×Eff):Bool:=yarl (wkeys x.2) y.1.H&&yarl (wkeys y.2) x.1.H&&(wkeys x.2).all fun k=>!(wkeys y.2).contains k
def yabt (x:Kn×Eff) (T:List Nat):Nat→List (Kn×Eff)→Bool
 | _,[]=>true
 | j,y::E=>(T.contains j||zo7 x y)&&yabt x T (j+1) E
def zd7 (i:Nat):List Oper→List (Kn×Eff)→Bool
 | _::l,x::E=>yabt x (lates i (i+1) l []) (i+1) E&&zd7 (i+1) l E
 | [],[]=>true
 | _,_=>false
theorem zin {P:Program} {N base:Nat} {rs:List Nat} {ops:Array Oper}:∀ {l:List Oper} {i:Nat} {σ:Kn} {hs:List Eff} {ds:List Bool} {r:Drw},zkq P N base rs ops i l σ hs ds=some r→allB r.ok=true→(∀ q,q∈r.cr→ObOK P q) →
  r.E.length=l.length∧∀ m x,r.E[m]?=some x→∃ o σ',l[m]?=some o∧x.1=foot ops o σ'∧yaio P N ops o x.1 x.2∧∀ j cs,x.2.nw=some (j,cs)→j=base+(i+m)
 | [],i,σ,hs,ds,r,h,_,_=>by
  injection h with h;subst h
  exact ⟨rfl,fun m x hx=>by simp at hx⟩
 | o::l,i,σ,hs,ds,r,h,hok,hcr=>by
  simp only [zkq] at h
  split at h
  ·rename_i s hs'
   split at h
   ·rename_i q hq
    injection h with h;subst h
    simp only [allB,Bool.and_eq_true] at hok
    obtain ⟨i1,i2⟩:=zin hq hok.2 (fun c hc=>hcr c (by simp [hc]))
    refine ⟨by simp [i1],fun m x hx=>?_⟩
    cases m with
    | zero =>
     simp at hx
     subst hx
     exact ⟨o,σ,rfl,rfl,zk9 hs' hok.1 (fun c hc=>hcr c (by simp [hc])),fun j cs hn=>zpc hs' j cs hn⟩
    | succ m =>
     simp at hx
     obtain ⟨o',σ',h1,h2,h3,h4⟩:=i2 m x hx
     exact ⟨o',σ',by simpa using h1,h2,h3,fun j cs hn=>by rw [h4 j cs hn];omega⟩
   ·cases h
  ·cases h
theorem zps {ks:List Nat} {H:List (Nat×Ent)} (h:yarl ks H=true):∀ k,k∈ks→look H k=none:=by
 intro k hk
 have:=List.all_eq_true.1 h k hk
 simpa using this
theorem zwq {oi oj:Oper} {ops:Array Oper} {σi σj:Kn} {x y:Kn×Eff} (hx:x.1=foot ops oi σi) (hy:y.1=foot ops oj σj) (ht:oi.apart ops oj=true) (h:zo7 x y=true):Apart oi oj x.1 y.1 x.2 y.2:=by
 obtain ⟨h1,h2,h3⟩:=Oper.apart_spec ht
 simp only [zo7,Bool.and_eq_true] at h
 have none_of:∀ {o:Oper} {σ:Kn} {d:Nat},¬ d∈Oper.looksAt ops o→look (foot ops o σ).T d=none:=by
  intro o σ d hd
  cases hl:look (foot ops o σ).T d with
  | none=>rfl
  | some v=>exact absurd (zer hl).2 hd
 refine ⟨fun d hd=>by rw [hy];exact none_of (h1 d hd),fun d hd=>by rw [hx];exact none_of (h3 d hd),h2,fun k hk=>⟨zps h.1.1 k hk,?_⟩,zps h.1.2⟩
 have:=List.all_eq_true.1 h.2 k hk
 simpa using this
theorem zm0 {x:Kn×Eff} {T:List Nat}:∀ {E:List (Kn×Eff)} {j:Nat},yabt x T j E=true→∀ n y,E[n]?=some y→(T.contains (j+n)||zo7 x y)=true
 | [],_,_,n,y,h=>by simp at h
 | y0::E,j,h,n,y,hy=>by
  simp only [yabt,Bool.and_eq_true] at h
  cases n with
  | zero=>simp at hy;subst hy;exact h.1
  | succ n =>
   have:=zm0 h.2 n y (by simpa using hy)
   rwa [show j+1+n=j+(n+1) by omega] at this
theorem zgg:∀ {l:List Oper} {E:List (Kn×Eff)} {i:Nat},zd7 i l E=true→∀ m n x y,E[m]?=some x→E[n]?=some y→m<n→((lates (i+m) (i+m+1) (l.drop (m+1)) []).contains (i+n)||zo7 x y)=true
 | [],[],_,_,m,n,x,_,h,_,_=>by simp at h
 | [],_::_,_,h,_,_,_,_,_,_,_=>by simp [zd7] at h
 | _::_,[],_,h,_,_,_,_,_,_,_=>by simp [zd7] at h
 | o0::l,x0::E,i,h,m,n,x,y,hx,hy,hlt=>by
  simp only [zd7,Bool.and_eq_true] at h
  cases n with
  | zero=>omega
  | succ n =>
   simp only [List.getElem?_cons_succ] at hy
   cases m with
   | zero =>
    simp at hx
    subst hx
    have:=zm0 h.1 n y hy
    rwa [show i+1+n=i+(n+1) by omega] at this
   | succ m =>
    simp only [List.getElem?_cons_succ] at hx
    have:=zgg h.2 m n x y hx hy (by omega)
    rw [show i+1+m=i+(m+1) by omega,show i+1+n=i+(n+1) by omega] at this
    exact this
theorem zp3 {i:Nat}:∀ (l:List Oper) (j:Nat) (acc:List Nat) (k:Nat),k∈acc→k∈lates i j l acc
 | [],_,_,_,h=>h
 | o::l,j,acc,k,h=>by
  unfold lates
  apply zp3 l (j+1)
  cases o.after.any (fun e=>Region.binds .any e&&(e.on==i||acc.contains e.on)) with
  | true=>exact List.mem_cons_of_mem _ h
  | false=>exact h
theorem zkh {i:Nat}:∀ (l:List Oper) (j:Nat) (acc:List Nat) (k:Nat),k∈lates i j l acc→k∈acc∨(j≤k∧∃ o,l[k - j]?=some o∧∃ e∈o.after,Region.binds .any e=true∧(e.on=i∨e.on∈lates i j l acc))
 | [],_,_,_,h=>Or.inl h
 | o::l,j,acc,k,h=>by
  have h0:=h
  unfold lates at h
  cases hb:o.after.any (fun e=>Region.binds .any e&&(e.on==i||acc.contains e.on)) with
  | true =>
   rw [hb] at h
   have el:lates i j (o::l) acc=lates i (j+1) l (j::acc):=by rw [lates,hb];rfl
   rcases zkh l (j+1) (j::acc) k h with h1 | ⟨h1,o',h2,e,he,h3,h4⟩
   ·rcases List.mem_cons.1 h1 with h1 | h1
    ·right
     subst h1
     obtain ⟨e,he,h3⟩:=Array.any_eq_true'.1 hb
     simp only [Bool.and_eq_true,Bool.or_eq_true,beq_iff_eq] at h3
     refine ⟨Nat.le_refl _,o,by simp,e,he,h3.1,?_⟩
     rcases h3.2 with h4 | h4
     ·exact Or.inl h4
     ·right
      rw [el]
      exact zp3 _ _ _ _ (List.mem_cons_of_mem _ (by simpa using h4))
    ·exact Or.inl h1
   ·right
    refine ⟨by omega,o',?_,e,he,h3,?_⟩
    ·rw [show k - j=(k - (j+1))+1 by omega];simpa using h2
    ·rw [el];exact h4
  | false =>
   rw [hb] at h
   have el:lates i j (o::l) acc=lates i (j+1) l acc:=by rw [lates,hb];rfl
   rcases zkh l (j+1) acc k h with h1 | ⟨h1,o',h2,e,he,h3,h4⟩
   ·exact Or.inl h1
   ·right
    refine ⟨by omega,o',?_,e,he,h3,?_⟩
    ·rw [show k - j=(k - (j+1))+1 by omega];simpa using h2
    ·rw [el];exact h4
theorem zx9 {P:Program} {N base:Nat} {rs:List Nat} {ops:Array Oper} {E:Nat→Kn×Eff}
  (hF:∀ i o,ops[i]?=some o→∃ σ',(E i).1=foot ops o σ')
  (hA:∀ i j oi oj,ops[i]?=some oi→ops[j]?=some oj→i<j→((lates i (i+1) (ops.toList.drop (i+1)) []).contains j||zo7 (E i) (E j))=true) :
  ∀ (l:List Oper) (k:Nat) (listed:Array Bool) (σ:Kn) (hs:List Eff) (ds:List Bool) (r:Drw),(∀ j,l[j]?=ops[k+j]?)→Region.lexFrom .any ops l.length k listed=true →
  zkq P N base rs ops k l σ hs ds=some r→(∀ m x,r.E[m]?=some x→E (k+m)=x)→(∀ j,j<k→listed.getD j true=true)→(∀ j,k≤j→j<ops.size→listed.getD j true=false)→AAny ops E r.σ l.length listed σ
 | [],k,listed,σ,hs,ds,r,_,hB,h,_,_,_=>by
  injection h with h;subst h
  exact ⟨by simpa [Region.lexFrom] using hB,Eqv.refl _⟩
 | o::l,k,listed,σ,hs,ds,r,hl,hB,h,hE,hlow,hhigh=>by
  have h0:ops[k]?=some o:=by simpa using (hl 0).symm
  simp only [List.length_cons,Region.lexFrom,Bool.and_eq_true] at hB
  obtain ⟨⟨hr,hf⟩,hB'⟩:=hB
  simp only [zkq] at h
  split at h
  ·rename_i s hs'
   split at h
   ·rename_i q hq
    injection h with h;subst h
    have e0:=hE 0 _ rfl
    simp only [Nat.add_zero] at e0
    have ih:=zx9 hF hA l (k+1) (listed.setIfInBounds k true) _ _ _ q (fun j=>by have:=hl (j+1);simpa [Nat.add_assoc,Nat.add_comm 1 j] using this) hB' hq
     (fun m x hx=>by have:=hE (m+1) x (by simpa using hx);rwa [show k+(m+1)=k+1+m by omega] at this)
     (fun j hj=>by
      by_cases hjk:k=j
      ·subst hjk
       rcases Nat.lt_or_ge k listed.size with h3 | h3
       ·simp [h3]
       ·simp
      ·rw [getD_set_ne true hjk];exact hlow j (by omega))
     (fun j h1 h2=>by rw [getD_set_ne true (show k≠j by omega)];exact hhigh j (by omega) h2)
    have hsp:∀ j,j∈lates k (k+1) (ops.toList.drop (k+1)) []→k+1≤j∧∃ o',ops[j]?=some o'∧∃ e∈o'.after,Region.binds .any e=true∧(e.on=k∨e.on∈lates k (k+1) (ops.toList.drop (k+1)) []):=fun j hj=>by
     rcases zkh _ _ _ _ hj with h1 | ⟨h1,o',h2,h3⟩
     ·cases h1
     ·refine ⟨h1,o',?_,h3⟩
      rw [List.getElem?_drop,show k+1+(j - (k+1))=j by omega,Array.getElem?_toList] at h2
      exact h2
    refine AAny.first h0 (fun j=>j∈lates k (k+1) (ops.toList.drop (k+1)) []) (fun j oj hoj hj=>?_) l.length listed σ (fun j hj=>?_) (fun j oj hoj hjk hun hno hnT=>?_) (by simpa using hr) (by rw [e0];exact yarv ops o σ) (by rw [e0];exact ih)
    ·obtain ⟨_,o',h1,h2⟩:=hsp j hj
     rw [hoj] at h1
     injection h1 with h1
     subst h1
     exact h2
    ·obtain ⟨h1,o',h2,_⟩:=hsp j hj
     refine hhigh j (by omega) ?_
     rcases Nat.lt_or_ge j ops.size with h3 | h3
     ·exact h3
     ·simp [Array.getElem?_eq_none h3] at h2
    have hlt:k<j:=by
     rcases Nat.lt_or_ge k j with h3 | h3
     ·exact h3
     ·have:=hlow j (by omega);rw [hun] at this;cases this
    have ht:=Region.free_spec h0 hf j oj hoj hjk hun hno
    have hh:=hA k j o oj h0 hoj hlt
    rw [show (lates k (k+1) (ops.toList.drop (k+1)) []).contains j=false by simpa using hnT,Bool.false_or] at hh
    obtain ⟨σi,hσi⟩:=hF k o h0
    obtain ⟨σj,hσj⟩:=hF j oj hoj
    exact zwq hσi hσj ht hh
   ·cases h
  ·cases h
theorem yagt {P:Program} {N base id:Nat} {rs:List Nat} {ops:Array Oper} {σ:Kn} {hs:List Eff} {ds:List Bool} {r:Drw} {Q:Exit→Act→World→Prop} {C:Cx} {β:Bs} {a:Act} {w:World} (hm:P.follows .mixedOrders=true)
  (h:zkq P N base rs ops 0 ops.toList σ hs ds=some r) (hok:allB r.ok=true) (hcr:∀ q,q∈r.cr→ObOK P q) (hB:Region.lexB .any ops=true) (hA:zd7 0 ops.toList r.E=true) (hr:Rel C N β (fun k=>k<base) σ a w)
  (hQ:∀ β' a' w',Rel C N β' (fun k=>k<base+ops.size) r.σ a' w'→Q .normal a' w'):(Code.region id ops true).wp P Q a w:=by
 obtain ⟨hlen,hspec⟩:=zin h hok hcr
 have hsz:r.E.length=ops.size:=by simpa using hlen
 let E:Nat→Kn×Eff:=fun i=>r.E.getD i (σ,⟨zqh,[],none⟩)
 have hget:∀ i o,ops[i]?=some o→r.E[i]?=some (E i):=by
  intro i o ho
  have hi:i<ops.size:=by
   rcases Nat.lt_or_ge i ops.size with h3 | h3
   ·exact h3
   ·simp [Array.getElem?_eq_none h3] at ho
  simp only [E,List.getD_eq_getElem?_getD,List.getElem?_eq_getElem (show i<r.E.length by omega),Option.getD_some]
 have hlist:∀ i o,ops[i]?=some o→ops.toList[i]?=some o:=fun i o ho=>by rw [Array.getElem?_toList];exact ho
 have hE:∀ i o,ops[i]?=some o→(∃ σ',(E i).1=foot ops o σ')∧yaio P N ops o (E i).1 (E i).2∧∀ j cs,(E i).2.nw=some (j,cs)→j=base+i:=by
  intro i o ho
  obtain ⟨o',σ',h1,h2,h3,h4⟩:=hspec i _ (hget i o ho)
  rw [hlist i o ho] at h1
  injection h1 with h1
  subst h1
  exact ⟨⟨σ',h2⟩,h3,fun j cs hn=>by rw [h4 j cs hn];omega⟩
 simp only [Region.lexB,Bool.and_eq_true] at hB
 refine wp_region_any hm ?_
 have hr':Rel C N β (zoi base (Array.replicate ops.size false)) σ a { w with drawn:=w.drawn+1 }:=by
  have h1:=hr.mono (S':=zoi base (Array.replicate ops.size false)) fun k hk=>Or.inl hk
  exact ⟨h1.size,h1.defers,h1.tmp,fun k e he=>⟨(h1.blk k e he).1,⟨(h1.blk k e he).2.1.lt,(h1.blk k e he).2.1.cell,(h1.blk k e he).2.1.free,(h1.blk k e he).2.1.room⟩,(h1.blk k e he).2.2⟩,h1.inj,⟨h1.frame.os,h1.frame.tape,h1.frame.output,h1.frame.size,h1.frame.block⟩,h1.fix,⟨h1.gd.now.keep (Nat.le_refl _) (fun _ _=>rfl),h1.gd.x,h1.gd.size⟩⟩
 have hany:=zx9 (P:=P) (N:=N) (base:=base) (ops:=ops) (E:=E) (fun i o ho=>(hE i o ho).1)
  (fun i j oi oj hi hj hlt=>by
   have:=zgg hA i j _ _ (hget i oi hi) (hget j oj hj) hlt
   simp only [Nat.zero_add] at this
   exact this)
  ops.toList 0 (Array.replicate ops.size false) σ hs ds r (by simp) (by simpa using hB.2) h
  (fun m x hx=>by simp only [Nat.zero_add,E,List.getD_eq_getElem?_getD,hx,Option.getD_some]) (fun j hj=>by omega) (fun j _ hj=>by simp [hj])
 have hEn:∀ i j cs,(E i).2.nw=some (j,cs)→j=base+i:=by
  intro i j cs hn
  rcases Nat.lt_or_ge i ops.size with h3 | h3
  ·exact (hE i ops[i] (by simp [h3])).2.2 j cs hn
  ·simp only [E,List.getD_eq_getElem?_getD,List.getElem?_eq_none (show r.E.length≤i by omega),Option.getD_none] at hn
   cases hn
 have:=AAny.sound (P:=P) (Q:=Q) (C:=C) (fun i o ho=>(hE i o ho).2.1) hEn ops.toList.length (Array.replicate ops.size false) σ β a _ (by simp) hany hr' hQ
 simpa using this
def bf (f:FuncId):Frame:={ (default:Frame) with fn:=f,kind:=.normal }
def RT (P:Program) (f:FuncId) (todo:List Item) (a:Act) (w:World) (R:Ending→World→Prop):Prop :=
 ∀ cs,∃ e w' fr,R e w'∧Comes P (lone ((bf f).at a todo) cs w) (lone fr cs w') e∧fr.fn=f∧fr.leaving P w' e
section
variable {P:Program} {f:FuncId} {a:Act} {w:World} {R:Ending→World→Prop}
theorem RT.step {todo todo':List Item} {a':Act} {w':World} (hs:∀ cs,step P (lone ((bf f).at a todo) cs w)=.next (lone ((bf f).at a' todo') cs w')) (h:RT P f todo' a' w' R):RT P f todo a w R:=by
 intro cs
 obtain ⟨e,w'',fr,h1,h2,h3⟩:=h cs
 exact ⟨e,w'',fr,h1,.of_steps (.one (hs cs)) h2,h3⟩
theorem RT.skip {k:List Item} (h:RT P f k a w R):RT P f (.code .skip::k) a w R:=h.step fun _=>step_skip
theorem RT.seq {x y:Code} {k:List Item} (h:RT P f (.code x::.code y::k) a w R):RT P f (.code (.seq x y)::k) a w R:=h.step fun _=>step_seq
theorem RT.block {id:Nat} {c:Code} {k:List Item} (h:RT P f (.code c::.inBlock id::k) a w R):RT P f (.code (.block id c)::k) a w R:=h.step fun _=>step_block
theorem RT.inBlock {id:Nat} {k:List Item} (h:RT P f k a w R):RT P f (.inBlock id::k) a w R:=h.step fun _=>step_inBlock
theorem RT.loop {c:Code} {k:List Item} (h:RT P f (.code c::.inLoop c::k) a w R):RT P f (.code (.loop c)::k) a w R:=h.step fun _=>step_loop
theorem RT.inLoop {c:Code} {k:List Item} (h:RT P f (.code c::.inLoop c::k) a w R):RT P f (.inLoop c::k) a w R:=h.step fun _=>step_inLoop
theorem RT.exit {id:Nat} {k k':List Item} (hk:exitTo id k=some k') (h:RT P f k' a w R):RT P f (.code (.exit id)::k) a w R:=h.step fun _=>step_exit hk
theorem RT.cond {c:Operand} {x y:Code} {k:List Item} {t:Bool} (hc:a.eval c=.bool t) (h:RT P f (.code (if t then x else y)::k) a w R):RT P f (.code (.cond c x y)::k) a w R:=h.step fun _=>step_cond hc
theorem RT.region {id:Nat} {ops:Array Oper} {dr:Bool} {k:List Item} (h:(Code.region id ops dr).wp P (fun e a' w'=>e=.normal∧RT P f k a' w' R) a w):RT P f (.code (.region id ops dr)::k) a w R:=by
 intro cs
 obtain ⟨e,a',w',⟨he,hr⟩,harr⟩:=h (bf f) k cs
 subst he
 obtain ⟨e,w'',fr,h1,h2,h3⟩:=hr cs
 exact ⟨e,w'',fr,h1,.of_steps harr h2,h3⟩
theorem RT.ret {fn:Func} {k:List Item} {v:Value} (hf:P.funcs[f]?=some fn) (hd:a.defers=[]) (hv:(results fn a.tmps).run P w=.ok v w) (h:R (.returned v) w):RT P f (.code .ret::k) a w R :=
 fun _=>⟨.returned v,w,_,h,.one step_ret,rfl,rfl,hd,rfl,fn,hf,hv⟩
theorem RT.fin {fn:Func} {v:Value} (hf:P.funcs[f]?=some fn) (hd:a.defers=[]) (hv:(results fn a.tmps).run P w=.ok v w) (h:R (.returned v) w):RT P f [] a w R :=
 fun _=>⟨.returned v,w,_,h,.one step_end,rfl,rfl,hd,rfl,fn,hf,hv⟩
theorem zxq {fn:Func} {c:Code} {args:Array Value} (hf:P.funcs[f]?=some fn) (hb:fn.body=some c) (h:RT P f [.code c] { tmps:=args++Array.replicate (fn.ntmps - args.size) undef,defers:=[] } w R):Calls P f args w R:=by
 have henter:Frame.enter P f args .normal=(bf f).at { tmps:=args++Array.replicate (fn.ntmps - args.size) undef,defers:=[] } [.code c]:=by
  simp [Frame.enter,Frame.at,hf,hb,bf]
 intro cs
 rw [henter]
 exact h cs
end
def AV.flat:AV→Option AT
 | (Sum.inl x)=>some (.c x)
 | (Sum.inr (Sum.inl l))=>some (.ag l)
 | _=>none
def AT.up:AT→AV
 | (Sum.inl x)=>.c x
 | (Sum.inr l)=>.ag l
def eRes (P:Program) (σ:Kn):List ResultVar→Option (List AT×Bool)
 | []=>some ([],true)
 | .tmp t::r=>match look σ.T t,eRes P σ r with
  | some v,some (l,ok)=>match AV.flat v with
   | some u=>some (u::l,ok)
   | none=>none
  | _,_=>none
 | .cell t T::r=>match look σ.T t with
  | some a=>match yaff P T σ a,eRes P σ r with
   | some (v,ok),some (l,ok')=>match AV.flat v with
    | some u=>some (u::l,ok&&ok')
    | none=>none
   | _,_=>none
  | none=>none
def resV:List AT→AV
 | [v]=>v.up
 | l=>.tu l
theorem yabs {v:AV} {u:AT} (h:AV.flat v=some u) (β:Bs):v.g β=u.g β∧v.ks=u.ks:=by
 cases v using AV.tells with
 | c x=>injection h with h;subst h;exact ⟨rfl,rfl⟩
 | ag x=>injection h with h;subst h;exact ⟨rfl,rfl⟩
 | tu _=>cases h
 | raw _=>cases h
theorem up_g (u:AT) (β:Bs):u.up.g β=u.g β∧u.up.ks=u.ks:=by
 cases u using AT.tells <;> exact ⟨rfl,rfl⟩
theorem yama {P:Program} {T:TypeId} {σ:Kn} {x v:AV} {ok:Bool} (h:yaff P T σ x=some (v,ok)) (hok:ok=true) {C:Cx} {N:Nat} {β:Bs} {S:Nat→Prop} {a:Act} {w:World} (hr:Rel C N β S σ a w) :
  ∃ A,x.g β=.pointer (some A)∧(loadVar T A).run P w=.ok (v.g β) w∧∀ j,j∈v.ks→S j:=by
 unfold yaff at h
 split at h
 ·split at h
  ·rename_i k e hl
   obtain ⟨_,hb,hk,_⟩:=hr.blk _ e hl
   obtain ⟨g1,g2⟩:=zl8 h hok hb
   exact ⟨_,rfl,g1,fun j hj=>by obtain ⟨c,hc,hj⟩:=g2 j hj;exact hk c hc j hj⟩
  ·cases h
 ·split at h
  ·rename_i k o e hl
   obtain ⟨_,hb,hk,_⟩:=hr.blk _ e hl
   obtain ⟨g1,g2⟩:=zpn h hok hb
   exact ⟨_,rfl,g1,fun j hj=>by obtain ⟨c,hc,hj⟩:=g2 j hj;exact hk c hc j hj⟩
  ·cases h
 ·cases h
theorem zsj {P:Program} {σ:Kn} {C:Cx} {N:Nat} {β:Bs} {S:Nat→Prop} {a:Act} {w:World} (hr:Rel C N β S σ a w):∀ {rs:List ResultVar} {l:List AT} {ok:Bool},eRes P σ rs=some (l,ok)→ok=true →
  (rs.mapM (fun x=>match x with
   | ResultVar.tmp t=>pure (a.tmps.getD t undef)
   | ResultVar.cell x t=>do let __do_lift ← asAddr (a.tmps.getD x undef);loadVar t __do_lift:ResultVar→Sem Value)).run P w=.ok (l.map (AT.g β)) w∧(∀ v:AT,v∈l→∀ k,k∈v.ks→S k)
 | [],l,ok,h,_=>by
  simp only [eRes,Option.some.injEq,Prod.mk.injEq] at h
  obtain ⟨rfl,_⟩:=h
  exact ⟨by simp,fun _ h=>nomatch h⟩
 | .tmp t::rs,l,ok,h,hok=>by
  simp only [eRes] at h
  split at h
  ·rename_i v l' ok' hv hl
   split at h
   ·rename_i u hfl
    simp only [Option.some.injEq,Prod.mk.injEq] at h
    obtain ⟨rfl,rfl⟩:=h
    obtain ⟨i1,i2⟩:=zsj hr hl hok
    obtain ⟨t1,t2⟩:=hr.tmp t v hv
    refine ⟨?_,fun x hx=>?_⟩
    ·have hg:a.tmps.getD t undef=u.g β:=by rw [Array.getD_eq_getD_getElem?,t1,(yabs hfl β).1];rfl
     simp only [List.mapM_cons,Sem.run_bind,hg,Sem.run_pure,Result.andThen_ok,i1,List.map_cons]
    ·rcases List.mem_cons.1 hx with h | h
     ·rw [h,← (yabs hfl β).2];exact t2
     ·exact i2 x h
   ·cases h
  ·cases h
 | .cell t T::rs,l,ok,h,hok=>by
  simp only [eRes] at h
  split at h
  ·rename_i x hx
   split at h
   ·rename_i v ok1 l' ok2 hv hl
    split at h
    ·rename_i u hfl
     simp only [Option.some.injEq,Prod.mk.injEq] at h
     obtain ⟨rfl,rfl⟩:=h
     rw [Bool.and_eq_true] at hok
     obtain ⟨i1,i2⟩:=zsj hr hl hok.2
     obtain ⟨A,g1,g2,g3⟩:=yama hv hok.1 hr
     obtain ⟨t1,_⟩:=hr.tmp t x hx
     refine ⟨?_,fun y hy=>?_⟩
     ·have hA:(asAddr (a.tmps.getD t undef)).run P w=.ok A w:=by rw [Array.getD_eq_getD_getElem?,t1,g1];rfl
      simp only [List.mapM_cons,Sem.run_bind,hA,Sem.run_pure,Result.andThen_ok,g2,i1,List.map_cons,(yabs hfl β).1]
     ·rcases List.mem_cons.1 hy with h | h
      ·rw [h,← (yabs hfl β).2];exact g3
      ·exact i2 y h
    ·cases h
   ·cases h
  ·cases h
theorem zyc {P:Program} {fn:Func} {σ:Kn} {C:Cx} {N:Nat} {β:Bs} {S:Nat→Prop} {a:Act} {w:World} (hr:Rel C N β S σ a w) {l:List AT} {ok:Bool} (h:eRes P σ fn.results.toList=some (l,ok)) (hok:ok=true) :
  (results fn a.tmps).run P w=.ok ((resV l).g β) w∧∀ k,k∈(resV l).ks→S k:=by
 obtain ⟨h1,h2⟩:=zsj hr h hok
 have hm:(Array.mapM (fun x=>match x with
   | ResultVar.tmp t=>pure (a.tmps.getD t undef)
   | ResultVar.cell x t=>do let __do_lift ← asAddr (a.tmps.getD x undef);loadVar t __do_lift:ResultVar→Sem Value) fn.results).run P w=.ok (l.map (AT.g β)).toArray w:=by
  rw [Array.mapM_eq_mapM_toList,Sem.run_map,h1];rfl
 have h3:(results fn a.tmps).run P w=.ok (if h:(l.map (AT.g β)).toArray.size=1 then (l.map (AT.g β)).toArray[0] else .tuple (l.map (AT.g β)).toArray) w:=by
  unfold results
  rw [Sem.run_bind]
  refine (congrArg (fun r=>Result.andThen r _) hm).trans ?_
  rfl
 clear hm h1 h
 rcases l with _ | ⟨v,_ | ⟨u,r⟩⟩
 ·exact ⟨h3,fun k hk=>nomatch hk⟩
 ·refine ⟨?_,fun k hk=>h2 v (by simp) k (by rw [← (up_g v β).2];exact hk)⟩
  rw [h3]
  simp only [resV,(up_g v β).1]
  rfl
 ·refine ⟨?_,fun k hk=>?_⟩
  ·rw [h3,dif_neg (by simp)];rfl
  ·obtain ⟨x,hx,hk⟩:=List.mem_flatMap.1 hk
   exact h2 x hx k hk
abbrev Out:=Sum (AV×Kn) (List Item×Kn)
abbrev Out.ret (v:AV) (σ:Kn):Out:=(Sum.inl (v,σ))
abbrev Out.cut (todo:List Item) (σ:Kn):Out:=(Sum.inr (todo,σ))
structure Run where
 out:Out
 ok:List Bool
 cr:List Ob
def Run.and (r:Run) (ok:List Bool) (cr:List Ob):Run:=⟨r.out,ok++r.ok,cr++r.cr⟩
def eRet (P:Program) (fn:Func) (σ:Kn) (hs:List Eff) (ds:List Bool):Option Run :=
 match hs,ds,eRes P σ fn.results.toList with
 | [],[],some (l,ok)=>some ⟨.ret (resV l) σ,[ok],[]⟩
 | _,_,_=>none
def rwOf (id:Nat):List (Nat×Nat)→List Nat
 | []=>[]
 | x::l=>bif Nat.beq x.1 id then x.2::rwOf id l else rwOf id l
def zmn (P:Program) (N:Nat) (rs:List Nat) (ops:Array Oper) (dr:Bool) (σ:Kn) (hs:List Eff) (ds:List Bool):Option Seq :=
 match dr with
 | false=>match yaca P N σ.n rs ops 0 ops.toList σ hs ds with
  | some r=>some { r with σ:={ r.σ with n:=σ.n+ops.size } }
  | none=>none
 | true=>match zkq P N σ.n rs ops 0 ops.toList σ hs ds with
  | some r=>bif Region.lexB .any ops&&zd7 0 ops.toList r.E&&P.follows .mixedOrders then some ⟨{ r.σ with n:=σ.n+ops.size },r.ok,r.cr,r.hs,r.ds⟩ else none
  | none=>none
def runT (P:Program) (fn:Func) (N:Nat) (rw:List (Nat×Nat)):Nat→List Item→Kn→List Eff→List Bool→List Bool→Option Run
 | 0,_,_,_,_,_=>none
 | m+1,todo,σ,hs,ds,st =>
  match todo with
  | []=>eRet P fn σ hs ds
  | .inBlock _::k=>runT P fn N rw m k σ hs ds st
  | .inLoop c::k=>match st with
   | true::_=>match hs,ds with
    | [],[]=>some ⟨.cut (.code c::.inLoop c::k) σ,[],[]⟩
    | _,_=>none
   | false::st=>runT P fn N rw m (.code c::.inLoop c::k) σ hs ds st
   | []=>none
  | .code c::k=>match c with
   | .skip=>runT P fn N rw m k σ hs ds st
   | .seq x y=>runT P fn N rw m (.code x::.code y::k) σ hs ds st
   | .block id c=>runT P fn N rw m (.code c::.inBlock id::k) σ hs ds st
   | .loop c=>match st with
    | true::_=>match hs,ds with
     | [],[]=>some ⟨.cut (.code c::.inLoop c::k) σ,[],[]⟩
     | _,_=>none
    | false::st=>runT P fn N rw m (.code c::.inLoop c::k) σ hs ds st
    | []=>none
   | .exit id=>match exitTo id k with
    | some k'=>runT P fn N rw m k' σ hs ds st
    | none=>none
   | .cond t x y=>match σ.ev t,ds with
    | some (Sum.inl (Sum.inr (Sum.inl (Sum.inl b)))),d::ds=>match runT P fn N rw m (.code (bif d then x else y)::k) σ hs ds st with
     | some r=>some (r.and [same b d] [])
     | none=>none
    | _,_=>none
   | .region id ops dr=>match zmn P N (rwOf id rw) ops dr σ hs ds with
    | some q=>match runT P fn N rw m k q.σ q.hs q.ds st with
     | some r=>some (r.and q.ok q.cr)
     | none=>none
    | none=>none
   | .ret=>eRet P fn σ hs ds
   | _=>none
  | _=>none
def ART (P:Program) (f:FuncId) (C:Cx) (N:Nat) (todo:List Item) (σ:Kn) (R:Ending→World→Prop):Prop :=
 ∀ β a w,Rel C N β (fun k=>k < σ.n) σ a w→RT P f todo a w R
def AEnd (C:Cx) (N:Nat) (v:AV) (σ:Kn) (R:Ending→World→Prop):Prop :=
 ∀ β a w,Rel C N β (fun k=>k < σ.n) σ a w→(∀ k,k∈v.ks→k < σ.n)→R (.returned (v.g β)) w
def Run.next (P:Program) (f:FuncId) (C:Cx) (N:Nat) (R:Ending→World→Prop):Out→Prop
 | (Sum.inl (v,σ))=>AEnd C N v σ R
 | (Sum.inr (todo,σ))=>ART P f C N todo σ R
theorem Rel.setn {C:Cx} {N:Nat} {β:Bs} {S:Nat→Prop} {σ:Kn} {a:Act} {w:World} (h:Rel C N β S σ a w) (n:Nat):Rel C N β S { σ with n:=n } a w :=
 ⟨h.size,h.defers,h.tmp,h.blk,h.inj,h.frame,h.fix,h.gd⟩
theorem zrt {P:Program} {N id:Nat} {rs:List Nat} {ops:Array Oper} {dr:Bool} {σ:Kn} {hs:List Eff} {ds:List Bool} {q:Seq} (h:zmn P N rs ops dr σ hs ds=some q) (hok:allB q.ok=true) (hcr:∀ c,c∈q.cr→ObOK P c)
  {C:Cx} {β:Bs} {a:Act} {w:World} {Q:Exit→Act→World→Prop} (hr:Rel C N β (fun k=>k < σ.n) σ a w) (hQ:∀ β' a' w',Rel C N β' (fun k=>k<q.σ.n) q.σ a' w'→Q .normal a' w'):(Code.region id ops dr).wp P Q a w:=by
 unfold zmn at h
 cases dr with
 | false =>
  simp only at h
  split at h
  ·rename_i r hrr
   injection h with h;subst h
   refine wp_region ?_
   have:=zgt (P:=P) (N:=N) (base:=σ.n) (rs:=rs) (ops:=ops) (Q:=Q) ops.toList 0 σ hs ds r β a w (by simp) hrr hok hcr (by simpa using hr)
    (fun β' a' w' hr'=>hQ β' a' w' (by simpa using hr'.setn (σ.n+ops.size)))
   simpa [List.range_eq_range'] using this
  ·cases h
 | true =>
  simp only at h
  split at h
  ·rename_i r hrr
   cases hc:(Region.lexB .any ops&&zd7 0 ops.toList r.E&&P.follows .mixedOrders) with
   | false=>rw [hc] at h;cases h
   | true =>
    rw [hc] at h
    simp only [cond_true,Option.some.injEq] at h
    subst h
    simp only [Bool.and_eq_true] at hc
    exact yagt hc.2 hrr hok hcr hc.1.1 hc.1.2 hr (fun β' a' w' hr'=>hQ β' a' w' (hr'.setn _))
  ·cases h
theorem zp6 {P:Program} {f:FuncId} {fn:Func} {N:Nat} {σ:Kn} {hs:List Eff} {ds:List Bool} {r:Run} {R:Ending→World→Prop} (h:eRet P fn σ hs ds=some r) (hok:allB r.ok=true) {C:Cx} (hn:Run.next P f C N R r.out)
  {β:Bs} {a:Act} {w:World} (hr:Rel C N β (fun k=>k < σ.n) σ a w):∃ v,(results fn a.tmps).run P w=.ok v w∧R (.returned v) w:=by
 unfold eRet at h
 split at h
 ·rename_i l ok he
  injection h with h;subst h
  obtain ⟨h1,h2⟩:=zyc hr he (by simpa [allB] using hok)
  exact ⟨_,h1,hn β a w hr h2⟩
 ·cases h
theorem zcm {P:Program} {f:FuncId} {fn:Func} {N:Nat} {rw:List (Nat×Nat)} (hf:P.funcs[f]?=some fn) {C:Cx} {R:Ending→World→Prop}:∀ (m:Nat) (todo:List Item) (σ:Kn) (hs:List Eff) (ds st:List Bool) (r:Run),
  runT P fn N rw m todo σ hs ds st=some r→allB r.ok=true→(∀ c,c∈r.cr→ObOK P c)→Run.next P f C N R r.out→ART P f C N todo σ R
 | 0,_,_,_,_,_,_,h,_,_,_=>by cases h
 | m+1,todo,σ,hs,ds,st,r,h,hok,hcr,hn=>by
  intro β a w hr
  have cutc:∀ {c k},(match st with
    | true::_=>match hs,ds with
     | [],[]=>some ⟨.cut (.code c::.inLoop c::k) σ,[],[]⟩
     | _,_=>none
    | false::st=>runT P fn N rw m (.code c::.inLoop c::k) σ hs ds st
    | []=>none)=some r→RT P f (.code c::.inLoop c::k) a w R:=by
   intro c k h
   split at h
   ·split at h
    ·injection h with h;subst h;exact hn β a w hr
    ·cases h
   ·exact zcm hf m _ σ hs ds _ r h hok hcr hn β a w hr
   ·cases h
  unfold runT at h
  split at h
  ·obtain ⟨v,h1,h2⟩:=zp6 h hok hn hr
   exact RT.fin hf hr.defers h1 h2
  ·exact RT.inBlock (zcm hf m _ σ hs ds st r h hok hcr hn β a w hr)
  ·exact RT.inLoop (cutc h)
  ·split at h
   ·exact RT.skip (zcm hf m _ σ hs ds st r h hok hcr hn β a w hr)
   ·exact RT.seq (zcm hf m _ σ hs ds st r h hok hcr hn β a w hr)
   ·exact RT.block (zcm hf m _ σ hs ds st r h hok hcr hn β a w hr)
   ·exact RT.loop (cutc h)
   ·split at h
    ·rename_i k' hk'
     exact RT.exit hk' (zcm hf m _ σ hs ds st r h hok hcr hn β a w hr)
    ·cases h
   ·split at h
    ·rename_i x d ds' hx
     split at h
     ·rename_i q hq
      injection h with h;subst h
      simp only [Run.and,List.cons_append,List.nil_append,allB,Bool.and_eq_true,zr9] at hok
      have hx':a.eval _=.bool x:=(hr.ev hx).1
      refine RT.cond hx' ?_
      have:=zcm hf m _ σ hs ds' st q hq hok.2 (fun c hc=>hcr c (by simp [Run.and,hc])) hn β a w hr
      rw [← hok.1] at this
      cases x <;> exact this
     ·cases h
    ·cases h
   ·split at h
    ·rename_i q hq
     split at h
     ·rename_i r' hr'
      injection h with h;subst h
      simp only [Run.and,ziq,Bool.and_eq_true] at hok
      refine RT.region (zrt hq hok.1 (fun c hc=>hcr c (by simp [Run.and,hc])) hr fun β' a' w' h'=>⟨rfl,?_⟩)
      exact zcm hf m _ q.σ q.hs q.ds st r' hr' hok.2 (fun c hc=>hcr c (by simp [Run.and,hc])) hn β' a' w' h'
     ·cases h
    ·cases h
   ·obtain ⟨v,h1,h2⟩:=zp6 h hok hn hr
    exact RT.ret hf hr.defers h1 h2
   ·cases h
  ·cases h
def yak9:Nat→List AV→List (Nat×AV)
 | _,[]=>[]
 | i,v::l=>(i,v)::yak9 (i+1) l
theorem zo2:∀ {l:List AV} {i t:Nat} {v:AV},look (yak9 i l) t=some v→i≤t∧l[t - i]?=some v
 | [],_,_,_,h=>by simp [yak9,look] at h
 | u::l,i,t,v,h=>by
  simp only [yak9,zav] at h
  split at h
  ·rename_i ht;subst ht;injection h with h;subst h;exact ⟨Nat.le_refl _,by simp⟩
  ·obtain ⟨h1,h2⟩:=zo2 h
   refine ⟨by omega,?_⟩
   rw [show t - i=(t - (i+1))+1 by omega,List.getElem?_cons_succ]
   exact h2
def zdn (fn:Func):Code:=match fn.body with | some c=>c | none=>.skip
def Kn.start (args:List AV) (H:List (Nat×Ent)) (n:Nat):Kn:=⟨yak9 0 args,H,n⟩
structure Begin (args:List AV) (H:List (Nat×Ent)) (n:Nat):Prop where
 args:∀ v,v∈args→∀ k,k∈v.ks→k<n
 H:∀ k e,look H k=some e→k<n∧∀ c,c∈e.cells→∀ j,j∈c.ks→j<n
theorem zta {N:Nat} {args:List AV} {H:List (Nat×Ent)} {n:Nat} (hb:Begin args H n) (hN:args.length≤N) {β:Bs} {w:World} (hB:∀ k e,look H k=some e→Blk β w k e)
  (hI:∀ k e k' e',look H k=some e→look H k'=some e'→k≠k'→e.wr=true→e.cells≠[]→e'.cells≠[]→(β k).1≠(β k').1) (X:Nat→Prop) (hX:∀ k e,look H k=some e→e.wr=true→X (β k).1) (hg:Gw w) (hx:∀ b,X b→ng≤b) :
  Rel ⟨w,X,β,fun k=>k<n⟩ N β (fun k=>k<n) (Kn.start args H n) { tmps:=(args.map (AV.g β)).toArray++Array.replicate (N - (args.map (AV.g β)).toArray.size) undef,defers:=[] } w:=by
 refine ⟨by simp;omega,rfl,fun t v hl=>?_,fun k e hl=>⟨(hb.H k e hl).1,hB k e hl,(hb.H k e hl).2,fun hw=>Or.inr (hX k e hl hw)⟩,hI,Fr.refl _ _,fun k hk=>⟨hk,rfl⟩,hg,hx,hg.size⟩
 obtain ⟨_,h2⟩:=zo2 hl
 simp only [Nat.sub_zero] at h2
 refine ⟨?_,hb.args v (List.mem_of_getElem? h2)⟩
 have hlt:t<args.length:=by
  rcases Nat.lt_or_ge t args.length with h | h
  ·exact h
  ·rw [List.getElem?_eq_none h] at h2;cases h2
 rw [Array.getElem?_append_left (by simpa using hlt)]
 simp [h2]
def cx (w:World) (β:Bs) (n:Nat) (ws:List Nat):Cx:=⟨w,fun B=>(∃ k,k∈ws∧B=(β k).1)∧ng≤B,β,fun k=>k<n⟩
def REff (w:World) (β:Bs) (e:Eff) (en:Ending) (w':World):Prop:=∃ β',en=.returned (e.v.g β')∧Up e β β' w w'
def wrOf (σ:Kn):List Nat→Option (List (Nat×List AC))
 | []=>some []
 | k::l=>match look σ.H k,wrOf σ l with
  | some e,some r=>bif e.wr then some ((k,e.cells)::r) else none
  | _,_=>none
def nwOf (σ:Kn):Option Nat→Option (Option (Nat×Ent))
 | none=>some none
 | some k=>match look σ.H k with
  | some e=>bif e.wr then some (some (k,e)) else none
  | none=>none
def yaga (ws:List Nat) (nk:Option Nat):Option Run→Option (Eff×Bool×List Ob)
 | some ⟨(Sum.inl (v,σ)),ok,cr⟩=>match wrOf σ ws,nwOf σ nk with
  | some wr,some nw=>some (⟨v,wr,nw⟩,allB ok,cr)
  | _,_=>none
 | _=>none
theorem zt8 {σ:Kn}:∀ {ws:List Nat} {wr:List (Nat×List AC)},wrOf σ ws=some wr→(∀ k cs,(k,cs)∈wr→k∈ws∧∃ e,look σ.H k=some e∧e.wr=true∧e.cells=cs)∧∀ k,k∈ws→∃ cs,(k,cs)∈wr
 | [],wr,h=>by injection h with h;subst h;exact ⟨fun _ _ h=>(nomatch h),fun _ h=>(nomatch h)⟩
 | k::l,wr,h=>by
  unfold wrOf at h
  split at h
  ·rename_i e r he hr
   cases hw:e.wr with
   | false=>rw [hw] at h;cases h
   | true =>
    rw [hw] at h
    simp only [cond_true,Option.some.injEq] at h
    subst h
    obtain ⟨i1,i2⟩:=zt8 hr
    refine ⟨fun k' cs hm=>?_,fun k' hk=>?_⟩
    ·rcases List.mem_cons.1 hm with h1 | h1
     ·injection h1 with h1 h2;subst h1 h2;exact ⟨by simp,e,he,hw,rfl⟩
     ·obtain ⟨j1,j2⟩:=i1 k' cs h1;exact ⟨by simp [j1],j2⟩
    ·rcases List.mem_cons.1 hk with h1 | h1
     ·subst h1;exact ⟨e.cells,by simp⟩
     ·obtain ⟨cs,hcs⟩:=i2 k' h1;exact ⟨cs,by simp [hcs]⟩
  ·cases h
structure EKeys (n:Nat) (ws:List Nat) (nk:Option Nat) (e:Eff):Prop where
 v:∀ k,k∈e.v.ks→k<n∨nk=some k
 wr:∀ k cs,(k,cs)∈e.wr→cs.flatMap AC.ks=[]
 nw:∀ k en,e.nw=some (k,en)→en.cells.flatMap AC.ks=[]
 low:∀ k,k∈ws→k<n
 new:∀ k,nk=some k→n≤k∧ws=[]
theorem zeu {l:List AC} (h:l.flatMap AC.ks=[]) {c:AC} (hc:c∈l) {j:Nat} (hj:j∈c.ks):False:=by
 have:=zdy hc hj
 rw [h] at this
 cases this
theorem yatr {w:World} {β:Bs} {n N:Nat} {ws:List Nat} {nk:Option Nat} {v:AV} {σ:Kn} {wr:List (Nat×List AC)} {nw:Option (Nat×Ent)} (hw:wrOf σ ws=some wr) (hn:nwOf σ nk=some nw) (hk:EKeys n ws nk ⟨v,wr,nw⟩):AEnd (cx w β n ws) N v σ (REff w β ⟨v,wr,nw⟩):=by
 intro β' a w' hr _
 obtain ⟨w1,w2⟩:=zt8 hw
 have hfix:∀ k,k<n→β' k=β k:=fun k h=>(hr.fix k h).2
 have hframe:Fr (fun B=>∃ k cs,(k,cs)∈wr∧B=(β k).1) w w':=hr.frame.mono fun B hB=>by
  obtain ⟨⟨k,hk,hB⟩,_⟩:=hB
  obtain ⟨cs,hcs⟩:=w2 k hk
  exact ⟨k,cs,hcs,hB⟩
 have hblk:∀ β'':Bs,∀ k en t r,look σ.H k=some en→β'' k=β' k→(en.cells.flatMap AC.ks=[])→(t=true→en.wr=true)→(r=0∨r=en.room)→Blk β'' w' k ⟨t,en.cells,r⟩:=by
  intro β'' k en t r hl hb hks ht hrm
  have hB:=(hr.blk k en hl).2.1
  have h1:Blk β'' w' k en:=hB.congr hb (Nat.le_refl _) rfl fun c hc j hj=>(zeu hks hc hj).elim
  refine ⟨h1.lt,h1.cell,fun h=>h1.free (ht h),fun h0 hne=>?_⟩
  rcases hrm with h | h
  ·exact absurd h h0
  ·simp only at h0 ⊢
   rw [h] at h0 ⊢
   exact h1.room h0 hne
 cases nk with
 | none =>
  injection hn with hn;subst hn
  refine ⟨β,?_,hframe,fun k cs hm=>?_,rfl⟩
  ·rw [v.g_congr fun k hkv=>hfix k ((hk.v k hkv).resolve_right (by simp))]
  ·obtain ⟨hws,en,hl,ht,rfl⟩:=w1 k cs hm
   exact hblk β k en true 0 hl (hfix k (hk.low k hws)).symm (hk.wr k _ hm) (fun _=>ht) (Or.inl rfl)
 | some kk =>
  unfold nwOf at hn
  simp only at hn
  split at hn
  ·rename_i en hl
   cases hwr:en.wr with
   | false=>rw [hwr] at hn;cases hn
   | true =>
    rw [hwr] at hn
    simp only [cond_true,Option.some.injEq] at hn
    subst hn
    obtain ⟨hkn,hws⟩:=hk.new kk rfl
    subst hws
    injection hw with hw;subst hw
    have hbk:bset β kk (β' kk) kk=β' kk:=by simp [bset]
    have hb:∀ k,k<n→bset β kk (β' kk) k=β' k:=fun k h=>by unfold bset;rw [if_neg (by omega),hfix k h]
    refine ⟨bset β kk (β' kk),?_,hframe,fun _ _ hm=>(nomatch hm),?_⟩
    ·rw [v.g_congr fun k hkv=>?_]
     rcases hk.v k hkv with h | h
     ·exact (hb k h).symm
     ·injection h with h;subst h;exact hbk.symm
    ·refine ⟨(β' kk).1,(β' kk).2.1,(β' kk).2.2,Or.inl ?_,(hr.blk kk en hl).2.1.lt,rfl,?_⟩
     ·rcases (hr.blk kk en hl).2.2.2 hwr with h | ⟨⟨k,h,_⟩,_⟩
      ·exact h
      ·cases h
     ·have:=hblk (bset β kk (β' kk)) kk en en.wr en.room hl hbk (hk.nw kk en rfl) id (Or.inr rfl)
      exact this
  ·cases hn
theorem yaed {ws:List Nat} {nk:Option Nat} {r:Option Run} {e:Eff} {ok:Bool} {cr:List Ob} (h:yaga ws nk r=some (e,ok,cr)):∃ σ oks,r=some ⟨.ret e.v σ,oks,cr⟩∧allB oks=ok∧wrOf σ ws=some e.wr∧nwOf σ nk=some e.nw:=by
 unfold yaga at h
 split at h
 ·rename_i v' σ ok' cr'
  split at h
  ·rename_i wr nw h1 h2
   simp only [Option.some.injEq,Prod.mk.injEq] at h
   obtain ⟨rfl,rfl,rfl⟩:=h
   exact ⟨σ,_,rfl,rfl,h1,h2⟩
  ·cases h
 ·cases h
theorem zym {P:Program} {f:FuncId} {fn:Func} {N:Nat} {w:World} {β:Bs} {n:Nat} {todo:List Item} {σ:Kn} {ok:Bool} {cr:List Ob} {e:Eff} (ws:List Nat) (nk:Option Nat) (m:Nat) (hs:List Eff) (ds st:List Bool) (rw:List (Nat×Nat)) (hf:P.funcs[f]?=some fn) (hk:EKeys n ws nk e)
  (h:yaga ws nk (runT P fn N rw m todo σ hs ds st)=some (e,ok,cr)) (hok:ok=true) (hcr:∀ c,c∈cr→ObOK P c):ART P f (cx w β n ws) N todo σ (REff w β e):=by
 obtain ⟨σ1,oks,h1,ho,h2,h3⟩:=yaed h
 exact zcm hf m todo σ hs ds st _ h1 (ho.trans hok) hcr (yatr h2 h3 hk)
theorem zns {P:Program} {f:FuncId} {fn:Func} {args:List AV} {H:List (Nat×Ent)} {n:Nat} {e:Eff} (ws:List Nat) (nk:Option Nat) (hf:P.funcs[f]?=some fn) (hb:fn.body.isSome=true) (hN:Nat.ble args.length fn.ntmps=true) (hB:Begin args H n)
  (hv:∀ k,k∈e.v.ks→(∃ en,look H k=some en)∨nk=some k) (_hnk:∀ k en,e.nw=some (k,en)→nk=some k) (hnn:∀ k,nk=some k→∃ en,e.nw=some (k,en)) (hk:EKeys n ws nk e) (hw:WrOk e H) (hro:∀ k en,look H k=some en→en.wr=true→k∈ws)
  (h:∀ w β,(∀ k e,look H k=some e→Blk β w k e)→ART P f (cx w β n ws) fn.ntmps [.code (zdn fn)] (Kn.start args H n) (REff w β e)):CallOK P ⟨f,args,H,e⟩:=by
 refine ⟨⟨fun k hkv=>?_,fun k cs hm c hc j hj=>(zeu (hk.wr k cs hm) hc hj).elim,fun k en hm c hc j hj=>(zeu (hk.nw k en hm) hc hj).elim⟩,hw,fun β w hgw hgx hBl hI=>?_⟩
 ·rcases hv k hkv with h1 | h1
  ·cases hn:e.nw with
   | none=>exact h1
   | some x=>exact Or.inl h1
  ·obtain ⟨en,hen⟩:=hnn k h1
   simp only [hen]
   exact Or.inr rfl
 ·have hb':fn.body=some (zdn fn):=by
   unfold zdn
   cases hx:fn.body with
   | none=>rw [hx] at hb;cases hb
   | some c=>rfl
  refine zxq hf hb' (h w β hBl β _ w ?_)
  exact zta hB (Nat.le_of_ble_eq_true hN) hBl hI _ (fun k e hl hw=>⟨⟨k,hro k e hl hw,rfl⟩,hgx k e hl hw⟩) hgw fun _ hb=>hb.2
theorem zvr {args:List AV} (h:ze2 args=[]):Begin args [] 0 :=
 ⟨fun v hv k hk=>by
  have:k∈ze2 args:=List.mem_flatMap.2 ⟨v,hv,hk⟩
  rw [h] at this;exact (nomatch this),fun k e h=>(nomatch h)⟩
theorem zau {v:AV} (hv:v.ks=[]) (n:Nat):EKeys n [] none ⟨v,[],none⟩ :=
 ⟨fun k hk=>(by simp only at hk;rw [hv] at hk;cases hk),fun _ _ hm=>(nomatch hm),fun _ _ hm=>(nomatch hm),fun _ h=>(nomatch h),fun _ h=>(nomatch h)⟩
theorem zk5 {P:Program} {f:FuncId} {fn:Func} {args:List AV} {v:AV} (hf:P.funcs[f]?=some fn) (hb:fn.body.isSome=true) (hN:Nat.ble args.length fn.ntmps=true) (hk:ze2 args=[]) (hv:v.ks=[])
  (h:∀ w β,ART P f (cx w β 0 []) fn.ntmps [.code (zdn fn)] (Kn.start args [] 0) (REff w β ⟨v,[],none⟩)):CallOK P ⟨f,args,[],⟨v,[],none⟩⟩ :=
 zns [] none hf hb hN (zvr hk) (fun k hk=>(by simp only at hk;rw [hv] at hk;cases hk)) (fun _ _ h=>(nomatch h)) (fun _ h=>(nomatch h)) (zau hv 0) (fun _ _ hm=>(nomatch hm)) (fun _ _ h=>(nomatch h)) fun w β _=>h w β
theorem yas8 {P:Program} {f:FuncId} {fn:Func} {args:List AV} {v:AV} {ok:Bool} {cr:List Ob} (m:Nat) (hs:List Eff) (ds st:List Bool) (rw:List (Nat×Nat)) (hf:P.funcs[f]?=some fn) (hb:fn.body.isSome=true) (hN:Nat.ble args.length fn.ntmps=true) (hk:ze2 args=[]) (hv:v.ks=[])
  (h:yaga [] none (runT P fn fn.ntmps rw m [.code (zdn fn)] (Kn.start args [] 0) hs ds st)=some (⟨v,[],none⟩,ok,cr)) (hok:ok=true) (hcr:∀ c,c∈cr→ObOK P c):CallOK P ⟨f,args,[],⟨v,[],none⟩⟩ :=
 zk5 hf hb hN hk hv fun _ _=>zym [] none m hs ds st rw hf (zau hv 0) h hok hcr
theorem zd3 {P:Program} {f:FuncId} {A:Array Value} {V:Value} {args:List AV} {H:List (Nat×Ent)} {v:AV} (hA:∀ β,(args.map (AV.g β)).toArray=A) (hV:∀ β,v.g β=V) (hv:v.ks=[])
  (h:∀ w,Gw w→Calls P f A w fun e w'=>e=.returned V∧Below w.heap.size w w'):CallOK P ⟨f,args,H,⟨v,[],none⟩⟩:=by
 refine ⟨⟨fun k hk=>(by rw [hv] at hk;cases hk),fun _ _ hm=>(nomatch hm),fun _ _ hm=>(nomatch hm)⟩,fun _ _ hm=>(nomatch hm),fun β w hgw _ _ _=>?_⟩
 show Calls P f (args.map (AV.g β)).toArray w _
 rw [hA β]
 exact (h w hgw).mono fun e w' ⟨he,hb⟩=>⟨β,by rw [he,hV β],Fr.of_below hb,fun _ _ hm=>(nomatch hm),rfl⟩
theorem zif {P:Program} {f:FuncId} {A:Array Value} {V:Value} {args:List AV} {v:AV} (β:Bs) (hA:(args.map (AV.g β)).toArray=A) (hV:∀ β,v.g β=V) (h:CallOK P ⟨f,args,[],⟨v,[],none⟩⟩) (w:World) (hw:Gw w:=by trivial) :
  Calls P f A w fun e w'=>e=.returned V∧Below w.heap.size w w':=by
 have:=h.call β w hw (fun k e h=>by cases h) (fun k e h=>by cases h) (fun k e _ _ h=>by cases h)
 rw [← hA]
 refine this.mono fun e w' ⟨β',he,hu⟩=>⟨by rw [he,hV],?_⟩
 exact ⟨hu.frame.os,hu.frame.tape,hu.frame.output,hu.frame.size,fun k hk=>hu.frame.block k hk fun ⟨_,_,hm,_⟩=>by cases hm⟩
theorem CallOK.congr {P:Program} {r q:CallRec} (h:CallOK P q) (e:r=q):CallOK P r:=e ▸ h
def zia:Code→List Item→List (List Item)
 | .seq x y,k=>zia x (.code y::k)++zia y k
 | .cond _ x y,k=>zia x k++zia y k
 | .block id c,k=>zia c (.inBlock id::k)
 | .loop c,k=>(.code c::.inLoop c::k)::zia c (.inLoop c::k)
 | _,_=>[]
def zdk (fn:Func) (j:Nat):List Item:=(zia (zdn fn) []).getD j []
def yaf7 (ts ks:List Nat):Option Run→Option (List Item×List (Option AV)×List (Option Ent)×Bool×List Ob)
 | some ⟨(Sum.inr (z,σ)),ok,cr⟩=>some (z,ts.map (look σ.T),ks.map (look σ.H),allB ok,cr)
 | _=>none
theorem zki {ts ks:List Nat} {r:Option Run} {z:List Item} {vs:List (Option AV)} {es:List (Option Ent)} {ok:Bool} {cr:List Ob} (h:yaf7 ts ks r=some (z,vs,es,ok,cr)) :
  ∃ σ oks,r=some ⟨.cut z σ,oks,cr⟩∧allB oks=ok∧ts.map (look σ.T)=vs∧ks.map (look σ.H)=es:=by
 unfold yaf7 at h
 split at h
 ·rename_i z' σ ok' cr'
  simp only [Option.some.injEq,Prod.mk.injEq] at h
  obtain ⟨rfl,h1,h2,rfl,rfl⟩:=h
  exact ⟨σ,_,rfl,rfl,h1,h2⟩
 ·cases h
structure Kn.Low (σ:Kn):Prop where
 t:∀ t v,look σ.T t=some v→∀ k,k∈v.ks→k < σ.n
 h:∀ k e,look σ.H k=some e→k < σ.n∧∀ c,c∈e.cells→∀ j,j∈c.ks→j < σ.n
theorem ART.weaken {P:Program} {f:FuncId} {C:Cx} {N:Nat} {todo:List Item} {σ σ':Kn} {R:Ending→World→Prop} (h:ART P f C N todo σ' R) (hle:Le σ' σ) (hlow:σ'.Low) (hF:∀ k,C.F k→k < σ'.n):ART P f C N todo σ R:=by
 intro β a w hr
 refine h β a w ⟨hr.size,hr.defers,fun t v hv=>⟨(hr.tmp t v (hle.t t v hv)).1,hlow.t t v hv⟩,fun k e he=>⟨(hlow.h k e he).1,(hr.blk k e (hle.h k e he)).2.1,(hlow.h k e he).2,(hr.blk k e (hle.h k e he)).2.2.2⟩,?_,hr.frame,fun k hk=>⟨hF k hk,(hr.fix k hk).2⟩,hr.gd⟩
 exact fun k e k' e' he he'=>hr.inj k e k' e' (hle.h k e he) (hle.h k' e' he')
theorem zdq {α:Type}:∀ {l:List (Nat×α)} {t:Nat} {v:α},look l t=some v→(t,v)∈l
 | [],_,_,h=>by cases h
 | (j,x)::l,t,v,h=>by
  rw [zav] at h
  split at h
  ·rename_i ht;subst ht;injection h with h;subst h;simp
  ·exact List.mem_cons_of_mem _ (zdq h)
theorem zhf {α:Type} {T:List (Nat×α)} {l:List (Nat×α)} (h:(l.map (·.1)).map (look T)=l.map fun x=>some x.2):∀ t v,look l t=some v→look T t=some v:=by
 intro t v hl
 have hm:=zdq hl
 rw [List.map_map] at h
 exact List.map_eq_map_iff.1 h (t,v) hm
theorem yagp {P:Program} {f:FuncId} {fn:Func} {N:Nat} {C:Cx} {R:Ending→World→Prop} {todo z:List Item} {σ:Kn} {ok:Bool} {cr:List Ob} (σ':Kn) (m:Nat) (hs:List Eff) (ds st:List Bool) (rw:List (Nat×Nat)) (hf:P.funcs[f]?=some fn)
  (h:yaf7 (σ'.T.map (·.1)) (σ'.H.map (·.1)) (runT P fn N rw m todo σ hs ds st)=some (z,σ'.T.map (fun x=>some x.2),σ'.H.map (fun x=>some x.2),ok,cr)) (hok:ok=true) (hcr:∀ c,c∈cr→ObOK P c) (hlow:σ'.Low) (hF:∀ k,C.F k→k < σ'.n)
  (hz:ART P f C N z σ' R):ART P f C N todo σ R:=by
 obtain ⟨σ1,oks,h1,ho,h2,h3⟩:=zki h
 refine zcm hf m todo σ hs ds st _ h1 (ho.trans hok) hcr ?_
 exact hz.weaken ⟨zhf h2,zhf h3⟩ hlow hF
theorem zae {P:Program}:∀ c,c∈([]:List Ob)→ObOK P c:=fun _ h=>nomatch h
theorem zab {P:Program} {r:CallRec} {l:List Ob} (h:CallOK P r) (hl:∀ c,c∈l→ObOK P c):∀ c,c∈Sum.inl r::l→ObOK P c:=fun c hc=>by
 rcases List.mem_cons.1 hc with h1 | h1
 ·rw [h1];exact h
 ·exact hl c h1
theorem zac {P:Program} {a b:Eff} {l:List Ob} (h:a=b) (hl:∀ c,c∈l→ObOK P c):∀ c,c∈Sum.inr (a,b)::l→ObOK P c:=fun c hc=>by
 rcases List.mem_cons.1 hc with h1 | h1
 ·rw [h1];exact h
 ·exact hl c h1
def lowK (σ:Kn):Bool:=(σ.T.flatMap fun x=>x.2.ks).all (fun k=>Nat.blt k σ.n)&&(σ.H.map (·.1)++σ.H.flatMap fun x=>x.2.cells.flatMap AC.ks).all (fun k=>Nat.blt k σ.n)
theorem zc8 {σ:Kn} (h:lowK σ=true):σ.Low:=by
 simp only [lowK,Bool.and_eq_true,List.all_eq_true] at h
 refine ⟨fun t v hv k hk=>?_,fun k e he=>⟨?_,fun c hc j hj=>?_⟩⟩
 ·simpa using h.1 k (List.mem_flatMap.2 ⟨(t,v),zdq hv,hk⟩)
 ·simpa using h.2 k (List.mem_append.2 (Or.inl (List.mem_map.2 ⟨(k,e),zdq he,rfl⟩)))
 ·simpa using h.2 j (List.mem_append.2 (Or.inr (List.mem_flatMap.2 ⟨(k,e),zdq he,zdy hc hj⟩)))
def AC.ren (ρ:Nat→Nat):AC→AC
 | (Sum.inr (Sum.inr (Sum.inl (Sum.inl k))))=>.w (ρ k)
 | (Sum.inr (Sum.inr (Sum.inl (Sum.inr (k,o)))))=>.p (ρ k) o
 | (Sum.inr (Sum.inr (Sum.inr (Sum.inr (Sum.inl (k,o,n,c))))))=>.sl (ρ k) o n c
 | (Sum.inr (Sum.inr (Sum.inr (Sum.inr (Sum.inr (Sum.inl (g,cap)))))))=>.f g (cap.map ρ)
 | (Sum.inr (Sum.inr (Sum.inr (Sum.inr (Sum.inr (Sum.inr (Sum.inl (k,n))))))))=>.sx (ρ k) n
 | c=>c
def AT.ren (ρ:Nat→Nat):AT→AT
 | (Sum.inl x)=>.c (x.ren ρ)
 | (Sum.inr l)=>.ag (l.map (AC.ren ρ))
def AV.ren (ρ:Nat→Nat):AV→AV
 | (Sum.inl x)=>.c (x.ren ρ)
 | (Sum.inr (Sum.inl l))=>.ag (l.map (AC.ren ρ))
 | (Sum.inr (Sum.inr (Sum.inl l)))=>.tu (l.map (AT.ren ρ))
 | (Sum.inr (Sum.inr (Sum.inr x)))=>.raw x
def Ent.ren (ρ:Nat→Nat) (e:Ent):Ent:=⟨e.wr,e.cells.map (AC.ren ρ),e.room⟩
def renH (ρ:Nat→Nat) (H:List (Nat×Ent)):List (Nat×Ent):=H.map fun x=>(ρ x.1,x.2.ren ρ)
def Eff.ren (ρ:Nat→Nat) (e:Eff):Eff:=⟨e.v.ren ρ,e.wr.map fun x=>(ρ x.1,x.2.map (AC.ren ρ)),e.nw.map fun x=>(ρ x.1,x.2.ren ρ)⟩
def CallRec.ren (ρ:Nat→Nat) (r:CallRec):CallRec:=⟨r.f,r.args.map (AV.ren ρ),renH ρ r.H,r.e.ren ρ⟩
theorem AC.ren_g (ρ:Nat→Nat) (β:Bs) (c:AC):(c.ren ρ).g β=c.g (fun k=>β (ρ k)):=by
 cases c using AC.tells with
 | f g cap =>
  show Value.func (.func g) #[] ((cap.map ρ).map fun k=>Value.pointer (some (ptr β k 0))).toArray=_
  rw [List.map_map]
  rfl
 | _=>rfl
theorem AC.ren_ks (ρ:Nat→Nat) (c:AC):(c.ren ρ).ks=c.ks.map ρ:=by
 cases c using AC.tells <;> rfl
theorem zod (ρ:Nat→Nat) (β:Bs) (l:List AC):(l.map (AC.ren ρ)).map (AC.g β)=l.map (AC.g (fun k=>β (ρ k))):=by
 rw [List.map_map];exact List.map_congr_left fun c _=>c.ren_g ρ β
theorem AT.ren_g (ρ:Nat→Nat) (β:Bs) (c:AT):(c.ren ρ).g β=c.g (fun k=>β (ρ k)):=by
 cases c using AT.tells with
 | c x=>exact x.ren_g ρ β
 | ag l=>exact congrArg (fun l:List Value=>Value.agg l.toArray) (zod ρ β l)
theorem AV.ren_g (ρ:Nat→Nat) (β:Bs) (c:AV):(c.ren ρ).g β=c.g (fun k=>β (ρ k)):=by
 cases c using AV.tells with
 | c x=>exact x.ren_g ρ β
 | ag l=>exact congrArg (fun l:List Value=>Value.agg l.toArray) (zod ρ β l)
 | tu l =>
  refine congrArg (fun l:List Value=>Value.tuple l.toArray) ?_
  rw [List.map_map];exact List.map_congr_left fun c _=>c.ren_g ρ β
 | raw x=>rfl
theorem yaaw (ρ:Nat→Nat) (l:List AC):(l.map (AC.ren ρ)).flatMap AC.ks=(l.flatMap AC.ks).map ρ:=by
 rw [List.flatMap_map,List.map_flatMap]
 exact congrArg (fun f=>l.flatMap f) (funext fun c=>c.ren_ks ρ)
theorem AT.ren_ks (ρ:Nat→Nat) (c:AT):(c.ren ρ).ks=c.ks.map ρ:=by
 cases c using AT.tells with
 | c x=>exact x.ren_ks ρ
 | ag l=>exact yaaw ρ l
theorem AV.ren_ks (ρ:Nat→Nat) (c:AV):(c.ren ρ).ks=c.ks.map ρ:=by
 cases c using AV.tells with
 | c x=>exact x.ren_ks ρ
 | ag l=>exact yaaw ρ l
 | tu l =>
  show (l.map (AT.ren ρ)).flatMap AT.ks=(l.flatMap AT.ks).map ρ
  rw [List.flatMap_map,List.map_flatMap]
  exact congrArg (fun f=>l.flatMap f) (funext fun c=>c.ren_ks ρ)
 | raw x=>rfl
theorem zck {l:List AC} (ρ:Nat→Nat) (h:l.flatMap AC.ks=[]):l.map (AC.ren ρ)=l:=by
 conv=>rhs;rw [← List.map_id l]
 refine List.map_congr_left fun c hc=>?_
 have hk:c.ks=[]:=by
  cases hcs:c.ks with
  | nil=>rfl
  | cons j _=>exact (zeu h hc (j:=j) (by rw [hcs];simp)).elim
 cases c using AC.tells with
 | w k=>cases hk
 | p k o=>cases hk
 | sl k o n c=>cases hk
 | f g cap=>show AC.f g (cap.map ρ)=_;rw [show cap=[] from hk];rfl
 | sx k n=>cases hk
 | _=>rfl
theorem zem {ρ:Nat→Nat} (hi:∀ i j,ρ i=ρ j→i=j):∀ (H:List (Nat×Ent)) (k:Nat),look (renH ρ H) (ρ k)=(look H k).map (Ent.ren ρ)
 | [],_=>rfl
 | (j,e)::H,k=>by
  show look ((ρ j,e.ren ρ)::renH ρ H) (ρ k)=_
  rw [zav,zav]
  by_cases h:k=j
  ·rw [if_pos h,if_pos (by rw [h])];rfl
  ·rw [if_neg h,if_neg (fun e=>h (hi _ _ e)),zem hi H k]
theorem zon {ρ:Nat→Nat} (hi:∀ i j,ρ i=ρ j→i=j) {H:List (Nat×Ent)} {k:Nat} {e:Ent} (h:look (renH ρ H) k=some e):∃ j e',k=ρ j∧look H j=some e'∧e=e'.ren ρ:=by
 have hm:=zdq h
 obtain ⟨x,hx,he⟩:=List.mem_map.1 hm
 injection he with h1 h2
 subst h1
 rw [zem hi] at h
 cases hl:look H x.1 with
 | none=>rw [hl] at h;cases h
 | some e'=>rw [hl] at h;injection h with h;exact ⟨x.1,e',rfl,hl,h.symm⟩
theorem blk_ren {ρ:Nat→Nat} {β:Bs} {w:World} {k:Nat} {e:Ent}:Blk β w (ρ k) (e.ren ρ)↔Blk (fun k=>β (ρ k)) w k e:=by
 have hp:∀ j,ptr (fun k=>β (ρ k)) k j=ptr β (ρ k) j:=fun j=>rfl
 constructor
 ·intro h
  refine ⟨h.lt,fun j c hj=>?_,fun hw j hj=>?_,fun hr hne=>?_⟩
  ·rw [hp,← c.ren_g]
   exact h.cell j (c.ren ρ) (by simp [Ent.ren,hj])
  ·exact h.free hw j (by simpa [Ent.ren] using hj)
  ·obtain ⟨h1,h2⟩:=h.room hr (by simpa [Ent.ren] using hne)
   exact ⟨by simpa [Ent.ren] using h1,h2⟩
 ·intro h
  refine ⟨h.lt,fun j c hj=>?_,fun hw j hj=>?_,fun hr hne=>?_⟩
  ·simp only [Ent.ren,List.getElem?_map] at hj
   cases hc:e.cells[j]? with
   | none=>rw [hc] at hj;cases hj
   | some c' =>
    rw [hc] at hj
    simp at hj
    subst hj
    rw [c'.ren_g]
    exact h.cell j c' hc
  ·exact h.free hw j (by simpa [Ent.ren] using hj)
  ·obtain ⟨h1,h2⟩:=h.room hr (by simpa [Ent.ren] using hne)
   exact ⟨by simpa [Ent.ren] using h1,h2⟩
theorem CallOK.ren {P:Program} {r:CallRec} (h:CallOK P r) (ρ:Nat→Nat) (hi:∀ i j,ρ i=ρ j→i=j):CallOK P (r.ren ρ):=by
 have hext:∀ k,ext (fun k=>∃ e,look r.H k=some e) r.e.nw k→ext (fun k=>∃ e,look (renH ρ r.H) k=some e) (r.e.ren ρ).nw (ρ k):=by
  intro k hk
  have h0:(∃ e,look r.H k=some e)→∃ e,look (renH ρ r.H) (ρ k)=some e:=fun ⟨e,he⟩=>⟨e.ren ρ,by rw [zem hi,he];rfl⟩
  simp only [Eff.ren]
  cases hn:r.e.nw with
  | none=>rw [hn] at hk;exact h0 hk
  | some x =>
   rw [hn] at hk
   rcases hk with h1 | h1
   ·exact Or.inl (h0 h1)
   ·exact Or.inr (by rw [h1])
 refine ⟨⟨fun k hk=>?_,fun k cs hm c hc j hj=>?_,fun k en hm c hc j hj=>?_⟩,fun k cs hm=>?_,fun β w hgw hgx hB hI=>?_⟩
 ·rw [show (r.ren ρ).e.v=r.e.v.ren ρ from rfl,AV.ren_ks] at hk
  obtain ⟨j,hj,rfl⟩:=List.mem_map.1 hk
  exact hext j (h.keys.v j hj)
 ·obtain ⟨x,hx,he⟩:=List.mem_map.1 (show (k,cs)∈r.e.wr.map fun x=>(ρ x.1,x.2.map (AC.ren ρ)) from hm)
  injection he with h1 h2
  subst h1 h2
  obtain ⟨c',hc',rfl⟩:=List.mem_map.1 hc
  rw [AC.ren_ks] at hj
  obtain ⟨j',hj',rfl⟩:=List.mem_map.1 hj
  obtain ⟨e,he⟩:=h.keys.wr x.1 x.2 hx c' hc' j' hj'
  exact ⟨e.ren ρ,by rw [show (r.ren ρ).H=renH ρ r.H from rfl,zem hi,he];rfl⟩
 ·cases hn:r.e.nw with
  | none=>rw [show (r.ren ρ).e.nw=r.e.nw.map _ from rfl,hn] at hm;cases hm
  | some x =>
   obtain ⟨k',en'⟩:=x
   have hm':=hm
   rw [show (r.ren ρ).e.nw=r.e.nw.map _ from rfl,hn] at hm'
   injection hm' with hm'
   injection hm' with h1 h2
   subst h1 h2
   obtain ⟨c',hc',rfl⟩:=List.mem_map.1 (show c∈en'.cells.map (AC.ren ρ) from hc)
   rw [AC.ren_ks] at hj
   obtain ⟨j',hj',rfl⟩:=List.mem_map.1 hj
   exact hext j' (h.keys.nw k' en' hn c' hc' j' hj')
 ·obtain ⟨x,hx,he⟩:=List.mem_map.1 (show (k,cs)∈r.e.wr.map fun x=>(ρ x.1,x.2.map (AC.ren ρ)) from hm)
  injection he with h1 h2
  subst h1 h2
  obtain ⟨en,h3,h4,h5⟩:=h.wr x.1 x.2 hx
  exact ⟨en.ren ρ,by rw [show (r.ren ρ).H=renH ρ r.H from rfl,zem hi,h3];rfl,h4,by simpa [Ent.ren] using h5⟩
 ·have hcall:=h.call (fun k=>β (ρ k)) w hgw (fun k e he hw=>hgx (ρ k) (e.ren ρ) (by rw [show (r.ren ρ).H=renH ρ r.H from rfl,zem hi,he];rfl) hw) (fun k e he=>blk_ren.1 (hB (ρ k) (e.ren ρ) (by rw [show (r.ren ρ).H=renH ρ r.H from rfl,zem hi,he];rfl)))
   (fun k e k' e' he he' hne hw hz hz'=>hI (ρ k) (e.ren ρ) (ρ k') (e'.ren ρ) (by rw [show (r.ren ρ).H=renH ρ r.H from rfl,zem hi,he];rfl) (by rw [show (r.ren ρ).H=renH ρ r.H from rfl,zem hi,he'];rfl) (fun e=>hne (hi _ _ e)) hw (by simpa [Ent.ren] using hz) (by simpa [Ent.ren] using hz'))
  have hargs:((r.ren ρ).args.map (AV.g β)).toArray=(r.args.map (AV.g (fun k=>β (ρ k)))).toArray:=by
   congr 1
   show (r.args.map (AV.ren ρ)).map (AV.g β)=_
   rw [List.map_map]
   exact List.map_congr_left fun v _=>v.ren_g ρ β
  rw [hargs]
  refine Calls.mono hcall fun en w' ⟨β',he,hu⟩=>?_
  have hframe:Fr (fun B=>∃ k cs,(k,cs)∈(r.e.ren ρ).wr∧B=(β k).1) w w':=hu.frame.mono fun B ⟨k,cs,hm,hB⟩=>⟨ρ k,cs.map (AC.ren ρ),List.mem_map.2 ⟨(k,cs),hm,rfl⟩,hB⟩
  have hwr:∀ β'':Bs,(∀ k,β' k=β'' (ρ k))→∀ k cs,(k,cs)∈(r.e.ren ρ).wr→Blk β'' w' k ⟨true,cs,0⟩:=by
   intro β'' hβ k cs hm
   obtain ⟨x,hx,he⟩:=List.mem_map.1 (show (k,cs)∈r.e.wr.map fun x=>(ρ x.1,x.2.map (AC.ren ρ)) from hm)
   injection he with h1 h2
   subst h1 h2
   have:=hu.wr x.1 x.2 hx
   rw [show β'=fun k=>β'' (ρ k) from funext hβ] at this
   exact blk_ren.2 this
  have hnw:=hu.nw
  cases hn:r.e.nw with
  | none =>
   rw [hn] at hnw
   have hnw:β'=fun k=>β (ρ k):=hnw
   refine ⟨β,?_,hframe,hwr β (fun k=>by rw [hnw]),?_⟩
   ·rw [he,hnw];exact congrArg Ending.returned ((r.e.v.ren_g ρ β).symm)
   ·show yati _ β β w w' (r.e.nw.map _)
    rw [hn];rfl
  | some x =>
   obtain ⟨k,en⟩:=x
   rw [hn] at hnw
   obtain ⟨b,o,c,h1,h2,h3,h4⟩:=hnw
   have hβ:∀ j,β' j=bset β (ρ k) (b,o,c) (ρ j):=by
    intro j
    rw [h3]
    unfold bset
    by_cases hj:j=k
    ·rw [if_pos hj,if_pos (by rw [hj])]
    ·rw [if_neg hj,if_neg (fun e=>hj (hi _ _ e))]
   refine ⟨bset β (ρ k) (b,o,c),?_,hframe,hwr _ hβ,?_⟩
   ·rw [he,show β'=fun j=>bset β (ρ k) (b,o,c) (ρ j) from funext hβ]
    exact congrArg Ending.returned ((r.e.v.ren_g ρ _).symm)
   ·show yati _ β _ w w' (r.e.nw.map _)
    rw [hn]
    refine ⟨b,o,c,?_,h2,rfl,?_⟩
    ·rcases h1 with h1 | ⟨k0,h1,h1'⟩
     ·exact Or.inl h1
     ·refine Or.inr ⟨ρ k0,?_,h1'⟩
      show r.e.wr.map (fun x=>(ρ x.1,x.2.map (AC.ren ρ)))=_
      rw [h1];rfl
    ·rw [show β'=fun j=>bset β (ρ k) (b,o,c) (ρ j) from funext hβ] at h4
     exact blk_ren.2 h4
structure Asks (H H':List (Nat×Ent)):Prop where
 le:∀ k e,look H k=some e→∃ e',look H' k=some e'∧e'.cells=e.cells∧(e.wr=true→e'.wr=true)∧(e.room=0∨e.room=e'.room)
theorem CallOK.more {P:Program} {f:Nat} {args:List AV} {H H':List (Nat×Ent)} {e:Eff} (h:CallOK P ⟨f,args,H,e⟩) (hH:Asks H H'):CallOK P ⟨f,args,H',e⟩:=by
 have hS:∀ k,(∃ e,look H k=some e)→∃ e,look H' k=some e:=fun k ⟨e,he⟩=>by obtain ⟨e',h1,_⟩:=hH.le k e he;exact ⟨e',h1⟩
 refine ⟨⟨fun k hk=>zjl hS _ k (h.keys.v k hk),fun k cs hm c hc j hj=>hS j (h.keys.wr k cs hm c hc j hj),fun k en hm c hc j hj=>zjl hS _ j (h.keys.nw k en hm c hc j hj)⟩,fun k cs hm=>?_,fun β w hgw hgx hB hI=>h.call β w hgw (fun k e he hw=>by obtain ⟨e',g1,_,g3,_⟩:=hH.le k e he;exact hgx k e' g1 (g3 hw)) (fun k e he=>?_) fun k e k' e' he he' hne hw hz hz'=>?_⟩
 ·obtain ⟨en,h1,h2,h3⟩:=h.wr k cs hm
  obtain ⟨e',g1,g2,g3,_⟩:=hH.le k en h1
  exact ⟨e',g1,g3 h2,by rw [g2];exact h3⟩
 ·obtain ⟨e',g1,g2,g3,g4⟩:=hH.le k e he
  have hb:=hB k e' g1
  refine ⟨hb.lt,by rw [← g2];exact hb.cell,fun hw=>by rw [← g2];exact hb.free (g3 hw),fun hr hne=>?_⟩
  rcases g4 with g4 | g4
  ·exact absurd g4 hr
  ·rw [g4] at hr ⊢
   rw [← g2] at hne ⊢
   exact hb.room hr hne
 ·obtain ⟨e1,g1,g2,g3,_⟩:=hH.le k e he
  obtain ⟨e2,f1,f2,_,_⟩:=hH.le k' e' he'
  exact hI k e1 k' e2 g1 f1 hne (g3 hw) (by rw [g2];exact hz) (by rw [f2];exact hz')
def AC.cap (β:Bs):AC→AC
 | (Sum.inr (Sum.inr (Sum.inr (Sum.inr (Sum.inr (Sum.inr (Sum.inl (k,n))))))))=>.sl k 0 n (β k).2.2
 | c=>c
theorem CallOK.of_cap {P:Program} {f k n:Nat} {xs bs:List AV} {H:List (Nat×Ent)} {e:Eff} (h:∀ c,CallOK P ⟨f,xs++.c (.sl k 0 n c)::bs,H,e⟩):CallOK P ⟨f,xs++.c (.sx k n)::bs,H,e⟩:=by
 refine ⟨(h 0).keys,(h 0).wr,fun β w hgw hgx hB hI=>?_⟩
 have:=(h (β k).2.2).call β w hgw hgx hB hI
 have he:((xs++AV.c (.sx k n)::bs).map (AV.g β)).toArray=((xs++AV.c (.sl k 0 n (β k).2.2)::bs).map (AV.g β)).toArray:=by simp [AV.g,AC.g]
 show Calls P f ((xs++AV.c (.sx k n)::bs).map (AV.g β)).toArray w _
 rw [he]
 exact this
theorem tf (b:Bool):b=true∨b=false:=by cases b <;> simp
theorem zad {b:Bool} (h:b=false):(!b)=true:=by rw [h];rfl
theorem yaky {b:Bool} (h:(!b)=false):b=true:=by cases b <;> simp_all
theorem zaa {a b:Bool} (h:a=true) (k:b=true):(a&&b)=true:=by rw [h,k];rfl
theorem zam {P:Program} {f:Nat} {args:List AV} {H:List (Nat×Ent)} {v u:AV} (h:CallOK P ⟨f,args,H,⟨v,[],none⟩⟩) (e:v=u):CallOK P ⟨f,args,H,⟨u,[],none⟩⟩:=e ▸ h
theorem za5 {P:Program} {f:FuncId} {C:Cx} {N:Nat} {todo:List Item} {σ:Kn} {w:World} {β:Bs} {e e':Eff} (h:ART P f C N todo σ (REff w β e)) (k:e=e'):ART P f C N todo σ (REff w β e'):=k ▸ h
def hsOf:List Ob→List Eff
 | []=>[]
 | .inl r::l=>r.e::hsOf l
 | .inr x::l=>x.2::hsOf l
theorem zai {P:Program} {f:FuncId} {fn:Func} {N:Nat} {C:Cx} {R:Ending→World→Prop} {todo z:List Item} {σ σ':Kn} {ok:Bool} {cr:List Ob} (ds st:List Bool) (rw:List (Nat×Nat)) (hf:P.funcs[f]?=some fn)
  (h:yaf7 (σ'.T.map (·.1)) (σ'.H.map (·.1)) (runT P fn N rw 2000 todo σ (hsOf cr) ds st)=some (z,σ'.T.map (fun x=>some x.2),σ'.H.map (fun x=>some x.2),ok,cr)) (hok:ok=true) (hcr:∀ c,c∈cr→ObOK P c) (hlow:σ'.Low) (hF:∀ k,C.F k→k < σ'.n)
  (hz:ART P f C N z σ' R):ART P f C N todo σ R:=yagp σ' 2000 (hsOf cr) ds st rw hf h hok hcr hlow hF hz
theorem zah {P:Program} {f:FuncId} {fn:Func} {N:Nat} {w:World} {β:Bs} {n:Nat} {todo:List Item} {σ:Kn} {ok:Bool} {cr:List Ob} {e:Eff} (ws:List Nat) (nk:Option Nat) (ds st:List Bool) (rw:List (Nat×Nat)) (hf:P.funcs[f]?=some fn) (hk:EKeys n ws nk e)
  (h:yaga ws nk (runT P fn N rw 2000 todo σ (hsOf cr) ds st)=some (e,ok,cr)) (hok:ok=true) (hcr:∀ c,c∈cr→ObOK P c):ART P f (cx w β n ws) N todo σ (REff w β e):=zym ws nk 2000 (hsOf cr) ds st rw hf hk h hok hcr
theorem zaf {P:Program} {f:FuncId} {fn:Func} {args:List AV} {v:AV} {ok:Bool} {cr:List Ob} (ds st:List Bool) (rw:List (Nat×Nat)) (hf:P.funcs[f]?=some fn) (hb:fn.body.isSome=true) (hN:Nat.ble args.length fn.ntmps=true) (hk:ze2 args=[]) (hv:v.ks=[])
  (h:yaga [] none (runT P fn fn.ntmps rw 2000 [.code (zdn fn)] (Kn.start args [] 0) (hsOf cr) ds st)=some (⟨v,[],none⟩,ok,cr)) (hok:ok=true) (hcr:∀ c,c∈cr→ObOK P c):CallOK P ⟨f,args,[],⟨v,[],none⟩⟩ :=
 yas8 2000 (hsOf cr) ds st rw hf hb hN hk hv h hok hcr
end Go.Proofs.YtkigmocchaikgabGreatDoor
namespace Go.Proofs.YtkigmocchaikgabGreatDoor
open Go.ChangeShapes Go.WideShapes Go.ChangeAt Go.RowKit Go.Joins
section
variable {H:Type} {enc:TypeId×Value→H} {P:Program} {w:World} {base:Nat} {spare:Nat→Bool} {held:Bool}
end
end Go.Proofs.YtkigmocchaikgabGreatDoor
namespace Go.Proofs.YtkigmocchaikgabGreatDoor
open Go.RowKit
abbrev Ok (f:Nat) (a:List AV) (v:AV):Prop:=CallOK Tryz.prog ⟨f,a,[],⟨v,[],none⟩⟩
abbrev pe (v:AV):Eff:=⟨v,[],none⟩
abbrev we (k:Nat) (l:List AC):Eff:=⟨.raw undef,[(k,l)],none⟩
abbrev CO (f:Nat) (a:List AV) (H:List (Nat×Ent)) (e:Eff):Prop:=CallOK Tryz.prog ⟨f,a,H,e⟩
abbrev AR (f:Nat) (fn:Func) (C:Cx) (k:Nat) (σ:Kn) (R:Ending→World→Prop):Prop:=ART Tryz.prog f C fn.ntmps (zdk fn k) σ R
abbrev BO (f:Nat) (fn:Func) (C:Cx) (a:List AV) (H:List (Nat×Ent)) (n:Nat) (R:Ending→World→Prop):Prop:=ART Tryz.prog f C fn.ntmps [.code (zdn fn)] (Kn.start a H n) R
end Go.Proofs.YtkigmocchaikgabGreatDoor
namespace Go.Proofs.YtkigmocchaikgabGreatDoor
structure V6 (α:Type) where
 x0:α
 x1:α
 x2:α
 x3:α
 x4:α
 x5:α
def V6.get {α:Type} (v:V6 α) (i:Nat):α :=
 match i with
 | 0=>v.x0
 | 1=>v.x1
 | 2=>v.x2
 | 3=>v.x3
 | 4=>v.x4
 | _=>v.x5
def V6.set {α:Type} (v:V6 α) (i:Nat) (a:α):V6 α :=
 match i with
 | 0=>⟨a,v.x1,v.x2,v.x3,v.x4,v.x5⟩
 | 1=>⟨v.x0,a,v.x2,v.x3,v.x4,v.x5⟩
 | 2=>⟨v.x0,v.x1,a,v.x3,v.x4,v.x5⟩
 | 3=>⟨v.x0,v.x1,v.x2,a,v.x4,v.x5⟩
 | 4=>⟨v.x0,v.x1,v.x2,v.x3,a,v.x5⟩
 | _=>⟨v.x0,v.x1,v.x2,v.x3,v.x4,a⟩
def V6.all {α:Type} (v:V6 α) (p:α→Bool):Bool:=p v.x0&&p v.x1&&p v.x2&&p v.x3&&p v.x4&&p v.x5
def V6.rep {α:Type} (a:α):V6 α:=⟨a,a,a,a,a,a⟩
theorem lt6 {P:Nat→Prop} (h0:P 0) (h1:P 1) (h2:P 2) (h3:P 3) (h4:P 4) (h5:P 5):∀ i,i<6→P i
 | 0,_=>h0
 | 1,_=>h1
 | 2,_=>h2
 | 3,_=>h3
 | 4,_=>h4
 | 5,_=>h5
 | _+6,h=>absurd h (by omega)
theorem V6.get_set {α:Type} (v:V6 α) (a:α) (i j:Nat) (hi:i<6) (hj:j<6):(v.set i a).get j=if i=j then a else v.get j:=by
 revert i;apply lt6 <;> (revert j;apply lt6 <;> rfl)
def no6:V6 Bool:=⟨false,false,false,false,false,false⟩
structure Ins where
 op:Int
 d:Int
 s:Int
 im:BitVec 64
 of:Int
def Ins.cs (i:Ins):List AC:=[.i i.op,.i i.d,.i i.s,.u i.im,.i i.of]
def pcell (L:List Ins):List AC:=L.flatMap Ins.cs
structure Mach where
 t:Int
 r:V6 (BitVec 64)
 s:V6 Bool
 mem:ByteArray
 fin:Int
def Mach.cs (m:Mach):List AC:=[.i m.t,.u m.r.x0,.u m.r.x1,.u m.r.x2,.u m.r.x3,.u m.r.x4,.u m.r.x5,.b m.s.x0,.b m.s.x1,.b m.s.x2,.b m.s.x3,.b m.s.x4,.b m.s.x5,.s m.mem,.i m.fin]
def yazc:ByteArray:=ByteArray.mk #[]
def Mach.z:Mach:=⟨0,V6.rep 0#64,no6,yazc,0⟩
structure Outc where
 fin:Int
 t:Int
 n:Int
 ret:BitVec 64
 mem:ByteArray
def Outc.cs (r:Outc):List AC:=[.i r.fin,.i r.t,.i r.n,.u r.ret,.s r.mem]
def Outc.z:Outc:=⟨0,0,0,0#64,yazc⟩
def regB (d:Int):Bool:=decide (0≤d)&&decide (d<6)
def srcB (d:Int):Bool:=decide (d=-1)||regB d
def zc6 (x:BitVec 64):Bool:=eqb x 1#64||eqb x 2#64||eqb x 4#64||eqb x 8#64
def zch (o n:Int):Bool:=decide (0≤o)&&decide (o<n)
def zcl (i:Ins):Bool:=decide (1≤i.op)&&decide (i.op≤15)
def inB (i:Ins) (n:Int):Bool :=
 if i.op=10∨i.op=11 then regB i.d&&regB i.s&&zc6 i.im&&decide (-64≤i.of)&&decide (i.of≤64)
 else if i.op=12 then zch i.of n
 else if i.op=13∨i.op=14 then regB i.d&&srcB i.s&&zch i.of n
 else if i.op=15 then true
 else regB i.d&&srcB i.s
def zbc (i:Ins):Bool :=
 if i.op=10∨i.op=11 then true
 else if i.op=12 then decide (i.d=0)&&decide (i.s=0)&&eqb i.im 0#64
 else if i.op=13∨i.op=14 then decide (i.s=-1)||eqb i.im 0#64
 else if i.op=15 then decide (i.d=0)&&decide (i.s=0)&&eqb i.im 0#64&&decide (i.of=0)
 else decide (i.of=0)&&(decide (i.s=-1)||eqb i.im 0#64)
def zfq:List Ins→Bool
 | []=>true
 | i::l=>inB i l.length&&zfq l
def zb3 (L:List Ins):Int:=match L.getLast? with | some i=>i.op | none=>0
def zan (L:List Ins):Int :=
 if L.length=0∨64<L.length then 2
 else if L.all zcl=false then 4
 else if zfq L=false then 3
 else if L.all zbc=false then 1
 else if zb3 L≠15 then 1 else 0
structure Right (i:Ins) (n:Int):Prop where
 kind:zcl i=true
 fits:inB i n=true
 bare:zbc i=true
def zaw (i:Ins):V6 Bool :=
 if i.op=12 then no6
 else if i.op=15 then (no6).set 0 true
 else if i.s=-1 then (if i.op=1∨i.op=10 then no6 else (no6).set i.d.toNat true)
 else (if i.op=1∨i.op=10 then no6 else (no6).set i.d.toNat true).set i.s.toNat true
def bcs (v:V6 Bool):List AC:=[.b v.x0,.b v.x1,.b v.x2,.b v.x3,.b v.x4,.b v.x5]
def lacks (u s:V6 Bool):Bool:=(u.x0&&!s.x0)||(u.x1&&!s.x1)||(u.x2&&!s.x2)||(u.x3&&!s.x3)||(u.x4&&!s.x4)||(u.x5&&!s.x5)
def ybab (s:V6 Bool) (r:V6 (BitVec 64)):Bool:=(s.x0||eqb r.x0 0#64)&&(s.x1||eqb r.x1 0#64)&&(s.x2||eqb r.x2 0#64)&&(s.x3||eqb r.x3 0#64)&&(s.x4||eqb r.x4 0#64)&&(s.x5||eqb r.x5 0#64)
def yaz7 (m:Mach):Bool:=decide (m.mem.size=64)&&(decide (0≤m.fin)&&decide (m.fin≤3))&&(decide (0≤m.t)&&decide (m.t<64))
def yahb (m:Mach):Int:=if yaz7 m&&ybab m.s m.r then 0 else 1
def Mach.wth (m:Mach) (d:Nat) (x:BitVec 64):Mach:=⟨m.t,m.r.set d x,m.s.set d true,m.mem,m.fin⟩
def Mach.on (m:Mach) (o:Int):Mach:=⟨m.t+1+o,m.r,m.s,m.mem,m.fin⟩
end Go.Proofs.YtkigmocchaikgabGreatDoor
namespace Go.Proofs.YtkigmocchaikgabGreatDoor
open Go.RowKit
theorem regB_iff {d:Int}:regB d=true↔0≤d∧d<6:=by simp [regB]
theorem zcb {P:Int→Prop} {d:Int} (h:regB d=true) (h0:P 0) (h1:P 1) (h2:P 2) (h3:P 3) (h4:P 4) (h5:P 5):P d:=by
 obtain ⟨a,b⟩:=regB_iff.1 h
 have:d=0∨d=1∨d=2∨d=3∨d=4∨d=5:=by omega
 rcases this with rfl | rfl | rfl | rfl | rfl | rfl <;> assumption
theorem zbp {d:Int} (h:regB d=true):d.toNat<6:=by
 obtain ⟨a,b⟩:=regB_iff.1 h;omega
theorem srcB_iff {d:Int}:srcB d=true↔d=-1∨regB d=true:=by simp [srcB]
theorem yaj4 {P:BitVec 64→Prop} {x:BitVec 64} (h:zc6 x=true) (h1:P 1#64) (h2:P 2#64) (h4:P 4#64) (h8:P 8#64):P x:=by
 simp only [zc6,eqb,Bool.or_eq_true,beq_iff_eq] at h
 rcases h with ((rfl | rfl) | rfl) | rfl <;> assumption
theorem kind_iff {i:Ins}:zcl i=true↔1≤i.op∧i.op≤15:=by simp [zcl]
theorem yaoq {L:List Ins}:zfq L=true→∀ k,k<L.length→inB (L.getD k ⟨0,0,0,0#64,0⟩) ((L.length - 1 - k:Nat):Int)=true:=by
 induction L with
 | nil=>intro _ k hk;exact absurd hk (by simp)
 | cons i l ih =>
  intro h k hk
  simp only [zfq,Bool.and_eq_true] at h
  cases k with
  | zero=>simpa using h.1
  | succ k =>
   have:=ih h.2 k (by simpa using hk)
   simpa [Nat.sub_sub,Nat.add_comm] using this
structure RightP (L:List Ins):Prop where
 pos:0<L.length
 le:L.length≤64
 step:∀ k,k<L.length→Right (L.getD k ⟨0,0,0,0#64,0⟩) ((L.length - 1 - k:Nat):Int)
 last:(L.getD (L.length - 1) ⟨0,0,0,0#64,0⟩).op=15
theorem yaak {L:List Ins} {p:Ins→Bool} (h:L.all p=true) {k:Nat} (hk:k<L.length):p (L.getD k ⟨0,0,0,0#64,0⟩)=true:=by
 rw [List.getD_eq_getElem?_getD,List.getElem?_eq_getElem hk]
 exact List.all_eq_true.1 h _ (List.getElem_mem hk)
theorem zbu {L:List Ins} (h:zan L=0):RightP L:=by
 unfold zan at h
 by_cases c1:L.length=0∨64<L.length
 ·rw [if_pos c1] at h;exact absurd h (by decide)
 rw [if_neg c1] at h
 by_cases c2:L.all zcl=false
 ·rw [if_pos c2] at h;exact absurd h (by decide)
 rw [if_neg c2] at h
 by_cases c3:zfq L=false
 ·rw [if_pos c3] at h;exact absurd h (by decide)
 rw [if_neg c3] at h
 by_cases c4:L.all zbc=false
 ·rw [if_pos c4] at h;exact absurd h (by decide)
 rw [if_neg c4] at h
 by_cases c5:zb3 L≠15
 ·rw [if_pos c5] at h;exact absurd h (by decide)
 have d2:L.all zcl=true:=by simpa using c2
 have d3:zfq L=true:=by simpa using c3
 have d4:L.all zbc=true:=by simpa using c4
 have hp:0<L.length:=by omega
 refine ⟨hp,by omega,fun k hk=>⟨yaak d2 hk,yaoq d3 k hk,yaak d4 hk⟩,?_⟩
 have:zb3 L=15:=by omega
 unfold zb3 at this
 rw [List.getLast?_eq_getElem?] at this
 rw [List.getD_eq_getElem?_getD]
 rw [List.getElem?_eq_getElem (by omega)] at this ⊢
 exact this
theorem zbv {i:Ins} {n:Int} (h:Right i n) (ho:i.op=10∨i.op=11):regB i.d=true∧regB i.s=true∧zc6 i.im=true∧-64≤i.of∧i.of≤64:=by
 have:=h.fits
 unfold inB at this
 rw [if_pos ho] at this
 simpa [and_assoc] using this
theorem zfn {i:Ins} {n:Int} (h:Right i n) (ho:i.op=12):0≤i.of∧i.of<n∧i.d=0∧i.s=0:=by
 have h1:=h.fits
 have h2:=h.bare
 unfold inB at h1
 unfold zbc at h2
 rw [if_neg (by omega),if_pos ho] at h1 h2
 simp only [zch,Bool.and_eq_true,decide_eq_true_eq] at h1 h2
 exact ⟨h1.1,h1.2,h2.1.1,h2.1.2⟩
theorem zcd {i:Ins} {n:Int} (h:Right i n) (ho:i.op=13∨i.op=14):regB i.d=true∧srcB i.s=true∧0≤i.of∧i.of<n:=by
 have h1:=h.fits
 unfold inB at h1
 rw [if_neg (by omega),if_neg (by omega),if_pos ho] at h1
 simpa [zch,and_assoc] using h1
theorem zl5 {i:Ins} {n:Int} (h:Right i n) (ho:i.op=15):i.d=0∧i.s=0∧i.im=0#64∧i.of=0:=by
 have h2:=h.bare
 unfold zbc at h2
 rw [if_neg (by omega),if_neg (by omega),if_neg (by omega),if_pos ho] at h2
 simpa [eqb,and_assoc] using h2
theorem ze7 {i:Ins} {n:Int} (h:Right i n) (ho:i.op≤9):regB i.d=true∧srcB i.s=true∧i.of=0:=by
 have h1:=h.fits
 have h2:=h.bare
 unfold inB at h1
 unfold zbc at h2
 rw [if_neg (by omega),if_neg (by omega),if_neg (by omega),if_neg (by omega)] at h1 h2
 simp only [Bool.and_eq_true,decide_eq_true_eq] at h1 h2
 exact ⟨h1.1,h1.2,h2.1⟩
theorem zbn {i:Ins} {n:Int} (h:Right i n):regB i.d=true∧srcB i.s=true:=by
 have hk:=kind_iff.1 h.kind
 by_cases c1:i.op≤9
 ·exact ⟨(ze7 h c1).1,(ze7 h c1).2.1⟩
 by_cases c2:i.op=10∨i.op=11
 ·exact ⟨(zbv h c2).1,srcB_iff.2 (Or.inr (zbv h c2).2.1)⟩
 by_cases c3:i.op=12
 ·obtain ⟨_,_,e1,e2⟩:=zfn h c3
  rw [e1,e2];exact ⟨rfl,rfl⟩
 by_cases c4:i.op=13∨i.op=14
 ·exact ⟨(zcd h c4).1,(zcd h c4).2.1⟩
 obtain ⟨e1,e2,_⟩:=zl5 h (by omega)
 rw [e1,e2];exact ⟨rfl,rfl⟩
abbrev i0:Ins:=⟨0,0,0,0#64,0⟩
theorem zhw (i:Ins) (L:List Ins):pcell (i::L)=i.cs++pcell L:=rfl
theorem zat:∀ L:List Ins,(pcell L).length=L.length*5
 | []=>rfl
 | i::L=>by rw [zhw,List.length_append,zat L];simp [Ins.cs];omega
theorem zp0:∀ (L:List Ins) (k:Nat),(pcell L).drop (k*5)=pcell (L.drop k)
 | L,0=>by simp
 | [],k+1=>by simp [pcell]
 | i::L,k+1=>by
  rw [zhw,show (k+1)*5=i.cs.length+k*5 by simp [Ins.cs];omega,← List.drop_drop,List.drop_left,zp0 L k]
  rfl
theorem yagl {L:List Ins} {k:Nat} (h:k<L.length):L.drop k=L.getD k i0::L.drop (k+1):=by
 rw [List.drop_eq_getElem_cons h,List.getD_eq_getElem?_getD,List.getElem?_eq_getElem h]
 rfl
theorem yaa5 {L:List Ins} {k:Nat} (h:k<L.length):((pcell L).drop (k*5)).take 5=(L.getD k i0).cs:=by
 rw [zp0,yagl h,zhw]
 rfl
theorem zwn {L:List Ins} {k o:Nat} (h:k<L.length) (ho:o<5) (d:AC):(pcell L).getD (k*5+o) d=(L.getD k i0).cs.getD o d:=by
 have h1:(pcell L)[k*5+o]?=(((pcell L).drop (k*5)).take 5)[o]?:=by
  rw [List.getElem?_take,if_pos ho,List.getElem?_drop]
 rw [yaa5 h] at h1
 simp only [List.getD_eq_getElem?_getD] at h1 ⊢
 rw [h1]
theorem zaj:∀ L:List Ins,(pcell L).flatMap AC.ks=[]
 | []=>rfl
 | i::L=>by rw [zhw,List.flatMap_append,zaj L];rfl
def elt (L:List Ins) (j:Nat):Ins:=L.getD j i0
theorem zet {L:List Ins} {k:Nat} (h:k<L.length):((pcell L).drop (k*5)).take 5=(elt L k).cs:=yaa5 h
theorem yaal {L:List Ins} {k:Nat} (h:k<L.length) (d:AC):(pcell L).getD (k*5) d=.i (elt L k).op:=zwn (o:=0) h (by decide) d
theorem zhl {L:List Ins} {k:Nat} (h:k<L.length):L.drop k=elt L k::L.drop (k+1):=yagl h
abbrev zco:AC:=AC.v (Value.slice none 0 0) rfl
def zcx (p:Nat→Bool):Nat→Bool
 | 0=>false
 | n+1=>p (5 - n)||zcx p n
theorem zj5 (u s:V6 Bool):lacks u s=zcx (fun j=>u.get j&&!s.get j) 6:=by
 simp only [lacks,zcx,V6.get,Bool.or_false,Bool.or_assoc]
 rfl
theorem zg8 {P:Program} {f:FuncId} {fn:Func} {args:List AV} {H:List (Nat×Ent)} {n:Nat} {v:AV} (hf:P.funcs[f]?=some fn) (hb:fn.body.isSome=true) (hN:Nat.ble args.length fn.ntmps=true) (hB:Begin args H n) (hv:v.ks=[]) (hro:∀ k en,look H k=some en→en.wr=false)
  (h:∀ w β,ART P f (cx w β n []) fn.ntmps [.code (zdn fn)] (Kn.start args H n) (REff w β ⟨v,[],none⟩)):CallOK P ⟨f,args,H,⟨v,[],none⟩⟩ :=
 zns [] none hf hb hN hB (fun k hk=>(by simp only at hk;rw [hv] at hk;cases hk)) (fun _ _ h=>(nomatch h)) (fun _ h=>(nomatch h)) (zau hv n) (fun _ _ hm=>(nomatch hm)) (fun k en h1 h2=>(by rw [hro k en h1] at h2;cases h2)) fun w β _=>h w β
abbrev pH (L:List Ins):List (Nat×Ent):=[(0,⟨false,pcell L,0⟩)]
theorem zsk {L:List Ins} {k:Nat} {e:Ent} (h:look (pH L) k=some e):k=0∧e=⟨false,pcell L,0⟩:=by
 rw [zav] at h
 split at h
 ·rename_i hk;injection h with h;exact ⟨hk,h.symm⟩
 ·cases h
theorem zqo {L:List Ins} {args:List AV} (h:(ze2 args).all (fun k=>Nat.blt k 1)=true):Begin args (pH L) 1:=by
 refine ⟨fun v hv k hk=>?_,fun k e he=>?_⟩
 ·have h1:k∈ze2 args:=List.mem_flatMap.2 ⟨v,hv,hk⟩
  have h2:=List.all_eq_true.1 h k h1
  simpa using h2
 ·obtain ⟨rfl,rfl⟩:=zsk he
  exact ⟨by decide,fun c hc j hj=>(zeu (zaj L) hc hj).elim⟩
theorem zle {L:List Ins} {T:List (Nat×AV)} (h:(T.flatMap fun x=>x.2.ks).all (fun k=>Nat.blt k 1)=true):Kn.Low ⟨T,pH L,1⟩:=by
 refine ⟨fun t v hv k hk=>?_,fun k e he=>?_⟩
 ·have h1:k∈T.flatMap fun x=>x.2.ks:=List.mem_flatMap.2 ⟨(t,v),zdq hv,hk⟩
  have h2:=List.all_eq_true.1 h k h1
  simpa using h2
 ·obtain ⟨rfl,rfl⟩:=zsk he
  exact ⟨by show 0<1;decide,fun c hc j hj=>(zeu (zaj L) hc hj).elim⟩
theorem ro_p {L:List Ins} (k:Nat) (en:Ent) (h:look (pH L) k=some en):en.wr=false:=by
 obtain ⟨_,rfl⟩:=zsk h;rfl
theorem jl {j:Nat} {L:List Ins} (h:j<L.length):decide ((j:Int)<(L.length:Int))=true:=decide_eq_true (by omega)
theorem jn {j:Nat} {L:List Ins} (h:¬ j<L.length):decide ((j:Int)<(L.length:Int))=false:=decide_eq_false (by omega)
theorem pble {j:Nat} {L:List Ins} (h:j<L.length):Nat.ble (0+Int.toNat (j:Int)*5+5) (pcell L).length=true:=by
 rw [zat,Nat.ble_eq];omega
theorem zdj {j:Nat} {L:List Ins} (h:j<L.length):Eff.mk (AV.ag (List.take 5 (List.drop (0+Int.toNat (j:Int)*5) (pcell L)))) [] none=Eff.mk (AV.ag (elt L j).cs) [] none:=by
 rw [Nat.zero_add,Int.toNat_natCast,zet h]
theorem zhz {j:Nat} (h:j≤64):IntKind.wrap IntKind.i64 ((j:Int)+1)=((j+1:Nat):Int):=by
 rw [IntKind.wrap_i64];omega
def nkH:List (Nat×Ent)→Prop
 | []=>True
 | x::l=>x.2.cells.flatMap AC.ks=[]∧nkH l
theorem yaav:∀ {H:List (Nat×Ent)} {k:Nat} {e:Ent},nkH H→look H k=some e→e.cells.flatMap AC.ks=[]
 | [],_,_,_,h=>by cases h
 | (j,x)::l,k,e,hn,h=>by
  rw [zav] at h
  split at h
  ·injection h with h;subst h;exact hn.1
  ·exact yaav hn.2 h
theorem zg9 {T:List (Nat×AV)} {H:List (Nat×Ent)} {n:Nat} (h:(T.flatMap fun x=>x.2.ks).all (fun k=>Nat.blt k n)=true) (hk:(H.map (·.1)).all (fun k=>Nat.blt k n)=true) (hH:nkH H):Kn.Low ⟨T,H,n⟩:=by
 refine ⟨fun t v hv k hk=>?_,fun k e he=>⟨?_,fun c hc j hj=>(zeu (yaav hH he) hc hj).elim⟩⟩
 ·have h1:k∈T.flatMap fun x=>x.2.ks:=List.mem_flatMap.2 ⟨(t,v),zdq hv,hk⟩
  have h2:=List.all_eq_true.1 h k h1
  simpa using h2
 ·have h2:=List.all_eq_true.1 hk k (List.mem_map.2 ⟨(k,e),zdq he,rfl⟩)
  simpa using h2
theorem zks {P:Program} {f:FuncId} {fn:Func} {args:List AV} {K:Nat} {en:Ent} {v:AV} (hf:P.funcs[f]?=some fn) (hb:fn.body.isSome=true) (hN:Nat.ble args.length fn.ntmps=true) (hk:ze2 args=[]) (hv:v.ks=[K]) (hc:en.cells.flatMap AC.ks=[])
  (h:∀ w β,EKeys 0 [] (some K) ⟨v,[],some (K,en)⟩→ART P f (cx w β 0 []) fn.ntmps [.code (zdn fn)] (Kn.start args [] 0) (REff w β ⟨v,[],some (K,en)⟩)):CallOK P ⟨f,args,[],⟨v,[],some (K,en)⟩⟩:=by
 have e:EKeys 0 [] (some K) ⟨v,[],some (K,en)⟩:=by
  refine ⟨fun k hk=>Or.inr ?_,fun _ _ hm=>(nomatch hm),fun k en' h'=>?_,fun _ h=>(nomatch h),fun k h=>⟨Nat.zero_le _,rfl⟩⟩
  ·simp only at hk;rw [hv] at hk;rw [List.mem_singleton.1 hk]
  ·injection h' with h';injection h' with _ h';subst h';exact hc
 refine zns [] (some K) hf hb hN (zvr hk) (fun k hk=>Or.inr ?_) (fun k en' h'=>?_) (fun k h=>⟨en,?_⟩) e (fun _ _ hm=>(nomatch hm)) (fun _ _ h=>(nomatch h)) fun w β _=>h w β e
 ·simp only at hk;rw [hv] at hk;rw [List.mem_singleton.1 hk]
 ·injection h' with h';injection h' with h' _;rw [h']
 ·injection h with h;subst h;rfl
def swp (a b:Nat) (j:Nat):Nat:=if j=a then b else if j=b then a else j
theorem zbm (a b:Nat):∀ i j,swp a b i=swp a b j→i=j:=by
 intro i j h
 unfold swp at h
 split at h <;> split at h <;> (try split at h) <;> (try split at h) <;> omega
end Go.Proofs.YtkigmocchaikgabGreatDoor
namespace Go.Proofs.YtkigmocchaikgabGreatDoor
open Go.ChangeShapes Go.WideShapes Go.ChangeAt Go.RowKit Go.Joins
section
variable {H:Type} {enc:TypeId×Value→H} {W:World} {b0:Nat} {spare:Nat→Bool} {held:Bool} {v:Value} {d:DataW H} {p:List MemPlace}
set_option maxRecDepth 100000 in
theorem yatp (hv:Value.okWide Tryz.prog W .any b0 9 v):∃ s,v=.string s:=okWide_string Tryz.underlying9 hv
def PAt (W:World) (b o:Nat) (L:List Ins):Prop:=b<W.heap.size∧∀ j c,(pcell L)[j]?=some c→∀ β,W.cell? ⟨b,o+j,none⟩=some (AC.g β c)
theorem yaj9 (L M:List Ins):pcell (L++M)=pcell L++pcell M:=by simp [pcell]
end
end Go.Proofs.YtkigmocchaikgabGreatDoor
namespace Go.Proofs.YtkigmocchaikgabGreatDoor
structure V4 where
 v:BitVec 64
 m:BitVec 64
 l:BitVec 64
 h:BitVec 64
theorem V4.ext' {a b:V4} (h1:a.v=b.v) (h2:a.m=b.m) (h3:a.l=b.l) (h4:a.h=b.h):a=b:=by cases a;cases b;simp_all
def V4.cs (a:V4):List AC:=[.u a.v,.u a.m,.u a.l,.u a.h]
def V4.z:V4:=⟨zero,zero,zero,zero⟩
def V4.rt (a:V4):Bool:=eqb (band a.v a.m) zero
def V4.ok (a:V4):Bool:=valB a.v a.m a.l a.h
def V4.nok (a:V4):Bool:=zc7 a.v a.m a.l a.h
def V4.nrm (a:V4):V4:=⟨nV a.v a.m a.l a.h,nM a.m (nLo a.v a.m a.l) (nHi a.v a.m a.h),nLo a.v a.m a.l,nHi a.v a.m a.h⟩
def V4.norm (a:V4):V4:=if a.nok then a.nrm else V4.z
def V4.has (a:V4) (x:BitVec 64):Bool:=hasV a.v a.m a.l a.h x
def V4.of (x:BitVec 64):V4:=⟨x,zero,x,x⟩
def V4.any:V4:=⟨zero,top,zero,top⟩
def V4.alone (a:V4):Bool:=eqb a.l a.h
def V4.rawJoin (a b:V4):V4:=⟨jV a.v a.m b.v b.m,jM a.v a.m b.v b.m,bmin a.l b.l,bmax a.h b.h⟩
def V4.join (a b:V4):V4:=(a.rawJoin b).nrm
def V4.raw2 (op:Int) (a b:V4):V4 :=
 ⟨(rk op a.v a.m a.l a.h b.v b.m b.l b.h).1,(rk op a.v a.m a.l a.h b.v b.m b.l b.h).2.1,(rk op a.v a.m a.l a.h b.v b.m b.l b.h).2.2.1,(rk op a.v a.m a.l a.h b.v b.m b.l b.h).2.2.2⟩
def V4.two (op:Int) (a b:V4):V4:=(V4.raw2 op a b).norm
def lvV (p:Bool) (a:V4):V4:=if p then a else V4.z
def zhe (may:Bool) (x y:V4):V4×V4×Bool:=(lvV (may&&(x.nok&&y.nok)) x.nrm,lvV (may&&(x.nok&&y.nok)) y.nrm,may&&(x.nok&&y.nok))
def V4.meets (a b:V4):Bool:=eqb (bandn (bxor a.v b.v) (bor a.m b.m)) zero
def V4.rawEqual (a b:V4):V4:=⟨bor a.v b.v,band a.m b.m,bmax a.l b.l,bmin a.h b.h⟩
def V4.equal (a b:V4):V4×V4×Bool:=if a.meets b then zhe true (a.rawEqual b) (a.rawEqual b) else (V4.z,V4.z,false)
def V4.without (a b:V4):V4:=⟨a.v,a.m,woL a.l b.l b.h,woH a.l a.h b.l b.h⟩
def V4.other (a b:V4):V4×V4×Bool:=zhe (!(a.alone&&(b.alone&&eqb a.l b.l))) (a.without b) (b.without a)
def V4.less (a b:V4):V4×V4×Bool :=
 if eqb b.h zero||eqb a.l top then (V4.z,V4.z,false)
 else zhe true ⟨a.v,a.m,a.l,bmin a.h (bsub b.h one)⟩ ⟨b.v,b.m,bmax b.l (badd a.l one),b.h⟩
def V4.notLess (a b:V4):V4×V4×Bool:=zhe true ⟨a.v,a.m,bmax a.l b.l,a.h⟩ ⟨b.v,b.m,b.l,bmin b.h a.h⟩
def zmt (n:Int):BitVec 64:=if n=8 then top else if n=4 then 4294967295#64 else if n=2 then 65535#64 else 255#64
def V4.bytes (n:Int):V4:=⟨zero,zmt n,zero,zmt n⟩
theorem zs8 (x:BitVec 64):bmax x x=x:=by unfold bmax;split <;> rfl
theorem zvi (x:BitVec 64):bmin x x=x:=by unfold bmin;split <;> rfl
structure St where
 live:Bool
 s:V6 Bool
 r:V6 V4
def St.cs (t:St):List AC:=[.b t.live,.b t.s.x0,.b t.s.x1,.b t.s.x2,.b t.s.x3,.b t.s.x4,.b t.s.x5,
 .u t.r.x0.v,.u t.r.x0.m,.u t.r.x0.l,.u t.r.x0.h,.u t.r.x1.v,.u t.r.x1.m,.u t.r.x1.l,.u t.r.x1.h,.u t.r.x2.v,.u t.r.x2.m,.u t.r.x2.l,.u t.r.x2.h,
 .u t.r.x3.v,.u t.r.x3.m,.u t.r.x3.l,.u t.r.x3.h,.u t.r.x4.v,.u t.r.x4.m,.u t.r.x4.l,.u t.r.x4.h,.u t.r.x5.v,.u t.r.x5.m,.u t.r.x5.l,.u t.r.x5.h]
def St.z:St:=⟨false,no6,V6.rep V4.z⟩
def St.e:St:=⟨true,no6,V6.rep V4.z⟩
def badR (t:St) (j:Nat):Bool:=bif t.s.get j then !(t.r.get j).ok else !eqCs (t.r.get j).cs V4.z.cs
def St.ok (t:St):Bool:=(t.live||eqCs t.cs St.z.cs)&&!zcx (badR t) 6
def St.wth (t:St) (d:Nat) (a:V4):St:=⟨t.live,t.s.set d true,t.r.set d a⟩
def beginS:St:=St.e.wth 1 V4.any
def yavo (t:St) (m:Mach) (j:Nat):Bool:=t.s.get j&&!(m.s.get j&&(t.r.get j).has (m.r.get j))
def St.has (t:St) (m:Mach):Bool:=t.ok&&(t.live&&(decide (yahb m=0)&&(decide (m.fin=0)&&!zcx (yavo t m) 6)))
def zhx (t u:St) (j:Nat) (b:St):St:=if t.s.get j&&u.s.get j then b.wth j ((t.r.get j).join (u.r.get j)) else b
def zcy (t u:St):Nat→St→St
 | 0,b=>b
 | n+1,b=>zcy t u n (zhx t u (5 - n) b)
def St.join (t u:St):St:=if t.live then (if u.live then zcy t u 6 St.e else t) else u
def zgu:Ins:=⟨15,0,0,0#64,0⟩
def zfv (i:Ins):Bool:=zcl i&&(inB i 65&&zbc i)
def srcV (i:Ins) (t:St):V4:=if i.s=-1 then V4.of i.im else t.r.get i.s.toNat
def farS (i:Ins) (a:V4):Bool:=decide (nv (bsub 64#64 i.im)<nv (V4.two 2 a (V4.of (BitVec.ofInt 64 i.of))).h)
def zej (i:Ins) (t:St):Int :=
 if lacks (zaw i) t.s then 1
 else if i.op=10 then (if farS i (t.r.get i.s.toNat) then 2 else 0)
 else if i.op=11 then (if farS i (t.r.get i.d.toNat) then 2 else 0)
 else 0
def zeo (i:Ins) (t:St) (x:V4×V4×Bool):St :=
 if x.2.2 then (if i.s=-1 then t.wth i.d.toNat x.1 else (t.wth i.d.toNat x.1).wth i.s.toNat x.2.1) else St.z
def goS (i:Ins) (t:St):St×St :=
 if i.op=10 then (t.wth i.d.toNat (V4.bytes (nv i.im)),St.z)
 else if i.op=11 then (t,St.z)
 else if i.op=12 then (St.z,t)
 else if i.op=13 then (zeo i t ((t.r.get i.d.toNat).other (srcV i t)),zeo i t ((t.r.get i.d.toNat).equal (srcV i t)))
 else if i.op=14 then (zeo i t ((t.r.get i.d.toNat).notLess (srcV i t)),zeo i t ((t.r.get i.d.toNat).less (srcV i t)))
 else if i.op=15 then (St.z,St.z)
 else if i.op=1 then (t.wth i.d.toNat (srcV i t),St.z)
 else (t.wth i.d.toNat (V4.two i.op (t.r.get i.d.toNat) (srcV i t)),St.z)
def zag (i:Ins) (t:St):St×St×Int :=
 if t.live then (if zej i t=0 then ((goS i t).1,(goS i t).2,0) else (St.z,St.z,zej i t)) else (St.z,St.z,0)
def yaem (i:Ins) (t:St):Int:=if zfv i&&t.ok then 0 else 1
def zo0 (i:Ins) (t:St):St×St×Int:=if zfv i&&t.ok then zag i t else (St.z,St.z,0)
theorem yaih (t:St):t.cs.length=31:=rfl
theorem yanu {t:St} {r:Int} (h:regB r=true):List.take 4 (List.drop (7+r.toNat*4) t.cs)=(t.r.get r.toNat).cs :=
 zcb (P:=fun r=>List.take 4 (List.drop (7+r.toNat*4) t.cs)=(t.r.get r.toNat).cs) h rfl rfl rfl rfl rfl rfl
theorem zsu {t:St} {r:Int} (h:regB r=true):t.cs.set (1+r.toNat*1) (.b true)=(St.mk t.live (t.s.set r.toNat true) t.r).cs :=
 zcb (P:=fun r=>t.cs.set (1+r.toNat*1) (.b true)=(St.mk t.live (t.s.set r.toNat true) t.r).cs) h rfl rfl rfl rfl rfl rfl
theorem zsm {t:St} {r:Int} (a:V4) (h:regB r=true):splice t.cs (7+r.toNat*4) a.cs=(St.mk t.live t.s (t.r.set r.toNat a)).cs :=
 zcb (P:=fun r=>splice t.cs (7+r.toNat*4) a.cs=(St.mk t.live t.s (t.r.set r.toNat a)).cs) h rfl rfl rfl rfl rfl rfl
structure Rep where
 trap:Int
 pos:Int
 sts:List St
def scell (l:List St):List AC:=l.flatMap St.cs
def stAt (S:List St) (k:Nat):St:=S.getD k St.z
def addS (S:List St) (k:Nat) (t:St):List St:=if t.live then S.set k ((stAt S k).join t) else S
def verL (L:List Ins):Nat→Nat→List St→Rep
 | 0,_,S=>⟨0,0,S⟩
 | n+1,k,S=>if (zag (elt L k) (stAt S k)).2.2=0 then verL L n (k+1) (addS (addS S (k+1) (zag (elt L k) (stAt S k)).1) (k+1+(elt L k).of.toNat) (zag (elt L k) (stAt S k)).2.1)
  else ⟨(zag (elt L k) (stAt S k)).2.2,k,S.take (k+1)⟩
def zev (n:Nat):List St:=(List.replicate n St.z).set 0 beginS
def zar (L:List Ins):Rep:=verL L L.length 0 (zev L.length)
def onI:Ins:=⟨12,0,0,0#64,0⟩
def zak (i:Ins):Bool:=i.op==13||i.op==14
def zfo (i:Ins) (t:St):Ins :=
 if t.live then
  (if decide (i.op≤9)&&((zag i t).1.r.get i.d.toNat).alone then ⟨1,i.d,-1,((zag i t).1.r.get i.d.toNat).l,0⟩
  else if zak i&&!(zag i t).2.1.live then onI
  else if zak i&&!(zag i t).1.live then ⟨12,0,0,0#64,i.of⟩
  else i)
 else onI
def zci (S:List St):List Ins→Nat→List Ins
 | [],_=>[]
 | [i],_=>[i]
 | i::j::l,k=>zfo i (stAt S k)::zci S (j::l) (k+1)
def zel (L:List Ins):List Ins:=if (zar L).trap=0 then zci (zar L).sts L 0 else L
def orS (a b:V6 Bool):V6 Bool:=⟨a.x0||b.x0,a.x1||b.x1,a.x2||b.x2,a.x3||b.x3,a.x4||b.x4,a.x5||b.x5⟩
def lvAt (A:List (V6 Bool)) (k:Nat):V6 Bool:=A.getD k no6
def yaf9 (i:Ins) (A:List (V6 Bool)):V6 Bool :=
 if i.op=15 then no6 else if i.op=12 then lvAt A i.of.toNat else if zak i then orS (lvAt A 0) (lvAt A i.of.toNat) else lvAt A 0
def zec (i:Ins) (b:V6 Bool):Ins:=if decide (i.op≤10)&&!b.get i.d.toNat then onI else i
def zfh (i:Ins) (b:V6 Bool):V6 Bool:=orS (zaw i) (if i.op≤10 then b.set i.d.toNat false else b)
def ridR:List Ins→List Ins×List (V6 Bool)
 | []=>([],[])
 | i::l=>(zec i (yaf9 i (ridR l).2)::(ridR l).1,zfh (zec i (yaf9 i (ridR l).2)) (yaf9 i (ridR l).2)::(ridR l).2)
def ze3 (L:List Ins):List Ins:=if (zar L).trap=0 then (ridR L).1 else L
def rcell (A:List (V6 Bool)):List AC:=A.flatMap bcs
def fL:List Ins:=[⟨1,2,-1,5#64,0⟩,⟨5,1,-1,3#64,0⟩,⟨14,1,2,0#64,1⟩,⟨1,1,-1,9#64,0⟩,⟨1,0,2,0#64,0⟩,⟨15,0,0,0#64,0⟩]
def fF:List Ins:=[⟨1,2,-1,5#64,0⟩,⟨5,1,-1,3#64,0⟩,⟨12,0,0,0#64,1⟩,onI,⟨1,0,-1,5#64,0⟩,⟨15,0,0,0#64,0⟩]
def fD:List Ins:=[onI,onI,⟨12,0,0,0#64,1⟩,onI,⟨1,0,-1,5#64,0⟩,⟨15,0,0,0#64,0⟩]
end Go.Proofs.YtkigmocchaikgabGreatDoor
