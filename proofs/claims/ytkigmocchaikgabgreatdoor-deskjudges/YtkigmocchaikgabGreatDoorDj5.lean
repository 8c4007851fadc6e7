import Derived.Test.YtkigmocchaikgabGreatDoorDj4
import Derived.Test.YtkigmocchaikgabGreatDoorDj2
import Derived.Test.YtkigmocchaikgabGreatDoorProg
import Derived.WalkKit
import Derived.WalkSpells
import Derived.WalkLawsBesides
import Derived.Deep.QuietTactic
import Derived.BigQuiet
import Derived.Handy
import Derived.Lib.BitFns
/- The contracts of the reference's small functions, of CheckCode, CheckMachine, StartOf and uses. -/
namespace Go.Proofs.YtkigmocchaikgabGreatDoor
open Go.RowKit
theorem zao (op:Int):Ok 34 [.c (.i op)] (.c (.b (op==13||op==14))):=by
 apply zon <;> (intros;simp_all)
theorem zga (op:Int):Ok 75 [.c (.i op)] (.c (.b (op==10||op==11))):=by
 apply zo0 <;> (intros;simp_all)
theorem zb6 (a lo hi:Int):Ok 35 [.c (.i a),.c (.i lo),.c (.i hi)] (.c (.b (decide (lo≤a)&&decide (a≤hi)))):=by
 apply zqp <;> (intro h;rw [h];rfl)
theorem zdt (op:Int):Ok 38 [.c (.i op)] (.c (.b (decide (1≤op)&&decide (op≤9)))):=zrb (zb6 _ _ _)
theorem yaec (d:Int):(decide (0≤d)&&decide (d≤5))=regB d:=by
 unfold regB
 congr 1
 exact decide_eq_decide.2 (by omega)
theorem yain (d:Int):Ok 122 [.c (.i d)] (.c (.b (regB d))):=by
 rw [← yaec]
 exact yal2 (zb6 _ _ _)
theorem yatt {i:Ins} {q:Int} (h:1≤i.op∧i.op≤9):inB i q=(regB i.d&&srcB i.s):=by
 unfold inB
 rw [if_neg (by omega),if_neg (by omega),if_neg (by omega),if_neg (by omega)]
theorem yaj2 {i:Ins} (h:1≤i.op∧i.op≤9):zbm i=(decide (i.of=0)&&(decide (i.s=-1)||eqb i.im 0#64)):=by
 unfold zbm
 rw [if_neg (by omega),if_neg (by omega),if_neg (by omega),if_neg (by omega)]
theorem zld {i:Ins} (q:Int) (hk:zcl i=true):Ok 71 [.ag i.cs,.c (.i q)] (.c (.b (inB i (q+1)))):=by
 have hw:(decide (i.of<q+1))=decide (i.of≤q):=decide_eq_decide.2 (by omega)
 have hr:=kind_iff.1 hk
 have hc:(1≤i.op∧i.op≤9)∨i.op=10∨i.op=11∨i.op=12∨i.op=13∨i.op=14∨i.op=15:=by omega
 apply zrn
 all_goals intros
 all_goals repeat' apply And.intro
 all_goals first
  | exact yain _
  | exact zao _
  | exact zga _
  | exact zdt _
  | exact zb6 _ _ _
  | skip
 all_goals (refine congrArg (fun b=>AV.c (AC.b b)) ?_)
 all_goals
  rcases hc with hc | hc | hc | hc | hc | hc | hc
  ·rw [yatt hc]
   simp_all [srcB]
   try first | rfl | omega
  all_goals (simp_all [inB,srcB,zci,zdc];try first | rfl | omega)
theorem zkv {i:Ins} (hk:zcl i=true):Ok 72 [.ag i.cs] (.c (.b (zbm i))):=by
 have hr:=kind_iff.1 hk
 have hc:(1≤i.op∧i.op≤9)∨i.op=10∨i.op=11∨i.op=12∨i.op=13∨i.op=14∨i.op=15:=by omega
 apply zsi
 all_goals intros
 all_goals repeat' apply And.intro
 all_goals first
  | exact zao _
  | exact zdt _
  | skip
 all_goals (refine congrArg (fun b=>AV.c (AC.b b)) ?_)
 all_goals
  rcases hc with hc | hc | hc | hc | hc | hc | hc
  ·rw [yaj2 hc]
   simp_all
   try omega
  all_goals (simp_all [zbm,eqCs,eqC,splice,Ins.cs,Bool.and_assoc];try rfl;try omega)
section
variable {L:List Ins} {c:Nat} {w:World} {β:Bs} {E:Eff}
abbrev rcKn (L:List Ins) (c a:Nat) (j:Int):Kn:=⟨[(0,.c (.sl 0 0 L.length c)),(a,.c (.i j))],pH L,1⟩
theorem yaqm {j:Nat} (h:j<L.length):(pcell L)[0+Int.toNat (j:Int)*5+0]?=some (.i (elt L j).op):=by
 have h1:=yabf (L:=L) (k:=j) h (.b false)
 have h2:j*5<(pcell L).length:=by rw [zat];omega
 rw [List.getD_eq_getElem?_getD,List.getElem?_eq_getElem h2] at h1
 rw [show 0+Int.toNat (j:Int)*5+0=j*5 by omega,List.getElem?_eq_getElem h2]
 exact congrArg some h1
theorem yabg (hL:L.length≤64):∀ n j:Nat,j+n=L.length→((L.drop j).all zcl=false→⟨.c (.i 4),[],none⟩=E) →
  ((L.drop j).all zcl=true→ART Tryz.prog 29 (cx w β 1 []) Tryz.f29.ntmps (zdk Tryz.f29 1) (rcKn L c 4 0) (REff w β E)) →
  ART Tryz.prog 29 (cx w β 1 []) Tryz.f29.ntmps (zdk Tryz.f29 0) (rcKn L c 3 j) (REff w β E)
 | 0,j,h,hy,hz=>by
  refine yar9 (by rw [jn (by omega)];rfl) (zle rfl) (fun _ h=>h) (hz ?_)
  rw [List.drop_eq_nil_of_le (by omega)];rfl
 | n+1,j,h,hy,hz=>by
  have hj:j<L.length:=by omega
  rw [zho hj,List.all_cons] at hy hz
  have o2:(AC.isI (Option.getD (pcell L)[0+Int.toNat (j:Int)*5+0]? (AC.b false))&&Nat.blt (0+Int.toNat (j:Int)*5+0) (pcell L).length)=true:=by
   rw [yaqm hj,zat];simp [AC.isI];omega
  have c0:Eff.mk (AV.c (AC.i (AC.asI (Option.getD (pcell L)[0+Int.toNat (j:Int)*5+0]? (AC.b false))))) [] none=Eff.mk (AV.c (AC.i (elt L j).op)) [] none:=by rw [yaqm hj];rfl
  refine yaue (by omega) (fun a=>⟨jl hj,jl hj,o2,c0,zb6 _ _ _,hy ?_⟩) (fun a=>⟨jl hj,jl hj,o2,c0,zb6 _ _ _,zle rfl,?_⟩)
  ·have:zcl (elt L j)=false:=by simp at a;simp [zcl];omega
   rw [this];rfl
  ·have:zcl (elt L j)=true:=by simpa [zcl] using a
   rw [this] at hy hz
   rw [zhy (by omega)]
   exact yabg hL n (j+1) (by omega) (fun h=>hy h) (fun h=>hz h)
theorem yabd (hL:L.length≤64) (hK:L.all zcl=true):∀ n j:Nat,j+n=L.length→(zff (L.drop j)=false→⟨.c (.i 3),[],none⟩=E) →
  (zff (L.drop j)=true→ART Tryz.prog 29 (cx w β 1 []) Tryz.f29.ntmps (zdk Tryz.f29 2) (rcKn L c 5 0) (REff w β E)) →
  ART Tryz.prog 29 (cx w β 1 []) Tryz.f29.ntmps (zdk Tryz.f29 1) (rcKn L c 4 j) (REff w β E)
 | 0,j,h,hy,hz=>by
  refine yast (by rw [jn (by omega)];rfl) (zle rfl) (fun _ h=>h) (hz ?_)
  rw [List.drop_eq_nil_of_le (by omega)];rfl
 | n+1,j,h,hy,hz=>by
  have hj:j<L.length:=by omega
  have el:((L.drop (j+1)).length:Int)=((L.length - 1 - j:Nat):Int):=by rw [List.length_drop];omega
  rw [zho hj,zff,el] at hy hz
  have hk:zcl (elt L j)=true:=yaby hK hj
  have ew:IntKind.wrap IntKind.i64 (IntKind.wrap IntKind.i64 ((L.length:Int) - 2) - (j:Int))=((L.length - 1 - j:Nat):Int) - 1:=by
   rw [zfr (n:=(L.length:Int) - 2) (by omega) (by omega),zfr (by omega) (by omega)];omega
  have c1:Eff.mk (AV.c (AC.i (IntKind.wrap IntKind.i64 (IntKind.wrap IntKind.i64 ((L.length:Int) - 2) - (j:Int))))) [] none=Eff.mk (AV.c (AC.i (((L.length - 1 - j:Nat):Int) - 1))) [] none:=by rw [ew]
  have c2:Eff.mk (AV.c (AC.b (inB (elt L j) (((L.length - 1 - j:Nat):Int) - 1+1)))) [] none=Eff.mk (AV.c (AC.b (inB (elt L j) ((L.length - 1 - j:Nat):Int)))) [] none:=by
   rw [show ((L.length - 1 - j:Nat):Int) - 1+1=((L.length - 1 - j:Nat):Int) by omega]
  refine yasj (by omega) (fun a=>⟨jl hj,jl hj,pble hj,zdi hj,c1,c2,zld _ hk,hy ?_⟩) (fun a=>⟨jl hj,jl hj,pble hj,zdi hj,c1,c2,zld _ hk,zle rfl,?_⟩)
  ·have:inB (elt L j) ((L.length - 1 - j:Nat):Int)=false:=by simpa using a
   rw [this];rfl
  ·have:inB (elt L j) ((L.length - 1 - j:Nat):Int)=true:=by simpa using a
   rw [this] at hy hz
   rw [zhy (by omega)]
   exact yabd hL hK n (j+1) (by omega) (fun h=>hy h) (fun h=>hz h)
theorem yaa9 (h0:0<L.length) (hL:L.length≤64) (hK:L.all zcl=true):∀ n j:Nat,j+n=L.length→((L.drop j).all zbm=false→⟨.c (.i 1),[],none⟩=E) →
  ((L.drop j).all zbm=true→⟨.c (.i (if zb9 L≠15 then 1 else 0)),[],none⟩=E) →
  ART Tryz.prog 29 (cx w β 1 []) Tryz.f29.ntmps (zdk Tryz.f29 2) (rcKn L c 5 j) (REff w β E)
 | 0,j,h,hy,hz=>by
  have hz:=hz (by rw [List.drop_eq_nil_of_le (by omega)];rfl)
  have o0:(!decide ((j:Int)<(L.length:Int)))=true:=by rw [jn (by omega)];rfl
  have o1:(decide (0≤IntKind.wrap IntKind.i64 ((L.length:Int) - 1))&&decide (IntKind.wrap IntKind.i64 ((L.length:Int) - 1)<(L.length:Int)))=true:=by
   rw [zfr (by omega) (by omega)];simp;omega
  have o2:(AC.isI (Option.getD (pcell L)[0+Int.toNat (IntKind.wrap IntKind.i64 ((L.length:Int) - 1))*5+0]? (AC.b false))&&Nat.blt (0+Int.toNat (IntKind.wrap IntKind.i64 ((L.length:Int) - 1))*5+0) (pcell L).length)=true:=by
   rw [zhs h0 hL,zfr (by omega) (by omega),zat];simp [AC.isI];omega
  have c0:Eff.mk (AV.c (AC.i (AC.asI (Option.getD (pcell L)[0+Int.toNat (IntKind.wrap IntKind.i64 ((L.length:Int) - 1))*5+0]? (AC.b false))))) [] none=Eff.mk (AV.c (AC.i (zb9 L))) [] none:=by rw [zhs h0 hL];rfl
  refine yao1 (fun a=>⟨o0,o1,o2,c0,?_⟩) (fun a=>⟨o0,o1,o2,c0,?_⟩)
  ·rw [← hz,if_pos (by simpa using a)]
  ·rw [← hz,if_neg (by simpa using a)]
 | n+1,j,h,hy,hz=>by
  have hj:j<L.length:=by omega
  have hk:zcl (elt L j)=true:=yaby hK hj
  rw [zho hj,List.all_cons] at hy hz
  refine yauc (by omega) (fun a=>⟨jl hj,jl hj,pble hj,zdi hj,zkv hk,hy ?_⟩) (fun a=>⟨jl hj,jl hj,pble hj,zdi hj,zkv hk,zle rfl,?_⟩)
  ·have:zbm (elt L j)=false:=by simpa using a
   rw [this];rfl
  ·have:zbm (elt L j)=true:=by simpa using a
   rw [this] at hy hz
   rw [zhy (by omega)]
   exact yaa9 h0 hL hK n (j+1) (by omega) (fun h=>hy h) (fun h=>hz h)
end
theorem zwj (L:List Ins) (c:Nat):CallOK Tryz.prog ⟨29,[.c (.sl 0 0 L.length c)],pH L,⟨.c (.i (zan L)),[],none⟩⟩:=by
 refine zg9 Tryz.func29 rfl rfl (zs3 rfl) rfl ro_p fun w β=>?_
 refine yal1 (Nat.le_refl 1) (fun a=>⟨zb6 _ _ _,?_⟩) (fun a=>⟨zb6 _ _ _,zle rfl,?_⟩)
 ·unfold zan
  rw [if_pos (by simp at a;omega)]
 ·have h:1≤(L.length:Int)∧(L.length:Int)≤64:=by simpa using a
  have h0:0<L.length:=by omega
  have h1:L.length≤64:=by omega
  unfold zan
  rw [if_neg (by omega)]
  refine yabg h1 L.length 0 (by omega) (fun h=>?_) (fun h=>?_)
  ·rw [if_pos (by simpa using h)]
  ·have hK:L.all zcl=true:=by simpa using h
   rw [if_neg (by simpa using h)]
   refine yabd h1 hK L.length 0 (by omega) (fun h=>?_) (fun h=>?_)
   ·rw [if_pos (by simpa using h)]
   ·rw [if_neg (by simpa using h)]
    refine yaa9 h0 h1 hK L.length 0 (by omega) (fun h=>?_) (fun h=>?_)
    ·rw [if_pos (by simpa using h)]
    ·have e:¬ (L.all zbm=false):=by simpa using h
     rw [if_neg e]
theorem zqr:Ok 29 [.c zcu] (.c (.i (zan []))):=yamo (zb6 _ _ _)
theorem zhl {op d s of:Int} {im:BitVec 64} (K:Nat) (h:(2≤op∧op≤9)∨op=11∨op=13∨op=14) (hs:s≠-1) :
  CallOK Tryz.prog ⟨37,[.ag (Ins.mk op d s im of).cs],[],⟨.c (.sx K 2),[],some (K,⟨true,[.i d,.i s],1⟩)⟩⟩:=by
 have b:(s != -1)=true:=by simpa using hs
 have key:CallOK Tryz.prog ⟨37,[.ag (Ins.mk op d s im of).cs],[],⟨.c (.sx 44 2),[],some (44,⟨true,[.i d,.i s],1⟩)⟩⟩:=by
  refine zk0 Tryz.func37 rfl rfl rfl rfl rfl fun w β hk=>?_
  rcases h with h | h | h | h
  ·exact ztl (by simp [b];omega) hk
  ·exact ztl (by simp [b];omega) hk
  ·subst h;exact zx2 (by rw [b];rfl) (zao 13) (zao 13) hk
  ·subst h;exact zzd (by rw [b];rfl) (zao 14) (zao 14) hk
 exact key.ren (swp 44 K) (zbl 44 K)
theorem zln {op d of:Int} {im:BitVec 64} (K:Nat) (h:(2≤op∧op≤9)∨op=13∨op=14) :
  CallOK Tryz.prog ⟨37,[.ag (Ins.mk op d (-1) im of).cs],[],⟨.c (.sx K 1),[],some (K,⟨true,[.i d],1⟩)⟩⟩:=by
 have key:CallOK Tryz.prog ⟨37,[.ag (Ins.mk op d (-1) im of).cs],[],⟨.c (.sx 25 1),[],some (25,⟨true,[.i d],1⟩)⟩⟩:=by
  refine zk0 Tryz.func37 rfl rfl rfl rfl rfl fun w β hk=>?_
  rcases h with h | h | h
  ·exact yahy (by simp;omega) hk
  ·subst h;exact zzl rfl (zao 13) (zao 13) hk
  ·subst h;exact zw2 rfl (zao 14) (zao 14) hk
 exact key.ren (swp 25 K) (zbl 25 K)
theorem zlt {op d s of:Int} {im:BitVec 64} (K:Nat) (h:op=1∨op=10) (hs:s≠-1) :
  CallOK Tryz.prog ⟨37,[.ag (Ins.mk op d s im of).cs],[],⟨.c (.sx K 1),[],some (K,⟨true,[.i s],1⟩)⟩⟩:=by
 have b:(s != -1)=true:=by simpa using hs
 have key:CallOK Tryz.prog ⟨37,[.ag (Ins.mk op d s im of).cs],[],⟨.c (.sx 38 1),[],some (38,⟨true,[.i s],1⟩)⟩⟩:=by
  refine zk0 Tryz.func37 rfl rfl rfl rfl rfl fun w β hk=>?_
  rcases h with h | h
  ·subst h;exact yad8 (by rw [b];rfl) (zao 1) hk
  ·subst h;exact zw3 (by rw [b];rfl) (zao 10) hk
 exact key.ren (swp 38 K) (zbl 38 K)
theorem yab4 {d of:Int} {im:BitVec 64}:Ok 37 [.ag (Ins.mk 1 d (-1) im of).cs] (.c zcu):=yafw rfl (zao 1)
theorem zq9 {d s of:Int} {im:BitVec 64}:Ok 37 [.ag (Ins.mk 12 d s im of).cs] (.c zcu):=yag5 (zao 12) (zao 12)
theorem yabi {d s of:Int} {im:BitVec 64} (K:Nat):CallOK Tryz.prog ⟨37,[.ag (Ins.mk 15 d s im of).cs],[],⟨.c (.sx K 1),[],some (K,⟨true,[.i 0],1⟩)⟩⟩:=by
 have key:CallOK Tryz.prog ⟨37,[.ag (Ins.mk 15 d s im of).cs],[],⟨.c (.sx 39 1),[],some (39,⟨true,[.i 0],1⟩)⟩⟩ :=
  zk0 Tryz.func37 rfl rfl rfl rfl rfl fun w β hk=>yalz (zao 15) (zao 15) hk
 exact key.ren (swp 39 K) (zbl 39 K)
end Go.Proofs.YtkigmocchaikgabGreatDoor
namespace Go.Proofs.YtkigmocchaikgabGreatDoor
open Go.RowKit Go.Lib
def nmC:List AC:=wcell ([]::oNames)
theorem yaqx:nmC.flatMap AC.ks=[]:=zdh _
set_option maxRecDepth 100000 in
theorem names_ok:CallOK Tryz.prog ⟨66,[],[],⟨.c (.sl 1 0 16 16),[],some (1,⟨true,nmC,0⟩)⟩⟩ :=
 zk0 Tryz.func66 rfl rfl rfl rfl yaqx fun _ _ hk=>zah [] (some 1) [] [] [] Tryz.func66 hk (by kernel_rfl) rfl zae
theorem zcf (K:Nat):CallOK Tryz.prog ⟨66,[],[],⟨.c (.sl K 0 16 16),[],some (K,⟨true,nmC,0⟩)⟩⟩:=by
 refine (names_ok.ren (swp 1 K) (zbl 1 K)).congr ?_
 unfold CallRec.ren Eff.ren renH
 simp only [List.map_nil,Option.map_some,Ent.ren,zck _ yaqx,AV.ren,AC.ren,zeg]
theorem yaky:nmC.length=16:=rfl
theorem yajm {k:Nat} (h:k<15):nmC[k+1]?=some (.s (bs (nmL k))):=by
 have e:oNames[k]?=some (nmL k):=by
  rw [nmL,List.getD_eq_getElem?_getD,List.getElem?_eq_getElem (show k<oNames.length from h)];rfl
 show (wcell oNames)[k]?=_
 unfold wcell
 rw [List.getElem?_map,e];rfl
structure Rg (i:Ins):Prop where
 d:0≤i.d
 s:i.s=-1∨0≤i.s
 m:i.op=10∨i.op=11→0≤i.s
theorem yawz {i:Ins} {n:Int} (hi:inB i n=true) (hb:zbm i=true):Rg i:=by
 obtain ⟨op,d,s,im,f⟩:=i
 simp only [inB,regB,srcB,zci] at hi
 simp only [zbm] at hb
 refine ⟨?_,?_,?_⟩ <;> simp only
 all_goals
  repeat' split at hi
  all_goals
   repeat' split at hb
   all_goals
    simp only [Bool.and_eq_true,Bool.or_eq_true,decide_eq_true_eq] at hi hb
    omega
theorem ybat {L:List Ins} (h:zan L=0):∀ i∈L,Rg i:=by
 have hB:=zxb h
 unfold zan at h
 split at h
 ·omega
 split at h
 ·omega
 split at h
 ·omega
 rename_i h3
 have h3':zff L=true:=by simpa using h3
 intro i hi
 obtain ⟨n,_,h5⟩:=zmd h3' hi
 exact yawz h5 (hB i hi)
theorem zky {a:Nat} (h:a≤1000):decide (a≤9223372036854775807)=true:=decide_eq_true (by omega)
theorem sz1 (c:UInt8):ByteArray.size (ByteArray.mk #[c])=1:=rfl
set_option maxRecDepth 100000 in
theorem zts {i:Ins} (h:Fld i) (hr:Rg i):Ok 33 [.ag i.cs] (.c (.s (bs (zgj i)))):=by
 have h1:=h.o1
 have h2:=h.o2
 obtain ⟨k,hk⟩:∃ k:Nat,i.op=(k:Int)+1:=⟨(i.op - 1).toNat,by omega⟩
 have hk15:k<15:=by omega
 have ho:0+(i.op).toNat*1=k+1:=by omega
 have hnm:=yajm hk15
 have g0:(decide (0≤i.op)&&decide (i.op<16))=true:=zaa (decide_eq_true (by omega)) (decide_eq_true (by omega))
 have g1:(AC.isS (nmC[0+(i.op).toNat*1]?.getD (.b false))&&Nat.blt (0+(i.op).toNat*1) nmC.length)=true:=by
  rw [ho,hnm,yaky]
  refine zaa rfl ?_
  simp;omega
 have g2:pe (.c (.s (AC.asS (nmC[0+(i.op).toNat*1]?.getD (.b false)))))=pe (.c (.s (bs (nmL k)))):=by rw [ho,hnm];rfl
 have hln:=yah7 k
 have hw:=zq4 h
 have sW:∀ p,(bs (za7 i p)).size≤22:=fun p=>by rw [zdu];exact hw p
 have sN:(bs (nmL k)).size≤5:=by rw [zdu];exact hln
 have w0:Ok 85 [.c (.i i.d)] (.c (.s (bs (za7 i 0)))):=yacq _ hr.d h.d.2
 have w2:Ok 86 [.ag i.cs] (.c (.s (bs (za7 i 2)))):=yatn (hr.s.imp id fun x=>⟨x,h.s.2⟩)
 have w3:Ok 13 [.c (.u i.im)] (.c (.s (bs (za7 i 3)))):=yab9 _
 have w4:Ok 87 [.c (.i i.of)] (.c (.s (bs (za7 i 4)))):=yaia _ h.f.1 h.f.2
 have hl:zgj i=nmL k++zed i (plcs i.op)++[10]:=by unfold zgj;rw [show (i.op - 1).toNat=k by omega]
 have cR:=zdt i.op
 have cB:=zao i.op
 rw [hl]
 by_cases h9:i.op≤9
 ·rw [decide_eq_true h1,decide_eq_true h9] at cR
  have e:plcs i.op=[0,2]:=by unfold plcs;rw [if_neg (by omega),if_neg (by omega),if_neg (by omega),if_neg (by omega),if_neg (by omega)]
  refine zam (yayv (u1:=bs (za7 i 0)) (u2:=bs (za7 i 2)) ?_ (zcf 2) g2 cR w0 w2) ?_
  ·have a:=sW 0;have b:=sW 2
   refine zaa g0 (zaa g1 ?_)
   repeat' apply zaa
   all_goals first | rfl | (refine zky ?_;(try simp only [ByteArray.size_append,sz1]);omega)
  ·show AV.c (.s (bs (nmL k)++bs [32]++bs (za7 i 0)++bs [32]++bs (za7 i 2)++bs [10]))=_
   simp only [zg8,e]
   simp [zed]
 ·rw [decide_eq_false h9,Bool.and_false] at cR
  by_cases h10:i.op=10
  ·have w1:Ok 85 [.c (.i i.s)] (.c (.s (bs (za7 i 1)))):=yacq _ (hr.m (Or.inl h10)) h.s.2
   have e:plcs i.op=[3,0,1,4]:=by simp [plcs,h10]
   refine zam (yaw1 (u1:=bs (za7 i 3)) (u2:=bs (za7 i 0)) (u3:=bs (za7 i 1)) (u4:=bs (za7 i 4)) ?_ (zcf 2) g2 cR w3 w0 w1 w4) ?_
   ·have a:=sW 0;have b:=sW 1;have c:=sW 3;have d:=sW 4
    refine zaa g0 (zaa g1 (zaa (by simp [h10]) ?_))
    repeat' apply zaa
    all_goals first | rfl | (refine zky ?_;(try simp only [ByteArray.size_append,sz1]);omega)
   ·show AV.c (.s (bs (nmL k)++bs [32]++bs (za7 i 3)++bs [32]++bs (za7 i 0)++bs [32]++bs (za7 i 1)++bs [32]++bs (za7 i 4)++bs [10]))=_
    simp only [zg8,e]
    simp [zed]
  ·have f10:(!(i.op==10))=true:=by simp [h10]
   by_cases h11:i.op=11
   ·have w1:Ok 85 [.c (.i i.s)] (.c (.s (bs (za7 i 1)))):=yacq _ (hr.m (Or.inr h11)) h.s.2
    have e:plcs i.op=[3,0,4,1]:=by simp [plcs,h11]
    refine zam (yayq (u1:=bs (za7 i 3)) (u2:=bs (za7 i 0)) (u3:=bs (za7 i 4)) (u4:=bs (za7 i 1)) ?_ (zcf 2) g2 cR w3 w0 w4 w1) ?_
    ·have a:=sW 0;have b:=sW 1;have c:=sW 3;have d:=sW 4
     refine zaa g0 (zaa g1 (zaa f10 (zaa (by simp [h11]) ?_)))
     repeat' apply zaa
     all_goals first | rfl | (refine zky ?_;(try simp only [ByteArray.size_append,sz1]);omega)
    ·show AV.c (.s (bs (nmL k)++bs [32]++bs (za7 i 3)++bs [32]++bs (za7 i 0)++bs [32]++bs (za7 i 4)++bs [32]++bs (za7 i 1)++bs [10]))=_
     simp only [zg8,e]
     simp [zed]
   ·have f11:(!(i.op==11))=true:=by simp [h11]
    by_cases h13:i.op=13∨i.op=14
    ·have cB2:Ok 34 [.c (.i i.op)] (.c (.b true)):=zam cB (by rcases h13 with e | e <;> rw [e] <;> rfl)
     have e:plcs i.op=[0,2,4]:=by unfold plcs;rw [if_neg h10,if_neg h11,if_neg (by omega),if_pos h13]
     refine zam (yazd (u1:=bs (za7 i 0)) (u2:=bs (za7 i 2)) (u3:=bs (za7 i 4)) ?_ (zcf 2) g2 cR cB2 w0 w2 w4) ?_
     ·have a:=sW 0;have b:=sW 2;have c:=sW 4
      refine zaa g0 (zaa g1 (zaa f10 (zaa f11 ?_)))
      repeat' apply zaa
      all_goals first | rfl | (refine zky ?_;(try simp only [ByteArray.size_append,sz1]);omega)
     ·show AV.c (.s (bs (nmL k)++bs [32]++bs (za7 i 0)++bs [32]++bs (za7 i 2)++bs [32]++bs (za7 i 4)++bs [10]))=_
      simp only [zg8,e]
      simp [zed]
    ·have cB2:Ok 34 [.c (.i i.op)] (.c (.b false)):=zam cB (by
      have e13:(i.op==13)=false:=beq_eq_false_iff_ne.2 fun e=>h13 (Or.inl e)
      have e14:(i.op==14)=false:=beq_eq_false_iff_ne.2 fun e=>h13 (Or.inr e)
      rw [e13,e14];rfl)
     by_cases h12:i.op=12
     ·have e:plcs i.op=[4]:=by simp [plcs,h12]
      refine zam (yawo (u1:=bs (za7 i 4)) ?_ (zcf 2) g2 cR cB2 w4) ?_
      ·have a:=sW 4
       refine zaa g0 (zaa g1 (zaa f10 (zaa f11 (zaa (by simp [h12]) ?_))))
       repeat' apply zaa
       all_goals first | rfl | (refine zky ?_;(try simp only [ByteArray.size_append,sz1]);omega)
      ·show AV.c (.s (bs (nmL k)++bs [32]++bs (za7 i 4)++bs [10]))=_
       simp only [zg8,e]
       simp [zed]
     ·have e:plcs i.op=[]:=by unfold plcs;rw [if_neg h10,if_neg h11,if_neg h12,if_neg h13,if_pos (by omega)]
      refine zam (yazm ?_ (zcf 2) g2 cR cB2) ?_
      ·refine zaa g0 (zaa g1 (zaa f10 (zaa f11 (zaa (by simp [h12]) ?_))))
       repeat' apply zaa
       all_goals first | rfl | (refine zky ?_;omega)
      ·show AV.c (.s (bs (nmL k)++bs [10]))=_
       simp only [zg8,e]
       simp [zed]
theorem yaq1 (L:List Ins) (c j:Nat) (t:ByteArray):Kn.Low (ctRK L c j t):=zg7 rfl rfl ⟨zaj L,trivial⟩
theorem yaeb {L:List Ins} {j:Nat} (h:j<L.length):shown (L.take (j+1))=shown (L.take j)++zgj (elt L j):=by
 have e:L[j]?=some (elt L j):=by unfold elt;rw [List.getD_eq_getElem?_getD,List.getElem?_eq_getElem h];rfl
 rw [znf e]
 simp [shown]
theorem yarz {L:List Ins} {j:Nat} (h:j<L.length):elt L j∈L:=by
 unfold elt;rw [List.getD_eq_getElem?_getD,List.getElem?_eq_getElem h]
 exact List.getElem_mem _
theorem yap7 {L:List Ins} {c:Nat} (he:zan L=0) {w:World} {β:Bs}:∀ n j,j+n=L.length →
  AR 14 Tryz.f14 (cx w β 1 []) 0 (ctRK L c j (bs (shown (L.take j)))) (REff w β ⟨.c (.s (bs (shown L))),[],none⟩)
 | 0,j,hj=>by
  rw [List.take_of_length_le (by omega)]
  exact yayk (zaa (zad (decide_eq_false (by omega))) rfl)
 | n+1,j,hj=>by
  obtain ⟨h64,hF⟩:=zg5 he
  have hm:=yarz (L:=L) (j:=j) (by omega)
  have d0:decide ((j:Int)<(L.length:Int))=true:=decide_eq_true (by omega)
  have hl:=zpa (hF _ hm)
  have hs:=zg6 (L:=L.take j) fun x hx=>hF x (List.mem_of_mem_take hx)
  rw [List.length_take] at hs
  refine yawk (i:=elt L j) (u1:=bs (zgj (elt L j))) (m:=bs (shown (L.take (j+1)))) (zaa d0 (zaa d0 (zaa (pble (by omega)) (zaa ?_ rfl)))) (zdi (by omega)) (zts (hF _ hm) (ybat he _ hm)) ?_ (ze0 (by omega)) (yaq1 _ _ _ _) (fun _ h=>h) (yap7 he n (j+1) (by omega))
  ·rw [zdu,zdu];exact decide_eq_true (by omega)
  ·rw [zg8,yaeb (by omega)]
theorem zie {L:List Ins} (c:Nat) (he:zan L=0):CallOK Tryz.prog ⟨14,[.c (.sl 0 0 L.length c)],pH L,⟨.c (.s (bs (shown L))),[],none⟩⟩ :=
 zg9 Tryz.func14 rfl rfl (zs3 rfl) rfl ro_p fun _ _=>yapq (yaq1 _ _ 0 _) (fun _ h=>h) (yap7 he _ 0 (Nat.zero_add _))
end Go.Proofs.YtkigmocchaikgabGreatDoor
namespace Go.Proofs.YtkigmocchaikgabGreatDoor
abbrev E5:List AC:=[.s ⟨#[]⟩,.s ⟨#[]⟩,.s ⟨#[]⟩,.s ⟨#[]⟩,.s ⟨#[]⟩]
end Go.Proofs.YtkigmocchaikgabGreatDoor
namespace Go.Proofs.YtkigmocchaikgabGreatDoor
open Go.RowKit
section
abbrev guYK (r j:Nat) (o:Int) (D:List AC):Kn:=⟨[(2,.c (.w 0)),(3,.c (.sx 4 (r+5))),(4,.c (.w 6)),(5,.c (.i (j:Int)))],[(0,Ent.mk true i0.cs 0),(4,Ent.mk true D 1),(6,Ent.mk true [.i o,.i 0,.i 0,.u 0#64,.i 0] 0)],8⟩
variable {t m u w1 w2 w3 w4:ByteArray} {r j n:Nat} {D A:List AC} {C:Cx} {R:Ending→World→Prop} {o d s2 f:Int} {i:Ins} {w:World} {β:Bs} {x:BitVec 64}
theorem yanm (h:(Nat.beq (r*1) D.length&&decide (r+5≤137438953472)&&Nat.blt 0 r&&true)=true) (c0:CO 27 [.c (.s t),.c (.y 32#8),.c (.i 6)] [] (Eff.mk (.c (.sx 2 r)) [] (some (2,Ent.mk true D 1)))) (c1:Eff.mk (.c (.sx 4 (r+5))) [(2,[])] (some (0+1+3,Ent.mk true (D++((splice (splice (splice (splice (splice (rows 5 [.s (ByteArray.mk #[])]) 0 [.s (ByteArray.mk #[])]) 1 [.s (ByteArray.mk #[])]) 2 [.s (ByteArray.mk #[])]) 3 [.s (ByteArray.mk #[])]) 4 [.s (ByteArray.mk #[])]).drop 0).take 5) 1))=Eff.mk (.c (.sx 4 (r+5))) [(2,[])] (some (4,Ent.mk true (D++E5) 1))) (lo:Kn.Low ⟨[(2,.c (.w 0)),(3,.c (.sx 4 (r+5))),(4,.c (.w 6)),(5,.c (.i 1))],[(0,Ent.mk true [.i 0,.i 0,.i 0,.u 0#64,.i 0] 0),(4,Ent.mk true (D++E5) 1),(6,Ent.mk true [.i 0,.i 0,.i 0,.u 0#64,.i 0] 0)],8⟩) (hF:∀ k,C.F k→k<8) (z:AR 28 Tryz.f28 C 0 ⟨[(2,.c (.w 0)),(3,.c (.sx 4 (r+5))),(4,.c (.w 6)),(5,.c (.i 1))],[(0,Ent.mk true [.i 0,.i 0,.i 0,.u 0#64,.i 0] 0),(4,Ent.mk true (D++E5) 1),(6,Ent.mk true [.i 0,.i 0,.i 0,.u 0#64,.i 0] 0)],8⟩ R) :
  BO 28 Tryz.f28 C [.c (.s t)] [] 0 R :=
 zai [] ([true]) [(1,3)] Tryz.func28 (by kernel_rfl) h (zab c0 (zac c1 zae)) lo hF z
theorem yays (h:(decide ((j:Int)<16)&&(decide ((j:Int)<16)&&(AC.isS (A[0+(j:Int).toNat*1]?.getD (.b false))&&Nat.blt (0+(j:Int).toNat*1) A.length&&(decide (0<(↑(r+5):Int))&&(AC.isS (D[0]?.getD (.b false))&&Nat.blt 0 D.length&&(ByteArray.toList m==ByteArray.toList u&&true))))))=true) (c0:CO 66 [] [] (Eff.mk (.c (.sl 9 0 16 16)) [] (some (9,Ent.mk true A 0)))) (c1:CO 66 [] [] (Eff.mk (.c (.sl 12 0 16 16)) [] (some (12,Ent.mk true A 0)))) (c2:pe (.c (.s (AC.asS (A[0+(j:Int).toNat*1]?.getD (.b false)))))=pe (.c (.s m))) (c3:pe (.c (.s (AC.asS (D[0]?.getD (.b false)))))=pe (.c (.s u))) (c4:pe (.c (.i (IntKind.i64.wrap ((j:Int)+1))))=pe (.c (.i (↑(j+1):Int)))) (lo:Kn.Low (guYK r (j+1) (j:Int) D)) (hF:∀ k,C.F k→k<8) (z:AR 28 Tryz.f28 C 0 (guYK r (j+1) (j:Int) D) R) :
  AR 28 Tryz.f28 C 0 (guYK r j o D) R :=
 zai [true,true] ([true]) [(6,3),(6,6),(5,1)] Tryz.func28 (by kernel_rfl) h (zab c0 (zab c1 (zac c2 (zac c3 (zac c4 zae))))) lo hF z
theorem yaz0 (h:(decide ((j:Int)<16)&&(decide ((j:Int)<16)&&(AC.isS (A[0+(j:Int).toNat*1]?.getD (.b false))&&Nat.blt (0+(j:Int).toNat*1) A.length&&(decide (0<(↑(r+5):Int))&&(AC.isS (D[0]?.getD (.b false))&&Nat.blt 0 D.length&&(!ByteArray.toList m==ByteArray.toList u&&true))))))=true) (c0:CO 66 [] [] (Eff.mk (.c (.sl 9 0 16 16)) [] (some (9,Ent.mk true A 0)))) (c1:CO 66 [] [] (Eff.mk (.c (.sl 12 0 16 16)) [] (some (12,Ent.mk true A 0)))) (c2:pe (.c (.s (AC.asS (A[0+(j:Int).toNat*1]?.getD (.b false)))))=pe (.c (.s m))) (c3:pe (.c (.s (AC.asS (D[0]?.getD (.b false)))))=pe (.c (.s u))) (c4:pe (.c (.i (IntKind.i64.wrap ((j:Int)+1))))=pe (.c (.i (↑(j+1):Int)))) (lo:Kn.Low (guYK r (j+1) o D)) (hF:∀ k,C.F k→k<8) (z:AR 28 Tryz.f28 C 0 (guYK r (j+1) o D) R) :
  AR 28 Tryz.f28 C 0 (guYK r j o D) R :=
 zai [true,false] ([true]) [(6,3),(6,6),(5,1)] Tryz.func28 (by kernel_rfl) h (zab c0 (zab c1 (zac c2 (zac c3 (zac c4 zae))))) lo hF z
theorem yaw2 (h:(!decide ((j:Int)<16)&&(decide (1<(↑(r+5):Int))&&(AC.isS (D[1]?.getD (.b false))&&Nat.blt 1 D.length&&(decide (2<(↑(r+5):Int))&&(AC.isS (D[2]?.getD (.b false))&&Nat.blt 2 D.length&&true)))))=true) (c0:CO 66 [] [] (Eff.mk (.c (.sl 9 0 16 16)) [] (some (9,Ent.mk true A 0)))) (c1:Ok 38 [.c (.i o)] (.c (.b true))) (c2:pe (.c (.s (AC.asS (D[1]?.getD (.b false)))))=pe (.c (.s w1))) (c3:Ok 68 [.c (.s w1)] (.c (.i d))) (c4:pe (.c (.s (AC.asS (D[2]?.getD (.b false)))))=pe (.c (.s w2))) (c5:CO 67 [.c (.s w2),.c (.w 6)] [(6,Ent.mk true [.i o,.i d,.i 0,.u 0#64,.i 0] 0)] (Eff.mk (.tu []) [(6,i.cs)] none)) :
  AR 28 Tryz.f28 (cx w β n []) 0 (guYK r j o D) (REff w β ⟨.ag i.cs,[],none⟩) :=
 zah [] none [false,true] ([true]) [(10,2),(11,3)] Tryz.func28 (zav rfl n) (by kernel_rfl) h (zab c0 (zab c1 (zac c2 (zab c3 (zac c4 (zab c5 zae))))))
theorem yaw6 (h:(!decide ((j:Int)<16)&&(o==10&&(decide (1<(↑(r+5):Int))&&(AC.isS (D[1]?.getD (.b false))&&Nat.blt 1 D.length&&(decide (2<(↑(r+5):Int))&&(AC.isS (D[2]?.getD (.b false))&&Nat.blt 2 D.length&&(decide (3<(↑(r+5):Int))&&(AC.isS (D[3]?.getD (.b false))&&Nat.blt 3 D.length&&(decide (4<(↑(r+5):Int))&&(AC.isS (D[4]?.getD (.b false))&&Nat.blt 4 D.length&&true))))))))))=true) (c0:CO 66 [] [] (Eff.mk (.c (.sl 9 0 16 16)) [] (some (9,Ent.mk true A 0)))) (c1:Ok 38 [.c (.i o)] (.c (.b false))) (c2:pe (.c (.s (AC.asS (D[1]?.getD (.b false)))))=pe (.c (.s w1))) (c3:Ok 69 [.c (.s w1)] (.c (.u x))) (c4:pe (.c (.s (AC.asS (D[2]?.getD (.b false)))))=pe (.c (.s w2))) (c5:Ok 68 [.c (.s w2)] (.c (.i d))) (c6:pe (.c (.s (AC.asS (D[3]?.getD (.b false)))))=pe (.c (.s w3))) (c7:Ok 68 [.c (.s w3)] (.c (.i s2))) (c8:pe (.c (.s (AC.asS (D[4]?.getD (.b false)))))=pe (.c (.s w4))) (c9:Ok 70 [.c (.s w4)] (.c (.i f))) :
  AR 28 Tryz.f28 (cx w β n []) 0 (guYK r j o D) (REff w β ⟨.ag [.i o,.i d,.i s2,.u x,.i f],[],none⟩) :=
 zah [] none [false,false,true] ([true]) [(13,2),(13,6),(13,10),(13,14)] Tryz.func28 (zav rfl n) (by kernel_rfl) h (zab c0 (zab c1 (zac c2 (zab c3 (zac c4 (zab c5 (zac c6 (zab c7 (zac c8 (zab c9 zae))))))))))
theorem yaxp (h:(!decide ((j:Int)<16)&&(!o==10&&(o==11&&(decide (1<(↑(r+5):Int))&&(AC.isS (D[1]?.getD (.b false))&&Nat.blt 1 D.length&&(decide (2<(↑(r+5):Int))&&(AC.isS (D[2]?.getD (.b false))&&Nat.blt 2 D.length&&(decide (3<(↑(r+5):Int))&&(AC.isS (D[3]?.getD (.b false))&&Nat.blt 3 D.length&&(decide (4<(↑(r+5):Int))&&(AC.isS (D[4]?.getD (.b false))&&Nat.blt 4 D.length&&true)))))))))))=true) (c0:CO 66 [] [] (Eff.mk (.c (.sl 9 0 16 16)) [] (some (9,Ent.mk true A 0)))) (c1:Ok 38 [.c (.i o)] (.c (.b false))) (c2:pe (.c (.s (AC.asS (D[1]?.getD (.b false)))))=pe (.c (.s w1))) (c3:Ok 69 [.c (.s w1)] (.c (.u x))) (c4:pe (.c (.s (AC.asS (D[2]?.getD (.b false)))))=pe (.c (.s w2))) (c5:Ok 68 [.c (.s w2)] (.c (.i d))) (c6:pe (.c (.s (AC.asS (D[3]?.getD (.b false)))))=pe (.c (.s w3))) (c7:Ok 70 [.c (.s w3)] (.c (.i f))) (c8:pe (.c (.s (AC.asS (D[4]?.getD (.b false)))))=pe (.c (.s w4))) (c9:Ok 68 [.c (.s w4)] (.c (.i s2))) :
  AR 28 Tryz.f28 (cx w β n []) 0 (guYK r j o D) (REff w β ⟨.ag [.i o,.i d,.i s2,.u x,.i f],[],none⟩) :=
 zah [] none [false,false,false,true] ([true]) [(15,2),(15,6),(15,10),(15,14)] Tryz.func28 (zav rfl n) (by kernel_rfl) h (zab c0 (zab c1 (zac c2 (zab c3 (zac c4 (zab c5 (zac c6 (zab c7 (zac c8 (zab c9 zae))))))))))
theorem yayy (h:(!decide ((j:Int)<16)&&(!o==10&&(!o==11&&(decide (1<(↑(r+5):Int))&&(AC.isS (D[1]?.getD (.b false))&&Nat.blt 1 D.length&&(decide (2<(↑(r+5):Int))&&(AC.isS (D[2]?.getD (.b false))&&Nat.blt 2 D.length&&(decide (3<(↑(r+5):Int))&&(AC.isS (D[3]?.getD (.b false))&&Nat.blt 3 D.length&&true)))))))))=true) (c0:CO 66 [] [] (Eff.mk (.c (.sl 9 0 16 16)) [] (some (9,Ent.mk true A 0)))) (c1:Ok 38 [.c (.i o)] (.c (.b false))) (c2:Ok 34 [.c (.i o)] (.c (.b true))) (c3:pe (.c (.s (AC.asS (D[1]?.getD (.b false)))))=pe (.c (.s w1))) (c4:Ok 68 [.c (.s w1)] (.c (.i d))) (c5:pe (.c (.s (AC.asS (D[2]?.getD (.b false)))))=pe (.c (.s w2))) (c6:CO 67 [.c (.s w2),.c (.w 6)] [(6,Ent.mk true [.i o,.i d,.i 0,.u 0#64,.i 0] 0)] (Eff.mk (.tu []) [(6,i.cs)] none)) (c7:pe (.c (.s (AC.asS (D[3]?.getD (.b false)))))=pe (.c (.s w3))) (c8:Ok 70 [.c (.s w3)] (.c (.i f))) :
  AR 28 Tryz.f28 (cx w β n []) 0 (guYK r j o D) (REff w β ⟨.ag [.i i.op,.i i.d,.i i.s,.u i.im,.i f],[],none⟩) :=
 zah [] none [false,false,false,false,true] ([true]) [(17,2),(18,3),(19,2)] Tryz.func28 (zav rfl n) (by kernel_rfl) h (zab c0 (zab c1 (zab c2 (zac c3 (zab c4 (zac c5 (zab c6 (zac c7 (zab c8 zae)))))))))
theorem yaw3 (h:(!decide ((j:Int)<16)&&(!o==10&&(!o==11&&(o==12&&(decide (1<(↑(r+5):Int))&&(AC.isS (D[1]?.getD (.b false))&&Nat.blt 1 D.length&&true))))))=true) (c0:CO 66 [] [] (Eff.mk (.c (.sl 9 0 16 16)) [] (some (9,Ent.mk true A 0)))) (c1:Ok 38 [.c (.i o)] (.c (.b false))) (c2:Ok 34 [.c (.i o)] (.c (.b false))) (c3:pe (.c (.s (AC.asS (D[1]?.getD (.b false)))))=pe (.c (.s w1))) (c4:Ok 70 [.c (.s w1)] (.c (.i f))) :
  AR 28 Tryz.f28 (cx w β n []) 0 (guYK r j o D) (REff w β ⟨.ag [.i o,.i 0,.i 0,.u 0#64,.i f],[],none⟩) :=
 zah [] none [false,false,false,false,false,true] ([true]) [(21,2)] Tryz.func28 (zav rfl n) (by kernel_rfl) h (zab c0 (zab c1 (zab c2 (zac c3 (zab c4 zae)))))
theorem yayg (h:(!decide ((j:Int)<16)&&(!o==10&&(!o==11&&(!o==12&&true))))=true) (c0:CO 66 [] [] (Eff.mk (.c (.sl 9 0 16 16)) [] (some (9,Ent.mk true A 0)))) (c1:Ok 38 [.c (.i o)] (.c (.b false))) (c2:Ok 34 [.c (.i o)] (.c (.b false))) :
  AR 28 Tryz.f28 (cx w β n []) 0 (guYK r j o D) (REff w β ⟨.ag [.i o,.i 0,.i 0,.u 0#64,.i 0],[],none⟩) :=
 zah [] none [false,false,false,false,false,false] ([true]) [] Tryz.func28 (zav rfl n) (by kernel_rfl) h (zab c0 (zab c1 (zab c2 zae)))
end
section
abbrev yam2 (t:ByteArray) (r j:Nat) (D:List AC):Kn:=⟨[(0,.c (.s t)),(4,.c (.sx 6 r)),(5,.c zcu),(6,.c (.i (j:Int)))],[(6,Ent.mk true D 1)],51⟩
abbrev zoy (t:ByteArray) (r j:Nat) (D:List AC) (M:List Ins):Kn:=⟨[(0,.c (.s t)),(4,.c (.sx 6 r)),(5,.c (.sx 50 M.length)),(6,.c (.i (j:Int)))],[(6,Ent.mk true D 1),(50,Ent.mk true (pcell M) 5)],51⟩
variable {t x u:ByteArray} {r j n:Nat} {D:List AC} {C:Cx} {R:Ending→World→Prop} {i:Ins} {M:List Ins} {w:World} {β:Bs} {e:Int}
theorem yaog (h:(decide (4096<(↑(ByteArray.size t):Int))&&true)=true) :
  Ok 11 [.c (.s t)] (.tu [.c zcu,.c (.b false)]) :=
 zaf [true] ([]) [] Tryz.func11 rfl rfl rfl rfl (by kernel_rfl) h zae
theorem yamt (h:(!decide (4096<(↑(ByteArray.size t):Int))&&true)=true) (c0:CO 27 [.c (.s t),.c (.y 10#8),.c (.i 66)] [] (Eff.mk (.c (.sx 6 r)) [] (some (6,Ent.mk true D 1)))) (lo:Kn.Low ⟨[(0,.c (.s t)),(4,.c (.sx 6 r)),(5,.c zcu),(6,.c (.i 0))],[(6,Ent.mk true D 1)],51⟩) (hF:∀ k,C.F k→k<51) (z:AR 11 Tryz.f11 C 0 ⟨[(0,.c (.s t)),(4,.c (.sx 6 r)),(5,.c zcu),(6,.c (.i 0))],[(6,Ent.mk true D 1)],51⟩ R) :
  BO 11 Tryz.f11 C [.c (.s t)] [] 0 R :=
 zai [false] ([true]) [] Tryz.func11 (by kernel_rfl) h (zab c0 zae) lo hF z
theorem yatf (h:(decide ((↑(j+1):Int)<(r:Int))&&(decide ((j:Int)<(r:Int))&&(AC.isS (D[(j:Int).toNat*1]?.getD (.b false))&&Nat.blt ((j:Int).toNat*1) D.length&&true)))=true) (c0:pe (.c (.i (IntKind.i64.wrap ((j:Int)+1))))=pe (.c (.i (↑(j+1):Int)))) (c1:pe (.c (.s (AC.asS (D[(j:Int).toNat*1]?.getD (.b false)))))=pe (.c (.s x))) (c2:Ok 28 [.c (.s x)] (.ag i.cs)) (c3:Eff.mk (.c (.sx 63 1)) [] (some (51+5+7,Ent.mk true i.cs 5))=Eff.mk (.c (.sx 63 1)) [] (some (63,Ent.mk true (pcell [i]) 5))) (c4:pe (.c (.i (IntKind.i64.wrap ((j:Int)+1))))=pe (.c (.i (↑(j+1):Int)))) (lo:Kn.Low ⟨[(0,.c (.s t)),(4,.c (.sx 6 r)),(5,.c (.sx 63 1)),(6,.c (.i (↑(j+1):Int)))],[(6,Ent.mk true D 1),(63,Ent.mk true (pcell [i]) 5)],64⟩) (hF:∀ k,C.F k→k<64) (z:AR 11 Tryz.f11 C 0 ⟨[(0,.c (.s t)),(4,.c (.sx 6 r)),(5,.c (.sx 63 1)),(6,.c (.i (↑(j+1):Int)))],[(6,Ent.mk true D 1),(63,Ent.mk true (pcell [i]) 5)],64⟩ R) :
  AR 11 Tryz.f11 C 0 (yam2 t r j D) R :=
 zai [true] ([true]) [(6,1),(8,4),(8,7),(7,1)] Tryz.func11 (by kernel_rfl) h (zac c0 (zac c1 (zab c2 (zac c3 (zac c4 zae))))) lo hF z
theorem yare (h:(decide ((↑(j+1):Int)<(r:Int))&&(decide ((j:Int)<(r:Int))&&(AC.isS (D[(j:Int).toNat*1]?.getD (.b false))&&Nat.blt ((j:Int).toNat*1) D.length&&(Nat.beq (M.length*5) (pcell M).length&&decide (M.length+1≤137438953472)&&Nat.blt 0 M.length&&true))))=true) (c0:pe (.c (.i (IntKind.i64.wrap ((j:Int)+1))))=pe (.c (.i (↑(j+1):Int)))) (c1:pe (.c (.s (AC.asS (D[(j:Int).toNat*1]?.getD (.b false)))))=pe (.c (.s x))) (c2:Ok 28 [.c (.s x)] (.ag i.cs)) (c3:Eff.mk (.c (.sx 63 (M.length+1))) [(50,[])] (some (51+5+7,Ent.mk true (pcell M++((splice (rows 1 [.i 0,.i 0,.i 0,.u 0#64,.i 0]) 0 i.cs).drop 0).take 5) 5))=Eff.mk (.c (.sx 63 (M.length+1))) [(50,[])] (some (63,Ent.mk true (pcell (M++[i])) 5))) (c4:pe (.c (.i (IntKind.i64.wrap ((j:Int)+1))))=pe (.c (.i (↑(j+1):Int)))) (lo:Kn.Low ⟨[(0,.c (.s t)),(4,.c (.sx 6 r)),(5,.c (.sx 63 (M.length+1))),(6,.c (.i (↑(j+1):Int)))],[(6,Ent.mk true D 1),(63,Ent.mk true (pcell (M++[i])) 5)],64⟩) (hF:∀ k,C.F k→k<64) (z:AR 11 Tryz.f11 C 0 ⟨[(0,.c (.s t)),(4,.c (.sx 6 r)),(5,.c (.sx 63 (M.length+1))),(6,.c (.i (↑(j+1):Int)))],[(6,Ent.mk true D 1),(63,Ent.mk true (pcell (M++[i])) 5)],64⟩ R) :
  AR 11 Tryz.f11 C 0 (zoy t r j D M) R :=
 zai [true] ([true]) [(6,1),(8,4),(8,7),(7,1)] Tryz.func11 (by kernel_rfl) h (zac c0 (zac c1 (zab c2 (zac c3 (zac c4 zae))))) lo hF z
theorem yata (h:(!decide ((↑(j+1):Int)<(r:Int))&&true)=true) (c0:pe (.c (.i (IntKind.i64.wrap ((j:Int)+1))))=pe (.c (.i (↑(j+1):Int)))) (c1:Ok 29 [.c zcu] (.c (.i 2))) :
  AR 11 Tryz.f11 (cx w β n []) 0 (yam2 t r j D) (REff w β ⟨.tu [.c zcu,.c (.b false)],[],none⟩) :=
 zah [] none [false,true,true] ([true]) [(6,1)] Tryz.func11 (zav rfl n) (by kernel_rfl) h (zac c0 (zab c1 zae))
theorem yat2 (h:(!decide ((↑(j+1):Int)<(r:Int))&&(e != 0&&true))=true) (c0:pe (.c (.i (IntKind.i64.wrap ((j:Int)+1))))=pe (.c (.i (↑(j+1):Int)))) (c1:CO 29 [.c (.sx 50 M.length)] [(50,Ent.mk true (pcell M) 5)] (pe (.c (.i e)))) :
  AR 11 Tryz.f11 (cx w β n []) 0 (zoy t r j D M) (REff w β ⟨.tu [.c zcu,.c (.b false)],[],none⟩) :=
 zah [] none [false,true,true] ([true]) [(6,1)] Tryz.func11 (zav rfl n) (by kernel_rfl) h (zac c0 (zab c1 zae))
theorem yaux (h:(!decide ((↑(j+1):Int)<(r:Int))&&(!ByteArray.toList u==ByteArray.toList t&&true))=true) (c0:pe (.c (.i (IntKind.i64.wrap ((j:Int)+1))))=pe (.c (.i (↑(j+1):Int)))) (c1:CO 29 [.c (.sx 50 M.length)] [(50,Ent.mk true (pcell M) 5)] (pe (.c (.i 0)))) (c2:CO 14 [.c (.sx 50 M.length)] [(50,Ent.mk true (pcell M) 5)] (pe (.c (.s u)))) :
  AR 11 Tryz.f11 (cx w β n []) 0 (zoy t r j D M) (REff w β ⟨.tu [.c zcu,.c (.b false)],[],none⟩) :=
 zah [] none [false,false,true] ([true]) [(6,1)] Tryz.func11 (zav rfl n) (by kernel_rfl) h (zac c0 (zab c1 (zab c2 zae)))
theorem yavk (h:(!decide ((↑(j+1):Int)<(r:Int))&&(!!ByteArray.toList u==ByteArray.toList t&&true))=true) (c0:pe (.c (.i (IntKind.i64.wrap ((j:Int)+1))))=pe (.c (.i (↑(j+1):Int)))) (c1:CO 29 [.c (.sx 50 M.length)] [(50,Ent.mk true (pcell M) 5)] (pe (.c (.i 0)))) (c2:CO 14 [.c (.sx 50 M.length)] [(50,Ent.mk true (pcell M) 5)] (pe (.c (.s u)))) (hk:EKeys n [] (some 50) ⟨.tu [.c (.sx 50 M.length),.c (.b true)],[],some (50,Ent.mk true (pcell M) 5)⟩) :
  AR 11 Tryz.f11 (cx w β n []) 0 (zoy t r j D M) (REff w β ⟨.tu [.c (.sx 50 M.length),.c (.b true)],[],some (50,Ent.mk true (pcell M) 5)⟩) :=
 zah [] (some 50) [false,false,false] ([true]) [(6,1)] Tryz.func11 hk (by kernel_rfl) h (zac c0 (zab c1 (zab c2 zae)))
end
end Go.Proofs.YtkigmocchaikgabGreatDoor
namespace Go.Proofs.YtkigmocchaikgabGreatDoor
open Go.RowKit Go.Lib
theorem zh7 (l:List UInt8):(bs l).toList=l:=by rw [zhn]
theorem yayo {P:Program} {f:FuncId} {fn:Func} {args:List AV} {cs cs':List AC} {v:AV} (hf:P.funcs[f]?=some fn) (hb:fn.body.isSome=true) (hN:Nat.ble args.length fn.ntmps=true) (ha:(zer args).all (fun k=>Nat.blt k 1)=true) (hcs:cs.flatMap AC.ks=[]) (hne:cs≠[]) (hv:v.ks=[]) (hc:cs'.flatMap AC.ks=[])
  (h:∀ w β,EKeys 1 [0] none ⟨v,[(0,cs')],none⟩→ART P f (cx w β 1 [0]) fn.ntmps [.code (zdp fn)] (Kn.start args [(0,⟨true,cs,0⟩)] 1) (REff w β ⟨v,[(0,cs')],none⟩)):CallOK P ⟨f,args,[(0,⟨true,cs,0⟩)],⟨v,[(0,cs')],none⟩⟩:=by
 have e:EKeys 1 [0] none ⟨v,[(0,cs')],none⟩:=by
  refine ⟨fun k hk=>?_,fun k cs hm=>?_,fun _ _ h'=>(nomatch h'),fun k h=>?_,fun _ h=>(nomatch h)⟩
  ·simp only at hk;rw [hv] at hk;cases hk
  ·have:=List.mem_singleton.1 hm;injection this with _ h2;subst h2;exact hc
  ·rw [List.mem_singleton.1 h];decide
 have hB:Begin args [(0,⟨true,cs,0⟩)] 1:=by
  refine ⟨fun v hv k hk=>?_,fun k e he=>?_⟩
  ·have h2:=List.all_eq_true.1 ha k (List.mem_flatMap.2 ⟨v,hv,hk⟩)
   simpa using h2
  ·obtain ⟨rfl,rfl⟩:=zbh he
   exact ⟨by decide,fun c hc j hj=>(zez hcs hc hj).elim⟩
 refine zog [0] none hf hb hN hB (fun k hk=>?_) (fun _ _ h'=>(nomatch h')) (fun _ h=>(nomatch h)) e (fun k cs' hm=>?_) (fun k en h1 h2=>?_) fun w β _=>h w β e
 ·simp only at hk;rw [hv] at hk;cases hk
 ·have:=List.mem_singleton.1 hm;injection this with h1 h2;subst h1
  exact ⟨⟨true,cs,0⟩,rfl,rfl,hne⟩
 ·obtain ⟨rfl,_⟩:=zbh h1;exact List.mem_singleton.2 rfl
theorem ybaa {t:ByteArray} (ht:t.size≤4096) (i:Ins):CallOK Tryz.prog ⟨67,[.c (.s t),.c (.w 0)],[(0,⟨true,i.cs,0⟩)],⟨.tu [],[(0,(zop i t.data.toList).cs)],none⟩⟩:=by
 refine yayo Tryz.func67 rfl rfl rfl rfl (by simp [Ins.cs]) rfl rfl fun w β hk=>?_
 unfold zop at hk ⊢
 by_cases h0:0<t.size
 ·have b0:=yaze t 114 h0
  have d0:decide (0<(t.size:Int))=true:=decide_eq_true (by omega)
  by_cases h:t.data.toList.head?=some 114
  ·rw [if_pos h] at hk ⊢
   rw [decide_eq_true h] at b0
   exact yaww (zaa d0 (zaa (decide_eq_true h0) (zaa b0 rfl))) (zzy ht) hk
  ·rw [if_neg h] at hk ⊢
   rw [decide_eq_false h] at b0
   exact yav2 (zaa d0 (zaa (decide_eq_true h0) (zaa (zad b0) rfl))) (zhk ht) hk
 ·have hl:t.data.toList=[]:=List.length_eq_zero_iff.1 (by rw [zdr];omega)
  have h:¬ t.data.toList.head?=some 114:=by rw [hl];simp
  rw [if_neg h] at hk ⊢
  exact yawp (zaa (zad (decide_eq_false (by omega))) rfl) (zhk ht) hk
theorem yawm {t:ByteArray} (ht:t.size≤4096) (i:Ins) (K:Nat):CallOK Tryz.prog ⟨67,[.c (.s t),.c (.w K)],[(K,⟨true,i.cs,0⟩)],⟨.tu [],[(K,(zop i t.data.toList).cs)],none⟩⟩:=by
 refine ((ybaa ht i).ren (swp 0 K) (zbl 0 K)).congr ?_
 unfold CallRec.ren Eff.ren renH
 simp only [List.map_cons,List.map_nil,Option.map_none,Ent.ren,AV.ren,AC.ren,zeg,Ins.cs]
def zr6 (l:List UInt8):Nat→Int
 | 0=>0
 | j+1=>if 1≤j∧nmL (j - 1)=l then (j:Int) else zr6 l j
theorem zwg {l:List UInt8} (h:∀ k,k<15→nmL k≠l):∀ j,j≤16→zr6 l j=0
 | 0,_=>rfl
 | j+1,hj=>by
  unfold zr6
  rw [if_neg (fun e=>h (j - 1) (by omega) e.2),zwg h j (by omega)]
theorem yagp:∀ k,k<15→zr6 (nmL k) 16=(k:Int)+1:=by decide
theorem yasv (l:List UInt8):zr6 l 16=opP l:=by
 unfold opP
 cases h:zj8 l with
 | some k =>
  obtain ⟨hk,rfl⟩:=zhv h
  exact yagp k hk
 | none=>exact zwg (fun k hk e=>by rw [← e,zlp k hk] at h;cases h) 16 (Nat.le_refl _)
theorem yan8 (l:List UInt8):0≤opP l∧opP l≤15:=by
 unfold opP
 cases h:zj8 l with
 | some k =>
  obtain ⟨hk,_⟩:=zhv h
  simp only
  omega
 | none=>simp
theorem wd (ws:List (List UInt8)) {k:Nat} (hk:k<5):(wcell ws++E5)[k]?=some (.s (bs (ws.getD k []))):=by
 by_cases h:k<ws.length
 ·rw [List.getElem?_append_left (by rw [zgt];exact h),List.getD_eq_getElem?_getD]
  unfold wcell
  rw [List.getElem?_map,List.getElem?_eq_getElem h];rfl
 ·have e:ws.getD k []=[]:=by rw [List.getD_eq_getElem?_getD,List.getElem?_eq_none (by omega)];rfl
  rw [List.getElem?_append_right (by rw [zgt];omega),e]
  show (List.replicate 5 (AC.s ⟨#[]⟩))[k - (wcell ws).length]?=_
  rw [List.getElem?_replicate,if_pos (by omega)]
abbrev guK (ws:List (List UInt8)) (j:Nat) (o:Int):Kn:=guYK ws.length j o (wcell ws++E5)
theorem ybai (ws:List (List UInt8)):(wcell ws++E5).flatMap AC.ks=[]:=by rw [List.flatMap_append,zdh];rfl
theorem yak6 (ws:List (List UInt8)) (j:Nat) (o:Int):Kn.Low (guK ws j o):=zg7 rfl rfl ⟨rfl,ybai ws,rfl,trivial⟩
theorem yasq (ws:List (List UInt8)) {k:Nat} (hk:k<5):(AC.isS ((wcell ws++E5)[k]?.getD (.b false))&&Nat.blt k (wcell ws++E5).length)=true:=by
 rw [wd ws hk]
 refine zaa rfl ?_
 rw [List.length_append]
 simp;omega
theorem yarh (ws:List (List UInt8)) {k:Nat} (hk:k<5):pe (.c (.s (AC.asS ((wcell ws++E5)[k]?.getD (.b false)))))=pe (.c (.s (bs (ws.getD k [])))):=by rw [wd ws hk];rfl
theorem yarb (ws:List (List UInt8)) {C:Cx} {R:Ending→World→Prop} (hF:∀ k,C.F k→k<8) (z:AR 28 Tryz.f28 C 0 (guK ws 16 (opP (ws.getD 0 []))) R):∀ n j,j+n=16→1≤j→AR 28 Tryz.f28 C 0 (guK ws j (zr6 (ws.getD 0 []) j)) R
 | 0,j,hj,_=>by
  obtain rfl:j=16:=by omega
  rw [yasv];exact z
 | n+1,j,hj,h1=>by
  obtain ⟨k,rfl⟩:∃ k,j=k+1:=⟨j - 1,by omega⟩
  have hk:k<15:=by omega
  have d0:decide (((k+1:Nat):Int)<16)=true:=decide_eq_true (by omega)
  have dr:decide (0<(((ws.length+5:Nat)):Int))=true:=decide_eq_true (by omega)
  have e0:0+((k+1:Nat):Int).toNat*1=k+1:=by omega
  have g1:(AC.isS (nmC[0+((k+1:Nat):Int).toNat*1]?.getD (.b false))&&Nat.blt (0+((k+1:Nat):Int).toNat*1) nmC.length)=true:=by
   rw [e0,yajm hk,yaky]
   refine zaa rfl ?_
   simp;omega
  have g2:pe (.c (.s (AC.asS (nmC[0+((k+1:Nat):Int).toNat*1]?.getD (.b false)))))=pe (.c (.s (bs (nmL k)))):=by rw [e0,yajm hk];rfl
  have ih:=yarb ws hF z n (k+1+1) (by omega) (by omega)
  have es:zr6 (ws.getD 0 []) (k+1+1)=if nmL k=ws.getD 0 [] then ((k+1:Nat):Int) else zr6 (ws.getD 0 []) (k+1):=by
   show (if 1≤k+1∧nmL (k+1 - 1)=ws.getD 0 [] then ((k+1:Nat):Int) else zr6 (ws.getD 0 []) (k+1))=_
   simp
  rw [es] at ih
  by_cases h:nmL k=ws.getD 0 []
  ·rw [if_pos h] at ih
   exact yays (zaa d0 (zaa d0 (zaa g1 (zaa dr (zaa (yasq ws (by decide)) (zaa (by rw [zh7,zh7,h];simp) rfl)))))) (zcf 9) (zcf 12) g2 (yarh ws (by decide)) (ze0 (by omega)) (yak6 _ _ _) hF ih
  ·rw [if_neg h] at ih
   exact yaz0 (zaa d0 (zaa d0 (zaa g1 (zaa dr (zaa (yasq ws (by decide)) (zaa (zad (by rw [zh7,zh7];exact beq_eq_false_iff_ne.2 h)) rfl)))))) (zcf 9) (zcf 12) g2 (yarh ws (by decide)) (ze0 (by omega)) (yak6 _ _ _) hF ih
theorem ybab (ws:List (List UInt8)) (hs:∀ k,(bs (ws.getD k [])).size≤4096) {w:World} {β:Bs} {n:Nat}:AR 28 Tryz.f28 (cx w β n []) 0 (guK ws 16 (opP (ws.getD 0 []))) (REff w β ⟨.ag (yaaw ws).cs,[],none⟩):=by
 have d0:(!decide (((16:Nat):Int)<16))=true:=rfl
 have dr:∀ k:Nat,k<5→decide ((k:Int)<(((ws.length+5:Nat)):Int))=true:=fun k h=>decide_eq_true (by omega)
 have g:∀ k,k<5→_:=fun k h=>yasq ws h
 have p:∀ k,k<5→_:=fun k h=>yarh ws h
 have vR:∀ k,Ok 68 [.c (.s (bs (ws.getD k [])))] (.c (.i (regP (ws.getD k [])))):=fun k=>zzy (hs k)
 have vS:∀ k,Ok 70 [.c (.s (bs (ws.getD k [])))] (.c (.i (zgh (ws.getD k [])))):=fun k=>yaa4 (hs k)
 have vV:∀ k,Ok 69 [.c (.s (bs (ws.getD k [])))] (.c (.u (valP (ws.getD k [])))):=fun k=>zhk (hs k)
 have hr:=yan8 (ws.getD 0 [])
 unfold yaaw
 generalize opP (ws.getD 0 [])=o at *
 have cR:=zdt o
 have cB:=zao o
 unfold yalx
 by_cases h9:1≤o∧o≤9
 ·rw [if_pos h9]
  rw [decide_eq_true h9.1,decide_eq_true h9.2] at cR
  exact yaw2 (zaa d0 (zaa (dr 1 (by decide)) (zaa (g 1 (by decide)) (zaa (dr 2 (by decide)) (zaa (g 2 (by decide)) rfl))))) (zcf 9) cR (p 1 (by decide)) (vR 1) (p 2 (by decide)) (yawm (hs 2) ⟨o,regP (ws.getD 1 []),0,0,0⟩ 6)
 ·rw [if_neg h9]
  have cR2:Ok 38 [.c (.i o)] (.c (.b false)):=zam cR (by
   rcases Int.lt_or_le o 1 with h | h
   ·rw [decide_eq_false (by omega)];rfl
   ·rw [decide_eq_false (show ¬ o≤9 by omega),Bool.and_false])
  by_cases h10:o=10
  ·subst h10
   rw [if_pos rfl]
   exact yaw6 (zaa d0 (zaa rfl (zaa (dr 1 (by decide)) (zaa (g 1 (by decide)) (zaa (dr 2 (by decide)) (zaa (g 2 (by decide)) (zaa (dr 3 (by decide)) (zaa (g 3 (by decide)) (zaa (dr 4 (by decide)) (zaa (g 4 (by decide)) rfl)))))))))) (zcf 9) cR2 (p 1 (by decide)) (vV 1) (p 2 (by decide)) (vR 2) (p 3 (by decide)) (vR 3) (p 4 (by decide)) (vS 4)
  ·rw [if_neg h10]
   have f10:(!(o==10))=true:=by simp [h10]
   by_cases h11:o=11
   ·subst h11
    rw [if_pos rfl]
    exact yaxp (zaa d0 (zaa f10 (zaa rfl (zaa (dr 1 (by decide)) (zaa (g 1 (by decide)) (zaa (dr 2 (by decide)) (zaa (g 2 (by decide)) (zaa (dr 3 (by decide)) (zaa (g 3 (by decide)) (zaa (dr 4 (by decide)) (zaa (g 4 (by decide)) rfl))))))))))) (zcf 9) cR2 (p 1 (by decide)) (vV 1) (p 2 (by decide)) (vR 2) (p 3 (by decide)) (vS 3) (p 4 (by decide)) (vR 4)
   ·rw [if_neg h11]
    have f11:(!(o==11))=true:=by simp [h11]
    by_cases h13:o=13∨o=14
    ·rw [if_pos h13]
     have cB2:Ok 34 [.c (.i o)] (.c (.b true)):=zam cB (by rcases h13 with e | e <;> rw [e] <;> rfl)
     exact yayy (i:=zop ⟨o,regP (ws.getD 1 []),0,0,0⟩ (ws.getD 2 [])) (zaa d0 (zaa f10 (zaa f11 (zaa (dr 1 (by decide)) (zaa (g 1 (by decide)) (zaa (dr 2 (by decide)) (zaa (g 2 (by decide)) (zaa (dr 3 (by decide)) (zaa (g 3 (by decide)) rfl))))))))) (zcf 9) cR2 cB2 (p 1 (by decide)) (vR 1) (p 2 (by decide)) (yawm (hs 2) ⟨o,regP (ws.getD 1 []),0,0,0⟩ 6) (p 3 (by decide)) (vS 3)
    ·rw [if_neg h13]
     have cB2:Ok 34 [.c (.i o)] (.c (.b false)):=zam cB (by
      have e13:(o==13)=false:=beq_eq_false_iff_ne.2 fun e=>h13 (Or.inl e)
      have e14:(o==14)=false:=beq_eq_false_iff_ne.2 fun e=>h13 (Or.inr e)
      rw [e13,e14];rfl)
     by_cases h12:o=12
     ·subst h12
      rw [if_pos rfl]
      exact yaw3 (zaa d0 (zaa f10 (zaa f11 (zaa rfl (zaa (dr 1 (by decide)) (zaa (g 1 (by decide)) rfl)))))) (zcf 9) cR2 cB2 (p 1 (by decide)) (vS 1)
     ·rw [if_neg h12]
      exact yayg (zaa d0 (zaa f10 (zaa f11 (zaa (by simp [h12]) rfl)))) (zcf 9) cR2 cB2
theorem zz8 {l:List UInt8} {c:UInt8} {k:Nat} (j:Nat):((cutL c k [] l).getD j []).length≤l.length:=by
 rw [List.getD_eq_getElem?_getD]
 cases h:(cutL c k [] l)[j]? with
 | none=>simp
 | some x=>exact zxy c l [] k l.length (by simp) x (List.mem_of_getElem? h)
theorem yaam {t:ByteArray} (ht:t.size≤4096):Ok 28 [.c (.s t)] (.ag (zdw t.data.toList).cs):=by
 refine zg9 Tryz.func28 rfl rfl (zux rfl) rfl (fun _ _ h=>(nomatch h)) fun w β=>?_
 have hc:=yaq7 ht 32 (k:=5) (by omega) 2
 have hl:=zhp 32 t.data.toList [] 6
 have h0:0<(cutL 32 6 [] t.data.toList).length:=List.length_pos_iff.2 (zn1 32 5 _ _)
 have hs:∀ k,(bs ((cutL 32 6 [] t.data.toList).getD k [])).size≤4096:=fun k=>by
  rw [zdu]
  have:=zz8 (l:=t.data.toList) (c:=32) (k:=6) k
  rw [zdr] at this
  omega
 unfold zdw
 generalize cutL 32 6 [] t.data.toList=ws at *
 have g0:(Nat.beq (ws.length*1) (wcell ws).length&&decide (ws.length+5≤137438953472)&&Nat.blt 0 ws.length)=true:=by
  rw [zgt,Nat.mul_one,Nat.beq_refl,decide_eq_true (by omega)]
  simpa using h0
 exact yanm (zaa g0 rfl) hc rfl (yak6 ws 1 0) (fun k hk=>absurd hk (Nat.not_lt_zero k)) (yarb ws (fun k hk=>absurd hk (Nat.not_lt_zero k)) (ybab ws hs) 15 1 rfl (Nat.le_refl _))
theorem p_sx {f:Nat} {L:List Ins} {v:AV} (h:∀ c,CallOK Tryz.prog ⟨f,[.c (.sl 0 0 L.length c)],pH L,⟨v,[],none⟩⟩) (hv:∀ ρ,v.ren ρ=v) (K:Nat) (b:Bool) (r:Nat):CallOK Tryz.prog ⟨f,[.c (.sx K L.length)],[(K,⟨b,pcell L,r⟩)],⟨v,[],none⟩⟩:=by
 refine CallOK.of_cap (xs:=[]) (bs:=[]) fun c=>?_
 refine CallOK.more (H:=[(K,⟨false,pcell L,0⟩)]) ?_ ⟨fun j en hj=>?_⟩
 ·refine ((h c).ren (swp 0 K) (zbl 0 K)).congr ?_
  unfold CallRec.ren Eff.ren renH
  have e:AV.ren (swp 0 K) (.c (.sl 0 0 L.length c))=.c (.sl K 0 L.length c):=by simp only [AV.ren,AC.ren,zeg]
  simp only [List.map_cons,List.map_nil,Option.map_none,Ent.ren,zck _ (zaj L),e,zeg,hv,List.nil_append]
 ·obtain ⟨rfl,rfl⟩:=zbh hj
  exact ⟨⟨b,pcell L,r⟩,by rw [zau,if_pos rfl],rfl,fun h=>(by cases h),Or.inl rfl⟩
theorem yat8 (t:ByteArray) (r j:Nat) (ws:List (List UInt8)):Kn.Low (yam2 t r j (wcell ws)):=zg7 rfl rfl ⟨zdh ws,trivial⟩
theorem yajo (t:ByteArray) (r j:Nat) (ws:List (List UInt8)) (M:List Ins):Kn.Low (zoy t r j (wcell ws) M):=zg7 rfl rfl ⟨zdh ws,zaj M,trivial⟩
abbrev cfYK (t:ByteArray) (r j q:Nat) (D:List AC) (M:List Ins):Kn:=⟨[(0,.c (.s t)),(4,.c (.sx 6 r)),(5,.c (.sx 63 q)),(6,.c (.i (j:Int)))],[(6,Ent.mk true D 1),(63,Ent.mk true (pcell M) 5)],64⟩
theorem yak8 (t:ByteArray) (r j q:Nat) (ws:List (List UInt8)) (M:List Ins):Kn.Low (cfYK t r j q (wcell ws) M):=zg7 rfl rfl ⟨zdh ws,zaj M,trivial⟩
theorem yarc (t:ByteArray) (r j q:Nat) (ws:List (List UInt8)) (M:List Ins) (hq:q=M.length):(cfYK t r j q (wcell ws) M).ren (swp 50 63) 51=zoy t r j (wcell ws) M:=by
 subst hq
 unfold Kn.ren renH
 simp only [List.map_cons,List.map_nil,Ent.ren,zck _ (zdh ws),zck _ (zaj M)]
 rfl
theorem yaxi {ws:List (List UInt8)} {j:Nat} (h:j<ws.length):(wcell ws)[(j:Int).toNat*1]?=some (.s (bs (ws.getD j []))):=by
 rw [Int.toNat_natCast,Nat.mul_one]
 unfold wcell
 rw [List.getElem?_map,List.getD_eq_getElem?_getD,List.getElem?_eq_getElem h];rfl
theorem yay5 {ws:List (List UInt8)} {j:Nat} (h:j<ws.length):(AC.isS ((wcell ws)[(j:Int).toNat*1]?.getD (.b false))&&Nat.blt ((j:Int).toNat*1) (wcell ws).length)=true:=by
 rw [yaxi h,zgt]
 refine zaa rfl ?_
 simpa using h
theorem yawv {ws:List (List UInt8)} {j:Nat} (h:j<ws.length):pe (.c (.s (AC.asS ((wcell ws)[(j:Int).toNat*1]?.getD (.b false)))))=pe (.c (.s (bs (ws.getD j [])))):=by rw [yaxi h];rfl
theorem yagr (ws:List (List UInt8)) {j:Nat} (h:j<ws.length):(ws.take j).map zdw++[zdw (ws.getD j [])]=(ws.take (j+1)).map zdw:=by
 rw [List.take_add_one,List.map_append,List.getElem?_eq_getElem h,List.getD_eq_getElem?_getD,List.getElem?_eq_getElem h];rfl
theorem zt1 (i:Ins):i.cs=pcell [i]:=by simp [pcell]
theorem yaq0 {t:ByteArray} {ws:List (List UInt8)} (hs:∀ k,(bs (ws.getD k [])).size≤4096) (h66:ws.length≤66) {C:Cx} {R:Ending→World→Prop} (hF:∀ k,C.F k→k<0) (z:AR 11 Tryz.f11 C 0 (zoy t ws.length (ws.length - 1) (wcell ws) (ws.dropLast.map zdw)) R):∀ n j,j+n+1=ws.length→1≤j→AR 11 Tryz.f11 C 0 (zoy t ws.length j (wcell ws) ((ws.take j).map zdw)) R
 | 0,j,hj,_=>by
  obtain rfl:j=ws.length - 1:=by omega
  rw [← List.dropLast_eq_take];exact z
 | n+1,j,hj,h1=>by
  have hl:((ws.take j).map zdw).length=j:=by rw [List.length_map,List.length_take];omega
  have d0:decide (((j+1:Nat):Int)<(ws.length:Int))=true:=decide_eq_true (by omega)
  have d1:decide ((j:Int)<(ws.length:Int))=true:=decide_eq_true (by omega)
  have hjw:j<ws.length:=by omega
  have da:(Nat.beq (((ws.take j).map zdw).length*5) (pcell ((ws.take j).map zdw)).length&&decide (((ws.take j).map zdw).length+1≤137438953472)&&Nat.blt 0 ((ws.take j).map zdw).length)=true:=by
   rw [zat,Nat.beq_refl,hl,decide_eq_true (by omega)]
   simp;omega
  have hg:=yaam (hs j)
  refine yare (zaa d0 (zaa d1 (zaa (yay5 hjw) (zaa da rfl)))) (ze0 (by omega)) (yawv hjw) hg ?_ (ze0 (by omega)) (yak8 _ _ _ _ _ _) (fun k hk=>absurd (hF k hk) (Nat.not_lt_zero k)) ?_
  ·rw [yaik,← zt1];rfl
  ·have e:=yagr ws hjw
   refine ART.ren (swp 50 63) 51 (zq7 50 63) (yarc _ _ _ _ _ _ (by simp)) (fun k hk=>absurd (hF k hk) (Nat.not_lt_zero k)) (yajo _ _ _ _ _) ?_
   show AR 11 Tryz.f11 C 0 (zoy t ws.length (j+1) (wcell ws) ((ws.take j).map zdw++[zdw (bs (ws.getD j [])).data.toList])) R
   rw [show (bs (ws.getD j [])).data.toList=ws.getD j [] from rfl,e]
   exact yaq0 hs h66 hF z n (j+1) (by omega) (by omega)
theorem yawx {t:ByteArray} (ht:t.size≤4096) {C:Cx} {R:Ending→World→Prop} (hF:∀ k,C.F k→k<0)
  (zn:zhw t=[]→AR 11 Tryz.f11 C 0 (yam2 t 1 0 (wcell (cutL 10 66 [] t.data.toList))) R)
  (zx:AR 11 Tryz.f11 C 0 (zoy t (cutL 10 66 [] t.data.toList).length ((cutL 10 66 [] t.data.toList).length - 1) (wcell (cutL 10 66 [] t.data.toList)) (zhw t)) R) :
  BO 11 Tryz.f11 C [.c (.s t)] [] 0 R:=by
 have hc:=yaq7 ht 10 (k:=65) (by omega) 6
 have hl:=zhp 10 t.data.toList [] 66
 have h0:0<(cutL 10 66 [] t.data.toList).length:=List.length_pos_iff.2 (zn1 10 65 _ _)
 have hs:∀ k,(bs ((cutL 10 66 [] t.data.toList).getD k [])).size≤4096:=fun k=>by
  rw [zdu]
  have:=zz8 (l:=t.data.toList) (c:=10) (k:=66) k
  rw [zdr] at this
  omega
 unfold zhw at zn zx
 generalize cutL 10 66 [] t.data.toList=ws at *
 refine yamt (zaa (zad (decide_eq_false (by omega))) rfl) hc (yat8 t ws.length 0 ws) (fun k hk=>absurd (hF k hk) (Nat.not_lt_zero k)) ?_
 by_cases h1:ws.length=1
 ·have e:ws.dropLast=[]:=List.length_eq_zero_iff.1 (by rw [List.length_dropLast];omega)
  rw [h1]
  exact zn (by rw [e];rfl)
 ·have hg:=yaam (hs 0)
  have d0:decide (((0+1:Nat):Int)<(ws.length:Int))=true:=decide_eq_true (by omega)
  have d1:decide (((0:Nat):Int)<(ws.length:Int))=true:=decide_eq_true (by omega)
  refine yatf (j:=0) (zaa d0 (zaa d1 (zaa (yay5 h0) rfl))) (ze0 (by omega)) (yawv h0) hg (by rw [zt1]) (ze0 (by omega)) (yak8 _ _ _ _ _ _) (fun k hk=>absurd (hF k hk) (Nat.not_lt_zero k)) ?_
  refine ART.ren (swp 50 63) 51 (zq7 50 63) (yarc _ _ _ _ _ _ rfl) (fun k hk=>absurd (hF k hk) (Nat.not_lt_zero k)) (yajo _ _ _ _ _) ?_
  have e:=yagr ws h0
  have e2:[zdw (bs (ws.getD 0 [])).data.toList]=(ws.take 1).map zdw:=by rw [← e];rfl
  rw [e2]
  exact yaq0 hs hl hF zx (ws.length - 2) 1 (by omega) (Nat.le_refl _)
theorem yasi (L:List Ins):EKeys 0 [] (some 50) ⟨.tu [.c (.sx 50 L.length),.c (.b true)],[],some (50,⟨true,pcell L,5⟩)⟩:=by
 refine ⟨fun k hk=>Or.inr ?_,fun _ _ hm=>(nomatch hm),fun k en' h'=>?_,fun _ h=>(nomatch h),fun k h=>⟨Nat.zero_le _,rfl⟩⟩
 ·rw [List.mem_singleton.1 hk]
 ·injection h' with h';injection h' with _ h';subst h';exact zaj L
theorem yacd (M:List Ins):CallOK Tryz.prog ⟨29,[.c (.sx 50 M.length)],[(50,⟨true,pcell M,5⟩)],⟨.c (.i (zan M)),[],none⟩⟩:=p_sx (fun c=>zwj M c) (fun _=>rfl) 50 true 5
theorem zs0 {t:ByteArray} {L:List Ins} (h:zy7 t=some L):CallOK Tryz.prog ⟨11,[.c (.s t)],[],⟨.tu [.c (.sx 50 L.length),.c (.b true)],[],some (50,⟨true,pcell L,5⟩)⟩⟩:=by
 unfold zy7 at h
 split at h
 ·rename_i ht
  split at h
  ·rename_i hL
   injection h with h
   subst h
   have h0:=zn1 10 65 t.data.toList []
   have hl:=List.length_pos_iff.2 h0
   have h66:=zhp 10 t.data.toList [] 66
   refine zk0 Tryz.func11 rfl rfl rfl rfl (zaj _) fun w β _=>?_
   refine yawx ht (fun k hk=>hk) (fun e=>?_) ?_
   ·rw [e] at hL;exact absurd hL.1 (by decide)
   ·have hc:=yacd (zhw t)
    rw [hL.1] at hc
    refine yavk (u:=t) (zaa (zad (decide_eq_false (by omega))) (zaa (by simp) rfl)) (ze0 (by omega)) hc ?_ (yasi _)
    have:=p_sx (fun c=>zie c hL.1) (fun _=>rfl) 50 true 5
    rwa [show bs (shown (zhw t))=t from hL.2] at this
  ·cases h
 ·cases h
theorem zsq {t:ByteArray} (h:zy7 t=none):Ok 11 [.c (.s t)] (.tu [.c zcu,.c (.b false)]):=by
 unfold zy7 at h
 split at h
 ·rename_i ht
  split at h
  ·cases h
  ·rename_i hL
   have h0:=zn1 10 65 t.data.toList []
   have hl:=List.length_pos_iff.2 h0
   have h66:=zhp 10 t.data.toList [] 66
   refine zg9 Tryz.func11 rfl rfl (zux rfl) rfl (fun _ _ h=>(nomatch h)) fun w β=>?_
   refine yawx ht (fun k hk=>hk) (fun _=>?_) ?_
   ·exact yata (zaa (zad (decide_eq_false (by omega))) rfl) (ze0 (by omega)) zqr
   ·have hc:=yacd (zhw t)
    by_cases he:zan (zhw t)=0
    ·rw [he] at hc
     have hne:(⟨(shown (zhw t)).toArray⟩:ByteArray)≠t:=fun e=>hL ⟨he,e⟩
     refine yaux (u:=bs (shown (zhw t))) (zaa (zad (decide_eq_false (by omega))) (zaa (zad ?_) rfl)) (ze0 (by omega)) hc (p_sx (fun c=>zie c he) (fun _=>rfl) 50 true 5)
     rw [zh7,zhn]
     exact beq_eq_false_iff_ne.2 fun e=>hne ((congrArg (fun l=>bs l) e).trans (zx4 t))
    ·refine yat2 (e:=zan (zhw t)) (zaa (zad (decide_eq_false (by omega))) (zaa (by simpa using he) rfl)) (ze0 (by omega)) hc
 ·exact yaog (zaa (decide_eq_true (by omega)) rfl)
end Go.Proofs.YtkigmocchaikgabGreatDoor
namespace Go.Proofs.YtkigmocchaikgabGreatDoor
open Go.RowKit
section
variable {L L2:List Ins} {q c d j n:Nat} {C:Cx} {R:Ending→World→Prop} {u:Ins} {w:World} {β:Bs}
end
end Go.Proofs.YtkigmocchaikgabGreatDoor
namespace Go.Proofs.YtkigmocchaikgabGreatDoor
open Go.Shelf Go.RowKit Go.Sort Go.Lib
end Go.Proofs.YtkigmocchaikgabGreatDoor
namespace Go.Proofs.YtkigmocchaikgabGreatDoor
def g2:List Ins:=[⟨10,0,1,8#64,0⟩,⟨15,0,0,0#64,0⟩]
def memB:ByteArray:=zmq ((List.range 64).map fun j=>AC.y (BitVec.ofNat 8 (j+1)))
def m1:Mach:=⟨1,⟨0#64,9#64,0#64,0#64,0#64,0#64⟩,⟨true,true,false,false,false,false⟩,memB,0⟩
end Go.Proofs.YtkigmocchaikgabGreatDoor
namespace Go.Proofs.YtkigmocchaikgabGreatDoor
open Go.Shelf Go.RowKit Go.Sort Go.Lib
theorem yakk {L:List Ins} {W:World} {b o c:Nat} (h:PAt W b o L) (hw:Gw W) (he:zan L=0):Calls Tryz.prog 18 #[.slice (some ⟨b,o,none⟩) L.length c] W fun e w'=>e=.returned (.tuple #[.string ⟨(shown L).toArray⟩,.int .i64 0])∧Below W.heap.size W w' :=
 zkb h hw (zg5 he).1 he (zg5 he).2
end Go.Proofs.YtkigmocchaikgabGreatDoor
namespace Go.Proofs.YtkigmocchaikgabGreatDoor
def cy (x y:BitVec 64) (i:Nat):Bool:=BitVec.carry i x y false
theorem zns (x y:BitVec 64):cy x y 0=false:=by unfold cy;rw [BitVec.carry_zero]
theorem zke (x y:BitVec 64) (i:Nat):cy x y (i+1)=((bit x i&&bit y i)||(cy x y i&&(bit x i||bit y i))):=by
 unfold cy bit
 rw [BitVec.carry_succ]
 unfold Bool.atLeastTwo
 cases x.getLsbD i <;> cases y.getLsbD i <;> cases BitVec.carry i x y false <;> rfl
theorem zh9 (x y:BitVec 64) (i:Nat) (hi:i<64):bit (badd x y) i=(bit x i ^^ bit y i ^^ cy x y i):=by
 unfold bit badd cy
 rw [BitVec.getLsbD_add hi]
 cases x.getLsbD i <;> cases y.getLsbD i <;> cases BitVec.carry i x y false <;> rfl
theorem zom (x y x' y':BitVec 64) (hx:∀ j,bit x j=true→bit x' j=true) (hy:∀ j,bit y j=true→bit y' j=true) (i:Nat):cy x y i=true→cy x' y' i=true:=by
 induction i with
 | zero=>intro h;rw [zns] at h;cases h
 | succ i ih =>
  rw [zke,zke]
  have h1:=hx i;have h2:=hy i
  revert ih h1 h2
  cases bit x i <;> cases bit y i <;> cases cy x y i <;> cases bit x' i <;> cases bit y' i <;> cases cy x' y' i <;> simp
theorem has_iff (v m x:BitVec 64):eqb (bandn x m) v=true↔∀ j,j<64→(bit x j&&!bit m j)=bit v j:=by
 rw [zdl]
 constructor
 ·intro h j hj;rw [← zas _ _ _ hj,h]
 ·intro h;apply yaes;intro j hj;rw [zas _ _ _ hj];exact h j hj
theorem yab7 {v m:BitVec 64} (hr:∀ j,(bit v j&&bit m j)=false):badd v m=bor v m:=by
 have hc:∀ i,cy v m i=false:=by
  intro i
  induction i with
  | zero=>exact zns _ _
  | succ i ih =>
   rw [zke,ih]
   have:=hr i
   revert this
   cases bit v i <;> cases bit m i <;> simp
 apply yaes;intro j hj
 rw [zh9 _ _ _ hj,hc j,zaq]
 have:=hr j
 revert this
 cases bit v j <;> cases bit m j <;> simp
theorem yaod (a b c d:BitVec 64):badd (badd (badd a b) c) d=badd (badd a c) (badd b d):=by
 unfold badd
 rw [BitVec.add_assoc,BitVec.add_assoc,BitVec.add_assoc]
 congr 1
 rw [← BitVec.add_assoc,← BitVec.add_assoc,BitVec.add_comm b c]
theorem zq5 {av am bv bm:BitVec 64} (ha:∀ j,(bit av j&&bit am j)=false) (hb:∀ j,(bit bv j&&bit bm j)=false) (j:Nat) (hj:j<64) :
  bit (bor (bor (bxor (badd av bv) (badd (badd (badd av bv) am) bm)) am) bm) j=(bit am j||bit bm j||(!cy av bv j&&cy (bor av am) (bor bv bm) j)):=by
 rw [zaq,zaq,zbk,yaod,yab7 ha,yab7 hb,zh9 _ _ _ hj,zh9 _ _ _ hj,zaq,zaq]
 have hm:=zom av bv (bor av am) (bor bv bm) (fun i h=>by rw [zaq,h];rfl) (fun i h=>by rw [zaq,h];rfl) j
 have h1:=ha j;have h2:=hb j
 revert hm h1 h2
 cases bit av j <;> cases bit am j <;> cases bit bv j <;> cases bit bm j <;> cases cy av bv j <;> cases cy (bor av am) (bor bv bm) j <;> simp
theorem zt6 {av am bv bm x y:BitVec 64} (ha:∀ j,(bit av j&&bit am j)=false) (hb:∀ j,(bit bv j&&bit bm j)=false)
  (hx:∀ j,j<64→(bit x j&&!bit am j)=bit av j) (hy:∀ j,j<64→(bit y j&&!bit bm j)=bit bv j) (M:BitVec 64)
  (hM:M=bor (bor (bxor (badd av bv) (badd (badd (badd av bv) am) bm)) am) bm):∀ j,j<64→(bit (badd x y) j&&!bit M j)=bit (bandn (badd av bv) M) j:=by
 intro j hj
 rw [zas _ _ _ hj,hM,zq5 ha hb j hj,zh9 _ _ _ hj,zh9 _ _ _ hj]
 have lx:∀ i,bit av i=true→bit x i=true:=fun i h=>by
  by_cases hi:i<64
  ·have:=hx i hi;rw [h] at this;revert this;cases bit x i <;> simp
  ·rw [zba _ _ (by omega)] at h;cases h
 have ly:∀ i,bit bv i=true→bit y i=true:=fun i h=>by
  by_cases hi:i<64
  ·have:=hy i hi;rw [h] at this;revert this;cases bit y i <;> simp
  ·rw [zba _ _ (by omega)] at h;cases h
 have ux:∀ i,bit x i=true→bit (bor av am) i=true:=fun i h=>by
  by_cases hi:i<64
  ·have:=hx i hi;rw [zaq];rw [h] at this;revert this;cases bit av i <;> cases bit am i <;> simp
  ·rw [zba _ _ (by omega)] at h;cases h
 have uy:∀ i,bit y i=true→bit (bor bv bm) i=true:=fun i h=>by
  by_cases hi:i<64
  ·have:=hy i hi;rw [zaq];rw [h] at this;revert this;cases bit bv i <;> cases bit bm i <;> simp
  ·rw [zba _ _ (by omega)] at h;cases h
 have m1:=zom av bv x y lx ly j
 have m2:=zom x y (bor av am) (bor bv bm) ux uy j
 have h1:=hx j hj;have h2:=hy j hj
 revert m1 m2 h1 h2
 cases bit x j <;> cases bit y j <;> cases bit av j <;> cases bit am j <;> cases bit bv j <;> cases bit bm j <;> cases cy av bv j <;> cases cy x y j <;> cases cy (bor av am) (bor bv bm) j <;> simp
theorem yakn (x y:BitVec 64):bsub x y=bnot (badd (bnot x) y):=by
 unfold bsub bnot badd
 apply BitVec.eq_of_toNat_eq
 rw [BitVec.toNat_sub,BitVec.toNat_not,BitVec.toNat_add,BitVec.toNat_not]
 have:=x.isLt;have:=y.isLt
 omega
def bw (x y:BitVec 64) (i:Nat):Bool:=cy (bnot x) y i
theorem zkl (x y:BitVec 64) (i:Nat) (hi:i<64):bit (bsub x y) i=(bit x i ^^ bit y i ^^ bw x y i):=by
 rw [yakn,zdj _ _ hi,zh9 _ _ _ hi,zdj _ _ hi]
 unfold bw
 cases bit x i <;> cases bit y i <;> cases cy (bnot x) y i <;> rfl
theorem zxf (x y:BitVec 64):bw x y 0=false:=zns _ _
theorem zx7 (x y:BitVec 64) (i:Nat) (hi:i<64):bw x y (i+1)=((!bit x i&&bit y i)||(bw x y i&&(!bit x i||bit y i))):=by
 unfold bw;rw [zke,zdj _ _ hi]
theorem zgw (x y x' y':BitVec 64) (hx:∀ j,bit x' j=true→bit x j=true) (hy:∀ j,bit y j=true→bit y' j=true) (i:Nat):bw x y i=true→bw x' y' i=true:=by
 unfold bw
 refine zom _ _ _ _ (fun j h=>?_) hy i
 by_cases hj:j<64
 ·rw [zdj _ _ hj] at h ⊢
  have:=hx j
  revert this h
  cases bit x j <;> cases bit x' j <;> simp
 ·rw [zba _ _ (by omega)] at h;cases h
theorem yarx (a b c:BitVec 64):badd (bsub a b) c=bsub (badd a c) b:=by
 unfold badd bsub
 apply BitVec.eq_of_toNat_eq
 simp only [BitVec.toNat_add,BitVec.toNat_sub]
 have:=a.isLt;have:=b.isLt;have:=c.isLt
 omega
theorem sub_sub (a b c:BitVec 64):bsub (bsub a b) c=bsub a (badd b c):=by
 unfold badd bsub
 apply BitVec.eq_of_toNat_eq
 simp only [BitVec.toNat_add,BitVec.toNat_sub]
 have:=a.isLt;have:=b.isLt;have:=c.isLt
 omega
theorem zrq {av am bv bm:BitVec 64} (ha:∀ j,(bit av j&&bit am j)=false) (hb:∀ j,(bit bv j&&bit bm j)=false) (j:Nat) (hj:j<64) :
  bit (bor (bor (bxor (badd (bsub av bv) am) (bsub (bsub av bv) bm)) am) bm) j=(bit am j||bit bm j||(!bw (bor av am) bv j&&bw av (bor bv bm) j)):=by
 rw [zaq,zaq,zbk,yarx,sub_sub,yab7 ha,yab7 hb,zkl _ _ _ hj,zkl _ _ _ hj,zaq,zaq]
 have hm:=zgw (bor av am) bv av (bor bv bm) (fun i h=>by rw [zaq,h];rfl) (fun i h=>by rw [zaq,h];rfl) j
 have h1:=ha j;have h2:=hb j
 revert hm h1 h2
 cases bit av j <;> cases bit am j <;> cases bit bv j <;> cases bit bm j <;> cases bw (bor av am) bv j <;> cases bw av (bor bv bm) j <;> simp
theorem yaxe {v m x:BitVec 64} (hx:∀ j,j<64→(bit x j&&!bit m j)=bit v j) (i:Nat) (h:bit v i=true):bit x i=true:=by
 by_cases hi:i<64
 ·have:=hx i hi;rw [h] at this;revert this;cases bit x i <;> simp
 ·rw [zba _ _ (by omega)] at h;cases h
theorem yat6 {v m x:BitVec 64} (hx:∀ j,j<64→(bit x j&&!bit m j)=bit v j) (i:Nat) (h:bit x i=true):bit (bor v m) i=true:=by
 by_cases hi:i<64
 ·have:=hx i hi;rw [zaq];rw [h] at this;revert this;cases bit v i <;> cases bit m i <;> simp
 ·rw [zba _ _ (by omega)] at h;cases h
theorem yaiu {av am bv bm x y:BitVec 64} (ha:∀ j,(bit av j&&bit am j)=false) (hb:∀ j,(bit bv j&&bit bm j)=false)
  (hx:∀ j,j<64→(bit x j&&!bit am j)=bit av j) (hy:∀ j,j<64→(bit y j&&!bit bm j)=bit bv j) (M:BitVec 64)
  (hM:M=bor (bor (bxor (badd (bsub av bv) am) (bsub (bsub av bv) bm)) am) bm):∀ j,j<64→(bit (bsub x y) j&&!bit M j)=bit (bandn (bsub av bv) M) j:=by
 intro j hj
 rw [zas _ _ _ hj,hM,zrq ha hb j hj,zkl _ _ _ hj,zkl _ _ _ hj]
 have m1:=zgw (bor av am) bv x y (yat6 hx) (yaxe hy) j
 have m2:=zgw x y av (bor bv bm) (yaxe hx) (yat6 hy) j
 have m3:=zgw (bor av am) bv av bv (fun i h=>by rw [zaq,h];rfl) (fun i h=>h) j
 have m4:=zgw av bv av (bor bv bm) (fun i h=>h) (fun i h=>by rw [zaq,h];rfl) j
 have h1:=hx j hj;have h2:=hy j hj
 revert m1 m2 m3 m4 h1 h2
 cases bit x j <;> cases bit y j <;> cases bit av j <;> cases bit am j <;> cases bit bv j <;> cases bit bm j <;> cases bw (bor av am) bv j <;> cases bw x y j <;> cases bw av bv j <;> cases bw av (bor bv bm) j <;> simp
end Go.Proofs.YtkigmocchaikgabGreatDoor
namespace Go.Proofs.YtkigmocchaikgabGreatDoor
open Go.RowKit
section
attribute [local go_sem] zc9 w_or zdb za3 zbw zbc zc7 zcy zc8 zbz zb1 zc2 zb0 zda zcn zcz zb2 zby zbx zb3 za1
theorem bk {W w1:World} (B:Nat) (hb:Below W.heap.size W w1) (h:B≤W.heap.size) :
  (∀ b o,b<B→w1.cell? ⟨b,o,none⟩=W.cell? ⟨b,o,none⟩)∧(∀ b o,b<B→w1.frozen? ⟨b,o,none⟩=W.frozen? ⟨b,o,none⟩)∧B≤w1.heap.size :=
 ⟨fun b o k=>hb.cell (p:=⟨b,o,none⟩) (Nat.lt_of_lt_of_le k h),fun b o k=>hb.frozen (p:=⟨b,o,none⟩) (Nat.lt_of_lt_of_le k h),Nat.le_trans h hb.size⟩
theorem bl {W w1:World} {B:Nat} (hb:Below B W w1) :
  (∀ b o,b<B→w1.cell? ⟨b,o,none⟩=W.cell? ⟨b,o,none⟩)∧(∀ b o,b<B→w1.frozen? ⟨b,o,none⟩=W.frozen? ⟨b,o,none⟩) :=
 ⟨fun b o k=>hb.cell (p:=⟨b,o,none⟩) k,fun b o k=>hb.frozen (p:=⟨b,o,none⟩) k⟩
theorem yayb {w:World} {b:Nat} {u x y:Value} (h:w.cell? ⟨b,0,none⟩=some u):((w.setCell ⟨b,0,none⟩ x).setCell ⟨b,1,none⟩ y).cell? ⟨b,0,none⟩=some x:=by
 rw [World.cell?_setCell_other _ _ _ _ (by simp),World.cell?_setCell_same _ _ _ h]
theorem yax9 {w:World} {b:Nat} {u x y:Value} (h:w.cell? ⟨b,1,none⟩=some u):((w.setCell ⟨b,0,none⟩ x).setCell ⟨b,1,none⟩ y).cell? ⟨b,1,none⟩=some y:=by
 have:(w.setCell ⟨b,0,none⟩ x).cell? ⟨b,1,none⟩=some u:=by rw [World.cell?_setCell_other _ _ _ _ (by simp),h]
 rw [World.cell?_setCell_same _ _ _ this]
theorem yacw {w W:World} {B b:Nat} {x y:Value} (h:Below B w W) (hb:B≤b):Below B w ((W.setCell ⟨b,0,none⟩ x).setCell ⟨b,1,none⟩ y):=(h.setCell hb x).setCell hb y
theorem zeh {W wr w3:World} {B:Nat} {x y x' y':BitVec 64} (hbel:Below B W wr) (hb:Below wr.heap.size wr w3) (hsz:B+1≤wr.heap.size)
  {u0 u1:Value} (h0:wr.cell? ⟨B,0,none⟩=some u0) (h1:wr.cell? ⟨B,1,none⟩=some u1) (hf:∀ o,wr.frozen? ⟨B,o,none⟩=false) (ex:x=x') (ey:y=y') :
  Below B W ((w3.setCell ⟨B,0,none⟩ (.int .u64 (nv x))).setCell ⟨B,1,none⟩ (.int .u64 (nv y)))
  ∧ ((w3.setCell ⟨B,0,none⟩ (.int .u64 (nv x))).setCell ⟨B,1,none⟩ (.int .u64 (nv y))).cell? ⟨B,0,none⟩=some (U x')
  ∧ ((w3.setCell ⟨B,0,none⟩ (.int .u64 (nv x))).setCell ⟨B,1,none⟩ (.int .u64 (nv y))).cell? ⟨B,1,none⟩=some (U y')
  ∧ (∀ o,((w3.setCell ⟨B,0,none⟩ (.int .u64 (nv x))).setCell ⟨B,1,none⟩ (.int .u64 (nv y))).frozen? ⟨B,o,none⟩=false)
  ∧ B+1≤((w3.setCell ⟨B,0,none⟩ (.int .u64 (nv x))).setCell ⟨B,1,none⟩ (.int .u64 (nv y))).heap.size:=by
 subst ex;subst ey
 obtain ⟨hc,hfr,hs⟩:=bk (B+1) hb hsz
 refine ⟨yacw (hbel.trans (hb.mono (by omega))) (Nat.le_refl _),yayb ((hc B 0 (by omega)).trans h0),yax9 ((hc B 1 (by omega)).trans h1),fun o=>?_,?_⟩
 ·simp only [World.frozen?_setCell];exact (hfr B o (by omega)).trans (hf o)
 ·simp only [World.size_setCell];exact hs
theorem zzz {W wr w3:World} {B:Nat} {x y x' y':BitVec 64} (hbel:Below B W wr) (hb:Below wr.heap.size wr w3) (hsz:B+1≤wr.heap.size)
  (h0:wr.cell? ⟨B,0,none⟩=some (U x)) (h1:wr.cell? ⟨B,1,none⟩=some (U y)) (hf:∀ o,wr.frozen? ⟨B,o,none⟩=false) (ex:x=x') (ey:y=y') :
  Below B W w3∧w3.cell? ⟨B,0,none⟩=some (U x')∧w3.cell? ⟨B,1,none⟩=some (U y')∧(∀ o,w3.frozen? ⟨B,o,none⟩=false)∧B+1≤w3.heap.size:=by
 subst ex;subst ey
 obtain ⟨hc,hfr,hs⟩:=bk (B+1) hb hsz
 exact ⟨hbel.trans (hb.mono (by omega)),(hc B 0 (by omega)).trans h0,(hc B 1 (by omega)).trans h1,fun o=>(hfr B o (by omega)).trans (hf o),hs⟩
set_option maxHeartbeats 400000 in
theorem zew (x y:BitVec 64) (w:World) :
  Calls Tryz.prog 180 #[U x,U y] w fun e w'=>e=.returned (Bt (bandn x y) y)∧Below w.heap.size w w':=by
 go_enter Tryz.func180,Tryz.ntmps180
 go_wp2
 exact bodyPost_ret (v:=Bt (bandn x y) y) (by simp [results,Tryz.results180,go_sem]) rfl ⟨rfl,(by repeat (first | exact Below.refl _ _ | assumption | refine below_drewN ?_ _ | refine Below.drew ?_ | refine Below.alloc ?_ (by first | exact Nat.le_refl _ | (simp;done) | (simp;omega) | omega) _ | refine Below.setCell ?_ (by first | exact Nat.le_refl _ | (simp;done) | (simp;omega) | omega) _ | refine Below.trans ?_ (Below.mono (by assumption) (by first | exact Nat.le_refl _ | (simp;done) | (simp;omega) | omega))))⟩
set_option maxHeartbeats 400000 in
theorem yaq2 (v m:BitVec 64) (i:Nat) (hi:i<64) (w:World) :
  Calls Tryz.prog 220 #[Bt v m,.int .u64 i] w fun e w'=>e=.returned (Bt (bshl v i) (bshl m i))∧Below w.heap.size w w':=by
 go_enter Tryz.func220,Tryz.ntmps220
 go_wp2
 exact bodyPost_ret (v:=Bt (bshl v i) (bshl m i)) (by simp [results,Tryz.results220,go_sem]) rfl ⟨rfl,(by repeat (first | exact Below.refl _ _ | assumption | refine below_drewN ?_ _ | refine Below.drew ?_ | refine Below.alloc ?_ (by first | exact Nat.le_refl _ | (simp;done) | (simp;omega) | omega) _ | refine Below.setCell ?_ (by first | exact Nat.le_refl _ | (simp;done) | (simp;omega) | omega) _ | refine Below.trans ?_ (Below.mono (by assumption) (by first | exact Nat.le_refl _ | (simp;done) | (simp;omega) | omega))))⟩
set_option maxHeartbeats 400000 in
theorem may0 (v m:BitVec 64) (i:Nat) (hi:i<64) (w:World) :
  Calls Tryz.prog 166 #[Bt v m,N i] w fun e w'=>e=.returned (.tuple #[.bool (!bit v i),.bool (bit v i||bit m i)])∧Below w.heap.size w w':=by
 have h1:=yalj v i hi
 have h3:=yalj m i hi
 cases hv:bit v i
 all_goals
  rw [hv] at h1
  clear hv
  go_enter Tryz.func166,Tryz.ntmps166
  go_wp2
  go_quiet (fail)
  go_wp2
  go_ret2
  exact ⟨rfl,(by repeat (first | exact Below.refl _ _ | assumption | refine below_drewN ?_ _ | refine Below.drew ?_ | refine Below.alloc ?_ (by first | exact Nat.le_refl _ | (simp;done) | (simp;omega) | omega) _ | refine Below.setCell ?_ (by first | exact Nat.le_refl _ | (simp;done) | (simp;omega) | omega) _ | refine Below.trans ?_ (Below.mono (by assumption) (by first | exact Nat.le_refl _ | (simp;done) | (simp;omega) | omega))))⟩
theorem zgz (v m:BitVec 64) (i:Nat):∃ z o,Hid (z=mz v i)∧Hid (o=mo v m i):=⟨_,_,rfl,rfl⟩
theorem zbi {v m:BitVec 64} {i:Nat} (hi:i<64) {z o:Bool} (hz:Hid (z=mz v i)) (ho:Hid (o=mo v m i)) (w:World) :
  Calls Tryz.prog 166 #[Bt v m,N i] w fun e w'=>e=.returned (.tuple #[.bool z,.bool o])∧Below w.heap.size w w':=by
 rw [hz.out,ho.out];exact may0 v m i hi w
set_option maxHeartbeats 400000 in
theorem zf0 (v m:BitVec 64) (i:Nat) (hi:i<64) (z o:Bool) (w:World) :
  Calls Tryz.prog 167 #[Bt v m,N i,.bool z,.bool o] w fun e w'=>e=.returned (Bt (putV v i z o) (putM m i z o))∧Below w.heap.size w w':=by
 cases z <;> cases o
 all_goals
  go_enter Tryz.func167,Tryz.ntmps167
  go_wp2
  refine bodyPost_ret (v:=_) (by simp [results,Tryz.results167,go_sem,putV,putM]) rfl ⟨rfl,(by repeat (first | exact Below.refl _ _ | assumption | refine below_drewN ?_ _ | refine Below.drew ?_ | refine Below.alloc ?_ (by first | exact Nat.le_refl _ | (simp;done) | (simp;omega) | omega) _ | refine Below.setCell ?_ (by first | exact Nat.le_refl _ | (simp;done) | (simp;omega) | omega) _ | refine Below.trans ?_ (Below.mono (by assumption) (by first | exact Nat.le_refl _ | (simp;done) | (simp;omega) | omega))))⟩
set_option maxHeartbeats 400000 in
theorem yahg (v m:BitVec 64) (w:World) :
  Calls Tryz.prog 210 #[Bt v m] w fun e w'=>e=.returned (.bool (eqb (band v m) zero))∧Below w.heap.size w w':=by
 go_enter Tryz.func210,Tryz.ntmps210
 go_wp2
 go_ret
 exact ⟨rfl,(by repeat (first | exact Below.refl _ _ | assumption | refine below_drewN ?_ _ | refine Below.drew ?_ | refine Below.alloc ?_ (by first | exact Nat.le_refl _ | (simp;done) | (simp;omega) | omega) _ | refine Below.setCell ?_ (by first | exact Nat.le_refl _ | (simp;done) | (simp;omega) | omega) _ | refine Below.trans ?_ (Below.mono (by assumption) (by first | exact Nat.le_refl _ | (simp;done) | (simp;omega) | omega))))⟩
theorem yanp {v m:BitVec 64} {b:Bool} (h:eqb (band v m) zero=b) (w:World) :
  Calls Tryz.prog 210 #[Bt v m] w fun e w'=>e=.returned (.bool b)∧Below w.heap.size w w':=h ▸ yahg v m w
set_option maxHeartbeats 400000 in
theorem zpw (n l h:Int) (w:World) :
  Calls Tryz.prog 35 #[N n,N l,N h] w fun e w'=>e=.returned (.bool (decide (l≤n∧n≤h)))∧w=w':=by
 by_cases h1:l≤n
 ·by_cases h2:n≤h
  all_goals
   go_enter Tryz.func35,Tryz.ntmps35
   go_wp2
   go_ret
   refine ⟨?_,rfl⟩
   simp [h1,h2] <;> omega
 ·go_enter Tryz.func35,Tryz.ntmps35
  go_wp2
  go_ret
  refine ⟨?_,rfl⟩
  simp <;> omega
theorem zqh {n l h:Int} (hd:l≤n∧n≤h) (w:World):Calls Tryz.prog 35 #[N n,N l,N h] w fun e w'=>e=.returned (.bool true)∧w=w':=by
 have:=zpw n l h w
 rwa [decide_eq_true hd] at this
theorem zut {n l h:Int} (hd:¬ (l≤n∧n≤h)) (w:World):Calls Tryz.prog 35 #[N n,N l,N h] w fun e w'=>e=.returned (.bool false)∧w=w':=by
 have:=zpw n l h w
 rwa [decide_eq_false hd] at this
end
section
attribute [local go_sem] zc9 w_or zdb za3 zbw zbc zc7 zcy zc8 zbz zb1 zc2 zb0 zda zcn zcz zb2 zby zbx zb3 za1
def hasB (v m x:BitVec 64):Bool:=eqb (band v m) zero&&eqb (bandn x m) v
set_option maxHeartbeats 400000 in
theorem zue (v m x:BitVec 64) (w:World) :
  Calls Tryz.prog 190 #[Bt v m,U x] w fun e w'=>e=.returned (.bool (hasB v m x))∧Below w.heap.size w w':=by
 have Hh:Hid (hasB v m x=(eqb (band v m) zero&&eqb (bandn x m) v)):=rfl
 cases hr:eqb (band v m) zero
 all_goals
  rw [hr] at Hh
  have Hr:Hid (eqb (band v m) zero=_):=hr
  clear hr
  go_enter Tryz.func190,Tryz.ntmps190
  go_wp2_with fail
  refine (yanp Hr.out _).mono ?_
  rintro e w1 ⟨rfl,hb1⟩
  obtain ⟨hc1,hf1,hs1⟩:=bk (w.heap.size+1) hb1 (by simp)
  go_wp2_with fail
  go_ret
  rw [Hh.out]
  exact ⟨rfl,(by repeat (first | exact Below.refl _ _ | assumption | refine below_drewN ?_ _ | refine Below.drew ?_ | refine Below.alloc ?_ (by first | exact Nat.le_refl _ | (simp;done) | (simp;omega) | omega) _ | refine Below.setCell ?_ (by first | exact Nat.le_refl _ | (simp;done) | (simp;omega) | omega) _ | refine Below.trans ?_ (Below.mono (by assumption) (by first | exact Nat.le_refl _ | (simp;done) | (simp;omega) | omega))))⟩
end
section
attribute [local go_sem] zc9 w_or zdb za3 zbw zbc zc7 zcy zc8 zbz zb1 zc2 zb0 zda zcn zcz zb2 zby zbx zb3 za1
set_option maxHeartbeats 400000 in
theorem yag7 (v m:BitVec 64) (b c:Nat) (w:World) (_hbw:b<w.heap.size) (h0:w.cell? ⟨b,0,none⟩=some (U v)) (h1:w.cell? ⟨b,1,none⟩=some (U m)) (hr:eqb (band v m) zero=true) :
  Calls Tryz.prog 179 #[.slice (some ⟨b,0,none⟩) 1 c] w fun e w'=>e=.returned (N 0)∧Below w.heap.size w w':=by
 go_enter Tryz.func179,Tryz.ntmps179
 go_wp2
 go_rounds 2
 go_ret
 exact ⟨rfl,(by repeat (first | exact Below.refl _ _ | assumption | refine below_drewN ?_ _ | refine Below.drew ?_ | refine Below.alloc ?_ (by first | exact Nat.le_refl _ | (simp;done) | (simp;omega) | omega) _ | refine Below.setCell ?_ (by first | exact Nat.le_refl _ | (simp;done) | (simp;omega) | omega) _ | refine Below.trans ?_ (Below.mono (by assumption) (by first | exact Nat.le_refl _ | (simp;done) | (simp;omega) | omega))))⟩
set_option maxHeartbeats 400000 in
theorem yag6 (v m:BitVec 64) (b c:Nat) (w:World) (_hbw:b<w.heap.size) (h0:w.cell? ⟨b,0,none⟩=some (U v)) (h1:w.cell? ⟨b,1,none⟩=some (U m)) (hr:eqb (band v m) zero=false) :
  Calls Tryz.prog 179 #[.slice (some ⟨b,0,none⟩) 1 c] w fun e w'=>e=.returned (N 1)∧Below w.heap.size w w':=by
 go_enter Tryz.func179,Tryz.ntmps179
 go_wp2
 go_rounds 1
 go_ret
 exact ⟨rfl,(by repeat (first | exact Below.refl _ _ | assumption | refine below_drewN ?_ _ | refine Below.drew ?_ | refine Below.alloc ?_ (by first | exact Nat.le_refl _ | (simp;done) | (simp;omega) | omega) _ | refine Below.setCell ?_ (by first | exact Nat.le_refl _ | (simp;done) | (simp;omega) | omega) _ | refine Below.trans ?_ (Below.mono (by assumption) (by first | exact Nat.le_refl _ | (simp;done) | (simp;omega) | omega))))⟩
set_option maxHeartbeats 400000 in
theorem yagz (v m v' m':BitVec 64) (b c:Nat) (w:World) (hbw:b<w.heap.size) (h0:w.cell? ⟨b,0,none⟩=some (U v)) (h1:w.cell? ⟨b,1,none⟩=some (U m)) (h2:w.cell? ⟨b,2,none⟩=some (U v')) (h3:w.cell? ⟨b,3,none⟩=some (U m'))
  (hr:eqb (band v m) zero=true) (hr':eqb (band v' m') zero=true) :
  Calls Tryz.prog 179 #[.slice (some ⟨b,0,none⟩) 2 c] w fun e w'=>e=.returned (N 0)∧Below w.heap.size w w':=by
 go_enter Tryz.func179,Tryz.ntmps179
 go_wp2
 refine wp_loop_rounds 3 ?_
 rw [rounds_succ];go_wp2
 rw [rounds_succ];go_wp2
 rw [rounds_succ];go_wp2
 go_ret
 exact ⟨rfl,(by repeat (first | exact Below.refl _ _ | assumption | refine below_drewN ?_ _ | refine Below.drew ?_ | refine Below.alloc ?_ (by first | exact Nat.le_refl _ | (simp;done) | (simp;omega) | omega) _ | refine Below.setCell ?_ (by first | exact Nat.le_refl _ | (simp;done) | (simp;omega) | omega) _ | refine Below.trans ?_ (Below.mono (by assumption) (by first | exact Nat.le_refl _ | (simp;done) | (simp;omega) | omega))))⟩
set_option maxHeartbeats 400000 in
theorem yakb (v m v' m':BitVec 64) (b c:Nat) (w:World) (hbw:b<w.heap.size) (h0:w.cell? ⟨b,0,none⟩=some (U v)) (h1:w.cell? ⟨b,1,none⟩=some (U m)) (h2:w.cell? ⟨b,2,none⟩=some (U v')) (h3:w.cell? ⟨b,3,none⟩=some (U m'))
  (hr:(eqb (band v m) zero&&eqb (band v' m') zero)=false) :
  Calls Tryz.prog 179 #[.slice (some ⟨b,0,none⟩) 2 c] w fun e w'=>e=.returned (N 1)∧Below w.heap.size w w':=by
 cases hv:eqb (band v m) zero
 ·clear hr
  go_enter Tryz.func179,Tryz.ntmps179
  go_wp2
  refine wp_loop_rounds 3 ?_
  rw [rounds_succ];go_wp2
  go_ret
  exact ⟨rfl,(by repeat (first | exact Below.refl _ _ | assumption | refine below_drewN ?_ _ | refine Below.drew ?_ | refine Below.alloc ?_ (by first | exact Nat.le_refl _ | (simp;done) | (simp;omega) | omega) _ | refine Below.setCell ?_ (by first | exact Nat.le_refl _ | (simp;done) | (simp;omega) | omega) _ | refine Below.trans ?_ (Below.mono (by assumption) (by first | exact Nat.le_refl _ | (simp;done) | (simp;omega) | omega))))⟩
 ·have hr':eqb (band v' m') zero=false:=by rw [hv] at hr;simpa using hr
  clear hr
  go_enter Tryz.func179,Tryz.ntmps179
  go_wp2
  refine wp_loop_rounds 3 ?_
  rw [rounds_succ];go_wp2
  rw [rounds_succ];go_wp2
  go_ret
  exact ⟨rfl,(by repeat (first | exact Below.refl _ _ | assumption | refine below_drewN ?_ _ | refine Below.drew ?_ | refine Below.alloc ?_ (by first | exact Nat.le_refl _ | (simp;done) | (simp;omega) | omega) _ | refine Below.setCell ?_ (by first | exact Nat.le_refl _ | (simp;done) | (simp;omega) | omega) _ | refine Below.trans ?_ (Below.mono (by assumption) (by first | exact Nat.le_refl _ | (simp;done) | (simp;omega) | omega))))⟩
def er (b:Bool):Int:=if b then 0 else 1
theorem er_t:er true=0:=rfl
theorem er_f:er false=1:=rfl
theorem zjk {v m:BitVec 64} {r:Bool} (hr:Hid (eqb (band v m) zero=r)) {b c:Nat} {w:World} (hbw:b<w.heap.size) (h0:w.cell? ⟨b,0,none⟩=some (U v)) (h1:w.cell? ⟨b,1,none⟩=some (U m)) :
  Calls Tryz.prog 179 #[.slice (some ⟨b,0,none⟩) 1 c] w fun e w'=>e=.returned (N (er r))∧Below w.heap.size w w':=by
 cases r
 ·exact yag6 v m b c w hbw h0 h1 hr.out
 ·exact yag7 v m b c w hbw h0 h1 hr.out
theorem zfq {v m v' m':BitVec 64} {r:Bool} (hr:Hid ((eqb (band v m) zero&&eqb (band v' m') zero)=r)) {b c:Nat} {w:World} (hbw:b<w.heap.size) (h0:w.cell? ⟨b,0,none⟩=some (U v)) (h1:w.cell? ⟨b,1,none⟩=some (U m)) (h2:w.cell? ⟨b,2,none⟩=some (U v')) (h3:w.cell? ⟨b,3,none⟩=some (U m')) :
  Calls Tryz.prog 179 #[.slice (some ⟨b,0,none⟩) 2 c] w fun e w'=>e=.returned (N (er r))∧Below w.heap.size w w':=by
 cases r
 ·exact yakb v m v' m' b c w hbw h0 h1 h2 h3 hr.out
 ·have h:=hr.out
  rw [Bool.and_eq_true] at h
  exact yagz v m v' m' b c w hbw h0 h1 h2 h3 h.1 h.2
set_option maxHeartbeats 400000 in
theorem zuw {v m:BitVec 64} {r:Bool} (hr:Hid (eqb (band v m) zero=r)) (w:World) :
  Calls Tryz.prog 184 #[Bt v m] w fun e w'=>e=.returned (N (er r))∧Below w.heap.size w w':=by
 go_enter Tryz.func184,Tryz.ntmps184
 go_wp2_with fail
 refine (zjk hr (by simp) (by simp [go_sem]) (by simp [go_sem])).mono ?_
 rintro e w1 ⟨rfl,hb1⟩
 go_wp2_with fail
 go_ret
 exact ⟨rfl,(by repeat (first | exact Below.refl _ _ | assumption | refine below_drewN ?_ _ | refine Below.drew ?_ | refine Below.alloc ?_ (by first | exact Nat.le_refl _ | (simp;done) | (simp;omega) | omega) _ | refine Below.setCell ?_ (by first | exact Nat.le_refl _ | (simp;done) | (simp;omega) | omega) _ | refine Below.trans ?_ (Below.mono (by assumption) (by first | exact Nat.le_refl _ | (simp;done) | (simp;omega) | omega))))⟩
set_option maxHeartbeats 400000 in
theorem yarq (v m x:BitVec 64) (w:World) :
  Calls Tryz.prog 141 #[Bt v m,U x] w fun e w'=>e=.returned (.bool (hasB v m x))∧Below w.heap.size w w':=by
 have Hh:Hid (hasB v m x=(eqb (band v m) zero&&eqb (bandn x m) v)):=rfl
 cases hr:eqb (band v m) zero
 all_goals
  rw [hr] at Hh
  have Hr:Hid (eqb (band v m) zero=_):=hr
  clear hr
  go_enter Tryz.func141,Tryz.ntmps141
  go_wp2_with fail
  refine (zjk Hr (by simp) (by simp [go_sem]) (by simp [go_sem])).mono ?_
  rintro e w1 ⟨rfl,hb1⟩
  obtain ⟨hc1,hf1,hs1⟩:=bk (w.heap.size+1) hb1 (by simp)
  first | rw [er_t] | rw [er_f]
  go_wp2_with fail
  go_ret
  rw [Hh.out]
  exact ⟨rfl,(by repeat (first | exact Below.refl _ _ | assumption | refine below_drewN ?_ _ | refine Below.drew ?_ | refine Below.alloc ?_ (by first | exact Nat.le_refl _ | (simp;done) | (simp;omega) | omega) _ | refine Below.setCell ?_ (by first | exact Nat.le_refl _ | (simp;done) | (simp;omega) | omega) _ | refine Below.trans ?_ (Below.mono (by assumption) (by first | exact Nat.le_refl _ | (simp;done) | (simp;omega) | omega))))⟩
def insB (av am bv bm:BitVec 64):Bool:=(eqb (band av am) zero&&eqb (band bv bm) zero)&&(eqb (bandn am bm) zero&&eqb (bandn av bm) bv)
set_option maxHeartbeats 400000 in
theorem yae0 (av am bv bm:BitVec 64) (w:World) :
  Calls Tryz.prog 143 #[Bt av am,Bt bv bm] w fun e w'=>e=.returned (.bool (insB av am bv bm))∧Below w.heap.size w w':=by
 have Hh:Hid (insB av am bv bm=((eqb (band av am) zero&&eqb (band bv bm) zero)&&(eqb (bandn am bm) zero&&eqb (bandn av bm) bv))):=rfl
 cases hr:(eqb (band av am) zero&&eqb (band bv bm) zero)
 ·rw [hr] at Hh
  have Hr:Hid _:=hr
  clear hr
  go_enter Tryz.func143,Tryz.ntmps143
  go_wp2_with fail
  refine (zfq Hr (by simp) (by simp [go_sem]) (by simp [go_sem]) (by simp [go_sem]) (by simp [go_sem])).mono ?_
  rintro e w1 ⟨rfl,hb1⟩
  obtain ⟨hc1,hf1,hs1⟩:=bk (w.heap.size+1+1) hb1 (by simp)
  first | rw [er_t] | rw [er_f]
  go_wp2_with fail
  go_ret
  rw [Hh.out]
  exact ⟨rfl,(by repeat (first | exact Below.refl _ _ | assumption | refine below_drewN ?_ _ | refine Below.drew ?_ | refine Below.alloc ?_ (by first | exact Nat.le_refl _ | (simp;done) | (simp;omega) | omega) _ | refine Below.setCell ?_ (by first | exact Nat.le_refl _ | (simp;done) | (simp;omega) | omega) _ | refine Below.trans ?_ (Below.mono (by assumption) (by first | exact Nat.le_refl _ | (simp;done) | (simp;omega) | omega))))⟩
 ·rw [hr] at Hh
  have Hr:Hid _:=hr
  clear hr
  cases hm:eqb (bandn am bm) zero
  all_goals
   rw [hm] at Hh
   go_enter Tryz.func143,Tryz.ntmps143
   go_wp2_with fail
   refine (zfq Hr (by simp) (by simp [go_sem]) (by simp [go_sem]) (by simp [go_sem]) (by simp [go_sem])).mono ?_
   rintro e w1 ⟨rfl,hb1⟩
   obtain ⟨hc1,hf1,hs1⟩:=bk (w.heap.size+1+1) hb1 (by simp)
   first | rw [er_t] | rw [er_f]
   go_wp2_with fail
   go_ret
   rw [Hh.out]
   exact ⟨rfl,(by repeat (first | exact Below.refl _ _ | assumption | refine below_drewN ?_ _ | refine Below.drew ?_ | refine Below.alloc ?_ (by first | exact Nat.le_refl _ | (simp;done) | (simp;omega) | omega) _ | refine Below.setCell ?_ (by first | exact Nat.le_refl _ | (simp;done) | (simp;omega) | omega) _ | refine Below.trans ?_ (Below.mono (by assumption) (by first | exact Nat.le_refl _ | (simp;done) | (simp;omega) | omega))))⟩
def jM (av am bv bm:BitVec 64):BitVec 64:=bor (bor am bm) (bxor av bv)
set_option maxHeartbeats 400000 in
theorem join_ok {av am bv bm:BitVec 64} (hr:Hid ((eqb (band av am) zero&&eqb (band bv bm) zero)=true)) (w:World) :
  Calls Tryz.prog 157 #[Bt av am,Bt bv bm] w fun e w'=>e=.returned (.tuple #[Bt (bandn av (jM av am bv bm)) (jM av am bv bm),N 0])∧Below w.heap.size w w':=by
 go_enter Tryz.func157,Tryz.ntmps157
 go_wp2_with fail
 refine (zfq hr (by simp) (by simp [go_sem]) (by simp [go_sem]) (by simp [go_sem]) (by simp [go_sem])).mono ?_
 rintro e w1 ⟨rfl,hb1⟩
 obtain ⟨hc1,hf1,hs1⟩:=bk (w.heap.size+1+1+1) hb1 (by simp)
 first | rw [er_t] | rw [er_f]
 go_wp2_with fail
 refine (zew _ _ _).mono ?_
 rintro e w2 ⟨rfl,hb2⟩
 obtain ⟨hc2,hf2,hs2⟩:=bk (w.heap.size+1+1+1) hb2 (by omega)
 go_wp2_with fail
 exact bodyPost_ret (v:=.tuple #[Bt (bandn av (jM av am bv bm)) (jM av am bv bm),N 0]) (by simp [results,Tryz.results157,go_sem,hc1,hc2,jM]) rfl ⟨rfl,(by repeat (first | exact Below.refl _ _ | assumption | refine below_drewN ?_ _ | refine Below.drew ?_ | refine Below.alloc ?_ (by first | exact Nat.le_refl _ | (simp;done) | (simp;omega) | omega) _ | refine Below.setCell ?_ (by first | exact Nat.le_refl _ | (simp;done) | (simp;omega) | omega) _ | refine Below.trans ?_ (Below.mono (by assumption) (by first | exact Nat.le_refl _ | (simp;done) | (simp;omega) | omega))))⟩
set_option maxHeartbeats 400000 in
theorem yatg {av am bv bm:BitVec 64} (hr:Hid ((eqb (band av am) zero&&eqb (band bv bm) zero)=true)) (hm:eqb (bandn (bxor av bv) (bor am bm)) zero=false) (w:World) :
  Calls Tryz.prog 150 #[Bt av am,Bt bv bm] w fun e w'=>e=.returned (.tuple #[Bt zero zero,.bool false,N 0])∧Below w.heap.size w w':=by
 go_enter Tryz.func150,Tryz.ntmps150
 go_wp2_with fail
 refine (zfq hr (by simp) (by simp [go_sem]) (by simp [go_sem]) (by simp [go_sem]) (by simp [go_sem])).mono ?_
 rintro e w1 ⟨rfl,hb1⟩
 obtain ⟨hc1,hf1,hs1⟩:=bk (w.heap.size+1+1+1) hb1 (by simp)
 first | rw [er_t] | rw [er_f]
 go_wp2_with fail
 exact bodyPost_ret (v:=.tuple #[Bt zero zero,.bool false,N 0]) (by simp [results,Tryz.results150,go_sem,hc1,za4]) rfl ⟨rfl,(by repeat (first | exact Below.refl _ _ | assumption | refine below_drewN ?_ _ | refine Below.drew ?_ | refine Below.alloc ?_ (by first | exact Nat.le_refl _ | (simp;done) | (simp;omega) | omega) _ | refine Below.setCell ?_ (by first | exact Nat.le_refl _ | (simp;done) | (simp;omega) | omega) _ | refine Below.trans ?_ (Below.mono (by assumption) (by first | exact Nat.le_refl _ | (simp;done) | (simp;omega) | omega))))⟩
set_option maxHeartbeats 400000 in
theorem yalh {av am bv bm:BitVec 64} (hr:Hid ((eqb (band av am) zero&&eqb (band bv bm) zero)=true)) (hm:eqb (bandn (bxor av bv) (bor am bm)) zero=true) (w:World) :
  Calls Tryz.prog 150 #[Bt av am,Bt bv bm] w fun e w'=>e=.returned (.tuple #[Bt (bor av bv) (band am bm),.bool true,N 0])∧Below w.heap.size w w':=by
 go_enter Tryz.func150,Tryz.ntmps150
 go_wp2_with fail
 refine (zfq hr (by simp) (by simp [go_sem]) (by simp [go_sem]) (by simp [go_sem]) (by simp [go_sem])).mono ?_
 rintro e w1 ⟨rfl,hb1⟩
 obtain ⟨hc1,hf1,hs1⟩:=bk (w.heap.size+1+1+1) hb1 (by simp)
 first | rw [er_t] | rw [er_f]
 go_wp2_with fail
 exact bodyPost_ret (v:=.tuple #[Bt (bor av bv) (band am bm),.bool true,N 0]) (by simp [results,Tryz.results150,go_sem,hc1]) rfl ⟨rfl,(by repeat (first | exact Below.refl _ _ | assumption | refine below_drewN ?_ _ | refine Below.drew ?_ | refine Below.alloc ?_ (by first | exact Nat.le_refl _ | (simp;done) | (simp;omega) | omega) _ | refine Below.setCell ?_ (by first | exact Nat.le_refl _ | (simp;done) | (simp;omega) | omega) _ | refine Below.trans ?_ (Below.mono (by assumption) (by first | exact Nat.le_refl _ | (simp;done) | (simp;omega) | omega))))⟩
end
theorem zgp (n:Nat) (h:n<Lib.len8tab.size):((Lib.len8tab[n]'h).toNat:Int)=Lib.bitLen n:=by
 have hn:n<256:=by have:=Lib.len8tab_size;omega
 have e:=Lib.len8_eq ⟨n,hn⟩
 simp only [Lib.len8,Int.toNat_natCast] at e
 rw [← e,getElem?_pos Lib.len8tab n h];rfl
theorem yasx (x:Int) (s d:Nat) (b:Int) (hx0:0≤x)  (hd:d=2 ^ s) (hb:b=x / d):b.toNat=x.toNat / 2 ^ s:=by
 rw [hb,← hd]
 obtain ⟨X,rfl⟩:=Int.eq_ofNat_of_zero_le hx0
 rw [← Int.natCast_ediv,Int.toNat_natCast,Int.toNat_natCast]
theorem yar7 (x:Int) (s d:Nat) (b:Int) (hx0:0≤x) (hx:x≤18446744073709551615) (hd:d=2 ^ s)
  (hbn:b.toNat=x.toNat / 2 ^ s) (hlow:s=0∨(d:Int)≤x):Lib.bitLen x.toNat=s+Lib.bitLen b.toNat:=by
 rcases hlow with h0 | h1
 ·rw [hbn,h0,Nat.pow_zero,Nat.div_one,Nat.zero_add]
 ·rw [hbn]
  exact Lib.bitLen_shift s x.toNat (by rw [← hd];omega) (by omega)
theorem yava (s q:Nat) (hs:s≤56) (l8:q≤8):wrap64 (s+wrap64 q)=((s+q:Nat):Int):=by
 unfold wrap64
 omega
theorem zkq (x:Int) (s d:Nat) (b t:Int) (hx0:0≤x) (hx:x≤18446744073709551615) (hd:d=2 ^ s) (hs:s≤56)
  (hb:b=x / d) (hb0:0≤b) (hb8:b≤255) (hlow:s=0∨(d:Int)≤x) (ht:t=(Lib.bitLen b.toNat:Int)):wrap64 (s+wrap64 t)=(Lib.bitLen x.toNat:Int):=by
 rw [ht,yava s _ hs (Lib.bitLen_le8' b hb0 hb8),yar7 x s d b hx0 hx hd (yasx x s d b hx0 hd hb) hlow]
set_option maxRecDepth 100000 in
set_option maxHeartbeats 4000000 in
theorem yahp (x:Int) (w:World) (h0:0≤x) (h1:x≤18446744073709551615) :
  Calls Tryz.prog 159 #[.int .u64 x] w fun e w'=>e=.returned (N (Lib.bitLen x.toNat))∧w=w':=by
 have hsz:=Lib.len8tab_size
 go_enter Tryz.func159,Tryz.ntmps159
 go_wp2
 all_goals go_ret
 all_goals refine ⟨congrArg Ending.returned (congrArg (Value.int IntKind.i64) ?_),rfl⟩
 ·exact zkq x 56 72057594037927936 _ _ h0 h1 (by decide) (by omega) (by omega) (by omega) (by omega) (by omega) (zgp _ _)
 ·exact zkq x 48 281474976710656 _ _ h0 h1 (by decide) (by omega) (by omega) (by omega) (by omega) (by omega) (zgp _ _)
 ·exact zkq x 40 1099511627776 _ _ h0 h1 (by decide) (by omega) (by omega) (by omega) (by omega) (by omega) (zgp _ _)
 ·exact zkq x 32 4294967296 _ _ h0 h1 (by decide) (by omega) (by omega) (by omega) (by omega) (by omega) (zgp _ _)
 ·exact zkq x 24 16777216 _ _ h0 h1 (by decide) (by omega) (by omega) (by omega) (by omega) (by omega) (zgp _ _)
 ·exact zkq x 16 65536 _ _ h0 h1 (by decide) (by omega) (by omega) (by omega) (by omega) (by omega) (zgp _ _)
 ·exact zkq x 8 256 _ _ h0 h1 (by decide) (by omega) (by omega) (by omega) (by omega) (by omega) (zgp _ _)
 ·have:=zkq x 0 1 x _ h0 h1 (by decide) (by omega) (by omega) (by omega) (by omega) (by omega) (zgp x.toNat (by omega))
  simpa using this
section
attribute [local go_sem] zc9 w_or zdb za3 zbw zbc zc7 zcy zc8 zbz zb1 zc2 zb0 zda zcn zcz zb2 zby zbx zb3 za1
def blen (x:BitVec 64):Nat:=Lib.bitLen (nv x).toNat
def zd0 (n:Nat):BitVec 64:=bsub (bshl one n) one
theorem zni (x:BitVec 64):blen x≤64:=by
 unfold blen nv
 have:=x.isLt
 exact Lib.bitLen_le _ 64 (Nat.le_refl _) (by rw [Int.toNat_natCast];exact this)
theorem yaya (x:BitVec 64) (w:World):Calls Tryz.prog 159 #[U x] w fun e w'=>e=.returned (N (blen x))∧w=w' :=
 yahp (nv x) w (zb7 x) (by have:=zx3 x;omega)
set_option maxHeartbeats 400000 in
theorem yaul {l h:BitVec 64} (hl:nv h<nv l) (w:World) :
  Calls Tryz.prog 142 #[U l,U h] w fun e w'=>e=.returned (.tuple #[Bt zero zero,N 3])∧Below w.heap.size w w':=by
 go_enter Tryz.func142,Tryz.ntmps142
 go_wp2_with fail
 exact bodyPost_ret (v:=.tuple #[Bt zero zero,N 3]) (by simp [results,Tryz.results142,go_sem,za4]) rfl ⟨rfl,(by repeat (first | exact Below.refl _ _ | assumption | refine below_drewN ?_ _ | refine Below.drew ?_ | refine Below.alloc ?_ (by first | exact Nat.le_refl _ | (simp;done) | (simp;omega) | omega) _ | refine Below.setCell ?_ (by first | exact Nat.le_refl _ | (simp;done) | (simp;omega) | omega) _ | refine Below.trans ?_ (Below.mono (by assumption) (by first | exact Nat.le_refl _ | (simp;done) | (simp;omega) | omega))))⟩
def sM (l h:BitVec 64):BitVec 64:=zd0 (blen (bxor l h))
set_option maxHeartbeats 400000 in
theorem yagx {l h:BitVec 64} (hl:nv l≤nv h) (w:World) :
  Calls Tryz.prog 142 #[U l,U h] w fun e w'=>e=.returned (.tuple #[Bt (bandn l (sM l h)) (sM l h),N 0])∧Below w.heap.size w w':=by
 have hL:=zni (bxor l h)
 have Hs:Hid (sM l h=zd0 (blen (bxor l h))):=rfl
 have hc:=yaya (bxor l h)
 have Hc:Hid _:=hc
 clear hc
 generalize hx:blen (bxor l h)=L at hL Hs Hc
 clear hx
 go_enter Tryz.func142,Tryz.ntmps142
 go_wp2_with fail
 refine (Hc.out _).mono ?_
 rintro e w1 ⟨rfl,rfl⟩
 go_wp2_with fail
 refine (zew _ _ _).mono ?_
 rintro e w2 ⟨rfl,hb2⟩
 obtain ⟨hc2,hf2,hs2⟩:=bk (w.heap.size+1) hb2 (by simp)
 go_wp2_with fail
 rw [Hs.out]
 exact bodyPost_ret (v:=.tuple #[Bt (bandn l (zd0 L)) (zd0 L),N 0]) (by simp [results,Tryz.results142,go_sem,hc2,zd0]) rfl ⟨rfl,(by repeat (first | exact Below.refl _ _ | assumption | refine below_drewN ?_ _ | refine Below.drew ?_ | refine Below.alloc ?_ (by first | exact Nat.le_refl _ | (simp;done) | (simp;omega) | omega) _ | refine Below.setCell ?_ (by first | exact Nat.le_refl _ | (simp;done) | (simp;omega) | omega) _ | refine Below.trans ?_ (Below.mono (by assumption) (by first | exact Nat.le_refl _ | (simp;done) | (simp;omega) | omega))))⟩
def addM (av am bv bm:BitVec 64):BitVec 64:=bor (bor (bxor (badd av bv) (badd (badd (badd av bv) am) bm)) am) bm
set_option maxHeartbeats 400000 in
theorem zyy (av am bv bm:BitVec 64) (w:World) :
  Calls Tryz.prog 202 #[Bt av am,Bt bv bm] w fun e w'=>e=.returned (Bt (bandn (badd av bv) (addM av am bv bm)) (addM av am bv bm))∧Below w.heap.size w w':=by
 go_enter Tryz.func202,Tryz.ntmps202
 go_wp2_with fail
 refine (zew _ _ _).mono ?_
 rintro e w2 ⟨rfl,hb2⟩
 obtain ⟨hc2,hf2,hs2⟩:=bk (w.heap.size+1+1+1) hb2 (by simp)
 go_wp2_with fail
 exact bodyPost_ret (v:=Bt (bandn (badd av bv) (addM av am bv bm)) (addM av am bv bm)) (by simp [results,Tryz.results202,go_sem,hc2,addM]) rfl ⟨rfl,(by repeat (first | exact Below.refl _ _ | assumption | refine below_drewN ?_ _ | refine Below.drew ?_ | refine Below.alloc ?_ (by first | exact Nat.le_refl _ | (simp;done) | (simp;omega) | omega) _ | refine Below.setCell ?_ (by first | exact Nat.le_refl _ | (simp;done) | (simp;omega) | omega) _ | refine Below.trans ?_ (Below.mono (by assumption) (by first | exact Nat.le_refl _ | (simp;done) | (simp;omega) | omega))))⟩
def subM (av am bv bm:BitVec 64):BitVec 64:=bor (bor (bxor (badd (bsub av bv) am) (bsub (bsub av bv) bm)) am) bm
set_option maxHeartbeats 400000 in
theorem yatz (av am bv bm:BitVec 64) (w:World) :
  Calls Tryz.prog 203 #[Bt av am,Bt bv bm] w fun e w'=>e=.returned (Bt (bandn (bsub av bv) (subM av am bv bm)) (subM av am bv bm))∧Below w.heap.size w w':=by
 go_enter Tryz.func203,Tryz.ntmps203
 go_wp2_with fail
 refine (zew _ _ _).mono ?_
 rintro e w2 ⟨rfl,hb2⟩
 obtain ⟨hc2,hf2,hs2⟩:=bk (w.heap.size+1+1+1) hb2 (by simp)
 go_wp2_with fail
 exact bodyPost_ret (v:=Bt (bandn (bsub av bv) (subM av am bv bm)) (subM av am bv bm)) (by simp [results,Tryz.results203,go_sem,hc2,subM]) rfl ⟨rfl,(by repeat (first | exact Below.refl _ _ | assumption | refine below_drewN ?_ _ | refine Below.drew ?_ | refine Below.alloc ?_ (by first | exact Nat.le_refl _ | (simp;done) | (simp;omega) | omega) _ | refine Below.setCell ?_ (by first | exact Nat.le_refl _ | (simp;done) | (simp;omega) | omega) _ | refine Below.trans ?_ (Below.mono (by assumption) (by first | exact Nat.le_refl _ | (simp;done) | (simp;omega) | omega))))⟩
set_option maxHeartbeats 400000 in
theorem yar5 (av am bv bm:BitVec 64) (w:World) :
  Calls Tryz.prog 205 #[Bt av am,Bt bv bm] w fun e w'=>e=.returned (Bt (band av bv) (bandn (band (bor av am) (bor bv bm)) (band av bv)))∧Below w.heap.size w w':=by
 go_enter Tryz.func205,Tryz.ntmps205
 go_wp2
 exact bodyPost_ret (v:=Bt (band av bv) (bandn (band (bor av am) (bor bv bm)) (band av bv))) (by simp [results,Tryz.results205,go_sem]) rfl ⟨rfl,(by repeat (first | exact Below.refl _ _ | assumption | refine below_drewN ?_ _ | refine Below.drew ?_ | refine Below.alloc ?_ (by first | exact Nat.le_refl _ | (simp;done) | (simp;omega) | omega) _ | refine Below.setCell ?_ (by first | exact Nat.le_refl _ | (simp;done) | (simp;omega) | omega) _ | refine Below.trans ?_ (Below.mono (by assumption) (by first | exact Nat.le_refl _ | (simp;done) | (simp;omega) | omega))))⟩
set_option maxHeartbeats 400000 in
theorem yawh (av am bv bm:BitVec 64) (w:World) :
  Calls Tryz.prog 206 #[Bt av am,Bt bv bm] w fun e w'=>e=.returned (Bt (bor av bv) (bandn (bor am bm) (bor av bv)))∧Below w.heap.size w w':=by
 go_enter Tryz.func206,Tryz.ntmps206
 go_wp2
 exact bodyPost_ret (v:=Bt (bor av bv) (bandn (bor am bm) (bor av bv))) (by simp [results,Tryz.results206,go_sem]) rfl ⟨rfl,(by repeat (first | exact Below.refl _ _ | assumption | refine below_drewN ?_ _ | refine Below.drew ?_ | refine Below.alloc ?_ (by first | exact Nat.le_refl _ | (simp;done) | (simp;omega) | omega) _ | refine Below.setCell ?_ (by first | exact Nat.le_refl _ | (simp;done) | (simp;omega) | omega) _ | refine Below.trans ?_ (Below.mono (by assumption) (by first | exact Nat.le_refl _ | (simp;done) | (simp;omega) | omega))))⟩
end
section
attribute [local go_sem] zc9 w_or zdb za3 zbw zbc zc7 zcy zc8 zbz zb1 zc2 zb0 zda zcn zcz zb2 zby zbx zb3 za1
def addP (a b:BitVec 64×BitVec 64):BitVec 64×BitVec 64:=(bandn (badd a.1 b.1) (addM a.1 a.2 b.1 b.2),addM a.1 a.2 b.1 b.2)
def mulS (av am bv bm:BitVec 64):Nat→BitVec 64×BitVec 64
 | 0=>(zero,zero)
 | k+1=>if bit av k then addP (mulS av am bv bm k) (bshl bv k,bshl bm k)
  else if bit am k then addP (mulS av am bv bm k) (zero,bor (bshl bv k) (bshl bm k)) else mulS av am bv bm k
set_option maxHeartbeats 1000000 in
theorem yaun (av am bv bm:BitVec 64) (w:World) :
  Calls Tryz.prog 204 #[Bt av am,Bt bv bm] w fun e w'=>e=.returned (Bt (mulS av am bv bm 64).1 (mulS av am bv bm 64).2)∧Below w.heap.size w w':=by
 go_enter Tryz.func204,Tryz.ntmps204
 go_wp2
 go_loopw [6] (fun i wr=>∃ k:Nat,k≤64∧i=.int .u64 k
   ∧ Below (w.heap.size+1+1+1) (((w.alloc (.cells #[U av,U am] 47)).alloc (.cells #[U bv,U bm] 47)).alloc (.cells #[.int .u64 0,.int .u64 0] 47)) wr
   ∧ wr.cell? ⟨w.heap.size+1+1+1,0,none⟩=some (U (mulS av am bv bm k).1)∧wr.cell? ⟨w.heap.size+1+1+1,1,none⟩=some (U (mulS av am bv bm k).2)
   ∧ (∀ o,wr.frozen? ⟨w.heap.size+1+1+1,o,none⟩=false)
   ∧ w.heap.size+1+1+1+1≤wr.heap.size) (fun i _=>64 - (intOf i).toNat)
 case atStart =>
  exact ⟨0,by omega,rfl,(by repeat (first | exact Below.refl _ _ | assumption | refine below_drewN ?_ _ | refine Below.drew ?_ | refine Below.alloc ?_ (by first | exact Nat.le_refl _ | (simp;done) | (simp;omega) | omega) _ | refine Below.setCell ?_ (by first | exact Nat.le_refl _ | (simp;done) | (simp;omega) | omega) _ | refine Below.trans ?_ (Below.mono (by assumption) (by first | exact Nat.le_refl _ | (simp;done) | (simp;omega) | omega)))),by simp [mulS,za4,go_sem],by simp [mulS,za4,go_sem],by simp [go_sem],by simp⟩
 case round =>
  obtain ⟨k,hk,rfl,hbel,ho0,ho1,hfo,hsz⟩:=hrel
  obtain ⟨hc,hf⟩:=bl hbel
  by_cases hlt:k<64
  ·have hA:=zjh av k
   have hM:=zjh am k
   have Hs:Hid (mulS av am bv bm (k+1)=if bit av k then addP (mulS av am bv bm k) (bshl bv k,bshl bm k)
    else if bit am k then addP (mulS av am bv bm k) (zero,bor (bshl bv k) (bshl bm k)) else mulS av am bv bm k):=rfl
   generalize mulS av am bv bm k=S at ho0 ho1 Hs
   obtain ⟨sv,sm⟩:=S
   simp only at ho0 ho1
   obtain ⟨bA,hbA⟩:∃ b,b=bit av k:=⟨_,rfl⟩
   obtain ⟨bM,hbM⟩:∃ b,b=bit am k:=⟨_,rfl⟩
   rw [← hbA] at hA Hs
   rw [← hbM] at hM Hs
   clear hbA hbM
   go_wp2_with fail
   refine (yaq2 _ _ k hlt _).mono ?_
   rintro e w1 ⟨rfl,hb1⟩
   obtain ⟨hc1,hf1,hs1⟩:=bk _ hb1 hsz
   have hlt1:w.heap.size+1+1+1<w1.heap.size:=by omega
   have hlt2:w.heap.size+1+1<w1.heap.size:=by omega
   have hlt3:w.heap.size+1<w1.heap.size:=by omega
   have hlt4:w.heap.size<w1.heap.size:=by omega
   cases bA
   ·cases bM
    ·go_wp2_with fail
     exact ⟨⟨k+1,by omega,by go_num,zzz hbel (hb1.trans (((Below.refl _ _).alloc (Nat.le_refl _) _).mono hb1.size)) hsz ho0 ho1 hfo (by rw [Hs.out];rfl) (by rw [Hs.out];rfl)⟩,by simp [intOf];omega⟩
    ·go_wp2_with fail
     refine (zyy sv sm zero (bor (bshl bv k) (bshl bm k)) _).mono ?_
     rintro e w2 ⟨rfl,hb2⟩
     obtain ⟨hc2,hf2,hs2⟩:=bk (w.heap.size+1+1+1+1) hb2 (by simp;omega)
     go_wp2_with fail
     exact ⟨⟨k+1,by omega,by go_num,zeh hbel (hb1.trans ((((Below.refl _ _).alloc (Nat.le_refl _) _).trans (hb2.mono (by simp))).mono hb1.size)) hsz ho0 ho1 hfo (by rw [Hs.out];rfl) (by rw [Hs.out];rfl)⟩,by simp [intOf];omega⟩
   ·go_wp2_with fail
    refine (zyy _ _ _ _ _).mono ?_
    rintro e w2 ⟨rfl,hb2⟩
    obtain ⟨hc2,hf2,hs2⟩:=bk (w.heap.size+1+1+1+1) hb2 (by simp;omega)
    go_wp2_with fail
    exact ⟨⟨k+1,by omega,by go_num,zeh hbel (hb1.trans ((((Below.refl _ _).alloc (Nat.le_refl _) _).trans (hb2.mono (by simp))).mono hb1.size)) hsz ho0 ho1 hfo (by rw [Hs.out];rfl) (by rw [Hs.out];rfl)⟩,by simp [intOf];omega⟩
  ·have hk64:k=64:=by omega
   subst hk64
   go_wp2_with fail
   exact bodyPost_ret (v:=Bt (mulS av am bv bm 64).1 (mulS av am bv bm 64).2) (by simp [results,Tryz.results204,go_sem,hc]) rfl ⟨rfl,(by repeat (first | exact Below.refl _ _ | assumption | refine below_drewN ?_ _ | refine Below.drew ?_ | refine Below.alloc ?_ (by first | exact Nat.le_refl _ | (simp;done) | (simp;omega) | omega) _ | refine Below.setCell ?_ (by first | exact Nat.le_refl _ | (simp;done) | (simp;omega) | omega) _ | refine Below.trans ?_ (Below.mono (by assumption) (by first | exact Nat.le_refl _ | (simp;done) | (simp;omega) | omega))))⟩
def twoP (op:Int) (av am bv bm:BitVec 64):BitVec 64×BitVec 64 :=
 if op=2 then (bandn (badd av bv) (addM av am bv bm),addM av am bv bm)
 else if op=3 then (bandn (bsub av bv) (subM av am bv bm),subM av am bv bm)
 else if op=4 then mulS av am bv bm 64
 else if op=5 then (band av bv,bandn (band (bor av am) (bor bv bm)) (band av bv))
 else if op=6 then (bor av bv,bandn (bor am bm) (bor av bv))
 else (bandn (bxor av bv) (bor am bm),bor am bm)
theorem zi1 {op:Int} (h:2≤op∧op≤7):op=2∨op=3∨op=4∨op=5∨op=6∨op=7:=by omega
set_option maxHeartbeats 400000 in
theorem two_ok {op:Int} {av am bv bm:BitVec 64} (hr:Hid ((eqb (band av am) zero&&eqb (band bv bm) zero)=true)) (hop:2≤op∧op≤7) (w:World) :
  Calls Tryz.prog 182 #[N op,Bt av am,Bt bv bm] w fun e w'=>e=.returned (.tuple #[Bt (twoP op av am bv bm).1 (twoP op av am bv bm).2,N 0])∧Below w.heap.size w w':=by
 rcases zi1 hop with rfl | rfl | rfl | rfl | rfl | rfl
 all_goals
  clear hop
  go_enter Tryz.func182,Tryz.ntmps182
  go_wp2_with fail
  refine (zfq hr (by simp) (by simp [go_sem]) (by simp [go_sem]) (by simp [go_sem]) (by simp [go_sem])).mono ?_
  rintro e w1 ⟨rfl,hb1⟩
  obtain ⟨hc1,hf1,hs1⟩:=bk (w.heap.size+1+1+1) hb1 (by simp)
  first | rw [er_t] | rw [er_f]
  go_wp2_with fail
  first
   | refine (zyy _ _ _ _ _).mono ?_
   | refine (yatz _ _ _ _ _).mono ?_
   | refine (yaun _ _ _ _ _).mono ?_
   | refine (yar5 _ _ _ _ _).mono ?_
   | refine (yawh _ _ _ _ _).mono ?_
   | refine (zew _ _ _).mono ?_
  rintro e w2 ⟨rfl,hb2⟩
  obtain ⟨hc2,hf2,hs2⟩:=bk (w.heap.size+1+1+1) hb2 hs1
  go_wp2_with fail
  exact bodyPost_ret (v:=.tuple #[Bt (twoP _ av am bv bm).1 (twoP _ av am bv bm).2,N 0]) (by simp [results,Tryz.results182,go_sem,hc1,hc2,twoP]) rfl ⟨rfl,(by repeat (first | exact Below.refl _ _ | assumption | refine below_drewN ?_ _ | refine Below.drew ?_ | refine Below.alloc ?_ (by first | exact Nat.le_refl _ | (simp;done) | (simp;omega) | omega) _ | refine Below.setCell ?_ (by first | exact Nat.le_refl _ | (simp;done) | (simp;omega) | omega) _ | refine Below.trans ?_ (Below.mono (by assumption) (by first | exact Nat.le_refl _ | (simp;done) | (simp;omega) | omega))))⟩
end
end Go.Proofs.YtkigmocchaikgabGreatDoor
namespace Go.Proofs.YtkigmocchaikgabGreatDoor
def InB (v m x:BitVec 64):Prop:=∀ j,j<64→(bit x j&&!bit m j)=bit v j
def RtB (v m:BitVec 64):Prop:=∀ j,(bit v j&&bit m j)=false
theorem zkj {a b:BitVec 64×BitVec 64} {x y:BitVec 64} (ha:RtB a.1 a.2) (hb:RtB b.1 b.2) (hx:InB a.1 a.2 x) (hy:InB b.1 b.2 y):InB (addP a b).1 (addP a b).2 (badd x y) :=
 zt6 ha hb hx hy _ rfl
theorem yah4 (a b:BitVec 64×BitVec 64):RtB (addP a b).1 (addP a b).2:=by
 intro j
 by_cases hj:j<64
 ·simp only [addP];rw [zas _ _ _ hj];cases bit (badd a.1 b.1) j <;> cases bit (addM a.1 a.2 b.1 b.2) j <;> rfl
 ·rw [zba _ _ (by omega)];rfl
theorem zr7 (av am bv bm:BitVec 64) (k:Nat):RtB (mulS av am bv bm k).1 (mulS av am bv bm k).2:=by
 induction k with
 | zero=>intro j;simp only [mulS];rw [zbb];rfl
 | succ k ih =>
  simp only [mulS]
  by_cases h1:bit av k=true
  ·rw [if_pos h1];exact yah4 _ _
  ·rw [if_neg h1]
   by_cases h2:bit am k=true
   ·rw [if_pos h2];exact yah4 _ _
   ·rw [if_neg h2];exact ih
def psum (x y:BitVec 64):Nat→BitVec 64
 | 0=>zero
 | k+1=>if bit x k then badd (psum x y k) (bshl y k) else psum x y k
theorem yanv (x y:BitVec 64) (k:Nat):psum x y (k+1)=BitVec.mulRec y x k:=by
 induction k with
 | zero =>
  simp only [psum]
  rw [BitVec.mulRec_zero_eq]
  unfold bit
  cases x.getLsbD 0 <;> simp [badd,bshl,zero]
 | succ k ih =>
  rw [psum,ih,BitVec.mulRec_succ_eq]
  unfold bit badd bshl
  cases x.getLsbD (k+1) <;> simp
theorem yapc (x y:BitVec 64):psum x y 64=bmul x y:=by
 rw [yanv x y 63,BitVec.mulRec_eq_mul_signExtend_setWidth]
 unfold bmul
 simp [BitVec.mul_comm]
theorem yajw {v m y:BitVec 64} (h:InB v m y) (k:Nat):InB (bshl v k) (bshl m k) (bshl y k):=by
 intro j hj
 rw [zej _ _ _ hj,zej _ _ _ hj,zej _ _ _ hj]
 by_cases hk:k≤j
 ·have:=h (j - k) (by omega)
  revert this
  cases bit y (j - k) <;> cases bit m (j - k) <;> cases bit v (j - k) <;> simp [hk]
 ·simp [hk]
theorem yakm {v m:BitVec 64} (h:RtB v m) (k:Nat):RtB (bshl v k) (bshl m k):=by
 intro j
 by_cases hj:j<64
 ·rw [zej _ _ _ hj,zej _ _ _ hj]
  have:=h (j - k)
  revert this
  cases decide (k≤j) <;> cases bit v (j - k) <;> cases bit m (j - k) <;> simp
 ·rw [zba _ _ (by omega)];rfl
theorem znn (m:BitVec 64):RtB zero m:=by intro j;rw [zbb];rfl
theorem yai3 (x:BitVec 64):badd x zero=x:=by unfold badd zero;simp
theorem yada {av am bv bm x y:BitVec 64} (hb:RtB bv bm) (hx:InB av am x) (hy:InB bv bm y) (k:Nat) (hk:k≤64):InB (mulS av am bv bm k).1 (mulS av am bv bm k).2 (psum x y k):=by
 induction k with
 | zero=>intro j hj;simp only [mulS,psum];rw [zbb];rfl
 | succ k ih =>
  have ih:=ih (by omega)
  have h:=hx k (by omega)
  simp only [mulS,psum]
  by_cases h1:bit av k=true
  ·have hxk:bit x k=true:=by rw [h1] at h;revert h;cases bit x k <;> simp
   rw [if_pos h1,if_pos hxk]
   exact zkj (zr7 _ _ _ _ _) (yakm hb k) ih (yajw hy k)
  ·rw [if_neg h1]
   by_cases h2:bit am k=true
   ·rw [if_pos h2]
    have hp:∀ z,(∀ j,j<64→bit z j=true→bit (bor (bshl bv k) (bshl bm k)) j=true)→InB zero (bor (bshl bv k) (bshl bm k)) z:=by
     intro z hz j hj
     have:=hz j hj
     rw [zbb]
     revert this
     cases bit z j <;> cases bit (bor (bshl bv k) (bshl bm k)) j <;> simp
    by_cases hxk:bit x k=true
    ·rw [if_pos hxk]
     exact zkj (zr7 _ _ _ _ _) (znn _) ih (hp _ (fun j _ h=>yat6 (yajw hy k) j h))
    ·rw [if_neg hxk]
     have:=zkj (b:=(zero,bor (bshl bv k) (bshl bm k))) (zr7 av am bv bm k) (znn _) ih (hp zero (fun j _ h=>by rw [zbb] at h;cases h))
     rw [yai3] at this
     exact this
   ·rw [if_neg h2]
    have hxk:¬ bit x k=true:=by
     intro hx1;rw [hx1] at h
     revert h h1 h2
     cases bit av k <;> cases bit am k <;> simp
    rw [if_neg hxk]
    exact ih
theorem yais {op:Int} {av am bv bm x y:BitVec 64} (hop:2≤op∧op≤7) (ha:RtB av am) (hb:RtB bv bm) (hx:InB av am x) (hy:InB bv bm y) :
  InB (twoP op av am bv bm).1 (twoP op av am bv bm).2 (numB op x y):=by
 rcases zi1 hop with rfl | rfl | rfl | rfl | rfl | rfl
 ·exact zt6 ha hb hx hy _ rfl
 ·exact yaiu ha hb hx hy _ rfl
 ·show InB (mulS av am bv bm 64).1 (mulS av am bv bm 64).2 (bmul x y)
  rw [← yapc]
  exact yada hb hx hy 64 (Nat.le_refl _)
 ·intro j hj
  show (bit (band x y) j&&!bit (bandn (band (bor av am) (bor bv bm)) (band av bv)) j)=bit (band av bv) j
  rw [zas _ _ _ hj,zaz,zaz,zaz,zaq,zaq]
  have h1:=hx j hj;have h2:=hy j hj;have h3:=ha j;have h4:=hb j
  revert h1 h2 h3 h4
  cases bit x j <;> cases bit y j <;> cases bit av j <;> cases bit am j <;> cases bit bv j <;> cases bit bm j <;> simp
 ·intro j hj
  show (bit (bor x y) j&&!bit (bandn (bor am bm) (bor av bv)) j)=bit (bor av bv) j
  rw [zas _ _ _ hj,zaq,zaq,zaq]
  have h1:=hx j hj;have h2:=hy j hj;have h3:=ha j;have h4:=hb j
  revert h1 h2 h3 h4
  cases bit x j <;> cases bit y j <;> cases bit av j <;> cases bit am j <;> cases bit bv j <;> cases bit bm j <;> simp
 ·intro j hj
  show (bit (bxor x y) j&&!bit (bor am bm) j)=bit (bandn (bxor av bv) (bor am bm)) j
  rw [zas _ _ _ hj,zaq,zbk,zbk]
  have h1:=hx j hj;have h2:=hy j hj;have h3:=ha j;have h4:=hb j
  revert h1 h2 h3 h4
  cases bit x j <;> cases bit y j <;> cases bit av j <;> cases bit am j <;> cases bit bv j <;> cases bit bm j <;> simp
theorem yaqo {op:Int} {av am bv bm:BitVec 64} (hop:2≤op∧op≤7):RtB (twoP op av am bv bm).1 (twoP op av am bv bm).2:=by
 have hn:∀ p q:BitVec 64,RtB (bandn p q) q:=by
  intro p q j
  by_cases hj:j<64
  ·rw [zas _ _ _ hj];cases bit p j <;> cases bit q j <;> rfl
  ·rw [zba _ _ (by omega)];rfl
 have hn':∀ p q:BitVec 64,RtB q (bandn p q):=by
  intro p q j
  by_cases hj:j<64
  ·rw [zas _ _ _ hj];cases bit p j <;> cases bit q j <;> rfl
  ·rw [zba _ _ (by omega)];rfl
 rcases zi1 hop with rfl | rfl | rfl | rfl | rfl | rfl
 ·exact hn _ _
 ·exact hn _ _
 ·exact zr7 _ _ _ _ _
 ·exact hn' _ _
 ·exact hn' _ _
 ·exact hn _ _
theorem yaqz {av am bv bm:BitVec 64} (hr:(eqb (band av am) zero&&eqb (band bv bm) zero)=true):(∀ j,(bit av j&&bit am j)=false)∧(∀ j,(bit bv j&&bit bm j)=false):=by
 rw [Bool.and_eq_true] at hr
 exact ⟨(zca _ _).1 hr.1,(zca _ _).1 hr.2⟩
theorem yalf {av am bv bm:BitVec 64} (hr:(eqb (band av am) zero&&eqb (band bv bm) zero)=true) :
  zyh av am bv bm 64=bandn av (jM av am bv bm)∧zys av am bv bm 64=jM av am bv bm:=by
 obtain ⟨ha,hb⟩:=yaqz hr
 constructor
 ·apply zdz;intro j hj
  have h1:=ha j;have h2:=hb j
  simp only [mo,mz,jM,zas _ _ _ hj,zaq,zbk]
  revert h1 h2
  cases bit av j <;> cases bit am j <;> cases bit bv j <;> cases bit bm j <;> simp
 ·apply zdz;intro j hj
  have h1:=ha j;have h2:=hb j
  simp only [mo,mz,jM,zaq,zbk]
  revert h1 h2
  cases bit av j <;> cases bit am j <;> cases bit bv j <;> cases bit bm j <;> simp
theorem yagj {av am bv bm:BitVec 64} (hr:(eqb (band av am) zero&&eqb (band bv bm) zero)=true) (hm:eqb (bandn (bxor av bv) (bor am bm)) zero=true) :
  (∀ j,j<64→zjc av am bv bm j=true)∧zq1 av am bv bm 64=bor av bv∧zrl av am bv bm 64=band am bm:=by
 obtain ⟨ha,hb⟩:=yaqz hr
 rw [zcb] at hm
 refine ⟨?_,?_,?_⟩
 ·intro j hj
  have h1:=ha j;have h2:=hb j;have h3:=hm j hj
  rw [zas _ _ _ hj,zbk,zaq] at h3
  simp only [zjc,mo,mz]
  revert h1 h2 h3
  cases bit av j <;> cases bit am j <;> cases bit bv j <;> cases bit bm j <;> simp
 ·apply zdz;intro j hj
  have h1:=ha j;have h2:=hb j;have h3:=hm j hj
  rw [zas _ _ _ hj,zbk,zaq] at h3
  simp only [mo,mz,zaq]
  revert h1 h2 h3
  cases bit av j <;> cases bit am j <;> cases bit bv j <;> cases bit bm j <;> simp
 ·apply zdz;intro j hj
  have h1:=ha j;have h2:=hb j;have h3:=hm j hj
  rw [zas _ _ _ hj,zbk,zaq] at h3
  simp only [mo,mz,zaz]
  revert h1 h2 h3
  cases bit av j <;> cases bit am j <;> cases bit bv j <;> cases bit bm j <;> simp
theorem yasc {av am bv bm:BitVec 64} (hm:eqb (bandn (bxor av bv) (bor am bm)) zero=false) :
  ∃ j,j<64∧zjc av am bv bm j=false∧∀ i,i<j→zjc av am bv bm i=true:=by
 rcases yabq (zjc av am bv bm) 64 with h | h
 ·exfalso
  have:eqb (bandn (bxor av bv) (bor am bm)) zero=true:=by
   rw [zcb];intro j hj
   have h1:=h j hj
   rw [zas _ _ _ hj,zbk,zaq]
   simp only [zjc,mo,mz] at h1
   revert h1
   cases bit av j <;> cases bit am j <;> cases bit bv j <;> cases bit bm j <;> simp
  rw [this] at hm;cases hm
 ·exact h
theorem zls {v m:BitVec 64} (hr:eqb (band v m) zero=true) (n:Nat):shV true v m n 64=bshl v n∧shM true v m n 64=bshl m n:=by
 have ha:=(zca _ _).1 hr
 have key:∀ j,j<64→(sho true v m n j=(decide (n≤j)&&(bit v (j - n)||bit m (j - n))))∧(shz true v n j=(!decide (n≤j)||!bit v (j - n))):=by
  intro j hj
  by_cases h:n≤j
  ·have e:=yamx true v m n j (j - n) (by simp [zef];omega) (by omega)
   rw [← e.1,← e.2];simp [h,mz,mo]
  ·have e:=yaa8 true v m n j (by simp [zef];omega)
   rw [← e.1,← e.2];simp [h]
 constructor
 ·apply zdz;intro j hj
  rw [(key j hj).1,(key j hj).2,zej _ _ _ hj]
  have h1:=ha (j - n)
  revert h1
  cases decide (n≤j) <;> cases bit v (j - n) <;> cases bit m (j - n) <;> simp
 ·apply zdz;intro j hj
  rw [(key j hj).1,(key j hj).2,zej _ _ _ hj]
  have h1:=ha (j - n)
  revert h1
  cases decide (n≤j) <;> cases bit v (j - n) <;> cases bit m (j - n) <;> simp
theorem zp4 {v m:BitVec 64} (hr:eqb (band v m) zero=true) (n:Nat):shV false v m n 64=bshr v n∧shM false v m n 64=bshr m n:=by
 have ha:=(zca _ _).1 hr
 have key:∀ j,j<64→(sho false v m n j=(bit v (n+j)||bit m (n+j)))∧(shz false v n j=!bit v (n+j)):=by
  intro j hj
  by_cases h:n+j<64
  ·have e:=yamx false v m n j (n+j) (by simp [zef];omega) h
   rw [← e.1,← e.2];simp [mz,mo]
  ·have e:=yaa8 false v m n j (by simp [zef];omega)
   rw [← e.1,← e.2,zba v _ (by omega),zba m _ (by omega)];simp
 constructor
 ·apply zdz;intro j hj
  rw [(key j hj).1,(key j hj).2,zey]
  have h1:=ha (n+j)
  revert h1
  cases bit v (n+j) <;> cases bit m (n+j) <;> simp
 ·apply zdz;intro j hj
  rw [(key j hj).1,(key j hj).2,zey]
  have h1:=ha (n+j)
  revert h1
  cases bit v (n+j) <;> cases bit m (n+j) <;> simp
theorem yap8:∀ (f x:Nat),x<2 ^ f→x<2 ^ Lib.bitLenAux f x
 | 0,x,h=>by simpa [Lib.bitLenAux] using h
 | f+1,x,h=>by
  simp only [Lib.bitLenAux]
  split
  ·subst_vars;simp
  ·have:=yap8 f (x / 2) (by rw [Nat.pow_succ] at h;omega)
   rw [Nat.add_comm 1,Nat.pow_succ]
   omega
theorem yanz (x:BitVec 64) (k:Nat) (hk:k≤64):blen x≤k↔x.toNat<2 ^ k:=by
 have e:(nv x).toNat=x.toNat:=by unfold nv;rw [Int.toNat_natCast]
 unfold blen
 rw [e]
 constructor
 ·intro h
  exact Nat.lt_of_lt_of_le (yap8 64 x.toNat x.isLt) (Nat.pow_le_pow_right (by decide) h)
 ·intro h
  exact Lib.bitLen_le _ k hk h
theorem zx9 (x:BitVec 64) (k:Nat):x.toNat<2 ^ k↔∀ j,k≤j→bit x j=false:=by
 constructor
 ·intro h j hj
  unfold bit BitVec.getLsbD
  exact Nat.testBit_lt_two_pow (Nat.lt_of_lt_of_le h (Nat.pow_le_pow_right (by decide) hj))
 ·intro h
  exact Nat.lt_pow_two_of_testBit _ fun j hj=>h j hj
theorem zfo (x:BitVec 64) (k:Nat) (hk:k≤64):blen x≤k↔∀ j,k≤j→bit x j=false:=by
 rw [yanz x k hk,zx9]
theorem zd2 (n j:Nat) (hn:n≤64) (_hj:j<64):bit (zd0 n) j=decide (j<n):=by
 have h:(zd0 n).toNat=2 ^ n - 1:=by
  unfold zd0 bsub bshl one
  by_cases e:n=64
  ·subst e;decide
  ·have hlt:2 ^ n<2 ^ 64:=Nat.pow_lt_pow_right (by decide) (by omega)
   have h1:1≤2 ^ n:=Nat.one_le_two_pow
   have e1:(1#64 <<< n).toNat=2 ^ n:=by
    rw [BitVec.toNat_shiftLeft,Nat.shiftLeft_eq];rw [show (1#64).toNat=1 from rfl,Nat.one_mul];exact Nat.mod_eq_of_lt hlt
   rw [BitVec.toNat_sub,e1]
   simp only [BitVec.toNat_ofNat]
   omega
 unfold bit BitVec.getLsbD
 rw [h,Nat.testBit_two_pow_sub_one]
theorem yag3 (l h:BitVec 64) (c:Nat) (hc:c≤64):zih l h c=true↔∀ j,64 - c≤j→bit (bxor l h) j=false:=by
 induction c with
 | zero=>simp only [zih,true_iff];intro j hj;exact zba _ _ (by omega)
 | succ c ih =>
  have ih:=ih (by omega)
  simp only [zih,Bool.and_eq_true,ih,beq_iff_eq]
  constructor
  ·rintro ⟨h1,h2⟩ j hj
   by_cases e:j=63 - c
   ·subst e;rw [zbk,h2];simp
   ·exact h1 j (by omega)
  ·intro h1
   refine ⟨fun j hj=>h1 j (by omega),?_⟩
   have:=h1 (63 - c) (by omega)
   rw [zbk] at this
   revert this
   cases bit l (63 - c) <;> cases bit h (63 - c) <;> simp
theorem yak3 (l h:BitVec 64):zzc l h 64=bandn l (sM l h)∧zxn l h 64=sM l h:=by
 have key:∀ j,j<64→bit (sM l h) j=!sameB l h (64 - j):=by
  intro j hj
  unfold sM
  rw [zd2 _ _ (zni _) hj]
  have h1:=yag3 l h (64 - j) (by omega)
  rw [show 64 - (64 - j)=j by omega,← zfo _ j (by omega)] at h1
  cases hs:zih l h (64 - j)
  ·rw [hs] at h1;simp at h1;simp [h1]
  ·rw [hs] at h1;simp at h1;simp;omega
 constructor
 ·apply yakd;intro j hj
  rw [zas _ _ _ hj,key j hj]
  simp only [spo,spz]
  cases zih l h (64 - j) <;> cases bit l j <;> simp
 ·apply yakd;intro j hj
  rw [key j hj]
  simp only [spo,spz]
  cases zih l h (64 - j) <;> cases bit l j <;> simp
theorem zeb (v m:BitVec 64):eqb (band v m) zero=true↔RtB v m:=zca v m
theorem za0 (v m x:BitVec 64):hasB v m x=true↔RtB v m∧InB v m x:=by
 unfold hasB
 rw [Bool.and_eq_true,zeb,has_iff];rfl
theorem yajx {op:Int} {av am bv bm x y:BitVec 64} (hop:2≤op∧op≤7) (hx:hasB av am x=true) (hy:hasB bv bm y=true) :
  hasB (twoP op av am bv bm).1 (twoP op av am bv bm).2 (numB op x y)=true:=by
 rw [za0] at hx hy ⊢
 exact ⟨yaqo hop,yais hop hx.1 hy.1 hx.2 hy.2⟩
theorem zqd {av am bv bm x:BitVec 64} (ha:RtB av am) (hb:RtB bv bm) (hx:(hasB av am x||hasB bv bm x)=true):hasB (bandn av (jM av am bv bm)) (jM av am bv bm) x=true:=by
 rw [Bool.or_eq_true,za0,za0] at hx
 rw [za0]
 refine ⟨fun j=>?_,fun j hj=>?_⟩
 ·by_cases hj:j<64
  ·rw [zas _ _ _ hj];cases bit av j <;> cases bit (jM av am bv bm) j <;> rfl
  ·rw [zba _ _ (by omega)];rfl
 ·rw [zas _ _ _ hj]
  unfold jM
  rw [zaq,zaq,zbk]
  have h3:=ha j;have h4:=hb j
  rcases hx with ⟨_,h⟩ | ⟨_,h⟩
  all_goals
   have h1:=h j hj
   revert h1 h3 h4
   cases bit x j <;> cases bit av j <;> cases bit am j <;> cases bit bv j <;> cases bit bm j <;> simp
theorem zqg {av am bv bm x:BitVec 64} (ha:RtB av am) (hb:RtB bv bm) :
  (hasB av am x&&hasB bv bm x)=(eqb (bandn (bxor av bv) (bor am bm)) zero&&hasB (bor av bv) (band am bm) x):=by
 rw [Bool.eq_iff_iff,Bool.and_eq_true,Bool.and_eq_true,za0,za0,za0]
 have key:eqb (bandn (bxor av bv) (bor am bm)) zero=true↔∀ j,j<64→((bit av j ^^ bit bv j)&&!(bit am j||bit bm j))=false:=by
  unfold eqb
  rw [beq_iff_eq]
  constructor
  ·intro h j hj
   rw [← zbk,← zaq,← zas _ _ _ hj,h,zbb]
  ·intro h
   apply BitVec.eq_of_getLsbD_eq
   intro j hj
   have:=h j hj
   rw [← zbk,← zaq,← zas _ _ _ hj] at this
   unfold bit at this
   rw [this]
   exact (zbb j).symm
 rw [key]
 constructor
 ·rintro ⟨⟨_,h1⟩,⟨_,h2⟩⟩
  refine ⟨fun j hj=>?_,fun j=>?_,fun j hj=>?_⟩
  ·have a1:=h1 j hj;have a2:=h2 j hj
   revert a1 a2
   cases bit x j <;> cases bit av j <;> cases bit am j <;> cases bit bv j <;> cases bit bm j <;> simp
  ·rw [zaq,zaz]
   have h3:=ha j;have h4:=hb j
   revert h3 h4
   cases bit av j <;> cases bit am j <;> cases bit bv j <;> cases bit bm j <;> simp
  ·rw [zaq,zaz]
   have a1:=h1 j hj;have a2:=h2 j hj;have h3:=ha j;have h4:=hb j
   revert a1 a2 h3 h4
   cases bit x j <;> cases bit av j <;> cases bit am j <;> cases bit bv j <;> cases bit bm j <;> simp
 ·rintro ⟨h0,_,h1⟩
  refine ⟨⟨ha,fun j hj=>?_⟩,⟨hb,fun j hj=>?_⟩⟩
  all_goals
   have a0:=h0 j hj;have a1:=h1 j hj;have h3:=ha j;have h4:=hb j
   rw [zaq,zaz] at a1
   revert a0 a1 h3 h4
   cases bit x j <;> cases bit av j <;> cases bit am j <;> cases bit bv j <;> cases bit bm j <;> simp
theorem zmy (av am bv bm:BitVec 64):insB av am bv bm=true↔RtB av am∧RtB bv bm∧∀ j,j<64→(bit am j&&!bit bm j)=false∧(bit av j&&!bit bm j)=bit bv j:=by
 unfold insB
 have:eqb (bandn am bm) zero=true↔∀ j,j<64→(bit am j&&!bit bm j)=false:=by
  rw [has_iff]
  constructor
  ·intro h j hj;rw [h j hj,zbb]
  ·intro h j hj;rw [h j hj,zbb]
 rw [Bool.and_eq_true,Bool.and_eq_true,Bool.and_eq_true,zeb,zeb,this,has_iff,and_assoc]
 exact ⟨fun ⟨h1,h2,h3,h4⟩=>⟨h1,h2,fun j hj=>⟨h3 j hj,h4 j hj⟩⟩,fun ⟨h1,h2,h3⟩=>⟨h1,h2,fun j hj=>(h3 j hj).1,fun j hj=>(h3 j hj).2⟩⟩
theorem zwk {av am bv bm x:BitVec 64} (hi:insB av am bv bm=true) (hx:hasB av am x=true):hasB bv bm x=true:=by
 rw [zmy] at hi
 rw [za0] at hx ⊢
 refine ⟨hi.2.1,fun j hj=>?_⟩
 have h1:=hi.2.2 j hj;have h2:=hx.2 j hj
 revert h1 h2
 cases bit x j <;> cases bit av j <;> cases bit am j <;> cases bit bv j <;> cases bit bm j <;> simp
theorem yajk {v m x:BitVec 64} (hx:hasB v m x=true) (n:Nat):hasB (bshl v n) (bshl m n) (bshl x n)=true:=by
 rw [za0] at hx ⊢
 exact ⟨yakm hx.1 n,yajw hx.2 n⟩
theorem yalt {v m x:BitVec 64} (hx:hasB v m x=true) (n:Nat):hasB (bshr v n) (bshr m n) (bshr x n)=true:=by
 rw [za0] at hx ⊢
 refine ⟨fun j=>?_,fun j hj=>?_⟩
 ·rw [zey,zey];exact hx.1 _
 ·rw [zey,zey,zey]
  by_cases h:n+j<64
  ·exact hx.2 _ h
  ·rw [zba x _ (by omega),zba v _ (by omega)];rfl
def bneg (x:BitVec 64):BitVec 64:=- x
theorem yaz6 (x:BitVec 64):IntKind.u64.wrap (- nv x)=nv (bneg x):=by
 rw [zfp,BitVec.ofInt_neg,zbg];rfl
theorem zps (x:BitVec 64):nv (bnot x)=18446744073709551615 - nv x:=by
 unfold nv bnot
 rw [BitVec.toNat_not]
 have:=x.isLt
 omega
theorem ybam (x:BitVec 64):bits .xor .u64 IntKind.u64.max (nv x)=nv (bnot x):=by
 rw [show IntKind.u64.max=nv top by rw [zmi];rfl,zdb]
 refine congrArg nv ?_
 apply BitVec.eq_of_getLsbD_eq
 intro j hj
 show bit (bxor top x) j=bit (bnot x) j
 rw [zbk,zdj _ _ hj,zqz _ hj];cases bit x j <;> rfl
theorem bext {x y:BitVec 64} (h:∀ j,j<64→bit x j=bit y j):x=y :=
 BitVec.eq_of_getLsbD_eq h
theorem yasb (x:BitVec 64):bneg x=bnot (bsub x one):=by
 rw [yakn]
 unfold bneg bnot badd one
 rw [BitVec.not_not,BitVec.neg_eq_not_add]
theorem zeo {a b:BitVec 64} (h:Nat) (ha:bit a h=false) (hb:bit b h=true) (hj:∀ j,h<j→j<64→bit a j=bit b j):nv a<nv b:=by
 unfold nv
 have hall:∀ j,h<j→a.toNat.testBit j=b.toNat.testBit j:=by
  intro j hhj
  by_cases e:j<64
  ·exact hj j hhj e
  ·have h1:=zba a j (by omega)
   have h2:=zba b j (by omega)
   unfold bit BitVec.getLsbD at h1 h2
   rw [h1,h2]
 have e:a.toNat / 2 ^ (h+1)=b.toNat / 2 ^ (h+1):=Nat.eq_of_testBit_eq fun i=>by
  rw [Nat.testBit_div_two_pow,Nat.testBit_div_two_pow];exact hall _ (by omega)
 rw [Nat.pow_succ,← Nat.div_div_eq_div_mul,← Nat.div_div_eq_div_mul] at e
 have ea:a.toNat / 2 ^ h % 2≠1:=by
  unfold bit BitVec.getLsbD at ha
  rw [Nat.testBit_eq_decide_div_mod_eq,decide_eq_false_iff_not] at ha;exact ha
 have eb:b.toNat / 2 ^ h % 2=1:=by
  unfold bit BitVec.getLsbD at hb
  rw [Nat.testBit_eq_decide_div_mod_eq,decide_eq_true_eq] at hb;exact hb
 have:a.toNat<b.toNat:=by
  rcases Nat.lt_or_ge a.toNat b.toNat with g | g
  ·exact g
  ·exfalso
   have:=Nat.div_le_div_right (c:=2 ^ h) g
   omega
 omega
theorem zzx {x:BitVec 64} (hx:eqb x zero=false):∃ h,h<64∧blen x=h+1∧bit x h=true∧∀ j,h<j→bit x j=false:=by
 have hle:=zni x
 have h0:blen x≠0:=by
  intro e
  have:=(zfo x 0 (by omega)).1 (by omega)
  have h1:eqb x zero=true:=(zcb x).2 fun j _=>this j (by omega)
  rw [h1] at hx;cases hx
 refine ⟨blen x - 1,by omega,by omega,?_,fun j hj=>(zfo x (blen x) hle).1 (Nat.le_refl _) j (by omega)⟩
 cases hb:bit x (blen x - 1)
 ·exfalso
  have:=(zfo x (blen x - 1) (by omega)).2 fun j hj=>by
   by_cases e:j=blen x - 1
   ·rw [e,hb]
   ·exact (zfo x (blen x) hle).1 (Nat.le_refl _) j (by omega)
  omega
 ·rfl
theorem zki {a b:BitVec 64} (hlt:nv a<nv b):∃ h,h<64∧bit a h=false∧bit b h=true∧∀ j,h<j→j<64→bit a j=bit b j:=by
 have hne:eqb (bxor a b) zero=false:=by
  cases e:eqb (bxor a b) zero
  ·rfl
  ·exfalso
   have:a=b:=bext fun j hj=>by
    have:=(zcb _).1 e j hj
    rw [zbk] at this
    revert this
    cases bit a j <;> cases bit b j <;> simp
   rw [this] at hlt;omega
 obtain ⟨h,h1,_,h3,h4⟩:=zzx hne
 rw [zbk] at h3
 have h5:∀ j,h<j→j<64→bit a j=bit b j:=by
  intro j hj _
  have:=h4 j hj
  rw [zbk] at this
  revert this
  cases bit a j <;> cases bit b j <;> simp
 cases ha:bit a h
 ·rw [ha] at h3
  exact ⟨h,h1,ha,by revert h3;cases bit b h <;> simp,h5⟩
 ·exfalso
  rw [ha] at h3
  have hb:bit b h=false:=by revert h3;cases bit b h <;> simp
  have:=zeo h hb ha fun j hj hj2=>(h5 j hj hj2).symm
  omega
theorem yaza {x:BitVec 64} {k:Nat} (hk:k<64) (h1:bit x k=true) (h0:∀ j,j<k→bit x j=false) (i:Nat) (hi:i≤64):bw x one i=decide (1≤i∧i≤k):=by
 induction i with
 | zero=>rw [zxf];simp
 | succ i ih =>
  rw [zx7 _ _ _ (by omega),ih (by omega)]
  have ho:bit one i=decide (i=0):=by
   have:=zcs 0 i (by omega)
   rw [show bshl one 0=one by unfold bshl;simp] at this
   exact this
  rw [ho]
  by_cases e:i=0
  ·subst e
   by_cases ek:k=0
   ·subst ek;rw [h1];simp
   ·rw [h0 0 (by omega)];simp;omega
  ·rcases Nat.lt_trichotomy i k with h | h | h
   ·have e1:1≤i∧i≤k:=by omega
    have e2:1≤i+1∧i+1≤k:=by omega
    rw [h0 i h,decide_eq_true e1,decide_eq_true e2,decide_eq_false e];rfl
   ·subst h
    have e2:¬ (1≤i+1∧i+1≤i):=by omega
    rw [h1,decide_eq_false e2,decide_eq_false e];simp
   ·have e1:¬ (1≤i∧i≤k):=by omega
    have e2:¬ (1≤i+1∧i+1≤k):=by omega
    rw [decide_eq_false e1,decide_eq_false e2,decide_eq_false e];simp
theorem yatk {x:BitVec 64} {k:Nat} (hk:k<64) (h1:bit x k=true) (h0:∀ j,j<k→bit x j=false):band x (bneg x)=bshl one k:=by
 apply bext
 intro j hj
 rw [zaz,yasb,zdj _ _ hj,zkl _ _ _ hj,yaza hk h1 h0 j (by omega),zcs _ _ hk]
 have ho:bit one j=decide (j=0):=by
  have:=zcs 0 j (by omega)
  rw [show bshl one 0=one by unfold bshl;simp] at this
  exact this
 rw [ho]
 rcases Nat.lt_trichotomy j k with h | h | h
 ·rw [h0 j h];simp;omega
 ·subst h;rw [h1]
  by_cases e:j=0
  ·subst e;simp
  ·simp [e];omega
 ·have e1:¬ (1≤j∧j≤k):=by omega
  have e2:¬ j=0:=by omega
  have e3:¬ j=k:=by omega
  simp [e1,e2,e3]
def zgm (v x:BitVec 64) (i:Nat):BitVec 64:=bor (bor (bshl (bshr x i) i) (bshl one i)) (band v (zd0 i))
def okL (v m x:BitVec 64) (i:Nat):Bool:=!bit x i&&hasB v m (zgm v x i)
theorem zc0 (v x:BitVec 64) (i j:Nat) (hi:i<64) (hj:j<64):bit (zgm v x i) j=if j<i then bit v j else if j=i then true else bit x j:=by
 unfold zgm
 rw [zaq,zaq,zaz,zej _ _ _ hj,zey,zcs _ _ hi,zd2 _ _ (by omega) hj]
 rcases Nat.lt_trichotomy j i with h | h | h
 ·have h1:¬ i≤j:=by omega
  have h2:¬ j=i:=by omega
  simp [h,h1,h2]
 ·subst h;simp
 ·have h1:i≤j:=by omega
  have h2:¬ j=i:=by omega
  have h3:¬ j<i:=by omega
  rw [show i+(j - i)=j by omega]
  simp [h1,h2,h3]
theorem zir {v m:BitVec 64} (hr:RtB v m) (x:BitVec 64) (i:Nat) (hi:i<64):okL v m x i=true↔bit x i=false∧(bit v i||bit m i)=true∧∀ j,i<j→j<64→(bit x j&&!bit m j)=bit v j:=by
 unfold okL
 rw [Bool.and_eq_true,za0]
 constructor
 ·rintro ⟨h1,_,h2⟩
  refine ⟨by simpa using h1,?_,fun j hj hj2=>?_⟩
  ·have:=h2 i hi
   rw [zc0 _ _ _ _ hi hi] at this
   have h3:=hr i
   revert this h3
   cases bit v i <;> cases bit m i <;> simp
  ·have:=h2 j hj2
   rw [zc0 _ _ _ _ hi hj2,if_neg (by omega),if_neg (by omega)] at this
   exact this
 ·rintro ⟨h1,h2,h3⟩
  refine ⟨by simp [h1],hr,fun j hj=>?_⟩
  rw [zc0 _ _ _ _ hi hj]
  have h4:=hr j
  rcases Nat.lt_trichotomy j i with h | h | h
  ·rw [if_pos h]
   revert h4
   cases bit v j <;> cases bit m j <;> simp
  ·subst h
   rw [if_neg (by omega),if_pos rfl]
   revert h2 h4
   cases bit v j <;> cases bit m j <;> simp
  ·rw [if_neg (by omega),if_neg (by omega)]
   exact h3 j h hj
def zh0 (v m x:BitVec 64):BitVec 64:=bandn (bxor x v) m
def zfw (v m x:BitVec 64):BitVec 64:=zd0 (blen (zh0 v m x))
def zgn (v m x:BitVec 64):BitVec 64:=bandn (bandn m x) (zfw v m x)
def lowB (x:BitVec 64):BitVec 64:=band x (bneg x)
def zbr (v m x:BitVec 64):BitVec 64×Bool :=
 if eqb (zh0 v m x) zero then (x,true)
 else if nv (band x (zfw v m x))<nv (band v (zfw v m x)) then (bor (bandn x (zfw v m x)) (band v (zfw v m x)),true)
 else if eqb (zgn v m x) zero then (zero,false)
 else (bor (bor (bandn x (bsub (lowB (zgn v m x)) one)) (lowB (zgn v m x))) (band v (bsub (lowB (zgn v m x)) one)),true)
theorem zs8 {v m:BitVec 64} (hr:RtB v m) (x:BitVec 64):eqb (zh0 v m x) zero=hasB v m x:=by
 rw [Bool.eq_iff_iff,zcb,za0]
 constructor
 ·intro h
  refine ⟨hr,fun j hj=>?_⟩
  have h1:=h j hj
  unfold zh0 at h1
  rw [zas _ _ _ hj,zbk] at h1
  have h2:=hr j
  revert h1 h2
  cases bit x j <;> cases bit v j <;> cases bit m j <;> simp
 ·rintro ⟨_,h⟩ j hj
  have h1:=h j hj
  unfold zh0
  rw [zas _ _ _ hj,zbk]
  have h2:=hr j
  revert h1 h2
  cases bit x j <;> cases bit v j <;> cases bit m j <;> simp
def zy4 (v m x:BitVec 64) (r:BitVec 64×Bool) (d:BitVec 64):Prop :=
 (hasB v m x=true∧r=(x,true))
 ∨ (hasB v m x=false∧∃ k,k<64∧okL v m x k=true∧(∀ j,j<k→okL v m x j=false)∧r=(zgm v x k,true))
 ∨ (hasB v m x=false∧(∀ j,j<64→okL v m x j=false)∧r=(d,false))
theorem zje {v m:BitVec 64} (hr:RtB v m) (x:BitVec 64):zy4 v m x (zbr v m x) zero:=by
 unfold zy4 zbr
 cases hw:eqb (zh0 v m x) zero
 ·have hh:hasB v m x=false:=by rw [← zs8 hr,hw]
  refine Or.inr ?_
  obtain ⟨h,h64,hbl,hb1,hb0⟩:=zzx hw
  have e1:=hb1
  unfold zh0 at e1
  rw [zas _ _ _ h64,zbk] at e1
  have e0:∀ j,h<j→j<64→(bit x j&&!bit m j)=bit v j:=by
   intro j hj hj2
   have:=hb0 j hj
   unfold zh0 at this
   rw [zas _ _ _ hj2,zbk] at this
   have h2:=hr j
   revert this h2
   cases bit x j <;> cases bit v j <;> cases bit m j <;> simp
  have hbelow:∀ j,j<h→okL v m x j=false:=by
   intro j hj
   cases ho:okL v m x j
   ·rfl
   ·exfalso
    have:=((zir hr x j (by omega)).1 ho).2.2 h hj h64
    revert this e1
    cases bit x h <;> cases bit v h <;> cases bit m h <;> simp
  have hrest:∀ j,j<64→bit (zfw v m x) j=decide (j≤h):=by
   intro j hj
   unfold zfw
   rw [hbl,zd2 _ _ (by omega) hj]
   simp [Nat.lt_succ_iff]
  cases hv:bit v h
  ·-- x has a 1 there
   have hx:bit x h=true:=by
    rw [hv] at e1;revert e1;cases bit x h <;> simp
   have hnl:¬ nv (band x (zfw v m x))<nv (band v (zfw v m x)):=by
    have:nv (band v (zfw v m x))<nv (band x (zfw v m x)):=by
     refine zeo h ?_ ?_ fun j hj hj2=>?_
     ·rw [zaz,hv];rfl
     ·rw [zaz,hx,hrest h h64];simp
     ·rw [zaz,zaz,hrest j hj2]
      have:¬ j≤h:=by omega
      simp [this]
    omega
   have hoh:okL v m x h=false:=by
    cases ho:okL v m x h
    ·rfl
    ·have:=((zir hr x h h64).1 ho).1
     rw [hx] at this;cases this
   have hfree:∀ j,j<64→bit (zgn v m x) j=((bit m j&&!bit x j)&&!decide (j≤h)):=by
    intro j hj
    unfold zgn
    rw [zas _ _ _ hj,zas _ _ _ hj,hrest j hj]
   have hok:∀ j,h<j→j<64→okL v m x j=bit (zgn v m x) j:=by
    intro j hj hj2
    rw [Bool.eq_iff_iff,zir hr x j hj2,hfree j hj2]
    have h1:¬ j≤h:=by omega
    simp only [h1,decide_false,Bool.not_false,Bool.and_true,Bool.and_eq_true,Bool.not_eq_true']
    have h3:=e0 j hj hj2
    constructor
    ·rintro ⟨g1,g2,_⟩
     refine ⟨?_,g1⟩
     rw [g1] at h3
     revert g2 h3
     cases bit v j <;> cases bit m j <;> simp
    ·rintro ⟨g1,g2⟩
     refine ⟨g2,by rw [g1];simp,fun i hi hi2=>e0 i (by omega) hi2⟩
   rw [if_neg (by simp),if_neg hnl]
   cases hf:eqb (zgn v m x) zero
   ·rw [if_neg (by simp)]
    refine Or.inl ⟨hh,?_⟩
    rcases yabq (fun j=>!bit (zgn v m x) j) 64 with hall | ⟨k,hk,hkf,hkb⟩
    ·exfalso
     have:eqb (zgn v m x) zero=true:=(zcb _).2 fun j hj=>by simpa using hall j hj
     rw [this] at hf;cases hf
    ·have hk1:bit (zgn v m x) k=true:=by simpa using hkf
     have hk0:∀ j,j<k→bit (zgn v m x) j=false:=fun j hj=>by simpa using hkb j hj
     have hkh:h<k:=by
      have:=hk1
      rw [hfree k hk] at this
      by_cases e:k≤h
      ·simp [e] at this
      ·omega
     refine ⟨k,hk,by rw [hok k hkh hk];exact hk1,fun j hj=>?_,?_⟩
     ·rcases Nat.lt_trichotomy j h with g | g | g
      ·exact hbelow j g
      ·rw [g];exact hoh
      ·rw [hok j g (by omega)];exact hk0 j hj
     ·have hone:lowB (zgn v m x)=bshl one k:=yatk hk hk1 hk0
      rw [hone]
      have hxk:bit x k=false:=by
       have:=hk1
       rw [hfree k hk] at this
       revert this
       cases bit m k <;> cases bit x k <;> simp
      congr 1
      apply bext
      intro j hj
      rw [zc0 _ _ _ _ hk hj,zaq,zaq,zaz,zas _ _ _ hj,zcs _ _ hk]
      have hl:=zd2 k j (by omega) hj
      unfold zd0 at hl
      rw [hl]
      rcases Nat.lt_trichotomy j k with g | g | g
      ·have g2:¬ j=k:=by omega
       simp [g,g2]
      ·subst g;simp
      ·have g2:¬ j=k:=by omega
       have g3:¬ j<k:=by omega
       simp [g2,g3]
   ·rw [if_pos rfl]
    refine Or.inr ⟨hh,fun j hj=>?_,rfl⟩
    rcases Nat.lt_trichotomy j h with g | g | g
    ·exact hbelow j g
    ·rw [g];exact hoh
    ·rw [hok j g hj];exact (zcb _).1 hf j hj
  ·-- x has a 0 there
   have hx:bit x h=false:=by
    rw [hv] at e1;revert e1;cases bit x h <;> simp
   have hl:nv (band x (zfw v m x))<nv (band v (zfw v m x)):=by
    refine zeo h ?_ ?_ fun j hj hj2=>?_
    ·rw [zaz,hx];rfl
    ·rw [zaz,hv,hrest h h64];simp
    ·rw [zaz,zaz,hrest j hj2]
     have:¬ j≤h:=by omega
     simp [this]
   rw [if_neg (by simp),if_pos hl]
   refine Or.inl ⟨hh,h,h64,(zir hr x h h64).2 ⟨hx,by rw [hv];rfl,e0⟩,hbelow,?_⟩
   congr 1
   apply bext
   intro j hj
   rw [zc0 _ _ _ _ h64 hj,zaq,zas _ _ _ hj,zaz,hrest j hj]
   rcases Nat.lt_trichotomy j h with g | g | g
   ·have g2:j≤h:=by omega
    simp [g,g2]
   ·subst g;simp [hv]
   ·have g2:¬ j≤h:=by omega
    have g3:¬ j=h:=by omega
    have g4:¬ j<h:=by omega
    simp [g2,g3,g4]
 ·exact Or.inl ⟨by rw [← zs8 hr,hw],by simp⟩
def zrh (v m x:BitVec 64) (i:Nat):BitVec 64:=bor (bshl (bshr x (i+1)) (i+1)) (band (bor v m) (zd0 i))
def okG (v m x:BitVec 64) (i:Nat):Bool:=bit x i&&hasB v m (zrh v m x i)
def turn (v m:BitVec 64):BitVec 64:=bnot (bor v m)
theorem zrw (v m:BitVec 64):RtB (turn v m) m:=by
 intro j
 by_cases hj:j<64
 ·unfold turn;rw [zdj _ _ hj,zaq];cases bit v j <;> cases bit m j <;> rfl
 ·rw [zba _ _ (by omega)];rfl
theorem not_not (x:BitVec 64):bnot (bnot x)=x:=by unfold bnot;exact BitVec.not_not
theorem zi4 {v m:BitVec 64} (hr:RtB v m) (x:BitVec 64):hasB (turn v m) m (bnot x)=hasB v m x:=by
 rw [Bool.eq_iff_iff,za0,za0]
 constructor
 ·rintro ⟨_,h⟩
  refine ⟨hr,fun j hj=>?_⟩
  have h1:=h j hj
  unfold turn at h1
  rw [zdj _ _ hj,zdj _ _ hj,zaq] at h1
  have h2:=hr j
  revert h1 h2
  cases bit x j <;> cases bit v j <;> cases bit m j <;> simp
 ·rintro ⟨_,h⟩
  refine ⟨zrw v m,fun j hj=>?_⟩
  have h1:=h j hj
  unfold turn
  rw [zdj _ _ hj,zdj _ _ hj,zaq]
  have h2:=hr j
  revert h1 h2
  cases bit x j <;> cases bit v j <;> cases bit m j <;> simp
theorem yabs (v m x:BitVec 64) (i:Nat) (hi:i<64):zrh v m x i=bnot (zgm (turn v m) (bnot x) i):=by
 apply bext
 intro j hj
 rw [zdj _ _ hj,zc0 _ _ _ _ hi hj]
 unfold zrh turn
 rw [zaq,zaz,zaq,zej _ _ _ hj,zey,zd2 _ _ (by omega) hj,zdj _ _ hj,zdj _ _ hj,zaq]
 rcases Nat.lt_trichotomy j i with h | h | h
 ·have h1:¬ i+1≤j:=by omega
  simp [h,h1]
 ·subst h
  have h1:¬ j+1≤j:=by omega
  simp [h1]
 ·have h1:i+1≤j:=by omega
  have h2:¬ j=i:=by omega
  have h3:¬ j<i:=by omega
  rw [show i+1+(j - (i+1))=j by omega]
  simp [h1,h2,h3]
theorem yajf {v m:BitVec 64} (hr:RtB v m) (x:BitVec 64) (i:Nat) (hi:i<64):okG v m x i=okL (turn v m) m (bnot x) i:=by
 unfold okG okL
 rw [zdj _ _ hi,Bool.not_not,yabs _ _ _ _ hi]
 have:=zi4 hr (bnot (zgm (turn v m) (bnot x) i))
 rw [not_not] at this
 rw [← this]
def zcg (v m x:BitVec 64):BitVec 64×Bool:=if (zbr (turn v m) m (bnot x)).2 then (bnot (zbr (turn v m) m (bnot x)).1,true) else (zero,false)
def yala (v m x:BitVec 64) (r:BitVec 64×Bool) (d:BitVec 64):Prop :=
 (hasB v m x=true∧r=(x,true))
 ∨ (hasB v m x=false∧∃ k,k<64∧okG v m x k=true∧(∀ j,j<k→okG v m x j=false)∧r=(zrh v m x k,true))
 ∨ (hasB v m x=false∧(∀ j,j<64→okG v m x j=false)∧r=(d,false))
theorem yab1 {v m:BitVec 64} (hr:RtB v m) (x:BitVec 64):yala v m x (zcg v m x) zero:=by
 have h:=zje (zrw v m) (bnot x)
 unfold zy4 at h
 rw [zi4 hr] at h
 unfold yala zcg
 rcases h with ⟨h1,h2⟩ | ⟨h1,k,hk,h2,h3,h4⟩ | ⟨h1,h2,h3⟩
 ·exact Or.inl ⟨h1,by rw [h2];simp [not_not]⟩
 ·refine Or.inr (Or.inl ⟨h1,k,hk,by rw [yajf hr _ _ hk];exact h2,fun j hj=>by rw [yajf hr _ _ (by omega)];exact h3 j hj,?_⟩)
  rw [h4,yabs _ _ _ _ hk];simp
 ·refine Or.inr (Or.inr ⟨h1,fun j hj=>by rw [yajf hr _ _ hj];exact h2 j hj,by rw [h3];simp⟩)
def zcq (v m x:BitVec 64):Nat→BitVec 64×Bool
 | 0=>(x,hasB v m x)
 | k+1=>if (zcq v m x k).2 then zcq v m x k else if okL v m x k then (zgm v x k,true) else zcq v m x k
def zcp (v m x:BitVec 64):Nat→BitVec 64×Bool
 | 0=>(x,hasB v m x)
 | k+1=>if (zcp v m x k).2 then zcp v m x k else if okG v m x k then (zrh v m x k,true) else zcp v m x k
theorem zkp (v m x:BitVec 64) (k n:Nat) (h:(zcq v m x k).2=true) (hn:k≤n):zcq v m x n=zcq v m x k:=by
 induction n with
 | zero =>
  have:k=0:=by omega
  rw [this]
 | succ n ih =>
  by_cases e:k=n+1
  ·rw [e]
  ·have:=ih (by omega)
   rw [zcq,this,if_pos h]
theorem zka (v m x:BitVec 64) (k n:Nat) (h:(zcp v m x k).2=true) (hn:k≤n):zcp v m x n=zcp v m x k:=by
 induction n with
 | zero =>
  have:k=0:=by omega
  rw [this]
 | succ n ih =>
  by_cases e:k=n+1
  ·rw [e]
  ·have:=ih (by omega)
   rw [zcp,this,if_pos h]
theorem yaaq (v m x:BitVec 64) (hh:hasB v m x=false) (n:Nat) (h:∀ j,j<n→okL v m x j=false):zcq v m x n=(x,false):=by
 induction n with
 | zero=>rw [zcq,hh]
 | succ n ih =>
  have:=ih fun j hj=>h j (by omega)
  rw [zcq,this,h n (by omega)];simp
theorem yaaa (v m x:BitVec 64) (hh:hasB v m x=false) (n:Nat) (h:∀ j,j<n→okG v m x j=false):zcp v m x n=(x,false):=by
 induction n with
 | zero=>rw [zcp,hh]
 | succ n ih =>
  have:=ih fun j hj=>h j (by omega)
  rw [zcp,this,h n (by omega)];simp
theorem zpv {v m:BitVec 64} (hr:RtB v m) (x:BitVec 64):(zcq v m x 64).2=(zbr v m x).2∧((zbr v m x).2=true→(zcq v m x 64).1=(zbr v m x).1):=by
 rcases zje hr x with ⟨h1,h2⟩ | ⟨h1,k,hk,h2,h3,h4⟩ | ⟨h1,h2,h3⟩
 ·have:(zcq v m x 0)=(x,true):=by rw [zcq,h1]
  rw [zkp v m x 0 64 (by rw [this]) (by omega),this,h2]
  exact ⟨rfl,fun _=>rfl⟩
 ·have e0:=yaaq v m x h1 k h3
  have:(zcq v m x (k+1))=(zgm v x k,true):=by rw [zcq,e0,h2];simp
  rw [zkp v m x (k+1) 64 (by rw [this]) (by omega),this,h4]
  exact ⟨rfl,fun _=>rfl⟩
 ·rw [yaaq v m x h1 64 h2,h3]
  exact ⟨rfl,fun h=>by cases h⟩
theorem zpu {v m:BitVec 64} (hr:RtB v m) (x:BitVec 64):(zcp v m x 64).2=(zcg v m x).2∧((zcg v m x).2=true→(zcp v m x 64).1=(zcg v m x).1):=by
 rcases yab1 hr x with ⟨h1,h2⟩ | ⟨h1,k,hk,h2,h3,h4⟩ | ⟨h1,h2,h3⟩
 ·have:(zcp v m x 0)=(x,true):=by rw [zcp,h1]
  rw [zka v m x 0 64 (by rw [this]) (by omega),this,h2]
  exact ⟨rfl,fun _=>rfl⟩
 ·have e0:=yaaa v m x h1 k h3
  have:(zcp v m x (k+1))=(zrh v m x k,true):=by rw [zcp,e0,h2];simp
  rw [zka v m x (k+1) 64 (by rw [this]) (by omega),this,h4]
  exact ⟨rfl,fun _=>rfl⟩
 ·rw [yaaa v m x h1 64 h2,h3]
  exact ⟨rfl,fun h=>by cases h⟩
theorem yas6 {v m x:BitVec 64} {k:Nat} (hr:RtB v m) (hk:k<64) (ho:okL v m x k=true):nv x<nv (zgm v x k):=by
 have h:=(zir hr x k hk).1 ho
 refine zeo k h.1 ?_ fun j hj hj2=>?_
 ·rw [zc0 _ _ _ _ hk hk,if_neg (by omega),if_pos rfl]
 ·rw [zc0 _ _ _ _ hk hj2,if_neg (by omega),if_neg (by omega)]
theorem yad2 {a b:BitVec 64} (h:∀ i,bit b i=false→bit a i=true→∃ j,i<j∧j<64∧bit a j=false∧bit b j=true):nv a≤nv b:=by
 by_cases hlt:nv b<nv a
 ·exfalso
  obtain ⟨i,hi,h1,h2,h3⟩:=zki hlt
  obtain ⟨j,hj,hj2,h4,h5⟩:=h i h1 h2
  have:=h3 j hj hj2
  rw [h4,h5] at this;cases this
 ·omega
theorem yacl {v m x y:BitVec 64} (hr:RtB v m) (hy:hasB v m y=true) (hlt:nv x<nv y):∃ i,i<64∧okL v m x i=true∧nv (zgm v x i)≤nv y:=by
 obtain ⟨i,hi,h1,h2,h3⟩:=zki hlt
 have hin:=((za0 v m y).1 hy).2
 refine ⟨i,hi,(zir hr x i hi).2 ⟨h1,?_,fun j hj hj2=>?_⟩,?_⟩
 ·have:=hin i hi
  rw [h2] at this
  revert this
  cases bit m i <;> cases bit v i <;> simp
 ·rw [h3 j hj hj2];exact hin j hj2
 ·apply yad2
  intro k hk1 hk2
  exfalso
  by_cases hk64:k<64
  ·rw [zc0 _ _ _ _ hi hk64] at hk2
   rcases Nat.lt_trichotomy k i with g | g | g
   ·rw [if_pos g] at hk2
    have:=hin k hk64
    rw [hk1,hk2] at this;simp at this
   ·rw [g,h2] at hk1;cases hk1
   ·rw [if_neg (by omega),if_neg (by omega),h3 k g hk64,hk1] at hk2;cases hk2
  ·rw [zba _ _ (by omega)] at hk2;cases hk2
theorem yasz {v m x:BitVec 64} {i k:Nat} (hr:RtB v m) (hk:k<i) (hi:i<64) (hoi:okL v m x i=true):nv (zgm v x k)≤nv (zgm v x i):=by
 have h:=(zir hr x i hi).1 hoi
 have:nv (zgm v x k)<nv (zgm v x i):=by
  refine zeo i ?_ ?_ fun j hj hj2=>?_
  ·rw [zc0 _ _ _ _ (by omega) hi,if_neg (by omega),if_neg (by omega)];exact h.1
  ·rw [zc0 _ _ _ _ hi hi,if_neg (by omega),if_pos rfl]
  ·rw [zc0 _ _ _ _ (by omega) hj2,zc0 _ _ _ _ hi hj2,if_neg (by omega),if_neg (by omega),if_neg (by omega),if_neg (by omega)]
 omega
theorem zi7 {v m:BitVec 64} (hr:RtB v m) {x:BitVec 64} (h:(zbr v m x).2=true):hasB v m (zbr v m x).1=true∧nv x≤nv (zbr v m x).1∧∀ y,hasB v m y=true→nv x≤nv y→nv (zbr v m x).1≤nv y:=by
 rcases zje hr x with ⟨h1,h2⟩ | ⟨h1,k,hk,h2,h3,h4⟩ | ⟨h1,h2,h3⟩
 ·rw [h2];exact ⟨h1,Int.le_refl _,fun y _ h=>h⟩
 ·rw [h4]
  have hc:=h2
  unfold okL at hc
  rw [Bool.and_eq_true] at hc
  refine ⟨hc.2,Int.le_of_lt (yas6 hr hk h2),fun y hy hle=>?_⟩
  have hlt:nv x<nv y:=by
   rcases Int.lt_or_eq_of_le hle with g | g
   ·exact g
   ·exfalso
    have:=zkr _ _ g
    rw [this,hy] at h1;cases h1
  obtain ⟨i,hi,g1,g2⟩:=yacl hr hy hlt
  show nv (zgm v x k)≤nv y
  rcases Nat.lt_trichotomy i k with g | g | g
  ·rw [h3 i g] at g1;cases g1
  ·rw [← g];exact g2
  ·exact Int.le_trans (yasz hr g hi g1) g2
 ·rw [h3] at h;cases h
theorem zpm {v m:BitVec 64} (hr:RtB v m) {x:BitVec 64} (h:(zbr v m x).2=false) (y:BitVec 64) (hy:hasB v m y=true):nv y<nv x:=by
 rcases zje hr x with ⟨h1,h2⟩ | ⟨h1,k,hk,h2,h3,h4⟩ | ⟨h1,h2,h3⟩
 ·rw [h2] at h;cases h
 ·rw [h4] at h;cases h
 ·by_cases hlt:nv x<nv y
  ·obtain ⟨i,hi,g1,_⟩:=yacl hr hy hlt
   rw [h2 i hi] at g1;cases g1
  ·by_cases e:nv x=nv y
   ·have:=zkr _ _ e
    rw [this,hy] at h1;cases h1
   ·omega
theorem zly {v m:BitVec 64} (hr:RtB v m) {x:BitVec 64} (h:(zcg v m x).2=true):hasB v m (zcg v m x).1=true∧nv (zcg v m x).1≤nv x∧∀ y,hasB v m y=true→nv y≤nv x→nv y≤nv (zcg v m x).1:=by
 unfold zcg at h ⊢
 cases hl:(zbr (turn v m) m (bnot x)).2
 ·rw [hl] at h;simp at h
 ·obtain ⟨h1,h2,h3⟩:=zi7 (zrw v m) hl
  simp only [if_pos]
  refine ⟨?_,?_,fun y hy hle=>?_⟩
  ·rw [← zi4 hr,not_not];exact h1
  ·rw [zps] at h2 ⊢;omega
  ·have:=h3 (bnot y) (by rw [zi4 hr];exact hy) (by rw [zps,zps];omega)
   rw [zps] at this ⊢;omega
theorem yafm {v m:BitVec 64} (hr:RtB v m) {x:BitVec 64} (h:(zcg v m x).2=false) (y:BitVec 64) (hy:hasB v m y=true):nv x<nv y:=by
 unfold zcg at h
 cases hl:(zbr (turn v m) m (bnot x)).2
 ·have:=zpm (zrw v m) hl (bnot y) (by rw [zi4 hr];exact hy)
  rw [zps,zps] at this;omega
 ·rw [hl] at h;simp at h
def nLo (v m l:BitVec 64):BitVec 64:=(zbr v m l).1
def nHi (v m h:BitVec 64):BitVec 64:=(zcg v m h).1
def zc6 (v m l h:BitVec 64):Bool:=(zbr v m l).2&&((zcg v m h).2&&decide (nv (nLo v m l)≤nv (nHi v m h)))
def spV (l h:BitVec 64):BitVec 64:=bandn l (sM l h)
def nV (v m l h:BitVec 64):BitVec 64:=bor v (spV (nLo v m l) (nHi v m h))
def nM (m l h:BitVec 64):BitVec 64:=band m (sM l h)
def valB (v m l h:BitVec 64):Bool:=hasB v m l&&(hasB v m h&&(decide (nv l≤nv h)&&insB v m (spV l h) (sM l h)))
theorem zm5 (l h:BitVec 64) (j:Nat) (hj:j<64):bit (sM l h) j=false↔∀ i,j≤i→bit l i=bit h i:=by
 unfold sM
 rw [zd2 _ _ (zni _) hj,decide_eq_false_iff_not,Nat.not_lt,zfo _ _ (by omega)]
 constructor
 ·intro h1 i hi
  have:=h1 i hi
  rw [zbk] at this
  revert this
  cases bit l i <;> cases bit h i <;> simp
 ·intro h1 i hi
  rw [zbk,h1 i hi];simp
theorem zes (l h:BitVec 64):RtB (spV l h) (sM l h):=by
 intro j
 by_cases hj:j<64
 ·unfold spV;rw [zas _ _ _ hj];cases bit l j <;> cases bit (sM l h) j <;> rfl
 ·rw [zba _ _ (by omega)];rfl
theorem zf9 {l h x:BitVec 64} (h1:nv l≤nv x) (h2:nv x≤nv h):hasB (spV l h) (sM l h) x=true:=by
 rw [za0]
 refine ⟨zes l h,fun j hj=>?_⟩
 unfold spV
 rw [zas _ _ _ hj]
 cases hs:bit (sM l h) j
 ·have hlh:=(zm5 l h j hj).1 hs
  have hx:∀ i,j≤i→bit x i=bit l i:=by
   intro i hi
   by_cases hlt:nv l<nv x
   ·obtain ⟨a,ha,g1,g2,g3⟩:=zki hlt
    by_cases hai:a<i
    ·by_cases h64:i<64
     ·exact (g3 i hai h64).symm
     ·rw [zba _ _ (by omega),zba _ _ (by omega)]
    ·exfalso
     -- x is above h then
     have:nv h<nv x:=by
      refine zeo a ?_ g2 fun b hb hb2=>?_
      ·rw [← hlh a (by omega)];exact g1
      ·rw [← hlh b (by omega)];exact g3 b hb hb2
     omega
   ·have:nv l=nv x:=by omega
    rw [zkr _ _ this]
  rw [hx j (Nat.le_refl _)]
 ·simp
theorem zol {v m l h x:BitVec 64} (hr:RtB v m) (hx:hasB v m x=true) (h1:nv l≤nv x) (h2:nv x≤nv h):eqb (bandn (bxor v (spV l h)) (bor m (sM l h))) zero=true:=by
 have:=zqg (x:=x) hr (zes l h)
 rw [hx,zf9 h1 h2] at this
 revert this
 cases eqb (bandn (bxor v (spV l h)) (bor m (sM l h))) zero <;> simp
theorem yaj6 {v m l h:BitVec 64} (hr:RtB v m) (h1:hasB v m l=true) (h2:hasB v m h=true):zbr v m l=(l,true)∧zcg v m h=(h,true):=by
 constructor
 ·rcases zje hr l with ⟨_,g⟩ | ⟨g,_⟩ | ⟨g,_⟩
  ·exact g
  ·rw [h1] at g;cases g
  ·rw [h1] at g;cases g
 ·rcases yab1 hr h with ⟨_,g⟩ | ⟨g,_⟩ | ⟨g,_⟩
  ·exact g
  ·rw [h2] at g;cases g
  ·rw [h2] at g;cases g
def zrd (v m l h:BitVec 64):Bool:=eqb (nV v m l h) v&&(eqb (nM m (nLo v m l) (nHi v m h)) m&&(eqb (nLo v m l) l&&eqb (nHi v m h) h))
theorem yart {v m:BitVec 64} (hr:RtB v m) (l h:BitVec 64):valB v m l h=(zc6 v m l h&&zrd v m l h):=by
 have key:∀ (_:hasB v m l=true),(insB v m (spV l h) (sM l h)=true↔eqb (bor v (spV l h)) v=true∧eqb (nM m l h) m=true):=by
  intro hl
  have hin:=((za0 v m l).1 hl).2
  rw [zmy,zdl,zdl]
  constructor
  ·rintro ⟨_,_,g⟩
   constructor
   ·apply bext;intro j hj
    rw [zaq,← (g j hj).2]
    cases bit v j <;> cases bit (sM l h) j <;> rfl
   ·apply bext;intro j hj
    unfold nM
    rw [zaz]
    have:=(g j hj).1
    revert this
    cases bit m j <;> cases bit (sM l h) j <;> simp
  ·rintro ⟨g1,g2⟩
   refine ⟨hr,zes l h,fun j hj=>⟨?_,?_⟩⟩
   ·have:bit (nM m l h) j=bit m j:=by rw [g2]
    unfold nM at this
    rw [zaz] at this
    revert this
    cases bit m j <;> cases bit (sM l h) j <;> simp
   ·have h3:bit (bor v (spV l h)) j=bit v j:=by rw [g1]
    rw [zaq] at h3
    have h4:=hin j hj
    have h5:bit (spV l h) j=(bit l j&&!bit (sM l h) j):=by unfold spV;rw [zas _ _ _ hj]
    rw [h5] at h3 ⊢
    revert h3 h4
    cases bit v j <;> cases bit (sM l h) j <;> cases bit l j <;> cases bit m j <;> simp
 rw [Bool.eq_iff_iff]
 unfold valB zc6 zrd
 simp only [Bool.and_eq_true,decide_eq_true_eq]
 constructor
 ·rintro ⟨h1,h2,h3,h4⟩
  obtain ⟨e1,e2⟩:=yaj6 hr h1 h2
  have a1:nLo v m l=l:=by unfold nLo;rw [e1]
  have a2:nHi v m h=h:=by unfold nHi;rw [e2]
  have a3:nV v m l h=bor v (spV l h):=by unfold nV;rw [a1,a2]
  rw [a3,a1,a2,e1,e2]
  have:=(key h1).1 h4
  exact ⟨⟨rfl,rfl,h3⟩,this.1,this.2,ziv l,ziv h⟩
 ·rintro ⟨⟨h1,h2,h3⟩,h4,h5,h6,h7⟩
  have a1:nLo v m l=l:=(zdl _ _).1 h6
  have a2:nHi v m h=h:=(zdl _ _).1 h7
  have b1:=(zi7 hr h1).1
  have b2:=(zly hr h2).1
  have b1':hasB v m (nLo v m l)=true:=b1
  have b2':hasB v m (nHi v m h)=true:=b2
  rw [a1] at b1'
  rw [a2] at b2'
  have a3:nV v m l h=bor v (spV l h):=by unfold nV;rw [a1,a2]
  rw [a3] at h4
  rw [a1,a2] at h5 h3
  exact ⟨b1',b2',h3,(key b1').2 ⟨h4,h5⟩⟩
end Go.Proofs.YtkigmocchaikgabGreatDoor
