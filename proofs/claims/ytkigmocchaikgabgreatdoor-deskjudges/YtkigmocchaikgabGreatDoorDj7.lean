import Derived.Test.YtkigmocchaikgabGreatDoorDj6
import Derived.Test.YtkigmocchaikgabGreatDoorDj5
import Derived.Test.YtkigmocchaikgabGreatDoorProg
/- The contracts of the reference's small functions, of CheckCode, CheckMachine, StartOf and uses. -/
namespace Go.Proofs.YtkigmocchaikgabGreatDoor
open Go.RowKit
theorem zao (op:Int):Ok 34 [.c (.i op)] (.c (.b (op==13||op==14))):=by
 apply zoe <;> (intros;simp_all)
theorem zgh (op:Int):Ok 75 [.c (.i op)] (.c (.b (op==10||op==11))):=by
 apply zor <;> (intros;simp_all)
theorem zb8 (a lo hi:Int):Ok 35 [.c (.i a),.c (.i lo),.c (.i hi)] (.c (.b (decide (lo≤a)&&decide (a≤hi)))):=by
 apply zsa <;> (intro h;rw [h];rfl)
theorem zdr (op:Int):Ok 38 [.c (.i op)] (.c (.b (decide (1≤op)&&decide (op≤9)))):=zq2 (zb8 _ _ _)
theorem yaeq (d:Int):(decide (0≤d)&&decide (d≤5))=regB d:=by
 unfold regB
 congr 1
 exact decide_eq_decide.2 (by omega)
theorem yajx (d:Int):Ok 122 [.c (.i d)] (.c (.b (regB d))):=by
 rw [← yaeq]
 exact yakp (zb8 _ _ _)
theorem yast {i:Ins} {q:Int} (h:1≤i.op∧i.op≤9):inB i q=(regB i.d&&srcB i.s):=by
 unfold inB
 rw [if_neg (by omega),if_neg (by omega),if_neg (by omega),if_neg (by omega)]
theorem yahg {i:Ins} (h:1≤i.op∧i.op≤9):zbc i=(decide (i.of=0)&&(decide (i.s=-1)||eqb i.im 0#64)):=by
 unfold zbc
 rw [if_neg (by omega),if_neg (by omega),if_neg (by omega),if_neg (by omega)]
theorem zk1 {i:Ins} (q:Int) (hk:zcl i=true):Ok 71 [.ag i.cs,.c (.i q)] (.c (.b (inB i (q+1)))):=by
 have hw:(decide (i.of<q+1))=decide (i.of≤q):=decide_eq_decide.2 (by omega)
 have hr:=kind_iff.1 hk
 have hc:(1≤i.op∧i.op≤9)∨i.op=10∨i.op=11∨i.op=12∨i.op=13∨i.op=14∨i.op=15:=by omega
 apply zrc
 all_goals intros
 all_goals repeat' apply And.intro
 all_goals first
  | exact yajx _
  | exact zao _
  | exact zgh _
  | exact zdr _
  | exact zb8 _ _ _
  | skip
 all_goals (refine congrArg (fun b=>AV.c (AC.b b)) ?_)
 all_goals
  rcases hc with hc | hc | hc | hc | hc | hc | hc
  ·rw [yast hc]
   simp_all [srcB]
   try first | rfl | omega
  all_goals (simp_all [inB,srcB,zch,zc6];try first | rfl | omega)
theorem zkw {i:Ins} (hk:zcl i=true):Ok 72 [.ag i.cs] (.c (.b (zbc i))):=by
 have hr:=kind_iff.1 hk
 have hc:(1≤i.op∧i.op≤9)∨i.op=10∨i.op=11∨i.op=12∨i.op=13∨i.op=14∨i.op=15:=by omega
 apply zr0
 all_goals intros
 all_goals repeat' apply And.intro
 all_goals first
  | exact zao _
  | exact zdr _
  | skip
 all_goals (refine congrArg (fun b=>AV.c (AC.b b)) ?_)
 all_goals
  rcases hc with hc | hc | hc | hc | hc | hc | hc
  ·rw [yahg hc]
   simp_all
   try omega
  all_goals (simp_all [zbc,eqCs,eqC,splice,Ins.cs,Bool.and_assoc];try rfl;try omega)
section
variable {L:List Ins} {c:Nat} {w:World} {β:Bs} {E:Eff}
abbrev rcKn (L:List Ins) (c a:Nat) (j:Int):Kn:=⟨[(0,.c (.sl 0 0 L.length c)),(a,.c (.i j))],pH L,1⟩
theorem yaqb {j:Nat} (h:j<L.length):(pcell L)[0+Int.toNat (j:Int)*5+0]?=some (.i (elt L j).op):=by
 have h1:=yaal (L:=L) (k:=j) h (.b false)
 have h2:j*5<(pcell L).length:=by rw [zat];omega
 rw [List.getD_eq_getElem?_getD,List.getElem?_eq_getElem h2] at h1
 rw [show 0+Int.toNat (j:Int)*5+0=j*5 by omega,List.getElem?_eq_getElem h2]
 exact congrArg some h1
theorem yaan (hL:L.length≤64):∀ n j:Nat,j+n=L.length→((L.drop j).all zcl=false→⟨.c (.i 4),[],none⟩=E) →
  ((L.drop j).all zcl=true→ART Tryz.prog 29 (cx w β 1 []) Tryz.f29.ntmps (zdk Tryz.f29 1) (rcKn L c 4 0) (REff w β E)) →
  ART Tryz.prog 29 (cx w β 1 []) Tryz.f29.ntmps (zdk Tryz.f29 0) (rcKn L c 3 j) (REff w β E)
 | 0,j,h,hy,hz=>by
  refine yate (by rw [jn (by omega)];rfl) (zle rfl) (fun _ h=>h) (hz ?_)
  rw [List.drop_eq_nil_of_le (by omega)];rfl
 | n+1,j,h,hy,hz=>by
  have hj:j<L.length:=by omega
  rw [zhl hj,List.all_cons] at hy hz
  have o2:(AC.isI (Option.getD (pcell L)[0+Int.toNat (j:Int)*5+0]? (AC.b false))&&Nat.blt (0+Int.toNat (j:Int)*5+0) (pcell L).length)=true:=by
   rw [yaqb hj,zat];simp [AC.isI];omega
  have c0:Eff.mk (AV.c (AC.i (AC.asI (Option.getD (pcell L)[0+Int.toNat (j:Int)*5+0]? (AC.b false))))) [] none=Eff.mk (AV.c (AC.i (elt L j).op)) [] none:=by rw [yaqb hj];rfl
  refine yarr (by omega) (fun a=>⟨jl hj,jl hj,o2,c0,zb8 _ _ _,hy ?_⟩) (fun a=>⟨jl hj,jl hj,o2,c0,zb8 _ _ _,zle rfl,?_⟩)
  ·have:zcl (elt L j)=false:=by simp at a;simp [zcl];omega
   rw [this];rfl
  ·have:zcl (elt L j)=true:=by simpa [zcl] using a
   rw [this] at hy hz
   rw [zhz (by omega)]
   exact yaan hL n (j+1) (by omega) (fun h=>hy h) (fun h=>hz h)
theorem zz8 (hL:L.length≤64) (hK:L.all zcl=true):∀ n j:Nat,j+n=L.length→(zfq (L.drop j)=false→⟨.c (.i 3),[],none⟩=E) →
  (zfq (L.drop j)=true→ART Tryz.prog 29 (cx w β 1 []) Tryz.f29.ntmps (zdk Tryz.f29 2) (rcKn L c 5 0) (REff w β E)) →
  ART Tryz.prog 29 (cx w β 1 []) Tryz.f29.ntmps (zdk Tryz.f29 1) (rcKn L c 4 j) (REff w β E)
 | 0,j,h,hy,hz=>by
  refine yat6 (by rw [jn (by omega)];rfl) (zle rfl) (fun _ h=>h) (hz ?_)
  rw [List.drop_eq_nil_of_le (by omega)];rfl
 | n+1,j,h,hy,hz=>by
  have hj:j<L.length:=by omega
  have el:((L.drop (j+1)).length:Int)=((L.length - 1 - j:Nat):Int):=by rw [List.length_drop];omega
  rw [zhl hj,zfq,el] at hy hz
  have hk:zcl (elt L j)=true:=yaak hK hj
  have ew:IntKind.wrap IntKind.i64 (IntKind.wrap IntKind.i64 ((L.length:Int) - 2) - (j:Int))=((L.length - 1 - j:Nat):Int) - 1:=by
   rw [zfp (n:=(L.length:Int) - 2) (by omega) (by omega),zfp (by omega) (by omega)];omega
  have c1:Eff.mk (AV.c (AC.i (IntKind.wrap IntKind.i64 (IntKind.wrap IntKind.i64 ((L.length:Int) - 2) - (j:Int))))) [] none=Eff.mk (AV.c (AC.i (((L.length - 1 - j:Nat):Int) - 1))) [] none:=by rw [ew]
  have c2:Eff.mk (AV.c (AC.b (inB (elt L j) (((L.length - 1 - j:Nat):Int) - 1+1)))) [] none=Eff.mk (AV.c (AC.b (inB (elt L j) ((L.length - 1 - j:Nat):Int)))) [] none:=by
   rw [show ((L.length - 1 - j:Nat):Int) - 1+1=((L.length - 1 - j:Nat):Int) by omega]
  refine yau9 (by omega) (fun a=>⟨jl hj,jl hj,pble hj,zdj hj,c1,c2,zk1 _ hk,hy ?_⟩) (fun a=>⟨jl hj,jl hj,pble hj,zdj hj,c1,c2,zk1 _ hk,zle rfl,?_⟩)
  ·have:inB (elt L j) ((L.length - 1 - j:Nat):Int)=false:=by simpa using a
   rw [this];rfl
  ·have:inB (elt L j) ((L.length - 1 - j:Nat):Int)=true:=by simpa using a
   rw [this] at hy hz
   rw [zhz (by omega)]
   exact zz8 hL hK n (j+1) (by omega) (fun h=>hy h) (fun h=>hz h)
theorem yacf (h0:0<L.length) (hL:L.length≤64) (hK:L.all zcl=true):∀ n j:Nat,j+n=L.length→((L.drop j).all zbc=false→⟨.c (.i 1),[],none⟩=E) →
  ((L.drop j).all zbc=true→⟨.c (.i (if zb3 L≠15 then 1 else 0)),[],none⟩=E) →
  ART Tryz.prog 29 (cx w β 1 []) Tryz.f29.ntmps (zdk Tryz.f29 2) (rcKn L c 5 j) (REff w β E)
 | 0,j,h,hy,hz=>by
  have hz:=hz (by rw [List.drop_eq_nil_of_le (by omega)];rfl)
  have o0:(!decide ((j:Int)<(L.length:Int)))=true:=by rw [jn (by omega)];rfl
  have o1:(decide (0≤IntKind.wrap IntKind.i64 ((L.length:Int) - 1))&&decide (IntKind.wrap IntKind.i64 ((L.length:Int) - 1)<(L.length:Int)))=true:=by
   rw [zfp (by omega) (by omega)];simp;omega
  have o2:(AC.isI (Option.getD (pcell L)[0+Int.toNat (IntKind.wrap IntKind.i64 ((L.length:Int) - 1))*5+0]? (AC.b false))&&Nat.blt (0+Int.toNat (IntKind.wrap IntKind.i64 ((L.length:Int) - 1))*5+0) (pcell L).length)=true:=by
   rw [zht h0 hL,zfp (by omega) (by omega),zat];simp [AC.isI];omega
  have c0:Eff.mk (AV.c (AC.i (AC.asI (Option.getD (pcell L)[0+Int.toNat (IntKind.wrap IntKind.i64 ((L.length:Int) - 1))*5+0]? (AC.b false))))) [] none=Eff.mk (AV.c (AC.i (zb3 L))) [] none:=by rw [zht h0 hL];rfl
  refine yamv (fun a=>⟨o0,o1,o2,c0,?_⟩) (fun a=>⟨o0,o1,o2,c0,?_⟩)
  ·rw [← hz,if_pos (by simpa using a)]
  ·rw [← hz,if_neg (by simpa using a)]
 | n+1,j,h,hy,hz=>by
  have hj:j<L.length:=by omega
  have hk:zcl (elt L j)=true:=yaak hK hj
  rw [zhl hj,List.all_cons] at hy hz
  refine yasl (by omega) (fun a=>⟨jl hj,jl hj,pble hj,zdj hj,zkw hk,hy ?_⟩) (fun a=>⟨jl hj,jl hj,pble hj,zdj hj,zkw hk,zle rfl,?_⟩)
  ·have:zbc (elt L j)=false:=by simpa using a
   rw [this];rfl
  ·have:zbc (elt L j)=true:=by simpa using a
   rw [this] at hy hz
   rw [zhz (by omega)]
   exact yacf h0 hL hK n (j+1) (by omega) (fun h=>hy h) (fun h=>hz h)
end
theorem zuo (L:List Ins) (c:Nat):CallOK Tryz.prog ⟨29,[.c (.sl 0 0 L.length c)],pH L,⟨.c (.i (zan L)),[],none⟩⟩:=by
 refine zg8 Tryz.func29 rfl rfl (zqo rfl) rfl ro_p fun w β=>?_
 refine yalj (Nat.le_refl 1) (fun a=>⟨zb8 _ _ _,?_⟩) (fun a=>⟨zb8 _ _ _,zle rfl,?_⟩)
 ·unfold zan
  rw [if_pos (by simp at a;omega)]
 ·have h:1≤(L.length:Int)∧(L.length:Int)≤64:=by simpa using a
  have h0:0<L.length:=by omega
  have h1:L.length≤64:=by omega
  unfold zan
  rw [if_neg (by omega)]
  refine yaan h1 L.length 0 (by omega) (fun h=>?_) (fun h=>?_)
  ·rw [if_pos (by simpa using h)]
  ·have hK:L.all zcl=true:=by simpa using h
   rw [if_neg (by simpa using h)]
   refine zz8 h1 hK L.length 0 (by omega) (fun h=>?_) (fun h=>?_)
   ·rw [if_pos (by simpa using h)]
   ·rw [if_neg (by simpa using h)]
    refine yacf h0 h1 hK L.length 0 (by omega) (fun h=>?_) (fun h=>?_)
    ·rw [if_pos (by simpa using h)]
    ·have e:¬ (L.all zbc=false):=by simpa using h
     rw [if_neg e]
theorem zqr:Ok 29 [.c zco] (.c (.i (zan []))):=yanv (zb8 _ _ _)
theorem zhj {op d s of:Int} {im:BitVec 64} (K:Nat) (h:(2≤op∧op≤9)∨op=11∨op=13∨op=14) (hs:s≠-1) :
  CallOK Tryz.prog ⟨37,[.ag (Ins.mk op d s im of).cs],[],⟨.c (.sx K 2),[],some (K,⟨true,[.i d,.i s],1⟩)⟩⟩:=by
 have b:(s != -1)=true:=by simpa using hs
 have key:CallOK Tryz.prog ⟨37,[.ag (Ins.mk op d s im of).cs],[],⟨.c (.sx 44 2),[],some (44,⟨true,[.i d,.i s],1⟩)⟩⟩:=by
  refine zks Tryz.func37 rfl rfl rfl rfl rfl fun w β hk=>?_
  rcases h with h | h | h | h
  ·exact zwb (by simp [b];omega) hk
  ·exact zwb (by simp [b];omega) hk
  ·subst h;exact zy5 (by rw [b];rfl) (zao 13) (zao 13) hk
  ·subst h;exact zy4 (by rw [b];rfl) (zao 14) (zao 14) hk
 exact key.ren (swp 44 K) (zbm 44 K)
theorem zlk {op d of:Int} {im:BitVec 64} (K:Nat) (h:(2≤op∧op≤9)∨op=13∨op=14) :
  CallOK Tryz.prog ⟨37,[.ag (Ins.mk op d (-1) im of).cs],[],⟨.c (.sx K 1),[],some (K,⟨true,[.i d],1⟩)⟩⟩:=by
 have key:CallOK Tryz.prog ⟨37,[.ag (Ins.mk op d (-1) im of).cs],[],⟨.c (.sx 25 1),[],some (25,⟨true,[.i d],1⟩)⟩⟩:=by
  refine zks Tryz.func37 rfl rfl rfl rfl rfl fun w β hk=>?_
  rcases h with h | h | h
  ·exact yai4 (by simp;omega) hk
  ·subst h;exact zx4 rfl (zao 13) (zao 13) hk
  ·subst h;exact zzn rfl (zao 14) (zao 14) hk
 exact key.ren (swp 25 K) (zbm 25 K)
theorem zlr {op d s of:Int} {im:BitVec 64} (K:Nat) (h:op=1∨op=10) (hs:s≠-1) :
  CallOK Tryz.prog ⟨37,[.ag (Ins.mk op d s im of).cs],[],⟨.c (.sx K 1),[],some (K,⟨true,[.i s],1⟩)⟩⟩:=by
 have b:(s != -1)=true:=by simpa using hs
 have key:CallOK Tryz.prog ⟨37,[.ag (Ins.mk op d s im of).cs],[],⟨.c (.sx 38 1),[],some (38,⟨true,[.i s],1⟩)⟩⟩:=by
  refine zks Tryz.func37 rfl rfl rfl rfl rfl fun w β hk=>?_
  rcases h with h | h
  ·subst h;exact yadx (by rw [b];rfl) (zao 1) hk
  ·subst h;exact zxg (by rw [b];rfl) (zao 10) hk
 exact key.ren (swp 38 K) (zbm 38 K)
theorem yaay {d of:Int} {im:BitVec 64}:Ok 37 [.ag (Ins.mk 1 d (-1) im of).cs] (.c zco):=yac8 rfl (zao 1)
theorem zq0 {d s of:Int} {im:BitVec 64}:Ok 37 [.ag (Ins.mk 12 d s im of).cs] (.c zco):=yajc (zao 12) (zao 12)
theorem yab3 {d s of:Int} {im:BitVec 64} (K:Nat):CallOK Tryz.prog ⟨37,[.ag (Ins.mk 15 d s im of).cs],[],⟨.c (.sx K 1),[],some (K,⟨true,[.i 0],1⟩)⟩⟩:=by
 have key:CallOK Tryz.prog ⟨37,[.ag (Ins.mk 15 d s im of).cs],[],⟨.c (.sx 39 1),[],some (39,⟨true,[.i 0],1⟩)⟩⟩ :=
  zks Tryz.func37 rfl rfl rfl rfl rfl fun w β hk=>yak4 (zao 15) (zao 15) hk
 exact key.ren (swp 39 K) (zbm 39 K)
end Go.Proofs.YtkigmocchaikgabGreatDoor
namespace Go.Proofs.YtkigmocchaikgabGreatDoor
abbrev E5:List AC:=[.s ⟨#[]⟩,.s ⟨#[]⟩,.s ⟨#[]⟩,.s ⟨#[]⟩,.s ⟨#[]⟩]
end Go.Proofs.YtkigmocchaikgabGreatDoor
namespace Go.Proofs.YtkigmocchaikgabGreatDoor
open Go.RowKit
section
abbrev guYK (r j:Nat) (o:Int) (D:List AC):Kn:=⟨[(2,.c (.w 0)),(3,.c (.sx 4 (r+5))),(4,.c (.w 6)),(5,.c (.i (j:Int)))],[(0,Ent.mk true i0.cs 0),(4,Ent.mk true D 1),(6,Ent.mk true [.i o,.i 0,.i 0,.u 0#64,.i 0] 0)],8⟩
variable {t m u w1 w2 w3 w4:ByteArray} {r j n:Nat} {D A:List AC} {C:Cx} {R:Ending→World→Prop} {o d s2 f:Int} {i:Ins} {w:World} {β:Bs} {x:BitVec 64}
theorem yan3 (h:(Nat.beq (r*1) D.length&&decide (r+5≤137438953472)&&Nat.blt 0 r&&true)=true) (c0:CO 27 [.c (.s t),.c (.y 32#8),.c (.i 6)] [] (Eff.mk (.c (.sx 2 r)) [] (some (2,Ent.mk true D 1)))) (c1:Eff.mk (.c (.sx 4 (r+5))) [(2,[])] (some (0+1+3,Ent.mk true (D++((splice (splice (splice (splice (splice (rows 5 [.s (ByteArray.mk #[])]) 0 [.s (ByteArray.mk #[])]) 1 [.s (ByteArray.mk #[])]) 2 [.s (ByteArray.mk #[])]) 3 [.s (ByteArray.mk #[])]) 4 [.s (ByteArray.mk #[])]).drop 0).take 5) 1))=Eff.mk (.c (.sx 4 (r+5))) [(2,[])] (some (4,Ent.mk true (D++E5) 1))) (lo:Kn.Low ⟨[(2,.c (.w 0)),(3,.c (.sx 4 (r+5))),(4,.c (.w 6)),(5,.c (.i 1))],[(0,Ent.mk true [.i 0,.i 0,.i 0,.u 0#64,.i 0] 0),(4,Ent.mk true (D++E5) 1),(6,Ent.mk true [.i 0,.i 0,.i 0,.u 0#64,.i 0] 0)],8⟩) (hF:∀ k,C.F k→k<8) (z:AR 28 Tryz.f28 C 0 ⟨[(2,.c (.w 0)),(3,.c (.sx 4 (r+5))),(4,.c (.w 6)),(5,.c (.i 1))],[(0,Ent.mk true [.i 0,.i 0,.i 0,.u 0#64,.i 0] 0),(4,Ent.mk true (D++E5) 1),(6,Ent.mk true [.i 0,.i 0,.i 0,.u 0#64,.i 0] 0)],8⟩ R) :
  BO 28 Tryz.f28 C [.c (.s t)] [] 0 R :=
 zai [] ([true]) [(1,3)] Tryz.func28 (by kernel_rfl) h (zab c0 (zac c1 zae)) lo hF z
theorem yazp (h:(decide ((j:Int)<16)&&(decide ((j:Int)<16)&&(AC.isS (A[0+(j:Int).toNat*1]?.getD (.b false))&&Nat.blt (0+(j:Int).toNat*1) A.length&&(decide (0<(↑(r+5):Int))&&(AC.isS (D[0]?.getD (.b false))&&Nat.blt 0 D.length&&(ByteArray.toList m==ByteArray.toList u&&true))))))=true) (c0:CO 66 [] [] (Eff.mk (.c (.sl 9 0 16 16)) [] (some (9,Ent.mk true A 0)))) (c1:CO 66 [] [] (Eff.mk (.c (.sl 12 0 16 16)) [] (some (12,Ent.mk true A 0)))) (c2:pe (.c (.s (AC.asS (A[0+(j:Int).toNat*1]?.getD (.b false)))))=pe (.c (.s m))) (c3:pe (.c (.s (AC.asS (D[0]?.getD (.b false)))))=pe (.c (.s u))) (c4:pe (.c (.i (IntKind.i64.wrap ((j:Int)+1))))=pe (.c (.i (↑(j+1):Int)))) (lo:Kn.Low (guYK r (j+1) (j:Int) D)) (hF:∀ k,C.F k→k<8) (z:AR 28 Tryz.f28 C 0 (guYK r (j+1) (j:Int) D) R) :
  AR 28 Tryz.f28 C 0 (guYK r j o D) R :=
 zai [true,true] ([true]) [(6,3),(6,6),(5,1)] Tryz.func28 (by kernel_rfl) h (zab c0 (zab c1 (zac c2 (zac c3 (zac c4 zae))))) lo hF z
theorem yaz1 (h:(decide ((j:Int)<16)&&(decide ((j:Int)<16)&&(AC.isS (A[0+(j:Int).toNat*1]?.getD (.b false))&&Nat.blt (0+(j:Int).toNat*1) A.length&&(decide (0<(↑(r+5):Int))&&(AC.isS (D[0]?.getD (.b false))&&Nat.blt 0 D.length&&(!ByteArray.toList m==ByteArray.toList u&&true))))))=true) (c0:CO 66 [] [] (Eff.mk (.c (.sl 9 0 16 16)) [] (some (9,Ent.mk true A 0)))) (c1:CO 66 [] [] (Eff.mk (.c (.sl 12 0 16 16)) [] (some (12,Ent.mk true A 0)))) (c2:pe (.c (.s (AC.asS (A[0+(j:Int).toNat*1]?.getD (.b false)))))=pe (.c (.s m))) (c3:pe (.c (.s (AC.asS (D[0]?.getD (.b false)))))=pe (.c (.s u))) (c4:pe (.c (.i (IntKind.i64.wrap ((j:Int)+1))))=pe (.c (.i (↑(j+1):Int)))) (lo:Kn.Low (guYK r (j+1) o D)) (hF:∀ k,C.F k→k<8) (z:AR 28 Tryz.f28 C 0 (guYK r (j+1) o D) R) :
  AR 28 Tryz.f28 C 0 (guYK r j o D) R :=
 zai [true,false] ([true]) [(6,3),(6,6),(5,1)] Tryz.func28 (by kernel_rfl) h (zab c0 (zab c1 (zac c2 (zac c3 (zac c4 zae))))) lo hF z
theorem yazr (h:(!decide ((j:Int)<16)&&(decide (1<(↑(r+5):Int))&&(AC.isS (D[1]?.getD (.b false))&&Nat.blt 1 D.length&&(decide (2<(↑(r+5):Int))&&(AC.isS (D[2]?.getD (.b false))&&Nat.blt 2 D.length&&true)))))=true) (c0:CO 66 [] [] (Eff.mk (.c (.sl 9 0 16 16)) [] (some (9,Ent.mk true A 0)))) (c1:Ok 38 [.c (.i o)] (.c (.b true))) (c2:pe (.c (.s (AC.asS (D[1]?.getD (.b false)))))=pe (.c (.s w1))) (c3:Ok 68 [.c (.s w1)] (.c (.i d))) (c4:pe (.c (.s (AC.asS (D[2]?.getD (.b false)))))=pe (.c (.s w2))) (c5:CO 67 [.c (.s w2),.c (.w 6)] [(6,Ent.mk true [.i o,.i d,.i 0,.u 0#64,.i 0] 0)] (Eff.mk (.tu []) [(6,i.cs)] none)) :
  AR 28 Tryz.f28 (cx w β n []) 0 (guYK r j o D) (REff w β ⟨.ag i.cs,[],none⟩) :=
 zah [] none [false,true] ([true]) [(10,2),(11,3)] Tryz.func28 (zau rfl n) (by kernel_rfl) h (zab c0 (zab c1 (zac c2 (zab c3 (zac c4 (zab c5 zae))))))
theorem yaz3 (h:(!decide ((j:Int)<16)&&(o==10&&(decide (1<(↑(r+5):Int))&&(AC.isS (D[1]?.getD (.b false))&&Nat.blt 1 D.length&&(decide (2<(↑(r+5):Int))&&(AC.isS (D[2]?.getD (.b false))&&Nat.blt 2 D.length&&(decide (3<(↑(r+5):Int))&&(AC.isS (D[3]?.getD (.b false))&&Nat.blt 3 D.length&&(decide (4<(↑(r+5):Int))&&(AC.isS (D[4]?.getD (.b false))&&Nat.blt 4 D.length&&true))))))))))=true) (c0:CO 66 [] [] (Eff.mk (.c (.sl 9 0 16 16)) [] (some (9,Ent.mk true A 0)))) (c1:Ok 38 [.c (.i o)] (.c (.b false))) (c2:pe (.c (.s (AC.asS (D[1]?.getD (.b false)))))=pe (.c (.s w1))) (c3:Ok 69 [.c (.s w1)] (.c (.u x))) (c4:pe (.c (.s (AC.asS (D[2]?.getD (.b false)))))=pe (.c (.s w2))) (c5:Ok 68 [.c (.s w2)] (.c (.i d))) (c6:pe (.c (.s (AC.asS (D[3]?.getD (.b false)))))=pe (.c (.s w3))) (c7:Ok 68 [.c (.s w3)] (.c (.i s2))) (c8:pe (.c (.s (AC.asS (D[4]?.getD (.b false)))))=pe (.c (.s w4))) (c9:Ok 70 [.c (.s w4)] (.c (.i f))) :
  AR 28 Tryz.f28 (cx w β n []) 0 (guYK r j o D) (REff w β ⟨.ag [.i o,.i d,.i s2,.u x,.i f],[],none⟩) :=
 zah [] none [false,false,true] ([true]) [(13,2),(13,6),(13,10),(13,14)] Tryz.func28 (zau rfl n) (by kernel_rfl) h (zab c0 (zab c1 (zac c2 (zab c3 (zac c4 (zab c5 (zac c6 (zab c7 (zac c8 (zab c9 zae))))))))))
theorem yay1 (h:(!decide ((j:Int)<16)&&(!o==10&&(o==11&&(decide (1<(↑(r+5):Int))&&(AC.isS (D[1]?.getD (.b false))&&Nat.blt 1 D.length&&(decide (2<(↑(r+5):Int))&&(AC.isS (D[2]?.getD (.b false))&&Nat.blt 2 D.length&&(decide (3<(↑(r+5):Int))&&(AC.isS (D[3]?.getD (.b false))&&Nat.blt 3 D.length&&(decide (4<(↑(r+5):Int))&&(AC.isS (D[4]?.getD (.b false))&&Nat.blt 4 D.length&&true)))))))))))=true) (c0:CO 66 [] [] (Eff.mk (.c (.sl 9 0 16 16)) [] (some (9,Ent.mk true A 0)))) (c1:Ok 38 [.c (.i o)] (.c (.b false))) (c2:pe (.c (.s (AC.asS (D[1]?.getD (.b false)))))=pe (.c (.s w1))) (c3:Ok 69 [.c (.s w1)] (.c (.u x))) (c4:pe (.c (.s (AC.asS (D[2]?.getD (.b false)))))=pe (.c (.s w2))) (c5:Ok 68 [.c (.s w2)] (.c (.i d))) (c6:pe (.c (.s (AC.asS (D[3]?.getD (.b false)))))=pe (.c (.s w3))) (c7:Ok 70 [.c (.s w3)] (.c (.i f))) (c8:pe (.c (.s (AC.asS (D[4]?.getD (.b false)))))=pe (.c (.s w4))) (c9:Ok 68 [.c (.s w4)] (.c (.i s2))) :
  AR 28 Tryz.f28 (cx w β n []) 0 (guYK r j o D) (REff w β ⟨.ag [.i o,.i d,.i s2,.u x,.i f],[],none⟩) :=
 zah [] none [false,false,false,true] ([true]) [(15,2),(15,6),(15,10),(15,14)] Tryz.func28 (zau rfl n) (by kernel_rfl) h (zab c0 (zab c1 (zac c2 (zab c3 (zac c4 (zab c5 (zac c6 (zab c7 (zac c8 (zab c9 zae))))))))))
theorem yayy (h:(!decide ((j:Int)<16)&&(!o==10&&(!o==11&&(decide (1<(↑(r+5):Int))&&(AC.isS (D[1]?.getD (.b false))&&Nat.blt 1 D.length&&(decide (2<(↑(r+5):Int))&&(AC.isS (D[2]?.getD (.b false))&&Nat.blt 2 D.length&&(decide (3<(↑(r+5):Int))&&(AC.isS (D[3]?.getD (.b false))&&Nat.blt 3 D.length&&true)))))))))=true) (c0:CO 66 [] [] (Eff.mk (.c (.sl 9 0 16 16)) [] (some (9,Ent.mk true A 0)))) (c1:Ok 38 [.c (.i o)] (.c (.b false))) (c2:Ok 34 [.c (.i o)] (.c (.b true))) (c3:pe (.c (.s (AC.asS (D[1]?.getD (.b false)))))=pe (.c (.s w1))) (c4:Ok 68 [.c (.s w1)] (.c (.i d))) (c5:pe (.c (.s (AC.asS (D[2]?.getD (.b false)))))=pe (.c (.s w2))) (c6:CO 67 [.c (.s w2),.c (.w 6)] [(6,Ent.mk true [.i o,.i d,.i 0,.u 0#64,.i 0] 0)] (Eff.mk (.tu []) [(6,i.cs)] none)) (c7:pe (.c (.s (AC.asS (D[3]?.getD (.b false)))))=pe (.c (.s w3))) (c8:Ok 70 [.c (.s w3)] (.c (.i f))) :
  AR 28 Tryz.f28 (cx w β n []) 0 (guYK r j o D) (REff w β ⟨.ag [.i i.op,.i i.d,.i i.s,.u i.im,.i f],[],none⟩) :=
 zah [] none [false,false,false,false,true] ([true]) [(17,2),(18,3),(19,2)] Tryz.func28 (zau rfl n) (by kernel_rfl) h (zab c0 (zab c1 (zab c2 (zac c3 (zab c4 (zac c5 (zab c6 (zac c7 (zab c8 zae)))))))))
theorem yav9 (h:(!decide ((j:Int)<16)&&(!o==10&&(!o==11&&(o==12&&(decide (1<(↑(r+5):Int))&&(AC.isS (D[1]?.getD (.b false))&&Nat.blt 1 D.length&&true))))))=true) (c0:CO 66 [] [] (Eff.mk (.c (.sl 9 0 16 16)) [] (some (9,Ent.mk true A 0)))) (c1:Ok 38 [.c (.i o)] (.c (.b false))) (c2:Ok 34 [.c (.i o)] (.c (.b false))) (c3:pe (.c (.s (AC.asS (D[1]?.getD (.b false)))))=pe (.c (.s w1))) (c4:Ok 70 [.c (.s w1)] (.c (.i f))) :
  AR 28 Tryz.f28 (cx w β n []) 0 (guYK r j o D) (REff w β ⟨.ag [.i o,.i 0,.i 0,.u 0#64,.i f],[],none⟩) :=
 zah [] none [false,false,false,false,false,true] ([true]) [(21,2)] Tryz.func28 (zau rfl n) (by kernel_rfl) h (zab c0 (zab c1 (zab c2 (zac c3 (zab c4 zae)))))
theorem yaxw (h:(!decide ((j:Int)<16)&&(!o==10&&(!o==11&&(!o==12&&true))))=true) (c0:CO 66 [] [] (Eff.mk (.c (.sl 9 0 16 16)) [] (some (9,Ent.mk true A 0)))) (c1:Ok 38 [.c (.i o)] (.c (.b false))) (c2:Ok 34 [.c (.i o)] (.c (.b false))) :
  AR 28 Tryz.f28 (cx w β n []) 0 (guYK r j o D) (REff w β ⟨.ag [.i o,.i 0,.i 0,.u 0#64,.i 0],[],none⟩) :=
 zah [] none [false,false,false,false,false,false] ([true]) [] Tryz.func28 (zau rfl n) (by kernel_rfl) h (zab c0 (zab c1 (zab c2 zae)))
end
section
abbrev yaof (t:ByteArray) (r j:Nat) (D:List AC):Kn:=⟨[(0,.c (.s t)),(4,.c (.sx 6 r)),(5,.c zco),(6,.c (.i (j:Int)))],[(6,Ent.mk true D 1)],51⟩
abbrev zos (t:ByteArray) (r j:Nat) (D:List AC) (M:List Ins):Kn:=⟨[(0,.c (.s t)),(4,.c (.sx 6 r)),(5,.c (.sx 50 M.length)),(6,.c (.i (j:Int)))],[(6,Ent.mk true D 1),(50,Ent.mk true (pcell M) 5)],51⟩
variable {t x u:ByteArray} {r j n:Nat} {D:List AC} {C:Cx} {R:Ending→World→Prop} {i:Ins} {M:List Ins} {w:World} {β:Bs} {e:Int}
theorem yamj (h:(decide (4096<(↑(ByteArray.size t):Int))&&true)=true) :
  Ok 11 [.c (.s t)] (.tu [.c zco,.c (.b false)]) :=
 zaf [true] ([]) [] Tryz.func11 rfl rfl rfl rfl (by kernel_rfl) h zae
theorem yao2 (h:(!decide (4096<(↑(ByteArray.size t):Int))&&true)=true) (c0:CO 27 [.c (.s t),.c (.y 10#8),.c (.i 66)] [] (Eff.mk (.c (.sx 6 r)) [] (some (6,Ent.mk true D 1)))) (lo:Kn.Low ⟨[(0,.c (.s t)),(4,.c (.sx 6 r)),(5,.c zco),(6,.c (.i 0))],[(6,Ent.mk true D 1)],51⟩) (hF:∀ k,C.F k→k<51) (z:AR 11 Tryz.f11 C 0 ⟨[(0,.c (.s t)),(4,.c (.sx 6 r)),(5,.c zco),(6,.c (.i 0))],[(6,Ent.mk true D 1)],51⟩ R) :
  BO 11 Tryz.f11 C [.c (.s t)] [] 0 R :=
 zai [false] ([true]) [] Tryz.func11 (by kernel_rfl) h (zab c0 zae) lo hF z
theorem yark (h:(decide ((↑(j+1):Int)<(r:Int))&&(decide ((j:Int)<(r:Int))&&(AC.isS (D[(j:Int).toNat*1]?.getD (.b false))&&Nat.blt ((j:Int).toNat*1) D.length&&true)))=true) (c0:pe (.c (.i (IntKind.i64.wrap ((j:Int)+1))))=pe (.c (.i (↑(j+1):Int)))) (c1:pe (.c (.s (AC.asS (D[(j:Int).toNat*1]?.getD (.b false)))))=pe (.c (.s x))) (c2:Ok 28 [.c (.s x)] (.ag i.cs)) (c3:Eff.mk (.c (.sx 63 1)) [] (some (51+5+7,Ent.mk true i.cs 5))=Eff.mk (.c (.sx 63 1)) [] (some (63,Ent.mk true (pcell [i]) 5))) (c4:pe (.c (.i (IntKind.i64.wrap ((j:Int)+1))))=pe (.c (.i (↑(j+1):Int)))) (lo:Kn.Low ⟨[(0,.c (.s t)),(4,.c (.sx 6 r)),(5,.c (.sx 63 1)),(6,.c (.i (↑(j+1):Int)))],[(6,Ent.mk true D 1),(63,Ent.mk true (pcell [i]) 5)],64⟩) (hF:∀ k,C.F k→k<64) (z:AR 11 Tryz.f11 C 0 ⟨[(0,.c (.s t)),(4,.c (.sx 6 r)),(5,.c (.sx 63 1)),(6,.c (.i (↑(j+1):Int)))],[(6,Ent.mk true D 1),(63,Ent.mk true (pcell [i]) 5)],64⟩ R) :
  AR 11 Tryz.f11 C 0 (yaof t r j D) R :=
 zai [true] ([true]) [(6,1),(8,4),(8,7),(7,1)] Tryz.func11 (by kernel_rfl) h (zac c0 (zac c1 (zab c2 (zac c3 (zac c4 zae))))) lo hF z
theorem yavf (h:(decide ((↑(j+1):Int)<(r:Int))&&(decide ((j:Int)<(r:Int))&&(AC.isS (D[(j:Int).toNat*1]?.getD (.b false))&&Nat.blt ((j:Int).toNat*1) D.length&&(Nat.beq (M.length*5) (pcell M).length&&decide (M.length+1≤137438953472)&&Nat.blt 0 M.length&&true))))=true) (c0:pe (.c (.i (IntKind.i64.wrap ((j:Int)+1))))=pe (.c (.i (↑(j+1):Int)))) (c1:pe (.c (.s (AC.asS (D[(j:Int).toNat*1]?.getD (.b false)))))=pe (.c (.s x))) (c2:Ok 28 [.c (.s x)] (.ag i.cs)) (c3:Eff.mk (.c (.sx 63 (M.length+1))) [(50,[])] (some (51+5+7,Ent.mk true (pcell M++((splice (rows 1 [.i 0,.i 0,.i 0,.u 0#64,.i 0]) 0 i.cs).drop 0).take 5) 5))=Eff.mk (.c (.sx 63 (M.length+1))) [(50,[])] (some (63,Ent.mk true (pcell (M++[i])) 5))) (c4:pe (.c (.i (IntKind.i64.wrap ((j:Int)+1))))=pe (.c (.i (↑(j+1):Int)))) (lo:Kn.Low ⟨[(0,.c (.s t)),(4,.c (.sx 6 r)),(5,.c (.sx 63 (M.length+1))),(6,.c (.i (↑(j+1):Int)))],[(6,Ent.mk true D 1),(63,Ent.mk true (pcell (M++[i])) 5)],64⟩) (hF:∀ k,C.F k→k<64) (z:AR 11 Tryz.f11 C 0 ⟨[(0,.c (.s t)),(4,.c (.sx 6 r)),(5,.c (.sx 63 (M.length+1))),(6,.c (.i (↑(j+1):Int)))],[(6,Ent.mk true D 1),(63,Ent.mk true (pcell (M++[i])) 5)],64⟩ R) :
  AR 11 Tryz.f11 C 0 (zos t r j D M) R :=
 zai [true] ([true]) [(6,1),(8,4),(8,7),(7,1)] Tryz.func11 (by kernel_rfl) h (zac c0 (zac c1 (zab c2 (zac c3 (zac c4 zae))))) lo hF z
theorem yar8 (h:(!decide ((↑(j+1):Int)<(r:Int))&&true)=true) (c0:pe (.c (.i (IntKind.i64.wrap ((j:Int)+1))))=pe (.c (.i (↑(j+1):Int)))) (c1:Ok 29 [.c zco] (.c (.i 2))) :
  AR 11 Tryz.f11 (cx w β n []) 0 (yaof t r j D) (REff w β ⟨.tu [.c zco,.c (.b false)],[],none⟩) :=
 zah [] none [false,true,true] ([true]) [(6,1)] Tryz.func11 (zau rfl n) (by kernel_rfl) h (zac c0 (zab c1 zae))
theorem yauj (h:(!decide ((↑(j+1):Int)<(r:Int))&&(e != 0&&true))=true) (c0:pe (.c (.i (IntKind.i64.wrap ((j:Int)+1))))=pe (.c (.i (↑(j+1):Int)))) (c1:CO 29 [.c (.sx 50 M.length)] [(50,Ent.mk true (pcell M) 5)] (pe (.c (.i e)))) :
  AR 11 Tryz.f11 (cx w β n []) 0 (zos t r j D M) (REff w β ⟨.tu [.c zco,.c (.b false)],[],none⟩) :=
 zah [] none [false,true,true] ([true]) [(6,1)] Tryz.func11 (zau rfl n) (by kernel_rfl) h (zac c0 (zab c1 zae))
theorem yarg (h:(!decide ((↑(j+1):Int)<(r:Int))&&(!ByteArray.toList u==ByteArray.toList t&&true))=true) (c0:pe (.c (.i (IntKind.i64.wrap ((j:Int)+1))))=pe (.c (.i (↑(j+1):Int)))) (c1:CO 29 [.c (.sx 50 M.length)] [(50,Ent.mk true (pcell M) 5)] (pe (.c (.i 0)))) (c2:CO 14 [.c (.sx 50 M.length)] [(50,Ent.mk true (pcell M) 5)] (pe (.c (.s u)))) :
  AR 11 Tryz.f11 (cx w β n []) 0 (zos t r j D M) (REff w β ⟨.tu [.c zco,.c (.b false)],[],none⟩) :=
 zah [] none [false,false,true] ([true]) [(6,1)] Tryz.func11 (zau rfl n) (by kernel_rfl) h (zac c0 (zab c1 (zab c2 zae)))
theorem yau3 (h:(!decide ((↑(j+1):Int)<(r:Int))&&(!!ByteArray.toList u==ByteArray.toList t&&true))=true) (c0:pe (.c (.i (IntKind.i64.wrap ((j:Int)+1))))=pe (.c (.i (↑(j+1):Int)))) (c1:CO 29 [.c (.sx 50 M.length)] [(50,Ent.mk true (pcell M) 5)] (pe (.c (.i 0)))) (c2:CO 14 [.c (.sx 50 M.length)] [(50,Ent.mk true (pcell M) 5)] (pe (.c (.s u)))) (hk:EKeys n [] (some 50) ⟨.tu [.c (.sx 50 M.length),.c (.b true)],[],some (50,Ent.mk true (pcell M) 5)⟩) :
  AR 11 Tryz.f11 (cx w β n []) 0 (zos t r j D M) (REff w β ⟨.tu [.c (.sx 50 M.length),.c (.b true)],[],some (50,Ent.mk true (pcell M) 5)⟩) :=
 zah [] (some 50) [false,false,false] ([true]) [(6,1)] Tryz.func11 hk (by kernel_rfl) h (zac c0 (zab c1 (zab c2 zae)))
end
section
variable {L L2:List Ins} {q c d j n:Nat} {C:Cx} {R:Ending→World→Prop} {u:Ins} {w:World} {β:Bs}
end
end Go.Proofs.YtkigmocchaikgabGreatDoor
namespace Go.Proofs.YtkigmocchaikgabGreatDoor
def g2:List Ins:=[⟨10,0,1,8#64,0⟩,⟨15,0,0,0#64,0⟩]
def memB:ByteArray:=zmu ((List.range 64).map fun j=>AC.y (BitVec.ofNat 8 (j+1)))
def m1:Mach:=⟨1,⟨0#64,9#64,0#64,0#64,0#64,0#64⟩,⟨true,true,false,false,false,false⟩,memB,0⟩
end Go.Proofs.YtkigmocchaikgabGreatDoor
namespace Go.Proofs.YtkigmocchaikgabGreatDoor
open Go.RowKit
section
variable {L L2 L3 L4 L5 M:List Ins} {c p n j q r:Nat} {e tr t1:Int} {w:World} {β:Bs} {C:Cx} {R:Ending→World→Prop} {S S2 S3:List St}
end
section
abbrev fqDK (L M:List Ins) (c j r:Nat) (S2:List St):Kn:=⟨[(0,.c (.sl 0 0 L.length c)),(3,.c (.sx 4 L.length)),(4,.c (.w 8)),(5,.c (.i (j:Int)))],[(0,Ent.mk false (pcell L) 0),(4,Ent.mk true (pcell M) r),(7,Ent.mk true (scell S2) 0),(8,Ent.mk true [.i 0,.i 0,.sl 7 0 L.length L.length] 0)],10⟩
variable {L M:List Ins} {c q n j r:Nat} {S2:List St} {tr p g:Int} {w:World} {β:Bs} {C:Cx} {R:Ending→World→Prop} {a b:St} {i:Ins} {v4:V4}
theorem yarh (h:(Nat.ble (0+L.length*5) (pcell L).length&&(decide (0+L.length≤137438953472)&&decide (0<0+L.length))&&(tr != 0&&true))=true) (c0:Eff.mk (.c (.sx 4 (0+L.length))) [] (some (1+1+2,Ent.mk true (((rows 0 [.i 0,.i 0,.i 0,.u 0#64,.i 0]).drop 0).take 0++((pcell L).drop 0).take (L.length*5)) 5))=Eff.mk (.c (.sx 4 L.length)) [] (some (4,Ent.mk true (pcell L) 5))) (c1:CO 12 [.c (.sl 0 0 L.length c)] [(0,Ent.mk false (pcell L) 0)] (Eff.mk (.ag [.i tr,.i p,.sl 7 0 q L.length]) [] (some (7,Ent.mk true (scell S2) 0)))) (hk:EKeys n [] (some 4) ⟨.c (.sx 4 L.length),[],some (4,Ent.mk true (pcell L) 5)⟩) :
  BO 16 Tryz.f16 (cx w β n []) [.c (.sl 0 0 L.length c)] [(0,Ent.mk false (pcell L) 0)] 1 (REff w β ⟨.c (.sx 4 L.length),[],some (4,Ent.mk true (pcell L) 5)⟩) :=
 zah [] (some 4) [true] ([true]) [(1,2)] Tryz.func16 hk (by kernel_rfl) h (zac c0 (zab c1 zae))
theorem yaol (h:(Nat.ble (0+L.length*5) (pcell L).length&&(decide (0+L.length≤137438953472)&&decide (0<0+L.length))&&true)=true) (c0:Eff.mk (.c (.sx 4 (0+L.length))) [] (some (1+1+2,Ent.mk true (((rows 0 [.i 0,.i 0,.i 0,.u 0#64,.i 0]).drop 0).take 0++((pcell L).drop 0).take (L.length*5)) 5))=Eff.mk (.c (.sx 4 L.length)) [] (some (4,Ent.mk true (pcell L) 5))) (c1:CO 12 [.c (.sl 0 0 L.length c)] [(0,Ent.mk false (pcell L) 0)] (Eff.mk (.ag [.i 0,.i 0,.sl 7 0 L.length L.length]) [] (some (7,Ent.mk true (scell S2) 0)))) (lo:Kn.Low ⟨[(0,.c (.sl 0 0 L.length c)),(3,.c (.sx 4 L.length)),(4,.c (.w 8)),(5,.c (.i 0))],[(0,Ent.mk false (pcell L) 0),(4,Ent.mk true (pcell L) 5),(7,Ent.mk true (scell S2) 0),(8,Ent.mk true [.i 0,.i 0,.sl 7 0 L.length L.length] 0)],10⟩) (hF:∀ k,C.F k→k<10) (z:AR 16 Tryz.f16 C 0 ⟨[(0,.c (.sl 0 0 L.length c)),(3,.c (.sx 4 L.length)),(4,.c (.w 8)),(5,.c (.i 0))],[(0,Ent.mk false (pcell L) 0),(4,Ent.mk true (pcell L) 5),(7,Ent.mk true (scell S2) 0),(8,Ent.mk true [.i 0,.i 0,.sl 7 0 L.length L.length] 0)],10⟩ R) :
  BO 16 Tryz.f16 C [.c (.sl 0 0 L.length c)] [(0,Ent.mk false (pcell L) 0)] 1 R :=
 zai [false] ([true]) [(1,2)] Tryz.func16 (by kernel_rfl) h (zac c0 (zab c1 zae)) lo hF z
theorem yaxm (h:(decide ((↑(j+1):Int)<(L.length:Int))&&(decide ((j:Int)<(L.length:Int))&&(Nat.ble (0+(j:Int).toNat*5+5) (pcell L).length&&(decide ((j:Int)<(L.length:Int))&&(Nat.ble (0+(j:Int).toNat*31+31) (scell S2).length&&(decide ((j:Int)<(L.length:Int))&&(AC.isB ((scell S2)[0+(j:Int).toNat*31+0]?.getD (.b false))&&Nat.blt (0+(j:Int).toNat*31+0) (scell S2).length&&(!(stAt S2 j).live&&(decide ((j:Int)<(L.length:Int))&&(Nat.ble ((j:Int).toNat*5+5) (pcell M).length&&true&&true))))))))))=true) (c0:pe (.c (.i (IntKind.i64.wrap ((j:Int)+1))))=pe (.c (.i (↑(j+1):Int)))) (c1:pe (.ag (((pcell L).drop (0+(j:Int).toNat*5)).take 5))=pe (.ag i.cs)) (c2:pe (.ag (((scell S2).drop (0+(j:Int).toNat*31)).take 31))=pe (.ag (stAt S2 j).cs)) (c3:Ok 31 [.ag i.cs,.ag (stAt S2 j).cs] (.tu [.ag a.cs,.ag b.cs,.c (.i g)])) (c4:pe (.c (.b (AC.asB ((scell S2)[0+(j:Int).toNat*31+0]?.getD (.b false)))))=pe (.c (.b (stAt S2 j).live))) (c5:Ok 36 [] (.ag onI.cs)) (c6:we 4 (splice (pcell M) ((j:Int).toNat*5) onI.cs)=we 4 (pcell (M.set j onI))) (c7:pe (.c (.i (IntKind.i64.wrap ((j:Int)+1))))=pe (.c (.i (↑(j+1):Int)))) (lo:Kn.Low (fqDK L (M.set j onI) c (j+1) 0 S2)) (hF:∀ k,C.F k→k<10) (z:AR 16 Tryz.f16 C 0 (fqDK L (M.set j onI) c (j+1) 0 S2) R) :
  AR 16 Tryz.f16 C 0 (fqDK L M c j r S2) R :=
 zai [true,true] ([true]) [(6,1),(8,3),(9,5),(10,5),(11,4),(12,8),(13,9),(13,12),(15,4),(17,6),(7,1)] Tryz.func16 (by kernel_rfl) h (zac c0 (zac c1 (zac c2 (zab c3 (zac c4 (zab c5 (zac c6 (zac c7 zae)))))))) lo hF z
theorem yawo (h:(decide ((↑(j+1):Int)<(L.length:Int))&&(decide ((j:Int)<(L.length:Int))&&(Nat.ble (0+(j:Int).toNat*5+5) (pcell L).length&&(decide ((j:Int)<(L.length:Int))&&(Nat.ble (0+(j:Int).toNat*31+31) (scell S2).length&&(decide ((j:Int)<(L.length:Int))&&(AC.isB ((scell S2)[0+(j:Int).toNat*31+0]?.getD (.b false))&&Nat.blt (0+(j:Int).toNat*31+0) (scell S2).length&&(!!(stAt S2 j).live&&(decide (0≤i.d)&&decide (i.d<6)&&(Nat.ble (7+(i.d).toNat*4+4) (a.cs).length&&(decide (0≤i.d)&&decide (i.d<6)&&(AC.isU ((a.cs)[7+(i.d).toNat*4+2]?.getD (.b false))&&Nat.blt (7+(i.d).toNat*4+2) (a.cs).length&&(decide ((j:Int)<(L.length:Int))&&(Nat.ble ((j:Int).toNat*5+(splice (splice (splice (splice [.i 0,.i 0,.i 0,.u 0#64,.i 0] 0 [.i 1]) 1 [.i i.d]) 2 [.i (-1)]) 3 [.u v4.l]).length) (pcell M).length&&true&&true))))))))))))))=true) (c0:pe (.c (.i (IntKind.i64.wrap ((j:Int)+1))))=pe (.c (.i (↑(j+1):Int)))) (c1:pe (.ag (((pcell L).drop (0+(j:Int).toNat*5)).take 5))=pe (.ag i.cs)) (c2:pe (.ag (((scell S2).drop (0+(j:Int).toNat*31)).take 31))=pe (.ag (stAt S2 j).cs)) (c3:Ok 31 [.ag i.cs,.ag (stAt S2 j).cs] (.tu [.ag a.cs,.ag b.cs,.c (.i g)])) (c4:pe (.c (.b (AC.asB ((scell S2)[0+(j:Int).toNat*31+0]?.getD (.b false)))))=pe (.c (.b (stAt S2 j).live))) (c5:Ok 38 [.c (.i i.op)] (.c (.b true))) (c6:pe (.ag (((a.cs).drop (7+(i.d).toNat*4)).take 4))=pe (.ag v4.cs)) (c7:Ok 39 [.ag v4.cs] (.c (.b true))) (c8:pe (.c (.u (AC.asU ((a.cs)[7+(i.d).toNat*4+2]?.getD (.b false)))))=pe (.c (.u v4.l))) (c9:we 4 (splice (pcell M) ((j:Int).toNat*5) (splice (splice (splice (splice [.i 0,.i 0,.i 0,.u 0#64,.i 0] 0 [.i 1]) 1 [.i i.d]) 2 [.i (-1)]) 3 [.u v4.l]))=we 4 (pcell (M.set j (Ins.mk 1 i.d (-1) v4.l 0)))) (c10:pe (.c (.i (IntKind.i64.wrap ((j:Int)+1))))=pe (.c (.i (↑(j+1):Int)))) (lo:Kn.Low (fqDK L (M.set j (Ins.mk 1 i.d ( - 1) v4.l 0)) c (j+1) 0 S2)) (hF:∀ k,C.F k→k<10) (z:AR 16 Tryz.f16 C 0 (fqDK L (M.set j (Ins.mk 1 i.d ( - 1) v4.l 0)) c (j+1) 0 S2) R) :
  AR 16 Tryz.f16 C 0 (fqDK L M c j r S2) R :=
 zai [true,false,true,true] ([true]) [(6,1),(8,3),(9,5),(10,5),(11,4),(12,8),(13,9),(13,12),(15,4),(17,6),(7,1)] Tryz.func16 (by kernel_rfl) h (zac c0 (zac c1 (zac c2 (zab c3 (zac c4 (zab c5 (zac c6 (zab c7 (zac c8 (zac c9 (zac c10 zae))))))))))) lo hF z
theorem yaz0 (h:(decide ((↑(j+1):Int)<(L.length:Int))&&(decide ((j:Int)<(L.length:Int))&&(Nat.ble (0+(j:Int).toNat*5+5) (pcell L).length&&(decide ((j:Int)<(L.length:Int))&&(Nat.ble (0+(j:Int).toNat*31+31) (scell S2).length&&(decide ((j:Int)<(L.length:Int))&&(AC.isB ((scell S2)[0+(j:Int).toNat*31+0]?.getD (.b false))&&Nat.blt (0+(j:Int).toNat*31+0) (scell S2).length&&(!!(stAt S2 j).live&&(decide (0≤i.d)&&decide (i.d<6)&&(Nat.ble (7+(i.d).toNat*4+4) (a.cs).length&&true))))))))))=true) (c0:pe (.c (.i (IntKind.i64.wrap ((j:Int)+1))))=pe (.c (.i (↑(j+1):Int)))) (c1:pe (.ag (((pcell L).drop (0+(j:Int).toNat*5)).take 5))=pe (.ag i.cs)) (c2:pe (.ag (((scell S2).drop (0+(j:Int).toNat*31)).take 31))=pe (.ag (stAt S2 j).cs)) (c3:Ok 31 [.ag i.cs,.ag (stAt S2 j).cs] (.tu [.ag a.cs,.ag b.cs,.c (.i g)])) (c4:pe (.c (.b (AC.asB ((scell S2)[0+(j:Int).toNat*31+0]?.getD (.b false)))))=pe (.c (.b (stAt S2 j).live))) (c5:Ok 38 [.c (.i i.op)] (.c (.b true))) (c6:pe (.ag (((a.cs).drop (7+(i.d).toNat*4)).take 4))=pe (.ag v4.cs)) (c7:Ok 39 [.ag v4.cs] (.c (.b false))) (c8:Ok 34 [.c (.i i.op)] (.c (.b false))) (c9:Ok 34 [.c (.i i.op)] (.c (.b false))) (c10:pe (.c (.i (IntKind.i64.wrap ((j:Int)+1))))=pe (.c (.i (↑(j+1):Int)))) (lo:Kn.Low (fqDK L M c (j+1) r S2)) (hF:∀ k,C.F k→k<10) (z:AR 16 Tryz.f16 C 0 (fqDK L M c (j+1) r S2) R) :
  AR 16 Tryz.f16 C 0 (fqDK L M c j r S2) R :=
 zai [true,false,true,false,false,false,false,false] ([true]) [(6,1),(8,3),(9,5),(10,5),(11,4),(12,8),(13,9),(13,12),(15,4),(17,6),(7,1)] Tryz.func16 (by kernel_rfl) h (zac c0 (zac c1 (zac c2 (zab c3 (zac c4 (zab c5 (zac c6 (zab c7 (zab c8 (zab c9 (zac c10 zae))))))))))) lo hF z
theorem yav2 (h:(decide ((↑(j+1):Int)<(L.length:Int))&&(decide ((j:Int)<(L.length:Int))&&(Nat.ble (0+(j:Int).toNat*5+5) (pcell L).length&&(decide ((j:Int)<(L.length:Int))&&(Nat.ble (0+(j:Int).toNat*31+31) (scell S2).length&&(decide ((j:Int)<(L.length:Int))&&(AC.isB ((scell S2)[0+(j:Int).toNat*31+0]?.getD (.b false))&&Nat.blt (0+(j:Int).toNat*31+0) (scell S2).length&&(!!(stAt S2 j).live&&(!b.live&&(decide ((j:Int)<(L.length:Int))&&(Nat.ble ((j:Int).toNat*5+5) (pcell M).length&&true&&true)))))))))))=true) (c0:pe (.c (.i (IntKind.i64.wrap ((j:Int)+1))))=pe (.c (.i (↑(j+1):Int)))) (c1:pe (.ag (((pcell L).drop (0+(j:Int).toNat*5)).take 5))=pe (.ag i.cs)) (c2:pe (.ag (((scell S2).drop (0+(j:Int).toNat*31)).take 31))=pe (.ag (stAt S2 j).cs)) (c3:Ok 31 [.ag i.cs,.ag (stAt S2 j).cs] (.tu [.ag a.cs,.ag b.cs,.c (.i g)])) (c4:pe (.c (.b (AC.asB ((scell S2)[0+(j:Int).toNat*31+0]?.getD (.b false)))))=pe (.c (.b (stAt S2 j).live))) (c5:Ok 38 [.c (.i i.op)] (.c (.b false))) (c6:Ok 34 [.c (.i i.op)] (.c (.b true))) (c7:Ok 36 [] (.ag onI.cs)) (c8:we 4 (splice (pcell M) ((j:Int).toNat*5) onI.cs)=we 4 (pcell (M.set j onI))) (c9:pe (.c (.i (IntKind.i64.wrap ((j:Int)+1))))=pe (.c (.i (↑(j+1):Int)))) (lo:Kn.Low (fqDK L (M.set j onI) c (j+1) 0 S2)) (hF:∀ k,C.F k→k<10) (z:AR 16 Tryz.f16 C 0 (fqDK L (M.set j onI) c (j+1) 0 S2) R) :
  AR 16 Tryz.f16 C 0 (fqDK L M c j r S2) R :=
 zai [true,false,false,false,true,true] ([true]) [(6,1),(8,3),(9,5),(10,5),(11,4),(12,8),(13,9),(13,12),(15,4),(17,6),(7,1)] Tryz.func16 (by kernel_rfl) h (zac c0 (zac c1 (zac c2 (zab c3 (zac c4 (zab c5 (zab c6 (zab c7 (zac c8 (zac c9 zae)))))))))) lo hF z
theorem yawa (h:(decide ((↑(j+1):Int)<(L.length:Int))&&(decide ((j:Int)<(L.length:Int))&&(Nat.ble (0+(j:Int).toNat*5+5) (pcell L).length&&(decide ((j:Int)<(L.length:Int))&&(Nat.ble (0+(j:Int).toNat*31+31) (scell S2).length&&(decide ((j:Int)<(L.length:Int))&&(AC.isB ((scell S2)[0+(j:Int).toNat*31+0]?.getD (.b false))&&Nat.blt (0+(j:Int).toNat*31+0) (scell S2).length&&(!!(stAt S2 j).live&&(!!b.live&&(!a.live&&(decide ((j:Int)<(L.length:Int))&&(Nat.ble ((j:Int).toNat*5+(splice (splice [.i 0,.i 0,.i 0,.u 0#64,.i 0] 0 [.i 12]) 4 [.i i.of]).length) (pcell M).length&&true&&true))))))))))))=true) (c0:pe (.c (.i (IntKind.i64.wrap ((j:Int)+1))))=pe (.c (.i (↑(j+1):Int)))) (c1:pe (.ag (((pcell L).drop (0+(j:Int).toNat*5)).take 5))=pe (.ag i.cs)) (c2:pe (.ag (((scell S2).drop (0+(j:Int).toNat*31)).take 31))=pe (.ag (stAt S2 j).cs)) (c3:Ok 31 [.ag i.cs,.ag (stAt S2 j).cs] (.tu [.ag a.cs,.ag b.cs,.c (.i g)])) (c4:pe (.c (.b (AC.asB ((scell S2)[0+(j:Int).toNat*31+0]?.getD (.b false)))))=pe (.c (.b (stAt S2 j).live))) (c5:Ok 38 [.c (.i i.op)] (.c (.b false))) (c6:Ok 34 [.c (.i i.op)] (.c (.b true))) (c7:Ok 34 [.c (.i i.op)] (.c (.b true))) (c8:we 4 (splice (pcell M) ((j:Int).toNat*5) (splice (splice [.i 0,.i 0,.i 0,.u 0#64,.i 0] 0 [.i 12]) 4 [.i i.of]))=we 4 (pcell (M.set j (Ins.mk 12 0 0 (0#64) i.of)))) (c9:pe (.c (.i (IntKind.i64.wrap ((j:Int)+1))))=pe (.c (.i (↑(j+1):Int)))) (lo:Kn.Low (fqDK L (M.set j (Ins.mk 12 0 0 (0#64) i.of)) c (j+1) 0 S2)) (hF:∀ k,C.F k→k<10) (z:AR 16 Tryz.f16 C 0 (fqDK L (M.set j (Ins.mk 12 0 0 (0#64) i.of)) c (j+1) 0 S2) R) :
  AR 16 Tryz.f16 C 0 (fqDK L M c j r S2) R :=
 zai [true,false,false,false,true,false,true,true] ([true]) [(6,1),(8,3),(9,5),(10,5),(11,4),(12,8),(13,9),(13,12),(15,4),(17,6),(7,1)] Tryz.func16 (by kernel_rfl) h (zac c0 (zac c1 (zac c2 (zab c3 (zac c4 (zab c5 (zab c6 (zab c7 (zac c8 (zac c9 zae)))))))))) lo hF z
theorem yayn (h:(decide ((↑(j+1):Int)<(L.length:Int))&&(decide ((j:Int)<(L.length:Int))&&(Nat.ble (0+(j:Int).toNat*5+5) (pcell L).length&&(decide ((j:Int)<(L.length:Int))&&(Nat.ble (0+(j:Int).toNat*31+31) (scell S2).length&&(decide ((j:Int)<(L.length:Int))&&(AC.isB ((scell S2)[0+(j:Int).toNat*31+0]?.getD (.b false))&&Nat.blt (0+(j:Int).toNat*31+0) (scell S2).length&&(!!(stAt S2 j).live&&(!!b.live&&(!!a.live&&true))))))))))=true) (c0:pe (.c (.i (IntKind.i64.wrap ((j:Int)+1))))=pe (.c (.i (↑(j+1):Int)))) (c1:pe (.ag (((pcell L).drop (0+(j:Int).toNat*5)).take 5))=pe (.ag i.cs)) (c2:pe (.ag (((scell S2).drop (0+(j:Int).toNat*31)).take 31))=pe (.ag (stAt S2 j).cs)) (c3:Ok 31 [.ag i.cs,.ag (stAt S2 j).cs] (.tu [.ag a.cs,.ag b.cs,.c (.i g)])) (c4:pe (.c (.b (AC.asB ((scell S2)[0+(j:Int).toNat*31+0]?.getD (.b false)))))=pe (.c (.b (stAt S2 j).live))) (c5:Ok 38 [.c (.i i.op)] (.c (.b false))) (c6:Ok 34 [.c (.i i.op)] (.c (.b true))) (c7:Ok 34 [.c (.i i.op)] (.c (.b true))) (c8:pe (.c (.i (IntKind.i64.wrap ((j:Int)+1))))=pe (.c (.i (↑(j+1):Int)))) (lo:Kn.Low (fqDK L M c (j+1) r S2)) (hF:∀ k,C.F k→k<10) (z:AR 16 Tryz.f16 C 0 (fqDK L M c (j+1) r S2) R) :
  AR 16 Tryz.f16 C 0 (fqDK L M c j r S2) R :=
 zai [true,false,false,false,true,false,true,false] ([true]) [(6,1),(8,3),(9,5),(10,5),(11,4),(12,8),(13,9),(13,12),(15,4),(17,6),(7,1)] Tryz.func16 (by kernel_rfl) h (zac c0 (zac c1 (zac c2 (zab c3 (zac c4 (zab c5 (zab c6 (zab c7 (zac c8 zae))))))))) lo hF z
theorem yazg (h:(decide ((↑(j+1):Int)<(L.length:Int))&&(decide ((j:Int)<(L.length:Int))&&(Nat.ble (0+(j:Int).toNat*5+5) (pcell L).length&&(decide ((j:Int)<(L.length:Int))&&(Nat.ble (0+(j:Int).toNat*31+31) (scell S2).length&&(decide ((j:Int)<(L.length:Int))&&(AC.isB ((scell S2)[0+(j:Int).toNat*31+0]?.getD (.b false))&&Nat.blt (0+(j:Int).toNat*31+0) (scell S2).length&&(!!(stAt S2 j).live&&true))))))))=true) (c0:pe (.c (.i (IntKind.i64.wrap ((j:Int)+1))))=pe (.c (.i (↑(j+1):Int)))) (c1:pe (.ag (((pcell L).drop (0+(j:Int).toNat*5)).take 5))=pe (.ag i.cs)) (c2:pe (.ag (((scell S2).drop (0+(j:Int).toNat*31)).take 31))=pe (.ag (stAt S2 j).cs)) (c3:Ok 31 [.ag i.cs,.ag (stAt S2 j).cs] (.tu [.ag a.cs,.ag b.cs,.c (.i g)])) (c4:pe (.c (.b (AC.asB ((scell S2)[0+(j:Int).toNat*31+0]?.getD (.b false)))))=pe (.c (.b (stAt S2 j).live))) (c5:Ok 38 [.c (.i i.op)] (.c (.b false))) (c6:Ok 34 [.c (.i i.op)] (.c (.b false))) (c7:Ok 34 [.c (.i i.op)] (.c (.b false))) (c8:pe (.c (.i (IntKind.i64.wrap ((j:Int)+1))))=pe (.c (.i (↑(j+1):Int)))) (lo:Kn.Low (fqDK L M c (j+1) r S2)) (hF:∀ k,C.F k→k<10) (z:AR 16 Tryz.f16 C 0 (fqDK L M c (j+1) r S2) R) :
  AR 16 Tryz.f16 C 0 (fqDK L M c j r S2) R :=
 zai [true,false,false,false,false,false,false,false] ([true]) [(6,1),(8,3),(9,5),(10,5),(11,4),(12,8),(13,9),(13,12),(15,4),(17,6),(7,1)] Tryz.func16 (by kernel_rfl) h (zac c0 (zac c1 (zac c2 (zab c3 (zac c4 (zab c5 (zab c6 (zab c7 (zac c8 zae))))))))) lo hF z
theorem yapi (h:(!decide ((↑(j+1):Int)<(L.length:Int))&&true)=true) (c0:pe (.c (.i (IntKind.i64.wrap ((j:Int)+1))))=pe (.c (.i (↑(j+1):Int)))) (hk:EKeys n [] (some 4) ⟨.c (.sx 4 L.length),[],some (4,Ent.mk true (pcell M) r)⟩) :
  AR 16 Tryz.f16 (cx w β n []) 0 (fqDK L M c j r S2) (REff w β ⟨.c (.sx 4 L.length),[],some (4,Ent.mk true (pcell M) r)⟩) :=
 zah [] (some 4) [false] ([true]) [(6,1)] Tryz.func16 hk (by kernel_rfl) h (zac c0 zae)
end
section
abbrev deAK (L M:List Ins) (A:List (V6 Bool)) (j r:Nat):Kn:=⟨[(3,.c (.sx 4 L.length)),(4,.c (.sl 12 0 L.length L.length)),(5,.c (.i (j:Int)))],[(0,Ent.mk false (pcell L) 0),(4,Ent.mk true (pcell M) r),(12,Ent.mk true (rcell A) 0)],14⟩
abbrev zgn (L M:List Ins) (A:List (V6 Bool)) (j r x:Nat) (i:Ins) (u:V6 Bool):Kn:=⟨[(3,.c (.sx 4 L.length)),(4,.c (.sl 12 0 L.length L.length)),(5,.c (.i (j:Int))),(6,.c (.w 20)),(7,.c (.w 22)),(8,.c (.i (x:Int)))],[(0,Ent.mk false (pcell L) 0),(4,Ent.mk true (pcell M) r),(12,Ent.mk true (rcell A) 0),(20,Ent.mk true i.cs 0),(22,Ent.mk true (bcs u) 0)],24⟩
abbrev yag9 (L M:List Ins) (A:List (V6 Bool)) (j r:Nat) (i:Ins) (u:V6 Bool):Kn:=⟨[(3,.c (.sx 4 L.length)),(4,.c (.sl 12 0 L.length L.length)),(5,.c (.i (j:Int))),(6,.c (.w 20)),(7,.c (.w 22)),(8,.c (.i 6))],[(0,Ent.mk false (pcell L) 0),(4,Ent.mk true (pcell M) r),(12,Ent.mk true (rcell A) 0),(20,Ent.mk true i.cs 0),(22,Ent.mk true (bcs u) 0)],24⟩
abbrev zqp (L M:List Ins) (A:List (V6 Bool)) (j r x q:Nat) (u:V6 Bool) (U:List AC):Kn:=⟨[(3,.c (.sx 4 L.length)),(4,.c (.sl 12 0 L.length L.length)),(5,.c (.i (j:Int))),(7,.c (.w 22)),(9,.c (.sx 39 q)),(10,.c (.i (x:Int)))],[(0,Ent.mk false (pcell L) 0),(4,Ent.mk true (pcell M) r),(12,Ent.mk true (rcell A) 0),(22,Ent.mk true (bcs u) 0),(39,Ent.mk true U 1)],45⟩
abbrev zs2 (L M:List Ins) (A:List (V6 Bool)) (j r x q:Nat) (u:V6 Bool) (U:List AC):Kn:=⟨[(3,.c (.sx 4 L.length)),(4,.c (.sl 12 0 L.length L.length)),(5,.c (.i (j:Int))),(7,.c (.w 22)),(9,.c (.sx 30 q)),(10,.c (.i (x:Int)))],[(0,Ent.mk false (pcell L) 0),(4,Ent.mk true (pcell M) r),(12,Ent.mk true (rcell A) 0),(22,Ent.mk true (bcs u) 0),(30,Ent.mk true U 1)],45⟩
abbrev znq (L M:List Ins) (A:List (V6 Bool)) (j r:Nat) (u:V6 Bool):Kn:=⟨[(3,.c (.sx 4 L.length)),(4,.c (.sl 12 0 L.length L.length)),(5,.c (.i (j:Int))),(7,.c (.w 22)),(9,.c zco),(10,.c (.i 0))],[(0,Ent.mk false (pcell L) 0),(4,Ent.mk true (pcell M) r),(12,Ent.mk true (rcell A) 0),(22,Ent.mk true (bcs u) 0)],45⟩
variable {L M:List Ins} {c q n j r x:Nat} {S2:List St} {tr p d:Int} {w:World} {β:Bs} {C:Cx} {R:Ending→World→Prop} {A:List (V6 Bool)} {i:Ins} {u u2:V6 Bool} {g g2 g3:Bool} {U:List AC}
theorem yawp :
  Ok 36 [] (.ag [.i 12,.i 0,.i 0,.u 0#64,.i 0]) :=
 zaf [] ([]) [] Tryz.func36 rfl rfl rfl rfl (by kernel_rfl) rfl zae
theorem yaro (h:(Nat.ble (0+L.length*5) (pcell L).length&&(decide (0+L.length≤137438953472)&&decide (0<0+L.length))&&(tr != 0&&true))=true) (c0:Eff.mk (.c (.sx 4 (0+L.length))) [] (some (1+1+2,Ent.mk true (((rows 0 [.i 0,.i 0,.i 0,.u 0#64,.i 0]).drop 0).take 0++((pcell L).drop 0).take (L.length*5)) 5))=Eff.mk (.c (.sx 4 L.length)) [] (some (4,Ent.mk true (pcell L) 5))) (c1:CO 12 [.c (.sl 0 0 L.length c)] [(0,Ent.mk false (pcell L) 0)] (Eff.mk (.ag [.i tr,.i p,.sl 7 0 q L.length]) [] (some (7,Ent.mk true (scell S2) 0)))) (hk:EKeys n [] (some 4) ⟨.c (.sx 4 L.length),[],some (4,Ent.mk true (pcell L) 5)⟩) :
  BO 15 Tryz.f15 (cx w β n []) [.c (.sl 0 0 L.length c)] [(0,Ent.mk false (pcell L) 0)] 1 (REff w β ⟨.c (.sx 4 L.length),[],some (4,Ent.mk true (pcell L) 5)⟩) :=
 zah [] (some 4) [true] ([true]) [(1,2)] Tryz.func15 hk (by kernel_rfl) h (zac c0 (zab c1 zae))
theorem yan4 (h:(Nat.ble (0+L.length*5) (pcell L).length&&(decide (0+L.length≤137438953472)&&decide (0<0+L.length))&&(decide ((L.length:Int)≤(L.length:Int))&&decide ((L.length:Int)≤1099511627776)&&true&&true))=true) (c0:Eff.mk (.c (.sx 4 (0+L.length))) [] (some (1+1+2,Ent.mk true (((rows 0 [.i 0,.i 0,.i 0,.u 0#64,.i 0]).drop 0).take 0++((pcell L).drop 0).take (L.length*5)) 5))=Eff.mk (.c (.sx 4 L.length)) [] (some (4,Ent.mk true (pcell L) 5))) (c1:CO 12 [.c (.sl 0 0 L.length c)] [(0,Ent.mk false (pcell L) 0)] (Eff.mk (.ag [.i 0,.i 0,.sl 7 0 L.length L.length]) [] (some (7,Ent.mk true (scell S2) 0)))) (c2:Eff.mk (.c (.sl 12 0 (L.length:Int).toNat (L.length:Int).toNat)) [] (some (1+1+4+4+2,Ent.mk true (rows (L.length:Int).toNat [.b false,.b false,.b false,.b false,.b false,.b false]) 0))=Eff.mk (.c (.sl 12 0 L.length L.length)) [] (some (12,Ent.mk true (rcell (List.replicate L.length no6)) 0))) (c3:pe (.c (.i (IntKind.i64.wrap ((L.length:Int) - 1))))=pe (.c (.i ((L.length:Int) - 1)))) (lo:Kn.Low ⟨[(3,.c (.sx 4 L.length)),(4,.c (.sl 12 0 L.length L.length)),(5,.c (.i ((L.length:Int) - 1)))],[(0,Ent.mk false (pcell L) 0),(4,Ent.mk true (pcell L) 5),(12,Ent.mk true (rcell (List.replicate L.length no6)) 0)],14⟩) (hF:∀ k,C.F k→k<14) (z:AR 15 Tryz.f15 C 0 ⟨[(3,.c (.sx 4 L.length)),(4,.c (.sl 12 0 L.length L.length)),(5,.c (.i ((L.length:Int) - 1)))],[(0,Ent.mk false (pcell L) 0),(4,Ent.mk true (pcell L) 5),(12,Ent.mk true (rcell (List.replicate L.length no6)) 0)],14⟩ R) :
  BO 15 Tryz.f15 C [.c (.sl 0 0 L.length c)] [(0,Ent.mk false (pcell L) 0)] 1 R :=
 zai [false] ([true]) [(1,2),(4,2),(5,2)] Tryz.func15 (by kernel_rfl) h (zac c0 (zab c1 (zac c2 (zac c3 zae)))) lo hF z
theorem yax2 (h:(decide ((j:Int)<(L.length:Int))&&(Nat.ble ((j:Int).toNat*5+5) (pcell M).length&&true))=true) (c0:pe (.ag (((pcell M).drop ((j:Int).toNat*5)).take 5))=pe (.ag i.cs)) (lo:Kn.Low ⟨[(3,.c (.sx 4 L.length)),(4,.c (.sl 12 0 L.length L.length)),(5,.c (.i (j:Int))),(6,.c (.w 20)),(7,.c (.w 22)),(8,.c (.i 0))],[(0,Ent.mk false (pcell L) 0),(4,Ent.mk true (pcell M) r),(12,Ent.mk true (rcell A) 0),(20,Ent.mk true i.cs 0),(22,Ent.mk true [.b false,.b false,.b false,.b false,.b false,.b false] 0)],24⟩) (hF:∀ k,C.F k→k<24) (z:AR 15 Tryz.f15 C 1 ⟨[(3,.c (.sx 4 L.length)),(4,.c (.sl 12 0 L.length L.length)),(5,.c (.i (j:Int))),(6,.c (.w 20)),(7,.c (.w 22)),(8,.c (.i 0))],[(0,Ent.mk false (pcell L) 0),(4,Ent.mk true (pcell M) r),(12,Ent.mk true (rcell A) 0),(20,Ent.mk true i.cs 0),(22,Ent.mk true [.b false,.b false,.b false,.b false,.b false,.b false] 0)],24⟩ R) :
  AR 15 Tryz.f15 C 0 (deAK L M A j r) R :=
 zai [true] ([true]) [(8,3)] Tryz.func15 (by kernel_rfl) h (zac c0 zae) lo hF z
theorem yamd (hk:EKeys n [] (some 4) ⟨.c (.sx 4 L.length),[],some (4,Ent.mk true (pcell M) r)⟩) :
  AR 15 Tryz.f15 (cx w β n []) 0 (Kn.mk [(3,.c (.sx 4 L.length)),(4,.c (.sl 12 0 L.length L.length)),(5,.c (.i (-1)))] [(0,Ent.mk false (pcell L) 0),(4,Ent.mk true (pcell M) r),(12,Ent.mk true (rcell A) 0)] 14) (REff w β ⟨.c (.sx 4 L.length),[],some (4,Ent.mk true (pcell M) r)⟩) :=
 zah [] (some 4) [false] ([true]) [] Tryz.func15 hk (by kernel_rfl) rfl zae
theorem yatx (h:(decide ((x:Int)<6)&&(i.op != 15&&(i.op != 12&&(decide ((↑(j+1):Int)<(L.length:Int))&&(decide ((x:Int)<6)&&(AC.isB ((rcell A)[0+(↑(j+1):Int).toNat*6+(x:Int).toNat*1]?.getD (.b false))&&Nat.blt (0+(↑(j+1):Int).toNat*6+(x:Int).toNat*1) (rcell A).length&&(decide ((x:Int)<6)&&(Nat.ble ((x:Int).toNat*1+List.length [AC.b g]) (bcs u).length&&true&&(!i.op==12&&true)))))))))=true) (c0:pe (.c (.i (IntKind.i64.wrap ((j:Int)+1))))=pe (.c (.i (↑(j+1):Int)))) (c1:pe (.c (.b (AC.asB ((rcell A)[0+(↑(j+1):Int).toNat*6+(x:Int).toNat*1]?.getD (.b false)))))=pe (.c (.b g))) (c2:we 22 (splice (bcs u) ((x:Int).toNat*1) [.b g])=we 22 (bcs (u.set x g))) (c3:Ok 34 [.c (.i i.op)] (.c (.b false))) (c4:pe (.c (.i (IntKind.i64.wrap ((x:Int)+1))))=pe (.c (.i (↑(x+1):Int)))) (lo:Kn.Low (zgn L M A j r (x+1) i (u.set x g))) (hF:∀ k,C.F k→k<24) (z:AR 15 Tryz.f15 C 1 (zgn L M A j r (x+1) i (u.set x g)) R) :
  AR 15 Tryz.f15 C 1 (zgn L M A j r x i u) R :=
 zai [true,true,true,false,false] ([true]) [(14,3),(14,7),(14,9),(16,3),(16,7),(16,10),(16,14),(16,17),(12,1)] Tryz.func15 (by kernel_rfl) h (zac c0 (zac c1 (zac c2 (zab c3 (zac c4 zae))))) lo hF z
theorem yaok (h:(decide ((x:Int)<6)&&(i.op != 15&&(i.op != 12&&(decide ((↑(j+1):Int)<(L.length:Int))&&(decide ((x:Int)<6)&&(AC.isB ((rcell A)[0+(↑(j+1):Int).toNat*6+(x:Int).toNat*1]?.getD (.b false))&&Nat.blt (0+(↑(j+1):Int).toNat*6+(x:Int).toNat*1) (rcell A).length&&(decide ((x:Int)<6)&&(Nat.ble ((x:Int).toNat*1+List.length [AC.b g]) (bcs u).length&&true&&(!i.op==12&&(decide ((x:Int)<6)&&(AC.isB ((bcs (u.set x g))[(x:Int).toNat*1]?.getD (.b false))&&Nat.blt ((x:Int).toNat*1) (bcs (u.set x g)).length&&(g2&&(decide ((x:Int)<6)&&(Nat.ble ((x:Int).toNat*1+1) (bcs (u.set x g)).length&&true&&true))))))))))))))=true) (c0:pe (.c (.i (IntKind.i64.wrap ((j:Int)+1))))=pe (.c (.i (↑(j+1):Int)))) (c1:pe (.c (.b (AC.asB ((rcell A)[0+(↑(j+1):Int).toNat*6+(x:Int).toNat*1]?.getD (.b false)))))=pe (.c (.b g))) (c2:we 22 (splice (bcs u) ((x:Int).toNat*1) [.b g])=we 22 (bcs (u.set x g))) (c3:Ok 34 [.c (.i i.op)] (.c (.b true))) (c4:pe (.c (.b (AC.asB ((bcs (u.set x g))[(x:Int).toNat*1]?.getD (.b false)))))=pe (.c (.b g2))) (c5:we 22 (splice (bcs (u.set x g)) ((x:Int).toNat*1) [.b true])=we 22 (bcs u2)) (c6:pe (.c (.i (IntKind.i64.wrap ((x:Int)+1))))=pe (.c (.i (↑(x+1):Int)))) (lo:Kn.Low (zgn L M A j r (x+1) i u2)) (hF:∀ k,C.F k→k<24) (z:AR 15 Tryz.f15 C 1 (zgn L M A j r (x+1) i u2) R) :
  AR 15 Tryz.f15 C 1 (zgn L M A j r x i u) R :=
 zai [true,true,true,false,true,true] ([true]) [(14,3),(14,7),(14,9),(16,3),(16,7),(16,10),(16,14),(16,17),(12,1)] Tryz.func15 (by kernel_rfl) h (zac c0 (zac c1 (zac c2 (zab c3 (zac c4 (zac c5 (zac c6 zae))))))) lo hF z
theorem yal8 (h:(decide ((x:Int)<6)&&(i.op != 15&&(i.op != 12&&(decide ((↑(j+1):Int)<(L.length:Int))&&(decide ((x:Int)<6)&&(AC.isB ((rcell A)[0+(↑(j+1):Int).toNat*6+(x:Int).toNat*1]?.getD (.b false))&&Nat.blt (0+(↑(j+1):Int).toNat*6+(x:Int).toNat*1) (rcell A).length&&(decide ((x:Int)<6)&&(Nat.ble ((x:Int).toNat*1+List.length [AC.b g]) (bcs u).length&&true&&(!i.op==12&&(decide ((x:Int)<6)&&(AC.isB ((bcs (u.set x g))[(x:Int).toNat*1]?.getD (.b false))&&Nat.blt ((x:Int).toNat*1) (bcs (u.set x g)).length&&(!g2&&(decide (0≤(↑(j+1):Int)+i.of)&&decide ((↑(j+1):Int)+i.of<(L.length:Int))&&(decide ((x:Int)<6)&&(AC.isB ((rcell A)[0+((↑(j+1):Int)+i.of).toNat*6+(x:Int).toNat*1]?.getD (.b false))&&Nat.blt (0+((↑(j+1):Int)+i.of).toNat*6+(x:Int).toNat*1) (rcell A).length&&(decide ((x:Int)<6)&&(Nat.ble ((x:Int).toNat*1+List.length [AC.b g3]) (bcs (u.set x g)).length&&true&&true)))))))))))))))))=true) (c0:pe (.c (.i (IntKind.i64.wrap ((j:Int)+1))))=pe (.c (.i (↑(j+1):Int)))) (c1:pe (.c (.b (AC.asB ((rcell A)[0+(↑(j+1):Int).toNat*6+(x:Int).toNat*1]?.getD (.b false)))))=pe (.c (.b g))) (c2:we 22 (splice (bcs u) ((x:Int).toNat*1) [.b g])=we 22 (bcs (u.set x g))) (c3:Ok 34 [.c (.i i.op)] (.c (.b true))) (c4:pe (.c (.b (AC.asB ((bcs (u.set x g))[(x:Int).toNat*1]?.getD (.b false)))))=pe (.c (.b g2))) (c5:pe (.c (.i (IntKind.i64.wrap ((j:Int)+1))))=pe (.c (.i (↑(j+1):Int)))) (c6:pe (.c (.i (IntKind.i64.wrap ((↑(j+1):Int)+i.of))))=pe (.c (.i ((↑(j+1):Int)+i.of)))) (c7:pe (.c (.b (AC.asB ((rcell A)[0+((↑(j+1):Int)+i.of).toNat*6+(x:Int).toNat*1]?.getD (.b false)))))=pe (.c (.b g3))) (c8:we 22 (splice (bcs (u.set x g)) ((x:Int).toNat*1) [.b g3])=we 22 (bcs u2)) (c9:pe (.c (.i (IntKind.i64.wrap ((x:Int)+1))))=pe (.c (.i (↑(x+1):Int)))) (lo:Kn.Low (zgn L M A j r (x+1) i u2)) (hF:∀ k,C.F k→k<24) (z:AR 15 Tryz.f15 C 1 (zgn L M A j r (x+1) i u2) R) :
  AR 15 Tryz.f15 C 1 (zgn L M A j r x i u) R :=
 zai [true,true,true,false,true,false] ([true]) [(14,3),(14,7),(14,9),(16,3),(16,7),(16,10),(16,14),(16,17),(12,1)] Tryz.func15 (by kernel_rfl) h (zac c0 (zac c1 (zac c2 (zab c3 (zac c4 (zac c5 (zac c6 (zac c7 (zac c8 (zac c9 zae)))))))))) lo hF z
theorem yape (h:(decide ((x:Int)<6)&&(i.op != 15&&(!i.op != 12&&(i.op==12&&(decide ((x:Int)<6)&&(AC.isB ((bcs u)[(x:Int).toNat*1]?.getD (.b false))&&Nat.blt ((x:Int).toNat*1) (bcs u).length&&(g2&&(decide ((x:Int)<6)&&(Nat.ble ((x:Int).toNat*1+1) (bcs u).length&&true&&true)))))))))=true) (c0:pe (.c (.b (AC.asB ((bcs u)[(x:Int).toNat*1]?.getD (.b false)))))=pe (.c (.b g2))) (c1:we 22 (splice (bcs u) ((x:Int).toNat*1) [.b true])=we 22 (bcs u2)) (c2:pe (.c (.i (IntKind.i64.wrap ((x:Int)+1))))=pe (.c (.i (↑(x+1):Int)))) (lo:Kn.Low (zgn L M A j r (x+1) i u2)) (hF:∀ k,C.F k→k<24) (z:AR 15 Tryz.f15 C 1 (zgn L M A j r (x+1) i u2) R) :
  AR 15 Tryz.f15 C 1 (zgn L M A j r x i u) R :=
 zai [true,true,false,true,true,true] ([true]) [(14,3),(14,7),(14,9),(16,3),(16,7),(16,10),(16,14),(16,17),(12,1)] Tryz.func15 (by kernel_rfl) h (zac c0 (zac c1 (zac c2 zae))) lo hF z
theorem yapp (h:(decide ((x:Int)<6)&&(i.op != 15&&(!i.op != 12&&(i.op==12&&(decide ((x:Int)<6)&&(AC.isB ((bcs u)[(x:Int).toNat*1]?.getD (.b false))&&Nat.blt ((x:Int).toNat*1) (bcs u).length&&(!g2&&(decide (0≤(↑(j+1):Int)+i.of)&&decide ((↑(j+1):Int)+i.of<(L.length:Int))&&(decide ((x:Int)<6)&&(AC.isB ((rcell A)[0+((↑(j+1):Int)+i.of).toNat*6+(x:Int).toNat*1]?.getD (.b false))&&Nat.blt (0+((↑(j+1):Int)+i.of).toNat*6+(x:Int).toNat*1) (rcell A).length&&(decide ((x:Int)<6)&&(Nat.ble ((x:Int).toNat*1+List.length [AC.b g3]) (bcs u).length&&true&&true))))))))))))=true) (c0:pe (.c (.b (AC.asB ((bcs u)[(x:Int).toNat*1]?.getD (.b false)))))=pe (.c (.b g2))) (c1:pe (.c (.i (IntKind.i64.wrap ((j:Int)+1))))=pe (.c (.i (↑(j+1):Int)))) (c2:pe (.c (.i (IntKind.i64.wrap ((↑(j+1):Int)+i.of))))=pe (.c (.i ((↑(j+1):Int)+i.of)))) (c3:pe (.c (.b (AC.asB ((rcell A)[0+((↑(j+1):Int)+i.of).toNat*6+(x:Int).toNat*1]?.getD (.b false)))))=pe (.c (.b g3))) (c4:we 22 (splice (bcs u) ((x:Int).toNat*1) [.b g3])=we 22 (bcs u2)) (c5:pe (.c (.i (IntKind.i64.wrap ((x:Int)+1))))=pe (.c (.i (↑(x+1):Int)))) (lo:Kn.Low (zgn L M A j r (x+1) i u2)) (hF:∀ k,C.F k→k<24) (z:AR 15 Tryz.f15 C 1 (zgn L M A j r (x+1) i u2) R) :
  AR 15 Tryz.f15 C 1 (zgn L M A j r x i u) R :=
 zai [true,true,false,true,true,false] ([true]) [(14,3),(14,7),(14,9),(16,3),(16,7),(16,10),(16,14),(16,17),(12,1)] Tryz.func15 (by kernel_rfl) h (zac c0 (zac c1 (zac c2 (zac c3 (zac c4 (zac c5 zae)))))) lo hF z
theorem yatw (h:(decide ((x:Int)<6)&&(!i.op != 15&&(!i.op==12&&true)))=true) (c0:Ok 34 [.c (.i i.op)] (.c (.b false))) (c1:pe (.c (.i (IntKind.i64.wrap ((x:Int)+1))))=pe (.c (.i (↑(x+1):Int)))) (lo:Kn.Low (zgn L M A j r (x+1) i u)) (hF:∀ k,C.F k→k<24) (z:AR 15 Tryz.f15 C 1 (zgn L M A j r (x+1) i u) R) :
  AR 15 Tryz.f15 C 1 (zgn L M A j r x i u) R :=
 zai [true,false,false,false,false] ([true]) [(14,3),(14,7),(14,9),(16,3),(16,7),(16,10),(16,14),(16,17),(12,1)] Tryz.func15 (by kernel_rfl) h (zab c0 (zac c1 zae)) lo hF z
theorem yart (h:(decide (0≤i.d)&&decide (i.d<6)&&(AC.isB ((bcs u)[(i.d).toNat*1]?.getD (.b false))&&Nat.blt ((i.d).toNat*1) (bcs u).length&&(!g&&(decide ((j:Int)<(L.length:Int))&&(Nat.ble ((j:Int).toNat*5+5) (pcell M).length&&true&&(decide ((j:Int)<(L.length:Int))&&(Nat.ble ((j:Int).toNat*5+5) (pcell (M.set j onI)).length&&true)))))))=true) (c0:Ok 35 [.c (.i i.op),.c (.i 1),.c (.i 10)] (.c (.b true))) (c1:pe (.c (.b (AC.asB ((bcs u)[(i.d).toNat*1]?.getD (.b false)))))=pe (.c (.b g))) (c2:Ok 36 [] (.ag onI.cs)) (c3:we 4 (splice (pcell M) ((j:Int).toNat*5) onI.cs)=we 4 (pcell (M.set j onI))) (c4:pe (.ag (((pcell (M.set j onI)).drop ((j:Int).toNat*5)).take 5))=pe (.ag onI.cs)) (c5:Ok 37 [.ag [.i 12,.i 0,.i 0,.u 0#64,.i 0]] (.c zco)) (lo:Kn.Low (znq L (M.set j onI) A j 0 u)) (hF:∀ k,C.F k→k<45) (z:AR 15 Tryz.f15 C 2 (znq L (M.set j onI) A j 0 u) R) :
  AR 15 Tryz.f15 C 1 (yag9 L M A j r i u) R :=
 zai [false,true,true] ([true]) [(18,3),(19,4),(20,3),(21,3)] Tryz.func15 (by kernel_rfl) h (zab c0 (zac c1 (zab c2 (zac c3 (zac c4 (zab c5 zae)))))) lo hF z
theorem yaoz (h:(decide (0≤i.d)&&decide (i.d<6)&&(AC.isB ((bcs u)[(i.d).toNat*1]?.getD (.b false))&&Nat.blt ((i.d).toNat*1) (bcs u).length&&(!!g&&(decide (0≤i.d)&&decide (i.d<6)&&(Nat.ble ((i.d).toNat*1+1) (bcs u).length&&true&&true)))))=true) (c0:Ok 35 [.c (.i i.op),.c (.i 1),.c (.i 10)] (.c (.b true))) (c1:pe (.c (.b (AC.asB ((bcs u)[(i.d).toNat*1]?.getD (.b false)))))=pe (.c (.b g))) (c2:we 22 (splice (bcs u) ((i.d).toNat*1) [.b false])=we 22 (bcs (u.set (i.d).toNat false))) (c3:CO 37 [.ag i.cs] [] (Eff.mk (.c (.sx 39 q)) [] (some (39,Ent.mk true U 1)))) (lo:Kn.Low ⟨[(3,.c (.sx 4 L.length)),(4,.c (.sl 12 0 L.length L.length)),(5,.c (.i (j:Int))),(7,.c (.w 22)),(9,.c (.sx 39 q)),(10,.c (.i 0))],[(0,Ent.mk false (pcell L) 0),(4,Ent.mk true (pcell M) r),(12,Ent.mk true (rcell A) 0),(22,Ent.mk true (bcs (u.set (i.d).toNat false)) 0),(39,Ent.mk true U 1)],45⟩) (hF:∀ k,C.F k→k<45) (z:AR 15 Tryz.f15 C 2 ⟨[(3,.c (.sx 4 L.length)),(4,.c (.sl 12 0 L.length L.length)),(5,.c (.i (j:Int))),(7,.c (.w 22)),(9,.c (.sx 39 q)),(10,.c (.i 0))],[(0,Ent.mk false (pcell L) 0),(4,Ent.mk true (pcell M) r),(12,Ent.mk true (rcell A) 0),(22,Ent.mk true (bcs (u.set (i.d).toNat false)) 0),(39,Ent.mk true U 1)],45⟩ R) :
  AR 15 Tryz.f15 C 1 (yag9 L M A j r i u) R :=
 zai [false,true,false] ([true]) [(18,3),(19,4),(20,3),(21,3)] Tryz.func15 (by kernel_rfl) h (zab c0 (zac c1 (zac c2 (zab c3 zae)))) lo hF z
theorem yap0 (h:(decide (0≤i.d)&&decide (i.d<6)&&(AC.isB ((bcs u)[(i.d).toNat*1]?.getD (.b false))&&Nat.blt ((i.d).toNat*1) (bcs u).length&&(!!g&&(decide (0≤i.d)&&decide (i.d<6)&&(Nat.ble ((i.d).toNat*1+1) (bcs u).length&&true&&true)))))=true) (c0:Ok 35 [.c (.i i.op),.c (.i 1),.c (.i 10)] (.c (.b true))) (c1:pe (.c (.b (AC.asB ((bcs u)[(i.d).toNat*1]?.getD (.b false)))))=pe (.c (.b g))) (c2:we 22 (splice (bcs u) ((i.d).toNat*1) [.b false])=we 22 (bcs (u.set (i.d).toNat false))) (c3:Ok 37 [.ag i.cs] (.c zco)) (lo:Kn.Low (znq L M A j r (u.set (i.d).toNat false))) (hF:∀ k,C.F k→k<45) (z:AR 15 Tryz.f15 C 2 (znq L M A j r (u.set (i.d).toNat false)) R) :
  AR 15 Tryz.f15 C 1 (yag9 L M A j r i u) R :=
 zai [false,true,false] ([true]) [(18,3),(19,4),(20,3),(21,3)] Tryz.func15 (by kernel_rfl) h (zab c0 (zac c1 (zac c2 (zab c3 zae)))) lo hF z
theorem yal2 (c0:Ok 35 [.c (.i i.op),.c (.i 1),.c (.i 10)] (.c (.b false))) (c1:CO 37 [.ag i.cs] [] (Eff.mk (.c (.sx 30 q)) [] (some (30,Ent.mk true U 1)))) (lo:Kn.Low ⟨[(3,.c (.sx 4 L.length)),(4,.c (.sl 12 0 L.length L.length)),(5,.c (.i (j:Int))),(7,.c (.w 22)),(9,.c (.sx 30 q)),(10,.c (.i 0))],[(0,Ent.mk false (pcell L) 0),(4,Ent.mk true (pcell M) r),(12,Ent.mk true (rcell A) 0),(22,Ent.mk true (bcs u) 0),(30,Ent.mk true U 1)],45⟩) (hF:∀ k,C.F k→k<45) (z:AR 15 Tryz.f15 C 2 ⟨[(3,.c (.sx 4 L.length)),(4,.c (.sl 12 0 L.length L.length)),(5,.c (.i (j:Int))),(7,.c (.w 22)),(9,.c (.sx 30 q)),(10,.c (.i 0))],[(0,Ent.mk false (pcell L) 0),(4,Ent.mk true (pcell M) r),(12,Ent.mk true (rcell A) 0),(22,Ent.mk true (bcs u) 0),(30,Ent.mk true U 1)],45⟩ R) :
  AR 15 Tryz.f15 C 1 (yag9 L M A j r i u) R :=
 zai [false,false] ([true]) [(18,3),(19,4),(20,3),(21,3)] Tryz.func15 (by kernel_rfl) rfl (zab c0 (zab c1 zae)) lo hF z
theorem yal4 (c0:Ok 35 [.c (.i i.op),.c (.i 1),.c (.i 10)] (.c (.b false))) (c1:Ok 37 [.ag i.cs] (.c zco)) (lo:Kn.Low (znq L M A j r u)) (hF:∀ k,C.F k→k<45) (z:AR 15 Tryz.f15 C 2 (znq L M A j r u) R) :
  AR 15 Tryz.f15 C 1 (yag9 L M A j r i u) R :=
 zai [false,false] ([true]) [(18,3),(19,4),(20,3),(21,3)] Tryz.func15 (by kernel_rfl) rfl (zab c0 (zab c1 zae)) lo hF z
theorem yalh (h:(decide ((x:Int)<(q:Int))&&(decide ((x:Int)<(q:Int))&&(AC.isI (U[(x:Int).toNat*1]?.getD (.b false))&&Nat.blt ((x:Int).toNat*1) U.length&&(decide (0≤d)&&decide (d<6)&&(Nat.ble (d.toNat*1+1) (bcs u).length&&true&&true)))))=true) (c0:pe (.c (.i (AC.asI (U[(x:Int).toNat*1]?.getD (.b false)))))=pe (.c (.i d))) (c1:we 22 (splice (bcs u) (d.toNat*1) [.b true])=we 22 (bcs (u.set d.toNat true))) (c2:pe (.c (.i (IntKind.i64.wrap ((x:Int)+1))))=pe (.c (.i (↑(x+1):Int)))) (lo:Kn.Low (zqp L M A j r (x+1) q (u.set d.toNat true) U)) (hF:∀ k,C.F k→k<45) (z:AR 15 Tryz.f15 C 2 (zqp L M A j r (x+1) q (u.set d.toNat true) U) R) :
  AR 15 Tryz.f15 C 2 (zqp L M A j r x q u U) R :=
 zai [true] ([true]) [(26,3),(26,5),(25,1)] Tryz.func15 (by kernel_rfl) h (zac c0 (zac c1 (zac c2 zae))) lo hF z
theorem yakc (h:(!decide ((x:Int)<(q:Int))&&(decide ((j:Int)<(L.length:Int))&&(Nat.ble (0+(j:Int).toNat*6+(bcs u).length) (rcell A).length&&true&&true)))=true) (c0:we 12 (splice (rcell A) (0+(j:Int).toNat*6) (bcs u))=we 12 (rcell (A.set j u))) (c1:pe (.c (.i (IntKind.i64.wrap ((j:Int) - 1))))=pe (.c (.i ((j:Int) - 1)))) (lo:Kn.Low ⟨[(3,.c (.sx 4 L.length)),(4,.c (.sl 12 0 L.length L.length)),(5,.c (.i ((j:Int) - 1)))],[(0,Ent.mk false (pcell L) 0),(4,Ent.mk true (pcell M) r),(12,Ent.mk true (rcell (A.set j u)) 0)],14⟩) (hF:∀ k,C.F k→k<14) (z:AR 15 Tryz.f15 C 0 ⟨[(3,.c (.sx 4 L.length)),(4,.c (.sl 12 0 L.length L.length)),(5,.c (.i ((j:Int) - 1)))],[(0,Ent.mk false (pcell L) 0),(4,Ent.mk true (pcell M) r),(12,Ent.mk true (rcell (A.set j u)) 0)],14⟩ R) :
  AR 15 Tryz.f15 C 2 (zqp L M A j r x q u U) R :=
 zai [false] ([true]) [(27,4),(7,1)] Tryz.func15 (by kernel_rfl) h (zac c0 (zac c1 zae)) lo hF z
theorem yah6 (h:(decide ((x:Int)<(q:Int))&&(decide ((x:Int)<(q:Int))&&(AC.isI (U[(x:Int).toNat*1]?.getD (.b false))&&Nat.blt ((x:Int).toNat*1) U.length&&(decide (0≤d)&&decide (d<6)&&(Nat.ble (d.toNat*1+1) (bcs u).length&&true&&true)))))=true) (c0:pe (.c (.i (AC.asI (U[(x:Int).toNat*1]?.getD (.b false)))))=pe (.c (.i d))) (c1:we 22 (splice (bcs u) (d.toNat*1) [.b true])=we 22 (bcs (u.set d.toNat true))) (c2:pe (.c (.i (IntKind.i64.wrap ((x:Int)+1))))=pe (.c (.i (↑(x+1):Int)))) (lo:Kn.Low (zs2 L M A j r (x+1) q (u.set d.toNat true) U)) (hF:∀ k,C.F k→k<45) (z:AR 15 Tryz.f15 C 2 (zs2 L M A j r (x+1) q (u.set d.toNat true) U) R) :
  AR 15 Tryz.f15 C 2 (zs2 L M A j r x q u U) R :=
 zai [true] ([true]) [(26,3),(26,5),(25,1)] Tryz.func15 (by kernel_rfl) h (zac c0 (zac c1 (zac c2 zae))) lo hF z
theorem yaig (h:(!decide ((x:Int)<(q:Int))&&(decide ((j:Int)<(L.length:Int))&&(Nat.ble (0+(j:Int).toNat*6+(bcs u).length) (rcell A).length&&true&&true)))=true) (c0:we 12 (splice (rcell A) (0+(j:Int).toNat*6) (bcs u))=we 12 (rcell (A.set j u))) (c1:pe (.c (.i (IntKind.i64.wrap ((j:Int) - 1))))=pe (.c (.i ((j:Int) - 1)))) (lo:Kn.Low ⟨[(3,.c (.sx 4 L.length)),(4,.c (.sl 12 0 L.length L.length)),(5,.c (.i ((j:Int) - 1)))],[(0,Ent.mk false (pcell L) 0),(4,Ent.mk true (pcell M) r),(12,Ent.mk true (rcell (A.set j u)) 0)],14⟩) (hF:∀ k,C.F k→k<14) (z:AR 15 Tryz.f15 C 0 ⟨[(3,.c (.sx 4 L.length)),(4,.c (.sl 12 0 L.length L.length)),(5,.c (.i ((j:Int) - 1)))],[(0,Ent.mk false (pcell L) 0),(4,Ent.mk true (pcell M) r),(12,Ent.mk true (rcell (A.set j u)) 0)],14⟩ R) :
  AR 15 Tryz.f15 C 2 (zs2 L M A j r x q u U) R :=
 zai [false] ([true]) [(27,4),(7,1)] Tryz.func15 (by kernel_rfl) h (zac c0 (zac c1 zae)) lo hF z
theorem zqy (h:(decide ((j:Int)<(L.length:Int))&&(Nat.ble (0+(j:Int).toNat*6+(bcs u).length) (rcell A).length&&true&&true))=true) (c0:we 12 (splice (rcell A) (0+(j:Int).toNat*6) (bcs u))=we 12 (rcell (A.set j u))) (c1:pe (.c (.i (IntKind.i64.wrap ((j:Int) - 1))))=pe (.c (.i ((j:Int) - 1)))) (lo:Kn.Low ⟨[(3,.c (.sx 4 L.length)),(4,.c (.sl 12 0 L.length L.length)),(5,.c (.i ((j:Int) - 1)))],[(0,Ent.mk false (pcell L) 0),(4,Ent.mk true (pcell M) r),(12,Ent.mk true (rcell (A.set j u)) 0)],14⟩) (hF:∀ k,C.F k→k<14) (z:AR 15 Tryz.f15 C 0 ⟨[(3,.c (.sx 4 L.length)),(4,.c (.sl 12 0 L.length L.length)),(5,.c (.i ((j:Int) - 1)))],[(0,Ent.mk false (pcell L) 0),(4,Ent.mk true (pcell M) r),(12,Ent.mk true (rcell (A.set j u)) 0)],14⟩ R) :
  AR 15 Tryz.f15 C 2 (znq L M A j r u) R :=
 zai [false] ([true]) [(27,4),(7,1)] Tryz.func15 (by kernel_rfl) h (zac c0 (zac c1 zae)) lo hF z
end
section
variable {L:List Ins} {c n q:Nat} {e tr p:Int} {w:World} {β:Bs} {S S2:List St}
end
section
abbrev zgv (L:List Ins) (c j:Nat) (S:List St):Kn:=⟨[(0,.c (.sl 0 0 L.length c)),(2,.c (.w 1)),(3,.c (.sl 4 0 L.length L.length)),(4,.c (.i (j:Int)))],[(0,Ent.mk false (pcell L) 0),(1,Ent.mk true [.i 0,.i 0,zco] 0),(4,Ent.mk true (scell S) 0)],6⟩
variable {L:List Ins} {c j n q d:Nat} {b a u1 g1 u2 g2 u:St} {C:Cx} {R:Ending→World→Prop} {S S1 S2:List St} {tr p:Int} {w:World} {β:Bs}
theorem yaxj (h:(decide ((L.length:Int)≤(L.length:Int))&&decide ((L.length:Int)≤1099511627776)&&true&&(decide (0<(L.length:Int))&&(Nat.ble (0+(b.cs).length) (scell (List.replicate L.length St.z)).length&&true&&true)))=true) (c0:Eff.mk (.c (.sl 4 0 (L.length:Int).toNat (L.length:Int).toNat)) [] (some (1+1+2,Ent.mk true (rows (L.length:Int).toNat St.z.cs) 0))=Eff.mk (.c (.sl 4 0 L.length L.length)) [] (some (4,Ent.mk true (scell (List.replicate L.length St.z)) 0))) (c1:Ok 30 [] (.ag b.cs)) (c2:we 4 (splice (scell (List.replicate L.length St.z)) 0 b.cs)=we 4 (scell ((List.replicate L.length St.z).set 0 b))) (lo:Kn.Low ⟨[(0,.c (.sl 0 0 L.length c)),(2,.c (.w 1)),(3,.c (.sl 4 0 L.length L.length)),(4,.c (.i 0))],[(0,Ent.mk false (pcell L) 0),(1,Ent.mk true [.i 0,.i 0,zco] 0),(4,Ent.mk true (scell ((List.replicate L.length St.z).set 0 b)) 0)],6⟩) (hF:∀ k,C.F k→k<6) (z:AR 12 Tryz.f12 C 0 ⟨[(0,.c (.sl 0 0 L.length c)),(2,.c (.w 1)),(3,.c (.sl 4 0 L.length L.length)),(4,.c (.i 0))],[(0,Ent.mk false (pcell L) 0),(1,Ent.mk true [.i 0,.i 0,zco] 0),(4,Ent.mk true (scell ((List.replicate L.length St.z).set 0 b)) 0)],6⟩ R) :
  BO 12 Tryz.f12 C [.c (.sl 0 0 L.length c)] [(0,Ent.mk false (pcell L) 0)] 1 R :=
 zai [] ([true]) [(1,2),(2,3)] Tryz.func12 (by kernel_rfl) h (zac c0 (zab c1 (zac c2 zae))) lo hF z
theorem yae3 (h:(decide ((j:Int)<(L.length:Int))&&(decide ((j:Int)<(L.length:Int))&&(Nat.ble (0+(j:Int).toNat*5+5) (pcell L).length&&(decide ((j:Int)<(L.length:Int))&&(Nat.ble (0+(j:Int).toNat*31+31) (scell S).length&&(tr != 0&&(decide ((↑(j+1):Int)≤(L.length:Int))&&decide ((L.length:Int)≤(L.length:Int))&&true)))))))=true) (c0:pe (.ag (((pcell L).drop (0+(j:Int).toNat*5)).take 5))=pe (.ag (elt L j).cs)) (c1:pe (.ag (((scell S).drop (0+(j:Int).toNat*31)).take 31))=pe (.ag (stAt S j).cs)) (c2:Ok 31 [.ag (elt L j).cs,.ag (stAt S j).cs] (.tu [.ag a.cs,.ag b.cs,.c (.i tr)])) (c3:pe (.c (.i (IntKind.i64.wrap ((j:Int)+1))))=pe (.c (.i (↑(j+1):Int)))) (c4:pe (.c (.sl 4 0 ((↑(j+1):Int)).toNat ((L.length:Int)).toNat))=pe (.c (.sl 4 0 (j+1) L.length))) (hk:EKeys n [] (some 4) ⟨.ag [.i tr,.i (j:Int),.sl 4 0 (j+1) L.length],[],some (4,Ent.mk true (scell S) 0)⟩) :
  AR 12 Tryz.f12 (cx w β n []) 0 (zgv L c j S) (REff w β ⟨.ag [.i tr,.i (j:Int),.sl 4 0 (j+1) L.length],[],some (4,Ent.mk true (scell S) 0)⟩) :=
 zah [] (some 4) [true,true] ([true]) [(6,3),(6,7),(8,4),(8,5)] Tryz.func12 hk (by kernel_rfl) h (zac c0 (zac c1 (zab c2 (zac c3 (zac c4 zae)))))
theorem yaj0 (h:(!decide ((j:Int)<(L.length:Int))&&true)=true) (hk:EKeys n [] (some 4) ⟨.ag [.i 0,.i 0,.sl 4 0 L.length L.length],[],some (4,Ent.mk true (scell S) 0)⟩) :
  AR 12 Tryz.f12 (cx w β n []) 0 (zgv L c j S) (REff w β ⟨.ag [.i 0,.i 0,.sl 4 0 L.length L.length],[],some (4,Ent.mk true (scell S) 0)⟩) :=
 zah [] (some 4) [false] ([true]) [] Tryz.func12 hk (by kernel_rfl) h zae
theorem yanp (h:(decide ((j:Int)<(L.length:Int))&&(decide ((j:Int)<(L.length:Int))&&(Nat.ble (0+(j:Int).toNat*5+5) (pcell L).length&&(decide ((j:Int)<(L.length:Int))&&(Nat.ble (0+(j:Int).toNat*31+31) (scell S).length&&(decide ((↑(j+1):Int)<(L.length:Int))&&(decide ((↑(j+1):Int)<(L.length:Int))&&(Nat.ble (0+(↑(j+1):Int).toNat*31+31) (scell S).length&&(decide ((↑(j+1):Int)<(L.length:Int))&&(Nat.ble (0+(↑(j+1):Int).toNat*31+(u1.cs).length) (scell S).length&&true&&(decide ((j:Int)<(L.length:Int))&&(AC.isI ((pcell L)[0+(j:Int).toNat*5+4]?.getD (.b false))&&Nat.blt (0+(j:Int).toNat*5+4) (pcell L).length&&(!b.live&&true)))))))))))))=true) (c0:pe (.ag (((pcell L).drop (0+(j:Int).toNat*5)).take 5))=pe (.ag (elt L j).cs)) (c1:pe (.ag (((scell S).drop (0+(j:Int).toNat*31)).take 31))=pe (.ag (stAt S j).cs)) (c2:Ok 31 [.ag (elt L j).cs,.ag (stAt S j).cs] (.tu [.ag a.cs,.ag b.cs,.c (.i 0)])) (c3:pe (.c (.i (IntKind.i64.wrap ((j:Int)+1))))=pe (.c (.i (↑(j+1):Int)))) (c4:pe (.c (.i (IntKind.i64.wrap ((j:Int)+1))))=pe (.c (.i (↑(j+1):Int)))) (c5:pe (.c (.i (IntKind.i64.wrap ((j:Int)+1))))=pe (.c (.i (↑(j+1):Int)))) (c6:pe (.ag (((scell S).drop (0+(↑(j+1):Int).toNat*31)).take 31))=pe (.ag g1.cs)) (c7:Ok 32 [.ag g1.cs,.ag a.cs] (.ag u1.cs)) (c8:we 4 (splice (scell S) (0+(↑(j+1):Int).toNat*31) u1.cs)=we 4 (scell S1)) (c9:pe (.c (.i (IntKind.i64.wrap ((j:Int)+1))))=pe (.c (.i (↑(j+1):Int)))) (c10:pe (.c (.i (AC.asI ((pcell L)[0+(j:Int).toNat*5+4]?.getD (.b false)))))=pe (.c (.i (elt L j).of))) (c11:pe (.c (.i (IntKind.i64.wrap ((↑(j+1):Int)+(elt L j).of))))=pe (.c (.i ((↑(j+1):Int)+(elt L j).of)))) (c12:pe (.c (.i (IntKind.i64.wrap ((j:Int)+1))))=pe (.c (.i (↑(j+1):Int)))) (lo:Kn.Low (zgv L c (j+1) S1)) (hF:∀ k,C.F k→k<6) (z:AR 12 Tryz.f12 C 0 (zgv L c (j+1) S1) R) :
  AR 12 Tryz.f12 C 0 (zgv L c j S) R :=
 zai [true,false,true,false] ([true]) [(6,3),(6,7),(9,1),(10,2),(10,5),(10,7),(10,11),(11,1),(11,6),(11,7),(13,5),(13,9),(5,1)] Tryz.func12 (by kernel_rfl) h (zac c0 (zac c1 (zab c2 (zac c3 (zac c4 (zac c5 (zac c6 (zab c7 (zac c8 (zac c9 (zac c10 (zac c11 (zac c12 zae))))))))))))) lo hF z
theorem yamx (h:(decide ((j:Int)<(L.length:Int))&&(decide ((j:Int)<(L.length:Int))&&(Nat.ble (0+(j:Int).toNat*5+5) (pcell L).length&&(decide ((j:Int)<(L.length:Int))&&(Nat.ble (0+(j:Int).toNat*31+31) (scell S).length&&(decide ((↑(j+1):Int)<(L.length:Int))&&(decide ((↑(j+1):Int)<(L.length:Int))&&(Nat.ble (0+(↑(j+1):Int).toNat*31+31) (scell S).length&&(decide ((↑(j+1):Int)<(L.length:Int))&&(Nat.ble (0+(↑(j+1):Int).toNat*31+(u1.cs).length) (scell S).length&&true&&(decide ((j:Int)<(L.length:Int))&&(AC.isI ((pcell L)[0+(j:Int).toNat*5+4]?.getD (.b false))&&Nat.blt (0+(j:Int).toNat*5+4) (pcell L).length&&(b.live&&(decide (0≤(↑(j+1):Int)+(elt L j).of)&&decide ((↑(j+1):Int)+(elt L j).of<(L.length:Int))&&(Nat.ble (0+((↑(j+1):Int)+(elt L j).of).toNat*31+31) (scell S1).length&&(decide (0≤(↑(j+1):Int)+(elt L j).of)&&decide ((↑(j+1):Int)+(elt L j).of<(L.length:Int))&&(Nat.ble (0+((↑(j+1):Int)+(elt L j).of).toNat*31+(u2.cs).length) (scell S1).length&&true&&true)))))))))))))))))=true) (c0:pe (.ag (((pcell L).drop (0+(j:Int).toNat*5)).take 5))=pe (.ag (elt L j).cs)) (c1:pe (.ag (((scell S).drop (0+(j:Int).toNat*31)).take 31))=pe (.ag (stAt S j).cs)) (c2:Ok 31 [.ag (elt L j).cs,.ag (stAt S j).cs] (.tu [.ag a.cs,.ag b.cs,.c (.i 0)])) (c3:pe (.c (.i (IntKind.i64.wrap ((j:Int)+1))))=pe (.c (.i (↑(j+1):Int)))) (c4:pe (.c (.i (IntKind.i64.wrap ((j:Int)+1))))=pe (.c (.i (↑(j+1):Int)))) (c5:pe (.c (.i (IntKind.i64.wrap ((j:Int)+1))))=pe (.c (.i (↑(j+1):Int)))) (c6:pe (.ag (((scell S).drop (0+(↑(j+1):Int).toNat*31)).take 31))=pe (.ag g1.cs)) (c7:Ok 32 [.ag g1.cs,.ag a.cs] (.ag u1.cs)) (c8:we 4 (splice (scell S) (0+(↑(j+1):Int).toNat*31) u1.cs)=we 4 (scell S1)) (c9:pe (.c (.i (IntKind.i64.wrap ((j:Int)+1))))=pe (.c (.i (↑(j+1):Int)))) (c10:pe (.c (.i (AC.asI ((pcell L)[0+(j:Int).toNat*5+4]?.getD (.b false)))))=pe (.c (.i (elt L j).of))) (c11:pe (.c (.i (IntKind.i64.wrap ((↑(j+1):Int)+(elt L j).of))))=pe (.c (.i ((↑(j+1):Int)+(elt L j).of)))) (c12:pe (.ag (((scell S1).drop (0+((↑(j+1):Int)+(elt L j).of).toNat*31)).take 31))=pe (.ag g2.cs)) (c13:Ok 32 [.ag g2.cs,.ag b.cs] (.ag u2.cs)) (c14:we 4 (splice (scell S1) (0+((↑(j+1):Int)+(elt L j).of).toNat*31) u2.cs)=we 4 (scell S2)) (c15:pe (.c (.i (IntKind.i64.wrap ((j:Int)+1))))=pe (.c (.i (↑(j+1):Int)))) (lo:Kn.Low (zgv L c (j+1) S2)) (hF:∀ k,C.F k→k<6) (z:AR 12 Tryz.f12 C 0 (zgv L c (j+1) S2) R) :
  AR 12 Tryz.f12 C 0 (zgv L c j S) R :=
 zai [true,false,true,true] ([true]) [(6,3),(6,7),(9,1),(10,2),(10,5),(10,7),(10,11),(11,1),(11,6),(11,7),(13,5),(13,9),(5,1)] Tryz.func12 (by kernel_rfl) h (zac c0 (zac c1 (zab c2 (zac c3 (zac c4 (zac c5 (zac c6 (zab c7 (zac c8 (zac c9 (zac c10 (zac c11 (zac c12 (zab c13 (zac c14 (zac c15 zae)))))))))))))))) lo hF z
theorem yaoa (h:(decide ((j:Int)<(L.length:Int))&&(decide ((j:Int)<(L.length:Int))&&(Nat.ble (0+(j:Int).toNat*5+5) (pcell L).length&&(decide ((j:Int)<(L.length:Int))&&(Nat.ble (0+(j:Int).toNat*31+31) (scell S).length&&(!decide ((↑(j+1):Int)<(L.length:Int))&&(decide ((j:Int)<(L.length:Int))&&(AC.isI ((pcell L)[0+(j:Int).toNat*5+4]?.getD (.b false))&&Nat.blt (0+(j:Int).toNat*5+4) (pcell L).length&&(!b.live&&true)))))))))=true) (c0:pe (.ag (((pcell L).drop (0+(j:Int).toNat*5)).take 5))=pe (.ag (elt L j).cs)) (c1:pe (.ag (((scell S).drop (0+(j:Int).toNat*31)).take 31))=pe (.ag (stAt S j).cs)) (c2:Ok 31 [.ag (elt L j).cs,.ag (stAt S j).cs] (.tu [.ag a.cs,.ag b.cs,.c (.i 0)])) (c3:pe (.c (.i (IntKind.i64.wrap ((j:Int)+1))))=pe (.c (.i (↑(j+1):Int)))) (c4:pe (.c (.i (IntKind.i64.wrap ((j:Int)+1))))=pe (.c (.i (↑(j+1):Int)))) (c5:pe (.c (.i (AC.asI ((pcell L)[0+(j:Int).toNat*5+4]?.getD (.b false)))))=pe (.c (.i (elt L j).of))) (c6:pe (.c (.i (IntKind.i64.wrap ((↑(j+1):Int)+(elt L j).of))))=pe (.c (.i ((↑(j+1):Int)+(elt L j).of)))) (c7:pe (.c (.i (IntKind.i64.wrap ((j:Int)+1))))=pe (.c (.i (↑(j+1):Int)))) (lo:Kn.Low (zgv L c (j+1) S)) (hF:∀ k,C.F k→k<6) (z:AR 12 Tryz.f12 C 0 (zgv L c (j+1) S) R) :
  AR 12 Tryz.f12 C 0 (zgv L c j S) R :=
 zai [true,false,false,false] ([true]) [(6,3),(6,7),(9,1),(10,2),(10,5),(10,7),(10,11),(11,1),(11,6),(11,7),(13,5),(13,9),(5,1)] Tryz.func12 (by kernel_rfl) h (zac c0 (zac c1 (zab c2 (zac c3 (zac c4 (zac c5 (zac c6 (zac c7 zae)))))))) lo hF z
end
section
abbrev zbk (i:Ins) (t:St) (q k:Nat) (U:List AC):Kn:=⟨[(2,.c (.w 0)),(3,.c (.w 1)),(4,.c (.w 2)),(5,.c (.w 3)),(7,.c (.sx 9 q)),(8,.c (.i (k:Int)))],[(0,Ent.mk true i.cs 0),(1,Ent.mk true t.cs 0),(2,Ent.mk true St.z.cs 0),(3,Ent.mk true St.z.cs 0),(9,Ent.mk true U 1)],10⟩
variable {t t1 t2:St} {d:Int} {a x y x1 y1 c b:V4} {i:Ins} {V:AV} {f1 f2 p1 p2:Bool} {w:World} {β:Bs} {n k:Nat} {U:List AC} {C:Cx} {R:Ending→World→Prop} {E:Eff}
theorem yani (h:(decide (0≤d)&&decide (d<6)&&(Nat.ble (1+d.toNat*1+1) (t.cs).length&&true&&(decide (0≤d)&&decide (d<6)&&(Nat.ble (7+d.toNat*4+(a.cs).length) ((St.mk t.live ((t.s).set d.toNat true) t.r).cs).length&&true&&true))))=true) (c0:we 0 ((t.cs).set (1+d.toNat*1) (.b true))=we 0 ((St.mk t.live ((t.s).set d.toNat true) t.r).cs)) (c1:we 0 (splice (St.mk t.live ((t.s).set d.toNat true) t.r).cs (7+d.toNat*4) a.cs)=we 0 ((St.wth t d.toNat a).cs)) :
  Ok 82 [.ag t.cs,.c (.i d),.ag a.cs] (.ag [.b t.live,.b ((t.s).set d.toNat true).x0,.b ((t.s).set d.toNat true).x1,.b ((t.s).set d.toNat true).x2,.b ((t.s).set d.toNat true).x3,.b ((t.s).set d.toNat true).x4,.b ((t.s).set d.toNat true).x5,.u (((t.r).set d.toNat a).x0).v,.u (((t.r).set d.toNat a).x0).m,.u (((t.r).set d.toNat a).x0).l,.u (((t.r).set d.toNat a).x0).h,.u (((t.r).set d.toNat a).x1).v,.u (((t.r).set d.toNat a).x1).m,.u (((t.r).set d.toNat a).x1).l,.u (((t.r).set d.toNat a).x1).h,.u (((t.r).set d.toNat a).x2).v,.u (((t.r).set d.toNat a).x2).m,.u (((t.r).set d.toNat a).x2).l,.u (((t.r).set d.toNat a).x2).h,.u (((t.r).set d.toNat a).x3).v,.u (((t.r).set d.toNat a).x3).m,.u (((t.r).set d.toNat a).x3).l,.u (((t.r).set d.toNat a).x3).h,.u (((t.r).set d.toNat a).x4).v,.u (((t.r).set d.toNat a).x4).m,.u (((t.r).set d.toNat a).x4).l,.u (((t.r).set d.toNat a).x4).h,.u (((t.r).set d.toNat a).x5).v,.u (((t.r).set d.toNat a).x5).m,.u (((t.r).set d.toNat a).x5).l,.u (((t.r).set d.toNat a).x5).h]) :=
 zaf [] ([]) [(1,3),(2,4)] Tryz.func82 rfl rfl rfl rfl (by kernel_rfl) h (zac c0 (zac c1 zae))
theorem yanq {q:Bool} (h:(!q&&true)=true) :
  Ok 79 [.ag i.cs,.ag t.cs,.ag x.cs,.ag y.cs,.c (.b q)] (.ag St.z.cs) :=
 zaf [true] ([]) [] Tryz.func79 rfl rfl rfl rfl (by kernel_rfl) h zae
theorem yam7 {q:Bool} (h:(!!q&&(i.s != -1&&true))=true) (c0:Ok 82 [.ag t.cs,.c (.i i.d),.ag x.cs] (.ag t1.cs)) (c1:Ok 82 [.ag t1.cs,.c (.i i.s),.ag y.cs] (.ag t2.cs)) :
  Ok 79 [.ag i.cs,.ag t.cs,.ag x.cs,.ag y.cs,.c (.b q)] (.ag t2.cs) :=
 zaf [false,true] ([]) [] Tryz.func79 rfl rfl rfl rfl (by kernel_rfl) h (zab c0 (zab c1 zae))
theorem yam2 {q:Bool} (h:(!!q&&(!i.s != -1&&true))=true) (c0:Ok 82 [.ag t.cs,.c (.i i.d),.ag x.cs] (.ag t1.cs)) :
  Ok 79 [.ag i.cs,.ag t.cs,.ag x.cs,.ag y.cs,.c (.b q)] (.ag t1.cs) :=
 zaf [false,false] ([]) [] Tryz.func79 rfl rfl rfl rfl (by kernel_rfl) h (zab c0 zae)
theorem yajs {q:Bool}
  (l0:(!q)=true→(AV.ag St.z.cs=V))
  (l1:(!q)=false→(i.s != -1)=true→(Ok 82 [.ag t.cs,.c (.i i.d),.ag x.cs] (.ag t1.cs))∧(Ok 82 [.ag t1.cs,.c (.i i.s),.ag y.cs] (.ag t2.cs))∧(AV.ag t2.cs=V))
  (l2:(!q)=false→(i.s != -1)=false→(Ok 82 [.ag t.cs,.c (.i i.d),.ag x.cs] (.ag t1.cs))∧(AV.ag t1.cs=V)) :
  Ok 79 [.ag i.cs,.ag t.cs,.ag x.cs,.ag y.cs,.c (.b q)] V :=
 (tf (!q)).elim (fun h0=>(match l0 h0 with | e=>zam (yanq (zaa h0 rfl)) e)) (fun h0=>(tf (i.s != -1)).elim (fun h1=>(match l1 h0 h1 with | ⟨c0,c1,e⟩=>zam (yam7 (zaa (zad h0) (zaa h1 rfl)) c0 c1) e)) (fun h1=>(match l2 h0 h1 with | ⟨c0,e⟩=>zam (yam2 (zaa (zad h0) (zaa (zad h1) rfl)) c0) e)))
theorem yapu (h:(!t.live&&true)=true) :
  BO 31 Tryz.f31 (cx w β n []) [.ag i.cs,.ag t.cs] [] 0 (REff w β ⟨.tu [.ag St.z.cs,.ag St.z.cs,.c (.i 0)],[],none⟩) :=
 zah [] none [true] ([true]) [] Tryz.func31 (zau rfl n) (by kernel_rfl) h zae
theorem yao9 {q:Nat} (h:(!!t.live&&true)=true) (c0:CO 37 [.ag i.cs] [] (Eff.mk (.c (.sx 9 q)) [] (some (9,Ent.mk true U 1)))) (lo:Kn.Low ⟨[(2,.c (.w 0)),(3,.c (.w 1)),(4,.c (.w 2)),(5,.c (.w 3)),(7,.c (.sx 9 q)),(8,.c (.i 0))],[(0,Ent.mk true i.cs 0),(1,Ent.mk true t.cs 0),(2,Ent.mk true St.z.cs 0),(3,Ent.mk true St.z.cs 0),(9,Ent.mk true U 1)],10⟩) (hF:∀ k,C.F k→k<10) (z:AR 31 Tryz.f31 C 0 ⟨[(2,.c (.w 0)),(3,.c (.w 1)),(4,.c (.w 2)),(5,.c (.w 3)),(7,.c (.sx 9 q)),(8,.c (.i 0))],[(0,Ent.mk true i.cs 0),(1,Ent.mk true t.cs 0),(2,Ent.mk true St.z.cs 0),(3,Ent.mk true St.z.cs 0),(9,Ent.mk true U 1)],10⟩ R) :
  BO 31 Tryz.f31 C [.ag i.cs,.ag t.cs] [] 0 R :=
 zai [false] ([true]) [] Tryz.func31 (by kernel_rfl) h (zab c0 zae) lo hF z
theorem yadz {q:Nat} (h:(decide ((k:Int)<(q:Int))&&(decide ((k:Int)<(q:Int))&&(AC.isI (U[(k:Int).toNat*1]?.getD (.b false))&&Nat.blt ((k:Int).toNat*1) U.length&&(decide (0≤d)&&decide (d<6)&&(AC.isB ((t.cs)[1+d.toNat*1]?.getD (.b false))&&Nat.blt (1+d.toNat*1) (t.cs).length&&(!(t.s).get d.toNat&&true))))))=true) (c0:pe (.c (.i (AC.asI (U[(k:Int).toNat*1]?.getD (.b false)))))=pe (.c (.i d))) (c1:pe (.c (.b (AC.asB ((t.cs)[1+d.toNat*1]?.getD (.b false)))))=pe (.c (.b ((t.s).get d.toNat)))) :
  AR 31 Tryz.f31 (cx w β n []) 0 (zbk i t q k U) (REff w β ⟨.tu [.ag St.z.cs,.ag St.z.cs,.c (.i 1)],[],none⟩) :=
 zah [] none [true,true] ([true]) [(7,3),(7,6),(6,1)] Tryz.func31 (zau rfl n) (by kernel_rfl) h (zac c0 (zac c1 zae))
theorem yaeh {q:Nat} (h:(decide ((k:Int)<(q:Int))&&(decide ((k:Int)<(q:Int))&&(AC.isI (U[(k:Int).toNat*1]?.getD (.b false))&&Nat.blt ((k:Int).toNat*1) U.length&&(decide (0≤d)&&decide (d<6)&&(AC.isB ((t.cs)[1+d.toNat*1]?.getD (.b false))&&Nat.blt (1+d.toNat*1) (t.cs).length&&(!!(t.s).get d.toNat&&true))))))=true) (c0:pe (.c (.i (AC.asI (U[(k:Int).toNat*1]?.getD (.b false)))))=pe (.c (.i d))) (c1:pe (.c (.b (AC.asB ((t.cs)[1+d.toNat*1]?.getD (.b false)))))=pe (.c (.b ((t.s).get d.toNat)))) (c2:pe (.c (.i (IntKind.i64.wrap ((k:Int)+1))))=pe (.c (.i (↑(k+1):Int)))) (lo:Kn.Low (zbk i t q (k+1) U)) (hF:∀ k,C.F k→k<10) (z:AR 31 Tryz.f31 C 0 (zbk i t q (k+1) U) R) :
  AR 31 Tryz.f31 C 0 (zbk i t q k U) R :=
 zai [true,false] ([true]) [(7,3),(7,6),(6,1)] Tryz.func31 (by kernel_rfl) h (zac c0 (zac c1 (zac c2 zae))) lo hF z
theorem zy6 {q:Nat} (hn:n≤10)
  (l0:(!(t.s).get d.toNat)=true→(decide ((k:Int)<(q:Int)))=true∧(decide ((k:Int)<(q:Int)))=true∧(AC.isI (U[(k:Int).toNat*1]?.getD (.b false))&&Nat.blt ((k:Int).toNat*1) U.length)=true∧(decide (0≤d)&&decide (d<6))=true∧(AC.isB ((t.cs)[1+d.toNat*1]?.getD (.b false))&&Nat.blt (1+d.toNat*1) (t.cs).length)=true∧(pe (.c (.i (AC.asI (U[(k:Int).toNat*1]?.getD (.b false)))))=pe (.c (.i d)))∧(pe (.c (.b (AC.asB ((t.cs)[1+d.toNat*1]?.getD (.b false)))))=pe (.c (.b ((t.s).get d.toNat))))∧((⟨.tu [.ag St.z.cs,.ag St.z.cs,.c (.i 1)],[],none⟩:Eff)=E))
  (l1:(!(t.s).get d.toNat)=false→(decide ((k:Int)<(q:Int)))=true∧(decide ((k:Int)<(q:Int)))=true∧(AC.isI (U[(k:Int).toNat*1]?.getD (.b false))&&Nat.blt ((k:Int).toNat*1) U.length)=true∧(decide (0≤d)&&decide (d<6))=true∧(AC.isB ((t.cs)[1+d.toNat*1]?.getD (.b false))&&Nat.blt (1+d.toNat*1) (t.cs).length)=true∧(pe (.c (.i (AC.asI (U[(k:Int).toNat*1]?.getD (.b false)))))=pe (.c (.i d)))∧(pe (.c (.b (AC.asB ((t.cs)[1+d.toNat*1]?.getD (.b false)))))=pe (.c (.b ((t.s).get d.toNat))))∧(pe (.c (.i (IntKind.i64.wrap ((k:Int)+1))))=pe (.c (.i (↑(k+1):Int))))∧Kn.Low (zbk i t q (k+1) U)∧AR 31 Tryz.f31 (cx w β n []) 0 (zbk i t q (k+1) U) (REff w β E)) :
  AR 31 Tryz.f31 (cx w β n []) 0 (zbk i t q k U) (REff w β E) :=
 (tf (!(t.s).get d.toNat)).elim (fun h0=>(match l0 h0 with | ⟨o0,o1,o2,o3,o4,c0,c1,e⟩=>za5 (yadz (zaa o0 (zaa o1 (zaa o2 (zaa o3 (zaa o4 (zaa h0 rfl)))))) c0 c1) e)) (fun h0=>(match l1 h0 with | ⟨o0,o1,o2,o3,o4,c0,c1,c2,lo,z⟩=>yaeh (zaa o0 (zaa o1 (zaa o2 (zaa o3 (zaa o4 (zaa (zad h0) rfl)))))) c0 c1 c2 lo (fun _ hk=>Nat.lt_of_lt_of_le hk hn) z))
theorem yarw {q:Nat} (h:(!decide ((k:Int)<(q:Int))&&(i.s != -1&&(decide (0≤i.s)&&decide (i.s<6)&&(Nat.ble (7+(i.s).toNat*4+4) (t.cs).length&&(decide (0≤i.d)&&decide (i.d<6)&&(Nat.ble (7+(i.d).toNat*4+4) (t.cs).length&&(!i.op==10&&(decide (0≤i.d)&&decide (i.d<6)&&(Nat.ble (7+(i.d).toNat*4+4) (t.cs).length&&(i.op==15&&true))))))))))=true) (c0:Ok 74 [.c (.u i.im)] (.ag a.cs)) (c1:pe (.ag (((t.cs).drop (7+(i.s).toNat*4)).take 4))=pe (.ag ((t.r).get (i.s).toNat).cs)) (c2:pe (.ag (((t.cs).drop (7+(i.d).toNat*4)).take 4))=pe (.ag ((t.r).get (i.d).toNat).cs)) (c3:Ok 75 [.c (.i i.op)] (.c (.b false))) (c4:pe (.ag (((t.cs).drop (7+(i.d).toNat*4)).take 4))=pe (.ag ((t.r).get (i.d).toNat).cs)) :
  AR 31 Tryz.f31 (cx w β n []) 0 (zbk i t q k U) (REff w β ⟨.tu [.ag St.z.cs,.ag St.z.cs,.c (.i 0)],[],none⟩) :=
 zah [] none [false,true,false,false,false,true] ([true]) [(11,4),(12,4),(17,4)] Tryz.func31 (zau rfl n) (by kernel_rfl) h (zab c0 (zac c1 (zac c2 (zab c3 (zac c4 zae)))))
theorem yanm {q:Nat} (h:(!decide ((k:Int)<(q:Int))&&(!i.s != -1&&(decide (0≤i.d)&&decide (i.d<6)&&(Nat.ble (7+(i.d).toNat*4+4) (t.cs).length&&(!i.op==10&&(decide (0≤i.d)&&decide (i.d<6)&&(Nat.ble (7+(i.d).toNat*4+4) (t.cs).length&&(!i.op==15&&(!i.op==12&&(i.op==13&&true))))))))))=true) (c0:Ok 74 [.c (.u i.im)] (.ag a.cs)) (c1:pe (.ag (((t.cs).drop (7+(i.d).toNat*4)).take 4))=pe (.ag ((t.r).get (i.d).toNat).cs)) (c2:Ok 75 [.c (.i i.op)] (.c (.b false))) (c3:pe (.ag (((t.cs).drop (7+(i.d).toNat*4)).take 4))=pe (.ag ((t.r).get (i.d).toNat).cs)) (c4:Ok 77 [.ag ((t.r).get (i.d).toNat).cs,.ag a.cs] (.tu [.ag x.cs,.ag y.cs,.c (.b p1)])) (c5:Ok 78 [.ag ((t.r).get (i.d).toNat).cs,.ag a.cs] (.tu [.ag x1.cs,.ag y1.cs,.c (.b p2)])) (c6:Ok 79 [.ag i.cs,.ag t.cs,.ag x.cs,.ag y.cs,.c (.b p1)] (.ag t1.cs)) (c7:Ok 79 [.ag i.cs,.ag t.cs,.ag x1.cs,.ag y1.cs,.c (.b p2)] (.ag t2.cs)) :
  AR 31 Tryz.f31 (cx w β n []) 0 (zbk i t q k U) (REff w β ⟨.tu [.ag t1.cs,.ag t2.cs,.c (.i 0)],[],none⟩) :=
 zah [] none [false,false,false,false,false,false,false,true] ([true]) [(11,4),(12,4),(17,4)] Tryz.func31 (zau rfl n) (by kernel_rfl) h (zab c0 (zac c1 (zab c2 (zac c3 (zab c4 (zab c5 (zab c6 (zab c7 zae))))))))
theorem yaor {q:Nat} (h:(!decide ((k:Int)<(q:Int))&&(i.s != -1&&(decide (0≤i.s)&&decide (i.s<6)&&(Nat.ble (7+(i.s).toNat*4+4) (t.cs).length&&(decide (0≤i.d)&&decide (i.d<6)&&(Nat.ble (7+(i.d).toNat*4+4) (t.cs).length&&(!i.op==10&&(decide (0≤i.d)&&decide (i.d<6)&&(Nat.ble (7+(i.d).toNat*4+4) (t.cs).length&&(!i.op==15&&(!i.op==12&&(i.op==13&&true))))))))))))=true) (c0:Ok 74 [.c (.u i.im)] (.ag a.cs)) (c1:pe (.ag (((t.cs).drop (7+(i.s).toNat*4)).take 4))=pe (.ag ((t.r).get (i.s).toNat).cs)) (c2:pe (.ag (((t.cs).drop (7+(i.d).toNat*4)).take 4))=pe (.ag ((t.r).get (i.d).toNat).cs)) (c3:Ok 75 [.c (.i i.op)] (.c (.b false))) (c4:pe (.ag (((t.cs).drop (7+(i.d).toNat*4)).take 4))=pe (.ag ((t.r).get (i.d).toNat).cs)) (c5:Ok 77 [.ag ((t.r).get (i.d).toNat).cs,.ag ((t.r).get (i.s).toNat).cs] (.tu [.ag x.cs,.ag y.cs,.c (.b p1)])) (c6:Ok 78 [.ag ((t.r).get (i.d).toNat).cs,.ag ((t.r).get (i.s).toNat).cs] (.tu [.ag x1.cs,.ag y1.cs,.c (.b p2)])) (c7:Ok 79 [.ag i.cs,.ag t.cs,.ag x.cs,.ag y.cs,.c (.b p1)] (.ag t1.cs)) (c8:Ok 79 [.ag i.cs,.ag t.cs,.ag x1.cs,.ag y1.cs,.c (.b p2)] (.ag t2.cs)) :
  AR 31 Tryz.f31 (cx w β n []) 0 (zbk i t q k U) (REff w β ⟨.tu [.ag t1.cs,.ag t2.cs,.c (.i 0)],[],none⟩) :=
 zah [] none [false,true,false,false,false,false,false,true] ([true]) [(11,4),(12,4),(17,4)] Tryz.func31 (zau rfl n) (by kernel_rfl) h (zab c0 (zac c1 (zac c2 (zab c3 (zac c4 (zab c5 (zab c6 (zab c7 (zab c8 zae)))))))))
theorem yaoo {q:Nat} (h:(!decide ((k:Int)<(q:Int))&&(!i.s != -1&&(decide (0≤i.d)&&decide (i.d<6)&&(Nat.ble (7+(i.d).toNat*4+4) (t.cs).length&&(!i.op==10&&(decide (0≤i.d)&&decide (i.d<6)&&(Nat.ble (7+(i.d).toNat*4+4) (t.cs).length&&(!i.op==15&&(!i.op==12&&(!i.op==13&&(i.op==14&&true)))))))))))=true) (c0:Ok 74 [.c (.u i.im)] (.ag a.cs)) (c1:pe (.ag (((t.cs).drop (7+(i.d).toNat*4)).take 4))=pe (.ag ((t.r).get (i.d).toNat).cs)) (c2:Ok 75 [.c (.i i.op)] (.c (.b false))) (c3:pe (.ag (((t.cs).drop (7+(i.d).toNat*4)).take 4))=pe (.ag ((t.r).get (i.d).toNat).cs)) (c4:Ok 80 [.ag ((t.r).get (i.d).toNat).cs,.ag a.cs] (.tu [.ag x.cs,.ag y.cs,.c (.b p1)])) (c5:Ok 81 [.ag ((t.r).get (i.d).toNat).cs,.ag a.cs] (.tu [.ag x1.cs,.ag y1.cs,.c (.b p2)])) (c6:Ok 79 [.ag i.cs,.ag t.cs,.ag x.cs,.ag y.cs,.c (.b p1)] (.ag t1.cs)) (c7:Ok 79 [.ag i.cs,.ag t.cs,.ag x1.cs,.ag y1.cs,.c (.b p2)] (.ag t2.cs)) :
  AR 31 Tryz.f31 (cx w β n []) 0 (zbk i t q k U) (REff w β ⟨.tu [.ag t1.cs,.ag t2.cs,.c (.i 0)],[],none⟩) :=
 zah [] none [false,false,false,false,false,false,false,false,true] ([true]) [(11,4),(12,4),(17,4)] Tryz.func31 (zau rfl n) (by kernel_rfl) h (zab c0 (zac c1 (zab c2 (zac c3 (zab c4 (zab c5 (zab c6 (zab c7 zae))))))))
theorem yams {q:Nat} (h:(!decide ((k:Int)<(q:Int))&&(i.s != -1&&(decide (0≤i.s)&&decide (i.s<6)&&(Nat.ble (7+(i.s).toNat*4+4) (t.cs).length&&(decide (0≤i.d)&&decide (i.d<6)&&(Nat.ble (7+(i.d).toNat*4+4) (t.cs).length&&(!i.op==10&&(decide (0≤i.d)&&decide (i.d<6)&&(Nat.ble (7+(i.d).toNat*4+4) (t.cs).length&&(!i.op==15&&(!i.op==12&&(!i.op==13&&(i.op==14&&true)))))))))))))=true) (c0:Ok 74 [.c (.u i.im)] (.ag a.cs)) (c1:pe (.ag (((t.cs).drop (7+(i.s).toNat*4)).take 4))=pe (.ag ((t.r).get (i.s).toNat).cs)) (c2:pe (.ag (((t.cs).drop (7+(i.d).toNat*4)).take 4))=pe (.ag ((t.r).get (i.d).toNat).cs)) (c3:Ok 75 [.c (.i i.op)] (.c (.b false))) (c4:pe (.ag (((t.cs).drop (7+(i.d).toNat*4)).take 4))=pe (.ag ((t.r).get (i.d).toNat).cs)) (c5:Ok 80 [.ag ((t.r).get (i.d).toNat).cs,.ag ((t.r).get (i.s).toNat).cs] (.tu [.ag x.cs,.ag y.cs,.c (.b p1)])) (c6:Ok 81 [.ag ((t.r).get (i.d).toNat).cs,.ag ((t.r).get (i.s).toNat).cs] (.tu [.ag x1.cs,.ag y1.cs,.c (.b p2)])) (c7:Ok 79 [.ag i.cs,.ag t.cs,.ag x.cs,.ag y.cs,.c (.b p1)] (.ag t1.cs)) (c8:Ok 79 [.ag i.cs,.ag t.cs,.ag x1.cs,.ag y1.cs,.c (.b p2)] (.ag t2.cs)) :
  AR 31 Tryz.f31 (cx w β n []) 0 (zbk i t q k U) (REff w β ⟨.tu [.ag t1.cs,.ag t2.cs,.c (.i 0)],[],none⟩) :=
 zah [] none [false,true,false,false,false,false,false,false,true] ([true]) [(11,4),(12,4),(17,4)] Tryz.func31 (zau rfl n) (by kernel_rfl) h (zab c0 (zac c1 (zac c2 (zab c3 (zac c4 (zab c5 (zab c6 (zab c7 (zab c8 zae)))))))))
theorem yavc {q:Nat} (h:(!decide ((k:Int)<(q:Int))&&(i.s != -1&&(decide (0≤i.s)&&decide (i.s<6)&&(Nat.ble (7+(i.s).toNat*4+4) (t.cs).length&&(decide (0≤i.d)&&decide (i.d<6)&&(Nat.ble (7+(i.d).toNat*4+4) (t.cs).length&&(i.op==10&&(decide (nv (bsub (64#64) i.im)<nv c.h)&&true))))))))=true) (c0:Ok 74 [.c (.u i.im)] (.ag a.cs)) (c1:pe (.ag (((t.cs).drop (7+(i.s).toNat*4)).take 4))=pe (.ag ((t.r).get (i.s).toNat).cs)) (c2:pe (.ag (((t.cs).drop (7+(i.d).toNat*4)).take 4))=pe (.ag ((t.r).get (i.d).toNat).cs)) (c3:Ok 75 [.c (.i i.op)] (.c (.b true))) (c4:Ok 74 [.c (.u (BitVec.ofInt 64 i.of))] (.ag x.cs)) (c5:Ok 76 [.c (.i 2),.ag ((t.r).get (i.s).toNat).cs,.ag x.cs] (.ag c.cs)) :
  AR 31 Tryz.f31 (cx w β n []) 0 (zbk i t q k U) (REff w β ⟨.tu [.ag St.z.cs,.ag St.z.cs,.c (.i 2)],[],none⟩) :=
 zah [] none [false,true,true,true,true] ([true]) [(11,4),(12,4),(17,4)] Tryz.func31 (zau rfl n) (by kernel_rfl) h (zab c0 (zac c1 (zac c2 (zab c3 (zab c4 (zab c5 zae))))))
theorem yavi {q:Nat} (h:(!decide ((k:Int)<(q:Int))&&(i.s != -1&&(decide (0≤i.s)&&decide (i.s<6)&&(Nat.ble (7+(i.s).toNat*4+4) (t.cs).length&&(decide (0≤i.d)&&decide (i.d<6)&&(Nat.ble (7+(i.d).toNat*4+4) (t.cs).length&&(i.op==10&&(!decide (nv (bsub (64#64) i.im)<nv c.h)&&(decide (0≤i.d)&&decide (i.d<6)&&(Nat.ble (7+(i.d).toNat*4+4) (t.cs).length&&(!i.op==15&&(!i.op==12&&(!i.op==13&&(!i.op==14&&(i.op==10&&true)))))))))))))))=true) (c0:Ok 74 [.c (.u i.im)] (.ag a.cs)) (c1:pe (.ag (((t.cs).drop (7+(i.s).toNat*4)).take 4))=pe (.ag ((t.r).get (i.s).toNat).cs)) (c2:pe (.ag (((t.cs).drop (7+(i.d).toNat*4)).take 4))=pe (.ag ((t.r).get (i.d).toNat).cs)) (c3:Ok 75 [.c (.i i.op)] (.c (.b true))) (c4:Ok 74 [.c (.u (BitVec.ofInt 64 i.of))] (.ag x.cs)) (c5:Ok 76 [.c (.i 2),.ag ((t.r).get (i.s).toNat).cs,.ag x.cs] (.ag c.cs)) (c6:pe (.ag (((t.cs).drop (7+(i.d).toNat*4)).take 4))=pe (.ag ((t.r).get (i.d).toNat).cs)) (c7:Ok 83 [.c (.i (IntKind.i64.wrap (nv i.im)))] (.ag b.cs)) (c8:Ok 82 [.ag t.cs,.c (.i i.d),.ag b.cs] (.ag t1.cs)) :
  AR 31 Tryz.f31 (cx w β n []) 0 (zbk i t q k U) (REff w β ⟨.tu [.ag t1.cs,.ag St.z.cs,.c (.i 0)],[],none⟩) :=
 zah [] none [false,true,true,true,false,false,false,false,false,true] ([true]) [(11,4),(12,4),(17,4)] Tryz.func31 (zau rfl n) (by kernel_rfl) h (zab c0 (zac c1 (zac c2 (zab c3 (zab c4 (zab c5 (zac c6 (zab c7 (zab c8 zae)))))))))
theorem yal5 {q:Nat}
  (l0:(decide (nv (bsub (64#64) i.im)<nv c.h))=true→(!decide ((k:Int)<(q:Int)))=true∧(i.s != -1)=true∧(decide (0≤i.s)&&decide (i.s<6))=true∧(Nat.ble (7+(i.s).toNat*4+4) (t.cs).length)=true∧(decide (0≤i.d)&&decide (i.d<6))=true∧(Nat.ble (7+(i.d).toNat*4+4) (t.cs).length)=true∧(i.op==10)=true∧(Ok 74 [.c (.u i.im)] (.ag a.cs))∧(pe (.ag (((t.cs).drop (7+(i.s).toNat*4)).take 4))=pe (.ag ((t.r).get (i.s).toNat).cs))∧(pe (.ag (((t.cs).drop (7+(i.d).toNat*4)).take 4))=pe (.ag ((t.r).get (i.d).toNat).cs))∧(Ok 75 [.c (.i i.op)] (.c (.b true)))∧(Ok 74 [.c (.u (BitVec.ofInt 64 i.of))] (.ag x.cs))∧(Ok 76 [.c (.i 2),.ag ((t.r).get (i.s).toNat).cs,.ag x.cs] (.ag c.cs))∧((⟨.tu [.ag St.z.cs,.ag St.z.cs,.c (.i 2)],[],none⟩:Eff)=E))
  (l1:(decide (nv (bsub (64#64) i.im)<nv c.h))=false→(!decide ((k:Int)<(q:Int)))=true∧(i.s != -1)=true∧(decide (0≤i.s)&&decide (i.s<6))=true∧(Nat.ble (7+(i.s).toNat*4+4) (t.cs).length)=true∧(decide (0≤i.d)&&decide (i.d<6))=true∧(Nat.ble (7+(i.d).toNat*4+4) (t.cs).length)=true∧(i.op==10)=true∧(decide (0≤i.d)&&decide (i.d<6))=true∧(Nat.ble (7+(i.d).toNat*4+4) (t.cs).length)=true∧(!i.op==15)=true∧(!i.op==12)=true∧(!i.op==13)=true∧(!i.op==14)=true∧(i.op==10)=true∧(Ok 74 [.c (.u i.im)] (.ag a.cs))∧(pe (.ag (((t.cs).drop (7+(i.s).toNat*4)).take 4))=pe (.ag ((t.r).get (i.s).toNat).cs))∧(pe (.ag (((t.cs).drop (7+(i.d).toNat*4)).take 4))=pe (.ag ((t.r).get (i.d).toNat).cs))∧(Ok 75 [.c (.i i.op)] (.c (.b true)))∧(Ok 74 [.c (.u (BitVec.ofInt 64 i.of))] (.ag x.cs))∧(Ok 76 [.c (.i 2),.ag ((t.r).get (i.s).toNat).cs,.ag x.cs] (.ag c.cs))∧(pe (.ag (((t.cs).drop (7+(i.d).toNat*4)).take 4))=pe (.ag ((t.r).get (i.d).toNat).cs))∧(Ok 83 [.c (.i (IntKind.i64.wrap (nv i.im)))] (.ag b.cs))∧(Ok 82 [.ag t.cs,.c (.i i.d),.ag b.cs] (.ag t1.cs))∧((⟨.tu [.ag t1.cs,.ag St.z.cs,.c (.i 0)],[],none⟩:Eff)=E)) :
  AR 31 Tryz.f31 (cx w β n []) 0 (zbk i t q k U) (REff w β E) :=
 (tf (decide (nv (bsub (64#64) i.im)<nv c.h))).elim (fun h0=>(match l0 h0 with | ⟨o0,o1,o2,o3,o4,o5,o6,c0,c1,c2,c3,c4,c5,e⟩=>za5 (yavc (zaa o0 (zaa o1 (zaa o2 (zaa o3 (zaa o4 (zaa o5 (zaa o6 (zaa h0 rfl)))))))) c0 c1 c2 c3 c4 c5) e)) (fun h0=>(match l1 h0 with | ⟨o0,o1,o2,o3,o4,o5,o6,o7,o8,o9,o10,o11,o12,o13,c0,c1,c2,c3,c4,c5,c6,c7,c8,e⟩=>za5 (yavi (zaa o0 (zaa o1 (zaa o2 (zaa o3 (zaa o4 (zaa o5 (zaa o6 (zaa (zad h0) (zaa o7 (zaa o8 (zaa o9 (zaa o10 (zaa o11 (zaa o12 (zaa o13 rfl))))))))))))))) c0 c1 c2 c3 c4 c5 c6 c7 c8) e))
theorem yaso {q:Nat} (h:(!decide ((k:Int)<(q:Int))&&(i.s != -1&&(decide (0≤i.s)&&decide (i.s<6)&&(Nat.ble (7+(i.s).toNat*4+4) (t.cs).length&&(decide (0≤i.d)&&decide (i.d<6)&&(Nat.ble (7+(i.d).toNat*4+4) (t.cs).length&&(!i.op==10&&(decide (nv (bsub (64#64) i.im)<nv c.h)&&true))))))))=true) (c0:Ok 74 [.c (.u i.im)] (.ag a.cs)) (c1:pe (.ag (((t.cs).drop (7+(i.s).toNat*4)).take 4))=pe (.ag ((t.r).get (i.s).toNat).cs)) (c2:pe (.ag (((t.cs).drop (7+(i.d).toNat*4)).take 4))=pe (.ag ((t.r).get (i.d).toNat).cs)) (c3:Ok 75 [.c (.i i.op)] (.c (.b true))) (c4:Ok 74 [.c (.u (BitVec.ofInt 64 i.of))] (.ag x.cs)) (c5:Ok 76 [.c (.i 2),.ag ((t.r).get (i.d).toNat).cs,.ag x.cs] (.ag c.cs)) :
  AR 31 Tryz.f31 (cx w β n []) 0 (zbk i t q k U) (REff w β ⟨.tu [.ag St.z.cs,.ag St.z.cs,.c (.i 2)],[],none⟩) :=
 zah [] none [false,true,false,true,true] ([true]) [(11,4),(12,4),(17,4)] Tryz.func31 (zau rfl n) (by kernel_rfl) h (zab c0 (zac c1 (zac c2 (zab c3 (zab c4 (zab c5 zae))))))
theorem yatv {q:Nat} (h:(!decide ((k:Int)<(q:Int))&&(i.s != -1&&(decide (0≤i.s)&&decide (i.s<6)&&(Nat.ble (7+(i.s).toNat*4+4) (t.cs).length&&(decide (0≤i.d)&&decide (i.d<6)&&(Nat.ble (7+(i.d).toNat*4+4) (t.cs).length&&(!i.op==10&&(!decide (nv (bsub (64#64) i.im)<nv c.h)&&(decide (0≤i.d)&&decide (i.d<6)&&(Nat.ble (7+(i.d).toNat*4+4) (t.cs).length&&(!i.op==15&&(!i.op==12&&(!i.op==13&&(!i.op==14&&(!i.op==10&&(i.op==11&&true))))))))))))))))=true) (c0:Ok 74 [.c (.u i.im)] (.ag a.cs)) (c1:pe (.ag (((t.cs).drop (7+(i.s).toNat*4)).take 4))=pe (.ag ((t.r).get (i.s).toNat).cs)) (c2:pe (.ag (((t.cs).drop (7+(i.d).toNat*4)).take 4))=pe (.ag ((t.r).get (i.d).toNat).cs)) (c3:Ok 75 [.c (.i i.op)] (.c (.b true))) (c4:Ok 74 [.c (.u (BitVec.ofInt 64 i.of))] (.ag x.cs)) (c5:Ok 76 [.c (.i 2),.ag ((t.r).get (i.d).toNat).cs,.ag x.cs] (.ag c.cs)) (c6:pe (.ag (((t.cs).drop (7+(i.d).toNat*4)).take 4))=pe (.ag ((t.r).get (i.d).toNat).cs)) :
  AR 31 Tryz.f31 (cx w β n []) 0 (zbk i t q k U) (REff w β ⟨.tu [.ag t.cs,.ag St.z.cs,.c (.i 0)],[],none⟩) :=
 zah [] none [false,true,false,true,false,false,false,false,false,false,true] ([true]) [(11,4),(12,4),(17,4)] Tryz.func31 (zau rfl n) (by kernel_rfl) h (zab c0 (zac c1 (zac c2 (zab c3 (zab c4 (zab c5 (zac c6 zae)))))))
theorem yamm {q:Nat}
  (l0:(decide (nv (bsub (64#64) i.im)<nv c.h))=true→(!decide ((k:Int)<(q:Int)))=true∧(i.s != -1)=true∧(decide (0≤i.s)&&decide (i.s<6))=true∧(Nat.ble (7+(i.s).toNat*4+4) (t.cs).length)=true∧(decide (0≤i.d)&&decide (i.d<6))=true∧(Nat.ble (7+(i.d).toNat*4+4) (t.cs).length)=true∧(!i.op==10)=true∧(Ok 74 [.c (.u i.im)] (.ag a.cs))∧(pe (.ag (((t.cs).drop (7+(i.s).toNat*4)).take 4))=pe (.ag ((t.r).get (i.s).toNat).cs))∧(pe (.ag (((t.cs).drop (7+(i.d).toNat*4)).take 4))=pe (.ag ((t.r).get (i.d).toNat).cs))∧(Ok 75 [.c (.i i.op)] (.c (.b true)))∧(Ok 74 [.c (.u (BitVec.ofInt 64 i.of))] (.ag x.cs))∧(Ok 76 [.c (.i 2),.ag ((t.r).get (i.d).toNat).cs,.ag x.cs] (.ag c.cs))∧((⟨.tu [.ag St.z.cs,.ag St.z.cs,.c (.i 2)],[],none⟩:Eff)=E))
  (l1:(decide (nv (bsub (64#64) i.im)<nv c.h))=false→(!decide ((k:Int)<(q:Int)))=true∧(i.s != -1)=true∧(decide (0≤i.s)&&decide (i.s<6))=true∧(Nat.ble (7+(i.s).toNat*4+4) (t.cs).length)=true∧(decide (0≤i.d)&&decide (i.d<6))=true∧(Nat.ble (7+(i.d).toNat*4+4) (t.cs).length)=true∧(!i.op==10)=true∧(decide (0≤i.d)&&decide (i.d<6))=true∧(Nat.ble (7+(i.d).toNat*4+4) (t.cs).length)=true∧(!i.op==15)=true∧(!i.op==12)=true∧(!i.op==13)=true∧(!i.op==14)=true∧(!i.op==10)=true∧(i.op==11)=true∧(Ok 74 [.c (.u i.im)] (.ag a.cs))∧(pe (.ag (((t.cs).drop (7+(i.s).toNat*4)).take 4))=pe (.ag ((t.r).get (i.s).toNat).cs))∧(pe (.ag (((t.cs).drop (7+(i.d).toNat*4)).take 4))=pe (.ag ((t.r).get (i.d).toNat).cs))∧(Ok 75 [.c (.i i.op)] (.c (.b true)))∧(Ok 74 [.c (.u (BitVec.ofInt 64 i.of))] (.ag x.cs))∧(Ok 76 [.c (.i 2),.ag ((t.r).get (i.d).toNat).cs,.ag x.cs] (.ag c.cs))∧(pe (.ag (((t.cs).drop (7+(i.d).toNat*4)).take 4))=pe (.ag ((t.r).get (i.d).toNat).cs))∧((⟨.tu [.ag t.cs,.ag St.z.cs,.c (.i 0)],[],none⟩:Eff)=E)) :
  AR 31 Tryz.f31 (cx w β n []) 0 (zbk i t q k U) (REff w β E) :=
 (tf (decide (nv (bsub (64#64) i.im)<nv c.h))).elim (fun h0=>(match l0 h0 with | ⟨o0,o1,o2,o3,o4,o5,o6,c0,c1,c2,c3,c4,c5,e⟩=>za5 (yaso (zaa o0 (zaa o1 (zaa o2 (zaa o3 (zaa o4 (zaa o5 (zaa o6 (zaa h0 rfl)))))))) c0 c1 c2 c3 c4 c5) e)) (fun h0=>(match l1 h0 with | ⟨o0,o1,o2,o3,o4,o5,o6,o7,o8,o9,o10,o11,o12,o13,o14,c0,c1,c2,c3,c4,c5,c6,e⟩=>za5 (yatv (zaa o0 (zaa o1 (zaa o2 (zaa o3 (zaa o4 (zaa o5 (zaa o6 (zaa (zad h0) (zaa o7 (zaa o8 (zaa o9 (zaa o10 (zaa o11 (zaa o12 (zaa o13 (zaa o14 rfl)))))))))))))))) c0 c1 c2 c3 c4 c5 c6) e))
theorem yau1 {q:Nat} (h:(!decide ((k:Int)<(q:Int))&&(i.s != -1&&(decide (0≤i.s)&&decide (i.s<6)&&(Nat.ble (7+(i.s).toNat*4+4) (t.cs).length&&(decide (0≤i.d)&&decide (i.d<6)&&(Nat.ble (7+(i.d).toNat*4+4) (t.cs).length&&(!i.op==10&&(decide (0≤i.d)&&decide (i.d<6)&&(Nat.ble (7+(i.d).toNat*4+4) (t.cs).length&&(!i.op==15&&(!i.op==12&&(!i.op==13&&(!i.op==14&&(!i.op==10&&(!i.op==11&&(i.op==1&&true))))))))))))))))=true) (c0:Ok 74 [.c (.u i.im)] (.ag a.cs)) (c1:pe (.ag (((t.cs).drop (7+(i.s).toNat*4)).take 4))=pe (.ag ((t.r).get (i.s).toNat).cs)) (c2:pe (.ag (((t.cs).drop (7+(i.d).toNat*4)).take 4))=pe (.ag ((t.r).get (i.d).toNat).cs)) (c3:Ok 75 [.c (.i i.op)] (.c (.b false))) (c4:pe (.ag (((t.cs).drop (7+(i.d).toNat*4)).take 4))=pe (.ag ((t.r).get (i.d).toNat).cs)) (c5:Ok 82 [.ag t.cs,.c (.i i.d),.ag ((t.r).get (i.s).toNat).cs] (.ag t1.cs)) :
  AR 31 Tryz.f31 (cx w β n []) 0 (zbk i t q k U) (REff w β ⟨.tu [.ag t1.cs,.ag St.z.cs,.c (.i 0)],[],none⟩) :=
 zah [] none [false,true,false,false,false,false,false,false,false,false,false,true] ([true]) [(11,4),(12,4),(17,4)] Tryz.func31 (zau rfl n) (by kernel_rfl) h (zab c0 (zac c1 (zac c2 (zab c3 (zac c4 (zab c5 zae))))))
theorem yat0 {q:Nat} (h:(!decide ((k:Int)<(q:Int))&&(!i.s != -1&&(decide (0≤i.d)&&decide (i.d<6)&&(Nat.ble (7+(i.d).toNat*4+4) (t.cs).length&&(!i.op==10&&(decide (0≤i.d)&&decide (i.d<6)&&(Nat.ble (7+(i.d).toNat*4+4) (t.cs).length&&(!i.op==15&&(!i.op==12&&(!i.op==13&&(!i.op==14&&(!i.op==10&&(!i.op==11&&(!i.op==1&&true))))))))))))))=true) (c0:Ok 74 [.c (.u i.im)] (.ag a.cs)) (c1:pe (.ag (((t.cs).drop (7+(i.d).toNat*4)).take 4))=pe (.ag ((t.r).get (i.d).toNat).cs)) (c2:Ok 75 [.c (.i i.op)] (.c (.b false))) (c3:pe (.ag (((t.cs).drop (7+(i.d).toNat*4)).take 4))=pe (.ag ((t.r).get (i.d).toNat).cs)) (c4:Ok 76 [.c (.i i.op),.ag ((t.r).get (i.d).toNat).cs,.ag a.cs] (.ag b.cs)) (c5:Ok 82 [.ag t.cs,.c (.i i.d),.ag b.cs] (.ag t1.cs)) :
  AR 31 Tryz.f31 (cx w β n []) 0 (zbk i t q k U) (REff w β ⟨.tu [.ag t1.cs,.ag St.z.cs,.c (.i 0)],[],none⟩) :=
 zah [] none [false,false,false,false,false,false,false,false,false,false,false,false] ([true]) [(11,4),(12,4),(17,4)] Tryz.func31 (zau rfl n) (by kernel_rfl) h (zab c0 (zac c1 (zab c2 (zac c3 (zab c4 (zab c5 zae))))))
theorem yasr {q:Nat} (h:(!decide ((k:Int)<(q:Int))&&(i.s != -1&&(decide (0≤i.s)&&decide (i.s<6)&&(Nat.ble (7+(i.s).toNat*4+4) (t.cs).length&&(decide (0≤i.d)&&decide (i.d<6)&&(Nat.ble (7+(i.d).toNat*4+4) (t.cs).length&&(!i.op==10&&(decide (0≤i.d)&&decide (i.d<6)&&(Nat.ble (7+(i.d).toNat*4+4) (t.cs).length&&(!i.op==15&&(!i.op==12&&(!i.op==13&&(!i.op==14&&(!i.op==10&&(!i.op==11&&(!i.op==1&&true))))))))))))))))=true) (c0:Ok 74 [.c (.u i.im)] (.ag a.cs)) (c1:pe (.ag (((t.cs).drop (7+(i.s).toNat*4)).take 4))=pe (.ag ((t.r).get (i.s).toNat).cs)) (c2:pe (.ag (((t.cs).drop (7+(i.d).toNat*4)).take 4))=pe (.ag ((t.r).get (i.d).toNat).cs)) (c3:Ok 75 [.c (.i i.op)] (.c (.b false))) (c4:pe (.ag (((t.cs).drop (7+(i.d).toNat*4)).take 4))=pe (.ag ((t.r).get (i.d).toNat).cs)) (c5:Ok 76 [.c (.i i.op),.ag ((t.r).get (i.d).toNat).cs,.ag ((t.r).get (i.s).toNat).cs] (.ag b.cs)) (c6:Ok 82 [.ag t.cs,.c (.i i.d),.ag b.cs] (.ag t1.cs)) :
  AR 31 Tryz.f31 (cx w β n []) 0 (zbk i t q k U) (REff w β ⟨.tu [.ag t1.cs,.ag St.z.cs,.c (.i 0)],[],none⟩) :=
 zah [] none [false,true,false,false,false,false,false,false,false,false,false,false] ([true]) [(11,4),(12,4),(17,4)] Tryz.func31 (zau rfl n) (by kernel_rfl) h (zab c0 (zac c1 (zac c2 (zab c3 (zac c4 (zab c5 (zab c6 zae)))))))
theorem yaue (h:(!!t.live&&(i.s != -1&&(decide (0≤i.s)&&decide (i.s<6)&&(Nat.ble (7+(i.s).toNat*4+4) (t.cs).length&&(decide (0≤i.d)&&decide (i.d<6)&&(Nat.ble (7+(i.d).toNat*4+4) (t.cs).length&&(!i.op==10&&(decide (0≤i.d)&&decide (i.d<6)&&(Nat.ble (7+(i.d).toNat*4+4) (t.cs).length&&(!i.op==15&&(i.op==12&&true)))))))))))=true) (c0:Ok 37 [.ag i.cs] (.c zco)) (c1:Ok 74 [.c (.u i.im)] (.ag a.cs)) (c2:pe (.ag (((t.cs).drop (7+(i.s).toNat*4)).take 4))=pe (.ag ((t.r).get (i.s).toNat).cs)) (c3:pe (.ag (((t.cs).drop (7+(i.d).toNat*4)).take 4))=pe (.ag ((t.r).get (i.d).toNat).cs)) (c4:Ok 75 [.c (.i i.op)] (.c (.b false))) (c5:pe (.ag (((t.cs).drop (7+(i.d).toNat*4)).take 4))=pe (.ag ((t.r).get (i.d).toNat).cs)) :
  Ok 31 [.ag i.cs,.ag t.cs] (.tu [.ag St.z.cs,.ag t.cs,.c (.i 0)]) :=
 zaf [false,false,true,false,false,false,false,true] ([false]) [(11,4),(12,4),(17,4)] Tryz.func31 rfl rfl rfl rfl (by kernel_rfl) h (zab c0 (zab c1 (zac c2 (zac c3 (zab c4 (zac c5 zae))))))
theorem yarj (h:(!!t.live&&(!i.s != -1&&(decide (0≤i.d)&&decide (i.d<6)&&(Nat.ble (7+(i.d).toNat*4+4) (t.cs).length&&(!i.op==10&&(decide (0≤i.d)&&decide (i.d<6)&&(Nat.ble (7+(i.d).toNat*4+4) (t.cs).length&&(!i.op==15&&(!i.op==12&&(!i.op==13&&(!i.op==14&&(!i.op==10&&(!i.op==11&&(i.op==1&&true))))))))))))))=true) (c0:Ok 37 [.ag i.cs] (.c zco)) (c1:Ok 74 [.c (.u i.im)] (.ag a.cs)) (c2:pe (.ag (((t.cs).drop (7+(i.d).toNat*4)).take 4))=pe (.ag ((t.r).get (i.d).toNat).cs)) (c3:Ok 75 [.c (.i i.op)] (.c (.b false))) (c4:pe (.ag (((t.cs).drop (7+(i.d).toNat*4)).take 4))=pe (.ag ((t.r).get (i.d).toNat).cs)) (c5:Ok 82 [.ag t.cs,.c (.i i.d),.ag a.cs] (.ag t1.cs)) :
  Ok 31 [.ag i.cs,.ag t.cs] (.tu [.ag t1.cs,.ag St.z.cs,.c (.i 0)]) :=
 zaf [false,false,false,false,false,false,false,false,false,false,false,false,true] ([false]) [(11,4),(12,4),(17,4)] Tryz.func31 rfl rfl rfl rfl (by kernel_rfl) h (zab c0 (zab c1 (zac c2 (zab c3 (zac c4 (zab c5 zae))))))
end
section
abbrev zb5 (i:Ins) (t:St) (u:V6 Bool) (j:Int):Kn:=⟨[(2,.c (.w 0)),(3,.c (.w 1)),(8,.ag (bcs u)),(9,.c (.i j))],[(0,Ent.mk true i.cs 0),(1,Ent.mk true t.cs 0)],2⟩
variable {i:Ins} {e j ce tr:Int} {V:AV} {a b c x y:V4} {t t1 t2:St} {q fi:Bool} {u:V6 Bool} {C:Cx} {R:Ending→World→Prop} {w:World} {β:Bs} {n:Nat} {E:Eff}
theorem yavy (h:(i.op==12&&(i.op==12&&(decide (i.of<0)&&true)))=true) :
  Ok 55 [.ag i.cs] (.c (.b false)) :=
 zaf [true,true,true,true] ([]) [] Tryz.func55 rfl rfl rfl rfl (by kernel_rfl) h zae
theorem yazv (h:(i.op==12&&(i.op==12&&(!decide (i.of<0)&&(decide (64<i.of)&&true))))=true) :
  Ok 55 [.ag i.cs] (.c (.b false)) :=
 zaf [true,true,false,true] ([]) [] Tryz.func55 rfl rfl rfl rfl (by kernel_rfl) h zae
theorem yayr (h:(i.op==12&&(i.op==12&&(!decide (i.of<0)&&(!decide (64<i.of)&&true))))=true) (c0:CO 19 [.c (.sl 18 0 2 2)] [(18,Ent.mk true [.i i.op,.i i.d,.i i.s,.u i.im,.i 0,.i 15,.i 0,.i 0,.u 0#64,.i 0] 0)] (pe (.c (.i e)))) :
  Ok 55 [.ag i.cs] (.c (.b (e==0))) :=
 zaf [true,true,false,false] ([]) [] Tryz.func55 rfl rfl rfl rfl (by kernel_rfl) h (zab c0 zae)
theorem yayu (h:(!i.op==12&&(i.op==13&&(i.op==13&&(decide (i.of<0)&&true))))=true) :
  Ok 55 [.ag i.cs] (.c (.b false)) :=
 zaf [false,true,true,true,true] ([]) [] Tryz.func55 rfl rfl rfl rfl (by kernel_rfl) h zae
theorem yawl (h:(!i.op==12&&(i.op==13&&(i.op==13&&(!decide (i.of<0)&&(decide (64<i.of)&&true)))))=true) :
  Ok 55 [.ag i.cs] (.c (.b false)) :=
 zaf [false,true,true,false,true] ([]) [] Tryz.func55 rfl rfl rfl rfl (by kernel_rfl) h zae
theorem yav4 (h:(!i.op==12&&(i.op==13&&(i.op==13&&(!decide (i.of<0)&&(!decide (64<i.of)&&true)))))=true) (c0:CO 19 [.c (.sl 20 0 2 2)] [(20,Ent.mk true [.i i.op,.i i.d,.i i.s,.u i.im,.i 0,.i 15,.i 0,.i 0,.u 0#64,.i 0] 0)] (pe (.c (.i e)))) :
  Ok 55 [.ag i.cs] (.c (.b (e==0))) :=
 zaf [false,true,true,false,false] ([]) [] Tryz.func55 rfl rfl rfl rfl (by kernel_rfl) h (zab c0 zae)
theorem yayh (h:(!i.op==12&&(!i.op==13&&(i.op==14&&(decide (i.of<0)&&true))))=true) :
  Ok 55 [.ag i.cs] (.c (.b false)) :=
 zaf [false,false,true,true,true] ([]) [] Tryz.func55 rfl rfl rfl rfl (by kernel_rfl) h zae
theorem yayd (h:(!i.op==12&&(!i.op==13&&(i.op==14&&(!decide (i.of<0)&&(decide (64<i.of)&&true)))))=true) :
  Ok 55 [.ag i.cs] (.c (.b false)) :=
 zaf [false,false,true,false,true] ([]) [] Tryz.func55 rfl rfl rfl rfl (by kernel_rfl) h zae
theorem yax4 (h:(!i.op==12&&(!i.op==13&&(i.op==14&&(!decide (i.of<0)&&(!decide (64<i.of)&&true)))))=true) (c0:CO 19 [.c (.sl 22 0 2 2)] [(22,Ent.mk true [.i i.op,.i i.d,.i i.s,.u i.im,.i 0,.i 15,.i 0,.i 0,.u 0#64,.i 0] 0)] (pe (.c (.i e)))) :
  Ok 55 [.ag i.cs] (.c (.b (e==0))) :=
 zaf [false,false,true,false,false] ([]) [] Tryz.func55 rfl rfl rfl rfl (by kernel_rfl) h (zab c0 zae)
theorem yay0 (h:(!i.op==12&&(!i.op==13&&(!i.op==14&&true)))=true) (c0:CO 19 [.c (.sl 12 0 2 2)] [(12,Ent.mk true [.i i.op,.i i.d,.i i.s,.u i.im,.i i.of,.i 15,.i 0,.i 0,.u 0#64,.i 0] 0)] (pe (.c (.i e)))) :
  Ok 55 [.ag i.cs] (.c (.b (e==0))) :=
 zaf [false,false,false] ([]) [] Tryz.func55 rfl rfl rfl rfl (by kernel_rfl) h (zab c0 zae)
theorem yahi
  (l0:(i.op==12)=true→(decide (i.of<0))=true→(AV.c (.b false)=V))
  (l1:(i.op==12)=true→(decide (i.of<0))=false→(decide (64<i.of))=true→(AV.c (.b false)=V))
  (l2:(i.op==12)=true→(decide (i.of<0))=false→(decide (64<i.of))=false→(CO 19 [.c (.sl 18 0 2 2)] [(18,Ent.mk true [.i i.op,.i i.d,.i i.s,.u i.im,.i 0,.i 15,.i 0,.i 0,.u 0#64,.i 0] 0)] (pe (.c (.i e))))∧(AV.c (.b (e==0))=V))
  (l3:(i.op==12)=false→(i.op==13)=true→(decide (i.of<0))=true→(AV.c (.b false)=V))
  (l4:(i.op==12)=false→(i.op==13)=true→(decide (i.of<0))=false→(decide (64<i.of))=true→(AV.c (.b false)=V))
  (l5:(i.op==12)=false→(i.op==13)=true→(decide (i.of<0))=false→(decide (64<i.of))=false→(CO 19 [.c (.sl 20 0 2 2)] [(20,Ent.mk true [.i i.op,.i i.d,.i i.s,.u i.im,.i 0,.i 15,.i 0,.i 0,.u 0#64,.i 0] 0)] (pe (.c (.i e))))∧(AV.c (.b (e==0))=V))
  (l6:(i.op==12)=false→(i.op==13)=false→(i.op==14)=true→(decide (i.of<0))=true→(AV.c (.b false)=V))
  (l7:(i.op==12)=false→(i.op==13)=false→(i.op==14)=true→(decide (i.of<0))=false→(decide (64<i.of))=true→(AV.c (.b false)=V))
  (l8:(i.op==12)=false→(i.op==13)=false→(i.op==14)=true→(decide (i.of<0))=false→(decide (64<i.of))=false→(CO 19 [.c (.sl 22 0 2 2)] [(22,Ent.mk true [.i i.op,.i i.d,.i i.s,.u i.im,.i 0,.i 15,.i 0,.i 0,.u 0#64,.i 0] 0)] (pe (.c (.i e))))∧(AV.c (.b (e==0))=V))
  (l9:(i.op==12)=false→(i.op==13)=false→(i.op==14)=false→(CO 19 [.c (.sl 12 0 2 2)] [(12,Ent.mk true [.i i.op,.i i.d,.i i.s,.u i.im,.i i.of,.i 15,.i 0,.i 0,.u 0#64,.i 0] 0)] (pe (.c (.i e))))∧(AV.c (.b (e==0))=V)) :
  Ok 55 [.ag i.cs] V :=
 (tf (i.op==12)).elim (fun h0=>(tf (decide (i.of<0))).elim (fun h1=>(match l0 h0 h1 with | e=>zam (yavy (zaa h0 (zaa h0 (zaa h1 rfl)))) e)) (fun h1=>(tf (decide (64<i.of))).elim (fun h2=>(match l1 h0 h1 h2 with | e=>zam (yazv (zaa h0 (zaa h0 (zaa (zad h1) (zaa h2 rfl))))) e)) (fun h2=>(match l2 h0 h1 h2 with | ⟨c0,e⟩=>zam (yayr (zaa h0 (zaa h0 (zaa (zad h1) (zaa (zad h2) rfl)))) c0) e)))) (fun h0=>(tf (i.op==13)).elim (fun h1=>(tf (decide (i.of<0))).elim (fun h2=>(match l3 h0 h1 h2 with | e=>zam (yayu (zaa (zad h0) (zaa h1 (zaa h1 (zaa h2 rfl))))) e)) (fun h2=>(tf (decide (64<i.of))).elim (fun h3=>(match l4 h0 h1 h2 h3 with | e=>zam (yawl (zaa (zad h0) (zaa h1 (zaa h1 (zaa (zad h2) (zaa h3 rfl)))))) e)) (fun h3=>(match l5 h0 h1 h2 h3 with | ⟨c0,e⟩=>zam (yav4 (zaa (zad h0) (zaa h1 (zaa h1 (zaa (zad h2) (zaa (zad h3) rfl))))) c0) e)))) (fun h1=>(tf (i.op==14)).elim (fun h2=>(tf (decide (i.of<0))).elim (fun h3=>(match l6 h0 h1 h2 h3 with | e=>zam (yayh (zaa (zad h0) (zaa (zad h1) (zaa h2 (zaa h3 rfl))))) e)) (fun h3=>(tf (decide (64<i.of))).elim (fun h4=>(match l7 h0 h1 h2 h3 h4 with | e=>zam (yayd (zaa (zad h0) (zaa (zad h1) (zaa h2 (zaa (zad h3) (zaa h4 rfl)))))) e)) (fun h4=>(match l8 h0 h1 h2 h3 h4 with | ⟨c0,e⟩=>zam (yax4 (zaa (zad h0) (zaa (zad h1) (zaa h2 (zaa (zad h3) (zaa (zad h4) rfl))))) c0) e)))) (fun h2=>(match l9 h0 h1 h2 with | ⟨c0,e⟩=>zam (yay0 (zaa (zad h0) (zaa (zad h1) (zaa (zad h2) rfl))) c0) e))))
theorem yahq (h:(decide (nv (bsub (64#64) i.im)<nv c.h)&&true)=true) (c0:Ok 144 [.c (.u (BitVec.ofInt 64 i.of))] (.ag b.cs)) (c1:Ok 108 [.c (.i 2),.ag a.cs,.ag b.cs] (.tu [.ag c.cs,.c (.i 0)])) :
  Ok 100 [.ag i.cs,.ag a.cs] (.c (.i 2)) :=
 zaf [true] ([]) [] Tryz.func100 rfl rfl rfl rfl (by kernel_rfl) h (zab c0 (zab c1 zae))
theorem yalu (h:(!decide (nv (bsub (64#64) i.im)<nv c.h)&&true)=true) (c0:Ok 144 [.c (.u (BitVec.ofInt 64 i.of))] (.ag b.cs)) (c1:Ok 108 [.c (.i 2),.ag a.cs,.ag b.cs] (.tu [.ag c.cs,.c (.i 0)])) :
  Ok 100 [.ag i.cs,.ag a.cs] (.c (.i 0)) :=
 zaf [false] ([]) [] Tryz.func100 rfl rfl rfl rfl (by kernel_rfl) h (zab c0 (zab c1 zae))
theorem yacw
  (l0:(decide (nv (bsub (64#64) i.im)<nv c.h))=true→(Ok 144 [.c (.u (BitVec.ofInt 64 i.of))] (.ag b.cs))∧(Ok 108 [.c (.i 2),.ag a.cs,.ag b.cs] (.tu [.ag c.cs,.c (.i 0)]))∧(AV.c (.i 2)=V))
  (l1:(decide (nv (bsub (64#64) i.im)<nv c.h))=false→(Ok 144 [.c (.u (BitVec.ofInt 64 i.of))] (.ag b.cs))∧(Ok 108 [.c (.i 2),.ag a.cs,.ag b.cs] (.tu [.ag c.cs,.c (.i 0)]))∧(AV.c (.i 0)=V)) :
  Ok 100 [.ag i.cs,.ag a.cs] V :=
 (tf (decide (nv (bsub (64#64) i.im)<nv c.h))).elim (fun h0=>(match l0 h0 with | ⟨c0,c1,e⟩=>zam (yahq (zaa h0 rfl) c0 c1) e)) (fun h0=>(match l1 h0 with | ⟨c0,c1,e⟩=>zam (yalu (zaa (zad h0) rfl) c0 c1) e))
theorem yad4 (h:(i.s==-1&&true)=true) (c0:Ok 144 [.c (.u i.im)] (.ag b.cs)) :
  Ok 107 [.ag i.cs,.ag t.cs] (.ag b.cs) :=
 zaf [true] ([]) [(3,4)] Tryz.func107 rfl rfl rfl rfl (by kernel_rfl) h (zab c0 zae)
theorem yac3 (h:(!i.s==-1&&(decide (0≤i.s)&&decide (i.s<6)&&(Nat.ble (7+(i.s).toNat*4+4) (t.cs).length&&true)))=true) (c0:pe (.ag (((t.cs).drop (7+(i.s).toNat*4)).take 4))=pe (.ag ((t.r).get (i.s).toNat).cs)) :
  Ok 107 [.ag i.cs,.ag t.cs] (.ag ((t.r).get (i.s).toNat).cs) :=
 zaf [false] ([]) [(3,4)] Tryz.func107 rfl rfl rfl rfl (by kernel_rfl) h (zac c0 zae)
theorem zxz
  (l0:(i.s==-1)=true→(Ok 144 [.c (.u i.im)] (.ag b.cs))∧(AV.ag b.cs=V))
  (l1:(i.s==-1)=false→(decide (0≤i.s)&&decide (i.s<6))=true∧(Nat.ble (7+(i.s).toNat*4+4) (t.cs).length)=true∧(pe (.ag (((t.cs).drop (7+(i.s).toNat*4)).take 4))=pe (.ag ((t.r).get (i.s).toNat).cs))∧(AV.ag ((t.r).get (i.s).toNat).cs=V)) :
  Ok 107 [.ag i.cs,.ag t.cs] V :=
 (tf (i.s==-1)).elim (fun h0=>(match l0 h0 with | ⟨c0,e⟩=>zam (yad4 (zaa h0 rfl) c0) e)) (fun h0=>(match l1 h0 with | ⟨o0,o1,c0,e⟩=>zam (yac3 (zaa (zad h0) (zaa o0 (zaa o1 rfl))) c0) e))
theorem yagd (h:(decide (0≤i.d)&&decide (i.d<6)&&(Nat.ble (7+(i.d).toNat*4+4) (t.cs).length&&(!q&&true)))=true) (c0:pe (.ag (((t.cs).drop (7+(i.d).toNat*4)).take 4))=pe (.ag ((t.r).get (i.d).toNat).cs)) (c1:Ok 107 [.ag i.cs,.ag t.cs] (.ag b.cs)) (c2:Ok 103 [.ag ((t.r).get (i.d).toNat).cs,.ag b.cs] (.tu [.ag x.cs,.ag y.cs,.c (.b q),.c (.i 0)])) :
  Ok 102 [.ag i.cs,.ag t.cs,.c (.f 103 [])] (.ag St.z.cs) :=
 zaf [true] ([]) [(1,5)] Tryz.func102 rfl rfl rfl rfl (by kernel_rfl) h (zac c0 (zab c1 (zab c2 zae)))
theorem yadm (h:(decide (0≤i.d)&&decide (i.d<6)&&(Nat.ble (7+(i.d).toNat*4+4) (t.cs).length&&(!!q&&(i.s != -1&&true))))=true) (c0:pe (.ag (((t.cs).drop (7+(i.d).toNat*4)).take 4))=pe (.ag ((t.r).get (i.d).toNat).cs)) (c1:Ok 107 [.ag i.cs,.ag t.cs] (.ag b.cs)) (c2:Ok 103 [.ag ((t.r).get (i.d).toNat).cs,.ag b.cs] (.tu [.ag x.cs,.ag y.cs,.c (.b q),.c (.i 0)])) (c3:Ok 53 [.ag t.cs,.c (.i i.d),.ag x.cs] (.ag t1.cs)) (c4:Ok 53 [.ag t1.cs,.c (.i i.s),.ag y.cs] (.ag t2.cs)) :
  Ok 102 [.ag i.cs,.ag t.cs,.c (.f 103 [])] (.ag t2.cs) :=
 zaf [false,true] ([]) [(1,5)] Tryz.func102 rfl rfl rfl rfl (by kernel_rfl) h (zac c0 (zab c1 (zab c2 (zab c3 (zab c4 zae)))))
theorem yad5 (h:(decide (0≤i.d)&&decide (i.d<6)&&(Nat.ble (7+(i.d).toNat*4+4) (t.cs).length&&(!!q&&(!i.s != -1&&true))))=true) (c0:pe (.ag (((t.cs).drop (7+(i.d).toNat*4)).take 4))=pe (.ag ((t.r).get (i.d).toNat).cs)) (c1:Ok 107 [.ag i.cs,.ag t.cs] (.ag b.cs)) (c2:Ok 103 [.ag ((t.r).get (i.d).toNat).cs,.ag b.cs] (.tu [.ag x.cs,.ag y.cs,.c (.b q),.c (.i 0)])) (c3:Ok 53 [.ag t.cs,.c (.i i.d),.ag x.cs] (.ag t1.cs)) :
  Ok 102 [.ag i.cs,.ag t.cs,.c (.f 103 [])] (.ag t1.cs) :=
 zaf [false,false] ([]) [(1,5)] Tryz.func102 rfl rfl rfl rfl (by kernel_rfl) h (zac c0 (zab c1 (zab c2 (zab c3 zae))))
theorem zzd
  (l0:(!q)=true→(decide (0≤i.d)&&decide (i.d<6))=true∧(Nat.ble (7+(i.d).toNat*4+4) (t.cs).length)=true∧(pe (.ag (((t.cs).drop (7+(i.d).toNat*4)).take 4))=pe (.ag ((t.r).get (i.d).toNat).cs))∧(Ok 107 [.ag i.cs,.ag t.cs] (.ag b.cs))∧(Ok 103 [.ag ((t.r).get (i.d).toNat).cs,.ag b.cs] (.tu [.ag x.cs,.ag y.cs,.c (.b q),.c (.i 0)]))∧(AV.ag St.z.cs=V))
  (l1:(!q)=false→(i.s != -1)=true→(decide (0≤i.d)&&decide (i.d<6))=true∧(Nat.ble (7+(i.d).toNat*4+4) (t.cs).length)=true∧(pe (.ag (((t.cs).drop (7+(i.d).toNat*4)).take 4))=pe (.ag ((t.r).get (i.d).toNat).cs))∧(Ok 107 [.ag i.cs,.ag t.cs] (.ag b.cs))∧(Ok 103 [.ag ((t.r).get (i.d).toNat).cs,.ag b.cs] (.tu [.ag x.cs,.ag y.cs,.c (.b q),.c (.i 0)]))∧(Ok 53 [.ag t.cs,.c (.i i.d),.ag x.cs] (.ag t1.cs))∧(Ok 53 [.ag t1.cs,.c (.i i.s),.ag y.cs] (.ag t2.cs))∧(AV.ag t2.cs=V))
  (l2:(!q)=false→(i.s != -1)=false→(decide (0≤i.d)&&decide (i.d<6))=true∧(Nat.ble (7+(i.d).toNat*4+4) (t.cs).length)=true∧(pe (.ag (((t.cs).drop (7+(i.d).toNat*4)).take 4))=pe (.ag ((t.r).get (i.d).toNat).cs))∧(Ok 107 [.ag i.cs,.ag t.cs] (.ag b.cs))∧(Ok 103 [.ag ((t.r).get (i.d).toNat).cs,.ag b.cs] (.tu [.ag x.cs,.ag y.cs,.c (.b q),.c (.i 0)]))∧(Ok 53 [.ag t.cs,.c (.i i.d),.ag x.cs] (.ag t1.cs))∧(AV.ag t1.cs=V)) :
  Ok 102 [.ag i.cs,.ag t.cs,.c (.f 103 [])] V :=
 (tf (!q)).elim (fun h0=>(match l0 h0 with | ⟨o0,o1,c0,c1,c2,e⟩=>zam (yagd (zaa o0 (zaa o1 (zaa h0 rfl))) c0 c1 c2) e)) (fun h0=>(tf (i.s != -1)).elim (fun h1=>(match l1 h0 h1 with | ⟨o0,o1,c0,c1,c2,c3,c4,e⟩=>zam (yadm (zaa o0 (zaa o1 (zaa (zad h0) (zaa h1 rfl)))) c0 c1 c2 c3 c4) e)) (fun h1=>(match l2 h0 h1 with | ⟨o0,o1,c0,c1,c2,c3,e⟩=>zam (yad5 (zaa o0 (zaa o1 (zaa (zad h0) (zaa (zad h1) rfl)))) c0 c1 c2 c3) e)))
theorem yadl (h:(decide (0≤i.d)&&decide (i.d<6)&&(Nat.ble (7+(i.d).toNat*4+4) (t.cs).length&&(!q&&true)))=true) (c0:pe (.ag (((t.cs).drop (7+(i.d).toNat*4)).take 4))=pe (.ag ((t.r).get (i.d).toNat).cs)) (c1:Ok 107 [.ag i.cs,.ag t.cs] (.ag b.cs)) (c2:Ok 104 [.ag ((t.r).get (i.d).toNat).cs,.ag b.cs] (.tu [.ag x.cs,.ag y.cs,.c (.b q),.c (.i 0)])) :
  Ok 102 [.ag i.cs,.ag t.cs,.c (.f 104 [])] (.ag St.z.cs) :=
 zaf [true] ([]) [(1,5)] Tryz.func102 rfl rfl rfl rfl (by kernel_rfl) h (zac c0 (zab c1 (zab c2 zae)))
theorem yade (h:(decide (0≤i.d)&&decide (i.d<6)&&(Nat.ble (7+(i.d).toNat*4+4) (t.cs).length&&(!!q&&(i.s != -1&&true))))=true) (c0:pe (.ag (((t.cs).drop (7+(i.d).toNat*4)).take 4))=pe (.ag ((t.r).get (i.d).toNat).cs)) (c1:Ok 107 [.ag i.cs,.ag t.cs] (.ag b.cs)) (c2:Ok 104 [.ag ((t.r).get (i.d).toNat).cs,.ag b.cs] (.tu [.ag x.cs,.ag y.cs,.c (.b q),.c (.i 0)])) (c3:Ok 53 [.ag t.cs,.c (.i i.d),.ag x.cs] (.ag t1.cs)) (c4:Ok 53 [.ag t1.cs,.c (.i i.s),.ag y.cs] (.ag t2.cs)) :
  Ok 102 [.ag i.cs,.ag t.cs,.c (.f 104 [])] (.ag t2.cs) :=
 zaf [false,true] ([]) [(1,5)] Tryz.func102 rfl rfl rfl rfl (by kernel_rfl) h (zac c0 (zab c1 (zab c2 (zab c3 (zab c4 zae)))))
theorem yac6 (h:(decide (0≤i.d)&&decide (i.d<6)&&(Nat.ble (7+(i.d).toNat*4+4) (t.cs).length&&(!!q&&(!i.s != -1&&true))))=true) (c0:pe (.ag (((t.cs).drop (7+(i.d).toNat*4)).take 4))=pe (.ag ((t.r).get (i.d).toNat).cs)) (c1:Ok 107 [.ag i.cs,.ag t.cs] (.ag b.cs)) (c2:Ok 104 [.ag ((t.r).get (i.d).toNat).cs,.ag b.cs] (.tu [.ag x.cs,.ag y.cs,.c (.b q),.c (.i 0)])) (c3:Ok 53 [.ag t.cs,.c (.i i.d),.ag x.cs] (.ag t1.cs)) :
  Ok 102 [.ag i.cs,.ag t.cs,.c (.f 104 [])] (.ag t1.cs) :=
 zaf [false,false] ([]) [(1,5)] Tryz.func102 rfl rfl rfl rfl (by kernel_rfl) h (zac c0 (zab c1 (zab c2 (zab c3 zae))))
theorem zy2
  (l0:(!q)=true→(decide (0≤i.d)&&decide (i.d<6))=true∧(Nat.ble (7+(i.d).toNat*4+4) (t.cs).length)=true∧(pe (.ag (((t.cs).drop (7+(i.d).toNat*4)).take 4))=pe (.ag ((t.r).get (i.d).toNat).cs))∧(Ok 107 [.ag i.cs,.ag t.cs] (.ag b.cs))∧(Ok 104 [.ag ((t.r).get (i.d).toNat).cs,.ag b.cs] (.tu [.ag x.cs,.ag y.cs,.c (.b q),.c (.i 0)]))∧(AV.ag St.z.cs=V))
  (l1:(!q)=false→(i.s != -1)=true→(decide (0≤i.d)&&decide (i.d<6))=true∧(Nat.ble (7+(i.d).toNat*4+4) (t.cs).length)=true∧(pe (.ag (((t.cs).drop (7+(i.d).toNat*4)).take 4))=pe (.ag ((t.r).get (i.d).toNat).cs))∧(Ok 107 [.ag i.cs,.ag t.cs] (.ag b.cs))∧(Ok 104 [.ag ((t.r).get (i.d).toNat).cs,.ag b.cs] (.tu [.ag x.cs,.ag y.cs,.c (.b q),.c (.i 0)]))∧(Ok 53 [.ag t.cs,.c (.i i.d),.ag x.cs] (.ag t1.cs))∧(Ok 53 [.ag t1.cs,.c (.i i.s),.ag y.cs] (.ag t2.cs))∧(AV.ag t2.cs=V))
  (l2:(!q)=false→(i.s != -1)=false→(decide (0≤i.d)&&decide (i.d<6))=true∧(Nat.ble (7+(i.d).toNat*4+4) (t.cs).length)=true∧(pe (.ag (((t.cs).drop (7+(i.d).toNat*4)).take 4))=pe (.ag ((t.r).get (i.d).toNat).cs))∧(Ok 107 [.ag i.cs,.ag t.cs] (.ag b.cs))∧(Ok 104 [.ag ((t.r).get (i.d).toNat).cs,.ag b.cs] (.tu [.ag x.cs,.ag y.cs,.c (.b q),.c (.i 0)]))∧(Ok 53 [.ag t.cs,.c (.i i.d),.ag x.cs] (.ag t1.cs))∧(AV.ag t1.cs=V)) :
  Ok 102 [.ag i.cs,.ag t.cs,.c (.f 104 [])] V :=
 (tf (!q)).elim (fun h0=>(match l0 h0 with | ⟨o0,o1,c0,c1,c2,e⟩=>zam (yadl (zaa o0 (zaa o1 (zaa h0 rfl))) c0 c1 c2) e)) (fun h0=>(tf (i.s != -1)).elim (fun h1=>(match l1 h0 h1 with | ⟨o0,o1,c0,c1,c2,c3,c4,e⟩=>zam (yade (zaa o0 (zaa o1 (zaa (zad h0) (zaa h1 rfl)))) c0 c1 c2 c3 c4) e)) (fun h1=>(match l2 h0 h1 with | ⟨o0,o1,c0,c1,c2,c3,e⟩=>zam (yac6 (zaa o0 (zaa o1 (zaa (zad h0) (zaa (zad h1) rfl)))) c0 c1 c2 c3) e)))
theorem yagc (h:(decide (0≤i.d)&&decide (i.d<6)&&(Nat.ble (7+(i.d).toNat*4+4) (t.cs).length&&(!q&&true)))=true) (c0:pe (.ag (((t.cs).drop (7+(i.d).toNat*4)).take 4))=pe (.ag ((t.r).get (i.d).toNat).cs)) (c1:Ok 107 [.ag i.cs,.ag t.cs] (.ag b.cs)) (c2:Ok 105 [.ag ((t.r).get (i.d).toNat).cs,.ag b.cs] (.tu [.ag x.cs,.ag y.cs,.c (.b q),.c (.i 0)])) :
  Ok 102 [.ag i.cs,.ag t.cs,.c (.f 105 [])] (.ag St.z.cs) :=
 zaf [true] ([]) [(1,5)] Tryz.func102 rfl rfl rfl rfl (by kernel_rfl) h (zac c0 (zab c1 (zab c2 zae)))
theorem yadv (h:(decide (0≤i.d)&&decide (i.d<6)&&(Nat.ble (7+(i.d).toNat*4+4) (t.cs).length&&(!!q&&(i.s != -1&&true))))=true) (c0:pe (.ag (((t.cs).drop (7+(i.d).toNat*4)).take 4))=pe (.ag ((t.r).get (i.d).toNat).cs)) (c1:Ok 107 [.ag i.cs,.ag t.cs] (.ag b.cs)) (c2:Ok 105 [.ag ((t.r).get (i.d).toNat).cs,.ag b.cs] (.tu [.ag x.cs,.ag y.cs,.c (.b q),.c (.i 0)])) (c3:Ok 53 [.ag t.cs,.c (.i i.d),.ag x.cs] (.ag t1.cs)) (c4:Ok 53 [.ag t1.cs,.c (.i i.s),.ag y.cs] (.ag t2.cs)) :
  Ok 102 [.ag i.cs,.ag t.cs,.c (.f 105 [])] (.ag t2.cs) :=
 zaf [false,true] ([]) [(1,5)] Tryz.func102 rfl rfl rfl rfl (by kernel_rfl) h (zac c0 (zab c1 (zab c2 (zab c3 (zab c4 zae)))))
theorem yacu (h:(decide (0≤i.d)&&decide (i.d<6)&&(Nat.ble (7+(i.d).toNat*4+4) (t.cs).length&&(!!q&&(!i.s != -1&&true))))=true) (c0:pe (.ag (((t.cs).drop (7+(i.d).toNat*4)).take 4))=pe (.ag ((t.r).get (i.d).toNat).cs)) (c1:Ok 107 [.ag i.cs,.ag t.cs] (.ag b.cs)) (c2:Ok 105 [.ag ((t.r).get (i.d).toNat).cs,.ag b.cs] (.tu [.ag x.cs,.ag y.cs,.c (.b q),.c (.i 0)])) (c3:Ok 53 [.ag t.cs,.c (.i i.d),.ag x.cs] (.ag t1.cs)) :
  Ok 102 [.ag i.cs,.ag t.cs,.c (.f 105 [])] (.ag t1.cs) :=
 zaf [false,false] ([]) [(1,5)] Tryz.func102 rfl rfl rfl rfl (by kernel_rfl) h (zac c0 (zab c1 (zab c2 (zab c3 zae))))
theorem zyw
  (l0:(!q)=true→(decide (0≤i.d)&&decide (i.d<6))=true∧(Nat.ble (7+(i.d).toNat*4+4) (t.cs).length)=true∧(pe (.ag (((t.cs).drop (7+(i.d).toNat*4)).take 4))=pe (.ag ((t.r).get (i.d).toNat).cs))∧(Ok 107 [.ag i.cs,.ag t.cs] (.ag b.cs))∧(Ok 105 [.ag ((t.r).get (i.d).toNat).cs,.ag b.cs] (.tu [.ag x.cs,.ag y.cs,.c (.b q),.c (.i 0)]))∧(AV.ag St.z.cs=V))
  (l1:(!q)=false→(i.s != -1)=true→(decide (0≤i.d)&&decide (i.d<6))=true∧(Nat.ble (7+(i.d).toNat*4+4) (t.cs).length)=true∧(pe (.ag (((t.cs).drop (7+(i.d).toNat*4)).take 4))=pe (.ag ((t.r).get (i.d).toNat).cs))∧(Ok 107 [.ag i.cs,.ag t.cs] (.ag b.cs))∧(Ok 105 [.ag ((t.r).get (i.d).toNat).cs,.ag b.cs] (.tu [.ag x.cs,.ag y.cs,.c (.b q),.c (.i 0)]))∧(Ok 53 [.ag t.cs,.c (.i i.d),.ag x.cs] (.ag t1.cs))∧(Ok 53 [.ag t1.cs,.c (.i i.s),.ag y.cs] (.ag t2.cs))∧(AV.ag t2.cs=V))
  (l2:(!q)=false→(i.s != -1)=false→(decide (0≤i.d)&&decide (i.d<6))=true∧(Nat.ble (7+(i.d).toNat*4+4) (t.cs).length)=true∧(pe (.ag (((t.cs).drop (7+(i.d).toNat*4)).take 4))=pe (.ag ((t.r).get (i.d).toNat).cs))∧(Ok 107 [.ag i.cs,.ag t.cs] (.ag b.cs))∧(Ok 105 [.ag ((t.r).get (i.d).toNat).cs,.ag b.cs] (.tu [.ag x.cs,.ag y.cs,.c (.b q),.c (.i 0)]))∧(Ok 53 [.ag t.cs,.c (.i i.d),.ag x.cs] (.ag t1.cs))∧(AV.ag t1.cs=V)) :
  Ok 102 [.ag i.cs,.ag t.cs,.c (.f 105 [])] V :=
 (tf (!q)).elim (fun h0=>(match l0 h0 with | ⟨o0,o1,c0,c1,c2,e⟩=>zam (yagc (zaa o0 (zaa o1 (zaa h0 rfl))) c0 c1 c2) e)) (fun h0=>(tf (i.s != -1)).elim (fun h1=>(match l1 h0 h1 with | ⟨o0,o1,c0,c1,c2,c3,c4,e⟩=>zam (yadv (zaa o0 (zaa o1 (zaa (zad h0) (zaa h1 rfl)))) c0 c1 c2 c3 c4) e)) (fun h1=>(match l2 h0 h1 with | ⟨o0,o1,c0,c1,c2,c3,e⟩=>zam (yacu (zaa o0 (zaa o1 (zaa (zad h0) (zaa (zad h1) rfl)))) c0 c1 c2 c3) e)))
theorem yafb (h:(decide (0≤i.d)&&decide (i.d<6)&&(Nat.ble (7+(i.d).toNat*4+4) (t.cs).length&&(!q&&true)))=true) (c0:pe (.ag (((t.cs).drop (7+(i.d).toNat*4)).take 4))=pe (.ag ((t.r).get (i.d).toNat).cs)) (c1:Ok 107 [.ag i.cs,.ag t.cs] (.ag b.cs)) (c2:Ok 106 [.ag ((t.r).get (i.d).toNat).cs,.ag b.cs] (.tu [.ag x.cs,.ag y.cs,.c (.b q),.c (.i 0)])) :
  Ok 102 [.ag i.cs,.ag t.cs,.c (.f 106 [])] (.ag St.z.cs) :=
 zaf [true] ([]) [(1,5)] Tryz.func102 rfl rfl rfl rfl (by kernel_rfl) h (zac c0 (zab c1 (zab c2 zae)))
theorem yafm (h:(decide (0≤i.d)&&decide (i.d<6)&&(Nat.ble (7+(i.d).toNat*4+4) (t.cs).length&&(!!q&&(i.s != -1&&true))))=true) (c0:pe (.ag (((t.cs).drop (7+(i.d).toNat*4)).take 4))=pe (.ag ((t.r).get (i.d).toNat).cs)) (c1:Ok 107 [.ag i.cs,.ag t.cs] (.ag b.cs)) (c2:Ok 106 [.ag ((t.r).get (i.d).toNat).cs,.ag b.cs] (.tu [.ag x.cs,.ag y.cs,.c (.b q),.c (.i 0)])) (c3:Ok 53 [.ag t.cs,.c (.i i.d),.ag x.cs] (.ag t1.cs)) (c4:Ok 53 [.ag t1.cs,.c (.i i.s),.ag y.cs] (.ag t2.cs)) :
  Ok 102 [.ag i.cs,.ag t.cs,.c (.f 106 [])] (.ag t2.cs) :=
 zaf [false,true] ([]) [(1,5)] Tryz.func102 rfl rfl rfl rfl (by kernel_rfl) h (zac c0 (zab c1 (zab c2 (zab c3 (zab c4 zae)))))
theorem yac9 (h:(decide (0≤i.d)&&decide (i.d<6)&&(Nat.ble (7+(i.d).toNat*4+4) (t.cs).length&&(!!q&&(!i.s != -1&&true))))=true) (c0:pe (.ag (((t.cs).drop (7+(i.d).toNat*4)).take 4))=pe (.ag ((t.r).get (i.d).toNat).cs)) (c1:Ok 107 [.ag i.cs,.ag t.cs] (.ag b.cs)) (c2:Ok 106 [.ag ((t.r).get (i.d).toNat).cs,.ag b.cs] (.tu [.ag x.cs,.ag y.cs,.c (.b q),.c (.i 0)])) (c3:Ok 53 [.ag t.cs,.c (.i i.d),.ag x.cs] (.ag t1.cs)) :
  Ok 102 [.ag i.cs,.ag t.cs,.c (.f 106 [])] (.ag t1.cs) :=
 zaf [false,false] ([]) [(1,5)] Tryz.func102 rfl rfl rfl rfl (by kernel_rfl) h (zac c0 (zab c1 (zab c2 (zab c3 zae))))
theorem zyb
  (l0:(!q)=true→(decide (0≤i.d)&&decide (i.d<6))=true∧(Nat.ble (7+(i.d).toNat*4+4) (t.cs).length)=true∧(pe (.ag (((t.cs).drop (7+(i.d).toNat*4)).take 4))=pe (.ag ((t.r).get (i.d).toNat).cs))∧(Ok 107 [.ag i.cs,.ag t.cs] (.ag b.cs))∧(Ok 106 [.ag ((t.r).get (i.d).toNat).cs,.ag b.cs] (.tu [.ag x.cs,.ag y.cs,.c (.b q),.c (.i 0)]))∧(AV.ag St.z.cs=V))
  (l1:(!q)=false→(i.s != -1)=true→(decide (0≤i.d)&&decide (i.d<6))=true∧(Nat.ble (7+(i.d).toNat*4+4) (t.cs).length)=true∧(pe (.ag (((t.cs).drop (7+(i.d).toNat*4)).take 4))=pe (.ag ((t.r).get (i.d).toNat).cs))∧(Ok 107 [.ag i.cs,.ag t.cs] (.ag b.cs))∧(Ok 106 [.ag ((t.r).get (i.d).toNat).cs,.ag b.cs] (.tu [.ag x.cs,.ag y.cs,.c (.b q),.c (.i 0)]))∧(Ok 53 [.ag t.cs,.c (.i i.d),.ag x.cs] (.ag t1.cs))∧(Ok 53 [.ag t1.cs,.c (.i i.s),.ag y.cs] (.ag t2.cs))∧(AV.ag t2.cs=V))
  (l2:(!q)=false→(i.s != -1)=false→(decide (0≤i.d)&&decide (i.d<6))=true∧(Nat.ble (7+(i.d).toNat*4+4) (t.cs).length)=true∧(pe (.ag (((t.cs).drop (7+(i.d).toNat*4)).take 4))=pe (.ag ((t.r).get (i.d).toNat).cs))∧(Ok 107 [.ag i.cs,.ag t.cs] (.ag b.cs))∧(Ok 106 [.ag ((t.r).get (i.d).toNat).cs,.ag b.cs] (.tu [.ag x.cs,.ag y.cs,.c (.b q),.c (.i 0)]))∧(Ok 53 [.ag t.cs,.c (.i i.d),.ag x.cs] (.ag t1.cs))∧(AV.ag t1.cs=V)) :
  Ok 102 [.ag i.cs,.ag t.cs,.c (.f 106 [])] V :=
 (tf (!q)).elim (fun h0=>(match l0 h0 with | ⟨o0,o1,c0,c1,c2,e⟩=>zam (yafb (zaa o0 (zaa o1 (zaa h0 rfl))) c0 c1 c2) e)) (fun h0=>(tf (i.s != -1)).elim (fun h1=>(match l1 h0 h1 with | ⟨o0,o1,c0,c1,c2,c3,c4,e⟩=>zam (yafm (zaa o0 (zaa o1 (zaa (zad h0) (zaa h1 rfl)))) c0 c1 c2 c3 c4) e)) (fun h1=>(match l2 h0 h1 with | ⟨o0,o1,c0,c1,c2,c3,e⟩=>zam (yac9 (zaa o0 (zaa o1 (zaa (zad h0) (zaa (zad h1) rfl)))) c0 c1 c2 c3) e)))
theorem yanx (c0:Ok 99 [.ag i.cs] (.ag (bcs u))) (lo:Kn.Low (zb5 i t u 0)) (hF:∀ k,C.F k→k<2) (z:AR 57 Tryz.f57 C 0 (zb5 i t u 0) R) :
  BO 57 Tryz.f57 C [.ag i.cs,.ag t.cs] [] 0 R :=
 zai [] ([true]) [] Tryz.func57 (by kernel_rfl) rfl (zab c0 zae) lo hF z
theorem yaen (h:(decide (j<6)&&(AC.isB ((bcs u)[j.toNat*1]?.getD (.b false))&&Nat.blt (j.toNat*1) (bcs u).length&&(decide (0≤j)&&decide (j<6))&&(u.get j.toNat&&(decide (0≤j)&&decide (j<6)&&(AC.isB ((t.cs)[1+j.toNat*1]?.getD (.b false))&&Nat.blt (1+j.toNat*1) (t.cs).length&&(!(t.s).get j.toNat&&true))))))=true) (c0:pe (.c (.b (AC.asB ((bcs u)[j.toNat*1]?.getD (.b false)))))=pe (.c (.b (u.get j.toNat)))) (c1:pe (.c (.b (AC.asB ((t.cs)[1+j.toNat*1]?.getD (.b false)))))=pe (.c (.b ((t.s).get j.toNat)))) :
  AR 57 Tryz.f57 (cx w β n []) 0 (zb5 i t u j) (REff w β ⟨.c (.i 1),[],none⟩) :=
 zah [] none [true,true,true] ([true]) [(3,1),(4,5)] Tryz.func57 (zau rfl n) (by kernel_rfl) h (zac c0 (zac c1 zae))
theorem yaef (h:(decide (j<6)&&(AC.isB ((bcs u)[j.toNat*1]?.getD (.b false))&&Nat.blt (j.toNat*1) (bcs u).length&&(decide (0≤j)&&decide (j<6))&&(u.get j.toNat&&(decide (0≤j)&&decide (j<6)&&(AC.isB ((t.cs)[1+j.toNat*1]?.getD (.b false))&&Nat.blt (1+j.toNat*1) (t.cs).length&&(!!(t.s).get j.toNat&&true))))))=true) (c0:pe (.c (.b (AC.asB ((bcs u)[j.toNat*1]?.getD (.b false)))))=pe (.c (.b (u.get j.toNat)))) (c1:pe (.c (.b (AC.asB ((t.cs)[1+j.toNat*1]?.getD (.b false)))))=pe (.c (.b ((t.s).get j.toNat)))) (lo:Kn.Low (zb5 i t u (IntKind.i64.wrap (j+1)))) (hF:∀ k,C.F k→k<2) (z:AR 57 Tryz.f57 C 0 (zb5 i t u (IntKind.i64.wrap (j+1))) R) :
  AR 57 Tryz.f57 C 0 (zb5 i t u j) R :=
 zai [true,true,false] ([true]) [(3,1),(4,5)] Tryz.func57 (by kernel_rfl) h (zac c0 (zac c1 zae)) lo hF z
theorem yaea (h:(decide (j<6)&&(AC.isB ((bcs u)[j.toNat*1]?.getD (.b false))&&Nat.blt (j.toNat*1) (bcs u).length&&(decide (0≤j)&&decide (j<6))&&(!u.get j.toNat&&true)))=true) (c0:pe (.c (.b (AC.asB ((bcs u)[j.toNat*1]?.getD (.b false)))))=pe (.c (.b (u.get j.toNat)))) (lo:Kn.Low (zb5 i t u (IntKind.i64.wrap (j+1)))) (hF:∀ k,C.F k→k<2) (z:AR 57 Tryz.f57 C 0 (zb5 i t u (IntKind.i64.wrap (j+1))) R) :
  AR 57 Tryz.f57 C 0 (zb5 i t u j) R :=
 zai [true,false,false] ([true]) [(3,1),(4,5)] Tryz.func57 (by kernel_rfl) h (zac c0 zae) lo hF z
theorem zzp (hn:n≤2)
  (l0:(u.get j.toNat)=true→(!(t.s).get j.toNat)=true→(decide (j<6))=true∧(AC.isB ((bcs u)[j.toNat*1]?.getD (.b false))&&Nat.blt (j.toNat*1) (bcs u).length&&(decide (0≤j)&&decide (j<6)))=true∧(decide (0≤j)&&decide (j<6))=true∧(AC.isB ((t.cs)[1+j.toNat*1]?.getD (.b false))&&Nat.blt (1+j.toNat*1) (t.cs).length)=true∧(pe (.c (.b (AC.asB ((bcs u)[j.toNat*1]?.getD (.b false)))))=pe (.c (.b (u.get j.toNat))))∧(pe (.c (.b (AC.asB ((t.cs)[1+j.toNat*1]?.getD (.b false)))))=pe (.c (.b ((t.s).get j.toNat))))∧((⟨.c (.i 1),[],none⟩:Eff)=E))
  (l1:(u.get j.toNat)=true→(!(t.s).get j.toNat)=false→(decide (j<6))=true∧(AC.isB ((bcs u)[j.toNat*1]?.getD (.b false))&&Nat.blt (j.toNat*1) (bcs u).length&&(decide (0≤j)&&decide (j<6)))=true∧(decide (0≤j)&&decide (j<6))=true∧(AC.isB ((t.cs)[1+j.toNat*1]?.getD (.b false))&&Nat.blt (1+j.toNat*1) (t.cs).length)=true∧(pe (.c (.b (AC.asB ((bcs u)[j.toNat*1]?.getD (.b false)))))=pe (.c (.b (u.get j.toNat))))∧(pe (.c (.b (AC.asB ((t.cs)[1+j.toNat*1]?.getD (.b false)))))=pe (.c (.b ((t.s).get j.toNat))))∧Kn.Low (zb5 i t u (IntKind.i64.wrap (j+1)))∧AR 57 Tryz.f57 (cx w β n []) 0 (zb5 i t u (IntKind.i64.wrap (j+1))) (REff w β E))
  (l2:(u.get j.toNat)=false→(decide (j<6))=true∧(AC.isB ((bcs u)[j.toNat*1]?.getD (.b false))&&Nat.blt (j.toNat*1) (bcs u).length&&(decide (0≤j)&&decide (j<6)))=true∧(pe (.c (.b (AC.asB ((bcs u)[j.toNat*1]?.getD (.b false)))))=pe (.c (.b (u.get j.toNat))))∧Kn.Low (zb5 i t u (IntKind.i64.wrap (j+1)))∧AR 57 Tryz.f57 (cx w β n []) 0 (zb5 i t u (IntKind.i64.wrap (j+1))) (REff w β E)) :
  AR 57 Tryz.f57 (cx w β n []) 0 (zb5 i t u j) (REff w β E) :=
 (tf (u.get j.toNat)).elim (fun h0=>(tf (!(t.s).get j.toNat)).elim (fun h1=>(match l0 h0 h1 with | ⟨o0,o1,o2,o3,c0,c1,e⟩=>za5 (yaen (zaa o0 (zaa o1 (zaa h0 (zaa o2 (zaa o3 (zaa h1 rfl)))))) c0 c1) e)) (fun h1=>(match l1 h0 h1 with | ⟨o0,o1,o2,o3,c0,c1,lo,z⟩=>yaef (zaa o0 (zaa o1 (zaa h0 (zaa o2 (zaa o3 (zaa (zad h1) rfl)))))) c0 c1 lo (fun _ hk=>Nat.lt_of_lt_of_le hk hn) z))) (fun h0=>(match l2 h0 with | ⟨o0,o1,c0,lo,z⟩=>yaea (zaa o0 (zaa o1 (zaa (zad h0) rfl))) c0 lo (fun _ hk=>Nat.lt_of_lt_of_le hk hn) z))
theorem yap1 (h:(i.op==10&&(decide (0≤i.s)&&decide (i.s<6)&&(Nat.ble (7+(i.s).toNat*4+4) (t.cs).length&&true)))=true) (c0:pe (.ag (((t.cs).drop (7+(i.s).toNat*4)).take 4))=pe (.ag ((t.r).get (i.s).toNat).cs)) (c1:Ok 100 [.ag i.cs,.ag ((t.r).get (i.s).toNat).cs] (.c (.i e))) :
  AR 57 Tryz.f57 (cx w β n []) 0 (zb5 i t u 6) (REff w β ⟨.c (.i e),[],none⟩) :=
 zah [] none [false,true] ([true]) [(9,5),(11,5)] Tryz.func57 (zau rfl n) (by kernel_rfl) h (zac c0 (zab c1 zae))
theorem yant (h:(!i.op==10&&(i.op==11&&(decide (0≤i.d)&&decide (i.d<6)&&(Nat.ble (7+(i.d).toNat*4+4) (t.cs).length&&true))))=true) (c0:pe (.ag (((t.cs).drop (7+(i.d).toNat*4)).take 4))=pe (.ag ((t.r).get (i.d).toNat).cs)) (c1:Ok 100 [.ag i.cs,.ag ((t.r).get (i.d).toNat).cs] (.c (.i e))) :
  AR 57 Tryz.f57 (cx w β n []) 0 (zb5 i t u 6) (REff w β ⟨.c (.i e),[],none⟩) :=
 zah [] none [false,false,true] ([true]) [(9,5),(11,5)] Tryz.func57 (zau rfl n) (by kernel_rfl) h (zac c0 (zab c1 zae))
theorem yame (h:(!i.op==10&&(!i.op==11&&true))=true) :
  AR 57 Tryz.f57 (cx w β n []) 0 (zb5 i t u 6) (REff w β ⟨.c (.i 0),[],none⟩) :=
 zah [] none [false,false,false] ([true]) [(9,5),(11,5)] Tryz.func57 (zau rfl n) (by kernel_rfl) h zae
theorem zm1
  (l0:(i.op==10)=true→(decide (0≤i.s)&&decide (i.s<6))=true∧(Nat.ble (7+(i.s).toNat*4+4) (t.cs).length)=true∧(pe (.ag (((t.cs).drop (7+(i.s).toNat*4)).take 4))=pe (.ag ((t.r).get (i.s).toNat).cs))∧(Ok 100 [.ag i.cs,.ag ((t.r).get (i.s).toNat).cs] (.c (.i e)))∧((⟨.c (.i e),[],none⟩:Eff)=E))
  (l1:(i.op==10)=false→(i.op==11)=true→(decide (0≤i.d)&&decide (i.d<6))=true∧(Nat.ble (7+(i.d).toNat*4+4) (t.cs).length)=true∧(pe (.ag (((t.cs).drop (7+(i.d).toNat*4)).take 4))=pe (.ag ((t.r).get (i.d).toNat).cs))∧(Ok 100 [.ag i.cs,.ag ((t.r).get (i.d).toNat).cs] (.c (.i e)))∧((⟨.c (.i e),[],none⟩:Eff)=E))
  (l2:(i.op==10)=false→(i.op==11)=false→((⟨.c (.i 0),[],none⟩:Eff)=E)) :
  AR 57 Tryz.f57 (cx w β n []) 0 (zb5 i t u 6) (REff w β E) :=
 (tf (i.op==10)).elim (fun h0=>(match l0 h0 with | ⟨o0,o1,c0,c1,e⟩=>za5 (yap1 (zaa h0 (zaa o0 (zaa o1 rfl))) c0 c1) e)) (fun h0=>(tf (i.op==11)).elim (fun h1=>(match l1 h0 h1 with | ⟨o0,o1,c0,c1,e⟩=>za5 (yant (zaa (zad h0) (zaa h1 (zaa o0 (zaa o1 rfl)))) c0 c1) e)) (fun h1=>(match l2 h0 h1 with | e=>za5 (yame (zaa (zad h0) (zaa (zad h1) rfl))) e)))
theorem yarp (h:(i.op==10&&true)=true) (c0:pe (.c (.i (IntKind.i64.wrap (nv i.im))))=pe (.c (.i (nv i.im)))) (c1:Ok 101 [.c (.i (nv i.im))] (.tu [.ag a.cs,.c (.i 0)])) (c2:Ok 53 [.ag t.cs,.c (.i i.d),.ag a.cs] (.ag t1.cs)) :
  Ok 58 [.ag i.cs,.ag t.cs] (.tu [.ag t1.cs,.ag St.z.cs]) :=
 zaf [true] ([]) [(3,2),(17,6)] Tryz.func58 rfl rfl rfl rfl (by kernel_rfl) h (zac c0 (zab c1 (zab c2 zae)))
theorem yaur (h:(!i.op==10&&(i.op==11&&true))=true) :
  Ok 58 [.ag i.cs,.ag t.cs] (.tu [.ag t.cs,.ag St.z.cs]) :=
 zaf [false,true] ([]) [(3,2),(17,6)] Tryz.func58 rfl rfl rfl rfl (by kernel_rfl) h zae
theorem yara (h:(!i.op==10&&(!i.op==11&&(i.op==12&&true)))=true) :
  Ok 58 [.ag i.cs,.ag t.cs] (.tu [.ag St.z.cs,.ag t.cs]) :=
 zaf [false,false,true] ([]) [(3,2),(17,6)] Tryz.func58 rfl rfl rfl rfl (by kernel_rfl) h zae
theorem yanz (h:(!i.op==10&&(!i.op==11&&(!i.op==12&&(i.op==13&&true))))=true) (c0:Ok 102 [.ag i.cs,.ag t.cs,.c (.f 103 [])] (.ag t1.cs)) (c1:Ok 102 [.ag i.cs,.ag t.cs,.c (.f 104 [])] (.ag t2.cs)) :
  Ok 58 [.ag i.cs,.ag t.cs] (.tu [.ag t1.cs,.ag t2.cs]) :=
 zaf [false,false,false,true] ([]) [(3,2),(17,6)] Tryz.func58 rfl rfl rfl rfl (by kernel_rfl) h (zab c0 (zab c1 zae))
theorem yamr (h:(!i.op==10&&(!i.op==11&&(!i.op==12&&(!i.op==13&&(i.op==14&&true)))))=true) (c0:Ok 102 [.ag i.cs,.ag t.cs,.c (.f 105 [])] (.ag t1.cs)) (c1:Ok 102 [.ag i.cs,.ag t.cs,.c (.f 106 [])] (.ag t2.cs)) :
  Ok 58 [.ag i.cs,.ag t.cs] (.tu [.ag t1.cs,.ag t2.cs]) :=
 zaf [false,false,false,false,true] ([]) [(3,2),(17,6)] Tryz.func58 rfl rfl rfl rfl (by kernel_rfl) h (zab c0 (zab c1 zae))
theorem yard (h:(!i.op==10&&(!i.op==11&&(!i.op==12&&(!i.op==13&&(!i.op==14&&(i.op==15&&true))))))=true) :
  Ok 58 [.ag i.cs,.ag t.cs] (.tu [.ag St.z.cs,.ag St.z.cs]) :=
 zaf [false,false,false,false,false,true] ([]) [(3,2),(17,6)] Tryz.func58 rfl rfl rfl rfl (by kernel_rfl) h zae
theorem yas1 (h:(!i.op==10&&(!i.op==11&&(!i.op==12&&(!i.op==13&&(!i.op==14&&(!i.op==15&&(i.op==1&&true)))))))=true) (c0:Ok 107 [.ag i.cs,.ag t.cs] (.ag a.cs)) (c1:Ok 53 [.ag t.cs,.c (.i i.d),.ag a.cs] (.ag t1.cs)) :
  Ok 58 [.ag i.cs,.ag t.cs] (.tu [.ag t1.cs,.ag St.z.cs]) :=
 zaf [false,false,false,false,false,false,true] ([]) [(3,2),(17,6)] Tryz.func58 rfl rfl rfl rfl (by kernel_rfl) h (zab c0 (zab c1 zae))
theorem yata (h:(!i.op==10&&(!i.op==11&&(!i.op==12&&(!i.op==13&&(!i.op==14&&(!i.op==15&&(!i.op==1&&(decide (0≤i.d)&&decide (i.d<6)&&(Nat.ble (7+(i.d).toNat*4+4) (t.cs).length&&true)))))))))=true) (c0:pe (.ag (((t.cs).drop (7+(i.d).toNat*4)).take 4))=pe (.ag ((t.r).get (i.d).toNat).cs)) (c1:Ok 107 [.ag i.cs,.ag t.cs] (.ag b.cs)) (c2:Ok 108 [.c (.i i.op),.ag ((t.r).get (i.d).toNat).cs,.ag b.cs] (.tu [.ag c.cs,.c (.i 0)])) (c3:Ok 53 [.ag t.cs,.c (.i i.d),.ag c.cs] (.ag t1.cs)) :
  Ok 58 [.ag i.cs,.ag t.cs] (.tu [.ag t1.cs,.ag St.z.cs]) :=
 zaf [false,false,false,false,false,false,false] ([]) [(3,2),(17,6)] Tryz.func58 rfl rfl rfl rfl (by kernel_rfl) h (zac c0 (zab c1 (zab c2 (zab c3 zae))))
theorem yaph (h:(!fi&&true)=true) (c0:Ok 55 [.ag i.cs] (.c (.b fi))) :
  Ok 21 [.ag i.cs,.ag t.cs] (.tu [.ag St.z.cs,.ag St.z.cs,.c (.i 0),.c (.i 1)]) :=
 zaf [true,true] ([]) [] Tryz.func21 rfl rfl rfl rfl (by kernel_rfl) h (zab c0 zae)
theorem yaou (h:(!!fi&&(ce != 0&&true))=true) (c0:Ok 55 [.ag i.cs] (.c (.b fi))) (c1:Ok 56 [.ag t.cs] (.c (.i ce))) :
  Ok 21 [.ag i.cs,.ag t.cs] (.tu [.ag St.z.cs,.ag St.z.cs,.c (.i 0),.c (.i 1)]) :=
 zaf [false,true] ([]) [] Tryz.func21 rfl rfl rfl rfl (by kernel_rfl) h (zab c0 (zab c1 zae))
theorem yamn (h:(!!fi&&(!ce != 0&&(!t.live&&true)))=true) (c0:Ok 55 [.ag i.cs] (.c (.b fi))) (c1:Ok 56 [.ag t.cs] (.c (.i ce))) :
  Ok 21 [.ag i.cs,.ag t.cs] (.tu [.ag St.z.cs,.ag St.z.cs,.c (.i 0),.c (.i 0)]) :=
 zaf [false,false,true] ([]) [] Tryz.func21 rfl rfl rfl rfl (by kernel_rfl) h (zab c0 (zab c1 zae))
theorem yamz (h:(!!fi&&(!ce != 0&&(!!t.live&&(tr != 0&&true))))=true) (c0:Ok 55 [.ag i.cs] (.c (.b fi))) (c1:Ok 56 [.ag t.cs] (.c (.i ce))) (c2:Ok 57 [.ag i.cs,.ag t.cs] (.c (.i tr))) :
  Ok 21 [.ag i.cs,.ag t.cs] (.tu [.ag St.z.cs,.ag St.z.cs,.c (.i tr),.c (.i 0)]) :=
 zaf [false,false,false,true] ([]) [] Tryz.func21 rfl rfl rfl rfl (by kernel_rfl) h (zab c0 (zab c1 (zab c2 zae)))
theorem yapz (h:(!!fi&&(!ce != 0&&(!!t.live&&(!tr != 0&&true))))=true) (c0:Ok 55 [.ag i.cs] (.c (.b fi))) (c1:Ok 56 [.ag t.cs] (.c (.i ce))) (c2:Ok 57 [.ag i.cs,.ag t.cs] (.c (.i tr))) (c3:Ok 58 [.ag i.cs,.ag t.cs] (.tu [.ag t1.cs,.ag t2.cs])) :
  Ok 21 [.ag i.cs,.ag t.cs] (.tu [.ag t1.cs,.ag t2.cs,.c (.i 0),.c (.i 0)]) :=
 zaf [false,false,false,false] ([]) [] Tryz.func21 rfl rfl rfl rfl (by kernel_rfl) h (zab c0 (zab c1 (zab c2 (zab c3 zae))))
theorem zjk
  (l0:(!fi)=true→(Ok 55 [.ag i.cs] (.c (.b fi)))∧(AV.tu [.ag St.z.cs,.ag St.z.cs,.c (.i 0),.c (.i 1)]=V))
  (l1:(!fi)=false→(ce != 0)=true→(Ok 55 [.ag i.cs] (.c (.b fi)))∧(Ok 56 [.ag t.cs] (.c (.i ce)))∧(AV.tu [.ag St.z.cs,.ag St.z.cs,.c (.i 0),.c (.i 1)]=V))
  (l2:(!fi)=false→(ce != 0)=false→(!t.live)=true→(Ok 55 [.ag i.cs] (.c (.b fi)))∧(Ok 56 [.ag t.cs] (.c (.i ce)))∧(AV.tu [.ag St.z.cs,.ag St.z.cs,.c (.i 0),.c (.i 0)]=V))
  (l3:(!fi)=false→(ce != 0)=false→(!t.live)=false→(tr != 0)=true→(Ok 55 [.ag i.cs] (.c (.b fi)))∧(Ok 56 [.ag t.cs] (.c (.i ce)))∧(Ok 57 [.ag i.cs,.ag t.cs] (.c (.i tr)))∧(AV.tu [.ag St.z.cs,.ag St.z.cs,.c (.i tr),.c (.i 0)]=V))
  (l4:(!fi)=false→(ce != 0)=false→(!t.live)=false→(tr != 0)=false→(Ok 55 [.ag i.cs] (.c (.b fi)))∧(Ok 56 [.ag t.cs] (.c (.i ce)))∧(Ok 57 [.ag i.cs,.ag t.cs] (.c (.i tr)))∧(Ok 58 [.ag i.cs,.ag t.cs] (.tu [.ag t1.cs,.ag t2.cs]))∧(AV.tu [.ag t1.cs,.ag t2.cs,.c (.i 0),.c (.i 0)]=V)) :
  Ok 21 [.ag i.cs,.ag t.cs] V :=
 (tf (!fi)).elim (fun h0=>(match l0 h0 with | ⟨c0,e⟩=>zam (yaph (zaa h0 rfl) c0) e)) (fun h0=>(tf (ce != 0)).elim (fun h1=>(match l1 h0 h1 with | ⟨c0,c1,e⟩=>zam (yaou (zaa (zad h0) (zaa h1 rfl)) c0 c1) e)) (fun h1=>(tf (!t.live)).elim (fun h2=>(match l2 h0 h1 h2 with | ⟨c0,c1,e⟩=>zam (yamn (zaa (zad h0) (zaa (zad h1) (zaa h2 rfl))) c0 c1) e)) (fun h2=>(tf (tr != 0)).elim (fun h3=>(match l3 h0 h1 h2 h3 with | ⟨c0,c1,c2,e⟩=>zam (yamz (zaa (zad h0) (zaa (zad h1) (zaa (zad h2) (zaa h3 rfl)))) c0 c1 c2) e)) (fun h3=>(match l4 h0 h1 h2 h3 with | ⟨c0,c1,c2,c3,e⟩=>zam (yapz (zaa (zad h0) (zaa (zad h1) (zaa (zad h2) (zaa (zad h3) rfl)))) c0 c1 c2 c3) e)))))
end
end Go.Proofs.YtkigmocchaikgabGreatDoor
