import Derived.Test.YtkigmocchaikgabGreatDoorDj2
import Derived.Test.YtkigmocchaikgabGreatDoorProg
import Derived.Test.YtkigmocchaikgabGreatDoorShelf
import Derived.WalkKit
import Derived.WalkSpells
import Derived.WalkLawsBesides
import Derived.Handy
import Derived.Below
import Derived.Lib.ParseIntBCases
import Derived.Lib.ItoaMem
import Derived.Lib.AppendIntMem
import Derived.Lib.Walk
import Derived.BigCall
import Derived.BigGuard
import Derived.Lib.ItoaLen
import Derived.Maps.Own
import Derived.StringKeys
import Derived.Maps.OwnOps
import Derived.Maps.OwnSet
import Derived.Maps.RangeWalk
import Derived.Shelf.Strings.Builder1
import Derived.Lib.FrozenHead
import Derived.Lib.OthersKept
import Derived.Deep.RegionWith
import Derived.Lib.SplitLaws
import Derived.Defers
import Derived.Recover
import Derived.Laws.Pointers
/- Ways of bodies, written by a program (ways.py): what each asks for, and hands back. -/
namespace Go.Proofs.YtkigmocchaikgabGreatDoor
open Go.RowKit
section
abbrev vaRK (t:ByteArray) (x:BitVec 64) (j:Nat):Kn:=⟨[(0,.c (.s t)),(3,.c (.u x)),(4,.c (.i (j:Int)))],[],0⟩
variable {x:BitVec 64} {u t:ByteArray} {V:AV} {C:Cx} {R:Ending→World→Prop} {j n:Nat} {w:World} {β:Bs} {n1:Int} {i:Ins}
theorem ybao (h:(decide (nv x<10)&&true)=true) :
  Ok 13 [.c (.u x)] (.c (.s (zmq (((splice (rows 1 [.y 0#8]) 0 [.y (BitVec.setWidth 8 (badd (48#64) (x % 10#64)))]).drop 0).take 1)))) :=
 zaf [true] ([]) [] Tryz.func13 rfl rfl rfl rfl (by kernel_rfl) h zae
theorem yaz2 (h:(!decide (nv x<10)&&(decide (ByteArray.size u+ByteArray.size (zmq (((splice (rows 1 [.y 0#8]) 0 [.y (BitVec.setWidth 8 (badd (48#64) (x % 10#64)))]).drop 0).take 1))≤9223372036854775807)&&true))=true) (c0:Ok 13 [.c (.u (x / 10#64))] (.c (.s u))) :
  Ok 13 [.c (.u x)] (.c (.s (u++zmq (((splice (rows 1 [.y 0#8]) 0 [.y (BitVec.setWidth 8 (badd (48#64) (x % 10#64)))]).drop 0).take 1)))) :=
 zaf [false] ([]) [] Tryz.func13 rfl rfl rfl rfl (by kernel_rfl) h (zab c0 zae)
theorem yaxz
  (l0:(decide (nv x<10))=true→(AV.c (.s (zmq (((splice (rows 1 [.y 0#8]) 0 [.y (BitVec.setWidth 8 (badd (48#64) (x % 10#64)))]).drop 0).take 1)))=V))
  (l1:(decide (nv x<10))=false→(decide (ByteArray.size u+ByteArray.size (zmq (((splice (rows 1 [.y 0#8]) 0 [.y (BitVec.setWidth 8 (badd (48#64) (x % 10#64)))]).drop 0).take 1))≤9223372036854775807))=true∧(Ok 13 [.c (.u (x / 10#64))] (.c (.s u)))∧(AV.c (.s (u++zmq (((splice (rows 1 [.y 0#8]) 0 [.y (BitVec.setWidth 8 (badd (48#64) (x % 10#64)))]).drop 0).take 1)))=V)) :
  Ok 13 [.c (.u x)] V :=
 (tf (decide (nv x<10))).elim (fun h0=>(match l0 h0 with | e=>zam (ybao (zaa h0 rfl)) e)) (fun h0=>(match l1 h0 with | ⟨o0,c0,e⟩=>zam (yaz2 (zaa (zad h0) (zaa o0 rfl)) c0) e))
theorem yal8 (hF:∀ k,C.F k→k<0) (z:AR 69 Tryz.f69 C 0 ⟨[(0,.c (.s t)),(3,.c (.u 0#64)),(4,.c (.i 0))],[],0⟩ R) :
  BO 69 Tryz.f69 C [.c (.s t)] [] 0 R :=
 zai [] ([true]) [] Tryz.func69 (by kernel_rfl) rfl zae (zc5 rfl) hF z
theorem yazo (h:(decide ((j:Int)<(↑(ByteArray.size t):Int))&&(decide ((j:Int)<20)&&(decide ((j:Int).toNat<ByteArray.size t)&&true)))=true) (c0:pe (.c (.i (IntKind.i64.wrap ((j:Int)+1))))=pe (.c (.i (↑(j+1):Int)))) (hF:∀ k,C.F k→k<0) (z:AR 69 Tryz.f69 C 0 (vaRK t (badd (bmul (10#64) x) (BitVec.setWidth 64 (zfu t (j:Int).toNat - 48#8))) (j+1)) R) :
  AR 69 Tryz.f69 C 0 (vaRK t x j) R :=
 zai [true,true] ([true]) [(4,1)] Tryz.func69 (by kernel_rfl) h (zac c0 zae) (zc5 rfl) hF z
theorem yawe (h:(!decide ((j:Int)<(↑(ByteArray.size t):Int))&&true)=true) :
  AR 69 Tryz.f69 (cx w β n []) 0 (vaRK t x j) (REff w β ⟨.c (.u x),[],none⟩) :=
 zah [] none [false,false] ([true]) [] Tryz.func69 (zav rfl n) (by kernel_rfl) h zae
theorem yayf (h:(decide ((j:Int)<(↑(ByteArray.size t):Int))&&(!decide ((j:Int)<20)&&true))=true) :
  AR 69 Tryz.f69 (cx w β n []) 0 (vaRK t x j) (REff w β ⟨.c (.u x),[],none⟩) :=
 zah [] none [true,false] ([true]) [] Tryz.func69 (zav rfl n) (by kernel_rfl) h zae
theorem ybav (h:(decide (4<(↑(ByteArray.size t):Int))&&true)=true) :
  Ok 70 [.c (.s t)] (.c (.i 0)) :=
 zaf [true] ([]) [] Tryz.func70 rfl rfl rfl rfl (by kernel_rfl) h zae
theorem yaz4 (h:(!decide (4<(↑(ByteArray.size t):Int))&&(decide (0<(↑(ByteArray.size t):Int))&&(decide (0<ByteArray.size t)&&(zfu t 0==45#8&&(decide (1≤(↑(ByteArray.size t):Int))&&decide ((↑(ByteArray.size t):Int)≤(↑(ByteArray.size t):Int))&&true)))))=true) (c0:Ok 69 [.c (.s (ByteArray.extract t 1 ((↑(ByteArray.size t):Int)).toNat))] (.c (.u x))) :
  Ok 70 [.c (.s t)] (.c (.i (IntKind.i64.wrap (0 - IntKind.i64.wrap (nv x))))) :=
 zaf [false,true,true] ([]) [] Tryz.func70 rfl rfl rfl rfl (by kernel_rfl) h (zab c0 zae)
theorem ybag (h:(!decide (4<(↑(ByteArray.size t):Int))&&(decide (0<(↑(ByteArray.size t):Int))&&(decide (0<ByteArray.size t)&&(!byteAt t 0==45#8&&true))))=true) (c0:Ok 69 [.c (.s t)] (.c (.u x))) :
  Ok 70 [.c (.s t)] (.c (.i (IntKind.i64.wrap (nv x)))) :=
 zaf [false,true,false] ([]) [] Tryz.func70 rfl rfl rfl rfl (by kernel_rfl) h (zab c0 zae)
theorem ybah (h:(!decide (4<(↑(ByteArray.size t):Int))&&(!decide (0<(↑(ByteArray.size t):Int))&&true))=true) (c0:Ok 69 [.c (.s t)] (.c (.u x))) :
  Ok 70 [.c (.s t)] (.c (.i (IntKind.i64.wrap (nv x)))) :=
 zaf [false,false,false] ([]) [] Tryz.func70 rfl rfl rfl rfl (by kernel_rfl) h (zab c0 zae)
theorem ybas (h:(decide ((↑(ByteArray.size t):Int)<2)&&true)=true) :
  Ok 68 [.c (.s t)] (.c (.i 0)) :=
 zaf [true] ([]) [] Tryz.func68 rfl rfl rfl rfl (by kernel_rfl) h zae
theorem ybaf (h:(!decide ((↑(ByteArray.size t):Int)<2)&&(decide (1≤(↑(ByteArray.size t):Int))&&decide ((↑(ByteArray.size t):Int)≤(↑(ByteArray.size t):Int))&&true))=true) (c0:Ok 70 [.c (.s (ByteArray.extract t 1 ((↑(ByteArray.size t):Int)).toNat))] (.c (.i n1))) :
  Ok 68 [.c (.s t)] (.c (.i n1)) :=
 zaf [false] ([]) [] Tryz.func68 rfl rfl rfl rfl (by kernel_rfl) h (zab c0 zae)
theorem ybap (h:(decide (n1<0)&&(decide (1+ByteArray.size u≤9223372036854775807)&&true))=true) (c0:Ok 13 [.c (.u (BitVec.ofInt 64 (IntKind.i64.wrap (0 - n1))))] (.c (.s u))) :
  Ok 87 [.c (.i n1)] (.c (.s (ByteArray.mk #[OfNat.ofNat 45]++u))) :=
 zaf [true] ([]) [] Tryz.func87 rfl rfl rfl rfl (by kernel_rfl) h (zab c0 zae)
theorem ybaz (h:(!decide (n1<0)&&true)=true) (c0:Ok 13 [.c (.u (BitVec.ofInt 64 n1))] (.c (.s u))) :
  Ok 87 [.c (.i n1)] (.c (.s u)) :=
 zaf [false] ([]) [] Tryz.func87 rfl rfl rfl rfl (by kernel_rfl) h (zab c0 zae)
theorem yay2
  (l0:(decide (n1<0))=true→(decide (1+ByteArray.size u≤9223372036854775807))=true∧(Ok 13 [.c (.u (BitVec.ofInt 64 (IntKind.i64.wrap (0 - n1))))] (.c (.s u)))∧(AV.c (.s (ByteArray.mk #[OfNat.ofNat 45]++u))=V))
  (l1:(decide (n1<0))=false→(Ok 13 [.c (.u (BitVec.ofInt 64 n1))] (.c (.s u)))∧(AV.c (.s u)=V)) :
  Ok 87 [.c (.i n1)] V :=
 (tf (decide (n1<0))).elim (fun h0=>(match l0 h0 with | ⟨o0,c0,e⟩=>zam (ybap (zaa h0 (zaa o0 rfl)) c0) e)) (fun h0=>(match l1 h0 with | ⟨c0,e⟩=>zam (ybaz (zaa (zad h0) rfl) c0) e))
theorem ybaw (h:(decide (1+ByteArray.size u≤9223372036854775807)&&true)=true) (c0:Ok 13 [.c (.u (BitVec.ofInt 64 n1))] (.c (.s u))) :
  Ok 85 [.c (.i n1)] (.c (.s (ByteArray.mk #[OfNat.ofNat 114]++u))) :=
 zaf [] ([]) [] Tryz.func85 rfl rfl rfl rfl (by kernel_rfl) h (zab c0 zae)
theorem ybaq (h:(i.s==-1&&true)=true) (c0:Ok 13 [.c (.u i.im)] (.c (.s u))) :
  Ok 86 [.ag i.cs] (.c (.s u)) :=
 zaf [true] ([]) [] Tryz.func86 rfl rfl rfl rfl (by kernel_rfl) h (zab c0 zae)
theorem ybal (h:(!i.s==-1&&true)=true) (c0:Ok 85 [.c (.i i.s)] (.c (.s u))) :
  Ok 86 [.ag i.cs] (.c (.s u)) :=
 zaf [false] ([]) [] Tryz.func86 rfl rfl rfl rfl (by kernel_rfl) h (zab c0 zae)
end
section
abbrev yagl (t:ByteArray) (c:BitVec 8) (q p j:Nat):Kn:=⟨[(0,.c (.s t)),(1,.c (.y c)),(2,.c (.i (q:Int))),(7,.c zcu),(8,.c (.i (p:Int))),(9,.c (.i (j:Int)))],[],51⟩
abbrev zow (t:ByteArray) (c:BitVec 8) (q p j r:Nat) (A:List AC):Kn:=⟨[(0,.c (.s t)),(1,.c (.y c)),(2,.c (.i (q:Int))),(7,.c (.sx 50 r)),(8,.c (.i (p:Int))),(9,.c (.i (j:Int)))],[(50,Ent.mk true A 1)],51⟩
variable {t:ByteArray} {c:BitVec 8} {q p j r n:Nat} {C:Cx} {R:Ending→World→Prop} {A:List AC} {w:World} {β:Bs}
theorem yapz (hF:∀ k,C.F k→k<51) (z:AR 27 Tryz.f27 C 0 ⟨[(0,.c (.s t)),(1,.c (.y c)),(2,.c (.i (q:Int))),(7,.c zcu),(8,.c (.i 0)),(9,.c (.i 0))],[],51⟩ R) :
  BO 27 Tryz.f27 C [.c (.s t),.c (.y c),.c (.i (q:Int))] [] 0 R :=
 zai [] ([true]) [] Tryz.func27 (by kernel_rfl) rfl zae (zc5 rfl) hF z
theorem yatr (h:(decide ((j:Int)≤(↑(ByteArray.size t):Int))&&(decide (0<(q:Int))&&(!(j:Int)==(↑(ByteArray.size t):Int)&&(decide ((j:Int).toNat<ByteArray.size t)&&(!byteAt t (j:Int).toNat==c&&true)))))=true) (c0:pe (.c (.i (IntKind.i64.wrap ((j:Int)+1))))=pe (.c (.i (↑(j+1):Int)))) (hF:∀ k,C.F k→k<51) (z:AR 27 Tryz.f27 C 0 (yagl t c q p (j+1)) R) :
  AR 27 Tryz.f27 C 0 (yagl t c q p j) R :=
 zai [true,true,false,false] ([true]) [(5,1)] Tryz.func27 (by kernel_rfl) h (zac c0 zae) (zc5 rfl) hF z
theorem yasl (h:(decide ((j:Int)≤(↑(ByteArray.size t):Int))&&(decide (0<(q:Int))&&((j:Int)==(↑(ByteArray.size t):Int)&&(decide ((p:Int)≤(j:Int))&&decide ((j:Int)≤(↑(ByteArray.size t):Int))&&true))))=true) (c0:Eff.mk (.c (.sx 78 1)) [] (some (51+10+11+6,Ent.mk true [.s (ByteArray.extract t ((p:Int)).toNat ((j:Int)).toNat)] 1))=Eff.mk (.c (.sx 78 1)) [] (some (78,Ent.mk true [.s (ByteArray.extract t p j)] 1))) (c1:pe (.c (.i (IntKind.i64.wrap ((j:Int)+1))))=pe (.c (.i (↑(j+1):Int)))) (c2:pe (.c (.i (IntKind.i64.wrap ((j:Int)+1))))=pe (.c (.i (↑(j+1):Int)))) (lo:Kn.Low ⟨[(0,.c (.s t)),(1,.c (.y c)),(2,.c (.i (q:Int))),(7,.c (.sx 78 1)),(8,.c (.i (↑(j+1):Int))),(9,.c (.i (↑(j+1):Int)))],[(78,Ent.mk true [.s (ByteArray.extract t p j)] 1)],79⟩) (hF:∀ k,C.F k→k<79) (z:AR 27 Tryz.f27 C 0 ⟨[(0,.c (.s t)),(1,.c (.y c)),(2,.c (.i (q:Int))),(7,.c (.sx 78 1)),(8,.c (.i (↑(j+1):Int))),(9,.c (.i (↑(j+1):Int)))],[(78,Ent.mk true [.s (ByteArray.extract t p j)] 1)],79⟩ R) :
  AR 27 Tryz.f27 C 0 (yagl t c q p j) R :=
 zai [true,true,true,true] ([true]) [(7,6),(8,1),(5,1)] Tryz.func27 (by kernel_rfl) h (zac c0 (zac c1 (zac c2 zae))) lo hF z
theorem yasd (h:(decide ((j:Int)≤(↑(ByteArray.size t):Int))&&(decide (0<(q:Int))&&(!(j:Int)==(↑(ByteArray.size t):Int)&&(decide ((j:Int).toNat<ByteArray.size t)&&(zfu t (j:Int).toNat==c&&(decide ((p:Int)≤(j:Int))&&decide ((j:Int)≤(↑(ByteArray.size t):Int))&&true))))))=true) (c0:Eff.mk (.c (.sx 78 1)) [] (some (51+10+11+6,Ent.mk true [.s (ByteArray.extract t ((p:Int)).toNat ((j:Int)).toNat)] 1))=Eff.mk (.c (.sx 78 1)) [] (some (78,Ent.mk true [.s (ByteArray.extract t p j)] 1))) (c1:pe (.c (.i (IntKind.i64.wrap ((j:Int)+1))))=pe (.c (.i (↑(j+1):Int)))) (c2:pe (.c (.i (IntKind.i64.wrap ((j:Int)+1))))=pe (.c (.i (↑(j+1):Int)))) (lo:Kn.Low ⟨[(0,.c (.s t)),(1,.c (.y c)),(2,.c (.i (q:Int))),(7,.c (.sx 78 1)),(8,.c (.i (↑(j+1):Int))),(9,.c (.i (↑(j+1):Int)))],[(78,Ent.mk true [.s (ByteArray.extract t p j)] 1)],79⟩) (hF:∀ k,C.F k→k<79) (z:AR 27 Tryz.f27 C 0 ⟨[(0,.c (.s t)),(1,.c (.y c)),(2,.c (.i (q:Int))),(7,.c (.sx 78 1)),(8,.c (.i (↑(j+1):Int))),(9,.c (.i (↑(j+1):Int)))],[(78,Ent.mk true [.s (ByteArray.extract t p j)] 1)],79⟩ R) :
  AR 27 Tryz.f27 C 0 (yagl t c q p j) R :=
 zai [true,true,false,true] ([true]) [(7,6),(8,1),(5,1)] Tryz.func27 (by kernel_rfl) h (zac c0 (zac c1 (zac c2 zae))) lo hF z
theorem yati (h:(decide ((j:Int)≤(↑(ByteArray.size t):Int))&&(decide ((r:Int)<(q:Int))&&(!(j:Int)==(↑(ByteArray.size t):Int)&&(decide ((j:Int).toNat<ByteArray.size t)&&(!byteAt t (j:Int).toNat==c&&true)))))=true) (c0:pe (.c (.i (IntKind.i64.wrap ((j:Int)+1))))=pe (.c (.i (↑(j+1):Int)))) (lo:Kn.Low (zow t c q p (j+1) r A)) (hF:∀ k,C.F k→k<51) (z:AR 27 Tryz.f27 C 0 (zow t c q p (j+1) r A) R) :
  AR 27 Tryz.f27 C 0 (zow t c q p j r A) R :=
 zai [true,true,false,false] ([true]) [(5,1)] Tryz.func27 (by kernel_rfl) h (zac c0 zae) lo hF z
theorem yauu (h:(decide ((j:Int)≤(↑(ByteArray.size t):Int))&&(decide ((r:Int)<(q:Int))&&((j:Int)==(↑(ByteArray.size t):Int)&&(decide ((p:Int)≤(j:Int))&&decide ((j:Int)≤(↑(ByteArray.size t):Int))&&(Nat.beq (r*1) A.length&&decide (r+1≤137438953472)&&Nat.blt 0 r&&true)))))=true) (c0:Eff.mk (.c (.sx 78 (r+1))) [(50,[])] (some (51+10+11+6,Ent.mk true (A++((splice (rows 1 [.s (ByteArray.mk #[])]) 0 [.s (ByteArray.extract t ((p:Int)).toNat ((j:Int)).toNat)]).drop 0).take 1) 1))=Eff.mk (.c (.sx 78 (r+1))) [(50,[])] (some (78,Ent.mk true (A++[.s (ByteArray.extract t p j)]) 1))) (c1:pe (.c (.i (IntKind.i64.wrap ((j:Int)+1))))=pe (.c (.i (↑(j+1):Int)))) (c2:pe (.c (.i (IntKind.i64.wrap ((j:Int)+1))))=pe (.c (.i (↑(j+1):Int)))) (lo:Kn.Low ⟨[(0,.c (.s t)),(1,.c (.y c)),(2,.c (.i (q:Int))),(7,.c (.sx 78 (r+1))),(8,.c (.i (↑(j+1):Int))),(9,.c (.i (↑(j+1):Int)))],[(78,Ent.mk true (A++[.s (ByteArray.extract t p j)]) 1)],79⟩) (hF:∀ k,C.F k→k<79) (z:AR 27 Tryz.f27 C 0 ⟨[(0,.c (.s t)),(1,.c (.y c)),(2,.c (.i (q:Int))),(7,.c (.sx 78 (r+1))),(8,.c (.i (↑(j+1):Int))),(9,.c (.i (↑(j+1):Int)))],[(78,Ent.mk true (A++[.s (ByteArray.extract t p j)]) 1)],79⟩ R) :
  AR 27 Tryz.f27 C 0 (zow t c q p j r A) R :=
 zai [true,true,true,true] ([true]) [(7,6),(8,1),(5,1)] Tryz.func27 (by kernel_rfl) h (zac c0 (zac c1 (zac c2 zae))) lo hF z
theorem yasr (h:(decide ((j:Int)≤(↑(ByteArray.size t):Int))&&(decide ((r:Int)<(q:Int))&&(!(j:Int)==(↑(ByteArray.size t):Int)&&(decide ((j:Int).toNat<ByteArray.size t)&&(zfu t (j:Int).toNat==c&&(decide ((p:Int)≤(j:Int))&&decide ((j:Int)≤(↑(ByteArray.size t):Int))&&(Nat.beq (r*1) A.length&&decide (r+1≤137438953472)&&Nat.blt 0 r&&true)))))))=true) (c0:Eff.mk (.c (.sx 78 (r+1))) [(50,[])] (some (51+10+11+6,Ent.mk true (A++((splice (rows 1 [.s (ByteArray.mk #[])]) 0 [.s (ByteArray.extract t ((p:Int)).toNat ((j:Int)).toNat)]).drop 0).take 1) 1))=Eff.mk (.c (.sx 78 (r+1))) [(50,[])] (some (78,Ent.mk true (A++[.s (ByteArray.extract t p j)]) 1))) (c1:pe (.c (.i (IntKind.i64.wrap ((j:Int)+1))))=pe (.c (.i (↑(j+1):Int)))) (c2:pe (.c (.i (IntKind.i64.wrap ((j:Int)+1))))=pe (.c (.i (↑(j+1):Int)))) (lo:Kn.Low ⟨[(0,.c (.s t)),(1,.c (.y c)),(2,.c (.i (q:Int))),(7,.c (.sx 78 (r+1))),(8,.c (.i (↑(j+1):Int))),(9,.c (.i (↑(j+1):Int)))],[(78,Ent.mk true (A++[.s (ByteArray.extract t p j)]) 1)],79⟩) (hF:∀ k,C.F k→k<79) (z:AR 27 Tryz.f27 C 0 ⟨[(0,.c (.s t)),(1,.c (.y c)),(2,.c (.i (q:Int))),(7,.c (.sx 78 (r+1))),(8,.c (.i (↑(j+1):Int))),(9,.c (.i (↑(j+1):Int)))],[(78,Ent.mk true (A++[.s (ByteArray.extract t p j)]) 1)],79⟩ R) :
  AR 27 Tryz.f27 C 0 (zow t c q p j r A) R :=
 zai [true,true,false,true] ([true]) [(7,6),(8,1),(5,1)] Tryz.func27 (by kernel_rfl) h (zac c0 (zac c1 (zac c2 zae))) lo hF z
theorem yavm (h:(!decide ((j:Int)≤(↑(ByteArray.size t):Int))&&true)=true) (hk:EKeys n [] (some 50) ⟨.c (.sx 50 r),[],some (50,Ent.mk true A 1)⟩) :
  AR 27 Tryz.f27 (cx w β n []) 0 (zow t c q p j r A) (REff w β ⟨.c (.sx 50 r),[],some (50,Ent.mk true A 1)⟩) :=
 zah [] (some 50) [false,false] ([true]) [] Tryz.func27 hk (by kernel_rfl) h zae
theorem yauj (h:(decide ((j:Int)≤(↑(ByteArray.size t):Int))&&(!decide ((r:Int)<(q:Int))&&true))=true) (hk:EKeys n [] (some 50) ⟨.c (.sx 50 r),[],some (50,Ent.mk true A 1)⟩) :
  AR 27 Tryz.f27 (cx w β n []) 0 (zow t c q p j r A) (REff w β ⟨.c (.sx 50 r),[],some (50,Ent.mk true A 1)⟩) :=
 zah [] (some 50) [true,false] ([true]) [] Tryz.func27 hk (by kernel_rfl) h zae
end
def Done (w:World) (v:Option Value) (e:Ending) (w':World):Prop :=
 (match v with | some v=>e=.returned v | none=>e=.panicked [{ v:=.iface 22 (.int .i64 1),recovered:=false }])∧Below w.heap.size w w'
theorem zji (w:World):Calls Tryz.prog 90 #[.bool true] w fun e w'=>e=.returned (.tuple #[])∧w'=w:=by
 go_enter Tryz.func90,Tryz.ntmps90
 go_wp2
 exact bodyPost_end (v:=.tuple #[]) (by simp [results,Tryz.results90]) rfl ⟨rfl,rfl⟩
theorem zic (w:World):Calls Tryz.prog 90 #[.bool false] w fun e w'=>e=.panicked [{ v:=.iface 22 (.int .i64 1),recovered:=false }]∧w'=w:=by
 go_enter Tryz.func90,Tryz.ntmps90
 go_wp2
 exact ⟨rfl,rfl,rfl⟩
def sgnB (s:ByteArray):Option Int:=match Lib.atoiAll s.data.toList with | .ok n=>some n | _=>none
def zwd (s:ByteArray):Option Nat:=match Lib.parseUintB 64 s.data.toList with | .ok n=>some n | _=>none
theorem zf7 {s:ByteArray} (hs:s.size≤4096) {w:World} (hg:Gw w):Calls Tryz.prog 138 #[.string s] w (Done w ((sgnB s).map (Value.int .i64))):=by
 obtain ⟨t1,p1,h1⟩:=hg.syn
 obtain ⟨t2,p2,h2⟩:=hg.rng
 unfold sgnB
 cases h:Lib.atoiAll s.data.toList with
 | ok n =>
  go_enter Tryz.func138,Tryz.ntmps138
  go_wp2_with (first
   | (go_at_call 178;refine (Tryz.strconv_Atoi_ok s (by omega) n h _).mono ?_;rintro e w1 ⟨rfl,hw1⟩)
   | (go_at_call 90;refine (zji _).mono ?_;rintro e w2 ⟨rfl,rfl⟩))
  go_ret
  refine ⟨rfl,?_⟩
  rcases hw1 with rfl | ⟨t,rfl⟩
  ·exact Below.refl _ _
  ·exact Lib.bytesWorld_below _ _ _
 | «syntax» =>
  go_enter Tryz.func138,Tryz.ntmps138
  go_wp2_with (first
   | (go_at_call 178;refine (Tryz.strconv_Atoi_syntax s (by omega) h _ _ h1 (Or.inr ⟨_,_,rfl⟩)).mono ?_;rintro e w1 ⟨N,rfl,hN,hb,hbel⟩)
   | (go_at_call 90;refine (zic _).mono ?_;rintro e w2 ⟨rfl,rfl⟩))
  exact ⟨rfl,rfl,hbel⟩
 | range =>
  go_enter Tryz.func138,Tryz.ntmps138
  go_wp2_with (first
   | (go_at_call 178;refine (Tryz.strconv_Atoi_range s (by omega) h _ _ h2 (Or.inr ⟨_,_,rfl⟩)).mono ?_;rintro e w1 ⟨N,rfl,hN,hb,hbel⟩)
   | (go_at_call 90;refine (zic _).mono ?_;rintro e w2 ⟨rfl,rfl⟩))
  exact ⟨rfl,rfl,hbel⟩
theorem zf5 {s:ByteArray} (hs:s.size≤4096) {w:World} (hg:Gw w):Calls Tryz.prog 137 #[.string s] w (Done w ((zwd s).map fun n=>Value.int .u64 (n:Int))):=by
 obtain ⟨t1,p1,h1⟩:=hg.syn
 obtain ⟨t2,p2,h2⟩:=hg.rng
 unfold zwd
 cases h:Lib.parseUintB 64 s.data.toList with
 | ok n =>
  go_enter Tryz.func137,Tryz.ntmps137
  go_wp2_with (first
   | (go_at_call 177;refine (Tryz.strconv_ParseUint_10_at64_ok s (by omega) n h _).mono ?_;rintro e w1 ⟨rfl,hw1⟩)
   | (go_at_call 90;refine (zji _).mono ?_;rintro e w2 ⟨rfl,rfl⟩))
  go_ret
  refine ⟨rfl,?_⟩
  rcases hw1 with rfl | rfl
  ·exact Below.refl _ _
  ·exact Lib.bytesWorld_below _ _ _
 | «syntax» =>
  go_enter Tryz.func137,Tryz.ntmps137
  go_wp2_with (first
   | (go_at_call 177;refine (Tryz.strconv_ParseUint_10_at64_syntax s (by omega) h _ _ h1 (Or.inr ⟨_,_,rfl⟩)).mono ?_;rintro e w1 ⟨N,rfl,hN,hb,hbel⟩)
   | (go_at_call 90;refine (zic _).mono ?_;rintro e w2 ⟨rfl,rfl⟩))
  exact ⟨rfl,rfl,hbel⟩
 | range =>
  go_enter Tryz.func137,Tryz.ntmps137
  go_wp2_with (first
   | (go_at_call 177;refine (Tryz.strconv_ParseUint_10_at64_range s (by omega) h _ _ h2 (Or.inr ⟨_,_,rfl⟩)).mono ?_;rintro e w1 ⟨N,rfl,hN,hb,hbel⟩)
   | (go_at_call 90;refine (zic _).mono ?_;rintro e w2 ⟨rfl,rfl⟩))
  exact ⟨rfl,rfl,hbel⟩
def regW (s:ByteArray):Option Int:=if Lib.hasPrefix s.data.toList [114] then sgnB ⟨(Lib.trimPrefix s.data.toList [114]).toArray⟩ else none
theorem zhe {s:ByteArray} (hs:s.size≤4096) {w:World} (hg:Gw w):Calls Tryz.prog 135 #[.string s] w (Done w ((regW s).map (Value.int .i64))):=by
 have hl:(ByteArray.mk (Lib.trimPrefix s.data.toList [114]).toArray).size≤4096:=by
  have h1:(ByteArray.mk (Lib.trimPrefix s.data.toList [114]).toArray).size=(Lib.trimPrefix s.data.toList [114]).length:=by simp [ByteArray.size]
  rw [h1]
  have:=Lib.size_eq s
  unfold Lib.trimPrefix
  split
  ·rw [List.length_drop];omega
  ·omega
 have hr:=zf7 hl hg
 unfold regW
 cases h:Lib.hasPrefix s.data.toList [114] with
 | true =>
  rw [if_pos rfl]
  generalize sgnB ⟨(Lib.trimPrefix s.data.toList [114]).toArray⟩=v at *
  cases v with
  | some v =>
   go_enter Tryz.func135,Tryz.ntmps135
   go_wp2_with (first
    | (go_at_call 175;refine (Tryz.strings_CutPrefix _ _ _).mono ?_;rintro e w1 ⟨rfl,rfl⟩;rw [h])
    | (go_at_call 90;refine (zji _).mono ?_;rintro e w2 ⟨rfl,rfl⟩)
    | (go_at_call 138;refine hr.mono ?_;rintro e w3 ⟨rfl,hb⟩))
   go_ret
   exact ⟨rfl,hb⟩
  | none =>
   go_enter Tryz.func135,Tryz.ntmps135
   go_wp2_with (first
    | (go_at_call 175;refine (Tryz.strings_CutPrefix _ _ _).mono ?_;rintro e w1 ⟨rfl,rfl⟩;rw [h])
    | (go_at_call 90;refine (zji _).mono ?_;rintro e w2 ⟨rfl,rfl⟩)
    | (go_at_call 138;refine hr.mono ?_;rintro e w3 ⟨rfl,hb⟩))
   exact ⟨rfl,rfl,hb⟩
 | false =>
  rw [if_neg (by decide)]
  go_enter Tryz.func135,Tryz.ntmps135
  go_wp2_with (first
   | (go_at_call 175;refine (Tryz.strings_CutPrefix _ _ _).mono ?_;rintro e w1 ⟨rfl,rfl⟩;rw [h])
   | (go_at_call 90;refine (zic _).mono ?_;rintro e w2 ⟨rfl,rfl⟩))
  exact ⟨rfl,rfl,Below.refl _ _⟩
theorem zxw {f:Nat} {A:Array Value} {V:Value} {args:List AV} {v:AV} (h:∀ w,Gw w→Calls Tryz.prog f A w (Done w (some V))) (hA:∀ β,(args.map (AV.g β)).toArray=A) (hV:∀ β,v.g β=V) (hv:v.ks=[]):Ok f args v :=
 zd1 hA hV hv fun w hw=>(h w hw).mono fun _ _ h=>h
theorem zov {s:ByteArray} {n:Int} (hs:s.size≤4096) (h:sgnB s=some n):Ok 138 [.c (.s s)] (.c (.i n)) :=
 zxw (fun w hw=>by have:=zf7 hs hw;rw [h] at this;exact this) (fun _=>rfl) (fun _=>rfl) rfl
theorem zil {s:ByteArray} {n:Int} (hs:s.size≤4096) (h:regW s=some n):Ok 135 [.c (.s s)] (.c (.i n)) :=
 zxw (fun w hw=>by have:=zhe hs hw;rw [h] at this;exact this) (fun _=>rfl) (fun _=>rfl) rfl
abbrev Ins.v (i:Ins):Value:=.agg #[.int .i64 i.op,.int .i64 i.d,.int .i64 i.s,.int .u64 (nv i.im),.int .i64 i.of]
def numW (s:ByteArray):Option (BitVec 64):=(zwd s).map (BitVec.ofNat 64)
theorem yakp (s:ByteArray):(zwd s).map (fun n=>Value.int .u64 (n:Int))=(numW s).map fun x=>Value.int .u64 (nv x):=by
 unfold numW zwd
 cases h:Lib.parseUintB 64 s.data.toList with
 | ok n =>
  have:=Lib.parseUintB_le h
  show some (Value.int .u64 (n:Int))=some (Value.int .u64 (nv (BitVec.ofNat 64 n)))
  have e:nv (BitVec.ofNat 64 n)=(n:Int):=by
   show ((BitVec.ofNat 64 n).toNat:Int)=_
   rw [BitVec.toNat_ofNat];omega
  rw [e]
 | «syntax»=>rfl
 | range=>rfl
def setW (i:Ins) (p:Int) (s:ByteArray):Option Ins :=
 if p=0 then (regW s).map fun n=>{ i with d:=n }
 else if p=1∨p=2∧Lib.hasPrefix s.data.toList [114]=true then (regW s).map fun n=>{ i with s:=n }
 else if p=2 then (numW s).map fun x=>{ i with s:=-1,im:=x }
 else if p=3 then (numW s).map fun x=>{ i with im:=x }
 else if p=4 then (sgnB s).map fun n=>{ i with of:=n }
 else some i
theorem zh3 {s:ByteArray} {x:BitVec 64} (hs:s.size≤4096) (h:numW s=some x):Ok 137 [.c (.s s)] (.c (.u x)) :=
 zxw (fun w hw=>by have:=zf5 hs hw;rw [yakp,h] at this;exact this) (fun _=>rfl) (fun _=>rfl) rfl
end Go.Proofs.YtkigmocchaikgabGreatDoor
namespace Go.Proofs.YtkigmocchaikgabGreatDoor
open Go.Shelf Go.RowKit Go.Sort Go.Lib
theorem zzm (w:World) (T:TypeId) (nd:Nat) (hs:nd≤24):Holds (fun (b:UInt8)=>Value.int .u8 (b.toNat:Int)) (w.alloc (.cells zeros24 T)) w.heap.size 0 (Array.replicate nd (0:UInt8)):=fun j hj=>by
 have hj':j<nd:=by simpa using hj
 refine ⟨?_,World.frozen?_alloc_new _ _ _ _⟩
 rw [World.cell?_alloc_new,zeros24_at _ (by omega),getElem!_pos _ j hj]
 simp
theorem fin0 (w:World) (o:Obj) (dk:Array UInt8) (k:Nat):∃ os,(putRow (fun (b:UInt8)=>Value.int .u8 (b.toNat:Int)) (w.alloc o) w.heap.size 0 dk).drewN k=grow (w.drewN k) os:=by
 rw [alloc_eq_grow]
 obtain ⟨os',_,e⟩:=putRow_grow_new (fun (b:UInt8)=>Value.int .u8 (b.toNat:Int)) w #[o] w.heap.size 0 dk (Nat.le_refl _)
 exact ⟨os',by rw [e];rfl⟩
set_option maxHeartbeats 1600000 in
set_option maxRecDepth 100000 in
theorem yauk {u:Nat} (hu64:u<18446744073709551616) {w:World} (hg:Gw w):Calls Tryz.prog 140 #[.int .u64 u,.int .i64 10] w fun e w'=>e=.returned (.string ⟨(Lib.decDigits u).toArray⟩)∧Below w.heap.size w w':=by
 by_cases hs:u<100
 ·have hw:IntKind.i64.wrap (u:Int)=(u:Int):=by rw [IntKind.wrap_i64];omega
  go_enter Tryz.func140,Tryz.ntmps140
  go_wp2_with (go_at_call 110;refine (Tryz.internal_strconv_small u hs _).mono ?_;rintro e w' ⟨rfl,rfl⟩)
  go_ret
  exact ⟨rfl,Below.refl _ _⟩
 ·have hu1:1≤u:=by omega
  have hnd20:Lib.nDigits u≤20:=by have:=Lib.numDigits_eq u hu1 hu64;split at this <;> omega
  have hal:Tryz.prog.arrayLen 140=24:=by kernel_rfl
  have hsl:∀ W,(Instr.sliceAt 140 (.pointer (some ⟨w.heap.size,0,none⟩)) none (some (.int .i64 (Lib.nDigits u:Int))) none).run Tryz.prog W=.ok (.slice (some ⟨w.heap.size,0,none⟩) (Lib.nDigits u) 24) W:=fun W=>by
   rw [run_sliceAt_array_h W 140 ⟨w.heap.size,0,none⟩ (by kernel_rfl) .i64 (Lib.nDigits u:Int) (by omega) (by rw [hal];omega),hal]
   have hz:(sizeOf (Tryz.prog.elem 140)).run Tryz.prog W=.ok 1 W:=by kernel_rfl
   rw [hz]
   simp [slicedAt,Result.andThen,Lib.add_plain]
  have hH0:=zzm w 140 (Lib.nDigits u) (by omega)
  have hfmt:=Tryz.internal_strconv_formatBase10 w.heap.size 0 24 u (Array.replicate (Lib.nDigits u) 0) (w.alloc (.cells Lib.zeros24 140)) hH0 (by rw [Array.size_replicate];exact Lib.lt_pow_nDigits u) hu64 (by rw [Array.size_replicate];omega)
  rw [Array.size_replicate] at hfmt
  have HH0:=Lib.hid hH0
  clear hH0 hal
  go_enter Tryz.func140,Tryz.ntmps140
  go_wp2_with (first
   | (go_at_call 111;refine (Tryz.internal_strconv_numDigits u hu1 hu64 _ (Lib.tabIs_alloc hg.tab _)).mono ?_;rintro e w' ⟨rfl,rfl⟩))
  go_at_call 112
  refine hfmt.mono ?_
  rintro e w' ⟨rfl,k,v',dk,rfl,hF⟩
  have hcv:(convert 67 9 (.slice (some ⟨w.heap.size,0,none⟩) (Lib.nDigits u) 24)).run Tryz.prog ((putRow (fun (b:UInt8)=>Value.int .u8 (b.toNat:Int)) (w.alloc (.cells Lib.zeros24 140)) w.heap.size 0 dk).drewN k)=.ok (.string ⟨(Lib.decDigits u).toArray⟩) ((putRow (fun (b:UInt8)=>Value.int .u8 (b.toNat:Int)) (w.alloc (.cells Lib.zeros24 140)) w.heap.size 0 dk).drewN k):=by
   have h:=run_convert_bytes_back (P:=Tryz.prog) ((putRow (fun (b:UInt8)=>Value.int .u8 (b.toNat:Int)) (w.alloc (.cells Lib.zeros24 140)) w.heap.size 0 dk).drewN k) 67 9 5 ⟨w.heap.size,0,none⟩ 24 (Lib.decDigits u) Tryz.underlying67 Tryz.underlying5 Tryz.underlying9 (fun j hj=>by
    rw [Lib.row_is_numeral hF j hj,Lib.add_plain,World.cell?_drewN]
    exact cell?_putRow (fun (b:UInt8)=>Value.int .u8 (b.toNat:Int)) _ w.heap.size 0 _ dk HH0.out (by rw [hF.size,Array.size_replicate]) j (by rw [hF.size];rw [Lib.decDigits_length] at hj;exact hj))
   rw [Lib.decDigits_length] at h
   exact h
  go_wp2
  go_ret
  obtain ⟨os,eo⟩:=fin0 w (.cells Lib.zeros24 140) dk k
  refine ⟨rfl,?_⟩
  rw [eo]
  exact below_grow _ w (Nat.le_refl _) k os
theorem yaj8 (x:BitVec 64):Ok 93 [.c (.u x),.c (.i 10)] (.c (.s ⟨(Lib.decDigits x.toNat).toArray⟩)):=by
 refine zd1 (A:=#[.int .u64 (x.toNat:Int),.int .i64 10]) (fun _=>rfl) (fun _=>rfl) rfl fun w hw=>?_
 go_enter Tryz.func93,Tryz.ntmps93
 go_wp2_with (go_at_call 140;refine (yauk (u:=x.toNat) (by have:=x.isLt;omega) hw).mono ?_;rintro e w' ⟨rfl,hb⟩)
 go_ret
 exact ⟨rfl,hb⟩
theorem zj0 (n:Int) (h0:-9223372036854775808≤n) (h1:n≤9223372036854775807):Ok 9 [.c (.i n)] (.c (.s ⟨(Lib.itoa n).toArray⟩)) :=
 zd1 (A:=#[.int .i64 n]) (fun _=>rfl) (fun _=>rfl) rfl fun w hw=>(Tryz.strconv_Itoa n h0 h1 w hw.tab).mono fun e w' ⟨he,k,os,hw'⟩=>⟨he,by rw [hw'];exact below_grow _ w (Nat.le_refl _) k os⟩
theorem zvl (s p:ByteArray):Ok 136 [.c (.s s),.c (.s p)] (.c (.b (Lib.hasPrefix s.data.toList p.data.toList))) :=
 zd1 (A:=#[.string s,.string p]) (fun _=>rfl) (fun _=>rfl) rfl fun w _=>(Tryz.strings_HasPrefix s p w).mono fun e w' ⟨he,hw'⟩=>⟨he,by rw [hw'];exact Below.refl _ _⟩
end Go.Proofs.YtkigmocchaikgabGreatDoor
namespace Go.Proofs.YtkigmocchaikgabGreatDoor
open Go.RowKit
section
variable {i:Ins} {t:ByteArray} {n1 op:Int} {x:BitVec 64} {w:World} {β:Bs} {n:Nat}
theorem yayr (c0:Ok 135 [.c (.s t)] (.c (.i n1))) :
  Ok 91 [.ag i.cs,.c (.i 0),.c (.s t)] (.ag [.i i.op,.i n1,.i i.s,.u i.im,.i i.of]) :=
 zaf [true] ([]) [] Tryz.func91 rfl rfl rfl rfl (by kernel_rfl) rfl (zab c0 zae)
theorem yax0 (c0:Ok 135 [.c (.s t)] (.c (.i n1))) :
  Ok 91 [.ag i.cs,.c (.i 1),.c (.s t)] (.ag [.i i.op,.i i.d,.i n1,.u i.im,.i i.of]) :=
 zaf [false,true,true] ([]) [] Tryz.func91 rfl rfl rfl rfl (by kernel_rfl) rfl (zab c0 zae)
theorem yasg (c0:Ok 136 [.c (.s t),.c (.s (ByteArray.mk #[OfNat.ofNat 114]))] (.c (.b true))) (c1:Ok 135 [.c (.s t)] (.c (.i n1))) :
  Ok 91 [.ag i.cs,.c (.i 2),.c (.s t)] (.ag [.i i.op,.i i.d,.i n1,.u i.im,.i i.of]) :=
 zaf [false,false,true,true] ([]) [] Tryz.func91 rfl rfl rfl rfl (by kernel_rfl) rfl (zab c0 (zab c1 zae))
theorem yat5 (c0:Ok 136 [.c (.s t),.c (.s (ByteArray.mk #[OfNat.ofNat 114]))] (.c (.b false))) (c1:Ok 137 [.c (.s t)] (.c (.u x))) :
  Ok 91 [.ag i.cs,.c (.i 2),.c (.s t)] (.ag [.i i.op,.i i.d,.i (-1),.u x,.i i.of]) :=
 zaf [false,false,true,false,true] ([]) [] Tryz.func91 rfl rfl rfl rfl (by kernel_rfl) rfl (zab c0 (zab c1 zae))
theorem yav0 (c0:Ok 137 [.c (.s t)] (.c (.u x))) :
  Ok 91 [.ag i.cs,.c (.i 3),.c (.s t)] (.ag [.i i.op,.i i.d,.i i.s,.u x,.i i.of]) :=
 zaf [false,false,false,false,false,true] ([]) [] Tryz.func91 rfl rfl rfl rfl (by kernel_rfl) rfl (zab c0 zae)
theorem yawq (c0:Ok 138 [.c (.s t)] (.c (.i n1))) :
  Ok 91 [.ag i.cs,.c (.i 4),.c (.s t)] (.ag [.i i.op,.i i.d,.i i.s,.u i.im,.i n1]) :=
 zaf [false,false,false,false,false,false,true] ([]) [] Tryz.func91 rfl rfl rfl rfl (by kernel_rfl) rfl (zab c0 zae)
theorem yay7 (h:(decide (1+ByteArray.size t≤9223372036854775807)&&true)=true) (c0:Ok 9 [.c (.i i.d)] (.c (.s t))) :
  Ok 49 [.c (.i 0),.ag i.cs] (.c (.s (ByteArray.mk #[OfNat.ofNat 114]++t))) :=
 zaf [true] ([]) [] Tryz.func49 rfl rfl rfl rfl (by kernel_rfl) h (zab c0 zae)
theorem yayz (h:(decide (1+ByteArray.size t≤9223372036854775807)&&true)=true) (c0:Ok 9 [.c (.i i.s)] (.c (.s t))) :
  Ok 49 [.c (.i 1),.ag i.cs] (.c (.s (ByteArray.mk #[OfNat.ofNat 114]++t))) :=
 zaf [false,true,true] ([]) [] Tryz.func49 rfl rfl rfl rfl (by kernel_rfl) h (zab c0 zae)
theorem yavp (h:(i.s != -1&&(decide (1+ByteArray.size t≤9223372036854775807)&&true))=true) (c0:Ok 9 [.c (.i i.s)] (.c (.s t))) :
  Ok 49 [.c (.i 2),.ag i.cs] (.c (.s (ByteArray.mk #[OfNat.ofNat 114]++t))) :=
 zaf [false,false,true,true] ([]) [] Tryz.func49 rfl rfl rfl rfl (by kernel_rfl) h (zab c0 zae)
theorem yaui (h:(!i.s != -1&&true)=true) (c0:Ok 93 [.c (.u i.im),.c (.i 10)] (.c (.s t))) :
  Ok 49 [.c (.i 2),.ag i.cs] (.c (.s t)) :=
 zaf [false,false,true,false,false] ([]) [] Tryz.func49 rfl rfl rfl rfl (by kernel_rfl) h (zab c0 zae)
theorem yawb (c0:Ok 93 [.c (.u i.im),.c (.i 10)] (.c (.s t))) :
  Ok 49 [.c (.i 3),.ag i.cs] (.c (.s t)) :=
 zaf [false,false,false,false,false] ([]) [] Tryz.func49 rfl rfl rfl rfl (by kernel_rfl) rfl (zab c0 zae)
theorem yav7 (c0:Ok 9 [.c (.i i.of)] (.c (.s t))) :
  Ok 49 [.c (.i 4),.ag i.cs] (.c (.s t)) :=
 zaf [false,false,false,false,true] ([]) [] Tryz.func49 rfl rfl rfl rfl (by kernel_rfl) rfl (zab c0 zae)
end
end Go.Proofs.YtkigmocchaikgabGreatDoor
namespace Go.Proofs.YtkigmocchaikgabGreatDoor
open Go.Shelf Go.RowKit Go.Sort Go.Lib
theorem za2 (w:World) (o:Obj):Below w.heap.size w (w.alloc o):=by
 rw [alloc_eq_grow]
 exact below_grow _ w (Nat.le_refl _) 0 #[o]
theorem zap {w w':World} {o:Obj} (h:Below (w.alloc o).heap.size (w.alloc o) w'):Below w.heap.size w w':=(za2 w o).trans (h.mono (za2 w o).size)
theorem zdg {w:World} (h:Gw w) (o:Obj):Gw (w.alloc o):=h.below (za2 w o) h.size'
def za7 (i:Ins) (p:Int):List UInt8 :=
 if p=0 then 114::Lib.itoa i.d
 else if p=1∨p=2∧i.s≠-1 then 114::Lib.itoa i.s
 else if p=4 then Lib.itoa i.of
 else Lib.decDigits i.im.toNat
def plc (p:Int):Prop:=p=0∨p=1∨p=2∨p=3∨p=4
theorem zwa {i i':Ins} {p:Int} {s:ByteArray} (hp:plc p) (hs:s.size≤4096) (h:setW i p s=some i'):Ok 91 [.ag i.cs,.c (.i p),.c (.s s)] (.ag i'.cs):=by
 rcases hp with rfl | rfl | rfl | rfl | rfl
 ·simp only [setW,if_pos,Option.map_eq_some_iff] at h
  obtain ⟨n,hn,rfl⟩:=h
  exact yayr (zil hs hn)
 ·simp only [setW,true_or,if_pos,Option.map_eq_some_iff,if_neg (show ¬ (1:Int)=0 by decide)] at h
  obtain ⟨n,hn,rfl⟩:=h
  exact yax0 (zil hs hn)
 ·have hP:=zvl s ⟨#[114]⟩
  cases hc:Lib.hasPrefix s.data.toList [114] with
  | true =>
   simp [setW,hc] at h
   obtain ⟨n,hn,rfl⟩:=h
   exact yasg (by rw [← hc];exact hP) (zil hs hn)
  | false =>
   simp [setW,hc] at h
   obtain ⟨n,hn,rfl⟩:=h
   exact yat5 (by rw [← hc];exact hP) (zh3 hs hn)
 ·simp [setW] at h
  obtain ⟨n,hn,rfl⟩:=h
  exact yav0 (zh3 hs hn)
 ·simp [setW] at h
  obtain ⟨n,hn,rfl⟩:=h
  exact yawq (zov hs hn)
theorem yaix {i:Ins} {p:Int} (hp:plc p) (hd:-9223372036854775808≤i.d∧i.d≤9223372036854775807) (hs:-9223372036854775808≤i.s∧i.s≤9223372036854775807) (ho:-9223372036854775808≤i.of∧i.of≤9223372036854775807):Ok 49 [.c (.i p),.ag i.cs] (.c (.s ⟨(za7 i p).toArray⟩)):=by
 have len:∀ n:Int,-9223372036854775808≤n∧n≤9223372036854775807→(decide (1+ByteArray.size ⟨(Lib.itoa n).toArray⟩≤9223372036854775807)&&true)=true:=fun n h=>by
  have:=Lib.itoa_length_le n h.1 h.2
  have e:ByteArray.size ⟨(Lib.itoa n).toArray⟩=(Lib.itoa n).length:=by simp [ByteArray.size]
  rw [e,Bool.and_true]
  exact decide_eq_true (by omega)
 have cat:∀ l:List UInt8,ByteArray.mk #[114]++ByteArray.mk l.toArray=⟨(114::l).toArray⟩:=fun l=>by
  apply ByteArray.ext
  simp
 rcases hp with rfl | rfl | rfl | rfl | rfl
 ·have:=yay7 (i:=i) (len i.d hd) (zj0 i.d hd.1 hd.2)
  rw [cat] at this
  exact this
 ·have:=yayz (i:=i) (len i.s hs) (zj0 i.s hs.1 hs.2)
  rw [cat] at this
  exact this
 ·by_cases h:i.s=-1
  ·have:=yaui (i:=i) (by simp [h]) (yaj8 i.im)
   simpa [za7,h] using this
  ·have:=yavp (i:=i) (by rw [len _ hs];simp [h]) (zj0 i.s hs.1 hs.2)
   rw [cat] at this
   simpa [za7,h] using this
 ·exact yawb (yaj8 i.im)
 ·exact yav7 (zj0 i.of ho.1 ho.2)
set_option maxHeartbeats 1600000 in
theorem zy0 {i:Ins} {p:Int} {s:ByteArray} (hp:plc p) (hs:s.size≤4096) (h:setW i p s=none) {w:World} (hg:Gw w):Calls Tryz.prog 91 #[i.v,.int .i64 p,.string s] w (Done w none):=by
 rcases hp with rfl | rfl | rfl | rfl | rfl
 ·simp only [setW,if_pos,Option.map_eq_none_iff] at h
  go_enter Tryz.func91,Tryz.ntmps91
  go_wp2_with (go_at_call 135;refine (zhe hs (by exact zdg (zdg hg _) _)).mono ?_;rw [h];rintro e w1 ⟨rfl,hb⟩)
  exact ⟨rfl,rfl,zap (zap hb)⟩
 ·simp only [setW,true_or,if_pos,Option.map_eq_none_iff,if_neg (show ¬ (1:Int)=0 by decide)] at h
  go_enter Tryz.func91,Tryz.ntmps91
  go_wp2_with (go_at_call 135;refine (zhe hs (by exact zdg (zdg hg _) _)).mono ?_;rw [h];rintro e w1 ⟨rfl,hb⟩)
  exact ⟨rfl,rfl,zap (zap hb)⟩
 ·cases hc:Lib.hasPrefix s.data.toList [114] with
  | true =>
   simp [setW,hc] at h
   go_enter Tryz.func91,Tryz.ntmps91
   go_wp2_with (first
    | (go_at_call 136;refine (Tryz.strings_HasPrefix _ _ _).mono ?_;rintro e w' ⟨rfl,rfl⟩;rw [hc])
    | (go_at_call 135;refine (zhe hs (by exact zdg (zdg hg _) _)).mono ?_;rw [h];rintro e w1 ⟨rfl,hb⟩))
   exact ⟨rfl,rfl,zap (zap hb)⟩
  | false =>
   simp [setW,hc] at h
   go_enter Tryz.func91,Tryz.ntmps91
   go_wp2_with (first
    | (go_at_call 136;refine (Tryz.strings_HasPrefix _ _ _).mono ?_;rintro e w' ⟨rfl,rfl⟩;rw [hc])
    | (go_at_call 137;refine (zf5 hs (by exact zdg (zdg hg _) _)).mono ?_;rw [yakp,h];rintro e w1 ⟨rfl,hb⟩))
   exact ⟨rfl,rfl,zap (zap hb)⟩
 ·simp [setW] at h
  go_enter Tryz.func91,Tryz.ntmps91
  go_wp2_with (go_at_call 137;refine (zf5 hs (by exact zdg (zdg hg _) _)).mono ?_;rw [yakp,h];rintro e w1 ⟨rfl,hb⟩)
  exact ⟨rfl,rfl,zap (zap hb)⟩
 ·simp [setW] at h
  go_enter Tryz.func91,Tryz.ntmps91
  go_wp2_with (go_at_call 138;refine (zf7 hs (by exact zdg (zdg hg _) _)).mono ?_;rw [h];rintro e w1 ⟨rfl,hb⟩)
  exact ⟨rfl,rfl,zap (zap hb)⟩
theorem zit {i:Ins} {p:Int} {s:ByteArray} (hp:plc p) (hs:s.size≤4096) {w:World} (hg:Gw w):Calls Tryz.prog 91 #[i.v,.int .i64 p,.string s] w (Done w ((setW i p s).map Ins.v)):=by
 cases h:setW i p s with
 | none=>exact zy0 hp hs h hg
 | some i'=>exact zis (fun _=>(0,0,0)) rfl (fun _=>rfl) (zwa hp hs h) w hg
end Go.Proofs.YtkigmocchaikgabGreatDoor
namespace Go.Proofs.YtkigmocchaikgabGreatDoor
open Go.Shelf Go.RowKit Go.Sort Go.Lib Go.Maps
def oNames:List (List UInt8):=[[109,111,118],[97,100,100],[115,117,98],[109,117,108],[97,110,100],[111,114],[120,111,114],[115,104,108],[115,104,114],[108,111,97,100],[115,116,111,114,101],[106,117,109,112],[105,102,101,113],[105,102,108,116],[101,120,105,116]]
abbrev yas4 (w:World) (b:Nat) (D:DataW Unit):Prop:=w.ownsMap Tryz.prog 9 (plainElem Tryz.prog 3) b 15 D
theorem law:Keyed Tryz.prog 9:=string_keyed Tryz.underlying9
theorem yash (w:World):(zeroValue 3).run Tryz.prog w=.ok (.int .i64 0) w:=by kernel_rfl
def yayd:Nat→List (List UInt8)→DataW Unit→DataW Unit
 | _,[],D=>D
 | n,k::ks,D=>yayd (n+1) ks (D.put (.string k) (.lit (.int .i64 n)))
def opsD:DataW Unit:=yayd 1 oNames (.map [])
theorem upd {w:World} {b n:Nat} {D:DataW Unit} (h:w.ownsMap Tryz.prog 9 (plainElem Tryz.prog 3) b n D) (hn:n≤15) (k:Array UInt8) (hk:k.size≤100) (v:Int) (hv:(Lit.int .i64 v).wf=true) :
  ∃ w',(Instr.mapUpdate 76 (.map (some b)) (.string ⟨k⟩) (.int .i64 v)).run Tryz.prog w=.ok () w'∧w'.ownsMap Tryz.prog 9 (plainElem Tryz.prog 3) b (n+1) (D.put (.string k.toList) (.lit (.int .i64 v)))∧w.grownBy w' (some b):=by
 have:=h.update law Tryz.underlying76 (by unfold maxLen;omega) (key:=.string ⟨k⟩) (val:=.int .i64 v) (Go.WideMaps.keyOf_string_mk Tryz.underlying9 (by unfold maxLen;show k.size≤_;omega)) (plainElem_int Tryz.underlying3 hv)
 exact this
set_option maxHeartbeats 1600000 in
theorem zkx (w:World):Calls Tryz.prog 41 #[] w fun e w'=>e=.returned (.map (some w.heap.size))∧yas4 w' w.heap.size opsD∧Below w.heap.size w w':=by
 have m0:=World.ownsMap_made (H:=Unit) w Tryz.prog 9 (plainElem Tryz.prog 3)
 have hmm:=@run_makeMap Tryz.prog
 obtain ⟨w1,r1,m1,g1⟩:=upd m0 (by decide) #[109,111,118] (by decide) 1 (by decide)
 obtain ⟨w2,r2,m2,g2⟩:=upd m1 (by decide) #[97,100,100] (by decide) 2 (by decide)
 obtain ⟨w3,r3,m3,g3⟩:=upd m2 (by decide) #[115,117,98] (by decide) 3 (by decide)
 obtain ⟨w4,r4,m4,g4⟩:=upd m3 (by decide) #[109,117,108] (by decide) 4 (by decide)
 obtain ⟨w5,r5,m5,g5⟩:=upd m4 (by decide) #[97,110,100] (by decide) 5 (by decide)
 obtain ⟨w6,r6,m6,g6⟩:=upd m5 (by decide) #[111,114] (by decide) 6 (by decide)
 obtain ⟨w7,r7,m7,g7⟩:=upd m6 (by decide) #[120,111,114] (by decide) 7 (by decide)
 obtain ⟨w8,r8,m8,g8⟩:=upd m7 (by decide) #[115,104,108] (by decide) 8 (by decide)
 obtain ⟨w9,r9,m9,g9⟩:=upd m8 (by decide) #[115,104,114] (by decide) 9 (by decide)
 obtain ⟨w10,r10,m10,g10⟩:=upd m9 (by decide) #[108,111,97,100] (by decide) 10 (by decide)
 obtain ⟨w11,r11,m11,g11⟩:=upd m10 (by decide) #[115,116,111,114,101] (by decide) 11 (by decide)
 obtain ⟨w12,r12,m12,g12⟩:=upd m11 (by decide) #[106,117,109,112] (by decide) 12 (by decide)
 obtain ⟨w13,r13,m13,g13⟩:=upd m12 (by decide) #[105,102,101,113] (by decide) 13 (by decide)
 obtain ⟨w14,r14,m14,g14⟩:=upd m13 (by decide) #[105,102,108,116] (by decide) 14 (by decide)
 obtain ⟨w15,r15,m15,g15⟩:=upd m14 (by decide) #[101,120,105,116] (by decide) 15 (by decide)
 go_enter Tryz.func41,Tryz.ntmps41
 go_wp2
 go_ret
 have g:(w.alloc (.map #[] 0)).grownBy w15 (some w.heap.size):=g1.trans (g2.trans (g3.trans (g4.trans (g5.trans (g6.trans (g7.trans (g8.trans (g9.trans (g10.trans (g11.trans (g12.trans (g13.trans (g14.trans (g15))))))))))))))
 exact ⟨rfl,m15,((Below.refl _ _).alloc (Nat.le_refl _) _).grown g (by simp) (fun j hj=>by cases hj;exact Nat.le_refl _)⟩
def nmL (j:Nat):List UInt8:=oNames.getD j []
def nmV (left:Lit→Bool):Nat→Value
 | 0=>.string ⟨#[]⟩
 | j+1=>.string (if left (.string (nmL j)) then ⟨#[]⟩ else ⟨(nmL j).toArray⟩)
def zgk (left:Lit→Bool):Array Value:=Array.ofFn (n:=16) fun j=>nmV left j.val
def oOrd:List Nat:=[1,4,14,12,13,11,9,0,3,5,7,8,10,2,6]
def oEnt (k:Nat):Lit×DataW Unit:=(.string (nmL k),.lit (.int .i64 ((k:Int)+1)))
theorem yak0:opsD=.map (oOrd.map oEnt):=by kernel_rfl
def zj8 (s:List UInt8):Option Nat:=oOrd.find? fun k=>nmL k==s
theorem yab3 (s:List UInt8):(oOrd.map oEnt).find? (fun p=>p.1.sameKey (.string s))=(zj8 s).map oEnt:=by
 rw [List.find?_map];rfl
theorem yabt (s:List UInt8) (zd:DataW Unit):opsD.atKey (.string s) zd=match zj8 s with | some k=>.lit (.int .i64 ((k:Int)+1)) | none=>zd:=by
 rw [yak0]
 unfold DataW.atKey
 simp only
 rw [yab3]
 cases zj8 s <;> rfl
theorem zsx (s:List UInt8):Maps.has opsD (.string s)=(zj8 s).isSome:=by
 rw [yak0]
 show (oOrd.map oEnt).any (fun p=>p.1.sameKey (.string s))=_
 have:(oOrd.map oEnt).any (fun p=>p.1.sameKey (.string s))=((oOrd.map oEnt).find? (fun p=>p.1.sameKey (.string s))).isSome:=by
  rw [Bool.eq_iff_iff,List.find?_isSome,List.any_eq_true]
 rw [this,yab3]
 cases zj8 s <;> rfl
theorem zhv {s:List UInt8} {k:Nat} (h:zj8 s=some k):k<15∧s=nmL k:=by
 have h1:=List.mem_of_find?_eq_some h
 have h2:=List.find?_some h
 refine ⟨?_,(eq_of_beq h2).symm⟩
 have:∀ k∈oOrd,k<15:=by decide
 exact this k h1
theorem zlp:∀ k,k<15→zj8 (nmL k)=some k:=by decide
theorem yauq (s:List UInt8) (c:Int) (h:∀ zd:DataW Unit,opsD.atKey (.string s) zd=.lit (.int .i64 c)):∃ k,k<15∧s=nmL k∧c=(k:Int)+1:=by
 have h0:=h (.lit (.int .i64 (c+1)))
 rw [yabt] at h0
 cases hf:zj8 s with
 | none=>rw [hf] at h0;simp at h0;omega
 | some k =>
  rw [hf] at h0
  obtain ⟨a,b⟩:=zhv hf
  exact ⟨k,a,b,by simp at h0;exact h0.symm⟩
theorem zr4 (left:Lit→Bool):(zgk left).size=16:=by simp [zgk]
theorem yama:zgk (Maps.has opsD)=Array.replicate 16 (.string ⟨#[]⟩):=by
 have:∀ j,j<15→Maps.has opsD (.string (nmL j))=true:=fun j hj=>by rw [zsx,zlp j hj];rfl
 apply Array.ext
 ·simp [zgk]
 ·intro j h1 h2
  have hj:j<16:=by simpa [zgk] using h1
  simp only [zgk,Array.getElem_ofFn,Array.getElem_replicate]
  cases j with
  | zero=>rfl
  | succ j=>simp [nmV,this j (by omega)]
theorem yaug (left:Lit→Bool) (k:Nat) (hk:k<15):(zgk left).setIfInBounds (k+1) (.string ⟨(nmL k).toArray⟩)=zgk (fun z=>left z&&!z.sameKey (.string (nmL k))):=by
 apply Array.ext
 ·simp [zgk]
 ·intro j h1 h2
  have hj:j<16:=by simpa [zgk] using h2
  rw [Array.getElem_setIfInBounds (by rw [zr4];exact hj)]
  simp only [zgk,Array.getElem_ofFn]
  cases j with
  | zero=>simp [nmV]
  | succ j =>
   by_cases e:j=k
   ·subst e
    simp [nmV,Lit.sameKey]
   ·have hne:(nmL j==nmL k)=false:=by
     have:∀ j,j<15→∀ k,k<15→j≠k→(nmL j==nmL k)=false:=by decide
     exact this j (by omega) k hk e
    rw [if_neg (by omega)]
    simp only [nmV,Lit.sameKey,hne,Bool.not_false,Bool.and_true]
theorem yazy (left:Lit→Bool) (j:Nat) (h:j<16):(zgk left)[j]?=some (nmV left j):=by
 rw [Array.getElem?_eq_getElem (by rw [zr4];exact h)]
 simp [zgk]
theorem zjn (w:World) (a:Addr) (u:Value):w.grownBy (w.setCell a u) (some a.block) :=
 ⟨rfl,rfl,rfl,by simp [World.setCell],fun k _ hk=>Below.heap_setCell _ _ _ _ (fun e=>hk (by rw [e]))⟩
theorem yaca:(Tryz.prog.info? 84).map (·.size)=some 16:=by kernel_rfl
theorem ze5 {B g:Nat} {w w':World} (h:Below B w w') (hg:B≤g) (A:Array Value):Below B w (w'.setRow g A) :=
 h.trans ⟨rfl,rfl,rfl,by simp [World.setRow],fun k hk=>setRow_other _ _ _ _ (by omega)⟩
theorem zbs (w:World) (o:Obj):(w.alloc o).heap[w.heap.size]?=some o:=by
 show (w.heap.push o)[w.heap.size]?=_
 simp
theorem yaol (w:World) (a b:Obj):((w.alloc a).alloc b).heap.size=w.heap.size+1+1:=by simp
theorem yazt:∀ key kl,keyOf Tryz.prog 9 key=some kl→∃ x,key=Value.string x:=fun key kl h=>by
 obtain ⟨s,rfl,_⟩:=Go.WideMaps.string_of_keyOf Tryz.underlying9 h
 exact ⟨s,rfl⟩
theorem yaz7:∀ v (y:DataW Unit×List MemPlace),plainElem Tryz.prog 3 v=some y→∃ c,v=Value.int .i64 c:=fun v y h=>by
 obtain ⟨c,rfl,_⟩:=plainElem_int_inv Tryz.underlying3 h
 exact ⟨c,rfl⟩
set_option maxHeartbeats 400000 in
set_option maxRecDepth 100000 in
theorem zvs (w:World):Calls Tryz.prog 45 #[] w fun e w'=>e=.returned (.agg (zgk fun _=>false))∧Below w.heap.size w w':=by
 go_enter Tryz.func45,Tryz.ntmps45
 go_wp2_with (first
  | (go_at_call 41;refine (zkx _).mono ?_;rintro e w1 ⟨rfl,hm,hb⟩;rw [yaol] at hm)
  | (at_range;refine wpList_range_own _ rfl _ 76 rfl 9 3 law Tryz.underlying76 _ (w.heap.size+1+1) 15 opsD rfl hm ?_;intro w0 hrg0 hg0 hs0)
  | go_in)
 go_frame
 have hr:w.heap.size+1+1<w1.heap.size:=hm.lt
 generalize hrr:w1.heap.size=r at *
 go_loopw [2] (fun _ wr=>∃ (left:Lit→Bool) (cnt:Nat),wr.ranges Tryz.prog 9 (plainElem Tryz.prog 3) (w.heap.size+1+1) r 15 opsD left cnt∧wr.heap[w.heap.size]?=some (.cells (Array.replicate 16 (.string ⟨#[]⟩)) 84 (0,0))∧wr.heap[w.heap.size+1]?=some (.cells (zgk left) 84 (0,0))∧Below w.heap.size w wr)
  (fun _ wr=>wr.rangeLeft (w.heap.size+1+1) r)
 case atStart =>
  refine ⟨_,_,hrg0,?_,?_,?_⟩
  ·rw [hg0.block _ (by omega) (by simp),hb.block _ (by simp;omega),Below.heap_alloc _ _ _ (by simp),zbs]
   rfl
  ·rw [hg0.block _ (by omega) (by simp),hb.block _ (by simp),yama]
   have e:∀ o o':Obj,((w.alloc o).alloc o').heap[w.heap.size+1]?=some o':=fun o o'=>by have:=zbs (w.alloc o) o';simpa using this
   rw [e]
   rfl
  ·exact (zap (zap hb)).trans ⟨hg0.os,hg0.tape,hg0.output,hg0.size,fun k hk=>hg0.block k (by omega) (by simp)⟩
 case round =>
  obtain ⟨left,cnt,hrg,hB,hN,hbel⟩:=hrel
  go_wp2_with (first
   | (at_next;refine wpList_next_ranges _ rfl _ rfl 9 law (plainElem Tryz.prog 3) Value.string (Value.int .i64) yazt yaz7 (w.heap.size+1+1) r 15 _ _ _ rfl hrg ?_ ?_)
   | go_in)
  ·intro _ hl0
   obtain ⟨A,hA,hA1,hA2⟩:∃ A,A=zgk (fun _=>false)∧A.size=16∧A.all (·.oneCell')=true:=⟨_,rfl,zr4 _,by kernel_rfl⟩
   have hN':wr.heap[w.heap.size+1]?=some (.cells A 84 (0,0)):=by rw [hA,hN,show left=fun _=>false from funext hl0]
   have hB2:=setRow_heap wr w.heap.size _ A _ _ hB
   go_wp2_with (first
    | (refine wpList_load_row rfl 84 _ rfl (w.heap.size+1) rfl _ A _ _ hN' Tryz.underlying84 rfl (by rw [hA1];exact yaca) ?_)
    | (refine wpList_store_row rfl 84 _ _ rfl w.heap.size A rfl rfl _ _ hB (by rw [hA1];exact yaca) (by simp [hA1]) hA2 ?_)
    | go_in)
   refine bodyPost_ret (results_cell_row (d:=.array 16 9) rfl _ _ w.heap.size _ A _ rfl hB2 Tryz.underlying84 rfl (by rw [hA1];exact yaca)) rfl ?_
   exact ⟨by rw [hA],ze5 hbel (Nat.le_refl _) A⟩
  ·intro x c kl y yp w2 cnt2 hkx hlx hvx hat hrg2 hlt hg2 hs2 hen
   obtain ⟨x',ex,rfl,-⟩:=Go.WideMaps.string_of_keyOf Tryz.underlying9 hkx
   cases ex
   obtain ⟨c',ec,hy,-⟩:=plainElem_int_inv Tryz.underlying3 hvx
   cases ec
   cases hy
   obtain ⟨k,hk,hx,rfl⟩:=yauq _ _ hat
   obtain ⟨x⟩:=x
   obtain rfl:x=(nmL k).toArray:=by rw [← hx]
   have hlt2:w.heap.size+1+1<wr.heap.size:=hrg.owns.lt
   have hN2:w2.heap[w.heap.size+1]?=some (.cells (zgk left) 84 (0,0)):=by rw [← hN];exact hg2.block _ (by omega) (fun e=>by cases e;omega)
   have hB2:w2.heap[w.heap.size]?=some (.cells (Array.replicate 16 (.string ⟨#[]⟩)) 84 (0,0)):=by rw [← hB];exact hg2.block _ (by omega) (fun e=>by cases e;omega)
   have hc2:w2.cell? ⟨w.heap.size+1,k+1,none⟩=some (nmV left (k+1)):=by rw [cell_of_row _ _ _ _ _ _ hN2];exact yazy left (k+1) (by omega)
   have hf2:w2.frozen? ⟨w.heap.size+1,k+1,none⟩=false:=frozen_of_row _ _ _ _ _ hN2
   have hN3:=heap_setCell_same w2 _ (k+1) _ _ (.string ⟨(nmL k).toArray⟩) hN2
   rw [yaug left k hk] at hN3
   have hbel2:Below w.heap.size w w2:=hbel.grown hg2 hbel.size (fun j hj=>by cases hj;omega)
   have HN:=Lib.hid hN3
   have HB:=Lib.hid hB2
   have HR:=Lib.hid hbel2
   clear hN hB hN2 hB2 hN3 hbel2
   go_wp2
   go_roundw
   case rel=>exact ⟨_,cnt2,hrg2.kept (zjn _ _ _) (by simp) (by simp;omega),by rw [heap_setCell_other _ _ _ _ (by simp)];exact HB.out,HN.out,HR.out.setCell (by simp) _⟩
   case measure =>
    rw [(hrg2.kept (zjn _ _ _) (by simp) (by simp;omega)).left_eq,hrg.left_eq];exact hlt
end Go.Proofs.YtkigmocchaikgabGreatDoor
namespace Go.Proofs.YtkigmocchaikgabGreatDoor
open Go.Shelf Go.RowKit Go.Sort Go.Lib
abbrev TB:TypeId:=83
abbrev T8:TypeId:=5
abbrev Bld (B b:Nat) (l:List UInt8) (w:World):Prop:=IsBuilderF TB T8 B b (byteCells l) w
abbrev Aside (b:Nat) (w w':World):Prop:=OthersKept T8 (some b) w w'
theorem yaws:(Tryz.prog.info? TB).map (·.size)=some 2:=by kernel_rfl
theorem yban:liesAt Tryz.prog Tryz.prog.depth TB (2 / Tryz.prog.cellsOf TB) 0 TB 1=true:=by kernel_rfl
theorem yav1:(Tryz.prog.info? T8).map (fun i=>(i.zero,i.size,i.bytes))=some (some (.int .u8 0),1,1):=by kernel_rfl
set_option maxHeartbeats 1000000 in
set_option maxRecDepth 100000 in
theorem zwx (b:Nat) (w:World) (h0:w.cell? ⟨b,0,none⟩=some (.pointer (some ⟨b,0,none⟩))) :
  Calls Tryz.prog 92 #[.pointer (some ⟨b,0,none⟩)] w fun e w'=>e=.returned (.tuple #[])∧w'=w:=by
 obtain ⟨j,hj,_⟩:=Option.map_eq_some_iff.1 yaws
 go_enter Tryz.func92,Tryz.ntmps92
 go_wp2
 rw [run_neq_ptr_same w _ Tryz.underlying81 hj]
 go_wp2
 go_end0
 exact ⟨rfl,rfl⟩
set_option maxHeartbeats 1000000 in
set_option maxRecDepth 100000 in
theorem zu1 (b:Nat) (w:World) (h0:w.cell? ⟨b,0,none⟩=some (.pointer none)) (hsh:w.shape? b=some (TB,2)) (hfz:w.frozen? ⟨b,0,none⟩=false) :
  Calls Tryz.prog 92 #[.pointer (some ⟨b,0,none⟩)] w fun e w'=>e=.returned (.tuple #[])∧w'=w.setCell ⟨b,0,none⟩ (.pointer (some ⟨b,0,none⟩)):=by
 obtain ⟨j,hj,hjs⟩:=Option.map_eq_some_iff.1 yaws
 go_enter Tryz.func92,Tryz.ntmps92
 go_wp2
 rw [run_to_unsafe w ⟨b,0,none⟩ Tryz.underlying81 Tryz.underlying165 hj (by rw [hjs];decide) hsh (Nat.zero_lt_succ 1)]
 simp only [Result.andThen]
 rw [Oper.upon_value]
 go_wp2
 rw [run_callFunc_extern Tryz.func139 (by kernel_rfl) (by kernel_rfl) (by kernel_rfl) (e:=Extern.AbiNoEscape.same) (by kernel_rfl)]
 rw [run_noEscape]
 simp only [Result.andThen]
 rw [Oper.upon_value]
 go_wp2
 rw [run_from_unsafe w ⟨b,0,none⟩ Tryz.underlying165 Tryz.underlying81 hj hsh yban]
 simp only [Result.andThen]
 rw [Oper.upon_value]
 go_wp2
 go_end0
 exact ⟨rfl,rfl⟩
theorem zu3 {B b:Nat} {l:List UInt8} {w:World} (h:Bld B b l w) :
  Calls Tryz.prog 92 #[.pointer (some ⟨b,0,none⟩)] w fun e w'=>e=.returned (.tuple #[])∧BuilderAtF TB T8 B b (.pointer (some ⟨b,0,none⟩)) (byteCells l) w'∧Below B w w'∧Aside b w w':=by
 rcases h with h | h
 ·refine (zu1 b w h.cell0 h.shape h.frozen0).mono ?_
  rintro e w' ⟨rfl,rfl⟩
  exact ⟨rfl,h.used _,(Below.refl B w).setCell (p:=⟨b,0,none⟩) h.1 _,(OthersKept.refl T8 (some b) w).setCell ⟨b,0,none⟩ rfl _⟩
 ·refine (zwx b w h.cell0).mono ?_
  rintro e w' ⟨rfl,rfl⟩
  exact ⟨rfl,h,Below.refl B _,OthersKept.refl _ _ _⟩
theorem yab0 {w:World} {B n:Nat} {v:Value} {xs:List Value} (h:w.ownsRowF B T8 1 v n xs):∃ a n c,v=.slice a n c:=by
 rcases h.2 with ⟨hv,_⟩ | ⟨g,cap,cur,fz,hv,_⟩
 ·exact ⟨_,_,_,hv⟩
 ·exact ⟨_,_,_,hv⟩
theorem zv3 {w:World} {B n:Nat} {v:Value} {xs:List Value} (h:w.ownsRowF B T8 1 v n xs):∀ g,v.ownBlock=some g→∃ c fz,w.heap[g]?=some (.cells c T8 fz):=by
 intro g hg
 rcases h.2 with ⟨rfl,_⟩ | ⟨g',cap,cur,fz,rfl,_,hh,_⟩
 ·simp [Value.ownBlock] at hg
 ·simp only [Value.ownBlock,Option.some.injEq] at hg
  subst hg
  exact ⟨_,_,hh⟩
set_option maxHeartbeats 2000000 in
set_option maxRecDepth 100000 in
theorem zh4 {B b:Nat} {l:List UInt8} {w:World} (h:Bld B b l w) (s:ByteArray) (hlen:l.length+s.size≤140737488355328) (hBw:B≤w.heap.size) :
  Calls Tryz.prog 46 #[.pointer (some ⟨b,0,none⟩),.string s] w fun e w'=>e=.returned (.tuple #[.int .i64 s.size,.nilIface])∧Bld B b (l++s.data.toList) w'∧Below B w w'∧Aside b w w':=by
 obtain ⟨i0,hi,hz0,hz1,hz2⟩:=info_parts yav1
 go_enter Tryz.func46,Tryz.ntmps46
 go_wp2_with (go_at_call 92;refine (zu3 h).mono ?_)
 rintro e w1 ⟨rfl,⟨hB,v,hbk,hown,hne⟩,hb1,ho1⟩
 have c0:w1.cell? ⟨b,0,none⟩=some (.pointer (some ⟨b,0,none⟩)):=by rw [cell_of_heap hbk];rfl
 have c1:w1.cell? ⟨b,1,none⟩=some v:=by rw [cell_of_heap hbk];rfl
 have hbl:(byteCells l).length=l.length:=by simp [byteCells]
 go_wp2_with (at_builtin;refine wpList_append_own_stringF _ rfl _ _ 67 9 rfl B T8 i0 Tryz.underlying67 Tryz.underlying9 hi hz0 hz1 hz2 _ _ _ rfl hown s rfl ?c3 ?c4 ?c5 ?_)
 case c3=>unfold maxLen;omega
 case c4=>omega
 case c5=>have:=hb1.size;omega
 intro v' w2 hown' hgrow _
 have hlt:b<w1.heap.size:=(Array.getElem?_eq_some_iff.1 hbk).1
 have hb2:w2.heap[b]?=some (.cells #[.pointer (some ⟨b,0,none⟩),v] TB (0,0)):=by
  rw [hgrow.block b hlt (fun e=>hne e.symm)]
  exact hbk
 have d0:w2.cell? ⟨b,0,none⟩=some (.pointer (some ⟨b,0,none⟩)):=by rw [cell_of_heap hb2];rfl
 have d1:w2.cell? ⟨b,1,none⟩=some v:=by rw [cell_of_heap hb2];rfl
 have f1:w2.frozen? ⟨b,1,none⟩=false:=frozen_of_heap hb2 1
 obtain ⟨ao,n',cap,rfl⟩:=yab0 hown'
 go_wp2
 go_ret2
 refine ⟨rfl,?_,?_,?_⟩
 ·right
  rw [byteCells_append]
  exact BuilderAtF.put hB hb2 (bs':=byteCells l++zqn s) (by rw [List.length_append,strCells_length,hbl];exact hown') (by decide)
 ·exact (hb1.grown hgrow (by have:=hb1.size;omega) (fun k hk=>(hown.lt k hk).1)).setCell (p:=⟨b,1,none⟩) hB _
 ·exact (ho1.grown hgrow (zv3 hown)).setCell ⟨b,1,none⟩ rfl _
set_option maxHeartbeats 2000000 in
set_option maxRecDepth 100000 in
theorem zkt {B b:Nat} {l:List UInt8} {w:World} (h:Bld B b l w) (c:UInt8) (hlen:l.length+1≤140737488355328) (hBw:B≤w.heap.size) :
  Calls Tryz.prog 48 #[.pointer (some ⟨b,0,none⟩),.int .u8 c.toNat] w fun e w'=>e=.returned .nilIface∧Bld B b (l++[c]) w'∧Below B w w'∧Aside b w w':=by
 obtain ⟨i0,hi,hz0,hz1,hz2⟩:=info_parts yav1
 go_enter Tryz.func48,Tryz.ntmps48
 go_wp2_with (go_at_call 92;refine (zu3 h).mono ?_)
 rintro e w1 ⟨rfl,⟨hB,v,hbk,hown,hne⟩,hb1,ho1⟩
 have c0:w1.cell? ⟨b,0,none⟩=some (.pointer (some ⟨b,0,none⟩)):=by rw [cell_of_heap hbk];rfl
 have c1:w1.cell? ⟨b,1,none⟩=some v:=by rw [cell_of_heap hbk];rfl
 have hbl:(byteCells l).length=l.length:=by simp [byteCells]
 have hlt:b<w1.heap.size:=(Array.getElem?_eq_some_iff.1 hbk).1
 go_wp2_with (at_builtin;refine wpList_append_ownF _ rfl _ _ 67 rfl B T8 i0 (.int .u8 0) 1 1 Tryz.underlying67 hi hz0 hz1 hz2 rfl (by decide) _ _ _ rfl (hown.alloc _) ⟨w1.heap.size,0,none⟩ 1 1 [.int .u8 c.toNat] rfl rfl ?c1 ?c2 ?c3 ?c4 ?c5 ?_)
 case c1=>exact cell_one_new _ _ _
 case c2=>exact ints_oneCell .u8 [(c.toNat:Int)]
 case c3=>unfold maxLen;omega
 case c4=>omega
 case c5=>have:=hb1.size;simp;omega
 intro v' w2 hown' hgrow _
 have hb2:w2.heap[b]?=some (.cells #[.pointer (some ⟨b,0,none⟩),v] TB (0,0)):=by
  rw [hgrow.block b (by simp;omega) (fun e=>hne e.symm),Below.heap_alloc _ _ _ hlt]
  exact hbk
 have d0:w2.cell? ⟨b,0,none⟩=some (.pointer (some ⟨b,0,none⟩)):=by rw [cell_of_heap hb2];rfl
 have d1:w2.cell? ⟨b,1,none⟩=some v:=by rw [cell_of_heap hb2];rfl
 have f1:w2.frozen? ⟨b,1,none⟩=false:=frozen_of_heap hb2 1
 obtain ⟨ao,n',cap,rfl⟩:=yab0 hown'
 go_wp2
 go_ret
 refine ⟨rfl,?_,?_,?_⟩
 ·right
  rw [byteCells_append]
  exact BuilderAtF.put hB hb2 (bs':=byteCells l++[.int .u8 c.toNat]) (by rw [List.length_append,hbl];exact hown') (by decide)
 ·exact ((hb1.alloc (by have:=hb1.size;omega) _).grown hgrow (by have:=hb1.size;simp;omega) (fun k hk=>(hown.lt k hk).1)).setCell (p:=⟨b,1,none⟩) hB _
 ·exact ((ho1.alloc _).grown hgrow (zv3 (hown.alloc _))).setCell ⟨b,1,none⟩ rfl _
def plcs (op:Int):List Int:=if op=10 then [3,0,1,4] else if op=11 then [3,0,4,1] else if op=12 then [4] else if op=13∨op=14 then [0,2,4] else if op=15 then [] else [0,2]
abbrev T47:TypeId:=92
def PlAt (op:Int) (a:Option Addr) (g:Nat) (w:World):Prop:=plcs op≠[]→a=some ⟨g,0,none⟩∧w.heap[g]?=some (.cells ((plcs op).map (Value.int .i64)).toArray T47 (0,0))
theorem zf8 (op:Int) (w:World):Calls Tryz.prog 47 #[.int .i64 op] w fun e w'=>∃ a,e=.returned (.slice a (plcs op).length (plcs op).length)∧PlAt op a w.heap.size w'∧Below w.heap.size w w':=by
 by_cases h10:op=10
 ·subst h10
  go_enter Tryz.func47,Tryz.ntmps47
  go_wp2
  go_ret
  exact ⟨_,rfl,fun _=>⟨rfl,zbs _ _⟩,za2 _ _⟩
 by_cases h11:op=11
 ·subst h11
  go_enter Tryz.func47,Tryz.ntmps47
  go_wp2
  go_ret
  exact ⟨_,rfl,fun _=>⟨rfl,zbs _ _⟩,za2 _ _⟩
 by_cases h12:op=12
 ·subst h12
  go_enter Tryz.func47,Tryz.ntmps47
  go_wp2
  go_ret
  exact ⟨_,rfl,fun _=>⟨rfl,zbs _ _⟩,za2 _ _⟩
 by_cases h13:op=13
 ·subst h13
  go_enter Tryz.func47,Tryz.ntmps47
  go_wp2
  go_ret
  exact ⟨_,rfl,fun _=>⟨rfl,zbs _ _⟩,za2 _ _⟩
 by_cases h14:op=14
 ·subst h14
  go_enter Tryz.func47,Tryz.ntmps47
  go_wp2
  go_ret
  exact ⟨_,rfl,fun _=>⟨rfl,zbs _ _⟩,za2 _ _⟩
 by_cases h15:op=15
 ·subst h15
  go_enter Tryz.func47,Tryz.ntmps47
  go_wp2
  go_ret
  exact ⟨_,rfl,fun h=>absurd rfl h,Below.refl _ _⟩
 have e:plcs op=[0,2]:=by simp [plcs,h10,h11,h12,h13,h14,h15]
 unfold PlAt
 rw [e]
 go_enter Tryz.func47,Tryz.ntmps47
 go_wp2
 go_ret
 exact ⟨_,rfl,fun _=>⟨rfl,zbs _ _⟩,za2 _ _⟩
end Go.Proofs.YtkigmocchaikgabGreatDoor
namespace Go.Proofs.YtkigmocchaikgabGreatDoor
open Go.RowKit
section
abbrev ckAK (L:List Ins) (c j:Nat):Kn:=⟨[(0,.c (.sl 0 0 L.length c)),(17,.c (.sl 0 0 L.length c)),(18,.c (.i (L.length:Int))),(19,.c (.i (j:Int)))],[(0,Ent.mk false (pcell L) 0)],1⟩
abbrev ckBK (L:List Ins) (c j:Nat):Kn:=⟨[(0,.c (.sl 0 0 L.length c)),(32,.c (.sl 0 0 L.length c)),(33,.c (.i (L.length:Int))),(34,.c (.i (j:Int)))],[(0,Ent.mk false (pcell L) 0)],1⟩
abbrev ckCK (L:List Ins) (c j:Nat):Kn:=⟨[(0,.c (.sl 0 0 L.length c)),(48,.c (.sl 0 0 L.length c)),(49,.c (.i (L.length:Int))),(50,.c (.i (j:Int)))],[(0,Ent.mk false (pcell L) 0)],1⟩
variable {L:List Ins} {c n j:Nat} {w:World} {β:Bs} {C:Cx} {R:Ending→World→Prop} {E:Eff}
theorem yaml (h:((L.length:Int)==0&&true)=true) :
  BO 19 Tryz.f19 (cx w β n []) [.c (.sl 0 0 L.length c)] [(0,Ent.mk false (pcell L) 0)] 1 (REff w β ⟨.c (.i 2),[],none⟩) :=
 zah [] none [true,true] [true] [] Tryz.func19 (zav rfl n) (by kernel_rfl) h zae
theorem yam0 (h:(!(L.length:Int)==0&&(decide (64<(L.length:Int))&&true))=true) :
  BO 19 Tryz.f19 (cx w β n []) [.c (.sl 0 0 L.length c)] [(0,Ent.mk false (pcell L) 0)] 1 (REff w β ⟨.c (.i 2),[],none⟩) :=
 zah [] none [false,true] [true] [] Tryz.func19 (zav rfl n) (by kernel_rfl) h zae
theorem yanq (h:(!(L.length:Int)==0&&(!decide (64<(L.length:Int))&&true))=true) (lo:Kn.Low ⟨[(0,.c (.sl 0 0 L.length c)),(17,.c (.sl 0 0 L.length c)),(18,.c (.i (L.length:Int))),(19,.c (.i 0))],[(0,Ent.mk false (pcell L) 0)],1⟩) (hF:∀ k,C.F k→k<1) (z:AR 19 Tryz.f19 C 0 ⟨[(0,.c (.sl 0 0 L.length c)),(17,.c (.sl 0 0 L.length c)),(18,.c (.i (L.length:Int))),(19,.c (.i 0))],[(0,Ent.mk false (pcell L) 0)],1⟩ R) :
  BO 19 Tryz.f19 C [.c (.sl 0 0 L.length c)] [(0,Ent.mk false (pcell L) 0)] 1 R :=
 zai [false,false] [true] [] Tryz.func19 (by kernel_rfl) h zae lo hF z
theorem yakz (hn:n≤1)
  (l0:((L.length:Int)==0)=true→((⟨.c (.i 2),[],none⟩:Eff)=E))
  (l1:((L.length:Int)==0)=false→(decide (64<(L.length:Int)))=true→((⟨.c (.i 2),[],none⟩:Eff)=E))
  (l2:((L.length:Int)==0)=false→(decide (64<(L.length:Int)))=false→Kn.Low ⟨[(0,.c (.sl 0 0 L.length c)),(17,.c (.sl 0 0 L.length c)),(18,.c (.i (L.length:Int))),(19,.c (.i 0))],[(0,Ent.mk false (pcell L) 0)],1⟩∧AR 19 Tryz.f19 (cx w β n []) 0 ⟨[(0,.c (.sl 0 0 L.length c)),(17,.c (.sl 0 0 L.length c)),(18,.c (.i (L.length:Int))),(19,.c (.i 0))],[(0,Ent.mk false (pcell L) 0)],1⟩ (REff w β E)) :
  BO 19 Tryz.f19 (cx w β n []) [.c (.sl 0 0 L.length c)] [(0,Ent.mk false (pcell L) 0)] 1 (REff w β E) :=
 (tf ((L.length:Int)==0)).elim (fun h0=>(match l0 h0 with | e=>za6 (yaml (zaa h0 rfl)) e)) (fun h0=>(tf (decide (64<(L.length:Int)))).elim (fun h1=>(match l1 h0 h1 with | e=>za6 (yam0 (zaa (zad h0) (zaa h1 rfl))) e)) (fun h1=>(match l2 h0 h1 with | ⟨lo,z⟩=>yanq (zaa (zad h0) (zaa (zad h1) rfl)) lo (fun _ hk=>Nat.lt_of_lt_of_le hk hn) z)))
theorem yay1 (h:(decide ((j:Int)<(L.length:Int))&&(decide ((j:Int)<(L.length:Int))&&(Nat.ble (0+(j:Int).toNat*5+5) (pcell L).length&&(decide ((elt L j).op<1)&&true))))=true) (c0:pe (.ag (((pcell L).drop (0+(j:Int).toNat*5)).take 5))=pe (.ag (elt L j).cs)) :
  AR 19 Tryz.f19 (cx w β n []) 0 (ckAK L c j) (REff w β ⟨.c (.i 4),[],none⟩) :=
 zah [] none [true,true,true] [true] [(5,1)] Tryz.func19 (zav rfl n) (by kernel_rfl) h (zac c0 zae)
theorem yaxn (h:(decide ((j:Int)<(L.length:Int))&&(decide ((j:Int)<(L.length:Int))&&(Nat.ble (0+(j:Int).toNat*5+5) (pcell L).length&&(!decide ((elt L j).op<1)&&(decide (15<(elt L j).op)&&true)))))=true) (c0:pe (.ag (((pcell L).drop (0+(j:Int).toNat*5)).take 5))=pe (.ag (elt L j).cs)) :
  AR 19 Tryz.f19 (cx w β n []) 0 (ckAK L c j) (REff w β ⟨.c (.i 4),[],none⟩) :=
 zah [] none [true,false,true] [true] [(5,1)] Tryz.func19 (zav rfl n) (by kernel_rfl) h (zac c0 zae)
theorem yayw (h:(decide ((j:Int)<(L.length:Int))&&(decide ((j:Int)<(L.length:Int))&&(Nat.ble (0+(j:Int).toNat*5+5) (pcell L).length&&(!decide ((elt L j).op<1)&&(!decide (15<(elt L j).op)&&true)))))=true) (c0:pe (.ag (((pcell L).drop (0+(j:Int).toNat*5)).take 5))=pe (.ag (elt L j).cs)) (lo:Kn.Low ⟨[(0,.c (.sl 0 0 L.length c)),(17,.c (.sl 0 0 L.length c)),(18,.c (.i (L.length:Int))),(19,.c (.i (IntKind.i64.wrap ((j:Int)+1))))],[(0,Ent.mk false (pcell L) 0)],1⟩) (hF:∀ k,C.F k→k<1) (z:AR 19 Tryz.f19 C 0 ⟨[(0,.c (.sl 0 0 L.length c)),(17,.c (.sl 0 0 L.length c)),(18,.c (.i (L.length:Int))),(19,.c (.i (IntKind.i64.wrap ((j:Int)+1))))],[(0,Ent.mk false (pcell L) 0)],1⟩ R) :
  AR 19 Tryz.f19 C 0 (ckAK L c j) R :=
 zai [true,false,false] [true] [(5,1)] Tryz.func19 (by kernel_rfl) h (zac c0 zae) lo hF z
theorem yaus (hn:n≤1)
  (l0:(decide ((elt L j).op<1))=true→(decide ((j:Int)<(L.length:Int)))=true∧(decide ((j:Int)<(L.length:Int)))=true∧(Nat.ble (0+(j:Int).toNat*5+5) (pcell L).length)=true∧(pe (.ag (((pcell L).drop (0+(j:Int).toNat*5)).take 5))=pe (.ag (elt L j).cs))∧((⟨.c (.i 4),[],none⟩:Eff)=E))
  (l1:(decide ((elt L j).op<1))=false→(decide (15<(elt L j).op))=true→(decide ((j:Int)<(L.length:Int)))=true∧(decide ((j:Int)<(L.length:Int)))=true∧(Nat.ble (0+(j:Int).toNat*5+5) (pcell L).length)=true∧(pe (.ag (((pcell L).drop (0+(j:Int).toNat*5)).take 5))=pe (.ag (elt L j).cs))∧((⟨.c (.i 4),[],none⟩:Eff)=E))
  (l2:(decide ((elt L j).op<1))=false→(decide (15<(elt L j).op))=false→(decide ((j:Int)<(L.length:Int)))=true∧(decide ((j:Int)<(L.length:Int)))=true∧(Nat.ble (0+(j:Int).toNat*5+5) (pcell L).length)=true∧(pe (.ag (((pcell L).drop (0+(j:Int).toNat*5)).take 5))=pe (.ag (elt L j).cs))∧Kn.Low ⟨[(0,.c (.sl 0 0 L.length c)),(17,.c (.sl 0 0 L.length c)),(18,.c (.i (L.length:Int))),(19,.c (.i (IntKind.i64.wrap ((j:Int)+1))))],[(0,Ent.mk false (pcell L) 0)],1⟩∧AR 19 Tryz.f19 (cx w β n []) 0 ⟨[(0,.c (.sl 0 0 L.length c)),(17,.c (.sl 0 0 L.length c)),(18,.c (.i (L.length:Int))),(19,.c (.i (IntKind.i64.wrap ((j:Int)+1))))],[(0,Ent.mk false (pcell L) 0)],1⟩ (REff w β E)) :
  AR 19 Tryz.f19 (cx w β n []) 0 (ckAK L c j) (REff w β E) :=
 (tf (decide ((elt L j).op<1))).elim (fun h0=>(match l0 h0 with | ⟨o0,o1,o2,c0,e⟩=>za6 (yay1 (zaa o0 (zaa o1 (zaa o2 (zaa h0 rfl)))) c0) e)) (fun h0=>(tf (decide (15<(elt L j).op))).elim (fun h1=>(match l1 h0 h1 with | ⟨o0,o1,o2,c0,e⟩=>za6 (yaxn (zaa o0 (zaa o1 (zaa o2 (zaa (zad h0) (zaa h1 rfl))))) c0) e)) (fun h1=>(match l2 h0 h1 with | ⟨o0,o1,o2,c0,lo,z⟩=>yayw (zaa o0 (zaa o1 (zaa o2 (zaa (zad h0) (zaa (zad h1) rfl))))) c0 lo (fun _ hk=>Nat.lt_of_lt_of_le hk hn) z)))
theorem yarm (h:(!decide ((j:Int)<(L.length:Int))&&true)=true) (lo:Kn.Low ⟨[(0,.c (.sl 0 0 L.length c)),(32,.c (.sl 0 0 L.length c)),(33,.c (.i (L.length:Int))),(34,.c (.i 0))],[(0,Ent.mk false (pcell L) 0)],1⟩) (hF:∀ k,C.F k→k<1) (z:AR 19 Tryz.f19 C 1 ⟨[(0,.c (.sl 0 0 L.length c)),(32,.c (.sl 0 0 L.length c)),(33,.c (.i (L.length:Int))),(34,.c (.i 0))],[(0,Ent.mk false (pcell L) 0)],1⟩ R) :
  AR 19 Tryz.f19 C 0 (ckAK L c j) R :=
 zai [false] [true] [] Tryz.func19 (by kernel_rfl) h zae lo hF z
theorem yavv (h:(decide ((j:Int)<(L.length:Int))&&(decide ((j:Int)<(L.length:Int))&&(Nat.ble (0+(j:Int).toNat*5+5) (pcell L).length&&(!inB (elt L j) (↑(L.length - 1 - j):Int)&&true))))=true) (c0:pe (.ag (((pcell L).drop (0+(j:Int).toNat*5)).take 5))=pe (.ag (elt L j).cs)) (c1:pe (.c (.i (IntKind.i64.wrap (IntKind.i64.wrap ((L.length:Int) - 1) - (j:Int)))))=pe (.c (.i (↑(L.length - 1 - j):Int)))) (c2:Ok 51 [.ag (elt L j).cs,.c (.i (↑(L.length - 1 - j):Int))] (.c (.b (inB (elt L j) (↑(L.length - 1 - j):Int))))) :
  AR 19 Tryz.f19 (cx w β n []) 1 (ckBK L c j) (REff w β ⟨.c (.i 3),[],none⟩) :=
 zah [] none [true,true] [true] [(11,2),(12,5)] Tryz.func19 (zav rfl n) (by kernel_rfl) h (zac c0 (zac c1 (zab c2 zae)))
theorem yawf (h:(decide ((j:Int)<(L.length:Int))&&(decide ((j:Int)<(L.length:Int))&&(Nat.ble (0+(j:Int).toNat*5+5) (pcell L).length&&(!!inB (elt L j) (↑(L.length - 1 - j):Int)&&true))))=true) (c0:pe (.ag (((pcell L).drop (0+(j:Int).toNat*5)).take 5))=pe (.ag (elt L j).cs)) (c1:pe (.c (.i (IntKind.i64.wrap (IntKind.i64.wrap ((L.length:Int) - 1) - (j:Int)))))=pe (.c (.i (↑(L.length - 1 - j):Int)))) (c2:Ok 51 [.ag (elt L j).cs,.c (.i (↑(L.length - 1 - j):Int))] (.c (.b (inB (elt L j) (↑(L.length - 1 - j):Int))))) (lo:Kn.Low ⟨[(0,.c (.sl 0 0 L.length c)),(32,.c (.sl 0 0 L.length c)),(33,.c (.i (L.length:Int))),(34,.c (.i (IntKind.i64.wrap ((j:Int)+1))))],[(0,Ent.mk false (pcell L) 0)],1⟩) (hF:∀ k,C.F k→k<1) (z:AR 19 Tryz.f19 C 1 ⟨[(0,.c (.sl 0 0 L.length c)),(32,.c (.sl 0 0 L.length c)),(33,.c (.i (L.length:Int))),(34,.c (.i (IntKind.i64.wrap ((j:Int)+1))))],[(0,Ent.mk false (pcell L) 0)],1⟩ R) :
  AR 19 Tryz.f19 C 1 (ckBK L c j) R :=
 zai [true,false] [true] [(11,2),(12,5)] Tryz.func19 (by kernel_rfl) h (zac c0 (zac c1 (zab c2 zae))) lo hF z
theorem yavt (hn:n≤1)
  (l0:(!inB (elt L j) (↑(L.length - 1 - j):Int))=true→(decide ((j:Int)<(L.length:Int)))=true∧(decide ((j:Int)<(L.length:Int)))=true∧(Nat.ble (0+(j:Int).toNat*5+5) (pcell L).length)=true∧(pe (.ag (((pcell L).drop (0+(j:Int).toNat*5)).take 5))=pe (.ag (elt L j).cs))∧(pe (.c (.i (IntKind.i64.wrap (IntKind.i64.wrap ((L.length:Int) - 1) - (j:Int)))))=pe (.c (.i (↑(L.length - 1 - j):Int))))∧(Ok 51 [.ag (elt L j).cs,.c (.i (↑(L.length - 1 - j):Int))] (.c (.b (inB (elt L j) (↑(L.length - 1 - j):Int)))))∧((⟨.c (.i 3),[],none⟩:Eff)=E))
  (l1:(!inB (elt L j) (↑(L.length - 1 - j):Int))=false→(decide ((j:Int)<(L.length:Int)))=true∧(decide ((j:Int)<(L.length:Int)))=true∧(Nat.ble (0+(j:Int).toNat*5+5) (pcell L).length)=true∧(pe (.ag (((pcell L).drop (0+(j:Int).toNat*5)).take 5))=pe (.ag (elt L j).cs))∧(pe (.c (.i (IntKind.i64.wrap (IntKind.i64.wrap ((L.length:Int) - 1) - (j:Int)))))=pe (.c (.i (↑(L.length - 1 - j):Int))))∧(Ok 51 [.ag (elt L j).cs,.c (.i (↑(L.length - 1 - j):Int))] (.c (.b (inB (elt L j) (↑(L.length - 1 - j):Int)))))∧Kn.Low ⟨[(0,.c (.sl 0 0 L.length c)),(32,.c (.sl 0 0 L.length c)),(33,.c (.i (L.length:Int))),(34,.c (.i (IntKind.i64.wrap ((j:Int)+1))))],[(0,Ent.mk false (pcell L) 0)],1⟩∧AR 19 Tryz.f19 (cx w β n []) 1 ⟨[(0,.c (.sl 0 0 L.length c)),(32,.c (.sl 0 0 L.length c)),(33,.c (.i (L.length:Int))),(34,.c (.i (IntKind.i64.wrap ((j:Int)+1))))],[(0,Ent.mk false (pcell L) 0)],1⟩ (REff w β E)) :
  AR 19 Tryz.f19 (cx w β n []) 1 (ckBK L c j) (REff w β E) :=
 (tf (!inB (elt L j) (↑(L.length - 1 - j):Int))).elim (fun h0=>(match l0 h0 with | ⟨o0,o1,o2,c0,c1,c2,e⟩=>za6 (yavv (zaa o0 (zaa o1 (zaa o2 (zaa h0 rfl)))) c0 c1 c2) e)) (fun h0=>(match l1 h0 with | ⟨o0,o1,o2,c0,c1,c2,lo,z⟩=>yawf (zaa o0 (zaa o1 (zaa o2 (zaa (zad h0) rfl)))) c0 c1 c2 lo (fun _ hk=>Nat.lt_of_lt_of_le hk hn) z))
theorem yatc (h:(!decide ((j:Int)<(L.length:Int))&&true)=true) (lo:Kn.Low ⟨[(0,.c (.sl 0 0 L.length c)),(48,.c (.sl 0 0 L.length c)),(49,.c (.i (L.length:Int))),(50,.c (.i 0))],[(0,Ent.mk false (pcell L) 0)],1⟩) (hF:∀ k,C.F k→k<1) (z:AR 19 Tryz.f19 C 2 ⟨[(0,.c (.sl 0 0 L.length c)),(48,.c (.sl 0 0 L.length c)),(49,.c (.i (L.length:Int))),(50,.c (.i 0))],[(0,Ent.mk false (pcell L) 0)],1⟩ R) :
  AR 19 Tryz.f19 C 1 (ckBK L c j) R :=
 zai [false] [true] [] Tryz.func19 (by kernel_rfl) h zae lo hF z
theorem yav8 (h:(decide ((j:Int)<(L.length:Int))&&(decide ((j:Int)<(L.length:Int))&&(Nat.ble (0+(j:Int).toNat*5+5) (pcell L).length&&(!bareB (elt L j)&&true))))=true) (c0:pe (.ag (((pcell L).drop (0+(j:Int).toNat*5)).take 5))=pe (.ag (elt L j).cs)) (c1:Ok 52 [.ag (elt L j).cs] (.c (.b (zbm (elt L j))))) :
  AR 19 Tryz.f19 (cx w β n []) 2 (ckCK L c j) (REff w β ⟨.c (.i 1),[],none⟩) :=
 zah [] none [true,true] [true] [(17,1)] Tryz.func19 (zav rfl n) (by kernel_rfl) h (zac c0 (zab c1 zae))
theorem yawa (h:(decide ((j:Int)<(L.length:Int))&&(decide ((j:Int)<(L.length:Int))&&(Nat.ble (0+(j:Int).toNat*5+5) (pcell L).length&&(!!bareB (elt L j)&&true))))=true) (c0:pe (.ag (((pcell L).drop (0+(j:Int).toNat*5)).take 5))=pe (.ag (elt L j).cs)) (c1:Ok 52 [.ag (elt L j).cs] (.c (.b (zbm (elt L j))))) (lo:Kn.Low ⟨[(0,.c (.sl 0 0 L.length c)),(48,.c (.sl 0 0 L.length c)),(49,.c (.i (L.length:Int))),(50,.c (.i (IntKind.i64.wrap ((j:Int)+1))))],[(0,Ent.mk false (pcell L) 0)],1⟩) (hF:∀ k,C.F k→k<1) (z:AR 19 Tryz.f19 C 2 ⟨[(0,.c (.sl 0 0 L.length c)),(48,.c (.sl 0 0 L.length c)),(49,.c (.i (L.length:Int))),(50,.c (.i (IntKind.i64.wrap ((j:Int)+1))))],[(0,Ent.mk false (pcell L) 0)],1⟩ R) :
  AR 19 Tryz.f19 C 2 (ckCK L c j) R :=
 zai [true,false] [true] [(17,1)] Tryz.func19 (by kernel_rfl) h (zac c0 (zab c1 zae)) lo hF z
theorem yar4 (hn:n≤1)
  (l0:(!bareB (elt L j))=true→(decide ((j:Int)<(L.length:Int)))=true∧(decide ((j:Int)<(L.length:Int)))=true∧(Nat.ble (0+(j:Int).toNat*5+5) (pcell L).length)=true∧(pe (.ag (((pcell L).drop (0+(j:Int).toNat*5)).take 5))=pe (.ag (elt L j).cs))∧(Ok 52 [.ag (elt L j).cs] (.c (.b (zbm (elt L j)))))∧((⟨.c (.i 1),[],none⟩:Eff)=E))
  (l1:(!bareB (elt L j))=false→(decide ((j:Int)<(L.length:Int)))=true∧(decide ((j:Int)<(L.length:Int)))=true∧(Nat.ble (0+(j:Int).toNat*5+5) (pcell L).length)=true∧(pe (.ag (((pcell L).drop (0+(j:Int).toNat*5)).take 5))=pe (.ag (elt L j).cs))∧(Ok 52 [.ag (elt L j).cs] (.c (.b (zbm (elt L j)))))∧Kn.Low ⟨[(0,.c (.sl 0 0 L.length c)),(48,.c (.sl 0 0 L.length c)),(49,.c (.i (L.length:Int))),(50,.c (.i (IntKind.i64.wrap ((j:Int)+1))))],[(0,Ent.mk false (pcell L) 0)],1⟩∧AR 19 Tryz.f19 (cx w β n []) 2 ⟨[(0,.c (.sl 0 0 L.length c)),(48,.c (.sl 0 0 L.length c)),(49,.c (.i (L.length:Int))),(50,.c (.i (IntKind.i64.wrap ((j:Int)+1))))],[(0,Ent.mk false (pcell L) 0)],1⟩ (REff w β E)) :
  AR 19 Tryz.f19 (cx w β n []) 2 (ckCK L c j) (REff w β E) :=
 (tf (!bareB (elt L j))).elim (fun h0=>(match l0 h0 with | ⟨o0,o1,o2,c0,c1,e⟩=>za6 (yav8 (zaa o0 (zaa o1 (zaa o2 (zaa h0 rfl)))) c0 c1) e)) (fun h0=>(match l1 h0 with | ⟨o0,o1,o2,c0,c1,lo,z⟩=>yawa (zaa o0 (zaa o1 (zaa o2 (zaa (zad h0) rfl)))) c0 c1 lo (fun _ hk=>Nat.lt_of_lt_of_le hk hn) z))
theorem yas2 (h:(!decide ((j:Int)<(L.length:Int))&&(decide (0≤IntKind.i64.wrap ((L.length:Int) - 1))&&decide (IntKind.i64.wrap ((L.length:Int) - 1)<(L.length:Int))&&(AC.isI ((pcell L)[0+(IntKind.i64.wrap ((L.length:Int) - 1)).toNat*5+0]?.getD (.b false))&&Nat.blt (0+(IntKind.i64.wrap ((L.length:Int) - 1)).toNat*5+0) (pcell L).length&&(zb9 L != 15&&true))))=true) (c0:pe (.c (.i (AC.asI ((pcell L)[0+(IntKind.i64.wrap ((L.length:Int) - 1)).toNat*5+0]?.getD (.b false)))))=pe (.c (.i (zb9 L)))) :
  AR 19 Tryz.f19 (cx w β n []) 2 (ckCK L c j) (REff w β ⟨.c (.i 1),[],none⟩) :=
 zah [] none [false,true] [true] [(21,6)] Tryz.func19 (zav rfl n) (by kernel_rfl) h (zac c0 zae)
theorem yarr (h:(!decide ((j:Int)<(L.length:Int))&&(decide (0≤IntKind.i64.wrap ((L.length:Int) - 1))&&decide (IntKind.i64.wrap ((L.length:Int) - 1)<(L.length:Int))&&(AC.isI ((pcell L)[0+(IntKind.i64.wrap ((L.length:Int) - 1)).toNat*5+0]?.getD (.b false))&&Nat.blt (0+(IntKind.i64.wrap ((L.length:Int) - 1)).toNat*5+0) (pcell L).length&&(!lastOp L != 15&&true))))=true) (c0:pe (.c (.i (AC.asI ((pcell L)[0+(IntKind.i64.wrap ((L.length:Int) - 1)).toNat*5+0]?.getD (.b false)))))=pe (.c (.i (zb9 L)))) :
  AR 19 Tryz.f19 (cx w β n []) 2 (ckCK L c j) (REff w β ⟨.c (.i 0),[],none⟩) :=
 zah [] none [false,false] [true] [(21,6)] Tryz.func19 (zav rfl n) (by kernel_rfl) h (zac c0 zae)
theorem yaox
  (l0:(zb9 L != 15)=true→(!decide ((j:Int)<(L.length:Int)))=true∧(decide (0≤IntKind.i64.wrap ((L.length:Int) - 1))&&decide (IntKind.i64.wrap ((L.length:Int) - 1)<(L.length:Int)))=true∧(AC.isI ((pcell L)[0+(IntKind.i64.wrap ((L.length:Int) - 1)).toNat*5+0]?.getD (.b false))&&Nat.blt (0+(IntKind.i64.wrap ((L.length:Int) - 1)).toNat*5+0) (pcell L).length)=true∧(pe (.c (.i (AC.asI ((pcell L)[0+(IntKind.i64.wrap ((L.length:Int) - 1)).toNat*5+0]?.getD (.b false)))))=pe (.c (.i (zb9 L))))∧((⟨.c (.i 1),[],none⟩:Eff)=E))
  (l1:(zb9 L != 15)=false→(!decide ((j:Int)<(L.length:Int)))=true∧(decide (0≤IntKind.i64.wrap ((L.length:Int) - 1))&&decide (IntKind.i64.wrap ((L.length:Int) - 1)<(L.length:Int)))=true∧(AC.isI ((pcell L)[0+(IntKind.i64.wrap ((L.length:Int) - 1)).toNat*5+0]?.getD (.b false))&&Nat.blt (0+(IntKind.i64.wrap ((L.length:Int) - 1)).toNat*5+0) (pcell L).length)=true∧(pe (.c (.i (AC.asI ((pcell L)[0+(IntKind.i64.wrap ((L.length:Int) - 1)).toNat*5+0]?.getD (.b false)))))=pe (.c (.i (zb9 L))))∧((⟨.c (.i 0),[],none⟩:Eff)=E)) :
  AR 19 Tryz.f19 (cx w β n []) 2 (ckCK L c j) (REff w β E) :=
 (tf (zb9 L != 15)).elim (fun h0=>(match l0 h0 with | ⟨o0,o1,o2,c0,e⟩=>za6 (yas2 (zaa o0 (zaa o1 (zaa o2 (zaa h0 rfl)))) c0) e)) (fun h0=>(match l1 h0 with | ⟨o0,o1,o2,c0,e⟩=>za6 (yarr (zaa o0 (zaa o1 (zaa o2 (zaa (zad h0) rfl)))) c0) e))
end
section
variable {V:AV} {n:Int} {i:Ins}
theorem yan0 {d:Int} (h:(decide (0≤d)&&true)=true) :
  Ok 94 [.c (.i d)] (.c (.b (decide (d<6)))) :=
 zaf [true] [] [] Tryz.func94 rfl rfl rfl rfl (by kernel_rfl) h zae
theorem yao6 {d:Int} (h:(!decide (0≤d)&&true)=true) :
  Ok 94 [.c (.i d)] (.c (.b false)) :=
 zaf [false] [] [] Tryz.func94 rfl rfl rfl rfl (by kernel_rfl) h zae
theorem yaji {d:Int}
  (l0:(decide (0≤d))=true→(AV.c (.b (decide (d<6)))=V))
  (l1:(decide (0≤d))=false→(AV.c (.b false)=V)) :
  Ok 94 [.c (.i d)] V :=
 (tf (decide (0≤d))).elim (fun h0=>(match l0 h0 with | e=>zam (yan0 (zaa h0 rfl)) e)) (fun h0=>(match l1 h0 with | e=>zam (yao6 (zaa (zad h0) rfl)) e))
theorem zya {d:Int} (h:(d==-1&&true)=true) :
  Ok 97 [.c (.i d)] (.c (.b true)) :=
 zaf [true] [] [] Tryz.func97 rfl rfl rfl rfl (by kernel_rfl) h zae
theorem zwq {d:Int} (h:(!d==-1&&true)=true) (c0:Ok 94 [.c (.i d)] (.c (.b (regB d)))) :
  Ok 97 [.c (.i d)] (.c (.b (regB d))) :=
 zaf [false] [] [] Tryz.func97 rfl rfl rfl rfl (by kernel_rfl) h (zab c0 zae)
theorem zwi {d:Int}
  (l0:(d==-1)=true→(AV.c (.b true)=V))
  (l1:(d==-1)=false→(Ok 94 [.c (.i d)] (.c (.b (regB d))))∧(AV.c (.b (regB d))=V)) :
  Ok 97 [.c (.i d)] V :=
 (tf (d==-1)).elim (fun h0=>(match l0 h0 with | e=>zam (zya (zaa h0 rfl)) e)) (fun h0=>(match l1 h0 with | ⟨c0,e⟩=>zam (zwq (zaa (zad h0) rfl) c0) e))
theorem yaj0 {d:BitVec 64} (h:(eqb d 1#64&&true)=true) :
  Ok 95 [.c (.u d)] (.c (.b true)) :=
 zaf [true,true,true] [] [] Tryz.func95 rfl rfl rfl rfl (by kernel_rfl) h zae
theorem yakt {d:BitVec 64} (h:(!eqb d 1#64&&(eqb d 2#64&&true))=true) :
  Ok 95 [.c (.u d)] (.c (.b true)) :=
 zaf [false,true,true] [] [] Tryz.func95 rfl rfl rfl rfl (by kernel_rfl) h zae
theorem yah8 {d:BitVec 64} (h:(!eqb d 1#64&&(!eqb d 2#64&&(eqb d 4#64&&true)))=true) :
  Ok 95 [.c (.u d)] (.c (.b true)) :=
 zaf [false,false,true] [] [] Tryz.func95 rfl rfl rfl rfl (by kernel_rfl) h zae
theorem yaju {d:BitVec 64} (h:(!eqb d 1#64&&(!eqb d 2#64&&(!eqb d 4#64&&true)))=true) :
  Ok 95 [.c (.u d)] (.c (.b (eqb d 8#64))) :=
 zaf [false,false,false] [] [] Tryz.func95 rfl rfl rfl rfl (by kernel_rfl) h zae
theorem yaee {d:BitVec 64}
  (l0:(eqb d 1#64)=true→(AV.c (.b true)=V))
  (l1:(eqb d 1#64)=false→(eqb d 2#64)=true→(AV.c (.b true)=V))
  (l2:(eqb d 1#64)=false→(eqb d 2#64)=false→(eqb d 4#64)=true→(AV.c (.b true)=V))
  (l3:(eqb d 1#64)=false→(eqb d 2#64)=false→(eqb d 4#64)=false→(AV.c (.b (eqb d 8#64))=V)) :
  Ok 95 [.c (.u d)] V :=
 (tf (eqb d 1#64)).elim (fun h0=>(match l0 h0 with | e=>zam (yaj0 (zaa h0 rfl)) e)) (fun h0=>(tf (eqb d 2#64)).elim (fun h1=>(match l1 h0 h1 with | e=>zam (yakt (zaa (zad h0) (zaa h1 rfl))) e)) (fun h1=>(tf (eqb d 4#64)).elim (fun h2=>(match l2 h0 h1 h2 with | e=>zam (yah8 (zaa (zad h0) (zaa (zad h1) (zaa h2 rfl)))) e)) (fun h2=>(match l3 h0 h1 h2 with | e=>zam (yaju (zaa (zad h0) (zaa (zad h1) (zaa (zad h2) rfl)))) e))))
theorem yag1 {d:Int} (h:(decide (0≤d)&&true)=true) :
  Ok 96 [.c (.i d),.c (.i n)] (.c (.b (decide (d<n)))) :=
 zaf [true] [] [] Tryz.func96 rfl rfl rfl rfl (by kernel_rfl) h zae
theorem yai0 {d:Int} (h:(!decide (0≤d)&&true)=true) :
  Ok 96 [.c (.i d),.c (.i n)] (.c (.b false)) :=
 zaf [false] [] [] Tryz.func96 rfl rfl rfl rfl (by kernel_rfl) h zae
theorem yaf9 {d:Int}
  (l0:(decide (0≤d))=true→(AV.c (.b (decide (d<n)))=V))
  (l1:(decide (0≤d))=false→(AV.c (.b false)=V)) :
  Ok 96 [.c (.i d),.c (.i n)] V :=
 (tf (decide (0≤d))).elim (fun h0=>(match l0 h0 with | e=>zam (yag1 (zaa h0 rfl)) e)) (fun h0=>(match l1 h0 with | e=>zam (yai0 (zaa (zad h0) rfl)) e))
theorem zw1 (h:(i.op==10&&(i.op==10&&(regB i.d&&(regB i.s&&(zdc i.im&&(decide (-64≤i.of)&&true))))))=true) (c0:Ok 94 [.c (.i i.d)] (.c (.b (regB i.d)))) (c1:Ok 94 [.c (.i i.s)] (.c (.b (regB i.s)))) (c2:Ok 95 [.c (.u i.im)] (.c (.b (zdc i.im)))) :
  Ok 51 [.ag i.cs,.c (.i n)] (.c (.b (decide (i.of≤64)))) :=
 zaf [true,true,true,true,true,true] [] [] Tryz.func51 rfl rfl rfl rfl (by kernel_rfl) h (zab c0 (zab c1 (zab c2 zae)))
theorem zxu (h:(i.op==10&&(i.op==10&&(regB i.d&&(regB i.s&&(zdc i.im&&(!decide (-64≤i.of)&&true))))))=true) (c0:Ok 94 [.c (.i i.d)] (.c (.b (regB i.d)))) (c1:Ok 94 [.c (.i i.s)] (.c (.b (regB i.s)))) (c2:Ok 95 [.c (.u i.im)] (.c (.b (zdc i.im)))) :
  Ok 51 [.ag i.cs,.c (.i n)] (.c (.b false)) :=
 zaf [true,true,true,true,true,false] [] [] Tryz.func51 rfl rfl rfl rfl (by kernel_rfl) h (zab c0 (zab c1 (zab c2 zae)))
theorem zw4 (h:(i.op==10&&(i.op==10&&(regB i.d&&(regB i.s&&(!sizeB i.im&&true)))))=true) (c0:Ok 94 [.c (.i i.d)] (.c (.b (regB i.d)))) (c1:Ok 94 [.c (.i i.s)] (.c (.b (regB i.s)))) (c2:Ok 95 [.c (.u i.im)] (.c (.b (zdc i.im)))) :
  Ok 51 [.ag i.cs,.c (.i n)] (.c (.b false)) :=
 zaf [true,true,true,true,false,false] [] [] Tryz.func51 rfl rfl rfl rfl (by kernel_rfl) h (zab c0 (zab c1 (zab c2 zae)))
theorem zzb (h:(i.op==10&&(i.op==10&&(regB i.d&&(!regB i.s&&true))))=true) (c0:Ok 94 [.c (.i i.d)] (.c (.b (regB i.d)))) (c1:Ok 94 [.c (.i i.s)] (.c (.b (regB i.s)))) :
  Ok 51 [.ag i.cs,.c (.i n)] (.c (.b false)) :=
 zaf [true,true,true,false,false,false] [] [] Tryz.func51 rfl rfl rfl rfl (by kernel_rfl) h (zab c0 (zab c1 zae))
theorem zym (h:(i.op==10&&(i.op==10&&(!regB i.d&&true)))=true) (c0:Ok 94 [.c (.i i.d)] (.c (.b (regB i.d)))) :
  Ok 51 [.ag i.cs,.c (.i n)] (.c (.b false)) :=
 zaf [true,true,false,false,false,false] [] [] Tryz.func51 rfl rfl rfl rfl (by kernel_rfl) h (zab c0 zae)
theorem zxi (h:(!i.op==10&&(i.op==11&&(regB i.d&&(regB i.s&&(zdc i.im&&(decide (-64≤i.of)&&true))))))=true) (c0:Ok 94 [.c (.i i.d)] (.c (.b (regB i.d)))) (c1:Ok 94 [.c (.i i.s)] (.c (.b (regB i.s)))) (c2:Ok 95 [.c (.u i.im)] (.c (.b (zdc i.im)))) :
  Ok 51 [.ag i.cs,.c (.i n)] (.c (.b (decide (i.of≤64)))) :=
 zaf [false,true,true,true,true,true] [] [] Tryz.func51 rfl rfl rfl rfl (by kernel_rfl) h (zab c0 (zab c1 (zab c2 zae)))
theorem zxm (h:(!i.op==10&&(i.op==11&&(regB i.d&&(regB i.s&&(zdc i.im&&(!decide (-64≤i.of)&&true))))))=true) (c0:Ok 94 [.c (.i i.d)] (.c (.b (regB i.d)))) (c1:Ok 94 [.c (.i i.s)] (.c (.b (regB i.s)))) (c2:Ok 95 [.c (.u i.im)] (.c (.b (zdc i.im)))) :
  Ok 51 [.ag i.cs,.c (.i n)] (.c (.b false)) :=
 zaf [false,true,true,true,true,false] [] [] Tryz.func51 rfl rfl rfl rfl (by kernel_rfl) h (zab c0 (zab c1 (zab c2 zae)))
theorem zze (h:(!i.op==10&&(i.op==11&&(regB i.d&&(regB i.s&&(!sizeB i.im&&true)))))=true) (c0:Ok 94 [.c (.i i.d)] (.c (.b (regB i.d)))) (c1:Ok 94 [.c (.i i.s)] (.c (.b (regB i.s)))) (c2:Ok 95 [.c (.u i.im)] (.c (.b (zdc i.im)))) :
  Ok 51 [.ag i.cs,.c (.i n)] (.c (.b false)) :=
 zaf [false,true,true,true,false,false] [] [] Tryz.func51 rfl rfl rfl rfl (by kernel_rfl) h (zab c0 (zab c1 (zab c2 zae)))
theorem zyj (h:(!i.op==10&&(i.op==11&&(regB i.d&&(!regB i.s&&true))))=true) (c0:Ok 94 [.c (.i i.d)] (.c (.b (regB i.d)))) (c1:Ok 94 [.c (.i i.s)] (.c (.b (regB i.s)))) :
  Ok 51 [.ag i.cs,.c (.i n)] (.c (.b false)) :=
 zaf [false,true,true,false,false,false] [] [] Tryz.func51 rfl rfl rfl rfl (by kernel_rfl) h (zab c0 (zab c1 zae))
theorem zzp (h:(!i.op==10&&(i.op==11&&(!regB i.d&&true)))=true) (c0:Ok 94 [.c (.i i.d)] (.c (.b (regB i.d)))) :
  Ok 51 [.ag i.cs,.c (.i n)] (.c (.b false)) :=
 zaf [false,true,false,false,false,false] [] [] Tryz.func51 rfl rfl rfl rfl (by kernel_rfl) h (zab c0 zae)
theorem ztg (h:(!i.op==10&&(!i.op==11&&(i.op==12&&true)))=true) (c0:Ok 96 [.c (.i i.of),.c (.i n)] (.c (.b (zci i.of n)))) :
  Ok 51 [.ag i.cs,.c (.i n)] (.c (.b (zci i.of n))) :=
 zaf [false,false,true] [] [] Tryz.func51 rfl rfl rfl rfl (by kernel_rfl) h (zab c0 zae)
theorem zur (h:(!i.op==10&&(!i.op==11&&(!i.op==12&&(i.op==13&&(i.op==13&&(regB i.d&&(srcB i.s&&true)))))))=true) (c0:Ok 94 [.c (.i i.d)] (.c (.b (regB i.d)))) (c1:Ok 97 [.c (.i i.s)] (.c (.b (srcB i.s)))) (c2:Ok 96 [.c (.i i.of),.c (.i n)] (.c (.b (zci i.of n)))) :
  Ok 51 [.ag i.cs,.c (.i n)] (.c (.b (zci i.of n))) :=
 zaf [false,false,false,true,true,true,true] [] [] Tryz.func51 rfl rfl rfl rfl (by kernel_rfl) h (zab c0 (zab c1 (zab c2 zae)))
theorem zud (h:(!i.op==10&&(!i.op==11&&(!i.op==12&&(i.op==13&&(i.op==13&&(regB i.d&&(!srcB i.s&&true)))))))=true) (c0:Ok 94 [.c (.i i.d)] (.c (.b (regB i.d)))) (c1:Ok 97 [.c (.i i.s)] (.c (.b (srcB i.s)))) :
  Ok 51 [.ag i.cs,.c (.i n)] (.c (.b false)) :=
 zaf [false,false,false,true,true,true,false] [] [] Tryz.func51 rfl rfl rfl rfl (by kernel_rfl) h (zab c0 (zab c1 zae))
theorem zwn (h:(!i.op==10&&(!i.op==11&&(!i.op==12&&(i.op==13&&(i.op==13&&(!regB i.d&&true))))))=true) (c0:Ok 94 [.c (.i i.d)] (.c (.b (regB i.d)))) :
  Ok 51 [.ag i.cs,.c (.i n)] (.c (.b false)) :=
 zaf [false,false,false,true,true,false,false] [] [] Tryz.func51 rfl rfl rfl rfl (by kernel_rfl) h (zab c0 zae)
theorem zs6 (h:(!i.op==10&&(!i.op==11&&(!i.op==12&&(!i.op==13&&(i.op==14&&(regB i.d&&(srcB i.s&&true)))))))=true) (c0:Ok 94 [.c (.i i.d)] (.c (.b (regB i.d)))) (c1:Ok 97 [.c (.i i.s)] (.c (.b (srcB i.s)))) (c2:Ok 96 [.c (.i i.of),.c (.i n)] (.c (.b (zci i.of n)))) :
  Ok 51 [.ag i.cs,.c (.i n)] (.c (.b (zci i.of n))) :=
 zaf [false,false,false,false,true,true,true] [] [] Tryz.func51 rfl rfl rfl rfl (by kernel_rfl) h (zab c0 (zab c1 (zab c2 zae)))
theorem zuk (h:(!i.op==10&&(!i.op==11&&(!i.op==12&&(!i.op==13&&(i.op==14&&(regB i.d&&(!srcB i.s&&true)))))))=true) (c0:Ok 94 [.c (.i i.d)] (.c (.b (regB i.d)))) (c1:Ok 97 [.c (.i i.s)] (.c (.b (srcB i.s)))) :
  Ok 51 [.ag i.cs,.c (.i n)] (.c (.b false)) :=
 zaf [false,false,false,false,true,true,false] [] [] Tryz.func51 rfl rfl rfl rfl (by kernel_rfl) h (zab c0 (zab c1 zae))
theorem zt5 (h:(!i.op==10&&(!i.op==11&&(!i.op==12&&(!i.op==13&&(i.op==14&&(!regB i.d&&true))))))=true) (c0:Ok 94 [.c (.i i.d)] (.c (.b (regB i.d)))) :
  Ok 51 [.ag i.cs,.c (.i n)] (.c (.b false)) :=
 zaf [false,false,false,false,true,false,false] [] [] Tryz.func51 rfl rfl rfl rfl (by kernel_rfl) h (zab c0 zae)
theorem zta (h:(!i.op==10&&(!i.op==11&&(!i.op==12&&(!i.op==13&&(!i.op==14&&(i.op==15&&true))))))=true) :
  Ok 51 [.ag i.cs,.c (.i n)] (.c (.b true)) :=
 zaf [false,false,false,false,false,true] [] [] Tryz.func51 rfl rfl rfl rfl (by kernel_rfl) h zae
theorem zv4 (h:(!i.op==10&&(!i.op==11&&(!i.op==12&&(!i.op==13&&(!i.op==14&&(!i.op==15&&(regB i.d&&true)))))))=true) (c0:Ok 94 [.c (.i i.d)] (.c (.b (regB i.d)))) (c1:Ok 97 [.c (.i i.s)] (.c (.b (srcB i.s)))) :
  Ok 51 [.ag i.cs,.c (.i n)] (.c (.b (srcB i.s))) :=
 zaf [false,false,false,false,false,false,true] [] [] Tryz.func51 rfl rfl rfl rfl (by kernel_rfl) h (zab c0 (zab c1 zae))
theorem zum (h:(!i.op==10&&(!i.op==11&&(!i.op==12&&(!i.op==13&&(!i.op==14&&(!i.op==15&&(!regB i.d&&true)))))))=true) (c0:Ok 94 [.c (.i i.d)] (.c (.b (regB i.d)))) :
  Ok 51 [.ag i.cs,.c (.i n)] (.c (.b false)) :=
 zaf [false,false,false,false,false,false,false] [] [] Tryz.func51 rfl rfl rfl rfl (by kernel_rfl) h (zab c0 zae)
theorem zwh
  (l0:(i.op==10)=true→(regB i.d)=true→(regB i.s)=true→(zdc i.im)=true→(decide (-64≤i.of))=true→(Ok 94 [.c (.i i.d)] (.c (.b (regB i.d))))∧(Ok 94 [.c (.i i.s)] (.c (.b (regB i.s))))∧(Ok 95 [.c (.u i.im)] (.c (.b (zdc i.im))))∧(AV.c (.b (decide (i.of≤64)))=V))
  (l1:(i.op==10)=true→(regB i.d)=true→(regB i.s)=true→(zdc i.im)=true→(decide (-64≤i.of))=false→(Ok 94 [.c (.i i.d)] (.c (.b (regB i.d))))∧(Ok 94 [.c (.i i.s)] (.c (.b (regB i.s))))∧(Ok 95 [.c (.u i.im)] (.c (.b (zdc i.im))))∧(AV.c (.b false)=V))
  (l2:(i.op==10)=true→(regB i.d)=true→(regB i.s)=true→(zdc i.im)=false→(Ok 94 [.c (.i i.d)] (.c (.b (regB i.d))))∧(Ok 94 [.c (.i i.s)] (.c (.b (regB i.s))))∧(Ok 95 [.c (.u i.im)] (.c (.b (zdc i.im))))∧(AV.c (.b false)=V))
  (l3:(i.op==10)=true→(regB i.d)=true→(regB i.s)=false→(Ok 94 [.c (.i i.d)] (.c (.b (regB i.d))))∧(Ok 94 [.c (.i i.s)] (.c (.b (regB i.s))))∧(AV.c (.b false)=V))
  (l4:(i.op==10)=true→(regB i.d)=false→(Ok 94 [.c (.i i.d)] (.c (.b (regB i.d))))∧(AV.c (.b false)=V))
  (l5:(i.op==10)=false→(i.op==11)=true→(regB i.d)=true→(regB i.s)=true→(zdc i.im)=true→(decide (-64≤i.of))=true→(Ok 94 [.c (.i i.d)] (.c (.b (regB i.d))))∧(Ok 94 [.c (.i i.s)] (.c (.b (regB i.s))))∧(Ok 95 [.c (.u i.im)] (.c (.b (zdc i.im))))∧(AV.c (.b (decide (i.of≤64)))=V))
  (l6:(i.op==10)=false→(i.op==11)=true→(regB i.d)=true→(regB i.s)=true→(zdc i.im)=true→(decide (-64≤i.of))=false→(Ok 94 [.c (.i i.d)] (.c (.b (regB i.d))))∧(Ok 94 [.c (.i i.s)] (.c (.b (regB i.s))))∧(Ok 95 [.c (.u i.im)] (.c (.b (zdc i.im))))∧(AV.c (.b false)=V))
  (l7:(i.op==10)=false→(i.op==11)=true→(regB i.d)=true→(regB i.s)=true→(zdc i.im)=false→(Ok 94 [.c (.i i.d)] (.c (.b (regB i.d))))∧(Ok 94 [.c (.i i.s)] (.c (.b (regB i.s))))∧(Ok 95 [.c (.u i.im)] (.c (.b (zdc i.im))))∧(AV.c (.b false)=V))
  (l8:(i.op==10)=false→(i.op==11)=true→(regB i.d)=true→(regB i.s)=false→(Ok 94 [.c (.i i.d)] (.c (.b (regB i.d))))∧(Ok 94 [.c (.i i.s)] (.c (.b (regB i.s))))∧(AV.c (.b false)=V))
  (l9:(i.op==10)=false→(i.op==11)=true→(regB i.d)=false→(Ok 94 [.c (.i i.d)] (.c (.b (regB i.d))))∧(AV.c (.b false)=V))
  (l10:(i.op==10)=false→(i.op==11)=false→(i.op==12)=true→(Ok 96 [.c (.i i.of),.c (.i n)] (.c (.b (zci i.of n))))∧(AV.c (.b (zci i.of n))=V))
  (l11:(i.op==10)=false→(i.op==11)=false→(i.op==12)=false→(i.op==13)=true→(regB i.d)=true→(srcB i.s)=true→(Ok 94 [.c (.i i.d)] (.c (.b (regB i.d))))∧(Ok 97 [.c (.i i.s)] (.c (.b (srcB i.s))))∧(Ok 96 [.c (.i i.of),.c (.i n)] (.c (.b (zci i.of n))))∧(AV.c (.b (zci i.of n))=V))
  (l12:(i.op==10)=false→(i.op==11)=false→(i.op==12)=false→(i.op==13)=true→(regB i.d)=true→(srcB i.s)=false→(Ok 94 [.c (.i i.d)] (.c (.b (regB i.d))))∧(Ok 97 [.c (.i i.s)] (.c (.b (srcB i.s))))∧(AV.c (.b false)=V))
  (l13:(i.op==10)=false→(i.op==11)=false→(i.op==12)=false→(i.op==13)=true→(regB i.d)=false→(Ok 94 [.c (.i i.d)] (.c (.b (regB i.d))))∧(AV.c (.b false)=V))
  (l14:(i.op==10)=false→(i.op==11)=false→(i.op==12)=false→(i.op==13)=false→(i.op==14)=true→(regB i.d)=true→(srcB i.s)=true→(Ok 94 [.c (.i i.d)] (.c (.b (regB i.d))))∧(Ok 97 [.c (.i i.s)] (.c (.b (srcB i.s))))∧(Ok 96 [.c (.i i.of),.c (.i n)] (.c (.b (zci i.of n))))∧(AV.c (.b (zci i.of n))=V))
  (l15:(i.op==10)=false→(i.op==11)=false→(i.op==12)=false→(i.op==13)=false→(i.op==14)=true→(regB i.d)=true→(srcB i.s)=false→(Ok 94 [.c (.i i.d)] (.c (.b (regB i.d))))∧(Ok 97 [.c (.i i.s)] (.c (.b (srcB i.s))))∧(AV.c (.b false)=V))
  (l16:(i.op==10)=false→(i.op==11)=false→(i.op==12)=false→(i.op==13)=false→(i.op==14)=true→(regB i.d)=false→(Ok 94 [.c (.i i.d)] (.c (.b (regB i.d))))∧(AV.c (.b false)=V))
  (l17:(i.op==10)=false→(i.op==11)=false→(i.op==12)=false→(i.op==13)=false→(i.op==14)=false→(i.op==15)=true→(AV.c (.b true)=V))
  (l18:(i.op==10)=false→(i.op==11)=false→(i.op==12)=false→(i.op==13)=false→(i.op==14)=false→(i.op==15)=false→(regB i.d)=true→(Ok 94 [.c (.i i.d)] (.c (.b (regB i.d))))∧(Ok 97 [.c (.i i.s)] (.c (.b (srcB i.s))))∧(AV.c (.b (srcB i.s))=V))
  (l19:(i.op==10)=false→(i.op==11)=false→(i.op==12)=false→(i.op==13)=false→(i.op==14)=false→(i.op==15)=false→(regB i.d)=false→(Ok 94 [.c (.i i.d)] (.c (.b (regB i.d))))∧(AV.c (.b false)=V)) :
  Ok 51 [.ag i.cs,.c (.i n)] V :=
 (tf (i.op==10)).elim (fun h0=>(tf (regB i.d)).elim (fun h1=>(tf (regB i.s)).elim (fun h2=>(tf (zdc i.im)).elim (fun h3=>(tf (decide (-64≤i.of))).elim (fun h4=>(match l0 h0 h1 h2 h3 h4 with | ⟨c0,c1,c2,e⟩=>zam (zw1 (zaa h0 (zaa h0 (zaa h1 (zaa h2 (zaa h3 (zaa h4 rfl)))))) c0 c1 c2) e)) (fun h4=>(match l1 h0 h1 h2 h3 h4 with | ⟨c0,c1,c2,e⟩=>zam (zxu (zaa h0 (zaa h0 (zaa h1 (zaa h2 (zaa h3 (zaa (zad h4) rfl)))))) c0 c1 c2) e))) (fun h3=>(match l2 h0 h1 h2 h3 with | ⟨c0,c1,c2,e⟩=>zam (zw4 (zaa h0 (zaa h0 (zaa h1 (zaa h2 (zaa (zad h3) rfl))))) c0 c1 c2) e))) (fun h2=>(match l3 h0 h1 h2 with | ⟨c0,c1,e⟩=>zam (zzb (zaa h0 (zaa h0 (zaa h1 (zaa (zad h2) rfl)))) c0 c1) e))) (fun h1=>(match l4 h0 h1 with | ⟨c0,e⟩=>zam (zym (zaa h0 (zaa h0 (zaa (zad h1) rfl))) c0) e))) (fun h0=>(tf (i.op==11)).elim (fun h1=>(tf (regB i.d)).elim (fun h2=>(tf (regB i.s)).elim (fun h3=>(tf (zdc i.im)).elim (fun h4=>(tf (decide (-64≤i.of))).elim (fun h5=>(match l5 h0 h1 h2 h3 h4 h5 with | ⟨c0,c1,c2,e⟩=>zam (zxi (zaa (zad h0) (zaa h1 (zaa h2 (zaa h3 (zaa h4 (zaa h5 rfl)))))) c0 c1 c2) e)) (fun h5=>(match l6 h0 h1 h2 h3 h4 h5 with | ⟨c0,c1,c2,e⟩=>zam (zxm (zaa (zad h0) (zaa h1 (zaa h2 (zaa h3 (zaa h4 (zaa (zad h5) rfl)))))) c0 c1 c2) e))) (fun h4=>(match l7 h0 h1 h2 h3 h4 with | ⟨c0,c1,c2,e⟩=>zam (zze (zaa (zad h0) (zaa h1 (zaa h2 (zaa h3 (zaa (zad h4) rfl))))) c0 c1 c2) e))) (fun h3=>(match l8 h0 h1 h2 h3 with | ⟨c0,c1,e⟩=>zam (zyj (zaa (zad h0) (zaa h1 (zaa h2 (zaa (zad h3) rfl)))) c0 c1) e))) (fun h2=>(match l9 h0 h1 h2 with | ⟨c0,e⟩=>zam (zzp (zaa (zad h0) (zaa h1 (zaa (zad h2) rfl))) c0) e))) (fun h1=>(tf (i.op==12)).elim (fun h2=>(match l10 h0 h1 h2 with | ⟨c0,e⟩=>zam (ztg (zaa (zad h0) (zaa (zad h1) (zaa h2 rfl))) c0) e)) (fun h2=>(tf (i.op==13)).elim (fun h3=>(tf (regB i.d)).elim (fun h4=>(tf (srcB i.s)).elim (fun h5=>(match l11 h0 h1 h2 h3 h4 h5 with | ⟨c0,c1,c2,e⟩=>zam (zur (zaa (zad h0) (zaa (zad h1) (zaa (zad h2) (zaa h3 (zaa h3 (zaa h4 (zaa h5 rfl))))))) c0 c1 c2) e)) (fun h5=>(match l12 h0 h1 h2 h3 h4 h5 with | ⟨c0,c1,e⟩=>zam (zud (zaa (zad h0) (zaa (zad h1) (zaa (zad h2) (zaa h3 (zaa h3 (zaa h4 (zaa (zad h5) rfl))))))) c0 c1) e))) (fun h4=>(match l13 h0 h1 h2 h3 h4 with | ⟨c0,e⟩=>zam (zwn (zaa (zad h0) (zaa (zad h1) (zaa (zad h2) (zaa h3 (zaa h3 (zaa (zad h4) rfl)))))) c0) e))) (fun h3=>(tf (i.op==14)).elim (fun h4=>(tf (regB i.d)).elim (fun h5=>(tf (srcB i.s)).elim (fun h6=>(match l14 h0 h1 h2 h3 h4 h5 h6 with | ⟨c0,c1,c2,e⟩=>zam (zs6 (zaa (zad h0) (zaa (zad h1) (zaa (zad h2) (zaa (zad h3) (zaa h4 (zaa h5 (zaa h6 rfl))))))) c0 c1 c2) e)) (fun h6=>(match l15 h0 h1 h2 h3 h4 h5 h6 with | ⟨c0,c1,e⟩=>zam (zuk (zaa (zad h0) (zaa (zad h1) (zaa (zad h2) (zaa (zad h3) (zaa h4 (zaa h5 (zaa (zad h6) rfl))))))) c0 c1) e))) (fun h5=>(match l16 h0 h1 h2 h3 h4 h5 with | ⟨c0,e⟩=>zam (zt5 (zaa (zad h0) (zaa (zad h1) (zaa (zad h2) (zaa (zad h3) (zaa h4 (zaa (zad h5) rfl)))))) c0) e))) (fun h4=>(tf (i.op==15)).elim (fun h5=>(match l17 h0 h1 h2 h3 h4 h5 with | e=>zam (zta (zaa (zad h0) (zaa (zad h1) (zaa (zad h2) (zaa (zad h3) (zaa (zad h4) (zaa h5 rfl))))))) e)) (fun h5=>(tf (regB i.d)).elim (fun h6=>(match l18 h0 h1 h2 h3 h4 h5 h6 with | ⟨c0,c1,e⟩=>zam (zv4 (zaa (zad h0) (zaa (zad h1) (zaa (zad h2) (zaa (zad h3) (zaa (zad h4) (zaa (zad h5) (zaa h6 rfl))))))) c0 c1) e)) (fun h6=>(match l19 h0 h1 h2 h3 h4 h5 h6 with | ⟨c0,e⟩=>zam (zum (zaa (zad h0) (zaa (zad h1) (zaa (zad h2) (zaa (zad h3) (zaa (zad h4) (zaa (zad h5) (zaa (zad h6) rfl))))))) c0) e))))))))
theorem yaub (h:(i.op==10&&(i.op==10&&true))=true) :
  Ok 52 [.ag i.cs] (.c (.b true)) :=
 zaf [true,true] [] [] Tryz.func52 rfl rfl rfl rfl (by kernel_rfl) h zae
theorem yatl (h:(!i.op==10&&(i.op==11&&true))=true) :
  Ok 52 [.ag i.cs] (.c (.b true)) :=
 zaf [false,true] [] [] Tryz.func52 rfl rfl rfl rfl (by kernel_rfl) h zae
theorem yavi (h:(!i.op==10&&(!i.op==11&&(i.op==12&&true)))=true) :
  Ok 52 [.ag i.cs] (.c (.b (eqCs i.cs (splice (splice [.i 0,.i 0,.i 0,.u 0#64,.i 0] 0 [.i 12]) 4 [.i i.of])))) :=
 zaf [false,false,true] [] [] Tryz.func52 rfl rfl rfl rfl (by kernel_rfl) h zae
theorem yatv (h:(!i.op==10&&(!i.op==11&&(!i.op==12&&(i.op==13&&(i.op==13&&(i.s==-1&&true))))))=true) :
  Ok 52 [.ag i.cs] (.c (.b true)) :=
 zaf [false,false,false,true,true,true] [] [] Tryz.func52 rfl rfl rfl rfl (by kernel_rfl) h zae
theorem yate (h:(!i.op==10&&(!i.op==11&&(!i.op==12&&(i.op==13&&(i.op==13&&(!i.s==-1&&true))))))=true) :
  Ok 52 [.ag i.cs] (.c (.b (eqb i.im 0#64))) :=
 zaf [false,false,false,true,true,false] [] [] Tryz.func52 rfl rfl rfl rfl (by kernel_rfl) h zae
theorem yar6 (h:(!i.op==10&&(!i.op==11&&(!i.op==12&&(!i.op==13&&(i.op==14&&(i.s==-1&&true))))))=true) :
  Ok 52 [.ag i.cs] (.c (.b true)) :=
 zaf [false,false,false,false,true,true] [] [] Tryz.func52 rfl rfl rfl rfl (by kernel_rfl) h zae
theorem yau0 (h:(!i.op==10&&(!i.op==11&&(!i.op==12&&(!i.op==13&&(i.op==14&&(!i.s==-1&&true))))))=true) :
  Ok 52 [.ag i.cs] (.c (.b (eqb i.im 0#64))) :=
 zaf [false,false,false,false,true,false] [] [] Tryz.func52 rfl rfl rfl rfl (by kernel_rfl) h zae
theorem yatw (h:(!i.op==10&&(!i.op==11&&(!i.op==12&&(!i.op==13&&(!i.op==14&&(i.op==15&&true))))))=true) :
  Ok 52 [.ag i.cs] (.c (.b (eqCs i.cs (splice [.i 0,.i 0,.i 0,.u 0#64,.i 0] 0 [.i 15])))) :=
 zaf [false,false,false,false,false,true] [] [] Tryz.func52 rfl rfl rfl rfl (by kernel_rfl) h zae
theorem yat1 (h:(!i.op==10&&(!i.op==11&&(!i.op==12&&(!i.op==13&&(!i.op==14&&(!i.op==15&&(i.of==0&&(i.s==-1&&true))))))))=true) :
  Ok 52 [.ag i.cs] (.c (.b true)) :=
 zaf [false,false,false,false,false,false,true,true] [] [] Tryz.func52 rfl rfl rfl rfl (by kernel_rfl) h zae
theorem yauw (h:(!i.op==10&&(!i.op==11&&(!i.op==12&&(!i.op==13&&(!i.op==14&&(!i.op==15&&(i.of==0&&(!i.s==-1&&true))))))))=true) :
  Ok 52 [.ag i.cs] (.c (.b (eqb i.im 0#64))) :=
 zaf [false,false,false,false,false,false,true,false] [] [] Tryz.func52 rfl rfl rfl rfl (by kernel_rfl) h zae
theorem yaof (h:(!i.op==10&&(!i.op==11&&(!i.op==12&&(!i.op==13&&(!i.op==14&&(!i.op==15&&(!i.of==0&&true)))))))=true) :
  Ok 52 [.ag i.cs] (.c (.b false)) :=
 zaf [false,false,false,false,false,false,false] [] [] Tryz.func52 rfl rfl rfl rfl (by kernel_rfl) h zae
theorem yap4
  (l0:(i.op==10)=true→(AV.c (.b true)=V))
  (l1:(i.op==10)=false→(i.op==11)=true→(AV.c (.b true)=V))
  (l2:(i.op==10)=false→(i.op==11)=false→(i.op==12)=true→(AV.c (.b (eqCs i.cs (splice (splice [.i 0,.i 0,.i 0,.u 0#64,.i 0] 0 [.i 12]) 4 [.i i.of])))=V))
  (l3:(i.op==10)=false→(i.op==11)=false→(i.op==12)=false→(i.op==13)=true→(i.s==-1)=true→(AV.c (.b true)=V))
  (l4:(i.op==10)=false→(i.op==11)=false→(i.op==12)=false→(i.op==13)=true→(i.s==-1)=false→(AV.c (.b (eqb i.im 0#64))=V))
  (l5:(i.op==10)=false→(i.op==11)=false→(i.op==12)=false→(i.op==13)=false→(i.op==14)=true→(i.s==-1)=true→(AV.c (.b true)=V))
  (l6:(i.op==10)=false→(i.op==11)=false→(i.op==12)=false→(i.op==13)=false→(i.op==14)=true→(i.s==-1)=false→(AV.c (.b (eqb i.im 0#64))=V))
  (l7:(i.op==10)=false→(i.op==11)=false→(i.op==12)=false→(i.op==13)=false→(i.op==14)=false→(i.op==15)=true→(AV.c (.b (eqCs i.cs (splice [.i 0,.i 0,.i 0,.u 0#64,.i 0] 0 [.i 15])))=V))
  (l8:(i.op==10)=false→(i.op==11)=false→(i.op==12)=false→(i.op==13)=false→(i.op==14)=false→(i.op==15)=false→(i.of==0)=true→(i.s==-1)=true→(AV.c (.b true)=V))
  (l9:(i.op==10)=false→(i.op==11)=false→(i.op==12)=false→(i.op==13)=false→(i.op==14)=false→(i.op==15)=false→(i.of==0)=true→(i.s==-1)=false→(AV.c (.b (eqb i.im 0#64))=V))
  (l10:(i.op==10)=false→(i.op==11)=false→(i.op==12)=false→(i.op==13)=false→(i.op==14)=false→(i.op==15)=false→(i.of==0)=false→(AV.c (.b false)=V)) :
  Ok 52 [.ag i.cs] V :=
 (tf (i.op==10)).elim (fun h0=>(match l0 h0 with | e=>zam (yaub (zaa h0 (zaa h0 rfl))) e)) (fun h0=>(tf (i.op==11)).elim (fun h1=>(match l1 h0 h1 with | e=>zam (yatl (zaa (zad h0) (zaa h1 rfl))) e)) (fun h1=>(tf (i.op==12)).elim (fun h2=>(match l2 h0 h1 h2 with | e=>zam (yavi (zaa (zad h0) (zaa (zad h1) (zaa h2 rfl)))) e)) (fun h2=>(tf (i.op==13)).elim (fun h3=>(tf (i.s==-1)).elim (fun h4=>(match l3 h0 h1 h2 h3 h4 with | e=>zam (yatv (zaa (zad h0) (zaa (zad h1) (zaa (zad h2) (zaa h3 (zaa h3 (zaa h4 rfl))))))) e)) (fun h4=>(match l4 h0 h1 h2 h3 h4 with | e=>zam (yate (zaa (zad h0) (zaa (zad h1) (zaa (zad h2) (zaa h3 (zaa h3 (zaa (zad h4) rfl))))))) e))) (fun h3=>(tf (i.op==14)).elim (fun h4=>(tf (i.s==-1)).elim (fun h5=>(match l5 h0 h1 h2 h3 h4 h5 with | e=>zam (yar6 (zaa (zad h0) (zaa (zad h1) (zaa (zad h2) (zaa (zad h3) (zaa h4 (zaa h5 rfl))))))) e)) (fun h5=>(match l6 h0 h1 h2 h3 h4 h5 with | e=>zam (yau0 (zaa (zad h0) (zaa (zad h1) (zaa (zad h2) (zaa (zad h3) (zaa h4 (zaa (zad h5) rfl))))))) e))) (fun h4=>(tf (i.op==15)).elim (fun h5=>(match l7 h0 h1 h2 h3 h4 h5 with | e=>zam (yatw (zaa (zad h0) (zaa (zad h1) (zaa (zad h2) (zaa (zad h3) (zaa (zad h4) (zaa h5 rfl))))))) e)) (fun h5=>(tf (i.of==0)).elim (fun h6=>(tf (i.s==-1)).elim (fun h7=>(match l8 h0 h1 h2 h3 h4 h5 h6 h7 with | e=>zam (yat1 (zaa (zad h0) (zaa (zad h1) (zaa (zad h2) (zaa (zad h3) (zaa (zad h4) (zaa (zad h5) (zaa h6 (zaa h7 rfl))))))))) e)) (fun h7=>(match l9 h0 h1 h2 h3 h4 h5 h6 h7 with | e=>zam (yauw (zaa (zad h0) (zaa (zad h1) (zaa (zad h2) (zaa (zad h3) (zaa (zad h4) (zaa (zad h5) (zaa h6 (zaa (zad h7) rfl))))))))) e))) (fun h6=>(match l10 h0 h1 h2 h3 h4 h5 h6 with | e=>zam (yaof (zaa (zad h0) (zaa (zad h1) (zaa (zad h2) (zaa (zad h3) (zaa (zad h4) (zaa (zad h5) (zaa (zad h6) rfl)))))))) e))))))))
end
theorem yaat (d:Int):Ok 94 [.c (.i d)] (.c (.b (regB d))):=by
 refine yaji ?_ ?_ <;> (intro h;rw [regB,h];rfl)
theorem zw8 (d:Int):Ok 97 [.c (.i d)] (.c (.b (srcB d))):=by
 refine zwi ?_ ?_
 ·intro h;simp_all [srcB]
 ·intro h;refine ⟨yaat _,?_⟩;simp_all [srcB]
theorem yakr (d:BitVec 64):Ok 95 [.c (.u d)] (.c (.b (zdc d))):=by
 refine yaee ?_ ?_ ?_ ?_ <;> (intros;simp_all [zdc])
theorem yajc (d n:Int):Ok 96 [.c (.i d),.c (.i n)] (.c (.b (zci d n))):=by
 refine yaf9 ?_ ?_ <;> (intro h;rw [zci,h];rfl)
theorem znl (i:Ins) (n:Int):Ok 51 [.ag i.cs,.c (.i n)] (.c (.b (inB i n))):=by
 apply zwh
 all_goals intros
 all_goals repeat' apply And.intro
 all_goals first
  | exact yaat _
  | exact zw8 _
  | exact yakr _
  | exact yajc _ _
  | (simp_all [inB];try omega)
theorem yal0 (i:Ins):Ok 52 [.ag i.cs] (.c (.b (zbm i))):=by
 apply yap4
 all_goals intros
 all_goals (simp_all [zbm,eqCs,eqC,splice,Ins.cs,Bool.and_assoc];try rfl)
section
variable {m:Mach} {e o r op q j:Int} {x y:BitVec 64} {i:Ins} {V:AV} {t:ByteArray} {C:Cx} {R:Ending→World→Prop} {w:World} {β:Bs} {n:Nat} {E:Eff}
theorem yac3 (h:(i.op==12&&true)=true) :
  Ok 99 [.ag i.cs] (.ag [.b false,.b false,.b false,.b false,.b false,.b false]) :=
 zaf [true] [] [] Tryz.func99 rfl rfl rfl rfl (by kernel_rfl) h zae
theorem yae7 (h:(!i.op==12&&(i.op==15&&true))=true) :
  Ok 99 [.ag i.cs] (.ag [.b true,.b false,.b false,.b false,.b false,.b false]) :=
 zaf [false,true] [] [] Tryz.func99 rfl rfl rfl rfl (by kernel_rfl) h zae
theorem yajh (h:(!i.op==12&&(!i.op==15&&(i.op==1&&(i.op==1&&(i.s != -1&&(decide (0≤i.s)&&decide (i.s<6)&&(Nat.ble ((i.s).toNat*1+1) 6&&true&&true)))))))=true) (c0:we 2 ((bcs no6).set ((i.s).toNat*1) (.b true))=we 2 (bcs (no6.set (i.s).toNat true))) :
  Ok 99 [.ag i.cs] (.ag (bcs (no6.set (i.s).toNat true))) :=
 zaf [false,false,true,true,true] [] [(12,3)] Tryz.func99 rfl rfl rfl rfl (by kernel_rfl) h (zac c0 zae)
theorem yald (h:(!i.op==12&&(!i.op==15&&(i.op==1&&(i.op==1&&(!i.s != -1&&true)))))=true) :
  Ok 99 [.ag i.cs] (.ag [.b false,.b false,.b false,.b false,.b false,.b false]) :=
 zaf [false,false,true,true,false] [] [(12,3)] Tryz.func99 rfl rfl rfl rfl (by kernel_rfl) h zae
theorem yahx (h:(!i.op==12&&(!i.op==15&&(!i.op==1&&(i.op==10&&(i.s != -1&&(decide (0≤i.s)&&decide (i.s<6)&&(Nat.ble ((i.s).toNat*1+1) 6&&true&&true)))))))=true) (c0:we 2 ((bcs no6).set ((i.s).toNat*1) (.b true))=we 2 (bcs (no6.set (i.s).toNat true))) :
  Ok 99 [.ag i.cs] (.ag (bcs (no6.set (i.s).toNat true))) :=
 zaf [false,false,false,true,true] [] [(12,3)] Tryz.func99 rfl rfl rfl rfl (by kernel_rfl) h (zac c0 zae)
theorem yak9 (h:(!i.op==12&&(!i.op==15&&(!i.op==1&&(i.op==10&&(!i.s != -1&&true)))))=true) :
  Ok 99 [.ag i.cs] (.ag [.b false,.b false,.b false,.b false,.b false,.b false]) :=
 zaf [false,false,false,true,false] [] [(12,3)] Tryz.func99 rfl rfl rfl rfl (by kernel_rfl) h zae
theorem yalv (h:(!i.op==12&&(!i.op==15&&(!i.op==1&&(!i.op==10&&(decide (0≤i.d)&&decide (i.d<6)&&(Nat.ble ((i.d).toNat*1+1) 6&&true&&(i.s != -1&&(decide (0≤i.s)&&decide (i.s<6)&&(Nat.ble ((i.s).toNat*1+1) (bcs (no6.set (i.d).toNat true)).length&&true&&true)))))))))=true) (c0:we 2 ((bcs no6).set ((i.d).toNat*1) (.b true))=we 2 (bcs (no6.set (i.d).toNat true))) (c1:we 2 ((bcs (no6.set (i.d).toNat true)).set ((i.s).toNat*1) (.b true))=we 2 (bcs ((no6.set (i.d).toNat true).set (i.s).toNat true))) :
  Ok 99 [.ag i.cs] (.ag (bcs ((no6.set (i.d).toNat true).set (i.s).toNat true))) :=
 zaf [false,false,false,false,true] [] [(3,3),(12,3)] Tryz.func99 rfl rfl rfl rfl (by kernel_rfl) h (zac c0 (zac c1 zae))
theorem yagg (h:(!i.op==12&&(!i.op==15&&(!i.op==1&&(!i.op==10&&(decide (0≤i.d)&&decide (i.d<6)&&(Nat.ble ((i.d).toNat*1+1) 6&&true&&(!i.s != -1&&true)))))))=true) (c0:we 2 ((bcs no6).set ((i.d).toNat*1) (.b true))=we 2 (bcs (no6.set (i.d).toNat true))) :
  Ok 99 [.ag i.cs] (.ag (bcs (no6.set (i.d).toNat true))) :=
 zaf [false,false,false,false,false] [] [(3,3),(12,3)] Tryz.func99 rfl rfl rfl rfl (by kernel_rfl) h (zac c0 zae)
end
theorem zfr {n:Int} (h0:-1099511627776≤n) (h1:n≤1099511627776):IntKind.i64.wrap n=n:=by
 rw [IntKind.wrap_i64];omega
theorem zm7 {v:V6 Bool} {r:Int} (h:regB r=true):(bcs v).set (r.toNat*1) (.b true)=bcs (v.set r.toNat true) :=
 zb8 (P:=fun r=>(bcs v).set (r.toNat*1) (.b true)=bcs (v.set r.toNat true)) h rfl rfl rfl rfl rfl rfl
theorem yar2 (v:V6 Bool):(bcs v).length=6:=rfl
theorem ztk {i:Ins} (h:i.op=12∨i.op=15∨(regB i.d=true∧srcB i.s=true)):Ok 99 [.ag i.cs] (.ag (bcs (zaw i))):=by
 unfold zaw
 by_cases c1:i.op=12
 ·rw [if_pos c1];exact yac3 (by simp [c1])
 by_cases c2:i.op=15
 ·rw [if_neg c1,if_pos c2];exact yae7 (by simp [c2])
 obtain ⟨hd,hs⟩:=(h.resolve_left c1).resolve_left c2
 have d1:=regB_iff.1 hd
 have d2:=zbp hd
 rw [if_neg c1,if_neg c2]
 rcases srcB_iff.1 hs with e | hs
 ·rw [if_pos e]
  by_cases c3:i.op=1
  ·rw [if_pos (Or.inl c3)];exact yald (by simp [c3,e])
  by_cases c4:i.op=10
  ·rw [if_pos (Or.inr c4)];exact yak9 (by simp [c4,e])
  rw [if_neg (by omega)]
  refine yagg ?_ ?_
  ·simp [c1,c2,c3,c4,d1.1,d1.2,e];omega
  ·rw [zm7 hd]
 ·have s1:=regB_iff.1 hs
  have s2:=zbp hs
  have e:¬ i.s=-1:=by omega
  rw [if_neg e]
  by_cases c3:i.op=1
  ·rw [if_pos (Or.inl c3)]
   refine yajh ?_ ?_
   ·simp [c3,e,s1.1,s1.2];omega
   ·rw [zm7 hs]
  by_cases c4:i.op=10
  ·rw [if_pos (Or.inr c4)]
   refine yahx ?_ ?_
   ·simp [c4,e,s1.1,s1.2];omega
   ·rw [zm7 hs]
  rw [if_neg (by omega)]
  refine yalv ?_ ?_ ?_
  ·simp [c1,c2,c3,c4,d1.1,d1.2,e,s1.1,s1.2,yar2];omega
  ·rw [zm7 hd]
  ·rw [zm7 hs]
section
variable {L:List Ins} {c:Nat} {w:World} {β:Bs} {E:Eff}
abbrev ckKn (L:List Ins) (c a b d:Nat) (j:Int):Kn:=⟨[(0,.c (.sl 0 0 L.length c)),(a,.c (.sl 0 0 L.length c)),(b,.c (.i L.length)),(d,.c (.i j))],pH L,1⟩
theorem yace (hL:L.length≤64):∀ n j:Nat,j+n=L.length→((L.drop j).all zcl=false→⟨.c (.i 4),[],none⟩=E) →
  ((L.drop j).all zcl=true→ART Tryz.prog 19 (cx w β 1 []) Tryz.f19.ntmps (zdk Tryz.f19 1) (ckKn L c 32 33 34 0) (REff w β E)) →
  ART Tryz.prog 19 (cx w β 1 []) Tryz.f19.ntmps (zdk Tryz.f19 0) (ckKn L c 17 18 19 j) (REff w β E)
 | 0,j,h,hy,hz=>by
  refine yarm (by rw [jn (by omega)];rfl) (zle rfl) (fun _ h=>h) (hz ?_)
  rw [List.drop_eq_nil_of_le (by omega)];rfl
 | n+1,j,h,hy,hz=>by
  have hj:j<L.length:=by omega
  rw [zho hj,List.all_cons] at hy hz
  refine yaus (by omega) (fun a=>⟨jl hj,jl hj,pble hj,zdi hj,hy ?_⟩) (fun a b=>⟨jl hj,jl hj,pble hj,zdi hj,hy ?_⟩) (fun a b=>⟨jl hj,jl hj,pble hj,zdi hj,zle rfl,?_⟩)
  ·have:zcl (elt L j)=false:=by simp at a;simp [zcl];omega
   rw [this];rfl
  ·have:zcl (elt L j)=false:=by simp at b;simp [zcl];omega
   rw [this];rfl
  ·have:zcl (elt L j)=true:=by simp at a b;simp [zcl];omega
   rw [this] at hy hz
   rw [zhy (by omega)]
   exact yace hL n (j+1) (by omega) (fun h=>hy h) (fun h=>hz h)
theorem zz5 (hL:L.length≤64):∀ n j:Nat,j+n=L.length→(zff (L.drop j)=false→⟨.c (.i 3),[],none⟩=E) →
  (zff (L.drop j)=true→ART Tryz.prog 19 (cx w β 1 []) Tryz.f19.ntmps (zdk Tryz.f19 2) (ckKn L c 48 49 50 0) (REff w β E)) →
  ART Tryz.prog 19 (cx w β 1 []) Tryz.f19.ntmps (zdk Tryz.f19 1) (ckKn L c 32 33 34 j) (REff w β E)
 | 0,j,h,hy,hz=>by
  refine yatc (by rw [jn (by omega)];rfl) (zle rfl) (fun _ h=>h) (hz ?_)
  rw [List.drop_eq_nil_of_le (by omega)];rfl
 | n+1,j,h,hy,hz=>by
  have hj:j<L.length:=by omega
  have el:((L.drop (j+1)).length:Int)=((L.length - 1 - j:Nat):Int):=by rw [List.length_drop];omega
  rw [zho hj,zff,el] at hy hz
  have ew:IntKind.wrap IntKind.i64 (IntKind.wrap IntKind.i64 ((L.length:Int) - 1) - (j:Int))=((L.length - 1 - j:Nat):Int):=by
   rw [zfr (n:=(L.length:Int) - 1) (by omega) (by omega),zfr (by omega) (by omega)];omega
  have c1:Eff.mk (AV.c (AC.i (IntKind.wrap IntKind.i64 (IntKind.wrap IntKind.i64 ((L.length:Int) - 1) - (j:Int))))) [] none=Eff.mk (AV.c (AC.i ((L.length - 1 - j:Nat):Int))) [] none:=by rw [ew]
  refine yavt (by omega) (fun a=>⟨jl hj,jl hj,pble hj,zdi hj,c1,znl _ _,hy ?_⟩) (fun a=>⟨jl hj,jl hj,pble hj,zdi hj,c1,znl _ _,zle rfl,?_⟩)
  ·have:inB (elt L j) ((L.length - 1 - j:Nat):Int)=false:=by simpa using a
   rw [this];rfl
  ·have:inB (elt L j) ((L.length - 1 - j:Nat):Int)=true:=by simpa using a
   rw [this] at hy hz
   rw [zhy (by omega)]
   exact zz5 hL n (j+1) (by omega) (fun h=>hy h) (fun h=>hz h)
theorem zhs (h0:0<L.length) (hL:L.length≤64):(pcell L)[0+Int.toNat (IntKind.wrap IntKind.i64 ((L.length:Int) - 1))*5+0]?=some (.i (zb9 L)):=by
 rw [zfr (by omega) (by omega),show (0+((L.length:Int) - 1).toNat*5+0)=(L.length - 1)*5 by omega]
 have h1:=yabf (L:=L) (k:=L.length - 1) (by omega) (.b false)
 have h2:(L.length - 1)*5<(pcell L).length:=by rw [zat];omega
 rw [List.getD_eq_getElem?_getD,List.getElem?_eq_getElem h2] at h1
 rw [List.getElem?_eq_getElem h2]
 refine congrArg some (h1.trans ?_)
 unfold zb9 elt
 rw [List.getLast?_eq_getElem?,List.getD_eq_getElem?_getD,List.getElem?_eq_getElem (by omega)]
 rfl
theorem yabm (h0:0<L.length) (hL:L.length≤64):∀ n j:Nat,j+n=L.length→((L.drop j).all zbm=false→⟨.c (.i 1),[],none⟩=E) →
  ((L.drop j).all zbm=true→⟨.c (.i (if zb9 L≠15 then 1 else 0)),[],none⟩=E) →
  ART Tryz.prog 19 (cx w β 1 []) Tryz.f19.ntmps (zdk Tryz.f19 2) (ckKn L c 48 49 50 j) (REff w β E)
 | 0,j,h,hy,hz=>by
  have hz:=hz (by rw [List.drop_eq_nil_of_le (by omega)];rfl)
  have o0:(!decide ((j:Int)<(L.length:Int)))=true:=by rw [jn (by omega)];rfl
  have o1:(decide (0≤IntKind.wrap IntKind.i64 ((L.length:Int) - 1))&&decide (IntKind.wrap IntKind.i64 ((L.length:Int) - 1)<(L.length:Int)))=true:=by
   rw [zfr (by omega) (by omega)];simp;omega
  have o2:(AC.isI (Option.getD (pcell L)[0+Int.toNat (IntKind.wrap IntKind.i64 ((L.length:Int) - 1))*5+0]? (AC.b false))&&Nat.blt (0+Int.toNat (IntKind.wrap IntKind.i64 ((L.length:Int) - 1))*5+0) (pcell L).length)=true:=by
   rw [zhs h0 hL,zfr (by omega) (by omega),zat];simp [AC.isI];omega
  have c0:Eff.mk (AV.c (AC.i (AC.asI (Option.getD (pcell L)[0+Int.toNat (IntKind.wrap IntKind.i64 ((L.length:Int) - 1))*5+0]? (AC.b false))))) [] none=Eff.mk (AV.c (AC.i (zb9 L))) [] none:=by rw [zhs h0 hL];rfl
  refine yaox (fun a=>⟨o0,o1,o2,c0,?_⟩) (fun a=>⟨o0,o1,o2,c0,?_⟩)
  ·rw [← hz,if_pos (by simpa using a)]
  ·rw [← hz,if_neg (by simpa using a)]
 | n+1,j,h,hy,hz=>by
  have hj:j<L.length:=by omega
  rw [zho hj,List.all_cons] at hy hz
  refine yar4 (by omega) (fun a=>⟨jl hj,jl hj,pble hj,zdi hj,yal0 _,hy ?_⟩) (fun a=>⟨jl hj,jl hj,pble hj,zdi hj,yal0 _,zle rfl,?_⟩)
  ·have:zbm (elt L j)=false:=by simpa using a
   rw [this];rfl
  ·have:zbm (elt L j)=true:=by simpa using a
   rw [this] at hy hz
   rw [zhy (by omega)]
   exact yabm h0 hL n (j+1) (by omega) (fun h=>hy h) (fun h=>hz h)
end
theorem zi0 (L:List Ins) (c:Nat):CallOK Tryz.prog ⟨19,[.c (.sl 0 0 L.length c)],pH L,⟨.c (.i (zan L)),[],none⟩⟩:=by
 refine zg9 Tryz.func19 rfl rfl (zs3 rfl) rfl ro_p fun w β=>?_
 refine yakz (Nat.le_refl 1) (fun a=>?_) (fun a b=>?_) (fun a b=>⟨zle rfl,?_⟩)
 ·unfold zan
  rw [if_pos (Or.inl (by simpa using a))]
 ·unfold zan
  rw [if_pos (Or.inr (by simp at b;omega))]
 ·have h0:0<L.length:=by
   have:¬ ((L.length:Int)=0):=by simpa using a
   omega
  have h1:L.length≤64:=by simp at b;omega
  unfold zan
  rw [if_neg (by omega)]
  refine yace h1 L.length 0 (by omega) (fun h=>?_) (fun h=>?_)
  ·rw [if_pos (by simpa using h)]
  ·rw [if_neg (by simpa using h)]
   refine zz5 h1 L.length 0 (by omega) (fun h=>?_) (fun h=>?_)
   ·rw [if_pos (by simpa using h)]
   ·rw [if_neg (by simpa using h)]
    refine yabm h0 h1 L.length 0 (by omega) (fun h=>?_) (fun h=>?_)
    ·rw [if_pos (by simpa using h)]
    ·have e:¬ (L.all zbm=false):=by simpa using h
     rw [if_neg e]
end Go.Proofs.YtkigmocchaikgabGreatDoor
namespace Go.Proofs.YtkigmocchaikgabGreatDoor
open Go.Shelf Go.RowKit Go.Sort Go.Lib
def zed (i:Ins) (ps:List Int):List UInt8:=ps.flatMap fun p=>32::za7 i p
def zgj (i:Ins):List UInt8:=nmL (i.op - 1).toNat++zed i (plcs i.op)++[10]
def shown (L:List Ins):List UInt8:=L.flatMap zgj
structure Fld (i:Ins):Prop where
 o1:1≤i.op
 o2:i.op≤15
 d:-64≤i.d∧i.d≤64
 s:-64≤i.s∧i.s≤64
 f:-64≤i.of∧i.of≤64
theorem zof {P:Program} {f:FuncId} {A:Array Value} {args:List AV} {L:List Ins} {W:World} {b o c:Nat} {v:AV} {V:Value} (hP:PAt W b o L) (hA:(args.map (AV.g (fun _=>(b,o,c)))).toArray=A) (hV:∀ β,v.g β=V) (h:CallOK P ⟨f,args,pH L,⟨v,[],none⟩⟩) (hw:Gw W) :
  Calls P f A W fun e w'=>e=.returned V∧Below W.heap.size W w':=by
 have:=h.call (fun _=>(b,o,c)) W hw (fun k e he hw=>by rw [ro_p k e he] at hw;cases hw) (fun k e he=>?_) (fun k e _ _ he _ _ hw=>?_)
 ·rw [← hA]
  refine this.mono fun e w' ⟨β',he,hu⟩=>⟨by rw [he,← hV β'],?_⟩
  exact ⟨hu.frame.os,hu.frame.tape,hu.frame.output,hu.frame.size,fun k hk=>hu.frame.block k hk fun ⟨_,_,hm,_⟩=>by cases hm⟩
 ·obtain ⟨rfl,rfl⟩:=zqs he
  exact ⟨hP.1,fun j c hj=>hP.2 j c hj _,(fun h=>by cases h),fun h=>absurd rfl h⟩
 ·rw [ro_p k e he] at hw;cases hw
theorem yass (w:World):Bld w.heap.size w.heap.size [] (w.alloc (.cells #[.pointer none,.slice none 0 0] TB (0,0))) :=
 Or.inl ⟨Nat.le_refl _,.slice none 0 0,zbs _ _,⟨rfl,.inl ⟨rfl,rfl⟩⟩,by simp [Value.ownBlock]⟩
theorem zor {w w':World} (h:Below w.heap.size w w'):w.grownBy w' none:=⟨h.os,h.tape,h.output,h.size,fun k hk _=>h.block k hk⟩
theorem yaac {b:Nat} {p:Value} {l:List Value} {w w':World} {B:Nat} (h:BuilderAtF TB T8 B b p l w) (hb:Below w.heap.size w w'):BuilderAtF TB T8 B b p l w':=by
 have hlt:=h.lt
 obtain ⟨hB,v,hk,hown,hne⟩:=h
 exact ⟨hB,v,(hb.block b hlt).trans hk,hown.kept (zor hb) (by cases hv:v.ownBlock <;> simp),hne⟩
theorem zvu {b:Nat} {l:List UInt8} {w w':World} {B:Nat} (h:Bld B b l w) (hb:Below w.heap.size w w'):Bld B b l w' :=
 h.imp (fun h=>yaac h hb) fun h=>yaac h hb
abbrev T36:TypeId:=84
structure Sh (B bn:Nat) (A:Array Value) (w1:World) (l:List UInt8) (w:World):Prop where
 bld:Bld B B l w
 nm:w.heap[bn]?=some (.cells A T36 (0,0))
 bel:Below B w1 w
 ne:bn≠B
 le:B≤w.heap.size
theorem Sh.below {B bn:Nat} {A:Array Value} {w1 w w':World} {l:List UInt8} (h:Sh B bn A w1 l w) (hb:Below w.heap.size w w'):Sh B bn A w1 l w' :=
 ⟨zvu h.bld hb,(hb.block bn (Array.getElem?_eq_some_iff.1 h.nm).1).trans h.nm,h.bel.trans (hb.mono h.le),h.ne,Nat.le_trans h.le hb.size⟩
theorem Sh.lt {B bn:Nat} {A:Array Value} {w1 w:World} {l:List UInt8} (h:Sh B bn A w1 l w):B<w.heap.size:=by
 rcases h.bld with h | h <;> exact h.lt
theorem yah7 (k:Nat):(nmL k).length≤5:=by
 by_cases h:k<15
 ·have:∀ k,k<15→(nmL k).length≤5:=by decide
  exact this k h
 ·have:nmL k=[]:=by unfold nmL;rw [List.getD_eq_getElem?_getD,List.getElem?_eq_none (by show oNames.length≤k;have:oNames.length=15:=rfl;omega)];rfl
  rw [this];simp
theorem Sh.wrote {B bn:Nat} {A:Array Value} {w1 w w':World} {l l':List UInt8} (h:Sh B bn A w1 l w) (h1:Bld B B l' w') (h2:Below B w w') (h3:Aside B w w'):Sh B bn A w1 l' w' :=
 ⟨h1,h3 _ _ h.nm (by simpa using h.ne) (fun _ _ e=>by cases e),h.bel.trans h2,h.ne,Nat.le_trans h.le h2.size⟩
theorem yak4 {op p:Int} (h:p∈plcs op):plc p:=by
 unfold plcs at h
 repeat' split at h
 all_goals (simp at h;try (unfold plc;omega))
theorem zhd (op:Int):(plcs op).length≤4:=by
 unfold plcs
 repeat' split
 all_goals decide
theorem zq4 {i:Ins} (h:Fld i) (p:Int):(za7 i p).length≤22:=by
 have h1:=Lib.itoa_length_le i.d (by have:=h.d;omega) (by have:=h.d;omega)
 have h2:=Lib.itoa_length_le i.s (by have:=h.s;omega) (by have:=h.s;omega)
 have h3:=Lib.itoa_length_le i.of (by have:=h.f;omega) (by have:=h.f;omega)
 have h4:(decDigits i.im.toNat).length≤20:=by rw [decDigits_length];exact nDigits_le20 _ (by have:=i.im.isLt;omega)
 unfold za7
 repeat' split
 all_goals (try simp only [List.length_cons]);omega
theorem zod {i:Ins} (h:Fld i):∀ ps:List Int,(zed i ps).length≤23*ps.length
 | []=>by simp [zed]
 | p::ps=>by
  have h1:=zq4 h p
  have h2:=zod h ps
  have e:(zed i (p::ps)).length=(za7 i p).length+1+(zed i ps).length:=by simp [zed,List.flatMap_cons];omega
  rw [e,List.length_cons];omega
theorem zpa {i:Ins} (h:Fld i):(zgj i).length≤98:=by
 have h1:=yah7 (i.op - 1).toNat
 have h2:=zod h (plcs i.op)
 have h3:=zhd i.op
 simp only [zgj,List.length_append,List.length_cons,List.length_nil];omega
theorem zg6:∀ {L:List Ins},(∀ i∈L,Fld i)→(shown L).length≤98*L.length
 | [],_=>by simp [shown]
 | i::L,h=>by
  have h1:=zpa (h i (by simp))
  have h2:=zg6 (L:=L) fun x hx=>h x (by simp [hx])
  have e:(shown (i::L)).length=(zgj i).length+(shown L).length:=by simp [shown,List.flatMap_cons]
  rw [e,List.length_cons];omega
theorem yamv (ps:List Int) (m:Nat) (h:ps.length≤4):(ps.take m).length≤4:=by rw [List.length_take];omega
theorem yaf3 {L:List Ins} {j t:Nat} {i:Ins} (h:L[j]?=some i) (ht:t<5):(pcell L)[j*5+t]?=i.cs[t]?:=by
 have hj:j<L.length:=(List.getElem?_eq_some_iff.1 h).1
 have hl:=zat L
 rw [List.getElem?_eq_getElem (by omega),List.getElem?_eq_getElem (show t<i.cs.length from ht)]
 have h1:=zub hj ht (.b false)
 rw [List.getD_eq_getElem?_getD,List.getElem?_eq_getElem (by omega),List.getD_eq_getElem?_getD (l:=L),h,Option.getD_some,Option.getD_some,List.getD_eq_getElem?_getD,List.getElem?_eq_getElem (show t<i.cs.length from ht)] at h1
 simpa using h1
theorem znf {α:Type} {l:List α} {n:Nat} {x:α} (h:l[n]?=some x):l.take (n+1)=l.take n++[x]:=by
 rw [List.take_add_one,h];rfl
abbrev icells (i:Ins):Array Value:=#[.int .i64 i.op,.int .i64 i.d,.int .i64 i.s,.int .u64 (nv i.im),.int .i64 i.of]
set_option maxHeartbeats 1000000 in
set_option maxRecDepth 100000 in
theorem zkb {L:List Ins} {w:World} {b o c:Nat} (hP:PAt w b o L) (hg:Gw w) (hL:L.length≤64) (he:zan L=0) (hF:∀ i∈L,Fld i) :
  Calls Tryz.prog 18 #[.slice (some ⟨b,o,none⟩) L.length c] w fun e w'=>e=.returned (.tuple #[.string ⟨(shown L).toArray⟩,.int .i64 0])∧Below w.heap.size w w':=by
 have hck:=zof (c:=c) (A:=#[.slice (some ⟨b,o,none⟩) L.length c]) hP rfl (fun _=>rfl) (zi0 L c) hg
 rw [he] at hck
 obtain ⟨A,hA,hA1,hA2⟩:∃ A,A=zgk (fun _=>false)∧A.size=16∧A.all (·.oneCell')=true:=⟨_,rfl,zr4 _,by kernel_rfl⟩
 have hnb:∀ w,Calls Tryz.prog 45 #[] w fun e w'=>e=.returned (.agg A)∧Below w.heap.size w w':=fun w=>by rw [hA];exact zvs w
 have hnm:∀ i:Ins,Fld i→A[i.op.toNat]?=some (.string ⟨(nmL (i.op - 1).toNat).toArray⟩):=fun i hi=>by
  rw [hA,yazy _ _ (by have:=hi.o2;omega)]
  obtain ⟨k,hk⟩:∃ k:Nat,i.op=(k:Int)+1:=⟨(i.op - 1).toNat,by have:=hi.o1;omega⟩
  rw [hk,show ((k:Int)+1).toNat=k+1 by omega,show ((k:Int)+1 - 1).toNat=k by omega]
  rfl
 have HNM:=Lib.hid hnm
 clear hA hnm
 go_enter Tryz.func18,Tryz.ntmps18
 go_wp2_with (first
  | (go_at_call 19;refine hck.mono ?_;rintro e w1 ⟨rfl,hb1⟩)
  | (go_at_call 45;refine (hnb _).mono ?_;rintro e w2 ⟨rfl,hb2⟩)
  | (refine wpList_store_row rfl T36 _ _ rfl w2.heap.size A rfl rfl T36 (Array.replicate 16 (.string ⟨#[]⟩)) (zbs _ _) (by rw [hA1];exact yaca) (by simp [hA1]) hA2 ?_)
  | go_in)
 have hsz:w.heap.size≤w1.heap.size:=hb1.size
 have hB2:Below w1.heap.size w1 w2:=zap hb2
 have hg1:Gw w1:=hg.below hb1 hg.size'
 have h0:Sh w1.heap.size w2.heap.size A w1 [] ((w2.alloc (.cells (Array.replicate 16 (.string ⟨#[]⟩)) T36 (0,0))).setRow w2.heap.size A):=by
  have hlt:w1.heap.size<w2.heap.size:=Nat.lt_of_lt_of_le (by simp) hb2.size
  refine ⟨zvu (yass w1) (ze5 (hb2.trans ((za2 w2 _).mono hb2.size)) hb2.size A),setRow_heap _ _ _ _ _ _ (zbs _ _),ze5 (hB2.trans ((za2 w2 _).mono hB2.size)) hB2.size A,by omega,?_⟩
  simp;omega
 have hcell:∀ wr j i,Below w1.heap.size w1 wr→L[j]?=some i→∀ t v,(icells i)[t]?=some v→wr.cell? ⟨b,o+j*5+t,none⟩=some v:=by
  intro wr j i hbel hi t v ht
  have ht5:t<5:=by
   have:=(Array.getElem?_eq_some_iff.1 ht).1
   simpa using this
  rw [hbel.cell (p:=⟨b,o+j*5+t,none⟩) (Nat.lt_of_lt_of_le hP.1 hsz),hb1.cell (p:=⟨b,o+j*5+t,none⟩) hP.1,Nat.add_assoc]
  obtain ⟨y,hy⟩:∃ y,i.cs[t]?=some y:=⟨_,List.getElem?_eq_getElem (show t<i.cs.length from ht5)⟩
  rw [hP.2 _ y ((yaf3 hi ht5).trans hy) (fun _=>(0,0,0))]
  rw [← ht]
  match t,ht5,hy with
  | 0,_,hy=>simp [Ins.cs] at hy;subst hy;rfl
  | 1,_,hy=>simp [Ins.cs] at hy;subst hy;rfl
  | 2,_,hy=>simp [Ins.cs] at hy;subst hy;rfl
  | 3,_,hy=>simp [Ins.cs] at hy;subst hy;rfl
  | 4,_,hy=>simp [Ins.cs] at hy;subst hy;rfl
 have HC:=Lib.hid hcell
 have HP:=Lib.hid hP
 have HF:=Lib.hid hF
 clear hcell hck hP hF
 generalize hB:w1.heap.size=B at *
 generalize hbn:w2.heap.size=bn at *
 go_loopw [19] (fun v wr=>∃ j:Nat,j≤L.length∧v=.int .i64 j∧Sh B bn A w1 (shown (L.take j)) wr) (fun v _=>L.length - (RowKit.intOf v).toNat)
 case atStart=>exact ⟨0,by omega,rfl,h0⟩
 case round =>
  obtain ⟨j,hj,rfl,hsh⟩:=hrel
  by_cases hjl:j<L.length
  ·obtain ⟨wo,rfl⟩:∃ x,x=wr:=⟨_,rfl⟩
   obtain ⟨i,hi⟩:∃ i,L[j]?=some i:=⟨L[j],by simp [hjl]⟩
   have hfi:Fld i:=HF.out i (List.mem_of_getElem? hi)
   have q0:wo.cell? ⟨b,o+j*5,none⟩=some (.int .i64 i.op):=HC.out wo j i hsh.bel hi 0 _ rfl
   have q1:wo.cell? ⟨b,o+j*5+1,none⟩=some (.int .i64 i.d):=HC.out wo j i hsh.bel hi 1 _ rfl
   have q2:wo.cell? ⟨b,o+j*5+2,none⟩=some (.int .i64 i.s):=HC.out wo j i hsh.bel hi 2 _ rfl
   have q3:wo.cell? ⟨b,o+j*5+3,none⟩=some (.int .u64 (nv i.im)):=HC.out wo j i hsh.bel hi 3 _ rfl
   have q4:wo.cell? ⟨b,o+j*5+4,none⟩=some (.int .i64 i.of):=HC.out wo j i hsh.bel hi 4 _ rfl
   have hnml:=cell_of_row wo bn i.op.toNat _ _ _ hsh.nm
   rw [HNM.out i hfi] at hnml
   have hbn2:bn<wo.heap.size:=(Array.getElem?_eq_some_iff.1 hsh.nm).1
   have hb2':b<wo.heap.size:=by have h1:=HP.out.1;have h2:=hsh.lt;omega
   have ho1:=hfi.o1
   have ho2:=hfi.o2
   obtain ⟨op,hop⟩:∃ k:Nat,i.op=(k:Int):=⟨i.op.toNat,by omega⟩
   rw [hop] at q0 ho1 ho2
   rw [hop,Int.toNat_natCast] at hnml
   have hl0:(shown (L.take j)).length≤6400:=by have h1:=zg6 (L:=L.take j) (fun x hx=>HF.out x (List.mem_of_mem_take hx));rw [List.length_take] at h1;omega
   have hnl:=yah7 (op - 1)
   have hBl:=hsh.lt
   have hsh1:∀ ob,Sh B bn A w1 (shown (L.take j)) (wo.alloc ob):=fun ob=>hsh.below (za2 _ _)
   have HS1:=Lib.hid hsh1
   have HG:=Lib.hid hg1
   clear hsh1 hg1
   go_wp2_with (first
    | (go_at_call 46;refine (zh4 (HS1.out _).bld _ (by simp only [ByteArray.size,List.size_toArray];omega) (HS1.out _).le).mono ?_;rintro e w4 ⟨rfl,hb4,hbl4,ha4⟩;have hsh4:=(HS1.out _).wrote hb4 hbl4 ha4;have hi4:=ha4 _ _ (zbs _ _) (by simp;omega) (fun _ _ e=>by cases e);have c4:=cell_of_row w4 wo.heap.size 0 _ _ _ hi4;have hlt4:=(Array.getElem?_eq_some_iff.1 hi4).1;clear ha4 hb4 hbl4)
    | (go_at_call 47;refine (zf8 _ _).mono ?_;rintro e w5 ⟨a,rfl,hpl,hb5⟩)
    | go_in)
   have hsh5:=hsh4.below hb5
   have hi5:=(hb5.block _ hlt4).trans hi4
   generalize hgg:w4.heap.size=g at *
   generalize hgi:wo.heap.size=gi at *
   clear hi4 c4 hsh4 q0 q1 q2 q3 q4 hnml
   go_loopw [32] (fun v wr=>∃ m:Nat,m≤(plcs (op:Int)).length∧v=.int .i64 m∧Sh B bn A w1 (shown (L.take j)++nmL (op - 1)++zed i ((plcs (op:Int)).take m)) wr∧PlAt (op:Int) a g wr∧wr.heap[gi]?=some (.cells #[.int .i64 (op:Int),.int .i64 i.d,.int .i64 i.s,.int .u64 (nv i.im),.int .i64 i.of] 55 (0,0))) (fun v _=>(plcs (op:Int)).length - (RowKit.intOf v).toNat)
   case atStart=>exact ⟨0,by omega,rfl,by simpa [zed] using hsh5,hpl,hi5⟩
   case round =>
    obtain ⟨m,hm,rfl,hshr,hplr,hir⟩:=hrel
    have hl1:(shown (L.take j)++nmL (op - 1)++zed i ((plcs (op:Int)).take m)).length≤7000:=by have h1:=zod hfi ((plcs (op:Int)).take m);have h2:=yamv (plcs (op:Int)) m (zhd _);simp only [List.length_append];omega
    have hp4:=zhd (op:Int)
    by_cases hml:m<(plcs (op:Int)).length
    ·obtain ⟨p,hp⟩:∃ p,(plcs (op:Int))[m]?=some p:=⟨(plcs (op:Int))[m],by simp [hml]⟩
     obtain ⟨rfl,hgr⟩:=hplr (by intro e;rw [e] at hml;simp at hml)
     have hcp:wr.cell? ⟨g,m,none⟩=some (.int .i64 p):=by rw [cell_of_row wr g m _ _ _ hgr];simp [hp]
     have hpp:plc p:=yak4 (List.mem_of_getElem? hp)
     have hwl:=zq4 hfi p
     obtain ⟨W,hW⟩:∃ W,W=za7 i p:=⟨_,rfl⟩
     have hwa:∀ w,Gw w→Calls Tryz.prog 49 #[.int .i64 p,.agg #[.int .i64 (op:Int),.int .i64 i.d,.int .i64 i.s,.int .u64 (nv i.im),.int .i64 i.of]] w fun e w'=>e=.returned (.string ⟨W.toArray⟩)∧Below w.heap.size w w':=fun w hw=>by
      rw [hW,← hop];exact zis (fun _=>(0,0,0)) rfl (fun _=>rfl) (yaix hpp (by have:=hfi.d;omega) (by have:=hfi.s;omega) (by have:=hfi.f;omega)) w hw
     rw [← hW] at hwl
     have HW:=Lib.hid hW
     have HM:=Lib.hid hml
     have hgB:∀ w',Below B w1 w'→Gw w':=fun w' h=>HG.out.below h (by have:=HG.out.size';omega)
     have HGB:=Lib.hid hgB
     clear hW hgB
     clear hpl h0 hb5 hi5 hsh5
     go_wp2_with (first
      | (go_at_call 48;refine (zkt hshr.bld 32 (by omega) hshr.le).mono ?_;rintro e w6 ⟨rfl,hb6,hbl6,ha6⟩;have hsh6:=hshr.wrote hb6 hbl6 ha6;have hi6:=ha6 _ _ hir (by simp;omega) (fun _ _ e=>by cases e);have hg6:=ha6 _ _ hgr (by simp;omega) (fun _ _ e=>by cases e);have d0:=cell_of_row w6 gi 0 _ _ _ hi6;have d1:=cell_of_row w6 gi 1 _ _ _ hi6;have d2:=cell_of_row w6 gi 2 _ _ _ hi6;have d3:=cell_of_row w6 gi 3 _ _ _ hi6;have d4:=cell_of_row w6 gi 4 _ _ _ hi6;have HG6:=Lib.hid (HGB.out _ hsh6.bel);clear hb6 hbl6 ha6)
      | (go_at_call 49;refine (hwa _ HG6.out).mono ?_;rintro e w7 ⟨rfl,hb7⟩;have hsh7:=hsh6.below hb7)
      | (go_at_call 46;refine (zh4 hsh7.bld _ (by simp only [ByteArray.size,List.size_toArray,List.length_append,List.length_cons,List.length_nil] at hl1 ⊢;omega) hsh7.le).mono ?_;rintro e w8 ⟨rfl,hb8,hbl8,ha8⟩)
      | go_in)
     have hlt7:gi<w6.heap.size:=(Array.getElem?_eq_some_iff.1 hi6).1
     have hlt8:g<w6.heap.size:=(Array.getElem?_eq_some_iff.1 hg6).1
     have hsh8:=hsh7.wrote hb8 hbl8 ha8
     have hi8:=ha8 _ _ ((hb7.block _ hlt7).trans hi6) (by simp;omega) (fun _ _ e=>by cases e)
     have hg8:=ha8 _ _ ((hb7.block _ hlt8).trans hg6) (by simp;omega) (fun _ _ e=>by cases e)
     have et:shown (L.take j)++nmL (op - 1)++zed i ((plcs (op:Int)).take m)++[32]++W=shown (L.take j)++nmL (op - 1)++zed i ((plcs (op:Int)).take (m+1)):=by
      rw [HW.out,znf hp,zed,zed,List.flatMap_append]
      simp
     go_roundw
     case rel=>exact ⟨m+1,HM.out,by go_num,by rw [← et];exact hsh8,fun _=>⟨rfl,hg8⟩,hi8⟩
     case measure=>have:=HM.out;simp [RowKit.intOf];omega
    ·obtain rfl:m=(plcs (op:Int)).length:=by omega
     rw [List.take_length] at hshr hl1
     clear hpl h0 hb5 hi5 hsh5
     go_wp2_with (first
      | (go_at_call 48;refine (zkt hshr.bld 10 (by omega) hshr.le).mono ?_;rintro e w6 ⟨rfl,hb6,hbl6,ha6⟩)
      | go_in)
     have et:shown (L.take j)++nmL (op - 1)++zed i (plcs (op:Int))++[10]=shown (L.take (j+1)):=by
      rw [znf hi,shown,shown,List.flatMap_append]
      simp [zgj,hop]
     go_roundw
     case rel=>exact ⟨j+1,by omega,by go_num,by rw [← et];exact hshr.wrote hb6 hbl6 ha6⟩
     case measure=>simp [RowKit.intOf];omega
  ·obtain rfl:j=L.length:=by omega
   have hbld:=hsh.bld
   rw [List.take_length] at hbld
   have hle:=hsh.le
   go_wp2_with (go_at_call 50;refine (Tryz.Builder_String_any_k B B (shown L) _ hbld hle).mono ?_;rintro e w9 ⟨rfl,hb9,hbl9,ha9⟩)
   go_ret2
   exact ⟨rfl,hb1.trans ((hsh.bel.trans hbl9).mono hsz)⟩
end Go.Proofs.YtkigmocchaikgabGreatDoor
namespace Go.Proofs.YtkigmocchaikgabGreatDoor
open Go.Shelf Go.RowKit Go.Sort Go.Lib Go.Maps
def zf3 (s:ByteArray) (c:UInt8):List ByteArray:=splitB ⟨#[c]⟩ 0 (countB s ⟨#[c]⟩) s
def zee (i:Ins):List Int→List ByteArray→Option Ins
 | p::ps,x::xs=>match setW i p x with | some i'=>zee i' ps xs | none=>none
 | _,_=>some i
def zr0 (ws:List ByteArray):Option Ins :=
 match zj8 (ws.headD ⟨#[]⟩).data.toList with
 | none=>none
 | some k=>if ws.length=1+(plcs ((k:Int)+1)).length then zee ⟨(k:Int)+1,0,0,0,0⟩ (plcs ((k:Int)+1)) ws.tail else none
def zmu (s:ByteArray):Option Ins:=zr0 (zf3 s 32)
theorem zl0 (s:ByteArray) (c:UInt8):(zf3 s c).length=countB s ⟨#[c]⟩+1:=splitB_all _ (by show 1≤(#[c]:Array UInt8).size;simp) 0 _ s rfl
theorem zj9 (sep:ByteArray):∀ (k:Nat) (s:ByteArray),∀ x∈splitB sep 0 k s,x.size≤s.size
 | 0,s,x,hx=>by simp [splitB] at hx;subst hx;exact Nat.le_refl _
 | k+1,s,x,hx=>by
  unfold splitB at hx
  split at hx
  ·simp at hx;subst hx;exact Nat.le_refl _
  ·rw [List.mem_cons] at hx
   rcases hx with rfl | hx
   ·rw [ByteArray.size_extract];omega
   ·have:=zj9 sep k _ x hx
    rw [ByteArray.size_extract] at this;omega
theorem zht {α:Type} {l:List α} {n:Nat} {x:α} (h:l[n]?=some x):l.drop n=x::l.drop (n+1):=by
 obtain ⟨hlt,rfl⟩:=List.getElem?_eq_some_iff.1 h
 exact List.drop_eq_getElem_cons hlt
abbrev set5 (w:World) (g:Nat) (i:Ins):World:=((((w.setCell ⟨g,0,none⟩ (.int .i64 i.op)).setCell ⟨g,1,none⟩ (.int .i64 i.d)).setCell ⟨g,2,none⟩ (.int .i64 i.s)).setCell ⟨g,3,none⟩ (.int .u64 (nv i.im))).setCell ⟨g,4,none⟩ (.int .i64 i.of)
theorem yaed (w:World) (g:Nat) (i:Ins) (X:Nat) (h:X≠g):(set5 w g i).heap[X]?=w.heap[X]?:=by
 rw [heap_setCell_other _ _ _ _ h,heap_setCell_other _ _ _ _ h,heap_setCell_other _ _ _ _ h,heap_setCell_other _ _ _ _ h,heap_setCell_other _ _ _ _ h]
theorem yadu {B:Nat} {w w':World} (h:Below B w w') {g:Nat} (hg:B≤g) (i:Ins):Below B w (set5 w' g i) :=
 ((((h.setCell hg _).setCell hg _).setCell hg _).setCell hg _).setCell hg _
theorem yalo (w:World) (g:Nat) (i:Ins) (cs:Array Value) {t:TypeId} (h:w.heap[g]?=some (.cells cs t (0,0))) (hc:cs.size=5):(set5 w g i).heap[g]?=some (.cells (icells i) t (0,0)):=by
 rw [heap_setCell_same _ _ _ _ _ _ (heap_setCell_same _ _ _ _ _ _ (heap_setCell_same _ _ _ _ _ _ (heap_setCell_same _ _ _ _ _ _ (heap_setCell_same _ _ _ _ _ _ h))))]
 obtain ⟨l⟩:=cs
 match l,hc with
 | [a,b,c,d,e],_=>rfl
theorem yadn (i:Ins):(icells i).all (·.oneCell')=true:=by
 simp [Value.oneCell']
theorem yau2:(Tryz.prog.info? 55).map (·.size)=some 5:=by kernel_rfl
abbrev T40:TypeId:=55
set_option maxHeartbeats 1000000 in
set_option maxRecDepth 100000 in
theorem zfv {s:ByteArray} (hs:s.size≤4096) {w:World} {bm:Nat} (hm:yas4 w bm opsD) (hg:Gw w):Calls Tryz.prog 44 #[.map (some bm),.string s] w (Done w ((zmu s).map Ins.v)):=by
 obtain ⟨mm,hmm⟩:=hg.most
 have hg4:∀ ob,(w.alloc ob).cell? ⟨1,0,none⟩=some (.int .i64 mm):=fun ob=>by rw [(za2 w ob).cell (p:=⟨1,0,none⟩) (Nat.lt_of_lt_of_le (by show 1<8;omega) hg.size')];exact hmm
 obtain ⟨ws,hws⟩:∃ ws,ws=zf3 s 32:=⟨_,rfl⟩
 have hwl:=zl0 s 32
 rw [← hws] at hwl
 have hsp:∀ W:World,W.cell? ⟨1,0,none⟩=some (.int .i64 mm)→Calls Tryz.prog 42 #[.string s,.string ⟨#[32]⟩] W fun e w'=>e=.returned (.slice (some ⟨W.heap.size,0,none⟩) ws.length ws.length)∧w'=W.alloc (.cells (ws.map Value.string).toArray 9 (0,0)):=fun W hW=>by
  have:=Tryz.strings_Split s ⟨#[32]⟩ mm W (by omega) hW (by show 1≤(#[32]:Array UInt8).size;simp)
  rw [hwl,hws];exact this
 have hw4:∀ x∈ws,x.size≤4096:=fun x hx=>by rw [hws] at hx;exact Nat.le_trans (zj9 _ _ _ x hx) hs
 have hrd:zmu s=zr0 ws:=by rw [hws];rfl
 rw [hrd]
 clear hrd hws
 obtain ⟨x0,wt,rfl⟩:∃ x0 wt,ws=x0::wt:=by cases ws with | nil=>simp at hwl | cons a b=>exact ⟨_,_,rfl⟩
 have hx0:x0.size≤4096:=hw4 x0 (by simp)
 have HWL:=Lib.hid hwl
 have HW4:=Lib.hid hw4
 clear hwl hw4
 obtain ⟨ob,hob⟩:∃ ob,ob=Obj.cells #[.int .i64 0,.int .i64 0,.int .i64 0,.int .u64 0,.int .i64 0] T40 (0,0):=⟨_,rfl⟩
 unfold zr0
 simp only [List.headD_cons,List.tail_cons]
 cases hf:zj8 x0.data.toList with
 | none =>
  go_enter Tryz.func44,Tryz.ntmps44
  go_wp2_with (first
   | (go_at_call 42;refine (hsp _ (hg4 _)).mono ?_;rintro e w1 ⟨rfl,rfl⟩)
   | (at_lookup;refine wpList_lookup_own_ok_int _ rfl _ _ 76 rfl 9 3 .i64 law Tryz.underlying76 Tryz.underlying3 (yash _) bm 15 opsD rfl ((hm.alloc _).alloc _) _ _ rfl (Go.WideMaps.keyOf_string_mk Tryz.underlying9 (by unfold maxLen;omega)) ?_;intro c hc hcw;rw [yabt,hf] at hc;rw [zsx,hf])
   | (go_at_call 47;refine (zf8 _ _).mono ?_;rintro e w2 ⟨a,rfl,hpl,hb2⟩)
   | (go_at_call 90;refine (zic _).mono ?_;rintro e w3 ⟨rfl,rfl⟩)
   | go_in)
  exact ⟨rfl,rfl,zap (zap hb2)⟩
 | some k =>
  obtain ⟨hk,hxk⟩:=zhv hf
  simp only
  by_cases hn:(x0::wt).length=1+(plcs ((k:Int)+1)).length
  ·rw [if_pos hn]
   have hne:((wt.length:Int)+1==1+((plcs ((k:Int)+1)).length:Int))=true:=beq_iff_eq.2 (by simp only [List.length_cons] at hn;omega)
   have hwn:wt.length=(plcs ((k:Int)+1)).length:=by simp only [List.length_cons] at hn;omega
   have HF:=Lib.hid hf
   have HNE:=Lib.hid hne
   have HX:=Lib.hid hxk
   have HWN:=Lib.hid hwn
   clear hne hf hxk hn hob hwn
   have hp4:=zhd ((k:Int)+1)
   go_enter Tryz.func44,Tryz.ntmps44
   go_wp2_with (first
    | (go_at_call 42;refine (hsp _ (hg4 _)).mono ?_;rintro e w1 ⟨rfl,rfl⟩)
    | (at_lookup;refine wpList_lookup_own_ok_int _ rfl _ _ 76 rfl 9 3 .i64 law Tryz.underlying76 Tryz.underlying3 (yash _) bm 15 opsD rfl ((hm.alloc _).alloc _) _ _ rfl (Go.WideMaps.keyOf_string_mk Tryz.underlying9 (by unfold maxLen;omega)) ?_;intro c hc hcw;rw [yabt,HF.out] at hc;rw [zsx,HF.out];obtain rfl:c=(k:Int)+1:=by (simp at hc;exact hc.symm))
    | (go_at_call 47;refine (zf8 _ _).mono ?_;rintro e w2 ⟨a,rfl,hpl,hb2⟩)
    | (go_at_call 90;rw [HNE.out];refine (zji _).mono ?_;rintro e w3 ⟨rfl,rfl⟩)
    | go_in)
   obtain ⟨R,hR⟩:∃ R,R=zee ⟨(k:Int)+1,0,0,0,0⟩ (plcs ((k:Int)+1)) wt:=⟨_,rfl⟩
   rw [← hR]
   have hgs:w.heap.size+1<w3.heap.size:=by have:=hb2.size;rw [yaol] at this;omega
   have hz:(w3.alloc (.cells (icells ⟨(k:Int)+1,0,0,0,0⟩) T40 (0,0))).heap[w.heap.size]?=some (.cells (icells ⟨0,0,0,0,0⟩) T40 (0,0)):=by
    rw [Below.heap_alloc _ _ _ (by omega),hb2.block _ (by simp;omega),Below.heap_alloc _ _ _ (by simp),zbs];rfl
   have hwd:(w3.alloc (.cells (icells ⟨(k:Int)+1,0,0,0,0⟩) T40 (0,0))).heap[w.heap.size+1]?=some (.cells ((x0::wt).map Value.string).toArray 9 (0,0)):=by
    rw [Below.heap_alloc _ _ _ hgs,hb2.block _ (by simp)]
    have e:=zbs (w.alloc (.cells (icells ⟨0,0,0,0,0⟩) T40 (0,0))) (.cells ((x0::wt).map Value.string).toArray 9 (0,0))
    rw [show (w.alloc (.cells (icells ⟨0,0,0,0,0⟩) T40 (0,0))).heap.size=w.heap.size+1 by simp] at e
    exact e
   have hpl2:PlAt ((k:Int)+1) a (w.heap.size+1+1) (w3.alloc (.cells (icells ⟨(k:Int)+1,0,0,0,0⟩) T40 (0,0))):=fun h=>by
    rw [yaol] at hpl
    obtain ⟨h1,h2⟩:=hpl h
    exact ⟨h1,by rw [Below.heap_alloc _ _ _ (Array.getElem?_eq_some_iff.1 h2).1];exact h2⟩
   have hbel2:Below w.heap.size w (w3.alloc (.cells (icells ⟨(k:Int)+1,0,0,0,0⟩) T40 (0,0))):=by
    have h3:=zap (zap hb2)
    exact h3.trans ((za2 w3 _).mono h3.size)
   have HG:=Lib.hid hg
   have HR:=Lib.hid hR
   clear hpl hb2 hsp hg4 hmm hg hR hm
   generalize hgi:w3.heap.size=gi at *
   go_loopw [38] (fun v wr=>∃ (n:Nat) (i:Ins),n≤(plcs ((k:Int)+1)).length∧v=.int .i64 n∧R=zee i ((plcs ((k:Int)+1)).drop n) (wt.drop n)∧wr.heap[gi]?=some (.cells (icells i) T40 (0,0))∧PlAt ((k:Int)+1) a (w.heap.size+1+1) wr∧wr.heap[w.heap.size+1]?=some (.cells ((x0::wt).map Value.string).toArray 9 (0,0))∧wr.heap[w.heap.size]?=some (.cells (icells ⟨0,0,0,0,0⟩) T40 (0,0))∧Below w.heap.size w wr) (fun v _=>(plcs ((k:Int)+1)).length - (RowKit.intOf v).toNat)
   case atStart=>exact ⟨0,_,by omega,rfl,HR.out,by rw [← hgi];exact zbs _ _,hpl2,hwd,hz,hbel2⟩
   case round =>
    obtain ⟨n,i,hnl,rfl,hR2,hir,hplr,hwr,hzr,hbr⟩:=hrel
    have HR2:=Lib.hid hR2
    have HZ:=Lib.hid hzr
    have HB:=Lib.hid hbr
    have HWd:=Lib.hid hwr
    have q0:wr.cell? ⟨gi,0,none⟩=some (.int .i64 i.op):=cell_of_row wr gi 0 _ _ _ hir
    have q1:wr.cell? ⟨gi,1,none⟩=some (.int .i64 i.d):=cell_of_row wr gi 1 _ _ _ hir
    have q2:wr.cell? ⟨gi,2,none⟩=some (.int .i64 i.s):=cell_of_row wr gi 2 _ _ _ hir
    have q3:wr.cell? ⟨gi,3,none⟩=some (.int .u64 (nv i.im)):=cell_of_row wr gi 3 _ _ _ hir
    have q4:wr.cell? ⟨gi,4,none⟩=some (.int .i64 i.of):=cell_of_row wr gi 4 _ _ _ hir
    clear hR2 hzr hbr hwr
    by_cases hlt:n<(plcs ((k:Int)+1)).length
    ·obtain ⟨p,hp⟩:∃ p,(plcs ((k:Int)+1))[n]?=some p:=⟨(plcs ((k:Int)+1))[n],by simp [hlt]⟩
     obtain ⟨x,hx⟩:∃ x,wt[n]?=some x:=⟨wt[n]'(by rw [HWN.out];exact hlt),by simp [HWN.out,hlt]⟩
     obtain ⟨rfl,hgr⟩:=hplr (by intro e;rw [e] at hlt;simp at hlt)
     have hcp:wr.cell? ⟨w.heap.size+1+1,n,none⟩=some (.int .i64 p):=by rw [cell_of_row wr _ n _ _ _ hgr];simp [hp]
     have hcx:wr.cell? ⟨w.heap.size+1,n+1,none⟩=some (.string x):=by rw [cell_of_row wr _ (n+1) _ _ _ HWd.out];simp [hx]
     have hpp:plc p:=yak4 (List.mem_of_getElem? hp)
     have hxs:x.size≤4096:=HW4.out x (by simp [List.mem_of_getElem? hx])
     have hwwl:n<wt.length:=by rw [HWN.out];exact hlt
     have Hpp:=Lib.hid hpp
     have Hxs:=Lib.hid hxs
     clear hpp hxs
     have HGw:=Lib.hid (HG.out.below HB.out HG.out.size')
     have HGr:=Lib.hid hgr
     have Hp:=Lib.hid hp
     have Hx:=Lib.hid hx
     have Hir:=Lib.hid hir
     clear hgr hp hx hir
     cases hset:setW i p x with
     | none =>
      have HS:=Lib.hid hset
      have hRn:R=none:=by rw [HR2.out,zht Hp.out,zht Hx.out];simp only [zee,hset]
      clear hset
      subst hRn
      go_wp2
      have hn4:n≤4:=by omega
      have hi0:0≤1+(n:Int):=by omega
      have hi1:(1+(n:Int)).toNat=n+1:=by omega
      have hi2:1+(n:Int)<(wt.length:Int)+1:=by omega
      have hi3:IntKind.i64.wrap (1+(n:Int))=1+(n:Int):=by rw [IntKind.wrap_i64];omega
      clear hcw hc hk hx0 hs hnl hlt hcp hplr hgs hz hwd hpl2 hbel2
      refine wp_region_any (by kernel_rfl) ?_
      change wpAny _ _ _ _ _ _ _ (World.drew _)
      refine wpAny_take (i:=1) (v:=?_) rfl (by kernel_rfl) (by kernel_rfl) (by kernel_rfl) (fun _ _ _ h=>h) (Or.inl ⟨by rfl,?_⟩) ?_
      rotate_left
      ·intro w';go_simp;try with_reducible rfl
      refine wpAny_take (i:=2) (v:=?_) rfl (by kernel_rfl) (by kernel_rfl) (by kernel_rfl) (fun _ _ _ h=>h) (Or.inl ⟨by rfl,?_⟩) ?_
      rotate_left
      ·intro w';go_simp;try with_reducible rfl
      refine wpAny_take (i:=3) (v:=?_) rfl (by kernel_rfl) (by kernel_rfl) (by kernel_rfl) (fun _ _ _ h=>h) (Or.inl ⟨by rfl,?_⟩) ?_
      rotate_left
      ·intro w';go_simp;try with_reducible rfl
      refine wpAny_take (i:=4) (v:=?_) rfl (by kernel_rfl) (by kernel_rfl) (by kernel_rfl) (fun _ _ _ h=>h) (Or.inl ⟨by rfl,?_⟩) ?_
      rotate_left
      ·intro w';go_simp;try with_reducible rfl
      refine wpAny_take (i:=5) (v:=?_) rfl (by kernel_rfl) (by kernel_rfl) (by kernel_rfl) (fun _ _ _ h=>h) (Or.inl ⟨by rfl,?_⟩) ?_
      rotate_left
      ·intro w';go_simp;try with_reducible rfl
      refine wpAny_ready (rs:=[0,6]) (by kernel_rfl) (by simp) (AllReady.cons rfl (fun K hK=>?_) (AllReady.cons rfl (fun K hK=>?_) AllReady.nil))
      ·go_simp
       refine hK _ _ ?_;clear hK K
       refine wpAny_ready (rs:=[6]) (by kernel_rfl) (by simp) (AllReady.cons rfl (fun K hK=>?_) AllReady.nil)
       go_simp
       refine hK _ _ ?_;clear hK K
       refine wpAny_ready (rs:=[7]) (by kernel_rfl) (by simp) (AllReady.cons rfl (fun K hK=>?_) AllReady.nil)
       go_simp
       go_wp2_with (go_at_call 91;refine (zit (i:=i) Hpp.out Hxs.out (by exact HGw.out.keep (Nat.le_refl _) (fun _ _=>rfl))).mono ?_;rw [HS.out];rintro e w5 ⟨rfl,hb5⟩)
       exact ⟨rfl,rfl,HB.out.drew.trans (hb5.mono HB.out.size)⟩
      ·go_simp
       refine hK _ _ ?_;clear hK K
       refine wpAny_ready (rs:=[0]) (by kernel_rfl) (by simp) (AllReady.cons rfl (fun K hK=>?_) AllReady.nil)
       go_simp
       refine hK _ _ ?_;clear hK K
       refine wpAny_ready (rs:=[7]) (by kernel_rfl) (by simp) (AllReady.cons rfl (fun K hK=>?_) AllReady.nil)
       go_simp
       go_wp2_with (go_at_call 91;refine (zit (i:=i) Hpp.out Hxs.out (by exact HGw.out.keep (Nat.le_refl _) (fun _ _=>rfl))).mono ?_;rw [HS.out];rintro e w5 ⟨rfl,hb5⟩)
       exact ⟨rfl,rfl,HB.out.drew.trans (hb5.mono HB.out.size)⟩
     | some i' =>
      have HS:=Lib.hid hset
      have hRn:R=zee i' ((plcs ((k:Int)+1)).drop (n+1)) (wt.drop (n+1)):=by rw [HR2.out,zht Hp.out,zht Hx.out];simp only [zee,hset]
      have HRn:=Lib.hid hRn
      have hgl:gi<wr.heap.size:=(Array.getElem?_eq_some_iff.1 Hir.out).1
      clear hset hRn
      go_wp2
      have hn4:n≤4:=by omega
      have hi0:0≤1+(n:Int):=by omega
      have hi1:(1+(n:Int)).toNat=n+1:=by omega
      have hi2:1+(n:Int)<(wt.length:Int)+1:=by omega
      have hi3:IntKind.i64.wrap (1+(n:Int))=1+(n:Int):=by rw [IntKind.wrap_i64];omega
      have HLT:=Lib.hid hlt
      clear hcw hc hk hx0 hs hnl hlt hcp hplr hz hwd hpl2 hbel2
      go_region_with (go_at_call 91;refine (zit (i:=i) Hpp.out Hxs.out (by exact HGw.out.keep (Nat.le_refl _) (fun _ _=>rfl))).mono ?_;rw [HS.out];rintro e w5 ⟨rfl,hb5⟩;have hi5:=(hb5.block gi hgl).trans Hir.out;have r0:w5.cell? ⟨gi,0,none⟩=some (.int .i64 i.op):=cell_of_row w5 gi 0 _ _ _ hi5;have r1:w5.cell? ⟨gi,1,none⟩=some (.int .i64 i.d):=cell_of_row w5 gi 1 _ _ _ hi5;have r2:w5.cell? ⟨gi,2,none⟩=some (.int .i64 i.s):=cell_of_row w5 gi 2 _ _ _ hi5;have r3:w5.cell? ⟨gi,3,none⟩=some (.int .u64 (nv i.im)):=cell_of_row w5 gi 3 _ _ _ hi5;have r4:w5.cell? ⟨gi,4,none⟩=some (.int .i64 i.of):=cell_of_row w5 gi 4 _ _ _ hi5;have f0:=frozen_of_row w5 gi 0 _ _ hi5;have f1:=frozen_of_row w5 gi 1 _ _ hi5;have f2:=frozen_of_row w5 gi 2 _ _ hi5;have f3:=frozen_of_row w5 gi 3 _ _ hi5;have f4:=frozen_of_row w5 gi 4 _ _ hi5)
      all_goals (
       go_wp2
       have hne:w.heap.size+1+1≠gi:=fun e=>by
        have h1:=HGr.out
        rw [e,Hir.out] at h1
        injection h1 with h1
        injection h1 with _ h2 _
        exact absurd h2 (show ¬ T40=T47 by decide)
       have hk5:∀ X o,X≠gi→wr.heap[X]?=some o→(set5 w5 gi i').heap[X]?=some o:=fun X o hX ho=>by
        rw [yaed w5 gi i' X hX,hb5.block X (Array.getElem?_eq_some_iff.1 ho).1];exact ho
       have hb6:Below w.heap.size w (set5 w5 gi i'):=yadu (HB.out.drew.trans (hb5.mono HB.out.size)) (by omega) i'
       go_roundw
       case rel=>exact ⟨n+1,i',HLT.out,by go_num,HRn.out,yalo w5 gi i' _ hi5 rfl,fun _=>⟨rfl,hk5 _ _ hne HGr.out⟩,hk5 _ _ (by omega) HWd.out,hk5 _ _ (by omega) HZ.out,hb6⟩
       case measure=>have:=HLT.out;simp [RowKit.intOf];omega)
    ·obtain rfl:n=(plcs ((k:Int)+1)).length:=by omega
     have hRi:R=some i:=by rw [HR2.out,List.drop_length];unfold zee;rfl
     have HRi:=Lib.hid hRi
     have Hir:=Lib.hid hir
     clear hRi hir q0 q1 q2 q3 q4 hplr hcw hc hk hx0 hs hz hwd hpl2 hbel2 hgs
     have hB2:=setRow_heap wr w.heap.size _ (icells i) _ _ HZ.out
     have HB2:=Lib.hid hB2
     clear hB2
     go_wp2_with (first
      | (refine wpList_load_row rfl T40 _ rfl gi rfl _ (icells i) _ _ Hir.out Tryz.underlying55 rfl yau2 ?_)
      | (refine wpList_store_row rfl T40 _ _ rfl w.heap.size (icells i) rfl rfl _ _ HZ.out yau2 (by rfl) (yadn i) ?_)
      | go_in)
     refine bodyPost_ret (results_cell_row rfl _ _ w.heap.size _ (icells i) _ _ rfl HB2.out Tryz.underlying55 rfl yau2) rfl ?_
     rw [← HR.out,HRi.out]
     exact ⟨rfl,ze5 HB.out (Nat.le_refl _) _⟩
  ·rw [if_neg hn]
   have hne:((wt.length:Int)+1==1+((plcs ((k:Int)+1)).length:Int))=false:=beq_eq_false_iff_ne.2 (by simp only [List.length_cons] at hn;omega)
   have HF:=Lib.hid hf
   have HNE:=Lib.hid hne
   clear hne
   have HX:=Lib.hid hxk
   clear hf hxk hn hob
   have hp4:=zhd ((k:Int)+1)
   go_enter Tryz.func44,Tryz.ntmps44
   go_wp2_with (first
    | (go_at_call 42;refine (hsp _ (hg4 _)).mono ?_;rintro e w1 ⟨rfl,rfl⟩)
    | (at_lookup;refine wpList_lookup_own_ok_int _ rfl _ _ 76 rfl 9 3 .i64 law Tryz.underlying76 Tryz.underlying3 (yash _) bm 15 opsD rfl ((hm.alloc _).alloc _) _ _ rfl (Go.WideMaps.keyOf_string_mk Tryz.underlying9 (by unfold maxLen;omega)) ?_;intro c hc hcw;rw [yabt,HF.out] at hc;rw [zsx,HF.out];obtain rfl:c=(k:Int)+1:=by (simp at hc;exact hc.symm))
    | (go_at_call 47;refine (zf8 _ _).mono ?_;rintro e w2 ⟨a,rfl,hpl,hb2⟩)
    | (go_at_call 90;rw [HNE.out];refine (zic _).mono ?_;rintro e w3 ⟨rfl,rfl⟩)
    | go_in)
   exact ⟨rfl,rfl,zap (zap hb2)⟩
theorem zma (p q:Nat) (sl bo:Value) (u:TypeId) (pv:Value) (older:List PanicEntry) (w:World) (hp:w.cell? ⟨p,0,none⟩=some sl) (fp:w.frozen? ⟨p,0,none⟩=false) (hq:w.cell? ⟨q,0,none⟩=some bo) (fq:w.frozen? ⟨q,0,none⟩=false) (hpq:q≠p) :
  CallsD Tryz.prog 40 #[.pointer (some ⟨p,0,none⟩),.pointer (some ⟨q,0,none⟩)] (.panicking ({ v:=.iface u pv,recovered:=false }::older)) w fun e u' w' =>
   e=.returned (.tuple #[])∧u'=.panicking ({ v:=.iface u pv,recovered:=true }::older)∧w'=(w.setCell ⟨p,0,none⟩ (.slice none 0 0)).setCell ⟨q,0,none⟩ (.bool false):=by
 have hq2:(w.setCell ⟨p,0,none⟩ (.slice none 0 0)).cell? ⟨q,0,none⟩=some bo:=by rw [World.cell?_of_block (w:=w) (heap_setCell_other _ _ _ _ hpq)];exact hq
 have fq2:(w.setCell ⟨p,0,none⟩ (.slice none 0 0)).frozen? ⟨q,0,none⟩=false:=by rw [World.frozen?_of_block (w:=w) (heap_setCell_other _ _ _ _ hpq)];exact fq
 refine callsD_of_wpS Tryz.func40 rfl fun c₀ cs hu=>?_
 apply wpS_seq
 apply wpS_region
 simp [wpOpsS,go_sem,recoverD,hu,Tryz.ntmps40,Exit.thenS]
 refine wpS_cond (t:=true) (by simp [Act.eval,Array.replicate]) ?_
 simp only [if_true]
 apply wpS_region
 simp [wpOpsS,go_sem,hp,fp,hq2,fq2,bodyPostS,results,Tryz.results40]
theorem yafl (p q:Nat) (w:World) :
  CallsD Tryz.prog 40 #[.pointer (some ⟨p,0,none⟩),.pointer (some ⟨q,0,none⟩)] .returning w fun e u' w'=>e=.returned (.tuple #[])∧u'=.returning∧w'=w:=by
 refine callsD_of_wpS Tryz.func40 rfl fun c₀ cs hu=>?_
 apply wpS_seq
 apply wpS_region
 simp [wpOpsS,go_sem,recoverD,hu,Tryz.ntmps40,Exit.thenS]
 refine wpS_cond (t:=false) (by simp [Act.eval,Array.replicate]) ?_
 simp only [Bool.false_eq_true,if_false]
 refine wpS_of_wp (wp_skip ?_)
 cases c₀
 simp_all [bodyPostS,results,Tryz.results40]
theorem yafn {L:List Ins} {w:World} {b o c:Nat} (hP:PAt w b o L) (hg:Gw w) (he:zan L≠0) :
  Calls Tryz.prog 18 #[.slice (some ⟨b,o,none⟩) L.length c] w fun e w'=>e=.returned (.tuple #[.string ⟨#[]⟩,.int .i64 (zan L)])∧Below w.heap.size w w':=by
 have hck:=zof (c:=c) (A:=#[.slice (some ⟨b,o,none⟩) L.length c]) hP rfl (fun _=>rfl) (zi0 L c) hg
 go_enter Tryz.func18,Tryz.ntmps18
 go_wp2_with (first
  | (go_at_call 19;refine hck.mono ?_;rintro e w1 ⟨rfl,hb1⟩)
  | go_in)
 go_ret2
 exact ⟨rfl,hb1⟩
end Go.Proofs.YtkigmocchaikgabGreatDoor
namespace Go.Proofs.YtkigmocchaikgabGreatDoor
open Go.Shelf Go.RowKit Go.Sort Go.Lib
theorem yavw {i:Ins} {n:Nat} (hn:n≤64) (hk:zcl i=true) (hi:inB i n=true) (hb:zbm i=true):Fld i:=by
 obtain ⟨op,d,s,im,f⟩:=i
 simp only [zcl,Bool.and_eq_true,decide_eq_true_eq] at hk
 simp only [inB,regB,srcB,zci] at hi
 simp only [zbm] at hb
 refine ⟨hk.1,hk.2,?_,?_,?_⟩ <;> simp only
 all_goals
  repeat' split at hi
  all_goals
   repeat' split at hb
   all_goals
    simp only [Bool.and_eq_true,Bool.or_eq_true,decide_eq_true_eq] at hi hb
    omega
theorem zmd:∀ {L:List Ins} {i:Ins},zff L=true→i∈L→∃ n:Nat,n<L.length∧inB i n=true
 | [],_,_,h=>by cases h
 | a::L,i,h,hm=>by
  simp only [zff,Bool.and_eq_true] at h
  rw [List.mem_cons] at hm
  rcases hm with rfl | hm
  ·exact ⟨L.length,by simp,h.1⟩
  ·obtain ⟨n,hn,h2⟩:=zmd h.2 hm
   exact ⟨n,by simp;omega,h2⟩
theorem zg5 {L:List Ins} (h:zan L=0):L.length≤64∧∀ i∈L,Fld i:=by
 unfold zan at h
 split at h
 ·omega
 rename_i h1
 split at h
 ·omega
 rename_i h2
 split at h
 ·omega
 rename_i h3
 split at h
 ·omega
 rename_i h4
 refine ⟨by omega,fun i hi=>?_⟩
 have h2':L.all zcl=true:=by simpa using h2
 have h3':zff L=true:=by simpa using h3
 have h4':L.all zbm=true:=by simpa using h4
 obtain ⟨n,hn,h5⟩:=zmd h3' hi
 exact yavw (by omega) (List.all_eq_true.1 h2' i hi) h5 (List.all_eq_true.1 h4' i hi)
end Go.Proofs.YtkigmocchaikgabGreatDoor
