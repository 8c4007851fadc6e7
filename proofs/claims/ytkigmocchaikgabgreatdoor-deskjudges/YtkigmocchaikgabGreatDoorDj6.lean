import Derived.Test.YtkigmocchaikgabGreatDoorDj5
import Derived.Test.YtkigmocchaikgabGreatDoorProg
/- Ways of bodies, written by a program (ways.py): what each asks for, and hands back. -/
namespace Go.Proofs.YtkigmocchaikgabGreatDoor
open Go.RowKit
section
variable {t u1 u2:ByteArray} {L L2 L3:List Ins} {p q c n:Nat} {tp pp e:Int} {S2:List St} {w:World} {β:Bs}
theorem yayt (c0:Ok 7 [.c (.s t)] (.tu [.c zco,.c (.i 1)])) :
  Ok 4 [.c (.s t)] (.tu [.c (.s (ByteArray.mk #[])),.c (.i 1)]) :=
 zaf [true] ([]) [] Tryz.func4 rfl rfl rfl rfl (by kernel_rfl) rfl (zab c0 zae)
theorem yazh (h:(tp != 0&&(decide (5+ByteArray.size u1≤9223372036854775807)&&(decide (ByteArray.size (ByteArray.mk #[OfNat.ofNat 116,OfNat.ofNat 114,OfNat.ofNat 97,OfNat.ofNat 112,OfNat.ofNat 32]++u1)+1≤9223372036854775807)&&(decide (ByteArray.size (ByteArray.mk #[OfNat.ofNat 116,OfNat.ofNat 114,OfNat.ofNat 97,OfNat.ofNat 112,OfNat.ofNat 32]++u1++ByteArray.mk #[OfNat.ofNat 32])+ByteArray.size u2≤9223372036854775807)&&(decide (ByteArray.size (ByteArray.mk #[OfNat.ofNat 116,OfNat.ofNat 114,OfNat.ofNat 97,OfNat.ofNat 112,OfNat.ofNat 32]++u1++ByteArray.mk #[OfNat.ofNat 32]++u2)+1≤9223372036854775807)&&true)))))=true) (c0:CO 7 [.c (.s t)] [] (Eff.mk (.tu [.c (.sx 3 p),.c (.i 0)]) [] (some (3,Ent.mk false (pcell L) 0)))) (c1:CO 8 [.c (.sx 3 p)] [(3,Ent.mk false (pcell L) 0)] (Eff.mk (.tu [.ag [.i tp,.i pp,.sx 12 q],.c (.i 0)]) [] (some (12,Ent.mk true (scell S2) 31)))) (c2:Ok 9 [.c (.i tp)] (.c (.s u1))) (c3:Ok 9 [.c (.i pp)] (.c (.s u2))) :
  Ok 4 [.c (.s t)] (.tu [.c (.s (ByteArray.mk #[OfNat.ofNat 116,OfNat.ofNat 114,OfNat.ofNat 97,OfNat.ofNat 112,OfNat.ofNat 32]++u1++ByteArray.mk #[OfNat.ofNat 32]++u2++ByteArray.mk #[OfNat.ofNat 10])),.c (.i 0)]) :=
 zaf [false,false,true] ([]) [] Tryz.func4 rfl rfl rfl rfl (by kernel_rfl) h (zab c0 (zab c1 (zab c2 (zab c3 zae))))
theorem yaxh (h:(decide (5+ByteArray.size u1≤9223372036854775807)&&true)=true) (c0:CO 7 [.c (.s t)] [] (Eff.mk (.tu [.c (.sx 3 p),.c (.i 0)]) [] (some (3,Ent.mk false (pcell L) 0)))) (c1:CO 8 [.c (.sx 3 p)] [(3,Ent.mk false (pcell L) 0)] (Eff.mk (.tu [.ag [.i 0,.i 0,.sl 12 0 p p],.c (.i 0)]) [] (some (12,Ent.mk true (scell S2) 0)))) (c2:CO 10 [.c (.sx 3 p)] [(3,Ent.mk false (pcell L) 0)] (pe (.tu [.c (.s u1),.c (.i 0)]))) :
  Ok 4 [.c (.s t)] (.tu [.c (.s (ByteArray.mk #[OfNat.ofNat 115,OfNat.ofNat 97,OfNat.ofNat 102,OfNat.ofNat 101,OfNat.ofNat 10]++u1)),.c (.i 0)]) :=
 zaf [false,false,false,false] ([]) [] Tryz.func4 rfl rfl rfl rfl (by kernel_rfl) h (zab c0 (zab c1 (zab c2 zae)))
theorem yav0 (c0:CO 25 [.c (.sl 0 0 p c)] [(0,Ent.mk false (pcell L) 0)] (Eff.mk (.tu [.c (.sx 4 p),.c (.i 0)]) [] (some (4,Ent.mk true (pcell L2) 0)))) (c1:CO 26 [.c (.sx 4 p)] [(4,Ent.mk true (pcell L2) 0)] (Eff.mk (.tu [.c (.sx 13 p),.c (.i 0)]) [] (some (13,Ent.mk true (pcell L3) 0)))) (c2:CO 18 [.c (.sx 13 p)] [(13,Ent.mk true (pcell L3) 0)] (pe (.tu [.c (.s u1),.c (.i 0)]))) :
  BO 10 Tryz.f10 (cx w β n []) [.c (.sl 0 0 p c)] [(0,Ent.mk false (pcell L) 0)] 1 (REff w β ⟨.tu [.c (.s u1),.c (.i 0)],[],none⟩) :=
 zah [] none [false,false] ([]) [] Tryz.func10 (zau rfl n) (by kernel_rfl) rfl (zab c0 (zab c1 (zab c2 zae)))
theorem yaza (c0:Ok 11 [.c (.s t)] (.tu [.c zco,.c (.b false)])) :
  Ok 5 [.c (.s t)] (.tu [.c (.s (ByteArray.mk #[])),.c (.i 1)]) :=
 zaf [true] ([]) [] Tryz.func5 rfl rfl rfl rfl (by kernel_rfl) rfl (zab c0 zae)
theorem yayb (h:(tp != 0&&(decide (5+ByteArray.size u1≤9223372036854775807)&&(decide (ByteArray.size (ByteArray.mk #[OfNat.ofNat 116,OfNat.ofNat 114,OfNat.ofNat 97,OfNat.ofNat 112,OfNat.ofNat 32]++u1)+1≤9223372036854775807)&&(decide (ByteArray.size (ByteArray.mk #[OfNat.ofNat 116,OfNat.ofNat 114,OfNat.ofNat 97,OfNat.ofNat 112,OfNat.ofNat 32]++u1++ByteArray.mk #[OfNat.ofNat 32])+ByteArray.size u2≤9223372036854775807)&&(decide (ByteArray.size (ByteArray.mk #[OfNat.ofNat 116,OfNat.ofNat 114,OfNat.ofNat 97,OfNat.ofNat 112,OfNat.ofNat 32]++u1++ByteArray.mk #[OfNat.ofNat 32]++u2)+1≤9223372036854775807)&&true)))))=true) (c0:CO 11 [.c (.s t)] [] (Eff.mk (.tu [.c (.sx 3 p),.c (.b true)]) [] (some (3,Ent.mk true (pcell L) 5)))) (c1:CO 12 [.c (.sx 3 p)] [(3,Ent.mk true (pcell L) 5)] (Eff.mk (.ag [.i tp,.i pp,.sl 12 0 q p]) [] (some (12,Ent.mk true (scell S2) 0)))) (c2:Ok 13 [.c (.u (BitVec.ofInt 64 tp))] (.c (.s u1))) (c3:Ok 13 [.c (.u (BitVec.ofInt 64 pp))] (.c (.s u2))) :
  Ok 5 [.c (.s t)] (.tu [.c (.s (ByteArray.mk #[OfNat.ofNat 116,OfNat.ofNat 114,OfNat.ofNat 97,OfNat.ofNat 112,OfNat.ofNat 32]++u1++ByteArray.mk #[OfNat.ofNat 32]++u2++ByteArray.mk #[OfNat.ofNat 10])),.c (.i 0)]) :=
 zaf [false,true] ([]) [] Tryz.func5 rfl rfl rfl rfl (by kernel_rfl) h (zab c0 (zab c1 (zab c2 (zab c3 zae))))
theorem yawj (h:(decide (5+ByteArray.size u1≤9223372036854775807)&&true)=true) (c0:CO 11 [.c (.s t)] [] (Eff.mk (.tu [.c (.sx 3 p),.c (.b true)]) [] (some (3,Ent.mk true (pcell L) 5)))) (c1:CO 12 [.c (.sx 3 p)] [(3,Ent.mk true (pcell L) 5)] (Eff.mk (.ag [.i 0,.i 0,.sl 12 0 p p]) [] (some (12,Ent.mk true (scell S2) 0)))) (c2:CO 16 [.c (.sx 3 p)] [(3,Ent.mk true (pcell L) 5)] (Eff.mk (.c (.sx 19 p)) [] (some (19,Ent.mk true (pcell L2) 0)))) (c3:CO 15 [.c (.sx 19 p)] [(19,Ent.mk true (pcell L2) 0)] (Eff.mk (.c (.sx 20 p)) [] (some (20,Ent.mk true (pcell L3) 0)))) (c4:CO 14 [.c (.sx 20 p)] [(20,Ent.mk true (pcell L3) 0)] (pe (.c (.s u1)))) :
  Ok 5 [.c (.s t)] (.tu [.c (.s (ByteArray.mk #[OfNat.ofNat 115,OfNat.ofNat 97,OfNat.ofNat 102,OfNat.ofNat 101,OfNat.ofNat 10]++u1)),.c (.i 0)]) :=
 zaf [false,false] ([]) [] Tryz.func5 rfl rfl rfl rfl (by kernel_rfl) h (zab c0 (zab c1 (zab c2 (zab c3 (zab c4 zae)))))
theorem yaxa (h:(ByteArray.toList u1==ByteArray.toList (ByteArray.mk #[OfNat.ofNat 115,OfNat.ofNat 97,OfNat.ofNat 102,OfNat.ofNat 101,OfNat.ofNat 10,OfNat.ofNat 106,OfNat.ofNat 117,OfNat.ofNat 109,OfNat.ofNat 112,OfNat.ofNat 32,OfNat.ofNat 48,OfNat.ofNat 10,OfNat.ofNat 106,OfNat.ofNat 117,OfNat.ofNat 109,OfNat.ofNat 112,OfNat.ofNat 32,OfNat.ofNat 48,OfNat.ofNat 10,OfNat.ofNat 106,OfNat.ofNat 117,OfNat.ofNat 109,OfNat.ofNat 112,OfNat.ofNat 32,OfNat.ofNat 49,OfNat.ofNat 10,OfNat.ofNat 106,OfNat.ofNat 117,OfNat.ofNat 109,OfNat.ofNat 112,OfNat.ofNat 32,OfNat.ofNat 48,OfNat.ofNat 10,OfNat.ofNat 109,OfNat.ofNat 111,OfNat.ofNat 118,OfNat.ofNat 32,OfNat.ofNat 114,OfNat.ofNat 48,OfNat.ofNat 32,OfNat.ofNat 53,OfNat.ofNat 10,OfNat.ofNat 101,OfNat.ofNat 120,OfNat.ofNat 105,OfNat.ofNat 116,OfNat.ofNat 10])&&true)=true) (c0:Ok 4 [.c (.s (ByteArray.mk #[OfNat.ofNat 109,OfNat.ofNat 111,OfNat.ofNat 118,OfNat.ofNat 32,OfNat.ofNat 114,OfNat.ofNat 50,OfNat.ofNat 32,OfNat.ofNat 53,OfNat.ofNat 10,OfNat.ofNat 97,OfNat.ofNat 110,OfNat.ofNat 100,OfNat.ofNat 32,OfNat.ofNat 114,OfNat.ofNat 49,OfNat.ofNat 32,OfNat.ofNat 51,OfNat.ofNat 10,OfNat.ofNat 105,OfNat.ofNat 102,OfNat.ofNat 108,OfNat.ofNat 116,OfNat.ofNat 32,OfNat.ofNat 114,OfNat.ofNat 49,OfNat.ofNat 32,OfNat.ofNat 114,OfNat.ofNat 50,OfNat.ofNat 32,OfNat.ofNat 49,OfNat.ofNat 10,OfNat.ofNat 109,OfNat.ofNat 111,OfNat.ofNat 118,OfNat.ofNat 32,OfNat.ofNat 114,OfNat.ofNat 49,OfNat.ofNat 32,OfNat.ofNat 57,OfNat.ofNat 10,OfNat.ofNat 109,OfNat.ofNat 111,OfNat.ofNat 118,OfNat.ofNat 32,OfNat.ofNat 114,OfNat.ofNat 48,OfNat.ofNat 32,OfNat.ofNat 114,OfNat.ofNat 50,OfNat.ofNat 10,OfNat.ofNat 101,OfNat.ofNat 120,OfNat.ofNat 105,OfNat.ofNat 116,OfNat.ofNat 10]))] (.tu [.c (.s u1),.c (.i 0)])) (c1:Ok 4 [.c (.s (ByteArray.mk #[OfNat.ofNat 108,OfNat.ofNat 111,OfNat.ofNat 97,OfNat.ofNat 100,OfNat.ofNat 32,OfNat.ofNat 49,OfNat.ofNat 32,OfNat.ofNat 114,OfNat.ofNat 48,OfNat.ofNat 32,OfNat.ofNat 114,OfNat.ofNat 49,OfNat.ofNat 32,OfNat.ofNat 48,OfNat.ofNat 10,OfNat.ofNat 101,OfNat.ofNat 120,OfNat.ofNat 105,OfNat.ofNat 116,OfNat.ofNat 10]))] (.tu [.c (.s u2),.c (.i 0)])) :
  Ok 6 [] (.c (.b (ByteArray.toList u2==ByteArray.toList (ByteArray.mk #[OfNat.ofNat 116,OfNat.ofNat 114,OfNat.ofNat 97,OfNat.ofNat 112,OfNat.ofNat 32,OfNat.ofNat 50,OfNat.ofNat 32,OfNat.ofNat 48,OfNat.ofNat 10])))) :=
 zaf [true,true,true] ([]) [] Tryz.func6 rfl rfl rfl rfl (by kernel_rfl) h (zab c0 (zab c1 zae))
theorem yaw0 (h:(ByteArray.toList u1==ByteArray.toList u1&&true)=true) (c0:Ok 4 [.c (.s t)] (.tu [.c (.s u1),.c (.i e)])) (c1:Ok 5 [.c (.s t)] (.tu [.c (.s u1),.c (.i e)])) (c2:Ok 6 [] (.c (.b true))) :
  Ok 3 [.c (.s t)] (.c (.b (e==e))) :=
 zaf [true,true] ([]) [] Tryz.func3 rfl rfl rfl rfl (by kernel_rfl) h (zab c0 (zab c1 (zab c2 zae)))
end
section
abbrev vaRK (t:ByteArray) (x:BitVec 64) (j:Nat):Kn:=⟨[(0,.c (.s t)),(3,.c (.u x)),(4,.c (.i (j:Int)))],[],0⟩
variable {x:BitVec 64} {u t:ByteArray} {V:AV} {C:Cx} {R:Ending→World→Prop} {j n:Nat} {w:World} {β:Bs} {n1:Int} {i:Ins}
theorem yba3 (h:(decide (nv x<10)&&true)=true) :
  Ok 13 [.c (.u x)] (.c (.s (zmu (((splice (rows 1 [.y 0#8]) 0 [.y (BitVec.setWidth 8 (badd (48#64) (x % 10#64)))]).drop 0).take 1)))) :=
 zaf [true] ([]) [] Tryz.func13 rfl rfl rfl rfl (by kernel_rfl) h zae
theorem yba5 (h:(!decide (nv x<10)&&(decide (ByteArray.size u+ByteArray.size (zmu (((splice (rows 1 [.y 0#8]) 0 [.y (BitVec.setWidth 8 (badd (48#64) (x % 10#64)))]).drop 0).take 1))≤9223372036854775807)&&true))=true) (c0:Ok 13 [.c (.u (x / 10#64))] (.c (.s u))) :
  Ok 13 [.c (.u x)] (.c (.s (u++zmu (((splice (rows 1 [.y 0#8]) 0 [.y (BitVec.setWidth 8 (badd (48#64) (x % 10#64)))]).drop 0).take 1)))) :=
 zaf [false] ([]) [] Tryz.func13 rfl rfl rfl rfl (by kernel_rfl) h (zab c0 zae)
theorem yaxt
  (l0:(decide (nv x<10))=true→(AV.c (.s (zmu (((splice (rows 1 [.y 0#8]) 0 [.y (BitVec.setWidth 8 (badd (48#64) (x % 10#64)))]).drop 0).take 1)))=V))
  (l1:(decide (nv x<10))=false→(decide (ByteArray.size u+ByteArray.size (zmu (((splice (rows 1 [.y 0#8]) 0 [.y (BitVec.setWidth 8 (badd (48#64) (x % 10#64)))]).drop 0).take 1))≤9223372036854775807))=true∧(Ok 13 [.c (.u (x / 10#64))] (.c (.s u)))∧(AV.c (.s (u++zmu (((splice (rows 1 [.y 0#8]) 0 [.y (BitVec.setWidth 8 (badd (48#64) (x % 10#64)))]).drop 0).take 1)))=V)) :
  Ok 13 [.c (.u x)] V :=
 (tf (decide (nv x<10))).elim (fun h0=>(match l0 h0 with | e=>zam (yba3 (zaa h0 rfl)) e)) (fun h0=>(match l1 h0 with | ⟨o0,c0,e⟩=>zam (yba5 (zaa (zad h0) (zaa o0 rfl)) c0) e))
theorem yal7 (hF:∀ k,C.F k→k<0) (z:AR 69 Tryz.f69 C 0 ⟨[(0,.c (.s t)),(3,.c (.u 0#64)),(4,.c (.i 0))],[],0⟩ R) :
  BO 69 Tryz.f69 C [.c (.s t)] [] 0 R :=
 zai [] ([true]) [] Tryz.func69 (by kernel_rfl) rfl zae (zc8 rfl) hF z
theorem yayg (h:(decide ((j:Int)<(↑(ByteArray.size t):Int))&&(decide ((j:Int)<20)&&(decide ((j:Int).toNat<ByteArray.size t)&&true)))=true) (c0:pe (.c (.i (IntKind.i64.wrap ((j:Int)+1))))=pe (.c (.i (↑(j+1):Int)))) (hF:∀ k,C.F k→k<0) (z:AR 69 Tryz.f69 C 0 (vaRK t (badd (bmul (10#64) x) (BitVec.setWidth 64 (zeg t (j:Int).toNat - 48#8))) (j+1)) R) :
  AR 69 Tryz.f69 C 0 (vaRK t x j) R :=
 zai [true,true] ([true]) [(4,1)] Tryz.func69 (by kernel_rfl) h (zac c0 zae) (zc8 rfl) hF z
theorem yay4 (h:(!decide ((j:Int)<(↑(ByteArray.size t):Int))&&true)=true) :
  AR 69 Tryz.f69 (cx w β n []) 0 (vaRK t x j) (REff w β ⟨.c (.u x),[],none⟩) :=
 zah [] none [false,false] ([true]) [] Tryz.func69 (zau rfl n) (by kernel_rfl) h zae
theorem yawg (h:(decide ((j:Int)<(↑(ByteArray.size t):Int))&&(!decide ((j:Int)<20)&&true))=true) :
  AR 69 Tryz.f69 (cx w β n []) 0 (vaRK t x j) (REff w β ⟨.c (.u x),[],none⟩) :=
 zah [] none [true,false] ([true]) [] Tryz.func69 (zau rfl n) (by kernel_rfl) h zae
theorem ybad (h:(decide (4<(↑(ByteArray.size t):Int))&&true)=true) :
  Ok 70 [.c (.s t)] (.c (.i 0)) :=
 zaf [true] ([]) [] Tryz.func70 rfl rfl rfl rfl (by kernel_rfl) h zae
theorem yban (h:(!decide (4<(↑(ByteArray.size t):Int))&&(decide (0<(↑(ByteArray.size t):Int))&&(decide (0<ByteArray.size t)&&(zeg t 0==45#8&&(decide (1≤(↑(ByteArray.size t):Int))&&decide ((↑(ByteArray.size t):Int)≤(↑(ByteArray.size t):Int))&&true)))))=true) (c0:Ok 69 [.c (.s (ByteArray.extract t 1 ((↑(ByteArray.size t):Int)).toNat))] (.c (.u x))) :
  Ok 70 [.c (.s t)] (.c (.i (IntKind.i64.wrap (0 - IntKind.i64.wrap (nv x))))) :=
 zaf [false,true,true] ([]) [] Tryz.func70 rfl rfl rfl rfl (by kernel_rfl) h (zab c0 zae)
theorem ybac (h:(!decide (4<(↑(ByteArray.size t):Int))&&(decide (0<(↑(ByteArray.size t):Int))&&(decide (0<ByteArray.size t)&&(!zeg t 0==45#8&&true))))=true) (c0:Ok 69 [.c (.s t)] (.c (.u x))) :
  Ok 70 [.c (.s t)] (.c (.i (IntKind.i64.wrap (nv x)))) :=
 zaf [false,true,false] ([]) [] Tryz.func70 rfl rfl rfl rfl (by kernel_rfl) h (zab c0 zae)
theorem yaz8 (h:(!decide (4<(↑(ByteArray.size t):Int))&&(!decide (0<(↑(ByteArray.size t):Int))&&true))=true) (c0:Ok 69 [.c (.s t)] (.c (.u x))) :
  Ok 70 [.c (.s t)] (.c (.i (IntKind.i64.wrap (nv x)))) :=
 zaf [false,false,false] ([]) [] Tryz.func70 rfl rfl rfl rfl (by kernel_rfl) h (zab c0 zae)
theorem ybax (h:(decide ((↑(ByteArray.size t):Int)<2)&&true)=true) :
  Ok 68 [.c (.s t)] (.c (.i 0)) :=
 zaf [true] ([]) [] Tryz.func68 rfl rfl rfl rfl (by kernel_rfl) h zae
theorem ybaj (h:(!decide ((↑(ByteArray.size t):Int)<2)&&(decide (1≤(↑(ByteArray.size t):Int))&&decide ((↑(ByteArray.size t):Int)≤(↑(ByteArray.size t):Int))&&true))=true) (c0:Ok 70 [.c (.s (ByteArray.extract t 1 ((↑(ByteArray.size t):Int)).toNat))] (.c (.i n1))) :
  Ok 68 [.c (.s t)] (.c (.i n1)) :=
 zaf [false] ([]) [] Tryz.func68 rfl rfl rfl rfl (by kernel_rfl) h (zab c0 zae)
theorem yba6 (h:(decide (n1<0)&&(decide (1+ByteArray.size u≤9223372036854775807)&&true))=true) (c0:Ok 13 [.c (.u (BitVec.ofInt 64 (IntKind.i64.wrap (0 - n1))))] (.c (.s u))) :
  Ok 87 [.c (.i n1)] (.c (.s (ByteArray.mk #[OfNat.ofNat 45]++u))) :=
 zaf [true] ([]) [] Tryz.func87 rfl rfl rfl rfl (by kernel_rfl) h (zab c0 zae)
theorem yba1 (h:(!decide (n1<0)&&true)=true) (c0:Ok 13 [.c (.u (BitVec.ofInt 64 n1))] (.c (.s u))) :
  Ok 87 [.c (.i n1)] (.c (.s u)) :=
 zaf [false] ([]) [] Tryz.func87 rfl rfl rfl rfl (by kernel_rfl) h (zab c0 zae)
theorem yawq
  (l0:(decide (n1<0))=true→(decide (1+ByteArray.size u≤9223372036854775807))=true∧(Ok 13 [.c (.u (BitVec.ofInt 64 (IntKind.i64.wrap (0 - n1))))] (.c (.s u)))∧(AV.c (.s (ByteArray.mk #[OfNat.ofNat 45]++u))=V))
  (l1:(decide (n1<0))=false→(Ok 13 [.c (.u (BitVec.ofInt 64 n1))] (.c (.s u)))∧(AV.c (.s u)=V)) :
  Ok 87 [.c (.i n1)] V :=
 (tf (decide (n1<0))).elim (fun h0=>(match l0 h0 with | ⟨o0,c0,e⟩=>zam (yba6 (zaa h0 (zaa o0 rfl)) c0) e)) (fun h0=>(match l1 h0 with | ⟨c0,e⟩=>zam (yba1 (zaa (zad h0) rfl) c0) e))
theorem ybak (h:(decide (1+ByteArray.size u≤9223372036854775807)&&true)=true) (c0:Ok 13 [.c (.u (BitVec.ofInt 64 n1))] (.c (.s u))) :
  Ok 85 [.c (.i n1)] (.c (.s (ByteArray.mk #[OfNat.ofNat 114]++u))) :=
 zaf [] ([]) [] Tryz.func85 rfl rfl rfl rfl (by kernel_rfl) h (zab c0 zae)
theorem ybap (h:(i.s==-1&&true)=true) (c0:Ok 13 [.c (.u i.im)] (.c (.s u))) :
  Ok 86 [.ag i.cs] (.c (.s u)) :=
 zaf [true] ([]) [] Tryz.func86 rfl rfl rfl rfl (by kernel_rfl) h (zab c0 zae)
theorem yba7 (h:(!i.s==-1&&true)=true) (c0:Ok 85 [.c (.i i.s)] (.c (.s u))) :
  Ok 86 [.ag i.cs] (.c (.s u)) :=
 zaf [false] ([]) [] Tryz.func86 rfl rfl rfl rfl (by kernel_rfl) h (zab c0 zae)
end
section
abbrev yakg (t:ByteArray) (c:BitVec 8) (q p j:Nat):Kn:=⟨[(0,.c (.s t)),(1,.c (.y c)),(2,.c (.i (q:Int))),(7,.c zco),(8,.c (.i (p:Int))),(9,.c (.i (j:Int)))],[],51⟩
abbrev zop (t:ByteArray) (c:BitVec 8) (q p j r:Nat) (A:List AC):Kn:=⟨[(0,.c (.s t)),(1,.c (.y c)),(2,.c (.i (q:Int))),(7,.c (.sx 50 r)),(8,.c (.i (p:Int))),(9,.c (.i (j:Int)))],[(50,Ent.mk true A 1)],51⟩
variable {t:ByteArray} {c:BitVec 8} {q p j r n:Nat} {C:Cx} {R:Ending→World→Prop} {A:List AC} {w:World} {β:Bs}
theorem yaod (hF:∀ k,C.F k→k<51) (z:AR 27 Tryz.f27 C 0 ⟨[(0,.c (.s t)),(1,.c (.y c)),(2,.c (.i (q:Int))),(7,.c zco),(8,.c (.i 0)),(9,.c (.i 0))],[],51⟩ R) :
  BO 27 Tryz.f27 C [.c (.s t),.c (.y c),.c (.i (q:Int))] [] 0 R :=
 zai [] ([true]) [] Tryz.func27 (by kernel_rfl) rfl zae (zc8 rfl) hF z
theorem yatf (h:(decide ((j:Int)≤(↑(ByteArray.size t):Int))&&(decide (0<(q:Int))&&(!(j:Int)==(↑(ByteArray.size t):Int)&&(decide ((j:Int).toNat<ByteArray.size t)&&(!zeg t (j:Int).toNat==c&&true)))))=true) (c0:pe (.c (.i (IntKind.i64.wrap ((j:Int)+1))))=pe (.c (.i (↑(j+1):Int)))) (hF:∀ k,C.F k→k<51) (z:AR 27 Tryz.f27 C 0 (yakg t c q p (j+1)) R) :
  AR 27 Tryz.f27 C 0 (yakg t c q p j) R :=
 zai [true,true,false,false] ([true]) [(5,1)] Tryz.func27 (by kernel_rfl) h (zac c0 zae) (zc8 rfl) hF z
theorem yatc (h:(decide ((j:Int)≤(↑(ByteArray.size t):Int))&&(decide (0<(q:Int))&&((j:Int)==(↑(ByteArray.size t):Int)&&(decide ((p:Int)≤(j:Int))&&decide ((j:Int)≤(↑(ByteArray.size t):Int))&&true))))=true) (c0:Eff.mk (.c (.sx 78 1)) [] (some (51+10+11+6,Ent.mk true [.s (ByteArray.extract t ((p:Int)).toNat ((j:Int)).toNat)] 1))=Eff.mk (.c (.sx 78 1)) [] (some (78,Ent.mk true [.s (ByteArray.extract t p j)] 1))) (c1:pe (.c (.i (IntKind.i64.wrap ((j:Int)+1))))=pe (.c (.i (↑(j+1):Int)))) (c2:pe (.c (.i (IntKind.i64.wrap ((j:Int)+1))))=pe (.c (.i (↑(j+1):Int)))) (lo:Kn.Low ⟨[(0,.c (.s t)),(1,.c (.y c)),(2,.c (.i (q:Int))),(7,.c (.sx 78 1)),(8,.c (.i (↑(j+1):Int))),(9,.c (.i (↑(j+1):Int)))],[(78,Ent.mk true [.s (ByteArray.extract t p j)] 1)],79⟩) (hF:∀ k,C.F k→k<79) (z:AR 27 Tryz.f27 C 0 ⟨[(0,.c (.s t)),(1,.c (.y c)),(2,.c (.i (q:Int))),(7,.c (.sx 78 1)),(8,.c (.i (↑(j+1):Int))),(9,.c (.i (↑(j+1):Int)))],[(78,Ent.mk true [.s (ByteArray.extract t p j)] 1)],79⟩ R) :
  AR 27 Tryz.f27 C 0 (yakg t c q p j) R :=
 zai [true,true,true,true] ([true]) [(7,6),(8,1),(5,1)] Tryz.func27 (by kernel_rfl) h (zac c0 (zac c1 (zac c2 zae))) lo hF z
theorem yat8 (h:(decide ((j:Int)≤(↑(ByteArray.size t):Int))&&(decide (0<(q:Int))&&(!(j:Int)==(↑(ByteArray.size t):Int)&&(decide ((j:Int).toNat<ByteArray.size t)&&(zeg t (j:Int).toNat==c&&(decide ((p:Int)≤(j:Int))&&decide ((j:Int)≤(↑(ByteArray.size t):Int))&&true))))))=true) (c0:Eff.mk (.c (.sx 78 1)) [] (some (51+10+11+6,Ent.mk true [.s (ByteArray.extract t ((p:Int)).toNat ((j:Int)).toNat)] 1))=Eff.mk (.c (.sx 78 1)) [] (some (78,Ent.mk true [.s (ByteArray.extract t p j)] 1))) (c1:pe (.c (.i (IntKind.i64.wrap ((j:Int)+1))))=pe (.c (.i (↑(j+1):Int)))) (c2:pe (.c (.i (IntKind.i64.wrap ((j:Int)+1))))=pe (.c (.i (↑(j+1):Int)))) (lo:Kn.Low ⟨[(0,.c (.s t)),(1,.c (.y c)),(2,.c (.i (q:Int))),(7,.c (.sx 78 1)),(8,.c (.i (↑(j+1):Int))),(9,.c (.i (↑(j+1):Int)))],[(78,Ent.mk true [.s (ByteArray.extract t p j)] 1)],79⟩) (hF:∀ k,C.F k→k<79) (z:AR 27 Tryz.f27 C 0 ⟨[(0,.c (.s t)),(1,.c (.y c)),(2,.c (.i (q:Int))),(7,.c (.sx 78 1)),(8,.c (.i (↑(j+1):Int))),(9,.c (.i (↑(j+1):Int)))],[(78,Ent.mk true [.s (ByteArray.extract t p j)] 1)],79⟩ R) :
  AR 27 Tryz.f27 C 0 (yakg t c q p j) R :=
 zai [true,true,false,true] ([true]) [(7,6),(8,1),(5,1)] Tryz.func27 (by kernel_rfl) h (zac c0 (zac c1 (zac c2 zae))) lo hF z
theorem yauz (h:(decide ((j:Int)≤(↑(ByteArray.size t):Int))&&(decide ((r:Int)<(q:Int))&&(!(j:Int)==(↑(ByteArray.size t):Int)&&(decide ((j:Int).toNat<ByteArray.size t)&&(!zeg t (j:Int).toNat==c&&true)))))=true) (c0:pe (.c (.i (IntKind.i64.wrap ((j:Int)+1))))=pe (.c (.i (↑(j+1):Int)))) (lo:Kn.Low (zop t c q p (j+1) r A)) (hF:∀ k,C.F k→k<51) (z:AR 27 Tryz.f27 C 0 (zop t c q p (j+1) r A) R) :
  AR 27 Tryz.f27 C 0 (zop t c q p j r A) R :=
 zai [true,true,false,false] ([true]) [(5,1)] Tryz.func27 (by kernel_rfl) h (zac c0 zae) lo hF z
theorem yaub (h:(decide ((j:Int)≤(↑(ByteArray.size t):Int))&&(decide ((r:Int)<(q:Int))&&((j:Int)==(↑(ByteArray.size t):Int)&&(decide ((p:Int)≤(j:Int))&&decide ((j:Int)≤(↑(ByteArray.size t):Int))&&(Nat.beq (r*1) A.length&&decide (r+1≤137438953472)&&Nat.blt 0 r&&true)))))=true) (c0:Eff.mk (.c (.sx 78 (r+1))) [(50,[])] (some (51+10+11+6,Ent.mk true (A++((splice (rows 1 [.s (ByteArray.mk #[])]) 0 [.s (ByteArray.extract t ((p:Int)).toNat ((j:Int)).toNat)]).drop 0).take 1) 1))=Eff.mk (.c (.sx 78 (r+1))) [(50,[])] (some (78,Ent.mk true (A++[.s (ByteArray.extract t p j)]) 1))) (c1:pe (.c (.i (IntKind.i64.wrap ((j:Int)+1))))=pe (.c (.i (↑(j+1):Int)))) (c2:pe (.c (.i (IntKind.i64.wrap ((j:Int)+1))))=pe (.c (.i (↑(j+1):Int)))) (lo:Kn.Low ⟨[(0,.c (.s t)),(1,.c (.y c)),(2,.c (.i (q:Int))),(7,.c (.sx 78 (r+1))),(8,.c (.i (↑(j+1):Int))),(9,.c (.i (↑(j+1):Int)))],[(78,Ent.mk true (A++[.s (ByteArray.extract t p j)]) 1)],79⟩) (hF:∀ k,C.F k→k<79) (z:AR 27 Tryz.f27 C 0 ⟨[(0,.c (.s t)),(1,.c (.y c)),(2,.c (.i (q:Int))),(7,.c (.sx 78 (r+1))),(8,.c (.i (↑(j+1):Int))),(9,.c (.i (↑(j+1):Int)))],[(78,Ent.mk true (A++[.s (ByteArray.extract t p j)]) 1)],79⟩ R) :
  AR 27 Tryz.f27 C 0 (zop t c q p j r A) R :=
 zai [true,true,true,true] ([true]) [(7,6),(8,1),(5,1)] Tryz.func27 (by kernel_rfl) h (zac c0 (zac c1 (zac c2 zae))) lo hF z
theorem yauv (h:(decide ((j:Int)≤(↑(ByteArray.size t):Int))&&(decide ((r:Int)<(q:Int))&&(!(j:Int)==(↑(ByteArray.size t):Int)&&(decide ((j:Int).toNat<ByteArray.size t)&&(zeg t (j:Int).toNat==c&&(decide ((p:Int)≤(j:Int))&&decide ((j:Int)≤(↑(ByteArray.size t):Int))&&(Nat.beq (r*1) A.length&&decide (r+1≤137438953472)&&Nat.blt 0 r&&true)))))))=true) (c0:Eff.mk (.c (.sx 78 (r+1))) [(50,[])] (some (51+10+11+6,Ent.mk true (A++((splice (rows 1 [.s (ByteArray.mk #[])]) 0 [.s (ByteArray.extract t ((p:Int)).toNat ((j:Int)).toNat)]).drop 0).take 1) 1))=Eff.mk (.c (.sx 78 (r+1))) [(50,[])] (some (78,Ent.mk true (A++[.s (ByteArray.extract t p j)]) 1))) (c1:pe (.c (.i (IntKind.i64.wrap ((j:Int)+1))))=pe (.c (.i (↑(j+1):Int)))) (c2:pe (.c (.i (IntKind.i64.wrap ((j:Int)+1))))=pe (.c (.i (↑(j+1):Int)))) (lo:Kn.Low ⟨[(0,.c (.s t)),(1,.c (.y c)),(2,.c (.i (q:Int))),(7,.c (.sx 78 (r+1))),(8,.c (.i (↑(j+1):Int))),(9,.c (.i (↑(j+1):Int)))],[(78,Ent.mk true (A++[.s (ByteArray.extract t p j)]) 1)],79⟩) (hF:∀ k,C.F k→k<79) (z:AR 27 Tryz.f27 C 0 ⟨[(0,.c (.s t)),(1,.c (.y c)),(2,.c (.i (q:Int))),(7,.c (.sx 78 (r+1))),(8,.c (.i (↑(j+1):Int))),(9,.c (.i (↑(j+1):Int)))],[(78,Ent.mk true (A++[.s (ByteArray.extract t p j)]) 1)],79⟩ R) :
  AR 27 Tryz.f27 C 0 (zop t c q p j r A) R :=
 zai [true,true,false,true] ([true]) [(7,6),(8,1),(5,1)] Tryz.func27 (by kernel_rfl) h (zac c0 (zac c1 (zac c2 zae))) lo hF z
theorem yau6 (h:(!decide ((j:Int)≤(↑(ByteArray.size t):Int))&&true)=true) (hk:EKeys n [] (some 50) ⟨.c (.sx 50 r),[],some (50,Ent.mk true A 1)⟩) :
  AR 27 Tryz.f27 (cx w β n []) 0 (zop t c q p j r A) (REff w β ⟨.c (.sx 50 r),[],some (50,Ent.mk true A 1)⟩) :=
 zah [] (some 50) [false,false] ([true]) [] Tryz.func27 hk (by kernel_rfl) h zae
theorem yauy (h:(decide ((j:Int)≤(↑(ByteArray.size t):Int))&&(!decide ((r:Int)<(q:Int))&&true))=true) (hk:EKeys n [] (some 50) ⟨.c (.sx 50 r),[],some (50,Ent.mk true A 1)⟩) :
  AR 27 Tryz.f27 (cx w β n []) 0 (zop t c q p j r A) (REff w β ⟨.c (.sx 50 r),[],some (50,Ent.mk true A 1)⟩) :=
 zah [] (some 50) [true,false] ([true]) [] Tryz.func27 hk (by kernel_rfl) h zae
end
section
variable {i:Ins} {t:ByteArray} {n1 op:Int} {x:BitVec 64} {w:World} {β:Bs} {n:Nat}
theorem yazt (c0:Ok 135 [.c (.s t)] (.c (.i n1))) :
  Ok 91 [.ag i.cs,.c (.i 0),.c (.s t)] (.ag [.i i.op,.i n1,.i i.s,.u i.im,.i i.of]) :=
 zaf [true] ([]) [] Tryz.func91 rfl rfl rfl rfl (by kernel_rfl) rfl (zab c0 zae)
theorem yayo (c0:Ok 135 [.c (.s t)] (.c (.i n1))) :
  Ok 91 [.ag i.cs,.c (.i 1),.c (.s t)] (.ag [.i i.op,.i i.d,.i n1,.u i.im,.i i.of]) :=
 zaf [false,true,true] ([]) [] Tryz.func91 rfl rfl rfl rfl (by kernel_rfl) rfl (zab c0 zae)
theorem yar0 (c0:Ok 136 [.c (.s t),.c (.s (ByteArray.mk #[OfNat.ofNat 114]))] (.c (.b true))) (c1:Ok 135 [.c (.s t)] (.c (.i n1))) :
  Ok 91 [.ag i.cs,.c (.i 2),.c (.s t)] (.ag [.i i.op,.i i.d,.i n1,.u i.im,.i i.of]) :=
 zaf [false,false,true,true] ([]) [] Tryz.func91 rfl rfl rfl rfl (by kernel_rfl) rfl (zab c0 (zab c1 zae))
theorem yar5 (c0:Ok 136 [.c (.s t),.c (.s (ByteArray.mk #[OfNat.ofNat 114]))] (.c (.b false))) (c1:Ok 137 [.c (.s t)] (.c (.u x))) :
  Ok 91 [.ag i.cs,.c (.i 2),.c (.s t)] (.ag [.i i.op,.i i.d,.i (-1),.u x,.i i.of]) :=
 zaf [false,false,true,false,true] ([]) [] Tryz.func91 rfl rfl rfl rfl (by kernel_rfl) rfl (zab c0 (zab c1 zae))
theorem yaxl (c0:Ok 137 [.c (.s t)] (.c (.u x))) :
  Ok 91 [.ag i.cs,.c (.i 3),.c (.s t)] (.ag [.i i.op,.i i.d,.i i.s,.u x,.i i.of]) :=
 zaf [false,false,false,false,false,true] ([]) [] Tryz.func91 rfl rfl rfl rfl (by kernel_rfl) rfl (zab c0 zae)
theorem yazi (c0:Ok 138 [.c (.s t)] (.c (.i n1))) :
  Ok 91 [.ag i.cs,.c (.i 4),.c (.s t)] (.ag [.i i.op,.i i.d,.i i.s,.u i.im,.i n1]) :=
 zaf [false,false,false,false,false,false,true] ([]) [] Tryz.func91 rfl rfl rfl rfl (by kernel_rfl) rfl (zab c0 zae)
theorem yav8 (h:(decide (1+ByteArray.size t≤9223372036854775807)&&true)=true) (c0:Ok 9 [.c (.i i.d)] (.c (.s t))) :
  Ok 49 [.c (.i 0),.ag i.cs] (.c (.s (ByteArray.mk #[OfNat.ofNat 114]++t))) :=
 zaf [true] ([]) [] Tryz.func49 rfl rfl rfl rfl (by kernel_rfl) h (zab c0 zae)
theorem yavu (h:(decide (1+ByteArray.size t≤9223372036854775807)&&true)=true) (c0:Ok 9 [.c (.i i.s)] (.c (.s t))) :
  Ok 49 [.c (.i 1),.ag i.cs] (.c (.s (ByteArray.mk #[OfNat.ofNat 114]++t))) :=
 zaf [false,true,true] ([]) [] Tryz.func49 rfl rfl rfl rfl (by kernel_rfl) h (zab c0 zae)
theorem yash (h:(i.s != -1&&(decide (1+ByteArray.size t≤9223372036854775807)&&true))=true) (c0:Ok 9 [.c (.i i.s)] (.c (.s t))) :
  Ok 49 [.c (.i 2),.ag i.cs] (.c (.s (ByteArray.mk #[OfNat.ofNat 114]++t))) :=
 zaf [false,false,true,true] ([]) [] Tryz.func49 rfl rfl rfl rfl (by kernel_rfl) h (zab c0 zae)
theorem yavp (h:(!i.s != -1&&true)=true) (c0:Ok 93 [.c (.u i.im),.c (.i 10)] (.c (.s t))) :
  Ok 49 [.c (.i 2),.ag i.cs] (.c (.s t)) :=
 zaf [false,false,true,false,false] ([]) [] Tryz.func49 rfl rfl rfl rfl (by kernel_rfl) h (zab c0 zae)
theorem yaw5 (c0:Ok 93 [.c (.u i.im),.c (.i 10)] (.c (.s t))) :
  Ok 49 [.c (.i 3),.ag i.cs] (.c (.s t)) :=
 zaf [false,false,false,false,false] ([]) [] Tryz.func49 rfl rfl rfl rfl (by kernel_rfl) rfl (zab c0 zae)
theorem yaxy (c0:Ok 9 [.c (.i i.of)] (.c (.s t))) :
  Ok 49 [.c (.i 4),.ag i.cs] (.c (.s t)) :=
 zaf [false,false,false,false,true] ([]) [] Tryz.func49 rfl rfl rfl rfl (by kernel_rfl) rfl (zab c0 zae)
end
section
abbrev ckAK (L:List Ins) (c j:Nat):Kn:=⟨[(0,.c (.sl 0 0 L.length c)),(17,.c (.sl 0 0 L.length c)),(18,.c (.i (L.length:Int))),(19,.c (.i (j:Int)))],[(0,Ent.mk false (pcell L) 0)],1⟩
abbrev ckBK (L:List Ins) (c j:Nat):Kn:=⟨[(0,.c (.sl 0 0 L.length c)),(32,.c (.sl 0 0 L.length c)),(33,.c (.i (L.length:Int))),(34,.c (.i (j:Int)))],[(0,Ent.mk false (pcell L) 0)],1⟩
abbrev ckCK (L:List Ins) (c j:Nat):Kn:=⟨[(0,.c (.sl 0 0 L.length c)),(48,.c (.sl 0 0 L.length c)),(49,.c (.i (L.length:Int))),(50,.c (.i (j:Int)))],[(0,Ent.mk false (pcell L) 0)],1⟩
variable {L:List Ins} {c n j:Nat} {w:World} {β:Bs} {C:Cx} {R:Ending→World→Prop} {E:Eff}
theorem yapr (h:((L.length:Int)==0&&true)=true) :
  BO 19 Tryz.f19 (cx w β n []) [.c (.sl 0 0 L.length c)] [(0,Ent.mk false (pcell L) 0)] 1 (REff w β ⟨.c (.i 2),[],none⟩) :=
 zah [] none [true,true] [true] [] Tryz.func19 (zau rfl n) (by kernel_rfl) h zae
theorem yapm (h:(!(L.length:Int)==0&&(decide (64<(L.length:Int))&&true))=true) :
  BO 19 Tryz.f19 (cx w β n []) [.c (.sl 0 0 L.length c)] [(0,Ent.mk false (pcell L) 0)] 1 (REff w β ⟨.c (.i 2),[],none⟩) :=
 zah [] none [false,true] [true] [] Tryz.func19 (zau rfl n) (by kernel_rfl) h zae
theorem yanh (h:(!(L.length:Int)==0&&(!decide (64<(L.length:Int))&&true))=true) (lo:Kn.Low ⟨[(0,.c (.sl 0 0 L.length c)),(17,.c (.sl 0 0 L.length c)),(18,.c (.i (L.length:Int))),(19,.c (.i 0))],[(0,Ent.mk false (pcell L) 0)],1⟩) (hF:∀ k,C.F k→k<1) (z:AR 19 Tryz.f19 C 0 ⟨[(0,.c (.sl 0 0 L.length c)),(17,.c (.sl 0 0 L.length c)),(18,.c (.i (L.length:Int))),(19,.c (.i 0))],[(0,Ent.mk false (pcell L) 0)],1⟩ R) :
  BO 19 Tryz.f19 C [.c (.sl 0 0 L.length c)] [(0,Ent.mk false (pcell L) 0)] 1 R :=
 zai [false,false] [true] [] Tryz.func19 (by kernel_rfl) h zae lo hF z
theorem yalb (hn:n≤1)
  (l0:((L.length:Int)==0)=true→((⟨.c (.i 2),[],none⟩:Eff)=E))
  (l1:((L.length:Int)==0)=false→(decide (64<(L.length:Int)))=true→((⟨.c (.i 2),[],none⟩:Eff)=E))
  (l2:((L.length:Int)==0)=false→(decide (64<(L.length:Int)))=false→Kn.Low ⟨[(0,.c (.sl 0 0 L.length c)),(17,.c (.sl 0 0 L.length c)),(18,.c (.i (L.length:Int))),(19,.c (.i 0))],[(0,Ent.mk false (pcell L) 0)],1⟩∧AR 19 Tryz.f19 (cx w β n []) 0 ⟨[(0,.c (.sl 0 0 L.length c)),(17,.c (.sl 0 0 L.length c)),(18,.c (.i (L.length:Int))),(19,.c (.i 0))],[(0,Ent.mk false (pcell L) 0)],1⟩ (REff w β E)) :
  BO 19 Tryz.f19 (cx w β n []) [.c (.sl 0 0 L.length c)] [(0,Ent.mk false (pcell L) 0)] 1 (REff w β E) :=
 (tf ((L.length:Int)==0)).elim (fun h0=>(match l0 h0 with | e=>za5 (yapr (zaa h0 rfl)) e)) (fun h0=>(tf (decide (64<(L.length:Int)))).elim (fun h1=>(match l1 h0 h1 with | e=>za5 (yapm (zaa (zad h0) (zaa h1 rfl))) e)) (fun h1=>(match l2 h0 h1 with | ⟨lo,z⟩=>yanh (zaa (zad h0) (zaa (zad h1) rfl)) lo (fun _ hk=>Nat.lt_of_lt_of_le hk hn) z)))
theorem yawe (h:(decide ((j:Int)<(L.length:Int))&&(decide ((j:Int)<(L.length:Int))&&(Nat.ble (0+(j:Int).toNat*5+5) (pcell L).length&&(decide ((elt L j).op<1)&&true))))=true) (c0:pe (.ag (((pcell L).drop (0+(j:Int).toNat*5)).take 5))=pe (.ag (elt L j).cs)) :
  AR 19 Tryz.f19 (cx w β n []) 0 (ckAK L c j) (REff w β ⟨.c (.i 4),[],none⟩) :=
 zah [] none [true,true,true] [true] [(5,1)] Tryz.func19 (zau rfl n) (by kernel_rfl) h (zac c0 zae)
theorem yaww (h:(decide ((j:Int)<(L.length:Int))&&(decide ((j:Int)<(L.length:Int))&&(Nat.ble (0+(j:Int).toNat*5+5) (pcell L).length&&(!decide ((elt L j).op<1)&&(decide (15<(elt L j).op)&&true)))))=true) (c0:pe (.ag (((pcell L).drop (0+(j:Int).toNat*5)).take 5))=pe (.ag (elt L j).cs)) :
  AR 19 Tryz.f19 (cx w β n []) 0 (ckAK L c j) (REff w β ⟨.c (.i 4),[],none⟩) :=
 zah [] none [true,false,true] [true] [(5,1)] Tryz.func19 (zau rfl n) (by kernel_rfl) h (zac c0 zae)
theorem yawi (h:(decide ((j:Int)<(L.length:Int))&&(decide ((j:Int)<(L.length:Int))&&(Nat.ble (0+(j:Int).toNat*5+5) (pcell L).length&&(!decide ((elt L j).op<1)&&(!decide (15<(elt L j).op)&&true)))))=true) (c0:pe (.ag (((pcell L).drop (0+(j:Int).toNat*5)).take 5))=pe (.ag (elt L j).cs)) (lo:Kn.Low ⟨[(0,.c (.sl 0 0 L.length c)),(17,.c (.sl 0 0 L.length c)),(18,.c (.i (L.length:Int))),(19,.c (.i (IntKind.i64.wrap ((j:Int)+1))))],[(0,Ent.mk false (pcell L) 0)],1⟩) (hF:∀ k,C.F k→k<1) (z:AR 19 Tryz.f19 C 0 ⟨[(0,.c (.sl 0 0 L.length c)),(17,.c (.sl 0 0 L.length c)),(18,.c (.i (L.length:Int))),(19,.c (.i (IntKind.i64.wrap ((j:Int)+1))))],[(0,Ent.mk false (pcell L) 0)],1⟩ R) :
  AR 19 Tryz.f19 C 0 (ckAK L c j) R :=
 zai [true,false,false] [true] [(5,1)] Tryz.func19 (by kernel_rfl) h (zac c0 zae) lo hF z
theorem yauo (hn:n≤1)
  (l0:(decide ((elt L j).op<1))=true→(decide ((j:Int)<(L.length:Int)))=true∧(decide ((j:Int)<(L.length:Int)))=true∧(Nat.ble (0+(j:Int).toNat*5+5) (pcell L).length)=true∧(pe (.ag (((pcell L).drop (0+(j:Int).toNat*5)).take 5))=pe (.ag (elt L j).cs))∧((⟨.c (.i 4),[],none⟩:Eff)=E))
  (l1:(decide ((elt L j).op<1))=false→(decide (15<(elt L j).op))=true→(decide ((j:Int)<(L.length:Int)))=true∧(decide ((j:Int)<(L.length:Int)))=true∧(Nat.ble (0+(j:Int).toNat*5+5) (pcell L).length)=true∧(pe (.ag (((pcell L).drop (0+(j:Int).toNat*5)).take 5))=pe (.ag (elt L j).cs))∧((⟨.c (.i 4),[],none⟩:Eff)=E))
  (l2:(decide ((elt L j).op<1))=false→(decide (15<(elt L j).op))=false→(decide ((j:Int)<(L.length:Int)))=true∧(decide ((j:Int)<(L.length:Int)))=true∧(Nat.ble (0+(j:Int).toNat*5+5) (pcell L).length)=true∧(pe (.ag (((pcell L).drop (0+(j:Int).toNat*5)).take 5))=pe (.ag (elt L j).cs))∧Kn.Low ⟨[(0,.c (.sl 0 0 L.length c)),(17,.c (.sl 0 0 L.length c)),(18,.c (.i (L.length:Int))),(19,.c (.i (IntKind.i64.wrap ((j:Int)+1))))],[(0,Ent.mk false (pcell L) 0)],1⟩∧AR 19 Tryz.f19 (cx w β n []) 0 ⟨[(0,.c (.sl 0 0 L.length c)),(17,.c (.sl 0 0 L.length c)),(18,.c (.i (L.length:Int))),(19,.c (.i (IntKind.i64.wrap ((j:Int)+1))))],[(0,Ent.mk false (pcell L) 0)],1⟩ (REff w β E)) :
  AR 19 Tryz.f19 (cx w β n []) 0 (ckAK L c j) (REff w β E) :=
 (tf (decide ((elt L j).op<1))).elim (fun h0=>(match l0 h0 with | ⟨o0,o1,o2,c0,e⟩=>za5 (yawe (zaa o0 (zaa o1 (zaa o2 (zaa h0 rfl)))) c0) e)) (fun h0=>(tf (decide (15<(elt L j).op))).elim (fun h1=>(match l1 h0 h1 with | ⟨o0,o1,o2,c0,e⟩=>za5 (yaww (zaa o0 (zaa o1 (zaa o2 (zaa (zad h0) (zaa h1 rfl))))) c0) e)) (fun h1=>(match l2 h0 h1 with | ⟨o0,o1,o2,c0,lo,z⟩=>yawi (zaa o0 (zaa o1 (zaa o2 (zaa (zad h0) (zaa (zad h1) rfl))))) c0 lo (fun _ hk=>Nat.lt_of_lt_of_le hk hn) z)))
theorem yas2 (h:(!decide ((j:Int)<(L.length:Int))&&true)=true) (lo:Kn.Low ⟨[(0,.c (.sl 0 0 L.length c)),(32,.c (.sl 0 0 L.length c)),(33,.c (.i (L.length:Int))),(34,.c (.i 0))],[(0,Ent.mk false (pcell L) 0)],1⟩) (hF:∀ k,C.F k→k<1) (z:AR 19 Tryz.f19 C 1 ⟨[(0,.c (.sl 0 0 L.length c)),(32,.c (.sl 0 0 L.length c)),(33,.c (.i (L.length:Int))),(34,.c (.i 0))],[(0,Ent.mk false (pcell L) 0)],1⟩ R) :
  AR 19 Tryz.f19 C 0 (ckAK L c j) R :=
 zai [false] [true] [] Tryz.func19 (by kernel_rfl) h zae lo hF z
theorem yaxq (h:(decide ((j:Int)<(L.length:Int))&&(decide ((j:Int)<(L.length:Int))&&(Nat.ble (0+(j:Int).toNat*5+5) (pcell L).length&&(!inB (elt L j) (↑(L.length - 1 - j):Int)&&true))))=true) (c0:pe (.ag (((pcell L).drop (0+(j:Int).toNat*5)).take 5))=pe (.ag (elt L j).cs)) (c1:pe (.c (.i (IntKind.i64.wrap (IntKind.i64.wrap ((L.length:Int) - 1) - (j:Int)))))=pe (.c (.i (↑(L.length - 1 - j):Int)))) (c2:Ok 51 [.ag (elt L j).cs,.c (.i (↑(L.length - 1 - j):Int))] (.c (.b (inB (elt L j) (↑(L.length - 1 - j):Int))))) :
  AR 19 Tryz.f19 (cx w β n []) 1 (ckBK L c j) (REff w β ⟨.c (.i 3),[],none⟩) :=
 zah [] none [true,true] [true] [(11,2),(12,5)] Tryz.func19 (zau rfl n) (by kernel_rfl) h (zac c0 (zac c1 (zab c2 zae)))
theorem yaxv (h:(decide ((j:Int)<(L.length:Int))&&(decide ((j:Int)<(L.length:Int))&&(Nat.ble (0+(j:Int).toNat*5+5) (pcell L).length&&(!!inB (elt L j) (↑(L.length - 1 - j):Int)&&true))))=true) (c0:pe (.ag (((pcell L).drop (0+(j:Int).toNat*5)).take 5))=pe (.ag (elt L j).cs)) (c1:pe (.c (.i (IntKind.i64.wrap (IntKind.i64.wrap ((L.length:Int) - 1) - (j:Int)))))=pe (.c (.i (↑(L.length - 1 - j):Int)))) (c2:Ok 51 [.ag (elt L j).cs,.c (.i (↑(L.length - 1 - j):Int))] (.c (.b (inB (elt L j) (↑(L.length - 1 - j):Int))))) (lo:Kn.Low ⟨[(0,.c (.sl 0 0 L.length c)),(32,.c (.sl 0 0 L.length c)),(33,.c (.i (L.length:Int))),(34,.c (.i (IntKind.i64.wrap ((j:Int)+1))))],[(0,Ent.mk false (pcell L) 0)],1⟩) (hF:∀ k,C.F k→k<1) (z:AR 19 Tryz.f19 C 1 ⟨[(0,.c (.sl 0 0 L.length c)),(32,.c (.sl 0 0 L.length c)),(33,.c (.i (L.length:Int))),(34,.c (.i (IntKind.i64.wrap ((j:Int)+1))))],[(0,Ent.mk false (pcell L) 0)],1⟩ R) :
  AR 19 Tryz.f19 C 1 (ckBK L c j) R :=
 zai [true,false] [true] [(11,2),(12,5)] Tryz.func19 (by kernel_rfl) h (zac c0 (zac c1 (zab c2 zae))) lo hF z
theorem yarq (hn:n≤1)
  (l0:(!inB (elt L j) (↑(L.length - 1 - j):Int))=true→(decide ((j:Int)<(L.length:Int)))=true∧(decide ((j:Int)<(L.length:Int)))=true∧(Nat.ble (0+(j:Int).toNat*5+5) (pcell L).length)=true∧(pe (.ag (((pcell L).drop (0+(j:Int).toNat*5)).take 5))=pe (.ag (elt L j).cs))∧(pe (.c (.i (IntKind.i64.wrap (IntKind.i64.wrap ((L.length:Int) - 1) - (j:Int)))))=pe (.c (.i (↑(L.length - 1 - j):Int))))∧(Ok 51 [.ag (elt L j).cs,.c (.i (↑(L.length - 1 - j):Int))] (.c (.b (inB (elt L j) (↑(L.length - 1 - j):Int)))))∧((⟨.c (.i 3),[],none⟩:Eff)=E))
  (l1:(!inB (elt L j) (↑(L.length - 1 - j):Int))=false→(decide ((j:Int)<(L.length:Int)))=true∧(decide ((j:Int)<(L.length:Int)))=true∧(Nat.ble (0+(j:Int).toNat*5+5) (pcell L).length)=true∧(pe (.ag (((pcell L).drop (0+(j:Int).toNat*5)).take 5))=pe (.ag (elt L j).cs))∧(pe (.c (.i (IntKind.i64.wrap (IntKind.i64.wrap ((L.length:Int) - 1) - (j:Int)))))=pe (.c (.i (↑(L.length - 1 - j):Int))))∧(Ok 51 [.ag (elt L j).cs,.c (.i (↑(L.length - 1 - j):Int))] (.c (.b (inB (elt L j) (↑(L.length - 1 - j):Int)))))∧Kn.Low ⟨[(0,.c (.sl 0 0 L.length c)),(32,.c (.sl 0 0 L.length c)),(33,.c (.i (L.length:Int))),(34,.c (.i (IntKind.i64.wrap ((j:Int)+1))))],[(0,Ent.mk false (pcell L) 0)],1⟩∧AR 19 Tryz.f19 (cx w β n []) 1 ⟨[(0,.c (.sl 0 0 L.length c)),(32,.c (.sl 0 0 L.length c)),(33,.c (.i (L.length:Int))),(34,.c (.i (IntKind.i64.wrap ((j:Int)+1))))],[(0,Ent.mk false (pcell L) 0)],1⟩ (REff w β E)) :
  AR 19 Tryz.f19 (cx w β n []) 1 (ckBK L c j) (REff w β E) :=
 (tf (!inB (elt L j) (↑(L.length - 1 - j):Int))).elim (fun h0=>(match l0 h0 with | ⟨o0,o1,o2,c0,c1,c2,e⟩=>za5 (yaxq (zaa o0 (zaa o1 (zaa o2 (zaa h0 rfl)))) c0 c1 c2) e)) (fun h0=>(match l1 h0 with | ⟨o0,o1,o2,c0,c1,c2,lo,z⟩=>yaxv (zaa o0 (zaa o1 (zaa o2 (zaa (zad h0) rfl)))) c0 c1 c2 lo (fun _ hk=>Nat.lt_of_lt_of_le hk hn) z))
theorem yato (h:(!decide ((j:Int)<(L.length:Int))&&true)=true) (lo:Kn.Low ⟨[(0,.c (.sl 0 0 L.length c)),(48,.c (.sl 0 0 L.length c)),(49,.c (.i (L.length:Int))),(50,.c (.i 0))],[(0,Ent.mk false (pcell L) 0)],1⟩) (hF:∀ k,C.F k→k<1) (z:AR 19 Tryz.f19 C 2 ⟨[(0,.c (.sl 0 0 L.length c)),(48,.c (.sl 0 0 L.length c)),(49,.c (.i (L.length:Int))),(50,.c (.i 0))],[(0,Ent.mk false (pcell L) 0)],1⟩ R) :
  AR 19 Tryz.f19 C 1 (ckBK L c j) R :=
 zai [false] [true] [] Tryz.func19 (by kernel_rfl) h zae lo hF z
theorem yawu (h:(decide ((j:Int)<(L.length:Int))&&(decide ((j:Int)<(L.length:Int))&&(Nat.ble (0+(j:Int).toNat*5+5) (pcell L).length&&(!zbc (elt L j)&&true))))=true) (c0:pe (.ag (((pcell L).drop (0+(j:Int).toNat*5)).take 5))=pe (.ag (elt L j).cs)) (c1:Ok 52 [.ag (elt L j).cs] (.c (.b (zbc (elt L j))))) :
  AR 19 Tryz.f19 (cx w β n []) 2 (ckCK L c j) (REff w β ⟨.c (.i 1),[],none⟩) :=
 zah [] none [true,true] [true] [(17,1)] Tryz.func19 (zau rfl n) (by kernel_rfl) h (zac c0 (zab c1 zae))
theorem yaz6 (h:(decide ((j:Int)<(L.length:Int))&&(decide ((j:Int)<(L.length:Int))&&(Nat.ble (0+(j:Int).toNat*5+5) (pcell L).length&&(!!zbc (elt L j)&&true))))=true) (c0:pe (.ag (((pcell L).drop (0+(j:Int).toNat*5)).take 5))=pe (.ag (elt L j).cs)) (c1:Ok 52 [.ag (elt L j).cs] (.c (.b (zbc (elt L j))))) (lo:Kn.Low ⟨[(0,.c (.sl 0 0 L.length c)),(48,.c (.sl 0 0 L.length c)),(49,.c (.i (L.length:Int))),(50,.c (.i (IntKind.i64.wrap ((j:Int)+1))))],[(0,Ent.mk false (pcell L) 0)],1⟩) (hF:∀ k,C.F k→k<1) (z:AR 19 Tryz.f19 C 2 ⟨[(0,.c (.sl 0 0 L.length c)),(48,.c (.sl 0 0 L.length c)),(49,.c (.i (L.length:Int))),(50,.c (.i (IntKind.i64.wrap ((j:Int)+1))))],[(0,Ent.mk false (pcell L) 0)],1⟩ R) :
  AR 19 Tryz.f19 C 2 (ckCK L c j) R :=
 zai [true,false] [true] [(17,1)] Tryz.func19 (by kernel_rfl) h (zac c0 (zab c1 zae)) lo hF z
theorem yavm (hn:n≤1)
  (l0:(!zbc (elt L j))=true→(decide ((j:Int)<(L.length:Int)))=true∧(decide ((j:Int)<(L.length:Int)))=true∧(Nat.ble (0+(j:Int).toNat*5+5) (pcell L).length)=true∧(pe (.ag (((pcell L).drop (0+(j:Int).toNat*5)).take 5))=pe (.ag (elt L j).cs))∧(Ok 52 [.ag (elt L j).cs] (.c (.b (zbc (elt L j)))))∧((⟨.c (.i 1),[],none⟩:Eff)=E))
  (l1:(!zbc (elt L j))=false→(decide ((j:Int)<(L.length:Int)))=true∧(decide ((j:Int)<(L.length:Int)))=true∧(Nat.ble (0+(j:Int).toNat*5+5) (pcell L).length)=true∧(pe (.ag (((pcell L).drop (0+(j:Int).toNat*5)).take 5))=pe (.ag (elt L j).cs))∧(Ok 52 [.ag (elt L j).cs] (.c (.b (zbc (elt L j)))))∧Kn.Low ⟨[(0,.c (.sl 0 0 L.length c)),(48,.c (.sl 0 0 L.length c)),(49,.c (.i (L.length:Int))),(50,.c (.i (IntKind.i64.wrap ((j:Int)+1))))],[(0,Ent.mk false (pcell L) 0)],1⟩∧AR 19 Tryz.f19 (cx w β n []) 2 ⟨[(0,.c (.sl 0 0 L.length c)),(48,.c (.sl 0 0 L.length c)),(49,.c (.i (L.length:Int))),(50,.c (.i (IntKind.i64.wrap ((j:Int)+1))))],[(0,Ent.mk false (pcell L) 0)],1⟩ (REff w β E)) :
  AR 19 Tryz.f19 (cx w β n []) 2 (ckCK L c j) (REff w β E) :=
 (tf (!zbc (elt L j))).elim (fun h0=>(match l0 h0 with | ⟨o0,o1,o2,c0,c1,e⟩=>za5 (yawu (zaa o0 (zaa o1 (zaa o2 (zaa h0 rfl)))) c0 c1) e)) (fun h0=>(match l1 h0 with | ⟨o0,o1,o2,c0,c1,lo,z⟩=>yaz6 (zaa o0 (zaa o1 (zaa o2 (zaa (zad h0) rfl)))) c0 c1 lo (fun _ hk=>Nat.lt_of_lt_of_le hk hn) z))
theorem yatu (h:(!decide ((j:Int)<(L.length:Int))&&(decide (0≤IntKind.i64.wrap ((L.length:Int) - 1))&&decide (IntKind.i64.wrap ((L.length:Int) - 1)<(L.length:Int))&&(AC.isI ((pcell L)[0+(IntKind.i64.wrap ((L.length:Int) - 1)).toNat*5+0]?.getD (.b false))&&Nat.blt (0+(IntKind.i64.wrap ((L.length:Int) - 1)).toNat*5+0) (pcell L).length&&(zb3 L != 15&&true))))=true) (c0:pe (.c (.i (AC.asI ((pcell L)[0+(IntKind.i64.wrap ((L.length:Int) - 1)).toNat*5+0]?.getD (.b false)))))=pe (.c (.i (zb3 L)))) :
  AR 19 Tryz.f19 (cx w β n []) 2 (ckCK L c j) (REff w β ⟨.c (.i 1),[],none⟩) :=
 zah [] none [false,true] [true] [(21,6)] Tryz.func19 (zau rfl n) (by kernel_rfl) h (zac c0 zae)
theorem yasg (h:(!decide ((j:Int)<(L.length:Int))&&(decide (0≤IntKind.i64.wrap ((L.length:Int) - 1))&&decide (IntKind.i64.wrap ((L.length:Int) - 1)<(L.length:Int))&&(AC.isI ((pcell L)[0+(IntKind.i64.wrap ((L.length:Int) - 1)).toNat*5+0]?.getD (.b false))&&Nat.blt (0+(IntKind.i64.wrap ((L.length:Int) - 1)).toNat*5+0) (pcell L).length&&(!zb3 L != 15&&true))))=true) (c0:pe (.c (.i (AC.asI ((pcell L)[0+(IntKind.i64.wrap ((L.length:Int) - 1)).toNat*5+0]?.getD (.b false)))))=pe (.c (.i (zb3 L)))) :
  AR 19 Tryz.f19 (cx w β n []) 2 (ckCK L c j) (REff w β ⟨.c (.i 0),[],none⟩) :=
 zah [] none [false,false] [true] [(21,6)] Tryz.func19 (zau rfl n) (by kernel_rfl) h (zac c0 zae)
theorem yana
  (l0:(zb3 L != 15)=true→(!decide ((j:Int)<(L.length:Int)))=true∧(decide (0≤IntKind.i64.wrap ((L.length:Int) - 1))&&decide (IntKind.i64.wrap ((L.length:Int) - 1)<(L.length:Int)))=true∧(AC.isI ((pcell L)[0+(IntKind.i64.wrap ((L.length:Int) - 1)).toNat*5+0]?.getD (.b false))&&Nat.blt (0+(IntKind.i64.wrap ((L.length:Int) - 1)).toNat*5+0) (pcell L).length)=true∧(pe (.c (.i (AC.asI ((pcell L)[0+(IntKind.i64.wrap ((L.length:Int) - 1)).toNat*5+0]?.getD (.b false)))))=pe (.c (.i (zb3 L))))∧((⟨.c (.i 1),[],none⟩:Eff)=E))
  (l1:(zb3 L != 15)=false→(!decide ((j:Int)<(L.length:Int)))=true∧(decide (0≤IntKind.i64.wrap ((L.length:Int) - 1))&&decide (IntKind.i64.wrap ((L.length:Int) - 1)<(L.length:Int)))=true∧(AC.isI ((pcell L)[0+(IntKind.i64.wrap ((L.length:Int) - 1)).toNat*5+0]?.getD (.b false))&&Nat.blt (0+(IntKind.i64.wrap ((L.length:Int) - 1)).toNat*5+0) (pcell L).length)=true∧(pe (.c (.i (AC.asI ((pcell L)[0+(IntKind.i64.wrap ((L.length:Int) - 1)).toNat*5+0]?.getD (.b false)))))=pe (.c (.i (zb3 L))))∧((⟨.c (.i 0),[],none⟩:Eff)=E)) :
  AR 19 Tryz.f19 (cx w β n []) 2 (ckCK L c j) (REff w β E) :=
 (tf (zb3 L != 15)).elim (fun h0=>(match l0 h0 with | ⟨o0,o1,o2,c0,e⟩=>za5 (yatu (zaa o0 (zaa o1 (zaa o2 (zaa h0 rfl)))) c0) e)) (fun h0=>(match l1 h0 with | ⟨o0,o1,o2,c0,e⟩=>za5 (yasg (zaa o0 (zaa o1 (zaa o2 (zaa (zad h0) rfl)))) c0) e))
end
section
variable {V:AV} {n:Int} {i:Ins}
theorem yand {d:Int} (h:(decide (0≤d)&&true)=true) :
  Ok 94 [.c (.i d)] (.c (.b (decide (d<6)))) :=
 zaf [true] [] [] Tryz.func94 rfl rfl rfl rfl (by kernel_rfl) h zae
theorem yami {d:Int} (h:(!decide (0≤d)&&true)=true) :
  Ok 94 [.c (.i d)] (.c (.b false)) :=
 zaf [false] [] [] Tryz.func94 rfl rfl rfl rfl (by kernel_rfl) h zae
theorem yai5 {d:Int}
  (l0:(decide (0≤d))=true→(AV.c (.b (decide (d<6)))=V))
  (l1:(decide (0≤d))=false→(AV.c (.b false)=V)) :
  Ok 94 [.c (.i d)] V :=
 (tf (decide (0≤d))).elim (fun h0=>(match l0 h0 with | e=>zam (yand (zaa h0 rfl)) e)) (fun h0=>(match l1 h0 with | e=>zam (yami (zaa (zad h0) rfl)) e))
theorem zx1 {d:Int} (h:(d==-1&&true)=true) :
  Ok 97 [.c (.i d)] (.c (.b true)) :=
 zaf [true] [] [] Tryz.func97 rfl rfl rfl rfl (by kernel_rfl) h zae
theorem zyu {d:Int} (h:(!d==-1&&true)=true) (c0:Ok 94 [.c (.i d)] (.c (.b (regB d)))) :
  Ok 97 [.c (.i d)] (.c (.b (regB d))) :=
 zaf [false] [] [] Tryz.func97 rfl rfl rfl rfl (by kernel_rfl) h (zab c0 zae)
theorem zvd {d:Int}
  (l0:(d==-1)=true→(AV.c (.b true)=V))
  (l1:(d==-1)=false→(Ok 94 [.c (.i d)] (.c (.b (regB d))))∧(AV.c (.b (regB d))=V)) :
  Ok 97 [.c (.i d)] V :=
 (tf (d==-1)).elim (fun h0=>(match l0 h0 with | e=>zam (zx1 (zaa h0 rfl)) e)) (fun h0=>(match l1 h0 with | ⟨c0,e⟩=>zam (zyu (zaa (zad h0) rfl) c0) e))
theorem yalx {d:BitVec 64} (h:(eqb d 1#64&&true)=true) :
  Ok 95 [.c (.u d)] (.c (.b true)) :=
 zaf [true,true,true] [] [] Tryz.func95 rfl rfl rfl rfl (by kernel_rfl) h zae
theorem yak1 {d:BitVec 64} (h:(!eqb d 1#64&&(eqb d 2#64&&true))=true) :
  Ok 95 [.c (.u d)] (.c (.b true)) :=
 zaf [false,true,true] [] [] Tryz.func95 rfl rfl rfl rfl (by kernel_rfl) h zae
theorem yakh {d:BitVec 64} (h:(!eqb d 1#64&&(!eqb d 2#64&&(eqb d 4#64&&true)))=true) :
  Ok 95 [.c (.u d)] (.c (.b true)) :=
 zaf [false,false,true] [] [] Tryz.func95 rfl rfl rfl rfl (by kernel_rfl) h zae
theorem yaic {d:BitVec 64} (h:(!eqb d 1#64&&(!eqb d 2#64&&(!eqb d 4#64&&true)))=true) :
  Ok 95 [.c (.u d)] (.c (.b (eqb d 8#64))) :=
 zaf [false,false,false] [] [] Tryz.func95 rfl rfl rfl rfl (by kernel_rfl) h zae
theorem yaf3 {d:BitVec 64}
  (l0:(eqb d 1#64)=true→(AV.c (.b true)=V))
  (l1:(eqb d 1#64)=false→(eqb d 2#64)=true→(AV.c (.b true)=V))
  (l2:(eqb d 1#64)=false→(eqb d 2#64)=false→(eqb d 4#64)=true→(AV.c (.b true)=V))
  (l3:(eqb d 1#64)=false→(eqb d 2#64)=false→(eqb d 4#64)=false→(AV.c (.b (eqb d 8#64))=V)) :
  Ok 95 [.c (.u d)] V :=
 (tf (eqb d 1#64)).elim (fun h0=>(match l0 h0 with | e=>zam (yalx (zaa h0 rfl)) e)) (fun h0=>(tf (eqb d 2#64)).elim (fun h1=>(match l1 h0 h1 with | e=>zam (yak1 (zaa (zad h0) (zaa h1 rfl))) e)) (fun h1=>(tf (eqb d 4#64)).elim (fun h2=>(match l2 h0 h1 h2 with | e=>zam (yakh (zaa (zad h0) (zaa (zad h1) (zaa h2 rfl)))) e)) (fun h2=>(match l3 h0 h1 h2 with | e=>zam (yaic (zaa (zad h0) (zaa (zad h1) (zaa (zad h2) rfl)))) e))))
theorem yagz {d:Int} (h:(decide (0≤d)&&true)=true) :
  Ok 96 [.c (.i d),.c (.i n)] (.c (.b (decide (d<n)))) :=
 zaf [true] [] [] Tryz.func96 rfl rfl rfl rfl (by kernel_rfl) h zae
theorem yagj {d:Int} (h:(!decide (0≤d)&&true)=true) :
  Ok 96 [.c (.i d),.c (.i n)] (.c (.b false)) :=
 zaf [false] [] [] Tryz.func96 rfl rfl rfl rfl (by kernel_rfl) h zae
theorem yaer {d:Int}
  (l0:(decide (0≤d))=true→(AV.c (.b (decide (d<n)))=V))
  (l1:(decide (0≤d))=false→(AV.c (.b false)=V)) :
  Ok 96 [.c (.i d),.c (.i n)] V :=
 (tf (decide (0≤d))).elim (fun h0=>(match l0 h0 with | e=>zam (yagz (zaa h0 rfl)) e)) (fun h0=>(match l1 h0 with | e=>zam (yagj (zaa (zad h0) rfl)) e))
theorem zza (h:(i.op==10&&(i.op==10&&(regB i.d&&(regB i.s&&(zc6 i.im&&(decide (-64≤i.of)&&true))))))=true) (c0:Ok 94 [.c (.i i.d)] (.c (.b (regB i.d)))) (c1:Ok 94 [.c (.i i.s)] (.c (.b (regB i.s)))) (c2:Ok 95 [.c (.u i.im)] (.c (.b (zc6 i.im)))) :
  Ok 51 [.ag i.cs,.c (.i n)] (.c (.b (decide (i.of≤64)))) :=
 zaf [true,true,true,true,true,true] [] [] Tryz.func51 rfl rfl rfl rfl (by kernel_rfl) h (zab c0 (zab c1 (zab c2 zae)))
theorem zw1 (h:(i.op==10&&(i.op==10&&(regB i.d&&(regB i.s&&(zc6 i.im&&(!decide (-64≤i.of)&&true))))))=true) (c0:Ok 94 [.c (.i i.d)] (.c (.b (regB i.d)))) (c1:Ok 94 [.c (.i i.s)] (.c (.b (regB i.s)))) (c2:Ok 95 [.c (.u i.im)] (.c (.b (zc6 i.im)))) :
  Ok 51 [.ag i.cs,.c (.i n)] (.c (.b false)) :=
 zaf [true,true,true,true,true,false] [] [] Tryz.func51 rfl rfl rfl rfl (by kernel_rfl) h (zab c0 (zab c1 (zab c2 zae)))
theorem zy3 (h:(i.op==10&&(i.op==10&&(regB i.d&&(regB i.s&&(!zc6 i.im&&true)))))=true) (c0:Ok 94 [.c (.i i.d)] (.c (.b (regB i.d)))) (c1:Ok 94 [.c (.i i.s)] (.c (.b (regB i.s)))) (c2:Ok 95 [.c (.u i.im)] (.c (.b (zc6 i.im)))) :
  Ok 51 [.ag i.cs,.c (.i n)] (.c (.b false)) :=
 zaf [true,true,true,true,false,false] [] [] Tryz.func51 rfl rfl rfl rfl (by kernel_rfl) h (zab c0 (zab c1 (zab c2 zae)))
theorem zzo (h:(i.op==10&&(i.op==10&&(regB i.d&&(!regB i.s&&true))))=true) (c0:Ok 94 [.c (.i i.d)] (.c (.b (regB i.d)))) (c1:Ok 94 [.c (.i i.s)] (.c (.b (regB i.s)))) :
  Ok 51 [.ag i.cs,.c (.i n)] (.c (.b false)) :=
 zaf [true,true,true,false,false,false] [] [] Tryz.func51 rfl rfl rfl rfl (by kernel_rfl) h (zab c0 (zab c1 zae))
theorem zw8 (h:(i.op==10&&(i.op==10&&(!regB i.d&&true)))=true) (c0:Ok 94 [.c (.i i.d)] (.c (.b (regB i.d)))) :
  Ok 51 [.ag i.cs,.c (.i n)] (.c (.b false)) :=
 zaf [true,true,false,false,false,false] [] [] Tryz.func51 rfl rfl rfl rfl (by kernel_rfl) h (zab c0 zae)
theorem zzs (h:(!i.op==10&&(i.op==11&&(regB i.d&&(regB i.s&&(zc6 i.im&&(decide (-64≤i.of)&&true))))))=true) (c0:Ok 94 [.c (.i i.d)] (.c (.b (regB i.d)))) (c1:Ok 94 [.c (.i i.s)] (.c (.b (regB i.s)))) (c2:Ok 95 [.c (.u i.im)] (.c (.b (zc6 i.im)))) :
  Ok 51 [.ag i.cs,.c (.i n)] (.c (.b (decide (i.of≤64)))) :=
 zaf [false,true,true,true,true,true] [] [] Tryz.func51 rfl rfl rfl rfl (by kernel_rfl) h (zab c0 (zab c1 (zab c2 zae)))
theorem zyz (h:(!i.op==10&&(i.op==11&&(regB i.d&&(regB i.s&&(zc6 i.im&&(!decide (-64≤i.of)&&true))))))=true) (c0:Ok 94 [.c (.i i.d)] (.c (.b (regB i.d)))) (c1:Ok 94 [.c (.i i.s)] (.c (.b (regB i.s)))) (c2:Ok 95 [.c (.u i.im)] (.c (.b (zc6 i.im)))) :
  Ok 51 [.ag i.cs,.c (.i n)] (.c (.b false)) :=
 zaf [false,true,true,true,true,false] [] [] Tryz.func51 rfl rfl rfl rfl (by kernel_rfl) h (zab c0 (zab c1 (zab c2 zae)))
theorem zyp (h:(!i.op==10&&(i.op==11&&(regB i.d&&(regB i.s&&(!zc6 i.im&&true)))))=true) (c0:Ok 94 [.c (.i i.d)] (.c (.b (regB i.d)))) (c1:Ok 94 [.c (.i i.s)] (.c (.b (regB i.s)))) (c2:Ok 95 [.c (.u i.im)] (.c (.b (zc6 i.im)))) :
  Ok 51 [.ag i.cs,.c (.i n)] (.c (.b false)) :=
 zaf [false,true,true,true,false,false] [] [] Tryz.func51 rfl rfl rfl rfl (by kernel_rfl) h (zab c0 (zab c1 (zab c2 zae)))
theorem zxm (h:(!i.op==10&&(i.op==11&&(regB i.d&&(!regB i.s&&true))))=true) (c0:Ok 94 [.c (.i i.d)] (.c (.b (regB i.d)))) (c1:Ok 94 [.c (.i i.s)] (.c (.b (regB i.s)))) :
  Ok 51 [.ag i.cs,.c (.i n)] (.c (.b false)) :=
 zaf [false,true,true,false,false,false] [] [] Tryz.func51 rfl rfl rfl rfl (by kernel_rfl) h (zab c0 (zab c1 zae))
theorem zy7 (h:(!i.op==10&&(i.op==11&&(!regB i.d&&true)))=true) (c0:Ok 94 [.c (.i i.d)] (.c (.b (regB i.d)))) :
  Ok 51 [.ag i.cs,.c (.i n)] (.c (.b false)) :=
 zaf [false,true,false,false,false,false] [] [] Tryz.func51 rfl rfl rfl rfl (by kernel_rfl) h (zab c0 zae)
theorem zvm (h:(!i.op==10&&(!i.op==11&&(i.op==12&&true)))=true) (c0:Ok 96 [.c (.i i.of),.c (.i n)] (.c (.b (zch i.of n)))) :
  Ok 51 [.ag i.cs,.c (.i n)] (.c (.b (zch i.of n))) :=
 zaf [false,false,true] [] [] Tryz.func51 rfl rfl rfl rfl (by kernel_rfl) h (zab c0 zae)
theorem zuw (h:(!i.op==10&&(!i.op==11&&(!i.op==12&&(i.op==13&&(i.op==13&&(regB i.d&&(srcB i.s&&true)))))))=true) (c0:Ok 94 [.c (.i i.d)] (.c (.b (regB i.d)))) (c1:Ok 97 [.c (.i i.s)] (.c (.b (srcB i.s)))) (c2:Ok 96 [.c (.i i.of),.c (.i n)] (.c (.b (zch i.of n)))) :
  Ok 51 [.ag i.cs,.c (.i n)] (.c (.b (zch i.of n))) :=
 zaf [false,false,false,true,true,true,true] [] [] Tryz.func51 rfl rfl rfl rfl (by kernel_rfl) h (zab c0 (zab c1 (zab c2 zae)))
theorem zwe (h:(!i.op==10&&(!i.op==11&&(!i.op==12&&(i.op==13&&(i.op==13&&(regB i.d&&(!srcB i.s&&true)))))))=true) (c0:Ok 94 [.c (.i i.d)] (.c (.b (regB i.d)))) (c1:Ok 97 [.c (.i i.s)] (.c (.b (srcB i.s)))) :
  Ok 51 [.ag i.cs,.c (.i n)] (.c (.b false)) :=
 zaf [false,false,false,true,true,true,false] [] [] Tryz.func51 rfl rfl rfl rfl (by kernel_rfl) h (zab c0 (zab c1 zae))
theorem zue (h:(!i.op==10&&(!i.op==11&&(!i.op==12&&(i.op==13&&(i.op==13&&(!regB i.d&&true))))))=true) (c0:Ok 94 [.c (.i i.d)] (.c (.b (regB i.d)))) :
  Ok 51 [.ag i.cs,.c (.i n)] (.c (.b false)) :=
 zaf [false,false,false,true,true,false,false] [] [] Tryz.func51 rfl rfl rfl rfl (by kernel_rfl) h (zab c0 zae)
theorem zs7 (h:(!i.op==10&&(!i.op==11&&(!i.op==12&&(!i.op==13&&(i.op==14&&(regB i.d&&(srcB i.s&&true)))))))=true) (c0:Ok 94 [.c (.i i.d)] (.c (.b (regB i.d)))) (c1:Ok 97 [.c (.i i.s)] (.c (.b (srcB i.s)))) (c2:Ok 96 [.c (.i i.of),.c (.i n)] (.c (.b (zch i.of n)))) :
  Ok 51 [.ag i.cs,.c (.i n)] (.c (.b (zch i.of n))) :=
 zaf [false,false,false,false,true,true,true] [] [] Tryz.func51 rfl rfl rfl rfl (by kernel_rfl) h (zab c0 (zab c1 (zab c2 zae)))
theorem ztu (h:(!i.op==10&&(!i.op==11&&(!i.op==12&&(!i.op==13&&(i.op==14&&(regB i.d&&(!srcB i.s&&true)))))))=true) (c0:Ok 94 [.c (.i i.d)] (.c (.b (regB i.d)))) (c1:Ok 97 [.c (.i i.s)] (.c (.b (srcB i.s)))) :
  Ok 51 [.ag i.cs,.c (.i n)] (.c (.b false)) :=
 zaf [false,false,false,false,true,true,false] [] [] Tryz.func51 rfl rfl rfl rfl (by kernel_rfl) h (zab c0 (zab c1 zae))
theorem zuc (h:(!i.op==10&&(!i.op==11&&(!i.op==12&&(!i.op==13&&(i.op==14&&(!regB i.d&&true))))))=true) (c0:Ok 94 [.c (.i i.d)] (.c (.b (regB i.d)))) :
  Ok 51 [.ag i.cs,.c (.i n)] (.c (.b false)) :=
 zaf [false,false,false,false,true,false,false] [] [] Tryz.func51 rfl rfl rfl rfl (by kernel_rfl) h (zab c0 zae)
theorem zvu (h:(!i.op==10&&(!i.op==11&&(!i.op==12&&(!i.op==13&&(!i.op==14&&(i.op==15&&true))))))=true) :
  Ok 51 [.ag i.cs,.c (.i n)] (.c (.b true)) :=
 zaf [false,false,false,false,false,true] [] [] Tryz.func51 rfl rfl rfl rfl (by kernel_rfl) h zae
theorem ztx (h:(!i.op==10&&(!i.op==11&&(!i.op==12&&(!i.op==13&&(!i.op==14&&(!i.op==15&&(regB i.d&&true)))))))=true) (c0:Ok 94 [.c (.i i.d)] (.c (.b (regB i.d)))) (c1:Ok 97 [.c (.i i.s)] (.c (.b (srcB i.s)))) :
  Ok 51 [.ag i.cs,.c (.i n)] (.c (.b (srcB i.s))) :=
 zaf [false,false,false,false,false,false,true] [] [] Tryz.func51 rfl rfl rfl rfl (by kernel_rfl) h (zab c0 (zab c1 zae))
theorem zwk (h:(!i.op==10&&(!i.op==11&&(!i.op==12&&(!i.op==13&&(!i.op==14&&(!i.op==15&&(!regB i.d&&true)))))))=true) (c0:Ok 94 [.c (.i i.d)] (.c (.b (regB i.d)))) :
  Ok 51 [.ag i.cs,.c (.i n)] (.c (.b false)) :=
 zaf [false,false,false,false,false,false,false] [] [] Tryz.func51 rfl rfl rfl rfl (by kernel_rfl) h (zab c0 zae)
theorem zvx
  (l0:(i.op==10)=true→(regB i.d)=true→(regB i.s)=true→(zc6 i.im)=true→(decide (-64≤i.of))=true→(Ok 94 [.c (.i i.d)] (.c (.b (regB i.d))))∧(Ok 94 [.c (.i i.s)] (.c (.b (regB i.s))))∧(Ok 95 [.c (.u i.im)] (.c (.b (zc6 i.im))))∧(AV.c (.b (decide (i.of≤64)))=V))
  (l1:(i.op==10)=true→(regB i.d)=true→(regB i.s)=true→(zc6 i.im)=true→(decide (-64≤i.of))=false→(Ok 94 [.c (.i i.d)] (.c (.b (regB i.d))))∧(Ok 94 [.c (.i i.s)] (.c (.b (regB i.s))))∧(Ok 95 [.c (.u i.im)] (.c (.b (zc6 i.im))))∧(AV.c (.b false)=V))
  (l2:(i.op==10)=true→(regB i.d)=true→(regB i.s)=true→(zc6 i.im)=false→(Ok 94 [.c (.i i.d)] (.c (.b (regB i.d))))∧(Ok 94 [.c (.i i.s)] (.c (.b (regB i.s))))∧(Ok 95 [.c (.u i.im)] (.c (.b (zc6 i.im))))∧(AV.c (.b false)=V))
  (l3:(i.op==10)=true→(regB i.d)=true→(regB i.s)=false→(Ok 94 [.c (.i i.d)] (.c (.b (regB i.d))))∧(Ok 94 [.c (.i i.s)] (.c (.b (regB i.s))))∧(AV.c (.b false)=V))
  (l4:(i.op==10)=true→(regB i.d)=false→(Ok 94 [.c (.i i.d)] (.c (.b (regB i.d))))∧(AV.c (.b false)=V))
  (l5:(i.op==10)=false→(i.op==11)=true→(regB i.d)=true→(regB i.s)=true→(zc6 i.im)=true→(decide (-64≤i.of))=true→(Ok 94 [.c (.i i.d)] (.c (.b (regB i.d))))∧(Ok 94 [.c (.i i.s)] (.c (.b (regB i.s))))∧(Ok 95 [.c (.u i.im)] (.c (.b (zc6 i.im))))∧(AV.c (.b (decide (i.of≤64)))=V))
  (l6:(i.op==10)=false→(i.op==11)=true→(regB i.d)=true→(regB i.s)=true→(zc6 i.im)=true→(decide (-64≤i.of))=false→(Ok 94 [.c (.i i.d)] (.c (.b (regB i.d))))∧(Ok 94 [.c (.i i.s)] (.c (.b (regB i.s))))∧(Ok 95 [.c (.u i.im)] (.c (.b (zc6 i.im))))∧(AV.c (.b false)=V))
  (l7:(i.op==10)=false→(i.op==11)=true→(regB i.d)=true→(regB i.s)=true→(zc6 i.im)=false→(Ok 94 [.c (.i i.d)] (.c (.b (regB i.d))))∧(Ok 94 [.c (.i i.s)] (.c (.b (regB i.s))))∧(Ok 95 [.c (.u i.im)] (.c (.b (zc6 i.im))))∧(AV.c (.b false)=V))
  (l8:(i.op==10)=false→(i.op==11)=true→(regB i.d)=true→(regB i.s)=false→(Ok 94 [.c (.i i.d)] (.c (.b (regB i.d))))∧(Ok 94 [.c (.i i.s)] (.c (.b (regB i.s))))∧(AV.c (.b false)=V))
  (l9:(i.op==10)=false→(i.op==11)=true→(regB i.d)=false→(Ok 94 [.c (.i i.d)] (.c (.b (regB i.d))))∧(AV.c (.b false)=V))
  (l10:(i.op==10)=false→(i.op==11)=false→(i.op==12)=true→(Ok 96 [.c (.i i.of),.c (.i n)] (.c (.b (zch i.of n))))∧(AV.c (.b (zch i.of n))=V))
  (l11:(i.op==10)=false→(i.op==11)=false→(i.op==12)=false→(i.op==13)=true→(regB i.d)=true→(srcB i.s)=true→(Ok 94 [.c (.i i.d)] (.c (.b (regB i.d))))∧(Ok 97 [.c (.i i.s)] (.c (.b (srcB i.s))))∧(Ok 96 [.c (.i i.of),.c (.i n)] (.c (.b (zch i.of n))))∧(AV.c (.b (zch i.of n))=V))
  (l12:(i.op==10)=false→(i.op==11)=false→(i.op==12)=false→(i.op==13)=true→(regB i.d)=true→(srcB i.s)=false→(Ok 94 [.c (.i i.d)] (.c (.b (regB i.d))))∧(Ok 97 [.c (.i i.s)] (.c (.b (srcB i.s))))∧(AV.c (.b false)=V))
  (l13:(i.op==10)=false→(i.op==11)=false→(i.op==12)=false→(i.op==13)=true→(regB i.d)=false→(Ok 94 [.c (.i i.d)] (.c (.b (regB i.d))))∧(AV.c (.b false)=V))
  (l14:(i.op==10)=false→(i.op==11)=false→(i.op==12)=false→(i.op==13)=false→(i.op==14)=true→(regB i.d)=true→(srcB i.s)=true→(Ok 94 [.c (.i i.d)] (.c (.b (regB i.d))))∧(Ok 97 [.c (.i i.s)] (.c (.b (srcB i.s))))∧(Ok 96 [.c (.i i.of),.c (.i n)] (.c (.b (zch i.of n))))∧(AV.c (.b (zch i.of n))=V))
  (l15:(i.op==10)=false→(i.op==11)=false→(i.op==12)=false→(i.op==13)=false→(i.op==14)=true→(regB i.d)=true→(srcB i.s)=false→(Ok 94 [.c (.i i.d)] (.c (.b (regB i.d))))∧(Ok 97 [.c (.i i.s)] (.c (.b (srcB i.s))))∧(AV.c (.b false)=V))
  (l16:(i.op==10)=false→(i.op==11)=false→(i.op==12)=false→(i.op==13)=false→(i.op==14)=true→(regB i.d)=false→(Ok 94 [.c (.i i.d)] (.c (.b (regB i.d))))∧(AV.c (.b false)=V))
  (l17:(i.op==10)=false→(i.op==11)=false→(i.op==12)=false→(i.op==13)=false→(i.op==14)=false→(i.op==15)=true→(AV.c (.b true)=V))
  (l18:(i.op==10)=false→(i.op==11)=false→(i.op==12)=false→(i.op==13)=false→(i.op==14)=false→(i.op==15)=false→(regB i.d)=true→(Ok 94 [.c (.i i.d)] (.c (.b (regB i.d))))∧(Ok 97 [.c (.i i.s)] (.c (.b (srcB i.s))))∧(AV.c (.b (srcB i.s))=V))
  (l19:(i.op==10)=false→(i.op==11)=false→(i.op==12)=false→(i.op==13)=false→(i.op==14)=false→(i.op==15)=false→(regB i.d)=false→(Ok 94 [.c (.i i.d)] (.c (.b (regB i.d))))∧(AV.c (.b false)=V)) :
  Ok 51 [.ag i.cs,.c (.i n)] V :=
 (tf (i.op==10)).elim (fun h0=>(tf (regB i.d)).elim (fun h1=>(tf (regB i.s)).elim (fun h2=>(tf (zc6 i.im)).elim (fun h3=>(tf (decide (-64≤i.of))).elim (fun h4=>(match l0 h0 h1 h2 h3 h4 with | ⟨c0,c1,c2,e⟩=>zam (zza (zaa h0 (zaa h0 (zaa h1 (zaa h2 (zaa h3 (zaa h4 rfl)))))) c0 c1 c2) e)) (fun h4=>(match l1 h0 h1 h2 h3 h4 with | ⟨c0,c1,c2,e⟩=>zam (zw1 (zaa h0 (zaa h0 (zaa h1 (zaa h2 (zaa h3 (zaa (zad h4) rfl)))))) c0 c1 c2) e))) (fun h3=>(match l2 h0 h1 h2 h3 with | ⟨c0,c1,c2,e⟩=>zam (zy3 (zaa h0 (zaa h0 (zaa h1 (zaa h2 (zaa (zad h3) rfl))))) c0 c1 c2) e))) (fun h2=>(match l3 h0 h1 h2 with | ⟨c0,c1,e⟩=>zam (zzo (zaa h0 (zaa h0 (zaa h1 (zaa (zad h2) rfl)))) c0 c1) e))) (fun h1=>(match l4 h0 h1 with | ⟨c0,e⟩=>zam (zw8 (zaa h0 (zaa h0 (zaa (zad h1) rfl))) c0) e))) (fun h0=>(tf (i.op==11)).elim (fun h1=>(tf (regB i.d)).elim (fun h2=>(tf (regB i.s)).elim (fun h3=>(tf (zc6 i.im)).elim (fun h4=>(tf (decide (-64≤i.of))).elim (fun h5=>(match l5 h0 h1 h2 h3 h4 h5 with | ⟨c0,c1,c2,e⟩=>zam (zzs (zaa (zad h0) (zaa h1 (zaa h2 (zaa h3 (zaa h4 (zaa h5 rfl)))))) c0 c1 c2) e)) (fun h5=>(match l6 h0 h1 h2 h3 h4 h5 with | ⟨c0,c1,c2,e⟩=>zam (zyz (zaa (zad h0) (zaa h1 (zaa h2 (zaa h3 (zaa h4 (zaa (zad h5) rfl)))))) c0 c1 c2) e))) (fun h4=>(match l7 h0 h1 h2 h3 h4 with | ⟨c0,c1,c2,e⟩=>zam (zyp (zaa (zad h0) (zaa h1 (zaa h2 (zaa h3 (zaa (zad h4) rfl))))) c0 c1 c2) e))) (fun h3=>(match l8 h0 h1 h2 h3 with | ⟨c0,c1,e⟩=>zam (zxm (zaa (zad h0) (zaa h1 (zaa h2 (zaa (zad h3) rfl)))) c0 c1) e))) (fun h2=>(match l9 h0 h1 h2 with | ⟨c0,e⟩=>zam (zy7 (zaa (zad h0) (zaa h1 (zaa (zad h2) rfl))) c0) e))) (fun h1=>(tf (i.op==12)).elim (fun h2=>(match l10 h0 h1 h2 with | ⟨c0,e⟩=>zam (zvm (zaa (zad h0) (zaa (zad h1) (zaa h2 rfl))) c0) e)) (fun h2=>(tf (i.op==13)).elim (fun h3=>(tf (regB i.d)).elim (fun h4=>(tf (srcB i.s)).elim (fun h5=>(match l11 h0 h1 h2 h3 h4 h5 with | ⟨c0,c1,c2,e⟩=>zam (zuw (zaa (zad h0) (zaa (zad h1) (zaa (zad h2) (zaa h3 (zaa h3 (zaa h4 (zaa h5 rfl))))))) c0 c1 c2) e)) (fun h5=>(match l12 h0 h1 h2 h3 h4 h5 with | ⟨c0,c1,e⟩=>zam (zwe (zaa (zad h0) (zaa (zad h1) (zaa (zad h2) (zaa h3 (zaa h3 (zaa h4 (zaa (zad h5) rfl))))))) c0 c1) e))) (fun h4=>(match l13 h0 h1 h2 h3 h4 with | ⟨c0,e⟩=>zam (zue (zaa (zad h0) (zaa (zad h1) (zaa (zad h2) (zaa h3 (zaa h3 (zaa (zad h4) rfl)))))) c0) e))) (fun h3=>(tf (i.op==14)).elim (fun h4=>(tf (regB i.d)).elim (fun h5=>(tf (srcB i.s)).elim (fun h6=>(match l14 h0 h1 h2 h3 h4 h5 h6 with | ⟨c0,c1,c2,e⟩=>zam (zs7 (zaa (zad h0) (zaa (zad h1) (zaa (zad h2) (zaa (zad h3) (zaa h4 (zaa h5 (zaa h6 rfl))))))) c0 c1 c2) e)) (fun h6=>(match l15 h0 h1 h2 h3 h4 h5 h6 with | ⟨c0,c1,e⟩=>zam (ztu (zaa (zad h0) (zaa (zad h1) (zaa (zad h2) (zaa (zad h3) (zaa h4 (zaa h5 (zaa (zad h6) rfl))))))) c0 c1) e))) (fun h5=>(match l16 h0 h1 h2 h3 h4 h5 with | ⟨c0,e⟩=>zam (zuc (zaa (zad h0) (zaa (zad h1) (zaa (zad h2) (zaa (zad h3) (zaa h4 (zaa (zad h5) rfl)))))) c0) e))) (fun h4=>(tf (i.op==15)).elim (fun h5=>(match l17 h0 h1 h2 h3 h4 h5 with | e=>zam (zvu (zaa (zad h0) (zaa (zad h1) (zaa (zad h2) (zaa (zad h3) (zaa (zad h4) (zaa h5 rfl))))))) e)) (fun h5=>(tf (regB i.d)).elim (fun h6=>(match l18 h0 h1 h2 h3 h4 h5 h6 with | ⟨c0,c1,e⟩=>zam (ztx (zaa (zad h0) (zaa (zad h1) (zaa (zad h2) (zaa (zad h3) (zaa (zad h4) (zaa (zad h5) (zaa h6 rfl))))))) c0 c1) e)) (fun h6=>(match l19 h0 h1 h2 h3 h4 h5 h6 with | ⟨c0,e⟩=>zam (zwk (zaa (zad h0) (zaa (zad h1) (zaa (zad h2) (zaa (zad h3) (zaa (zad h4) (zaa (zad h5) (zaa (zad h6) rfl))))))) c0) e))))))))
theorem yauf (h:(i.op==10&&(i.op==10&&true))=true) :
  Ok 52 [.ag i.cs] (.c (.b true)) :=
 zaf [true,true] [] [] Tryz.func52 rfl rfl rfl rfl (by kernel_rfl) h zae
theorem yauq (h:(!i.op==10&&(i.op==11&&true))=true) :
  Ok 52 [.ag i.cs] (.c (.b true)) :=
 zaf [false,true] [] [] Tryz.func52 rfl rfl rfl rfl (by kernel_rfl) h zae
theorem yava (h:(!i.op==10&&(!i.op==11&&(i.op==12&&true)))=true) :
  Ok 52 [.ag i.cs] (.c (.b (eqCs i.cs (splice (splice [.i 0,.i 0,.i 0,.u 0#64,.i 0] 0 [.i 12]) 4 [.i i.of])))) :=
 zaf [false,false,true] [] [] Tryz.func52 rfl rfl rfl rfl (by kernel_rfl) h zae
theorem yarf (h:(!i.op==10&&(!i.op==11&&(!i.op==12&&(i.op==13&&(i.op==13&&(i.s==-1&&true))))))=true) :
  Ok 52 [.ag i.cs] (.c (.b true)) :=
 zaf [false,false,false,true,true,true] [] [] Tryz.func52 rfl rfl rfl rfl (by kernel_rfl) h zae
theorem yatk (h:(!i.op==10&&(!i.op==11&&(!i.op==12&&(i.op==13&&(i.op==13&&(!i.s==-1&&true))))))=true) :
  Ok 52 [.ag i.cs] (.c (.b (eqb i.im 0#64))) :=
 zaf [false,false,false,true,true,false] [] [] Tryz.func52 rfl rfl rfl rfl (by kernel_rfl) h zae
theorem yauc (h:(!i.op==10&&(!i.op==11&&(!i.op==12&&(!i.op==13&&(i.op==14&&(i.s==-1&&true))))))=true) :
  Ok 52 [.ag i.cs] (.c (.b true)) :=
 zaf [false,false,false,false,true,true] [] [] Tryz.func52 rfl rfl rfl rfl (by kernel_rfl) h zae
theorem yat1 (h:(!i.op==10&&(!i.op==11&&(!i.op==12&&(!i.op==13&&(i.op==14&&(!i.s==-1&&true))))))=true) :
  Ok 52 [.ag i.cs] (.c (.b (eqb i.im 0#64))) :=
 zaf [false,false,false,false,true,false] [] [] Tryz.func52 rfl rfl rfl rfl (by kernel_rfl) h zae
theorem yare (h:(!i.op==10&&(!i.op==11&&(!i.op==12&&(!i.op==13&&(!i.op==14&&(i.op==15&&true))))))=true) :
  Ok 52 [.ag i.cs] (.c (.b (eqCs i.cs (splice [.i 0,.i 0,.i 0,.u 0#64,.i 0] 0 [.i 15])))) :=
 zaf [false,false,false,false,false,true] [] [] Tryz.func52 rfl rfl rfl rfl (by kernel_rfl) h zae
theorem yasu (h:(!i.op==10&&(!i.op==11&&(!i.op==12&&(!i.op==13&&(!i.op==14&&(!i.op==15&&(i.of==0&&(i.s==-1&&true))))))))=true) :
  Ok 52 [.ag i.cs] (.c (.b true)) :=
 zaf [false,false,false,false,false,false,true,true] [] [] Tryz.func52 rfl rfl rfl rfl (by kernel_rfl) h zae
theorem yasq (h:(!i.op==10&&(!i.op==11&&(!i.op==12&&(!i.op==13&&(!i.op==14&&(!i.op==15&&(i.of==0&&(!i.s==-1&&true))))))))=true) :
  Ok 52 [.ag i.cs] (.c (.b (eqb i.im 0#64))) :=
 zaf [false,false,false,false,false,false,true,false] [] [] Tryz.func52 rfl rfl rfl rfl (by kernel_rfl) h zae
theorem yan8 (h:(!i.op==10&&(!i.op==11&&(!i.op==12&&(!i.op==13&&(!i.op==14&&(!i.op==15&&(!i.of==0&&true)))))))=true) :
  Ok 52 [.ag i.cs] (.c (.b false)) :=
 zaf [false,false,false,false,false,false,false] [] [] Tryz.func52 rfl rfl rfl rfl (by kernel_rfl) h zae
theorem yans
  (l0:(i.op==10)=true→(AV.c (.b true)=V))
  (l1:(i.op==10)=false→(i.op==11)=true→(AV.c (.b true)=V))
  (l2:(i.op==10)=false→(i.op==11)=false→(i.op==12)=true→(AV.c (.b (eqCs i.cs (splice (splice [.i 0,.i 0,.i 0,.u 0#64,.i 0] 0 [.i 12]) 4 [.i i.of])))=V))
  (l3:(i.op==10)=false→(i.op==11)=false→(i.op==12)=false→(i.op==13)=true→(i.s==-1)=true→(AV.c (.b true)=V))
  (l4:(i.op==10)=false→(i.op==11)=false→(i.op==12)=false→(i.op==13)=true→(i.s==-1)=false→(AV.c (.b (eqb i.im 0#64))=V))
  (l5:(i.op==10)=false→(i.op==11)=false→(i.op==12)=false→(i.op==13)=false→(i.op==14)=true→(i.s==-1)=true→(AV.c (.b true)=V))
  (l6:(i.op==10)=false→(i.op==11)=false→(i.op==12)=false→(i.op==13)=false→(i.op==14)=true→(i.s==-1)=false→(AV.c (.b (eqb i.im 0#64))=V))
  (l7:(i.op==10)=false→(i.op==11)=false→(i.op==12)=false→(i.op==13)=false→(i.op==14)=false→(i.op==15)=true→(AV.c (.b (eqCs i.cs (splice [.i 0,.i 0,.i 0,.u 0#64,.i 0] 0 [.i 15])))=V))
  (l8:(i.op==10)=false→(i.op==11)=false→(i.op==12)=false→(i.op==13)=false→(i.op==14)=false→(i.op==15)=false→(i.of==0)=true→(i.s==-1)=true→(AV.c (.b true)=V))
  (l9:(i.op==10)=false→(i.op==11)=false→(i.op==12)=false→(i.op==13)=false→(i.op==14)=false→(i.op==15)=false→(i.of==0)=true→(i.s==-1)=false→(AV.c (.b (eqb i.im 0#64))=V))
  (l10:(i.op==10)=false→(i.op==11)=false→(i.op==12)=false→(i.op==13)=false→(i.op==14)=false→(i.op==15)=false→(i.of==0)=false→(AV.c (.b false)=V)) :
  Ok 52 [.ag i.cs] V :=
 (tf (i.op==10)).elim (fun h0=>(match l0 h0 with | e=>zam (yauf (zaa h0 (zaa h0 rfl))) e)) (fun h0=>(tf (i.op==11)).elim (fun h1=>(match l1 h0 h1 with | e=>zam (yauq (zaa (zad h0) (zaa h1 rfl))) e)) (fun h1=>(tf (i.op==12)).elim (fun h2=>(match l2 h0 h1 h2 with | e=>zam (yava (zaa (zad h0) (zaa (zad h1) (zaa h2 rfl)))) e)) (fun h2=>(tf (i.op==13)).elim (fun h3=>(tf (i.s==-1)).elim (fun h4=>(match l3 h0 h1 h2 h3 h4 with | e=>zam (yarf (zaa (zad h0) (zaa (zad h1) (zaa (zad h2) (zaa h3 (zaa h3 (zaa h4 rfl))))))) e)) (fun h4=>(match l4 h0 h1 h2 h3 h4 with | e=>zam (yatk (zaa (zad h0) (zaa (zad h1) (zaa (zad h2) (zaa h3 (zaa h3 (zaa (zad h4) rfl))))))) e))) (fun h3=>(tf (i.op==14)).elim (fun h4=>(tf (i.s==-1)).elim (fun h5=>(match l5 h0 h1 h2 h3 h4 h5 with | e=>zam (yauc (zaa (zad h0) (zaa (zad h1) (zaa (zad h2) (zaa (zad h3) (zaa h4 (zaa h5 rfl))))))) e)) (fun h5=>(match l6 h0 h1 h2 h3 h4 h5 with | e=>zam (yat1 (zaa (zad h0) (zaa (zad h1) (zaa (zad h2) (zaa (zad h3) (zaa h4 (zaa (zad h5) rfl))))))) e))) (fun h4=>(tf (i.op==15)).elim (fun h5=>(match l7 h0 h1 h2 h3 h4 h5 with | e=>zam (yare (zaa (zad h0) (zaa (zad h1) (zaa (zad h2) (zaa (zad h3) (zaa (zad h4) (zaa h5 rfl))))))) e)) (fun h5=>(tf (i.of==0)).elim (fun h6=>(tf (i.s==-1)).elim (fun h7=>(match l8 h0 h1 h2 h3 h4 h5 h6 h7 with | e=>zam (yasu (zaa (zad h0) (zaa (zad h1) (zaa (zad h2) (zaa (zad h3) (zaa (zad h4) (zaa (zad h5) (zaa h6 (zaa h7 rfl))))))))) e)) (fun h7=>(match l9 h0 h1 h2 h3 h4 h5 h6 h7 with | e=>zam (yasq (zaa (zad h0) (zaa (zad h1) (zaa (zad h2) (zaa (zad h3) (zaa (zad h4) (zaa (zad h5) (zaa h6 (zaa (zad h7) rfl))))))))) e))) (fun h6=>(match l10 h0 h1 h2 h3 h4 h5 h6 with | e=>zam (yan8 (zaa (zad h0) (zaa (zad h1) (zaa (zad h2) (zaa (zad h3) (zaa (zad h4) (zaa (zad h5) (zaa (zad h6) rfl)))))))) e))))))))
end
theorem yab5 (d:Int):Ok 94 [.c (.i d)] (.c (.b (regB d))):=by
 refine yai5 ?_ ?_ <;> (intro h;rw [regB,h];rfl)
theorem zzm (d:Int):Ok 97 [.c (.i d)] (.c (.b (srcB d))):=by
 refine zvd ?_ ?_
 ·intro h;simp_all [srcB]
 ·intro h;refine ⟨yab5 _,?_⟩;simp_all [srcB]
theorem yair (d:BitVec 64):Ok 95 [.c (.u d)] (.c (.b (zc6 d))):=by
 refine yaf3 ?_ ?_ ?_ ?_ <;> (intros;simp_all [zc6])
theorem yagf (d n:Int):Ok 96 [.c (.i d),.c (.i n)] (.c (.b (zch d n))):=by
 refine yaer ?_ ?_ <;> (intro h;rw [zch,h];rfl)
theorem znt (i:Ins) (n:Int):Ok 51 [.ag i.cs,.c (.i n)] (.c (.b (inB i n))):=by
 apply zvx
 all_goals intros
 all_goals repeat' apply And.intro
 all_goals first
  | exact yab5 _
  | exact zzm _
  | exact yair _
  | exact yagf _ _
  | (simp_all [inB];try omega)
theorem yaki (i:Ins):Ok 52 [.ag i.cs] (.c (.b (zbc i))):=by
 apply yans
 all_goals intros
 all_goals (simp_all [zbc,eqCs,eqC,splice,Ins.cs,Bool.and_assoc];try rfl)
section
variable {m:Mach} {e o r op q j:Int} {x y:BitVec 64} {i:Ins} {V:AV} {t:ByteArray} {C:Cx} {R:Ending→World→Prop} {w:World} {β:Bs} {n:Nat} {E:Eff}
theorem yadj (h:(i.op==12&&true)=true) :
  Ok 99 [.ag i.cs] (.ag [.b false,.b false,.b false,.b false,.b false,.b false]) :=
 zaf [true] [] [] Tryz.func99 rfl rfl rfl rfl (by kernel_rfl) h zae
theorem yafa (h:(!i.op==12&&(i.op==15&&true))=true) :
  Ok 99 [.ag i.cs] (.ag [.b true,.b false,.b false,.b false,.b false,.b false]) :=
 zaf [false,true] [] [] Tryz.func99 rfl rfl rfl rfl (by kernel_rfl) h zae
theorem yagu (h:(!i.op==12&&(!i.op==15&&(i.op==1&&(i.op==1&&(i.s != -1&&(decide (0≤i.s)&&decide (i.s<6)&&(Nat.ble ((i.s).toNat*1+1) 6&&true&&true)))))))=true) (c0:we 2 ((bcs no6).set ((i.s).toNat*1) (.b true))=we 2 (bcs (no6.set (i.s).toNat true))) :
  Ok 99 [.ag i.cs] (.ag (bcs (no6.set (i.s).toNat true))) :=
 zaf [false,false,true,true,true] [] [(12,3)] Tryz.func99 rfl rfl rfl rfl (by kernel_rfl) h (zac c0 zae)
theorem yajd (h:(!i.op==12&&(!i.op==15&&(i.op==1&&(i.op==1&&(!i.s != -1&&true)))))=true) :
  Ok 99 [.ag i.cs] (.ag [.b false,.b false,.b false,.b false,.b false,.b false]) :=
 zaf [false,false,true,true,false] [] [(12,3)] Tryz.func99 rfl rfl rfl rfl (by kernel_rfl) h zae
theorem yajn (h:(!i.op==12&&(!i.op==15&&(!i.op==1&&(i.op==10&&(i.s != -1&&(decide (0≤i.s)&&decide (i.s<6)&&(Nat.ble ((i.s).toNat*1+1) 6&&true&&true)))))))=true) (c0:we 2 ((bcs no6).set ((i.s).toNat*1) (.b true))=we 2 (bcs (no6.set (i.s).toNat true))) :
  Ok 99 [.ag i.cs] (.ag (bcs (no6.set (i.s).toNat true))) :=
 zaf [false,false,false,true,true] [] [(12,3)] Tryz.func99 rfl rfl rfl rfl (by kernel_rfl) h (zac c0 zae)
theorem yah7 (h:(!i.op==12&&(!i.op==15&&(!i.op==1&&(i.op==10&&(!i.s != -1&&true)))))=true) :
  Ok 99 [.ag i.cs] (.ag [.b false,.b false,.b false,.b false,.b false,.b false]) :=
 zaf [false,false,false,true,false] [] [(12,3)] Tryz.func99 rfl rfl rfl rfl (by kernel_rfl) h zae
theorem yahe (h:(!i.op==12&&(!i.op==15&&(!i.op==1&&(!i.op==10&&(decide (0≤i.d)&&decide (i.d<6)&&(Nat.ble ((i.d).toNat*1+1) 6&&true&&(i.s != -1&&(decide (0≤i.s)&&decide (i.s<6)&&(Nat.ble ((i.s).toNat*1+1) (bcs (no6.set (i.d).toNat true)).length&&true&&true)))))))))=true) (c0:we 2 ((bcs no6).set ((i.d).toNat*1) (.b true))=we 2 (bcs (no6.set (i.d).toNat true))) (c1:we 2 ((bcs (no6.set (i.d).toNat true)).set ((i.s).toNat*1) (.b true))=we 2 (bcs ((no6.set (i.d).toNat true).set (i.s).toNat true))) :
  Ok 99 [.ag i.cs] (.ag (bcs ((no6.set (i.d).toNat true).set (i.s).toNat true))) :=
 zaf [false,false,false,false,true] [] [(3,3),(12,3)] Tryz.func99 rfl rfl rfl rfl (by kernel_rfl) h (zac c0 (zac c1 zae))
theorem yajj (h:(!i.op==12&&(!i.op==15&&(!i.op==1&&(!i.op==10&&(decide (0≤i.d)&&decide (i.d<6)&&(Nat.ble ((i.d).toNat*1+1) 6&&true&&(!i.s != -1&&true)))))))=true) (c0:we 2 ((bcs no6).set ((i.d).toNat*1) (.b true))=we 2 (bcs (no6.set (i.d).toNat true))) :
  Ok 99 [.ag i.cs] (.ag (bcs (no6.set (i.d).toNat true))) :=
 zaf [false,false,false,false,false] [] [(3,3),(12,3)] Tryz.func99 rfl rfl rfl rfl (by kernel_rfl) h (zac c0 zae)
end
theorem zfp {n:Int} (h0:-1099511627776≤n) (h1:n≤1099511627776):IntKind.i64.wrap n=n:=by
 rw [IntKind.wrap_i64];omega
theorem zok {v:V6 Bool} {r:Int} (h:regB r=true):(bcs v).set (r.toNat*1) (.b true)=bcs (v.set r.toNat true) :=
 zcb (P:=fun r=>(bcs v).set (r.toNat*1) (.b true)=bcs (v.set r.toNat true)) h rfl rfl rfl rfl rfl rfl
theorem yavb (v:V6 Bool):(bcs v).length=6:=rfl
theorem zt3 {i:Ins} (h:i.op=12∨i.op=15∨(regB i.d=true∧srcB i.s=true)):Ok 99 [.ag i.cs] (.ag (bcs (zaw i))):=by
 unfold zaw
 by_cases c1:i.op=12
 ·rw [if_pos c1];exact yadj (by simp [c1])
 by_cases c2:i.op=15
 ·rw [if_neg c1,if_pos c2];exact yafa (by simp [c2])
 obtain ⟨hd,hs⟩:=(h.resolve_left c1).resolve_left c2
 have d1:=regB_iff.1 hd
 have d2:=zbp hd
 rw [if_neg c1,if_neg c2]
 rcases srcB_iff.1 hs with e | hs
 ·rw [if_pos e]
  by_cases c3:i.op=1
  ·rw [if_pos (Or.inl c3)];exact yajd (by simp [c3,e])
  by_cases c4:i.op=10
  ·rw [if_pos (Or.inr c4)];exact yah7 (by simp [c4,e])
  rw [if_neg (by omega)]
  refine yajj ?_ ?_
  ·simp [c1,c2,c3,c4,d1.1,d1.2,e];omega
  ·rw [zok hd]
 ·have s1:=regB_iff.1 hs
  have s2:=zbp hs
  have e:¬ i.s=-1:=by omega
  rw [if_neg e]
  by_cases c3:i.op=1
  ·rw [if_pos (Or.inl c3)]
   refine yagu ?_ ?_
   ·simp [c3,e,s1.1,s1.2];omega
   ·rw [zok hs]
  by_cases c4:i.op=10
  ·rw [if_pos (Or.inr c4)]
   refine yajn ?_ ?_
   ·simp [c4,e,s1.1,s1.2];omega
   ·rw [zok hs]
  rw [if_neg (by omega)]
  refine yahe ?_ ?_ ?_
  ·simp [c1,c2,c3,c4,d1.1,d1.2,e,s1.1,s1.2,yavb];omega
  ·rw [zok hd]
  ·rw [zok hs]
section
variable {L:List Ins} {c:Nat} {w:World} {β:Bs} {E:Eff}
abbrev ckKn (L:List Ins) (c a b d:Nat) (j:Int):Kn:=⟨[(0,.c (.sl 0 0 L.length c)),(a,.c (.sl 0 0 L.length c)),(b,.c (.i L.length)),(d,.c (.i j))],pH L,1⟩
theorem yabz (hL:L.length≤64):∀ n j:Nat,j+n=L.length→((L.drop j).all zcl=false→⟨.c (.i 4),[],none⟩=E) →
  ((L.drop j).all zcl=true→ART Tryz.prog 19 (cx w β 1 []) Tryz.f19.ntmps (zdk Tryz.f19 1) (ckKn L c 32 33 34 0) (REff w β E)) →
  ART Tryz.prog 19 (cx w β 1 []) Tryz.f19.ntmps (zdk Tryz.f19 0) (ckKn L c 17 18 19 j) (REff w β E)
 | 0,j,h,hy,hz=>by
  refine yas2 (by rw [jn (by omega)];rfl) (zle rfl) (fun _ h=>h) (hz ?_)
  rw [List.drop_eq_nil_of_le (by omega)];rfl
 | n+1,j,h,hy,hz=>by
  have hj:j<L.length:=by omega
  rw [zhl hj,List.all_cons] at hy hz
  refine yauo (by omega) (fun a=>⟨jl hj,jl hj,pble hj,zdj hj,hy ?_⟩) (fun a b=>⟨jl hj,jl hj,pble hj,zdj hj,hy ?_⟩) (fun a b=>⟨jl hj,jl hj,pble hj,zdj hj,zle rfl,?_⟩)
  ·have:zcl (elt L j)=false:=by simp at a;simp [zcl];omega
   rw [this];rfl
  ·have:zcl (elt L j)=false:=by simp at b;simp [zcl];omega
   rw [this];rfl
  ·have:zcl (elt L j)=true:=by simp at a b;simp [zcl];omega
   rw [this] at hy hz
   rw [zhz (by omega)]
   exact yabz hL n (j+1) (by omega) (fun h=>hy h) (fun h=>hz h)
theorem yach (hL:L.length≤64):∀ n j:Nat,j+n=L.length→(zfq (L.drop j)=false→⟨.c (.i 3),[],none⟩=E) →
  (zfq (L.drop j)=true→ART Tryz.prog 19 (cx w β 1 []) Tryz.f19.ntmps (zdk Tryz.f19 2) (ckKn L c 48 49 50 0) (REff w β E)) →
  ART Tryz.prog 19 (cx w β 1 []) Tryz.f19.ntmps (zdk Tryz.f19 1) (ckKn L c 32 33 34 j) (REff w β E)
 | 0,j,h,hy,hz=>by
  refine yato (by rw [jn (by omega)];rfl) (zle rfl) (fun _ h=>h) (hz ?_)
  rw [List.drop_eq_nil_of_le (by omega)];rfl
 | n+1,j,h,hy,hz=>by
  have hj:j<L.length:=by omega
  have el:((L.drop (j+1)).length:Int)=((L.length - 1 - j:Nat):Int):=by rw [List.length_drop];omega
  rw [zhl hj,zfq,el] at hy hz
  have ew:IntKind.wrap IntKind.i64 (IntKind.wrap IntKind.i64 ((L.length:Int) - 1) - (j:Int))=((L.length - 1 - j:Nat):Int):=by
   rw [zfp (n:=(L.length:Int) - 1) (by omega) (by omega),zfp (by omega) (by omega)];omega
  have c1:Eff.mk (AV.c (AC.i (IntKind.wrap IntKind.i64 (IntKind.wrap IntKind.i64 ((L.length:Int) - 1) - (j:Int))))) [] none=Eff.mk (AV.c (AC.i ((L.length - 1 - j:Nat):Int))) [] none:=by rw [ew]
  refine yarq (by omega) (fun a=>⟨jl hj,jl hj,pble hj,zdj hj,c1,znt _ _,hy ?_⟩) (fun a=>⟨jl hj,jl hj,pble hj,zdj hj,c1,znt _ _,zle rfl,?_⟩)
  ·have:inB (elt L j) ((L.length - 1 - j:Nat):Int)=false:=by simpa using a
   rw [this];rfl
  ·have:inB (elt L j) ((L.length - 1 - j:Nat):Int)=true:=by simpa using a
   rw [this] at hy hz
   rw [zhz (by omega)]
   exact yach hL n (j+1) (by omega) (fun h=>hy h) (fun h=>hz h)
theorem zht (h0:0<L.length) (hL:L.length≤64):(pcell L)[0+Int.toNat (IntKind.wrap IntKind.i64 ((L.length:Int) - 1))*5+0]?=some (.i (zb3 L)):=by
 rw [zfp (by omega) (by omega),show (0+((L.length:Int) - 1).toNat*5+0)=(L.length - 1)*5 by omega]
 have h1:=yaal (L:=L) (k:=L.length - 1) (by omega) (.b false)
 have h2:(L.length - 1)*5<(pcell L).length:=by rw [zat];omega
 rw [List.getD_eq_getElem?_getD,List.getElem?_eq_getElem h2] at h1
 rw [List.getElem?_eq_getElem h2]
 refine congrArg some (h1.trans ?_)
 unfold zb3 elt
 rw [List.getLast?_eq_getElem?,List.getD_eq_getElem?_getD,List.getElem?_eq_getElem (by omega)]
 rfl
theorem yacp (h0:0<L.length) (hL:L.length≤64):∀ n j:Nat,j+n=L.length→((L.drop j).all zbc=false→⟨.c (.i 1),[],none⟩=E) →
  ((L.drop j).all zbc=true→⟨.c (.i (if zb3 L≠15 then 1 else 0)),[],none⟩=E) →
  ART Tryz.prog 19 (cx w β 1 []) Tryz.f19.ntmps (zdk Tryz.f19 2) (ckKn L c 48 49 50 j) (REff w β E)
 | 0,j,h,hy,hz=>by
  have hz:=hz (by rw [List.drop_eq_nil_of_le (by omega)];rfl)
  have o0:(!decide ((j:Int)<(L.length:Int)))=true:=by rw [jn (by omega)];rfl
  have o1:(decide (0≤IntKind.wrap IntKind.i64 ((L.length:Int) - 1))&&decide (IntKind.wrap IntKind.i64 ((L.length:Int) - 1)<(L.length:Int)))=true:=by
   rw [zfp (by omega) (by omega)];simp;omega
  have o2:(AC.isI (Option.getD (pcell L)[0+Int.toNat (IntKind.wrap IntKind.i64 ((L.length:Int) - 1))*5+0]? (AC.b false))&&Nat.blt (0+Int.toNat (IntKind.wrap IntKind.i64 ((L.length:Int) - 1))*5+0) (pcell L).length)=true:=by
   rw [zht h0 hL,zfp (by omega) (by omega),zat];simp [AC.isI];omega
  have c0:Eff.mk (AV.c (AC.i (AC.asI (Option.getD (pcell L)[0+Int.toNat (IntKind.wrap IntKind.i64 ((L.length:Int) - 1))*5+0]? (AC.b false))))) [] none=Eff.mk (AV.c (AC.i (zb3 L))) [] none:=by rw [zht h0 hL];rfl
  refine yana (fun a=>⟨o0,o1,o2,c0,?_⟩) (fun a=>⟨o0,o1,o2,c0,?_⟩)
  ·rw [← hz,if_pos (by simpa using a)]
  ·rw [← hz,if_neg (by simpa using a)]
 | n+1,j,h,hy,hz=>by
  have hj:j<L.length:=by omega
  rw [zhl hj,List.all_cons] at hy hz
  refine yavm (by omega) (fun a=>⟨jl hj,jl hj,pble hj,zdj hj,yaki _,hy ?_⟩) (fun a=>⟨jl hj,jl hj,pble hj,zdj hj,yaki _,zle rfl,?_⟩)
  ·have:zbc (elt L j)=false:=by simpa using a
   rw [this];rfl
  ·have:zbc (elt L j)=true:=by simpa using a
   rw [this] at hy hz
   rw [zhz (by omega)]
   exact yacp h0 hL n (j+1) (by omega) (fun h=>hy h) (fun h=>hz h)
end
theorem zi0 (L:List Ins) (c:Nat):CallOK Tryz.prog ⟨19,[.c (.sl 0 0 L.length c)],pH L,⟨.c (.i (zan L)),[],none⟩⟩:=by
 refine zg8 Tryz.func19 rfl rfl (zqo rfl) rfl ro_p fun w β=>?_
 refine yalb (Nat.le_refl 1) (fun a=>?_) (fun a b=>?_) (fun a b=>⟨zle rfl,?_⟩)
 ·unfold zan
  rw [if_pos (Or.inl (by simpa using a))]
 ·unfold zan
  rw [if_pos (Or.inr (by simp at b;omega))]
 ·have h0:0<L.length:=by
   have:¬ ((L.length:Int)=0):=by simpa using a
   omega
  have h1:L.length≤64:=by simp at b;omega
  unfold zan
  rw [if_neg (by omega)]
  refine yabz h1 L.length 0 (by omega) (fun h=>?_) (fun h=>?_)
  ·rw [if_pos (by simpa using h)]
  ·rw [if_neg (by simpa using h)]
   refine yach h1 L.length 0 (by omega) (fun h=>?_) (fun h=>?_)
   ·rw [if_pos (by simpa using h)]
   ·rw [if_neg (by simpa using h)]
    refine yacp h0 h1 L.length 0 (by omega) (fun h=>?_) (fun h=>?_)
    ·rw [if_pos (by simpa using h)]
    ·have e:¬ (L.all zbc=false):=by simpa using h
     rw [if_neg e]
theorem zbg {K:Nat} {en e:Ent} {k:Nat} (h:look [(K,en)] k=some e):k=K∧e=en:=by
 rw [zav] at h
 split at h
 ·rename_i hk;injection h with h;exact ⟨hk,h.symm⟩
 ·cases h
theorem zek (a b:Nat):swp a b a=b:=by unfold swp;rw [if_pos rfl]
theorem zfu {a b j:Nat} (h1:j≠a) (h2:j≠b):swp a b j=j:=by unfold swp;rw [if_neg h1,if_neg h2]
theorem zqa {ρ:Nat→Nat} {L:List Ins} (h:ρ 0=0):renH ρ (pH L)=pH L:=by
 show [(ρ 0,Ent.mk false ((pcell L).map (AC.ren ρ)) 0)]=_
 rw [zck _ (zaj L),h]
theorem yazu {T:List (Nat×AV)} {n:Nat} (h:(T.flatMap fun x=>x.2.ks).all (fun k=>Nat.blt k n)=true) (t:Nat) (v:AV) (hv:look T t=some v) (k:Nat) (hk:k∈v.ks):k<n:=by
 have h1:k∈T.flatMap fun x=>x.2.ks:=List.mem_flatMap.2 ⟨(t,v),zdq hv,hk⟩
 have h2:=List.all_eq_true.1 h k h1
 simpa using h2
theorem zme {w w':World} {β:Bs} {v:AV} {k r:Nat} {b:Bool} {cs:List AC} {en:Ending} (h:REff w β ⟨v,[],some (k,⟨b,cs,r⟩)⟩ en w'):REff w β ⟨v,[],some (k,⟨b,cs,0⟩)⟩ en w':=by
 obtain ⟨β',he,hu⟩:=h
 obtain ⟨x,o,c,h1,h2,h3,h4⟩:=hu.nw
 exact ⟨β',he,hu.frame,hu.wr,x,o,c,h1,h2,h3,h4.lt,h4.cell,h4.free,fun h=>absurd rfl h⟩
theorem yaa6 {P:Program} {f:FuncId} {C:Cx} {N:Nat} {todo:List Item} {σ:Kn} {R R':Ending→World→Prop} (h:ART P f C N todo σ R) (k:∀ e w,R e w→R' e w):ART P f C N todo σ R':=fun β a w hr cs=>by
 obtain ⟨e,w',fr,h1,h2⟩:=h β a w hr cs
 exact ⟨e,w',fr,k e w' h1,h2⟩
theorem zjd {P:Program} {f:Nat} {args:List AV} {H:List (Nat×Ent)} {v:AV} {k r:Nat} {b:Bool} {cs:List AC} (h:CallOK P ⟨f,args,H,⟨v,[],some (k,⟨b,cs,r⟩)⟩⟩):CallOK P ⟨f,args,H,⟨v,[],some (k,⟨b,cs,0⟩)⟩⟩:=by
 refine ⟨⟨h.keys.v,h.keys.wr,fun j en hj c hc i hi=>?_⟩,h.wr,fun β w hgw hgx hB hI=>(h.call β w hgw hgx hB hI).mono fun e w' he=>zme he⟩
 injection hj with hj;injection hj with h1 h2;subst h1 h2
 exact h.keys.nw k ⟨b,cs,r⟩ rfl c hc i hi
def Kn.ren (ρ:Nat→Nat) (σ:Kn) (n:Nat):Kn:=⟨σ.T.map fun x=>(x.1,x.2.ren ρ),renH ρ σ.H,n⟩
theorem zrk (a b j:Nat):swp a b (swp a b j)=j:=by
 unfold swp
 split <;> (try split) <;> (try split) <;> omega
theorem zuz (ρ:Nat→Nat):∀ (T:List (Nat×AV)) (t:Nat) (v:AV),look (T.map fun x=>(x.1,x.2.ren ρ)) t=some v→∃ u,look T t=some u∧v=u.ren ρ
 | [],_,_,h=>by cases h
 | (s,x)::T,t,v,h=>by
  simp only [List.map_cons,zav] at h ⊢
  split at h
  ·rename_i hk
   injection h with h
   exact ⟨x,by rw [if_pos hk],h.symm⟩
  ·rename_i hk
   obtain ⟨u,h1,h2⟩:=zuz ρ T t v h
   exact ⟨u,by rw [if_neg hk];exact h1,h2⟩
theorem ART.ren {P:Program} {f:FuncId} {C:Cx} {N:Nat} {todo:List Item} {σ σ':Kn} {R:Ending→World→Prop} (ρ:Nat→Nat) (n:Nat) (hρ:∀ k,ρ (ρ k)=k) (he:σ.ren ρ n=σ') (hF:∀ k,C.F k→ρ k=k∧k<n) (hl:σ'.Low) (h:ART P f C N todo σ' R):ART P f C N todo σ R:=fun β a w hr=>by
 subst he
 have hi:∀ i j,ρ i=ρ j→i=j:=fun i j e=>by rw [← hρ i,e,hρ j]
 have hb:(fun k=>(fun k=>β (ρ k)) (ρ k))=β:=funext fun k=>by simp only [hρ]
 refine h (fun k=>β (ρ k)) a w ⟨hr.size,hr.defers,fun t v hv=>?_,fun k e hk=>?_,fun k e k' e' hk hk' hne hw hc hc'=>?_,hr.frame,fun k hk=>⟨(hF k hk).2,?_⟩,hr.gd⟩
 ·obtain ⟨u,h1,rfl⟩:=zuz ρ σ.T t v hv
  refine ⟨?_,hl.1 t _ hv⟩
  rw [AV.ren_g,hb]
  exact (hr.tmp t u h1).1
 ·have hk0:=hk
  obtain ⟨j,e',rfl,h1,rfl⟩:=zon hi hk
  obtain ⟨_,h3,_,h5⟩:=hr.blk j e' h1
  refine ⟨(hl.2 _ _ hk0).1,blk_ren.2 (by rw [hb];exact h3),(hl.2 _ _ hk0).2,fun hw=>?_⟩
  simp only [hρ]
  exact h5 hw
 ·obtain ⟨j,e1,rfl,h1,rfl⟩:=zon hi hk
  obtain ⟨j',e1',rfl,h1',rfl⟩:=zon hi hk'
  simp only [hρ]
  exact hr.inj j e1 j' e1' h1 h1' (fun e=>hne (by rw [e])) hw (fun e=>hc (by simp [Ent.ren,e])) (fun e=>hc' (by simp [Ent.ren,e]))
 ·simp only [(hF k hk).1]
  exact (hr.fix k hk).2
section
abbrev ctRK (L:List Ins) (c j:Nat) (t:ByteArray):Kn:=⟨[(0,.c (.sl 0 0 L.length c)),(3,.c (.s t)),(4,.c (.i (j:Int)))],[(0,Ent.mk false (pcell L) 0)],1⟩
variable {i:Ins} {m u1 u2 u3 u4 t:ByteArray} {A:List AC} {L:List Ins} {c j n:Nat} {C:Cx} {R:Ending→World→Prop} {w:World} {β:Bs} {n1:Int} {x:BitVec 64}
theorem yaz5 (h:(decide (0≤i.op)&&decide (i.op<16)&&(AC.isS (A[0+(i.op).toNat*1]?.getD (.b false))&&Nat.blt (0+(i.op).toNat*1) A.length&&(decide (ByteArray.size m+1≤9223372036854775807)&&(decide (ByteArray.size (m++ByteArray.mk #[OfNat.ofNat 32])+ByteArray.size u1≤9223372036854775807)&&(decide (ByteArray.size (m++ByteArray.mk #[OfNat.ofNat 32]++u1)+1≤9223372036854775807)&&(decide (ByteArray.size (m++ByteArray.mk #[OfNat.ofNat 32]++u1++ByteArray.mk #[OfNat.ofNat 32])+ByteArray.size u2≤9223372036854775807)&&(decide (ByteArray.size (m++ByteArray.mk #[OfNat.ofNat 32]++u1++ByteArray.mk #[OfNat.ofNat 32]++u2)+1≤9223372036854775807)&&true)))))))=true) (c0:CO 66 [] [] (Eff.mk (.c (.sl 2 0 16 16)) [] (some (2,Ent.mk true A 0)))) (c1:pe (.c (.s (AC.asS (A[0+(i.op).toNat*1]?.getD (.b false)))))=pe (.c (.s m))) (c2:Ok 38 [.c (.i i.op)] (.c (.b true))) (c3:Ok 85 [.c (.i i.d)] (.c (.s u1))) (c4:Ok 86 [.ag i.cs] (.c (.s u2))) :
  Ok 33 [.ag i.cs] (.c (.s (m++ByteArray.mk #[OfNat.ofNat 32]++u1++ByteArray.mk #[OfNat.ofNat 32]++u2++ByteArray.mk #[OfNat.ofNat 10]))) :=
 zaf [true] ([]) [(1,4)] Tryz.func33 rfl rfl rfl rfl (by kernel_rfl) h (zab c0 (zac c1 (zab c2 (zab c3 (zab c4 zae)))))
theorem yawz (h:(decide (0≤i.op)&&decide (i.op<16)&&(AC.isS (A[0+(i.op).toNat*1]?.getD (.b false))&&Nat.blt (0+(i.op).toNat*1) A.length&&(i.op==10&&(decide (ByteArray.size m+1≤9223372036854775807)&&(decide (ByteArray.size (m++ByteArray.mk #[OfNat.ofNat 32])+ByteArray.size u1≤9223372036854775807)&&(decide (ByteArray.size (m++ByteArray.mk #[OfNat.ofNat 32]++u1)+1≤9223372036854775807)&&(decide (ByteArray.size (m++ByteArray.mk #[OfNat.ofNat 32]++u1++ByteArray.mk #[OfNat.ofNat 32])+ByteArray.size u2≤9223372036854775807)&&(decide (ByteArray.size (m++ByteArray.mk #[OfNat.ofNat 32]++u1++ByteArray.mk #[OfNat.ofNat 32]++u2)+1≤9223372036854775807)&&(decide (ByteArray.size (m++ByteArray.mk #[OfNat.ofNat 32]++u1++ByteArray.mk #[OfNat.ofNat 32]++u2++ByteArray.mk #[OfNat.ofNat 32])+ByteArray.size u3≤9223372036854775807)&&(decide (ByteArray.size (m++ByteArray.mk #[OfNat.ofNat 32]++u1++ByteArray.mk #[OfNat.ofNat 32]++u2++ByteArray.mk #[OfNat.ofNat 32]++u3)+1≤9223372036854775807)&&(decide (ByteArray.size (m++ByteArray.mk #[OfNat.ofNat 32]++u1++ByteArray.mk #[OfNat.ofNat 32]++u2++ByteArray.mk #[OfNat.ofNat 32]++u3++ByteArray.mk #[OfNat.ofNat 32])+ByteArray.size u4≤9223372036854775807)&&(decide (ByteArray.size (m++ByteArray.mk #[OfNat.ofNat 32]++u1++ByteArray.mk #[OfNat.ofNat 32]++u2++ByteArray.mk #[OfNat.ofNat 32]++u3++ByteArray.mk #[OfNat.ofNat 32]++u4)+1≤9223372036854775807)&&true))))))))))))=true) (c0:CO 66 [] [] (Eff.mk (.c (.sl 2 0 16 16)) [] (some (2,Ent.mk true A 0)))) (c1:pe (.c (.s (AC.asS (A[0+(i.op).toNat*1]?.getD (.b false)))))=pe (.c (.s m))) (c2:Ok 38 [.c (.i i.op)] (.c (.b false))) (c3:Ok 13 [.c (.u i.im)] (.c (.s u1))) (c4:Ok 85 [.c (.i i.d)] (.c (.s u2))) (c5:Ok 85 [.c (.i i.s)] (.c (.s u3))) (c6:Ok 87 [.c (.i i.of)] (.c (.s u4))) :
  Ok 33 [.ag i.cs] (.c (.s (m++ByteArray.mk #[OfNat.ofNat 32]++u1++ByteArray.mk #[OfNat.ofNat 32]++u2++ByteArray.mk #[OfNat.ofNat 32]++u3++ByteArray.mk #[OfNat.ofNat 32]++u4++ByteArray.mk #[OfNat.ofNat 10]))) :=
 zaf [false,true] ([]) [(1,4)] Tryz.func33 rfl rfl rfl rfl (by kernel_rfl) h (zab c0 (zac c1 (zab c2 (zab c3 (zab c4 (zab c5 (zab c6 zae)))))))
theorem yazb (h:(decide (0≤i.op)&&decide (i.op<16)&&(AC.isS (A[0+(i.op).toNat*1]?.getD (.b false))&&Nat.blt (0+(i.op).toNat*1) A.length&&(!i.op==10&&(i.op==11&&(decide (ByteArray.size m+1≤9223372036854775807)&&(decide (ByteArray.size (m++ByteArray.mk #[OfNat.ofNat 32])+ByteArray.size u1≤9223372036854775807)&&(decide (ByteArray.size (m++ByteArray.mk #[OfNat.ofNat 32]++u1)+1≤9223372036854775807)&&(decide (ByteArray.size (m++ByteArray.mk #[OfNat.ofNat 32]++u1++ByteArray.mk #[OfNat.ofNat 32])+ByteArray.size u2≤9223372036854775807)&&(decide (ByteArray.size (m++ByteArray.mk #[OfNat.ofNat 32]++u1++ByteArray.mk #[OfNat.ofNat 32]++u2)+1≤9223372036854775807)&&(decide (ByteArray.size (m++ByteArray.mk #[OfNat.ofNat 32]++u1++ByteArray.mk #[OfNat.ofNat 32]++u2++ByteArray.mk #[OfNat.ofNat 32])+ByteArray.size u3≤9223372036854775807)&&(decide (ByteArray.size (m++ByteArray.mk #[OfNat.ofNat 32]++u1++ByteArray.mk #[OfNat.ofNat 32]++u2++ByteArray.mk #[OfNat.ofNat 32]++u3)+1≤9223372036854775807)&&(decide (ByteArray.size (m++ByteArray.mk #[OfNat.ofNat 32]++u1++ByteArray.mk #[OfNat.ofNat 32]++u2++ByteArray.mk #[OfNat.ofNat 32]++u3++ByteArray.mk #[OfNat.ofNat 32])+ByteArray.size u4≤9223372036854775807)&&(decide (ByteArray.size (m++ByteArray.mk #[OfNat.ofNat 32]++u1++ByteArray.mk #[OfNat.ofNat 32]++u2++ByteArray.mk #[OfNat.ofNat 32]++u3++ByteArray.mk #[OfNat.ofNat 32]++u4)+1≤9223372036854775807)&&true)))))))))))))=true) (c0:CO 66 [] [] (Eff.mk (.c (.sl 2 0 16 16)) [] (some (2,Ent.mk true A 0)))) (c1:pe (.c (.s (AC.asS (A[0+(i.op).toNat*1]?.getD (.b false)))))=pe (.c (.s m))) (c2:Ok 38 [.c (.i i.op)] (.c (.b false))) (c3:Ok 13 [.c (.u i.im)] (.c (.s u1))) (c4:Ok 85 [.c (.i i.d)] (.c (.s u2))) (c5:Ok 87 [.c (.i i.of)] (.c (.s u3))) (c6:Ok 85 [.c (.i i.s)] (.c (.s u4))) :
  Ok 33 [.ag i.cs] (.c (.s (m++ByteArray.mk #[OfNat.ofNat 32]++u1++ByteArray.mk #[OfNat.ofNat 32]++u2++ByteArray.mk #[OfNat.ofNat 32]++u3++ByteArray.mk #[OfNat.ofNat 32]++u4++ByteArray.mk #[OfNat.ofNat 10]))) :=
 zaf [false,false,true] ([]) [(1,4)] Tryz.func33 rfl rfl rfl rfl (by kernel_rfl) h (zab c0 (zac c1 (zab c2 (zab c3 (zab c4 (zab c5 (zab c6 zae)))))))
theorem yawx (h:(decide (0≤i.op)&&decide (i.op<16)&&(AC.isS (A[0+(i.op).toNat*1]?.getD (.b false))&&Nat.blt (0+(i.op).toNat*1) A.length&&(!i.op==10&&(!i.op==11&&(decide (ByteArray.size m+1≤9223372036854775807)&&(decide (ByteArray.size (m++ByteArray.mk #[OfNat.ofNat 32])+ByteArray.size u1≤9223372036854775807)&&(decide (ByteArray.size (m++ByteArray.mk #[OfNat.ofNat 32]++u1)+1≤9223372036854775807)&&(decide (ByteArray.size (m++ByteArray.mk #[OfNat.ofNat 32]++u1++ByteArray.mk #[OfNat.ofNat 32])+ByteArray.size u2≤9223372036854775807)&&(decide (ByteArray.size (m++ByteArray.mk #[OfNat.ofNat 32]++u1++ByteArray.mk #[OfNat.ofNat 32]++u2)+1≤9223372036854775807)&&(decide (ByteArray.size (m++ByteArray.mk #[OfNat.ofNat 32]++u1++ByteArray.mk #[OfNat.ofNat 32]++u2++ByteArray.mk #[OfNat.ofNat 32])+ByteArray.size u3≤9223372036854775807)&&(decide (ByteArray.size (m++ByteArray.mk #[OfNat.ofNat 32]++u1++ByteArray.mk #[OfNat.ofNat 32]++u2++ByteArray.mk #[OfNat.ofNat 32]++u3)+1≤9223372036854775807)&&true)))))))))))=true) (c0:CO 66 [] [] (Eff.mk (.c (.sl 2 0 16 16)) [] (some (2,Ent.mk true A 0)))) (c1:pe (.c (.s (AC.asS (A[0+(i.op).toNat*1]?.getD (.b false)))))=pe (.c (.s m))) (c2:Ok 38 [.c (.i i.op)] (.c (.b false))) (c3:Ok 34 [.c (.i i.op)] (.c (.b true))) (c4:Ok 85 [.c (.i i.d)] (.c (.s u1))) (c5:Ok 86 [.ag i.cs] (.c (.s u2))) (c6:Ok 87 [.c (.i i.of)] (.c (.s u3))) :
  Ok 33 [.ag i.cs] (.c (.s (m++ByteArray.mk #[OfNat.ofNat 32]++u1++ByteArray.mk #[OfNat.ofNat 32]++u2++ByteArray.mk #[OfNat.ofNat 32]++u3++ByteArray.mk #[OfNat.ofNat 10]))) :=
 zaf [false,false,false,true] ([]) [(1,4)] Tryz.func33 rfl rfl rfl rfl (by kernel_rfl) h (zab c0 (zac c1 (zab c2 (zab c3 (zab c4 (zab c5 (zab c6 zae)))))))
theorem yawn (h:(decide (0≤i.op)&&decide (i.op<16)&&(AC.isS (A[0+(i.op).toNat*1]?.getD (.b false))&&Nat.blt (0+(i.op).toNat*1) A.length&&(!i.op==10&&(!i.op==11&&(i.op==12&&(decide (ByteArray.size m+1≤9223372036854775807)&&(decide (ByteArray.size (m++ByteArray.mk #[OfNat.ofNat 32])+ByteArray.size u1≤9223372036854775807)&&(decide (ByteArray.size (m++ByteArray.mk #[OfNat.ofNat 32]++u1)+1≤9223372036854775807)&&true))))))))=true) (c0:CO 66 [] [] (Eff.mk (.c (.sl 2 0 16 16)) [] (some (2,Ent.mk true A 0)))) (c1:pe (.c (.s (AC.asS (A[0+(i.op).toNat*1]?.getD (.b false)))))=pe (.c (.s m))) (c2:Ok 38 [.c (.i i.op)] (.c (.b false))) (c3:Ok 34 [.c (.i i.op)] (.c (.b false))) (c4:Ok 87 [.c (.i i.of)] (.c (.s u1))) :
  Ok 33 [.ag i.cs] (.c (.s (m++ByteArray.mk #[OfNat.ofNat 32]++u1++ByteArray.mk #[OfNat.ofNat 10]))) :=
 zaf [false,false,false,false,true] ([]) [(1,4)] Tryz.func33 rfl rfl rfl rfl (by kernel_rfl) h (zab c0 (zac c1 (zab c2 (zab c3 (zab c4 zae)))))
theorem yawb (h:(decide (0≤i.op)&&decide (i.op<16)&&(AC.isS (A[0+(i.op).toNat*1]?.getD (.b false))&&Nat.blt (0+(i.op).toNat*1) A.length&&(!i.op==10&&(!i.op==11&&(!i.op==12&&(decide (ByteArray.size m+1≤9223372036854775807)&&true))))))=true) (c0:CO 66 [] [] (Eff.mk (.c (.sl 2 0 16 16)) [] (some (2,Ent.mk true A 0)))) (c1:pe (.c (.s (AC.asS (A[0+(i.op).toNat*1]?.getD (.b false)))))=pe (.c (.s m))) (c2:Ok 38 [.c (.i i.op)] (.c (.b false))) (c3:Ok 34 [.c (.i i.op)] (.c (.b false))) :
  Ok 33 [.ag i.cs] (.c (.s (m++ByteArray.mk #[OfNat.ofNat 10]))) :=
 zaf [false,false,false,false,false] ([]) [(1,4)] Tryz.func33 rfl rfl rfl rfl (by kernel_rfl) h (zab c0 (zac c1 (zab c2 (zab c3 zae))))
theorem yao6 (lo:Kn.Low ⟨[(0,.c (.sl 0 0 L.length c)),(3,.c (.s (ByteArray.mk #[]))),(4,.c (.i 0))],[(0,Ent.mk false (pcell L) 0)],1⟩) (hF:∀ k,C.F k→k<1) (z:AR 14 Tryz.f14 C 0 ⟨[(0,.c (.sl 0 0 L.length c)),(3,.c (.s (ByteArray.mk #[]))),(4,.c (.i 0))],[(0,Ent.mk false (pcell L) 0)],1⟩ R) :
  BO 14 Tryz.f14 C [.c (.sl 0 0 L.length c)] [(0,Ent.mk false (pcell L) 0)] 1 R :=
 zai [] ([true]) [] Tryz.func14 (by kernel_rfl) rfl zae lo hF z
theorem yavw (h:(decide ((j:Int)<(L.length:Int))&&(decide ((j:Int)<(L.length:Int))&&(Nat.ble (0+(j:Int).toNat*5+5) (pcell L).length&&(decide (ByteArray.size t+ByteArray.size u1≤9223372036854775807)&&true))))=true) (c0:pe (.ag (((pcell L).drop (0+(j:Int).toNat*5)).take 5))=pe (.ag i.cs)) (c1:Ok 33 [.ag i.cs] (.c (.s u1))) (c2:pe (.c (.s (t++u1)))=pe (.c (.s m))) (c3:pe (.c (.i (IntKind.i64.wrap ((j:Int)+1))))=pe (.c (.i (↑(j+1):Int)))) (lo:Kn.Low (ctRK L c (j+1) m)) (hF:∀ k,C.F k→k<1) (z:AR 14 Tryz.f14 C 0 (ctRK L c (j+1) m) R) :
  AR 14 Tryz.f14 C 0 (ctRK L c j t) R :=
 zai [true] ([true]) [(5,4),(5,6),(4,1)] Tryz.func14 (by kernel_rfl) h (zac c0 (zab c1 (zac c2 (zac c3 zae)))) lo hF z
theorem yayc (h:(!decide ((j:Int)<(L.length:Int))&&true)=true) :
  AR 14 Tryz.f14 (cx w β n []) 0 (ctRK L c j t) (REff w β ⟨.c (.s t),[],none⟩) :=
 zah [] none [false] ([true]) [] Tryz.func14 (zau rfl n) (by kernel_rfl) h zae
theorem yay7 (h:(decide (0<(↑(ByteArray.size t):Int))&&(decide (0<ByteArray.size t)&&(zeg t 0==114#8&&true)))=true) (c0:Ok 68 [.c (.s t)] (.c (.i n1))) (hk:EKeys n [0] none ⟨.tu [],[(0,[.i i.op,.i i.d,.i n1,.u i.im,.i i.of])],none⟩) :
  BO 67 Tryz.f67 (cx w β n [0]) [.c (.s t),.c (.w 0)] [(0,Ent.mk true i.cs 0)] 1 (REff w β ⟨.tu [],[(0,[.i i.op,.i i.d,.i n1,.u i.im,.i i.of])],none⟩) :=
 zah [0] none [true,true] ([]) [] Tryz.func67 hk (by kernel_rfl) h (zab c0 zae)
theorem yaye (h:(decide (0<(↑(ByteArray.size t):Int))&&(decide (0<ByteArray.size t)&&(!zeg t 0==114#8&&true)))=true) (c0:Ok 69 [.c (.s t)] (.c (.u x))) (hk:EKeys n [0] none ⟨.tu [],[(0,[.i i.op,.i i.d,.i (-1),.u x,.i i.of])],none⟩) :
  BO 67 Tryz.f67 (cx w β n [0]) [.c (.s t),.c (.w 0)] [(0,Ent.mk true i.cs 0)] 1 (REff w β ⟨.tu [],[(0,[.i i.op,.i i.d,.i (-1),.u x,.i i.of])],none⟩) :=
 zah [0] none [true,false] ([]) [] Tryz.func67 hk (by kernel_rfl) h (zab c0 zae)
theorem yazl (h:(!decide (0<(↑(ByteArray.size t):Int))&&true)=true) (c0:Ok 69 [.c (.s t)] (.c (.u x))) (hk:EKeys n [0] none ⟨.tu [],[(0,[.i i.op,.i i.d,.i (-1),.u x,.i i.of])],none⟩) :
  BO 67 Tryz.f67 (cx w β n [0]) [.c (.s t),.c (.w 0)] [(0,Ent.mk true i.cs 0)] 1 (REff w β ⟨.tu [],[(0,[.i i.op,.i i.d,.i (-1),.u x,.i i.of])],none⟩) :=
 zah [0] none [false,false] ([]) [] Tryz.func67 hk (by kernel_rfl) h (zab c0 zae)
end
section
abbrev rcAK (L:List Ins) (c j:Nat):Kn:=⟨[(0,.c (.sl 0 0 L.length c)),(3,.c (.i (j:Int)))],[(0,Ent.mk false (pcell L) 0)],1⟩
abbrev rcBK (L:List Ins) (c j:Nat):Kn:=⟨[(0,.c (.sl 0 0 L.length c)),(4,.c (.i (j:Int)))],[(0,Ent.mk false (pcell L) 0)],1⟩
abbrev rcCK (L:List Ins) (c j:Nat):Kn:=⟨[(0,.c (.sl 0 0 L.length c)),(5,.c (.i (j:Int)))],[(0,Ent.mk false (pcell L) 0)],1⟩
variable {op a lo hi d q s of:Int} {V:AV} {i:Ins} {L:List Ins} {c n:Nat} {w:World} {β:Bs} {C:Cx} {R:Ending→World→Prop} {E:Eff} {m:Mach} {mem:ByteArray} {x im:BitVec 64}
theorem zoz (h:(op==13&&true)=true) :
  Ok 34 [.c (.i op)] (.c (.b true)) :=
 zaf [true] [] [] Tryz.func34 rfl rfl rfl rfl (by kernel_rfl) h zae
theorem zou (h:(!op==13&&true)=true) :
  Ok 34 [.c (.i op)] (.c (.b (op==14))) :=
 zaf [false] [] [] Tryz.func34 rfl rfl rfl rfl (by kernel_rfl) h zae
theorem zoe
  (l0:(op==13)=true→(AV.c (.b true)=V))
  (l1:(op==13)=false→(AV.c (.b (op==14))=V)) :
  Ok 34 [.c (.i op)] V :=
 (tf (op==13)).elim (fun h0=>(match l0 h0 with | e=>zam (zoz (zaa h0 rfl)) e)) (fun h0=>(match l1 h0 with | e=>zam (zou (zaa (zad h0) rfl)) e))
theorem zq4 (h:(op==10&&true)=true) :
  Ok 75 [.c (.i op)] (.c (.b true)) :=
 zaf [true] [] [] Tryz.func75 rfl rfl rfl rfl (by kernel_rfl) h zae
theorem zr8 (h:(!op==10&&true)=true) :
  Ok 75 [.c (.i op)] (.c (.b (op==11))) :=
 zaf [false] [] [] Tryz.func75 rfl rfl rfl rfl (by kernel_rfl) h zae
theorem zor
  (l0:(op==10)=true→(AV.c (.b true)=V))
  (l1:(op==10)=false→(AV.c (.b (op==11))=V)) :
  Ok 75 [.c (.i op)] V :=
 (tf (op==10)).elim (fun h0=>(match l0 h0 with | e=>zam (zq4 (zaa h0 rfl)) e)) (fun h0=>(match l1 h0 with | e=>zam (zr8 (zaa (zad h0) rfl)) e))
theorem zq2 (c0:Ok 35 [.c (.i op),.c (.i 1),.c (.i 9)] (.c (.b (decide (1≤op)&&decide (op≤9))))) :
  Ok 38 [.c (.i op)] (.c (.b (decide (1≤op)&&decide (op≤9)))) :=
 zaf [] [] [] Tryz.func38 rfl rfl rfl rfl (by kernel_rfl) rfl (zab c0 zae)
theorem zvk (h:(decide (lo≤a)&&true)=true) :
  Ok 35 [.c (.i a),.c (.i lo),.c (.i hi)] (.c (.b (decide (a≤hi)))) :=
 zaf [true] [] [] Tryz.func35 rfl rfl rfl rfl (by kernel_rfl) h zae
theorem ztq (h:(!decide (lo≤a)&&true)=true) :
  Ok 35 [.c (.i a),.c (.i lo),.c (.i hi)] (.c (.b false)) :=
 zaf [false] [] [] Tryz.func35 rfl rfl rfl rfl (by kernel_rfl) h zae
theorem zsa
  (l0:(decide (lo≤a))=true→(AV.c (.b (decide (a≤hi)))=V))
  (l1:(decide (lo≤a))=false→(AV.c (.b false)=V)) :
  Ok 35 [.c (.i a),.c (.i lo),.c (.i hi)] V :=
 (tf (decide (lo≤a))).elim (fun h0=>(match l0 h0 with | e=>zam (zvk (zaa h0 rfl)) e)) (fun h0=>(match l1 h0 with | e=>zam (ztq (zaa (zad h0) rfl)) e))
theorem yakp (c0:Ok 35 [.c (.i d),.c (.i 0),.c (.i 5)] (.c (.b (decide (0≤d)&&decide (d≤5))))) :
  Ok 122 [.c (.i d)] (.c (.b (decide (0≤d)&&decide (d≤5)))) :=
 zaf [] [] [] Tryz.func122 rfl rfl rfl rfl (by kernel_rfl) rfl (zab c0 zae)
theorem zs5 (h:(decide (1≤i.op)&&decide (i.op≤9)&&(regB i.d&&(regB i.s&&true)))=true) (c0:Ok 38 [.c (.i i.op)] (.c (.b (decide (1≤i.op)&&decide (i.op≤9))))) (c1:Ok 122 [.c (.i i.d)] (.c (.b (regB i.d)))) (c2:Ok 122 [.c (.i i.s)] (.c (.b (regB i.s)))) :
  Ok 71 [.ag i.cs,.c (.i q)] (.c (.b true)) :=
 zaf [true,true,true] [] [] Tryz.func71 rfl rfl rfl rfl (by kernel_rfl) h (zab c0 (zab c1 (zab c2 zae)))
theorem zwg (h:(decide (1≤i.op)&&decide (i.op≤9)&&(regB i.d&&(!regB i.s&&true)))=true) (c0:Ok 38 [.c (.i i.op)] (.c (.b (decide (1≤i.op)&&decide (i.op≤9))))) (c1:Ok 122 [.c (.i i.d)] (.c (.b (regB i.d)))) (c2:Ok 122 [.c (.i i.s)] (.c (.b (regB i.s)))) :
  Ok 71 [.ag i.cs,.c (.i q)] (.c (.b (i.s==-1))) :=
 zaf [true,true,false] [] [] Tryz.func71 rfl rfl rfl rfl (by kernel_rfl) h (zab c0 (zab c1 (zab c2 zae)))
theorem ztm (h:(decide (1≤i.op)&&decide (i.op≤9)&&(!regB i.d&&true))=true) (c0:Ok 38 [.c (.i i.op)] (.c (.b (decide (1≤i.op)&&decide (i.op≤9))))) (c1:Ok 122 [.c (.i i.d)] (.c (.b (regB i.d)))) :
  Ok 71 [.ag i.cs,.c (.i q)] (.c (.b false)) :=
 zaf [true,false] [] [] Tryz.func71 rfl rfl rfl rfl (by kernel_rfl) h (zab c0 (zab c1 zae))
theorem ztw (h:(!(decide (1≤i.op)&&decide (i.op≤9))&&((i.op==10||i.op==11)&&(regB i.d&&(regB i.s&&(decide (-64≤i.of)&&decide (i.of≤64)&&(eqb i.im 1#64&&true))))))=true) (c0:Ok 38 [.c (.i i.op)] (.c (.b (decide (1≤i.op)&&decide (i.op≤9))))) (c1:Ok 75 [.c (.i i.op)] (.c (.b (i.op==10||i.op==11)))) (c2:Ok 122 [.c (.i i.d)] (.c (.b (regB i.d)))) (c3:Ok 122 [.c (.i i.s)] (.c (.b (regB i.s)))) (c4:Ok 35 [.c (.i i.of),.c (.i (-64)),.c (.i 64)] (.c (.b (decide (-64≤i.of)&&decide (i.of≤64))))) :
  Ok 71 [.ag i.cs,.c (.i q)] (.c (.b true)) :=
 zaf [false,true,true,true,true,true,true,true] [] [] Tryz.func71 rfl rfl rfl rfl (by kernel_rfl) h (zab c0 (zab c1 (zab c2 (zab c3 (zab c4 zae)))))
theorem ztb (h:(!(decide (1≤i.op)&&decide (i.op≤9))&&((i.op==10||i.op==11)&&(regB i.d&&(regB i.s&&(decide (-64≤i.of)&&decide (i.of≤64)&&(!eqb i.im 1#64&&(eqb i.im 2#64&&true)))))))=true) (c0:Ok 38 [.c (.i i.op)] (.c (.b (decide (1≤i.op)&&decide (i.op≤9))))) (c1:Ok 75 [.c (.i i.op)] (.c (.b (i.op==10||i.op==11)))) (c2:Ok 122 [.c (.i i.d)] (.c (.b (regB i.d)))) (c3:Ok 122 [.c (.i i.s)] (.c (.b (regB i.s)))) (c4:Ok 35 [.c (.i i.of),.c (.i (-64)),.c (.i 64)] (.c (.b (decide (-64≤i.of)&&decide (i.of≤64))))) :
  Ok 71 [.ag i.cs,.c (.i q)] (.c (.b true)) :=
 zaf [false,true,true,true,true,false,true,true] [] [] Tryz.func71 rfl rfl rfl rfl (by kernel_rfl) h (zab c0 (zab c1 (zab c2 (zab c3 (zab c4 zae)))))
theorem zud (h:(!(decide (1≤i.op)&&decide (i.op≤9))&&((i.op==10||i.op==11)&&(regB i.d&&(regB i.s&&(decide (-64≤i.of)&&decide (i.of≤64)&&(!eqb i.im 1#64&&(!eqb i.im 2#64&&(eqb i.im 4#64&&true))))))))=true) (c0:Ok 38 [.c (.i i.op)] (.c (.b (decide (1≤i.op)&&decide (i.op≤9))))) (c1:Ok 75 [.c (.i i.op)] (.c (.b (i.op==10||i.op==11)))) (c2:Ok 122 [.c (.i i.d)] (.c (.b (regB i.d)))) (c3:Ok 122 [.c (.i i.s)] (.c (.b (regB i.s)))) (c4:Ok 35 [.c (.i i.of),.c (.i (-64)),.c (.i 64)] (.c (.b (decide (-64≤i.of)&&decide (i.of≤64))))) :
  Ok 71 [.ag i.cs,.c (.i q)] (.c (.b true)) :=
 zaf [false,true,true,true,true,false,false,true] [] [] Tryz.func71 rfl rfl rfl rfl (by kernel_rfl) h (zab c0 (zab c1 (zab c2 (zab c3 (zab c4 zae)))))
theorem zuu (h:(!(decide (1≤i.op)&&decide (i.op≤9))&&((i.op==10||i.op==11)&&(regB i.d&&(regB i.s&&(decide (-64≤i.of)&&decide (i.of≤64)&&(!eqb i.im 1#64&&(!eqb i.im 2#64&&(!eqb i.im 4#64&&true))))))))=true) (c0:Ok 38 [.c (.i i.op)] (.c (.b (decide (1≤i.op)&&decide (i.op≤9))))) (c1:Ok 75 [.c (.i i.op)] (.c (.b (i.op==10||i.op==11)))) (c2:Ok 122 [.c (.i i.d)] (.c (.b (regB i.d)))) (c3:Ok 122 [.c (.i i.s)] (.c (.b (regB i.s)))) (c4:Ok 35 [.c (.i i.of),.c (.i (-64)),.c (.i 64)] (.c (.b (decide (-64≤i.of)&&decide (i.of≤64))))) :
  Ok 71 [.ag i.cs,.c (.i q)] (.c (.b (eqb i.im 8#64))) :=
 zaf [false,true,true,true,true,false,false,false] [] [] Tryz.func71 rfl rfl rfl rfl (by kernel_rfl) h (zab c0 (zab c1 (zab c2 (zab c3 (zab c4 zae)))))
theorem zwh (h:(!(decide (1≤i.op)&&decide (i.op≤9))&&((i.op==10||i.op==11)&&(regB i.d&&(regB i.s&&(!(decide (-64≤i.of)&&decide (i.of≤64))&&true)))))=true) (c0:Ok 38 [.c (.i i.op)] (.c (.b (decide (1≤i.op)&&decide (i.op≤9))))) (c1:Ok 75 [.c (.i i.op)] (.c (.b (i.op==10||i.op==11)))) (c2:Ok 122 [.c (.i i.d)] (.c (.b (regB i.d)))) (c3:Ok 122 [.c (.i i.s)] (.c (.b (regB i.s)))) (c4:Ok 35 [.c (.i i.of),.c (.i (-64)),.c (.i 64)] (.c (.b (decide (-64≤i.of)&&decide (i.of≤64))))) :
  Ok 71 [.ag i.cs,.c (.i q)] (.c (.b false)) :=
 zaf [false,true,true,true,false] [] [] Tryz.func71 rfl rfl rfl rfl (by kernel_rfl) h (zab c0 (zab c1 (zab c2 (zab c3 (zab c4 zae)))))
theorem zva (h:(!(decide (1≤i.op)&&decide (i.op≤9))&&((i.op==10||i.op==11)&&(regB i.d&&(!regB i.s&&true))))=true) (c0:Ok 38 [.c (.i i.op)] (.c (.b (decide (1≤i.op)&&decide (i.op≤9))))) (c1:Ok 75 [.c (.i i.op)] (.c (.b (i.op==10||i.op==11)))) (c2:Ok 122 [.c (.i i.d)] (.c (.b (regB i.d)))) (c3:Ok 122 [.c (.i i.s)] (.c (.b (regB i.s)))) :
  Ok 71 [.ag i.cs,.c (.i q)] (.c (.b false)) :=
 zaf [false,true,true,false,false] [] [] Tryz.func71 rfl rfl rfl rfl (by kernel_rfl) h (zab c0 (zab c1 (zab c2 (zab c3 zae))))
theorem zt9 (h:(!(decide (1≤i.op)&&decide (i.op≤9))&&((i.op==10||i.op==11)&&(!regB i.d&&true)))=true) (c0:Ok 38 [.c (.i i.op)] (.c (.b (decide (1≤i.op)&&decide (i.op≤9))))) (c1:Ok 75 [.c (.i i.op)] (.c (.b (i.op==10||i.op==11)))) (c2:Ok 122 [.c (.i i.d)] (.c (.b (regB i.d)))) :
  Ok 71 [.ag i.cs,.c (.i q)] (.c (.b false)) :=
 zaf [false,true,false,false,false] [] [] Tryz.func71 rfl rfl rfl rfl (by kernel_rfl) h (zab c0 (zab c1 (zab c2 zae)))
theorem zst (h:(!(decide (1≤i.op)&&decide (i.op≤9))&&(!(i.op==10||i.op==11)&&((i.op==13||i.op==14)&&(regB i.d&&(regB i.s&&true)))))=true) (c0:Ok 38 [.c (.i i.op)] (.c (.b (decide (1≤i.op)&&decide (i.op≤9))))) (c1:Ok 75 [.c (.i i.op)] (.c (.b (i.op==10||i.op==11)))) (c2:Ok 34 [.c (.i i.op)] (.c (.b (i.op==13||i.op==14)))) (c3:Ok 122 [.c (.i i.d)] (.c (.b (regB i.d)))) (c4:Ok 122 [.c (.i i.s)] (.c (.b (regB i.s)))) (c5:Ok 35 [.c (.i i.of),.c (.i 0),.c (.i q)] (.c (.b (decide (0≤i.of)&&decide (i.of≤q))))) :
  Ok 71 [.ag i.cs,.c (.i q)] (.c (.b (decide (0≤i.of)&&decide (i.of≤q)))) :=
 zaf [false,false,true,true,true,true] [] [] Tryz.func71 rfl rfl rfl rfl (by kernel_rfl) h (zab c0 (zab c1 (zab c2 (zab c3 (zab c4 (zab c5 zae))))))
theorem zss (h:(!(decide (1≤i.op)&&decide (i.op≤9))&&(!(i.op==10||i.op==11)&&((i.op==13||i.op==14)&&(regB i.d&&(!regB i.s&&(i.s==-1&&true))))))=true) (c0:Ok 38 [.c (.i i.op)] (.c (.b (decide (1≤i.op)&&decide (i.op≤9))))) (c1:Ok 75 [.c (.i i.op)] (.c (.b (i.op==10||i.op==11)))) (c2:Ok 34 [.c (.i i.op)] (.c (.b (i.op==13||i.op==14)))) (c3:Ok 122 [.c (.i i.d)] (.c (.b (regB i.d)))) (c4:Ok 122 [.c (.i i.s)] (.c (.b (regB i.s)))) (c5:Ok 35 [.c (.i i.of),.c (.i 0),.c (.i q)] (.c (.b (decide (0≤i.of)&&decide (i.of≤q))))) :
  Ok 71 [.ag i.cs,.c (.i q)] (.c (.b (decide (0≤i.of)&&decide (i.of≤q)))) :=
 zaf [false,false,true,true,false,true] [] [] Tryz.func71 rfl rfl rfl rfl (by kernel_rfl) h (zab c0 (zab c1 (zab c2 (zab c3 (zab c4 (zab c5 zae))))))
theorem zru (h:(!(decide (1≤i.op)&&decide (i.op≤9))&&(!(i.op==10||i.op==11)&&((i.op==13||i.op==14)&&(regB i.d&&(!regB i.s&&(!i.s==-1&&true))))))=true) (c0:Ok 38 [.c (.i i.op)] (.c (.b (decide (1≤i.op)&&decide (i.op≤9))))) (c1:Ok 75 [.c (.i i.op)] (.c (.b (i.op==10||i.op==11)))) (c2:Ok 34 [.c (.i i.op)] (.c (.b (i.op==13||i.op==14)))) (c3:Ok 122 [.c (.i i.d)] (.c (.b (regB i.d)))) (c4:Ok 122 [.c (.i i.s)] (.c (.b (regB i.s)))) :
  Ok 71 [.ag i.cs,.c (.i q)] (.c (.b false)) :=
 zaf [false,false,true,true,false,false] [] [] Tryz.func71 rfl rfl rfl rfl (by kernel_rfl) h (zab c0 (zab c1 (zab c2 (zab c3 (zab c4 zae)))))
theorem zs3 (h:(!(decide (1≤i.op)&&decide (i.op≤9))&&(!(i.op==10||i.op==11)&&((i.op==13||i.op==14)&&(!regB i.d&&true))))=true) (c0:Ok 38 [.c (.i i.op)] (.c (.b (decide (1≤i.op)&&decide (i.op≤9))))) (c1:Ok 75 [.c (.i i.op)] (.c (.b (i.op==10||i.op==11)))) (c2:Ok 34 [.c (.i i.op)] (.c (.b (i.op==13||i.op==14)))) (c3:Ok 122 [.c (.i i.d)] (.c (.b (regB i.d)))) :
  Ok 71 [.ag i.cs,.c (.i q)] (.c (.b false)) :=
 zaf [false,false,true,false,false] [] [] Tryz.func71 rfl rfl rfl rfl (by kernel_rfl) h (zab c0 (zab c1 (zab c2 (zab c3 zae))))
theorem zrd (h:(!(decide (1≤i.op)&&decide (i.op≤9))&&(!(i.op==10||i.op==11)&&(!(i.op==13||i.op==14)&&(i.op==12&&true))))=true) (c0:Ok 38 [.c (.i i.op)] (.c (.b (decide (1≤i.op)&&decide (i.op≤9))))) (c1:Ok 75 [.c (.i i.op)] (.c (.b (i.op==10||i.op==11)))) (c2:Ok 34 [.c (.i i.op)] (.c (.b (i.op==13||i.op==14)))) (c3:Ok 35 [.c (.i i.of),.c (.i 0),.c (.i q)] (.c (.b (decide (0≤i.of)&&decide (i.of≤q))))) :
  Ok 71 [.ag i.cs,.c (.i q)] (.c (.b (decide (0≤i.of)&&decide (i.of≤q)))) :=
 zaf [false,false,false,true] [] [] Tryz.func71 rfl rfl rfl rfl (by kernel_rfl) h (zab c0 (zab c1 (zab c2 (zab c3 zae))))
theorem zrb (h:(!(decide (1≤i.op)&&decide (i.op≤9))&&(!(i.op==10||i.op==11)&&(!(i.op==13||i.op==14)&&(!i.op==12&&true))))=true) (c0:Ok 38 [.c (.i i.op)] (.c (.b (decide (1≤i.op)&&decide (i.op≤9))))) (c1:Ok 75 [.c (.i i.op)] (.c (.b (i.op==10||i.op==11)))) (c2:Ok 34 [.c (.i i.op)] (.c (.b (i.op==13||i.op==14)))) :
  Ok 71 [.ag i.cs,.c (.i q)] (.c (.b true)) :=
 zaf [false,false,false,false] [] [] Tryz.func71 rfl rfl rfl rfl (by kernel_rfl) h (zab c0 (zab c1 (zab c2 zae)))
theorem zrc
  (l0:(decide (1≤i.op)&&decide (i.op≤9))=true→(regB i.d)=true→(regB i.s)=true→(Ok 38 [.c (.i i.op)] (.c (.b (decide (1≤i.op)&&decide (i.op≤9)))))∧(Ok 122 [.c (.i i.d)] (.c (.b (regB i.d))))∧(Ok 122 [.c (.i i.s)] (.c (.b (regB i.s))))∧(AV.c (.b true)=V))
  (l1:(decide (1≤i.op)&&decide (i.op≤9))=true→(regB i.d)=true→(regB i.s)=false→(Ok 38 [.c (.i i.op)] (.c (.b (decide (1≤i.op)&&decide (i.op≤9)))))∧(Ok 122 [.c (.i i.d)] (.c (.b (regB i.d))))∧(Ok 122 [.c (.i i.s)] (.c (.b (regB i.s))))∧(AV.c (.b (i.s==-1))=V))
  (l2:(decide (1≤i.op)&&decide (i.op≤9))=true→(regB i.d)=false→(Ok 38 [.c (.i i.op)] (.c (.b (decide (1≤i.op)&&decide (i.op≤9)))))∧(Ok 122 [.c (.i i.d)] (.c (.b (regB i.d))))∧(AV.c (.b false)=V))
  (l3:(decide (1≤i.op)&&decide (i.op≤9))=false→(i.op==10||i.op==11)=true→(regB i.d)=true→(regB i.s)=true→(decide (-64≤i.of)&&decide (i.of≤64))=true→(eqb i.im 1#64)=true→(Ok 38 [.c (.i i.op)] (.c (.b (decide (1≤i.op)&&decide (i.op≤9)))))∧(Ok 75 [.c (.i i.op)] (.c (.b (i.op==10||i.op==11))))∧(Ok 122 [.c (.i i.d)] (.c (.b (regB i.d))))∧(Ok 122 [.c (.i i.s)] (.c (.b (regB i.s))))∧(Ok 35 [.c (.i i.of),.c (.i (-64)),.c (.i 64)] (.c (.b (decide (-64≤i.of)&&decide (i.of≤64)))))∧(AV.c (.b true)=V))
  (l4:(decide (1≤i.op)&&decide (i.op≤9))=false→(i.op==10||i.op==11)=true→(regB i.d)=true→(regB i.s)=true→(decide (-64≤i.of)&&decide (i.of≤64))=true→(eqb i.im 1#64)=false→(eqb i.im 2#64)=true→(Ok 38 [.c (.i i.op)] (.c (.b (decide (1≤i.op)&&decide (i.op≤9)))))∧(Ok 75 [.c (.i i.op)] (.c (.b (i.op==10||i.op==11))))∧(Ok 122 [.c (.i i.d)] (.c (.b (regB i.d))))∧(Ok 122 [.c (.i i.s)] (.c (.b (regB i.s))))∧(Ok 35 [.c (.i i.of),.c (.i (-64)),.c (.i 64)] (.c (.b (decide (-64≤i.of)&&decide (i.of≤64)))))∧(AV.c (.b true)=V))
  (l5:(decide (1≤i.op)&&decide (i.op≤9))=false→(i.op==10||i.op==11)=true→(regB i.d)=true→(regB i.s)=true→(decide (-64≤i.of)&&decide (i.of≤64))=true→(eqb i.im 1#64)=false→(eqb i.im 2#64)=false→(eqb i.im 4#64)=true→(Ok 38 [.c (.i i.op)] (.c (.b (decide (1≤i.op)&&decide (i.op≤9)))))∧(Ok 75 [.c (.i i.op)] (.c (.b (i.op==10||i.op==11))))∧(Ok 122 [.c (.i i.d)] (.c (.b (regB i.d))))∧(Ok 122 [.c (.i i.s)] (.c (.b (regB i.s))))∧(Ok 35 [.c (.i i.of),.c (.i (-64)),.c (.i 64)] (.c (.b (decide (-64≤i.of)&&decide (i.of≤64)))))∧(AV.c (.b true)=V))
  (l6:(decide (1≤i.op)&&decide (i.op≤9))=false→(i.op==10||i.op==11)=true→(regB i.d)=true→(regB i.s)=true→(decide (-64≤i.of)&&decide (i.of≤64))=true→(eqb i.im 1#64)=false→(eqb i.im 2#64)=false→(eqb i.im 4#64)=false→(Ok 38 [.c (.i i.op)] (.c (.b (decide (1≤i.op)&&decide (i.op≤9)))))∧(Ok 75 [.c (.i i.op)] (.c (.b (i.op==10||i.op==11))))∧(Ok 122 [.c (.i i.d)] (.c (.b (regB i.d))))∧(Ok 122 [.c (.i i.s)] (.c (.b (regB i.s))))∧(Ok 35 [.c (.i i.of),.c (.i (-64)),.c (.i 64)] (.c (.b (decide (-64≤i.of)&&decide (i.of≤64)))))∧(AV.c (.b (eqb i.im 8#64))=V))
  (l7:(decide (1≤i.op)&&decide (i.op≤9))=false→(i.op==10||i.op==11)=true→(regB i.d)=true→(regB i.s)=true→(decide (-64≤i.of)&&decide (i.of≤64))=false→(Ok 38 [.c (.i i.op)] (.c (.b (decide (1≤i.op)&&decide (i.op≤9)))))∧(Ok 75 [.c (.i i.op)] (.c (.b (i.op==10||i.op==11))))∧(Ok 122 [.c (.i i.d)] (.c (.b (regB i.d))))∧(Ok 122 [.c (.i i.s)] (.c (.b (regB i.s))))∧(Ok 35 [.c (.i i.of),.c (.i (-64)),.c (.i 64)] (.c (.b (decide (-64≤i.of)&&decide (i.of≤64)))))∧(AV.c (.b false)=V))
  (l8:(decide (1≤i.op)&&decide (i.op≤9))=false→(i.op==10||i.op==11)=true→(regB i.d)=true→(regB i.s)=false→(Ok 38 [.c (.i i.op)] (.c (.b (decide (1≤i.op)&&decide (i.op≤9)))))∧(Ok 75 [.c (.i i.op)] (.c (.b (i.op==10||i.op==11))))∧(Ok 122 [.c (.i i.d)] (.c (.b (regB i.d))))∧(Ok 122 [.c (.i i.s)] (.c (.b (regB i.s))))∧(AV.c (.b false)=V))
  (l9:(decide (1≤i.op)&&decide (i.op≤9))=false→(i.op==10||i.op==11)=true→(regB i.d)=false→(Ok 38 [.c (.i i.op)] (.c (.b (decide (1≤i.op)&&decide (i.op≤9)))))∧(Ok 75 [.c (.i i.op)] (.c (.b (i.op==10||i.op==11))))∧(Ok 122 [.c (.i i.d)] (.c (.b (regB i.d))))∧(AV.c (.b false)=V))
  (l10:(decide (1≤i.op)&&decide (i.op≤9))=false→(i.op==10||i.op==11)=false→(i.op==13||i.op==14)=true→(regB i.d)=true→(regB i.s)=true→(Ok 38 [.c (.i i.op)] (.c (.b (decide (1≤i.op)&&decide (i.op≤9)))))∧(Ok 75 [.c (.i i.op)] (.c (.b (i.op==10||i.op==11))))∧(Ok 34 [.c (.i i.op)] (.c (.b (i.op==13||i.op==14))))∧(Ok 122 [.c (.i i.d)] (.c (.b (regB i.d))))∧(Ok 122 [.c (.i i.s)] (.c (.b (regB i.s))))∧(Ok 35 [.c (.i i.of),.c (.i 0),.c (.i q)] (.c (.b (decide (0≤i.of)&&decide (i.of≤q)))))∧(AV.c (.b (decide (0≤i.of)&&decide (i.of≤q)))=V))
  (l11:(decide (1≤i.op)&&decide (i.op≤9))=false→(i.op==10||i.op==11)=false→(i.op==13||i.op==14)=true→(regB i.d)=true→(regB i.s)=false→(i.s==-1)=true→(Ok 38 [.c (.i i.op)] (.c (.b (decide (1≤i.op)&&decide (i.op≤9)))))∧(Ok 75 [.c (.i i.op)] (.c (.b (i.op==10||i.op==11))))∧(Ok 34 [.c (.i i.op)] (.c (.b (i.op==13||i.op==14))))∧(Ok 122 [.c (.i i.d)] (.c (.b (regB i.d))))∧(Ok 122 [.c (.i i.s)] (.c (.b (regB i.s))))∧(Ok 35 [.c (.i i.of),.c (.i 0),.c (.i q)] (.c (.b (decide (0≤i.of)&&decide (i.of≤q)))))∧(AV.c (.b (decide (0≤i.of)&&decide (i.of≤q)))=V))
  (l12:(decide (1≤i.op)&&decide (i.op≤9))=false→(i.op==10||i.op==11)=false→(i.op==13||i.op==14)=true→(regB i.d)=true→(regB i.s)=false→(i.s==-1)=false→(Ok 38 [.c (.i i.op)] (.c (.b (decide (1≤i.op)&&decide (i.op≤9)))))∧(Ok 75 [.c (.i i.op)] (.c (.b (i.op==10||i.op==11))))∧(Ok 34 [.c (.i i.op)] (.c (.b (i.op==13||i.op==14))))∧(Ok 122 [.c (.i i.d)] (.c (.b (regB i.d))))∧(Ok 122 [.c (.i i.s)] (.c (.b (regB i.s))))∧(AV.c (.b false)=V))
  (l13:(decide (1≤i.op)&&decide (i.op≤9))=false→(i.op==10||i.op==11)=false→(i.op==13||i.op==14)=true→(regB i.d)=false→(Ok 38 [.c (.i i.op)] (.c (.b (decide (1≤i.op)&&decide (i.op≤9)))))∧(Ok 75 [.c (.i i.op)] (.c (.b (i.op==10||i.op==11))))∧(Ok 34 [.c (.i i.op)] (.c (.b (i.op==13||i.op==14))))∧(Ok 122 [.c (.i i.d)] (.c (.b (regB i.d))))∧(AV.c (.b false)=V))
  (l14:(decide (1≤i.op)&&decide (i.op≤9))=false→(i.op==10||i.op==11)=false→(i.op==13||i.op==14)=false→(i.op==12)=true→(Ok 38 [.c (.i i.op)] (.c (.b (decide (1≤i.op)&&decide (i.op≤9)))))∧(Ok 75 [.c (.i i.op)] (.c (.b (i.op==10||i.op==11))))∧(Ok 34 [.c (.i i.op)] (.c (.b (i.op==13||i.op==14))))∧(Ok 35 [.c (.i i.of),.c (.i 0),.c (.i q)] (.c (.b (decide (0≤i.of)&&decide (i.of≤q)))))∧(AV.c (.b (decide (0≤i.of)&&decide (i.of≤q)))=V))
  (l15:(decide (1≤i.op)&&decide (i.op≤9))=false→(i.op==10||i.op==11)=false→(i.op==13||i.op==14)=false→(i.op==12)=false→(Ok 38 [.c (.i i.op)] (.c (.b (decide (1≤i.op)&&decide (i.op≤9)))))∧(Ok 75 [.c (.i i.op)] (.c (.b (i.op==10||i.op==11))))∧(Ok 34 [.c (.i i.op)] (.c (.b (i.op==13||i.op==14))))∧(AV.c (.b true)=V)) :
  Ok 71 [.ag i.cs,.c (.i q)] V :=
 (tf (decide (1≤i.op)&&decide (i.op≤9))).elim (fun h0=>(tf (regB i.d)).elim (fun h1=>(tf (regB i.s)).elim (fun h2=>(match l0 h0 h1 h2 with | ⟨c0,c1,c2,e⟩=>zam (zs5 (zaa h0 (zaa h1 (zaa h2 rfl))) c0 c1 c2) e)) (fun h2=>(match l1 h0 h1 h2 with | ⟨c0,c1,c2,e⟩=>zam (zwg (zaa h0 (zaa h1 (zaa (zad h2) rfl))) c0 c1 c2) e))) (fun h1=>(match l2 h0 h1 with | ⟨c0,c1,e⟩=>zam (ztm (zaa h0 (zaa (zad h1) rfl)) c0 c1) e))) (fun h0=>(tf (i.op==10||i.op==11)).elim (fun h1=>(tf (regB i.d)).elim (fun h2=>(tf (regB i.s)).elim (fun h3=>(tf (decide (-64≤i.of)&&decide (i.of≤64))).elim (fun h4=>(tf (eqb i.im 1#64)).elim (fun h5=>(match l3 h0 h1 h2 h3 h4 h5 with | ⟨c0,c1,c2,c3,c4,e⟩=>zam (ztw (zaa (zad h0) (zaa h1 (zaa h2 (zaa h3 (zaa h4 (zaa h5 rfl)))))) c0 c1 c2 c3 c4) e)) (fun h5=>(tf (eqb i.im 2#64)).elim (fun h6=>(match l4 h0 h1 h2 h3 h4 h5 h6 with | ⟨c0,c1,c2,c3,c4,e⟩=>zam (ztb (zaa (zad h0) (zaa h1 (zaa h2 (zaa h3 (zaa h4 (zaa (zad h5) (zaa h6 rfl))))))) c0 c1 c2 c3 c4) e)) (fun h6=>(tf (eqb i.im 4#64)).elim (fun h7=>(match l5 h0 h1 h2 h3 h4 h5 h6 h7 with | ⟨c0,c1,c2,c3,c4,e⟩=>zam (zud (zaa (zad h0) (zaa h1 (zaa h2 (zaa h3 (zaa h4 (zaa (zad h5) (zaa (zad h6) (zaa h7 rfl)))))))) c0 c1 c2 c3 c4) e)) (fun h7=>(match l6 h0 h1 h2 h3 h4 h5 h6 h7 with | ⟨c0,c1,c2,c3,c4,e⟩=>zam (zuu (zaa (zad h0) (zaa h1 (zaa h2 (zaa h3 (zaa h4 (zaa (zad h5) (zaa (zad h6) (zaa (zad h7) rfl)))))))) c0 c1 c2 c3 c4) e))))) (fun h4=>(match l7 h0 h1 h2 h3 h4 with | ⟨c0,c1,c2,c3,c4,e⟩=>zam (zwh (zaa (zad h0) (zaa h1 (zaa h2 (zaa h3 (zaa (zad h4) rfl))))) c0 c1 c2 c3 c4) e))) (fun h3=>(match l8 h0 h1 h2 h3 with | ⟨c0,c1,c2,c3,e⟩=>zam (zva (zaa (zad h0) (zaa h1 (zaa h2 (zaa (zad h3) rfl)))) c0 c1 c2 c3) e))) (fun h2=>(match l9 h0 h1 h2 with | ⟨c0,c1,c2,e⟩=>zam (zt9 (zaa (zad h0) (zaa h1 (zaa (zad h2) rfl))) c0 c1 c2) e))) (fun h1=>(tf (i.op==13||i.op==14)).elim (fun h2=>(tf (regB i.d)).elim (fun h3=>(tf (regB i.s)).elim (fun h4=>(match l10 h0 h1 h2 h3 h4 with | ⟨c0,c1,c2,c3,c4,c5,e⟩=>zam (zst (zaa (zad h0) (zaa (zad h1) (zaa h2 (zaa h3 (zaa h4 rfl))))) c0 c1 c2 c3 c4 c5) e)) (fun h4=>(tf (i.s==-1)).elim (fun h5=>(match l11 h0 h1 h2 h3 h4 h5 with | ⟨c0,c1,c2,c3,c4,c5,e⟩=>zam (zss (zaa (zad h0) (zaa (zad h1) (zaa h2 (zaa h3 (zaa (zad h4) (zaa h5 rfl)))))) c0 c1 c2 c3 c4 c5) e)) (fun h5=>(match l12 h0 h1 h2 h3 h4 h5 with | ⟨c0,c1,c2,c3,c4,e⟩=>zam (zru (zaa (zad h0) (zaa (zad h1) (zaa h2 (zaa h3 (zaa (zad h4) (zaa (zad h5) rfl)))))) c0 c1 c2 c3 c4) e)))) (fun h3=>(match l13 h0 h1 h2 h3 with | ⟨c0,c1,c2,c3,e⟩=>zam (zs3 (zaa (zad h0) (zaa (zad h1) (zaa h2 (zaa (zad h3) rfl)))) c0 c1 c2 c3) e))) (fun h2=>(tf (i.op==12)).elim (fun h3=>(match l14 h0 h1 h2 h3 with | ⟨c0,c1,c2,c3,e⟩=>zam (zrd (zaa (zad h0) (zaa (zad h1) (zaa (zad h2) (zaa h3 rfl)))) c0 c1 c2 c3) e)) (fun h3=>(match l15 h0 h1 h2 h3 with | ⟨c0,c1,c2,e⟩=>zam (zrb (zaa (zad h0) (zaa (zad h1) (zaa (zad h2) (zaa (zad h3) rfl)))) c0 c1 c2) e)))))
theorem ztj (h:(decide (1≤i.op)&&decide (i.op≤9)&&(i.of==0&&(i.s==-1&&true)))=true) (c0:Ok 38 [.c (.i i.op)] (.c (.b (decide (1≤i.op)&&decide (i.op≤9))))) :
  Ok 72 [.ag i.cs] (.c (.b true)) :=
 zaf [true,true,true] [] [] Tryz.func72 rfl rfl rfl rfl (by kernel_rfl) h (zab c0 zae)
theorem zs9 (h:(decide (1≤i.op)&&decide (i.op≤9)&&(i.of==0&&(!i.s==-1&&true)))=true) (c0:Ok 38 [.c (.i i.op)] (.c (.b (decide (1≤i.op)&&decide (i.op≤9))))) :
  Ok 72 [.ag i.cs] (.c (.b (eqb i.im 0#64))) :=
 zaf [true,true,false] [] [] Tryz.func72 rfl rfl rfl rfl (by kernel_rfl) h (zab c0 zae)
theorem zvb (h:(decide (1≤i.op)&&decide (i.op≤9)&&(!i.of==0&&true))=true) (c0:Ok 38 [.c (.i i.op)] (.c (.b (decide (1≤i.op)&&decide (i.op≤9))))) :
  Ok 72 [.ag i.cs] (.c (.b false)) :=
 zaf [true,false] [] [] Tryz.func72 rfl rfl rfl rfl (by kernel_rfl) h (zab c0 zae)
theorem zvt (h:(!(decide (1≤i.op)&&decide (i.op≤9))&&((i.op==13||i.op==14)&&(i.s==-1&&true)))=true) (c0:Ok 38 [.c (.i i.op)] (.c (.b (decide (1≤i.op)&&decide (i.op≤9))))) (c1:Ok 34 [.c (.i i.op)] (.c (.b (i.op==13||i.op==14)))) :
  Ok 72 [.ag i.cs] (.c (.b true)) :=
 zaf [false,true,true] [] [] Tryz.func72 rfl rfl rfl rfl (by kernel_rfl) h (zab c0 (zab c1 zae))
theorem ztl (h:(!(decide (1≤i.op)&&decide (i.op≤9))&&((i.op==13||i.op==14)&&(!i.s==-1&&true)))=true) (c0:Ok 38 [.c (.i i.op)] (.c (.b (decide (1≤i.op)&&decide (i.op≤9))))) (c1:Ok 34 [.c (.i i.op)] (.c (.b (i.op==13||i.op==14)))) :
  Ok 72 [.ag i.cs] (.c (.b (eqb i.im 0#64))) :=
 zaf [false,true,false] [] [] Tryz.func72 rfl rfl rfl rfl (by kernel_rfl) h (zab c0 (zab c1 zae))
theorem zu6 (h:(!(decide (1≤i.op)&&decide (i.op≤9))&&(!(i.op==13||i.op==14)&&(i.op==12&&(i.d==0&&(i.s==0&&true)))))=true) (c0:Ok 38 [.c (.i i.op)] (.c (.b (decide (1≤i.op)&&decide (i.op≤9))))) (c1:Ok 34 [.c (.i i.op)] (.c (.b (i.op==13||i.op==14)))) :
  Ok 72 [.ag i.cs] (.c (.b (eqb i.im 0#64))) :=
 zaf [false,false,true,true,true] [] [] Tryz.func72 rfl rfl rfl rfl (by kernel_rfl) h (zab c0 (zab c1 zae))
theorem ztc (h:(!(decide (1≤i.op)&&decide (i.op≤9))&&(!(i.op==13||i.op==14)&&(i.op==12&&(i.d==0&&(!i.s==0&&true)))))=true) (c0:Ok 38 [.c (.i i.op)] (.c (.b (decide (1≤i.op)&&decide (i.op≤9))))) (c1:Ok 34 [.c (.i i.op)] (.c (.b (i.op==13||i.op==14)))) :
  Ok 72 [.ag i.cs] (.c (.b false)) :=
 zaf [false,false,true,true,false] [] [] Tryz.func72 rfl rfl rfl rfl (by kernel_rfl) h (zab c0 (zab c1 zae))
theorem zu1 (h:(!(decide (1≤i.op)&&decide (i.op≤9))&&(!(i.op==13||i.op==14)&&(i.op==12&&(!i.d==0&&true))))=true) (c0:Ok 38 [.c (.i i.op)] (.c (.b (decide (1≤i.op)&&decide (i.op≤9))))) (c1:Ok 34 [.c (.i i.op)] (.c (.b (i.op==13||i.op==14)))) :
  Ok 72 [.ag i.cs] (.c (.b false)) :=
 zaf [false,false,true,false,false] [] [] Tryz.func72 rfl rfl rfl rfl (by kernel_rfl) h (zab c0 (zab c1 zae))
theorem ztz (h:(!(decide (1≤i.op)&&decide (i.op≤9))&&(!(i.op==13||i.op==14)&&(!i.op==12&&(i.op==15&&true))))=true) (c0:Ok 38 [.c (.i i.op)] (.c (.b (decide (1≤i.op)&&decide (i.op≤9))))) (c1:Ok 34 [.c (.i i.op)] (.c (.b (i.op==13||i.op==14)))) :
  Ok 72 [.ag i.cs] (.c (.b (eqCs i.cs (splice [.i 0,.i 0,.i 0,.u 0#64,.i 0] 0 [.i 15])))) :=
 zaf [false,false,false,true] [] [] Tryz.func72 rfl rfl rfl rfl (by kernel_rfl) h (zab c0 (zab c1 zae))
theorem ztg (h:(!(decide (1≤i.op)&&decide (i.op≤9))&&(!(i.op==13||i.op==14)&&(!i.op==12&&(!i.op==15&&true))))=true) (c0:Ok 38 [.c (.i i.op)] (.c (.b (decide (1≤i.op)&&decide (i.op≤9))))) (c1:Ok 34 [.c (.i i.op)] (.c (.b (i.op==13||i.op==14)))) :
  Ok 72 [.ag i.cs] (.c (.b true)) :=
 zaf [false,false,false,false] [] [] Tryz.func72 rfl rfl rfl rfl (by kernel_rfl) h (zab c0 (zab c1 zae))
theorem zr0
  (l0:(decide (1≤i.op)&&decide (i.op≤9))=true→(i.of==0)=true→(i.s==-1)=true→(Ok 38 [.c (.i i.op)] (.c (.b (decide (1≤i.op)&&decide (i.op≤9)))))∧(AV.c (.b true)=V))
  (l1:(decide (1≤i.op)&&decide (i.op≤9))=true→(i.of==0)=true→(i.s==-1)=false→(Ok 38 [.c (.i i.op)] (.c (.b (decide (1≤i.op)&&decide (i.op≤9)))))∧(AV.c (.b (eqb i.im 0#64))=V))
  (l2:(decide (1≤i.op)&&decide (i.op≤9))=true→(i.of==0)=false→(Ok 38 [.c (.i i.op)] (.c (.b (decide (1≤i.op)&&decide (i.op≤9)))))∧(AV.c (.b false)=V))
  (l3:(decide (1≤i.op)&&decide (i.op≤9))=false→(i.op==13||i.op==14)=true→(i.s==-1)=true→(Ok 38 [.c (.i i.op)] (.c (.b (decide (1≤i.op)&&decide (i.op≤9)))))∧(Ok 34 [.c (.i i.op)] (.c (.b (i.op==13||i.op==14))))∧(AV.c (.b true)=V))
  (l4:(decide (1≤i.op)&&decide (i.op≤9))=false→(i.op==13||i.op==14)=true→(i.s==-1)=false→(Ok 38 [.c (.i i.op)] (.c (.b (decide (1≤i.op)&&decide (i.op≤9)))))∧(Ok 34 [.c (.i i.op)] (.c (.b (i.op==13||i.op==14))))∧(AV.c (.b (eqb i.im 0#64))=V))
  (l5:(decide (1≤i.op)&&decide (i.op≤9))=false→(i.op==13||i.op==14)=false→(i.op==12)=true→(i.d==0)=true→(i.s==0)=true→(Ok 38 [.c (.i i.op)] (.c (.b (decide (1≤i.op)&&decide (i.op≤9)))))∧(Ok 34 [.c (.i i.op)] (.c (.b (i.op==13||i.op==14))))∧(AV.c (.b (eqb i.im 0#64))=V))
  (l6:(decide (1≤i.op)&&decide (i.op≤9))=false→(i.op==13||i.op==14)=false→(i.op==12)=true→(i.d==0)=true→(i.s==0)=false→(Ok 38 [.c (.i i.op)] (.c (.b (decide (1≤i.op)&&decide (i.op≤9)))))∧(Ok 34 [.c (.i i.op)] (.c (.b (i.op==13||i.op==14))))∧(AV.c (.b false)=V))
  (l7:(decide (1≤i.op)&&decide (i.op≤9))=false→(i.op==13||i.op==14)=false→(i.op==12)=true→(i.d==0)=false→(Ok 38 [.c (.i i.op)] (.c (.b (decide (1≤i.op)&&decide (i.op≤9)))))∧(Ok 34 [.c (.i i.op)] (.c (.b (i.op==13||i.op==14))))∧(AV.c (.b false)=V))
  (l8:(decide (1≤i.op)&&decide (i.op≤9))=false→(i.op==13||i.op==14)=false→(i.op==12)=false→(i.op==15)=true→(Ok 38 [.c (.i i.op)] (.c (.b (decide (1≤i.op)&&decide (i.op≤9)))))∧(Ok 34 [.c (.i i.op)] (.c (.b (i.op==13||i.op==14))))∧(AV.c (.b (eqCs i.cs (splice [.i 0,.i 0,.i 0,.u 0#64,.i 0] 0 [.i 15])))=V))
  (l9:(decide (1≤i.op)&&decide (i.op≤9))=false→(i.op==13||i.op==14)=false→(i.op==12)=false→(i.op==15)=false→(Ok 38 [.c (.i i.op)] (.c (.b (decide (1≤i.op)&&decide (i.op≤9)))))∧(Ok 34 [.c (.i i.op)] (.c (.b (i.op==13||i.op==14))))∧(AV.c (.b true)=V)) :
  Ok 72 [.ag i.cs] V :=
 (tf (decide (1≤i.op)&&decide (i.op≤9))).elim (fun h0=>(tf (i.of==0)).elim (fun h1=>(tf (i.s==-1)).elim (fun h2=>(match l0 h0 h1 h2 with | ⟨c0,e⟩=>zam (ztj (zaa h0 (zaa h1 (zaa h2 rfl))) c0) e)) (fun h2=>(match l1 h0 h1 h2 with | ⟨c0,e⟩=>zam (zs9 (zaa h0 (zaa h1 (zaa (zad h2) rfl))) c0) e))) (fun h1=>(match l2 h0 h1 with | ⟨c0,e⟩=>zam (zvb (zaa h0 (zaa (zad h1) rfl)) c0) e))) (fun h0=>(tf (i.op==13||i.op==14)).elim (fun h1=>(tf (i.s==-1)).elim (fun h2=>(match l3 h0 h1 h2 with | ⟨c0,c1,e⟩=>zam (zvt (zaa (zad h0) (zaa h1 (zaa h2 rfl))) c0 c1) e)) (fun h2=>(match l4 h0 h1 h2 with | ⟨c0,c1,e⟩=>zam (ztl (zaa (zad h0) (zaa h1 (zaa (zad h2) rfl))) c0 c1) e))) (fun h1=>(tf (i.op==12)).elim (fun h2=>(tf (i.d==0)).elim (fun h3=>(tf (i.s==0)).elim (fun h4=>(match l5 h0 h1 h2 h3 h4 with | ⟨c0,c1,e⟩=>zam (zu6 (zaa (zad h0) (zaa (zad h1) (zaa h2 (zaa h3 (zaa h4 rfl))))) c0 c1) e)) (fun h4=>(match l6 h0 h1 h2 h3 h4 with | ⟨c0,c1,e⟩=>zam (ztc (zaa (zad h0) (zaa (zad h1) (zaa h2 (zaa h3 (zaa (zad h4) rfl))))) c0 c1) e))) (fun h3=>(match l7 h0 h1 h2 h3 with | ⟨c0,c1,e⟩=>zam (zu1 (zaa (zad h0) (zaa (zad h1) (zaa h2 (zaa (zad h3) rfl)))) c0 c1) e))) (fun h2=>(tf (i.op==15)).elim (fun h3=>(match l8 h0 h1 h2 h3 with | ⟨c0,c1,e⟩=>zam (ztz (zaa (zad h0) (zaa (zad h1) (zaa (zad h2) (zaa h3 rfl)))) c0 c1) e)) (fun h3=>(match l9 h0 h1 h2 h3 with | ⟨c0,c1,e⟩=>zam (ztg (zaa (zad h0) (zaa (zad h1) (zaa (zad h2) (zaa (zad h3) rfl)))) c0 c1) e)))))
theorem yapt (h:(!(decide (1≤(L.length:Int))&&decide ((L.length:Int)≤64))&&true)=true) (c0:Ok 35 [.c (.i (L.length:Int)),.c (.i 1),.c (.i 64)] (.c (.b (decide (1≤(L.length:Int))&&decide ((L.length:Int)≤64))))) :
  BO 29 Tryz.f29 (cx w β n []) [.c (.sl 0 0 L.length c)] [(0,Ent.mk false (pcell L) 0)] 1 (REff w β ⟨.c (.i 2),[],none⟩) :=
 zah [] none [true] [true] [] Tryz.func29 (zau rfl n) (by kernel_rfl) h (zab c0 zae)
theorem yank (h:(!!(decide (1≤(L.length:Int))&&decide ((L.length:Int)≤64))&&true)=true) (c0:Ok 35 [.c (.i (L.length:Int)),.c (.i 1),.c (.i 64)] (.c (.b (decide (1≤(L.length:Int))&&decide ((L.length:Int)≤64))))) (lo:Kn.Low ⟨[(0,.c (.sl 0 0 L.length c)),(3,.c (.i 0))],[(0,Ent.mk false (pcell L) 0)],1⟩) (hF:∀ k,C.F k→k<1) (z:AR 29 Tryz.f29 C 0 ⟨[(0,.c (.sl 0 0 L.length c)),(3,.c (.i 0))],[(0,Ent.mk false (pcell L) 0)],1⟩ R) :
  BO 29 Tryz.f29 C [.c (.sl 0 0 L.length c)] [(0,Ent.mk false (pcell L) 0)] 1 R :=
 zai [false] [true] [] Tryz.func29 (by kernel_rfl) h (zab c0 zae) lo hF z
theorem yalj (hn:n≤1)
  (l0:(!(decide (1≤(L.length:Int))&&decide ((L.length:Int)≤64)))=true→(Ok 35 [.c (.i (L.length:Int)),.c (.i 1),.c (.i 64)] (.c (.b (decide (1≤(L.length:Int))&&decide ((L.length:Int)≤64)))))∧((⟨.c (.i 2),[],none⟩:Eff)=E))
  (l1:(!(decide (1≤(L.length:Int))&&decide ((L.length:Int)≤64)))=false→(Ok 35 [.c (.i (L.length:Int)),.c (.i 1),.c (.i 64)] (.c (.b (decide (1≤(L.length:Int))&&decide ((L.length:Int)≤64)))))∧Kn.Low ⟨[(0,.c (.sl 0 0 L.length c)),(3,.c (.i 0))],[(0,Ent.mk false (pcell L) 0)],1⟩∧AR 29 Tryz.f29 (cx w β n []) 0 ⟨[(0,.c (.sl 0 0 L.length c)),(3,.c (.i 0))],[(0,Ent.mk false (pcell L) 0)],1⟩ (REff w β E)) :
  BO 29 Tryz.f29 (cx w β n []) [.c (.sl 0 0 L.length c)] [(0,Ent.mk false (pcell L) 0)] 1 (REff w β E) :=
 (tf (!(decide (1≤(L.length:Int))&&decide ((L.length:Int)≤64)))).elim (fun h0=>(match l0 h0 with | ⟨c0,e⟩=>za5 (yapt (zaa h0 rfl) c0) e)) (fun h0=>(match l1 h0 with | ⟨c0,lo,z⟩=>yank (zaa (zad h0) rfl) c0 lo (fun _ hk=>Nat.lt_of_lt_of_le hk hn) z))
theorem yazq {j:Nat} (h:(decide ((j:Int)<(L.length:Int))&&(decide ((j:Int)<(L.length:Int))&&(AC.isI ((pcell L)[0+(j:Int).toNat*5+0]?.getD (.b false))&&Nat.blt (0+(j:Int).toNat*5+0) (pcell L).length&&(!(decide (1≤(elt L j).op)&&decide ((elt L j).op≤15))&&true))))=true) (c0:pe (.c (.i (AC.asI ((pcell L)[0+(j:Int).toNat*5+0]?.getD (.b false)))))=pe (.c (.i (elt L j).op))) (c1:Ok 35 [.c (.i (elt L j).op),.c (.i 1),.c (.i 15)] (.c (.b (decide (1≤(elt L j).op)&&decide ((elt L j).op≤15))))) :
  AR 29 Tryz.f29 (cx w β n []) 0 (rcAK L c j) (REff w β ⟨.c (.i 4),[],none⟩) :=
 zah [] none [true,true] [true] [(6,4)] Tryz.func29 (zau rfl n) (by kernel_rfl) h (zac c0 (zab c1 zae))
theorem yawc {j:Nat} (h:(decide ((j:Int)<(L.length:Int))&&(decide ((j:Int)<(L.length:Int))&&(AC.isI ((pcell L)[0+(j:Int).toNat*5+0]?.getD (.b false))&&Nat.blt (0+(j:Int).toNat*5+0) (pcell L).length&&(!!(decide (1≤(elt L j).op)&&decide ((elt L j).op≤15))&&true))))=true) (c0:pe (.c (.i (AC.asI ((pcell L)[0+(j:Int).toNat*5+0]?.getD (.b false)))))=pe (.c (.i (elt L j).op))) (c1:Ok 35 [.c (.i (elt L j).op),.c (.i 1),.c (.i 15)] (.c (.b (decide (1≤(elt L j).op)&&decide ((elt L j).op≤15))))) (lo:Kn.Low ⟨[(0,.c (.sl 0 0 L.length c)),(3,.c (.i (IntKind.i64.wrap ((j:Int)+1))))],[(0,Ent.mk false (pcell L) 0)],1⟩) (hF:∀ k,C.F k→k<1) (z:AR 29 Tryz.f29 C 0 ⟨[(0,.c (.sl 0 0 L.length c)),(3,.c (.i (IntKind.i64.wrap ((j:Int)+1))))],[(0,Ent.mk false (pcell L) 0)],1⟩ R) :
  AR 29 Tryz.f29 C 0 (rcAK L c j) R :=
 zai [true,false] [true] [(6,4)] Tryz.func29 (by kernel_rfl) h (zac c0 (zab c1 zae)) lo hF z
theorem yarr {j:Nat} (hn:n≤1)
  (l0:(!(decide (1≤(elt L j).op)&&decide ((elt L j).op≤15)))=true→(decide ((j:Int)<(L.length:Int)))=true∧(decide ((j:Int)<(L.length:Int)))=true∧(AC.isI ((pcell L)[0+(j:Int).toNat*5+0]?.getD (.b false))&&Nat.blt (0+(j:Int).toNat*5+0) (pcell L).length)=true∧(pe (.c (.i (AC.asI ((pcell L)[0+(j:Int).toNat*5+0]?.getD (.b false)))))=pe (.c (.i (elt L j).op)))∧(Ok 35 [.c (.i (elt L j).op),.c (.i 1),.c (.i 15)] (.c (.b (decide (1≤(elt L j).op)&&decide ((elt L j).op≤15)))))∧((⟨.c (.i 4),[],none⟩:Eff)=E))
  (l1:(!(decide (1≤(elt L j).op)&&decide ((elt L j).op≤15)))=false→(decide ((j:Int)<(L.length:Int)))=true∧(decide ((j:Int)<(L.length:Int)))=true∧(AC.isI ((pcell L)[0+(j:Int).toNat*5+0]?.getD (.b false))&&Nat.blt (0+(j:Int).toNat*5+0) (pcell L).length)=true∧(pe (.c (.i (AC.asI ((pcell L)[0+(j:Int).toNat*5+0]?.getD (.b false)))))=pe (.c (.i (elt L j).op)))∧(Ok 35 [.c (.i (elt L j).op),.c (.i 1),.c (.i 15)] (.c (.b (decide (1≤(elt L j).op)&&decide ((elt L j).op≤15)))))∧Kn.Low ⟨[(0,.c (.sl 0 0 L.length c)),(3,.c (.i (IntKind.i64.wrap ((j:Int)+1))))],[(0,Ent.mk false (pcell L) 0)],1⟩∧AR 29 Tryz.f29 (cx w β n []) 0 ⟨[(0,.c (.sl 0 0 L.length c)),(3,.c (.i (IntKind.i64.wrap ((j:Int)+1))))],[(0,Ent.mk false (pcell L) 0)],1⟩ (REff w β E)) :
  AR 29 Tryz.f29 (cx w β n []) 0 (rcAK L c j) (REff w β E) :=
 (tf (!(decide (1≤(elt L j).op)&&decide ((elt L j).op≤15)))).elim (fun h0=>(match l0 h0 with | ⟨o0,o1,o2,c0,c1,e⟩=>za5 (yazq (zaa o0 (zaa o1 (zaa o2 (zaa h0 rfl)))) c0 c1) e)) (fun h0=>(match l1 h0 with | ⟨o0,o1,o2,c0,c1,lo,z⟩=>yawc (zaa o0 (zaa o1 (zaa o2 (zaa (zad h0) rfl)))) c0 c1 lo (fun _ hk=>Nat.lt_of_lt_of_le hk hn) z))
theorem yate {j:Nat} (h:(!decide ((j:Int)<(L.length:Int))&&true)=true) (lo:Kn.Low ⟨[(0,.c (.sl 0 0 L.length c)),(4,.c (.i 0))],[(0,Ent.mk false (pcell L) 0)],1⟩) (hF:∀ k,C.F k→k<1) (z:AR 29 Tryz.f29 C 1 ⟨[(0,.c (.sl 0 0 L.length c)),(4,.c (.i 0))],[(0,Ent.mk false (pcell L) 0)],1⟩ R) :
  AR 29 Tryz.f29 C 0 (rcAK L c j) R :=
 zai [false] [true] [] Tryz.func29 (by kernel_rfl) h zae lo hF z
theorem yazn {j:Nat} (h:(decide ((j:Int)<(L.length:Int))&&(decide ((j:Int)<(L.length:Int))&&(Nat.ble (0+(j:Int).toNat*5+5) (pcell L).length&&(!inB (elt L j) (↑(L.length - 1 - j):Int)&&true))))=true) (c0:pe (.ag (((pcell L).drop (0+(j:Int).toNat*5)).take 5))=pe (.ag (elt L j).cs)) (c1:pe (.c (.i (IntKind.i64.wrap (IntKind.i64.wrap ((L.length:Int) - 2) - (j:Int)))))=pe (.c (.i ((↑(L.length - 1 - j):Int) - 1)))) (c2:pe (.c (.b (inB (elt L j) ((↑(L.length - 1 - j):Int) - 1+1))))=pe (.c (.b (inB (elt L j) (↑(L.length - 1 - j):Int))))) (c3:Ok 71 [.ag (elt L j).cs,.c (.i ((↑(L.length - 1 - j):Int) - 1))] (.c (.b (inB (elt L j) ((↑(L.length - 1 - j):Int) - 1+1))))) :
  AR 29 Tryz.f29 (cx w β n []) 1 (rcBK L c j) (REff w β ⟨.c (.i 3),[],none⟩) :=
 zym [] none 2000 [pe (.ag (elt L j).cs),pe (.c (.i ((↑(L.length - 1 - j):Int) - 1))),pe (.c (.b (inB (elt L j) ((↑(L.length - 1 - j):Int) - 1+1)))),pe (.c (.b (inB (elt L j) (↑(L.length - 1 - j):Int))))] [true,true] [true] [(11,3),(11,8),(11,9)] Tryz.func29 (zau rfl n) (by kernel_rfl) h (zac c0 (zac c1 (zac c2 (zab c3 zae))))
theorem yavx {j:Nat} (h:(decide ((j:Int)<(L.length:Int))&&(decide ((j:Int)<(L.length:Int))&&(Nat.ble (0+(j:Int).toNat*5+5) (pcell L).length&&(!!inB (elt L j) (↑(L.length - 1 - j):Int)&&true))))=true) (c0:pe (.ag (((pcell L).drop (0+(j:Int).toNat*5)).take 5))=pe (.ag (elt L j).cs)) (c1:pe (.c (.i (IntKind.i64.wrap (IntKind.i64.wrap ((L.length:Int) - 2) - (j:Int)))))=pe (.c (.i ((↑(L.length - 1 - j):Int) - 1)))) (c2:pe (.c (.b (inB (elt L j) ((↑(L.length - 1 - j):Int) - 1+1))))=pe (.c (.b (inB (elt L j) (↑(L.length - 1 - j):Int))))) (c3:Ok 71 [.ag (elt L j).cs,.c (.i ((↑(L.length - 1 - j):Int) - 1))] (.c (.b (inB (elt L j) ((↑(L.length - 1 - j):Int) - 1+1))))) (lo:Kn.Low ⟨[(0,.c (.sl 0 0 L.length c)),(4,.c (.i (IntKind.i64.wrap ((j:Int)+1))))],[(0,Ent.mk false (pcell L) 0)],1⟩) (hF:∀ k,C.F k→k<1) (z:AR 29 Tryz.f29 C 1 ⟨[(0,.c (.sl 0 0 L.length c)),(4,.c (.i (IntKind.i64.wrap ((j:Int)+1))))],[(0,Ent.mk false (pcell L) 0)],1⟩ R) :
  AR 29 Tryz.f29 C 1 (rcBK L c j) R :=
 yagp ⟨[(0,.c (.sl 0 0 L.length c)),(4,.c (.i (IntKind.i64.wrap ((j:Int)+1))))],[(0,Ent.mk false (pcell L) 0)],1⟩ 2000 [pe (.ag (elt L j).cs),pe (.c (.i ((↑(L.length - 1 - j):Int) - 1))),pe (.c (.b (inB (elt L j) ((↑(L.length - 1 - j):Int) - 1+1)))),pe (.c (.b (inB (elt L j) (↑(L.length - 1 - j):Int))))] [true,false] [true] [(11,3),(11,8),(11,9)] Tryz.func29 (by kernel_rfl) h (zac c0 (zac c1 (zac c2 (zab c3 zae)))) lo hF z
theorem yau9 {j:Nat} (hn:n≤1)
  (l0:(!inB (elt L j) (↑(L.length - 1 - j):Int))=true→(decide ((j:Int)<(L.length:Int)))=true∧(decide ((j:Int)<(L.length:Int)))=true∧(Nat.ble (0+(j:Int).toNat*5+5) (pcell L).length)=true∧(pe (.ag (((pcell L).drop (0+(j:Int).toNat*5)).take 5))=pe (.ag (elt L j).cs))∧(pe (.c (.i (IntKind.i64.wrap (IntKind.i64.wrap ((L.length:Int) - 2) - (j:Int)))))=pe (.c (.i ((↑(L.length - 1 - j):Int) - 1))))∧(pe (.c (.b (inB (elt L j) ((↑(L.length - 1 - j):Int) - 1+1))))=pe (.c (.b (inB (elt L j) (↑(L.length - 1 - j):Int)))))∧(Ok 71 [.ag (elt L j).cs,.c (.i ((↑(L.length - 1 - j):Int) - 1))] (.c (.b (inB (elt L j) ((↑(L.length - 1 - j):Int) - 1+1)))))∧((⟨.c (.i 3),[],none⟩:Eff)=E))
  (l1:(!inB (elt L j) (↑(L.length - 1 - j):Int))=false→(decide ((j:Int)<(L.length:Int)))=true∧(decide ((j:Int)<(L.length:Int)))=true∧(Nat.ble (0+(j:Int).toNat*5+5) (pcell L).length)=true∧(pe (.ag (((pcell L).drop (0+(j:Int).toNat*5)).take 5))=pe (.ag (elt L j).cs))∧(pe (.c (.i (IntKind.i64.wrap (IntKind.i64.wrap ((L.length:Int) - 2) - (j:Int)))))=pe (.c (.i ((↑(L.length - 1 - j):Int) - 1))))∧(pe (.c (.b (inB (elt L j) ((↑(L.length - 1 - j):Int) - 1+1))))=pe (.c (.b (inB (elt L j) (↑(L.length - 1 - j):Int)))))∧(Ok 71 [.ag (elt L j).cs,.c (.i ((↑(L.length - 1 - j):Int) - 1))] (.c (.b (inB (elt L j) ((↑(L.length - 1 - j):Int) - 1+1)))))∧Kn.Low ⟨[(0,.c (.sl 0 0 L.length c)),(4,.c (.i (IntKind.i64.wrap ((j:Int)+1))))],[(0,Ent.mk false (pcell L) 0)],1⟩∧AR 29 Tryz.f29 (cx w β n []) 1 ⟨[(0,.c (.sl 0 0 L.length c)),(4,.c (.i (IntKind.i64.wrap ((j:Int)+1))))],[(0,Ent.mk false (pcell L) 0)],1⟩ (REff w β E)) :
  AR 29 Tryz.f29 (cx w β n []) 1 (rcBK L c j) (REff w β E) :=
 (tf (!inB (elt L j) (↑(L.length - 1 - j):Int))).elim (fun h0=>(match l0 h0 with | ⟨o0,o1,o2,c0,c1,c2,c3,e⟩=>za5 (yazn (zaa o0 (zaa o1 (zaa o2 (zaa h0 rfl)))) c0 c1 c2 c3) e)) (fun h0=>(match l1 h0 with | ⟨o0,o1,o2,c0,c1,c2,c3,lo,z⟩=>yavx (zaa o0 (zaa o1 (zaa o2 (zaa (zad h0) rfl)))) c0 c1 c2 c3 lo (fun _ hk=>Nat.lt_of_lt_of_le hk hn) z))
theorem yat6 {j:Nat} (h:(!decide ((j:Int)<(L.length:Int))&&true)=true) (lo:Kn.Low ⟨[(0,.c (.sl 0 0 L.length c)),(5,.c (.i 0))],[(0,Ent.mk false (pcell L) 0)],1⟩) (hF:∀ k,C.F k→k<1) (z:AR 29 Tryz.f29 C 2 ⟨[(0,.c (.sl 0 0 L.length c)),(5,.c (.i 0))],[(0,Ent.mk false (pcell L) 0)],1⟩ R) :
  AR 29 Tryz.f29 C 1 (rcBK L c j) R :=
 zai [false] [true] [] Tryz.func29 (by kernel_rfl) h zae lo hF z
theorem yaw8 {j:Nat} (h:(decide ((j:Int)<(L.length:Int))&&(decide ((j:Int)<(L.length:Int))&&(Nat.ble (0+(j:Int).toNat*5+5) (pcell L).length&&(!zbc (elt L j)&&true))))=true) (c0:pe (.ag (((pcell L).drop (0+(j:Int).toNat*5)).take 5))=pe (.ag (elt L j).cs)) (c1:Ok 72 [.ag (elt L j).cs] (.c (.b (zbc (elt L j))))) :
  AR 29 Tryz.f29 (cx w β n []) 2 (rcCK L c j) (REff w β ⟨.c (.i 1),[],none⟩) :=
 zah [] none [true,true] [true] [(16,3)] Tryz.func29 (zau rfl n) (by kernel_rfl) h (zac c0 (zab c1 zae))
theorem yax3 {j:Nat} (h:(decide ((j:Int)<(L.length:Int))&&(decide ((j:Int)<(L.length:Int))&&(Nat.ble (0+(j:Int).toNat*5+5) (pcell L).length&&(!!zbc (elt L j)&&true))))=true) (c0:pe (.ag (((pcell L).drop (0+(j:Int).toNat*5)).take 5))=pe (.ag (elt L j).cs)) (c1:Ok 72 [.ag (elt L j).cs] (.c (.b (zbc (elt L j))))) (lo:Kn.Low ⟨[(0,.c (.sl 0 0 L.length c)),(5,.c (.i (IntKind.i64.wrap ((j:Int)+1))))],[(0,Ent.mk false (pcell L) 0)],1⟩) (hF:∀ k,C.F k→k<1) (z:AR 29 Tryz.f29 C 2 ⟨[(0,.c (.sl 0 0 L.length c)),(5,.c (.i (IntKind.i64.wrap ((j:Int)+1))))],[(0,Ent.mk false (pcell L) 0)],1⟩ R) :
  AR 29 Tryz.f29 C 2 (rcCK L c j) R :=
 zai [true,false] [true] [(16,3)] Tryz.func29 (by kernel_rfl) h (zac c0 (zab c1 zae)) lo hF z
theorem yasl {j:Nat} (hn:n≤1)
  (l0:(!zbc (elt L j))=true→(decide ((j:Int)<(L.length:Int)))=true∧(decide ((j:Int)<(L.length:Int)))=true∧(Nat.ble (0+(j:Int).toNat*5+5) (pcell L).length)=true∧(pe (.ag (((pcell L).drop (0+(j:Int).toNat*5)).take 5))=pe (.ag (elt L j).cs))∧(Ok 72 [.ag (elt L j).cs] (.c (.b (zbc (elt L j)))))∧((⟨.c (.i 1),[],none⟩:Eff)=E))
  (l1:(!zbc (elt L j))=false→(decide ((j:Int)<(L.length:Int)))=true∧(decide ((j:Int)<(L.length:Int)))=true∧(Nat.ble (0+(j:Int).toNat*5+5) (pcell L).length)=true∧(pe (.ag (((pcell L).drop (0+(j:Int).toNat*5)).take 5))=pe (.ag (elt L j).cs))∧(Ok 72 [.ag (elt L j).cs] (.c (.b (zbc (elt L j)))))∧Kn.Low ⟨[(0,.c (.sl 0 0 L.length c)),(5,.c (.i (IntKind.i64.wrap ((j:Int)+1))))],[(0,Ent.mk false (pcell L) 0)],1⟩∧AR 29 Tryz.f29 (cx w β n []) 2 ⟨[(0,.c (.sl 0 0 L.length c)),(5,.c (.i (IntKind.i64.wrap ((j:Int)+1))))],[(0,Ent.mk false (pcell L) 0)],1⟩ (REff w β E)) :
  AR 29 Tryz.f29 (cx w β n []) 2 (rcCK L c j) (REff w β E) :=
 (tf (!zbc (elt L j))).elim (fun h0=>(match l0 h0 with | ⟨o0,o1,o2,c0,c1,e⟩=>za5 (yaw8 (zaa o0 (zaa o1 (zaa o2 (zaa h0 rfl)))) c0 c1) e)) (fun h0=>(match l1 h0 with | ⟨o0,o1,o2,c0,c1,lo,z⟩=>yax3 (zaa o0 (zaa o1 (zaa o2 (zaa (zad h0) rfl)))) c0 c1 lo (fun _ hk=>Nat.lt_of_lt_of_le hk hn) z))
theorem yasv {j:Nat} (h:(!decide ((j:Int)<(L.length:Int))&&(decide (0≤IntKind.i64.wrap ((L.length:Int) - 1))&&decide (IntKind.i64.wrap ((L.length:Int) - 1)<(L.length:Int))&&(AC.isI ((pcell L)[0+(IntKind.i64.wrap ((L.length:Int) - 1)).toNat*5+0]?.getD (.b false))&&Nat.blt (0+(IntKind.i64.wrap ((L.length:Int) - 1)).toNat*5+0) (pcell L).length&&(zb3 L != 15&&true))))=true) (c0:pe (.c (.i (AC.asI ((pcell L)[0+(IntKind.i64.wrap ((L.length:Int) - 1)).toNat*5+0]?.getD (.b false)))))=pe (.c (.i (zb3 L)))) :
  AR 29 Tryz.f29 (cx w β n []) 2 (rcCK L c j) (REff w β ⟨.c (.i 1),[],none⟩) :=
 zah [] none [false,true] [true] [(18,6)] Tryz.func29 (zau rfl n) (by kernel_rfl) h (zac c0 zae)
theorem yasc {j:Nat} (h:(!decide ((j:Int)<(L.length:Int))&&(decide (0≤IntKind.i64.wrap ((L.length:Int) - 1))&&decide (IntKind.i64.wrap ((L.length:Int) - 1)<(L.length:Int))&&(AC.isI ((pcell L)[0+(IntKind.i64.wrap ((L.length:Int) - 1)).toNat*5+0]?.getD (.b false))&&Nat.blt (0+(IntKind.i64.wrap ((L.length:Int) - 1)).toNat*5+0) (pcell L).length&&(!zb3 L != 15&&true))))=true) (c0:pe (.c (.i (AC.asI ((pcell L)[0+(IntKind.i64.wrap ((L.length:Int) - 1)).toNat*5+0]?.getD (.b false)))))=pe (.c (.i (zb3 L)))) :
  AR 29 Tryz.f29 (cx w β n []) 2 (rcCK L c j) (REff w β ⟨.c (.i 0),[],none⟩) :=
 zah [] none [false,false] [true] [(18,6)] Tryz.func29 (zau rfl n) (by kernel_rfl) h (zac c0 zae)
theorem yamv {j:Nat}
  (l0:(zb3 L != 15)=true→(!decide ((j:Int)<(L.length:Int)))=true∧(decide (0≤IntKind.i64.wrap ((L.length:Int) - 1))&&decide (IntKind.i64.wrap ((L.length:Int) - 1)<(L.length:Int)))=true∧(AC.isI ((pcell L)[0+(IntKind.i64.wrap ((L.length:Int) - 1)).toNat*5+0]?.getD (.b false))&&Nat.blt (0+(IntKind.i64.wrap ((L.length:Int) - 1)).toNat*5+0) (pcell L).length)=true∧(pe (.c (.i (AC.asI ((pcell L)[0+(IntKind.i64.wrap ((L.length:Int) - 1)).toNat*5+0]?.getD (.b false)))))=pe (.c (.i (zb3 L))))∧((⟨.c (.i 1),[],none⟩:Eff)=E))
  (l1:(zb3 L != 15)=false→(!decide ((j:Int)<(L.length:Int)))=true∧(decide (0≤IntKind.i64.wrap ((L.length:Int) - 1))&&decide (IntKind.i64.wrap ((L.length:Int) - 1)<(L.length:Int)))=true∧(AC.isI ((pcell L)[0+(IntKind.i64.wrap ((L.length:Int) - 1)).toNat*5+0]?.getD (.b false))&&Nat.blt (0+(IntKind.i64.wrap ((L.length:Int) - 1)).toNat*5+0) (pcell L).length)=true∧(pe (.c (.i (AC.asI ((pcell L)[0+(IntKind.i64.wrap ((L.length:Int) - 1)).toNat*5+0]?.getD (.b false)))))=pe (.c (.i (zb3 L))))∧((⟨.c (.i 0),[],none⟩:Eff)=E)) :
  AR 29 Tryz.f29 (cx w β n []) 2 (rcCK L c j) (REff w β E) :=
 (tf (zb3 L != 15)).elim (fun h0=>(match l0 h0 with | ⟨o0,o1,o2,c0,e⟩=>za5 (yasv (zaa o0 (zaa o1 (zaa o2 (zaa h0 rfl)))) c0) e)) (fun h0=>(match l1 h0 with | ⟨o0,o1,o2,c0,e⟩=>za5 (yasc (zaa o0 (zaa o1 (zaa o2 (zaa (zad h0) rfl)))) c0) e))
theorem yanv (c0:Ok 35 [.c (.i 0),.c (.i 1),.c (.i 64)] (.c (.b false))) :
  Ok 29 [.c zco] (.c (.i 2)) :=
 zaf [true] [] [] Tryz.func29 rfl rfl rfl rfl (by kernel_rfl) rfl (zab c0 zae)
theorem zwb (h:(decide (op<12)&&(op != 1&&(op != 10&&(decide (op<12)&&(s != -1&&(!op==15&&true))))))=true) (hk:EKeys n [] (some 44) ⟨.c (.sx 44 2),[],some (44,Ent.mk true [.i d,.i s] 1)⟩) :
  BO 37 Tryz.f37 (cx w β n []) [.ag (Ins.mk op d s im of).cs] [] 0 (REff w β ⟨.c (.sx 44 2),[],some (44,Ent.mk true [.i d,.i s] 1)⟩) :=
 zah [] (some 44) [true,true,true,true,true,true,true,false] [] [] Tryz.func37 hk (by kernel_rfl) h zae
theorem yai4 (h:(decide (op<12)&&(op != 1&&(op != 10&&(decide (op<12)&&(!s != -1&&(!op==15&&true))))))=true) (hk:EKeys n [] (some 25) ⟨.c (.sx 25 1),[],some (25,Ent.mk true [.i d] 1)⟩) :
  BO 37 Tryz.f37 (cx w β n []) [.ag (Ins.mk op d s im of).cs] [] 0 (REff w β ⟨.c (.sx 25 1),[],some (25,Ent.mk true [.i d] 1)⟩) :=
 zah [] (some 25) [true,true,true,true,true,true,false,false] [] [] Tryz.func37 hk (by kernel_rfl) h zae
theorem zy5 (h:(s != -1&&true)=true) (c0:Ok 34 [.c (.i 13)] (.c (.b true))) (c1:Ok 34 [.c (.i 13)] (.c (.b true))) (hk:EKeys n [] (some 44) ⟨.c (.sx 44 2),[],some (44,Ent.mk true [.i d,.i s] 1)⟩) :
  BO 37 Tryz.f37 (cx w β n []) [.ag (Ins.mk 13 d s im of).cs] [] 0 (REff w β ⟨.c (.sx 44 2),[],some (44,Ent.mk true [.i d,.i s] 1)⟩) :=
 zah [] (some 44) [false,false,false,true,false,true,true,false] [] [] Tryz.func37 hk (by kernel_rfl) h (zab c0 (zab c1 zae))
theorem zx4 (h:(!s != -1&&true)=true) (c0:Ok 34 [.c (.i 13)] (.c (.b true))) (c1:Ok 34 [.c (.i 13)] (.c (.b true))) (hk:EKeys n [] (some 25) ⟨.c (.sx 25 1),[],some (25,Ent.mk true [.i d] 1)⟩) :
  BO 37 Tryz.f37 (cx w β n []) [.ag (Ins.mk 13 d s im of).cs] [] 0 (REff w β ⟨.c (.sx 25 1),[],some (25,Ent.mk true [.i d] 1)⟩) :=
 zah [] (some 25) [false,false,false,true,false,true,false,false] [] [] Tryz.func37 hk (by kernel_rfl) h (zab c0 (zab c1 zae))
theorem zy4 (h:(s != -1&&true)=true) (c0:Ok 34 [.c (.i 14)] (.c (.b true))) (c1:Ok 34 [.c (.i 14)] (.c (.b true))) (hk:EKeys n [] (some 44) ⟨.c (.sx 44 2),[],some (44,Ent.mk true [.i d,.i s] 1)⟩) :
  BO 37 Tryz.f37 (cx w β n []) [.ag (Ins.mk 14 d s im of).cs] [] 0 (REff w β ⟨.c (.sx 44 2),[],some (44,Ent.mk true [.i d,.i s] 1)⟩) :=
 zah [] (some 44) [false,false,false,true,false,true,true,false] [] [] Tryz.func37 hk (by kernel_rfl) h (zab c0 (zab c1 zae))
theorem zzn (h:(!s != -1&&true)=true) (c0:Ok 34 [.c (.i 14)] (.c (.b true))) (c1:Ok 34 [.c (.i 14)] (.c (.b true))) (hk:EKeys n [] (some 25) ⟨.c (.sx 25 1),[],some (25,Ent.mk true [.i d] 1)⟩) :
  BO 37 Tryz.f37 (cx w β n []) [.ag (Ins.mk 14 d s im of).cs] [] 0 (REff w β ⟨.c (.sx 25 1),[],some (25,Ent.mk true [.i d] 1)⟩) :=
 zah [] (some 25) [false,false,false,true,false,true,false,false] [] [] Tryz.func37 hk (by kernel_rfl) h (zab c0 (zab c1 zae))
theorem yadx (h:(s != -1&&true)=true) (c0:Ok 34 [.c (.i 1)] (.c (.b false))) (hk:EKeys n [] (some 38) ⟨.c (.sx 38 1),[],some (38,Ent.mk true [.i s] 1)⟩) :
  BO 37 Tryz.f37 (cx w β n []) [.ag (Ins.mk 1 d s im of).cs] [] 0 (REff w β ⟨.c (.sx 38 1),[],some (38,Ent.mk true [.i s] 1)⟩) :=
 zah [] (some 38) [true,false,false,false,true,true,true,false] [] [] Tryz.func37 hk (by kernel_rfl) h (zab c0 zae)
theorem yac8 (h:(!s != -1&&true)=true) (c0:Ok 34 [.c (.i 1)] (.c (.b false))) :
  Ok 37 [.ag (Ins.mk 1 d s im of).cs] (.c zco) :=
 zaf [true,false,false,false,true,true,false,false] [] [] Tryz.func37 rfl rfl rfl rfl (by kernel_rfl) h (zab c0 zae)
theorem zxg (h:(s != -1&&true)=true) (c0:Ok 34 [.c (.i 10)] (.c (.b false))) (hk:EKeys n [] (some 38) ⟨.c (.sx 38 1),[],some (38,Ent.mk true [.i s] 1)⟩) :
  BO 37 Tryz.f37 (cx w β n []) [.ag (Ins.mk 10 d s im of).cs] [] 0 (REff w β ⟨.c (.sx 38 1),[],some (38,Ent.mk true [.i s] 1)⟩) :=
 zah [] (some 38) [true,true,false,false,true,true,true,false] [] [] Tryz.func37 hk (by kernel_rfl) h (zab c0 zae)
theorem yajc (c0:Ok 34 [.c (.i 12)] (.c (.b false))) (c1:Ok 34 [.c (.i 12)] (.c (.b false))) :
  Ok 37 [.ag (Ins.mk 12 d s im of).cs] (.c zco) :=
 zaf [false,false,false,false,false,false,false,false] [] [] Tryz.func37 rfl rfl rfl rfl (by kernel_rfl) rfl (zab c0 (zab c1 zae))
theorem yak4 (c0:Ok 34 [.c (.i 15)] (.c (.b false))) (c1:Ok 34 [.c (.i 15)] (.c (.b false))) (hk:EKeys n [] (some 39) ⟨.c (.sx 39 1),[],some (39,Ent.mk true [.i 0] 1)⟩) :
  BO 37 Tryz.f37 (cx w β n []) [.ag (Ins.mk 15 d s im of).cs] [] 0 (REff w β ⟨.c (.sx 39 1),[],some (39,Ent.mk true [.i 0] 1)⟩) :=
 zah [] (some 39) [false,false,false,false,false,false,false,true] [] [] Tryz.func37 hk (by kernel_rfl) rfl (zab c0 (zab c1 zae))
end
section
variable {m:Mach} {w:World} {β:Bs} {n c:Nat} {C:Cx} {R:Ending→World→Prop} {E:Eff} {u:V6 Bool} {j e q:Int} {mem:ByteArray} {x:BitVec 64} {V:AV} {L:List Ins}
end
section
variable {i:Ins} {m:Mach} {jp:Bool} {V:AV} {d s of:Int} {im:BitVec 64}
end
section
variable {i:Ins} {m:Mach} {C:Cx} {R:Ending→World→Prop} {u:V6 Bool} {j d s of op:Int} {w:World} {β:Bs} {n:Nat} {E:Eff} {im:BitVec 64}
end
end Go.Proofs.YtkigmocchaikgabGreatDoor
