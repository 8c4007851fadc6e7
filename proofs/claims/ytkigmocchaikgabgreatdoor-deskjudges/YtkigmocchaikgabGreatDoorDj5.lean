import Derived.Test.YtkigmocchaikgabGreatDoorDj2
import Derived.Test.YtkigmocchaikgabGreatDoorProg
import Derived.Test.YtkigmocchaikgabGreatDoorDj4
import Derived.Deep.RegionWith
import Derived.Lib.SplitLaws
import Derived.Defers
import Derived.Recover
import Derived.Laws.Pointers
/- Ways of bodies, written by a program (ways.py): what each asks for, and hands back. -/
namespace Go.Proofs.YtkigmocchaikgabGreatDoor
open Go.RowKit
section
abbrev ckAK (L:List Ins) (c j:Nat):Kn:=⟨[(0,.c (.sl 0 0 L.length c)),(17,.c (.sl 0 0 L.length c)),(18,.c (.i (L.length:Int))),(19,.c (.i (j:Int)))],[(0,Ent.mk false (pcell L) 0)],1⟩
abbrev ckBK (L:List Ins) (c j:Nat):Kn:=⟨[(0,.c (.sl 0 0 L.length c)),(32,.c (.sl 0 0 L.length c)),(33,.c (.i (L.length:Int))),(34,.c (.i (j:Int)))],[(0,Ent.mk false (pcell L) 0)],1⟩
abbrev ckCK (L:List Ins) (c j:Nat):Kn:=⟨[(0,.c (.sl 0 0 L.length c)),(48,.c (.sl 0 0 L.length c)),(49,.c (.i (L.length:Int))),(50,.c (.i (j:Int)))],[(0,Ent.mk false (pcell L) 0)],1⟩
variable {L:List Ins} {c n j:Nat} {w:World} {β:Bs} {C:Cx} {R:Ending→World→Prop} {E:Eff}
theorem yam0 (h:((L.length:Int)==0&&true)=true) :
  BO 19 Tryz.f19 (cx w β n []) [.c (.sl 0 0 L.length c)] [(0,Ent.mk false (pcell L) 0)] 1 (REff w β ⟨.c (.i 2),[],none⟩) :=
 zah [] none [true,true] [true] [] Tryz.func19 (zat rfl n) (by kernel_rfl) h zae
theorem yama (h:(!(L.length:Int)==0&&(decide (64<(L.length:Int))&&true))=true) :
  BO 19 Tryz.f19 (cx w β n []) [.c (.sl 0 0 L.length c)] [(0,Ent.mk false (pcell L) 0)] 1 (REff w β ⟨.c (.i 2),[],none⟩) :=
 zah [] none [false,true] [true] [] Tryz.func19 (zat rfl n) (by kernel_rfl) h zae
theorem yan0 (h:(!(L.length:Int)==0&&(!decide (64<(L.length:Int))&&true))=true) (lo:Kn.Low ⟨[(0,.c (.sl 0 0 L.length c)),(17,.c (.sl 0 0 L.length c)),(18,.c (.i (L.length:Int))),(19,.c (.i 0))],[(0,Ent.mk false (pcell L) 0)],1⟩) (hF:∀ k,C.F k→k<1) (z:AR 19 Tryz.f19 C 0 ⟨[(0,.c (.sl 0 0 L.length c)),(17,.c (.sl 0 0 L.length c)),(18,.c (.i (L.length:Int))),(19,.c (.i 0))],[(0,Ent.mk false (pcell L) 0)],1⟩ R) :
  BO 19 Tryz.f19 C [.c (.sl 0 0 L.length c)] [(0,Ent.mk false (pcell L) 0)] 1 R :=
 zai [false,false] [true] [] Tryz.func19 (by kernel_rfl) h zae lo hF z
theorem yajz (hn:n≤1)
  (l0:((L.length:Int)==0)=true→((⟨.c (.i 2),[],none⟩:Eff)=E))
  (l1:((L.length:Int)==0)=false→(decide (64<(L.length:Int)))=true→((⟨.c (.i 2),[],none⟩:Eff)=E))
  (l2:((L.length:Int)==0)=false→(decide (64<(L.length:Int)))=false→Kn.Low ⟨[(0,.c (.sl 0 0 L.length c)),(17,.c (.sl 0 0 L.length c)),(18,.c (.i (L.length:Int))),(19,.c (.i 0))],[(0,Ent.mk false (pcell L) 0)],1⟩∧AR 19 Tryz.f19 (cx w β n []) 0 ⟨[(0,.c (.sl 0 0 L.length c)),(17,.c (.sl 0 0 L.length c)),(18,.c (.i (L.length:Int))),(19,.c (.i 0))],[(0,Ent.mk false (pcell L) 0)],1⟩ (REff w β E)) :
  BO 19 Tryz.f19 (cx w β n []) [.c (.sl 0 0 L.length c)] [(0,Ent.mk false (pcell L) 0)] 1 (REff w β E) :=
 (tf ((L.length:Int)==0)).elim (fun h0=>(match l0 h0 with | e=>za6 (yam0 (zaa h0 rfl)) e)) (fun h0=>(tf (decide (64<(L.length:Int)))).elim (fun h1=>(match l1 h0 h1 with | e=>za6 (yama (zaa (zad h0) (zaa h1 rfl))) e)) (fun h1=>(match l2 h0 h1 with | ⟨lo,z⟩=>yan0 (zaa (zad h0) (zaa (zad h1) rfl)) lo (fun _ hk=>Nat.lt_of_lt_of_le hk hn) z)))
theorem yaw8 (h:(decide ((j:Int)<(L.length:Int))&&(decide ((j:Int)<(L.length:Int))&&(Nat.ble (0+(j:Int).toNat*5+5) (pcell L).length&&(decide ((elt L j).op<1)&&true))))=true) (c0:pe (.ag (((pcell L).drop (0+(j:Int).toNat*5)).take 5))=pe (.ag (elt L j).cs)) :
  AR 19 Tryz.f19 (cx w β n []) 0 (ckAK L c j) (REff w β ⟨.c (.i 4),[],none⟩) :=
 zah [] none [true,true,true] [true] [(5,1)] Tryz.func19 (zat rfl n) (by kernel_rfl) h (zac c0 zae)
theorem yayz (h:(decide ((j:Int)<(L.length:Int))&&(decide ((j:Int)<(L.length:Int))&&(Nat.ble (0+(j:Int).toNat*5+5) (pcell L).length&&(!decide ((elt L j).op<1)&&(decide (15<(elt L j).op)&&true)))))=true) (c0:pe (.ag (((pcell L).drop (0+(j:Int).toNat*5)).take 5))=pe (.ag (elt L j).cs)) :
  AR 19 Tryz.f19 (cx w β n []) 0 (ckAK L c j) (REff w β ⟨.c (.i 4),[],none⟩) :=
 zah [] none [true,false,true] [true] [(5,1)] Tryz.func19 (zat rfl n) (by kernel_rfl) h (zac c0 zae)
theorem yazq (h:(decide ((j:Int)<(L.length:Int))&&(decide ((j:Int)<(L.length:Int))&&(Nat.ble (0+(j:Int).toNat*5+5) (pcell L).length&&(!decide ((elt L j).op<1)&&(!decide (15<(elt L j).op)&&true)))))=true) (c0:pe (.ag (((pcell L).drop (0+(j:Int).toNat*5)).take 5))=pe (.ag (elt L j).cs)) (lo:Kn.Low ⟨[(0,.c (.sl 0 0 L.length c)),(17,.c (.sl 0 0 L.length c)),(18,.c (.i (L.length:Int))),(19,.c (.i (IntKind.i64.wrap ((j:Int)+1))))],[(0,Ent.mk false (pcell L) 0)],1⟩) (hF:∀ k,C.F k→k<1) (z:AR 19 Tryz.f19 C 0 ⟨[(0,.c (.sl 0 0 L.length c)),(17,.c (.sl 0 0 L.length c)),(18,.c (.i (L.length:Int))),(19,.c (.i (IntKind.i64.wrap ((j:Int)+1))))],[(0,Ent.mk false (pcell L) 0)],1⟩ R) :
  AR 19 Tryz.f19 C 0 (ckAK L c j) R :=
 zai [true,false,false] [true] [(5,1)] Tryz.func19 (by kernel_rfl) h (zac c0 zae) lo hF z
theorem yau9 (hn:n≤1)
  (l0:(decide ((elt L j).op<1))=true→(decide ((j:Int)<(L.length:Int)))=true∧(decide ((j:Int)<(L.length:Int)))=true∧(Nat.ble (0+(j:Int).toNat*5+5) (pcell L).length)=true∧(pe (.ag (((pcell L).drop (0+(j:Int).toNat*5)).take 5))=pe (.ag (elt L j).cs))∧((⟨.c (.i 4),[],none⟩:Eff)=E))
  (l1:(decide ((elt L j).op<1))=false→(decide (15<(elt L j).op))=true→(decide ((j:Int)<(L.length:Int)))=true∧(decide ((j:Int)<(L.length:Int)))=true∧(Nat.ble (0+(j:Int).toNat*5+5) (pcell L).length)=true∧(pe (.ag (((pcell L).drop (0+(j:Int).toNat*5)).take 5))=pe (.ag (elt L j).cs))∧((⟨.c (.i 4),[],none⟩:Eff)=E))
  (l2:(decide ((elt L j).op<1))=false→(decide (15<(elt L j).op))=false→(decide ((j:Int)<(L.length:Int)))=true∧(decide ((j:Int)<(L.length:Int)))=true∧(Nat.ble (0+(j:Int).toNat*5+5) (pcell L).length)=true∧(pe (.ag (((pcell L).drop (0+(j:Int).toNat*5)).take 5))=pe (.ag (elt L j).cs))∧Kn.Low ⟨[(0,.c (.sl 0 0 L.length c)),(17,.c (.sl 0 0 L.length c)),(18,.c (.i (L.length:Int))),(19,.c (.i (IntKind.i64.wrap ((j:Int)+1))))],[(0,Ent.mk false (pcell L) 0)],1⟩∧AR 19 Tryz.f19 (cx w β n []) 0 ⟨[(0,.c (.sl 0 0 L.length c)),(17,.c (.sl 0 0 L.length c)),(18,.c (.i (L.length:Int))),(19,.c (.i (IntKind.i64.wrap ((j:Int)+1))))],[(0,Ent.mk false (pcell L) 0)],1⟩ (REff w β E)) :
  AR 19 Tryz.f19 (cx w β n []) 0 (ckAK L c j) (REff w β E) :=
 (tf (decide ((elt L j).op<1))).elim (fun h0=>(match l0 h0 with | ⟨o0,o1,o2,c0,e⟩=>za6 (yaw8 (zaa o0 (zaa o1 (zaa o2 (zaa h0 rfl)))) c0) e)) (fun h0=>(tf (decide (15<(elt L j).op))).elim (fun h1=>(match l1 h0 h1 with | ⟨o0,o1,o2,c0,e⟩=>za6 (yayz (zaa o0 (zaa o1 (zaa o2 (zaa (zad h0) (zaa h1 rfl))))) c0) e)) (fun h1=>(match l2 h0 h1 with | ⟨o0,o1,o2,c0,lo,z⟩=>yazq (zaa o0 (zaa o1 (zaa o2 (zaa (zad h0) (zaa (zad h1) rfl))))) c0 lo (fun _ hk=>Nat.lt_of_lt_of_le hk hn) z)))
theorem yas6 (h:(!decide ((j:Int)<(L.length:Int))&&true)=true) (lo:Kn.Low ⟨[(0,.c (.sl 0 0 L.length c)),(32,.c (.sl 0 0 L.length c)),(33,.c (.i (L.length:Int))),(34,.c (.i 0))],[(0,Ent.mk false (pcell L) 0)],1⟩) (hF:∀ k,C.F k→k<1) (z:AR 19 Tryz.f19 C 1 ⟨[(0,.c (.sl 0 0 L.length c)),(32,.c (.sl 0 0 L.length c)),(33,.c (.i (L.length:Int))),(34,.c (.i 0))],[(0,Ent.mk false (pcell L) 0)],1⟩ R) :
  AR 19 Tryz.f19 C 0 (ckAK L c j) R :=
 zai [false] [true] [] Tryz.func19 (by kernel_rfl) h zae lo hF z
theorem yaxw (h:(decide ((j:Int)<(L.length:Int))&&(decide ((j:Int)<(L.length:Int))&&(Nat.ble (0+(j:Int).toNat*5+5) (pcell L).length&&(!inB (elt L j) (↑(L.length - 1 - j):Int)&&true))))=true) (c0:pe (.ag (((pcell L).drop (0+(j:Int).toNat*5)).take 5))=pe (.ag (elt L j).cs)) (c1:pe (.c (.i (IntKind.i64.wrap (IntKind.i64.wrap ((L.length:Int) - 1) - (j:Int)))))=pe (.c (.i (↑(L.length - 1 - j):Int)))) (c2:Ok 51 [.ag (elt L j).cs,.c (.i (↑(L.length - 1 - j):Int))] (.c (.b (inB (elt L j) (↑(L.length - 1 - j):Int))))) :
  AR 19 Tryz.f19 (cx w β n []) 1 (ckBK L c j) (REff w β ⟨.c (.i 3),[],none⟩) :=
 zah [] none [true,true] [true] [(11,2),(12,5)] Tryz.func19 (zat rfl n) (by kernel_rfl) h (zac c0 (zac c1 (zab c2 zae)))
theorem yays (h:(decide ((j:Int)<(L.length:Int))&&(decide ((j:Int)<(L.length:Int))&&(Nat.ble (0+(j:Int).toNat*5+5) (pcell L).length&&(!!inB (elt L j) (↑(L.length - 1 - j):Int)&&true))))=true) (c0:pe (.ag (((pcell L).drop (0+(j:Int).toNat*5)).take 5))=pe (.ag (elt L j).cs)) (c1:pe (.c (.i (IntKind.i64.wrap (IntKind.i64.wrap ((L.length:Int) - 1) - (j:Int)))))=pe (.c (.i (↑(L.length - 1 - j):Int)))) (c2:Ok 51 [.ag (elt L j).cs,.c (.i (↑(L.length - 1 - j):Int))] (.c (.b (inB (elt L j) (↑(L.length - 1 - j):Int))))) (lo:Kn.Low ⟨[(0,.c (.sl 0 0 L.length c)),(32,.c (.sl 0 0 L.length c)),(33,.c (.i (L.length:Int))),(34,.c (.i (IntKind.i64.wrap ((j:Int)+1))))],[(0,Ent.mk false (pcell L) 0)],1⟩) (hF:∀ k,C.F k→k<1) (z:AR 19 Tryz.f19 C 1 ⟨[(0,.c (.sl 0 0 L.length c)),(32,.c (.sl 0 0 L.length c)),(33,.c (.i (L.length:Int))),(34,.c (.i (IntKind.i64.wrap ((j:Int)+1))))],[(0,Ent.mk false (pcell L) 0)],1⟩ R) :
  AR 19 Tryz.f19 C 1 (ckBK L c j) R :=
 zai [true,false] [true] [(11,2),(12,5)] Tryz.func19 (by kernel_rfl) h (zac c0 (zac c1 (zab c2 zae))) lo hF z
theorem yara (hn:n≤1)
  (l0:(!inB (elt L j) (↑(L.length - 1 - j):Int))=true→(decide ((j:Int)<(L.length:Int)))=true∧(decide ((j:Int)<(L.length:Int)))=true∧(Nat.ble (0+(j:Int).toNat*5+5) (pcell L).length)=true∧(pe (.ag (((pcell L).drop (0+(j:Int).toNat*5)).take 5))=pe (.ag (elt L j).cs))∧(pe (.c (.i (IntKind.i64.wrap (IntKind.i64.wrap ((L.length:Int) - 1) - (j:Int)))))=pe (.c (.i (↑(L.length - 1 - j):Int))))∧(Ok 51 [.ag (elt L j).cs,.c (.i (↑(L.length - 1 - j):Int))] (.c (.b (inB (elt L j) (↑(L.length - 1 - j):Int)))))∧((⟨.c (.i 3),[],none⟩:Eff)=E))
  (l1:(!inB (elt L j) (↑(L.length - 1 - j):Int))=false→(decide ((j:Int)<(L.length:Int)))=true∧(decide ((j:Int)<(L.length:Int)))=true∧(Nat.ble (0+(j:Int).toNat*5+5) (pcell L).length)=true∧(pe (.ag (((pcell L).drop (0+(j:Int).toNat*5)).take 5))=pe (.ag (elt L j).cs))∧(pe (.c (.i (IntKind.i64.wrap (IntKind.i64.wrap ((L.length:Int) - 1) - (j:Int)))))=pe (.c (.i (↑(L.length - 1 - j):Int))))∧(Ok 51 [.ag (elt L j).cs,.c (.i (↑(L.length - 1 - j):Int))] (.c (.b (inB (elt L j) (↑(L.length - 1 - j):Int)))))∧Kn.Low ⟨[(0,.c (.sl 0 0 L.length c)),(32,.c (.sl 0 0 L.length c)),(33,.c (.i (L.length:Int))),(34,.c (.i (IntKind.i64.wrap ((j:Int)+1))))],[(0,Ent.mk false (pcell L) 0)],1⟩∧AR 19 Tryz.f19 (cx w β n []) 1 ⟨[(0,.c (.sl 0 0 L.length c)),(32,.c (.sl 0 0 L.length c)),(33,.c (.i (L.length:Int))),(34,.c (.i (IntKind.i64.wrap ((j:Int)+1))))],[(0,Ent.mk false (pcell L) 0)],1⟩ (REff w β E)) :
  AR 19 Tryz.f19 (cx w β n []) 1 (ckBK L c j) (REff w β E) :=
 (tf (!inB (elt L j) (↑(L.length - 1 - j):Int))).elim (fun h0=>(match l0 h0 with | ⟨o0,o1,o2,c0,c1,c2,e⟩=>za6 (yaxw (zaa o0 (zaa o1 (zaa o2 (zaa h0 rfl)))) c0 c1 c2) e)) (fun h0=>(match l1 h0 with | ⟨o0,o1,o2,c0,c1,c2,lo,z⟩=>yays (zaa o0 (zaa o1 (zaa o2 (zaa (zad h0) rfl)))) c0 c1 c2 lo (fun _ hk=>Nat.lt_of_lt_of_le hk hn) z))
theorem yas2 (h:(!decide ((j:Int)<(L.length:Int))&&true)=true) (lo:Kn.Low ⟨[(0,.c (.sl 0 0 L.length c)),(48,.c (.sl 0 0 L.length c)),(49,.c (.i (L.length:Int))),(50,.c (.i 0))],[(0,Ent.mk false (pcell L) 0)],1⟩) (hF:∀ k,C.F k→k<1) (z:AR 19 Tryz.f19 C 2 ⟨[(0,.c (.sl 0 0 L.length c)),(48,.c (.sl 0 0 L.length c)),(49,.c (.i (L.length:Int))),(50,.c (.i 0))],[(0,Ent.mk false (pcell L) 0)],1⟩ R) :
  AR 19 Tryz.f19 C 1 (ckBK L c j) R :=
 zai [false] [true] [] Tryz.func19 (by kernel_rfl) h zae lo hF z
theorem yavs (h:(decide ((j:Int)<(L.length:Int))&&(decide ((j:Int)<(L.length:Int))&&(Nat.ble (0+(j:Int).toNat*5+5) (pcell L).length&&(!zbd (elt L j)&&true))))=true) (c0:pe (.ag (((pcell L).drop (0+(j:Int).toNat*5)).take 5))=pe (.ag (elt L j).cs)) (c1:Ok 52 [.ag (elt L j).cs] (.c (.b (zbd (elt L j))))) :
  AR 19 Tryz.f19 (cx w β n []) 2 (ckCK L c j) (REff w β ⟨.c (.i 1),[],none⟩) :=
 zah [] none [true,true] [true] [(17,1)] Tryz.func19 (zat rfl n) (by kernel_rfl) h (zac c0 (zab c1 zae))
theorem yavv (h:(decide ((j:Int)<(L.length:Int))&&(decide ((j:Int)<(L.length:Int))&&(Nat.ble (0+(j:Int).toNat*5+5) (pcell L).length&&(!!zbd (elt L j)&&true))))=true) (c0:pe (.ag (((pcell L).drop (0+(j:Int).toNat*5)).take 5))=pe (.ag (elt L j).cs)) (c1:Ok 52 [.ag (elt L j).cs] (.c (.b (zbd (elt L j))))) (lo:Kn.Low ⟨[(0,.c (.sl 0 0 L.length c)),(48,.c (.sl 0 0 L.length c)),(49,.c (.i (L.length:Int))),(50,.c (.i (IntKind.i64.wrap ((j:Int)+1))))],[(0,Ent.mk false (pcell L) 0)],1⟩) (hF:∀ k,C.F k→k<1) (z:AR 19 Tryz.f19 C 2 ⟨[(0,.c (.sl 0 0 L.length c)),(48,.c (.sl 0 0 L.length c)),(49,.c (.i (L.length:Int))),(50,.c (.i (IntKind.i64.wrap ((j:Int)+1))))],[(0,Ent.mk false (pcell L) 0)],1⟩ R) :
  AR 19 Tryz.f19 C 2 (ckCK L c j) R :=
 zai [true,false] [true] [(17,1)] Tryz.func19 (by kernel_rfl) h (zac c0 (zab c1 zae)) lo hF z
theorem yata (hn:n≤1)
  (l0:(!zbd (elt L j))=true→(decide ((j:Int)<(L.length:Int)))=true∧(decide ((j:Int)<(L.length:Int)))=true∧(Nat.ble (0+(j:Int).toNat*5+5) (pcell L).length)=true∧(pe (.ag (((pcell L).drop (0+(j:Int).toNat*5)).take 5))=pe (.ag (elt L j).cs))∧(Ok 52 [.ag (elt L j).cs] (.c (.b (zbd (elt L j)))))∧((⟨.c (.i 1),[],none⟩:Eff)=E))
  (l1:(!zbd (elt L j))=false→(decide ((j:Int)<(L.length:Int)))=true∧(decide ((j:Int)<(L.length:Int)))=true∧(Nat.ble (0+(j:Int).toNat*5+5) (pcell L).length)=true∧(pe (.ag (((pcell L).drop (0+(j:Int).toNat*5)).take 5))=pe (.ag (elt L j).cs))∧(Ok 52 [.ag (elt L j).cs] (.c (.b (zbd (elt L j)))))∧Kn.Low ⟨[(0,.c (.sl 0 0 L.length c)),(48,.c (.sl 0 0 L.length c)),(49,.c (.i (L.length:Int))),(50,.c (.i (IntKind.i64.wrap ((j:Int)+1))))],[(0,Ent.mk false (pcell L) 0)],1⟩∧AR 19 Tryz.f19 (cx w β n []) 2 ⟨[(0,.c (.sl 0 0 L.length c)),(48,.c (.sl 0 0 L.length c)),(49,.c (.i (L.length:Int))),(50,.c (.i (IntKind.i64.wrap ((j:Int)+1))))],[(0,Ent.mk false (pcell L) 0)],1⟩ (REff w β E)) :
  AR 19 Tryz.f19 (cx w β n []) 2 (ckCK L c j) (REff w β E) :=
 (tf (!zbd (elt L j))).elim (fun h0=>(match l0 h0 with | ⟨o0,o1,o2,c0,c1,e⟩=>za6 (yavs (zaa o0 (zaa o1 (zaa o2 (zaa h0 rfl)))) c0 c1) e)) (fun h0=>(match l1 h0 with | ⟨o0,o1,o2,c0,c1,lo,z⟩=>yavv (zaa o0 (zaa o1 (zaa o2 (zaa (zad h0) rfl)))) c0 c1 lo (fun _ hk=>Nat.lt_of_lt_of_le hk hn) z))
theorem yarr (h:(!decide ((j:Int)<(L.length:Int))&&(decide (0≤IntKind.i64.wrap ((L.length:Int) - 1))&&decide (IntKind.i64.wrap ((L.length:Int) - 1)<(L.length:Int))&&(AC.isI ((pcell L)[0+(IntKind.i64.wrap ((L.length:Int) - 1)).toNat*5+0]?.getD (.b false))&&Nat.blt (0+(IntKind.i64.wrap ((L.length:Int) - 1)).toNat*5+0) (pcell L).length&&(zbz L != 15&&true))))=true) (c0:pe (.c (.i (AC.asI ((pcell L)[0+(IntKind.i64.wrap ((L.length:Int) - 1)).toNat*5+0]?.getD (.b false)))))=pe (.c (.i (zbz L)))) :
  AR 19 Tryz.f19 (cx w β n []) 2 (ckCK L c j) (REff w β ⟨.c (.i 1),[],none⟩) :=
 zah [] none [false,true] [true] [(21,6)] Tryz.func19 (zat rfl n) (by kernel_rfl) h (zac c0 zae)
theorem yau8 (h:(!decide ((j:Int)<(L.length:Int))&&(decide (0≤IntKind.i64.wrap ((L.length:Int) - 1))&&decide (IntKind.i64.wrap ((L.length:Int) - 1)<(L.length:Int))&&(AC.isI ((pcell L)[0+(IntKind.i64.wrap ((L.length:Int) - 1)).toNat*5+0]?.getD (.b false))&&Nat.blt (0+(IntKind.i64.wrap ((L.length:Int) - 1)).toNat*5+0) (pcell L).length&&(!zbz L != 15&&true))))=true) (c0:pe (.c (.i (AC.asI ((pcell L)[0+(IntKind.i64.wrap ((L.length:Int) - 1)).toNat*5+0]?.getD (.b false)))))=pe (.c (.i (zbz L)))) :
  AR 19 Tryz.f19 (cx w β n []) 2 (ckCK L c j) (REff w β ⟨.c (.i 0),[],none⟩) :=
 zah [] none [false,false] [true] [(21,6)] Tryz.func19 (zat rfl n) (by kernel_rfl) h (zac c0 zae)
theorem yapc
  (l0:(zbz L != 15)=true→(!decide ((j:Int)<(L.length:Int)))=true∧(decide (0≤IntKind.i64.wrap ((L.length:Int) - 1))&&decide (IntKind.i64.wrap ((L.length:Int) - 1)<(L.length:Int)))=true∧(AC.isI ((pcell L)[0+(IntKind.i64.wrap ((L.length:Int) - 1)).toNat*5+0]?.getD (.b false))&&Nat.blt (0+(IntKind.i64.wrap ((L.length:Int) - 1)).toNat*5+0) (pcell L).length)=true∧(pe (.c (.i (AC.asI ((pcell L)[0+(IntKind.i64.wrap ((L.length:Int) - 1)).toNat*5+0]?.getD (.b false)))))=pe (.c (.i (zbz L))))∧((⟨.c (.i 1),[],none⟩:Eff)=E))
  (l1:(zbz L != 15)=false→(!decide ((j:Int)<(L.length:Int)))=true∧(decide (0≤IntKind.i64.wrap ((L.length:Int) - 1))&&decide (IntKind.i64.wrap ((L.length:Int) - 1)<(L.length:Int)))=true∧(AC.isI ((pcell L)[0+(IntKind.i64.wrap ((L.length:Int) - 1)).toNat*5+0]?.getD (.b false))&&Nat.blt (0+(IntKind.i64.wrap ((L.length:Int) - 1)).toNat*5+0) (pcell L).length)=true∧(pe (.c (.i (AC.asI ((pcell L)[0+(IntKind.i64.wrap ((L.length:Int) - 1)).toNat*5+0]?.getD (.b false)))))=pe (.c (.i (zbz L))))∧((⟨.c (.i 0),[],none⟩:Eff)=E)) :
  AR 19 Tryz.f19 (cx w β n []) 2 (ckCK L c j) (REff w β E) :=
 (tf (zbz L != 15)).elim (fun h0=>(match l0 h0 with | ⟨o0,o1,o2,c0,e⟩=>za6 (yarr (zaa o0 (zaa o1 (zaa o2 (zaa h0 rfl)))) c0) e)) (fun h0=>(match l1 h0 with | ⟨o0,o1,o2,c0,e⟩=>za6 (yau8 (zaa o0 (zaa o1 (zaa o2 (zaa (zad h0) rfl)))) c0) e))
end
section
variable {V:AV} {n:Int} {i:Ins}
theorem yamx {d:Int} (h:(decide (0≤d)&&true)=true) :
  Ok 94 [.c (.i d)] (.c (.b (decide (d<6)))) :=
 zaf [true] [] [] Tryz.func94 rfl rfl rfl rfl (by kernel_rfl) h zae
theorem yanc {d:Int} (h:(!decide (0≤d)&&true)=true) :
  Ok 94 [.c (.i d)] (.c (.b false)) :=
 zaf [false] [] [] Tryz.func94 rfl rfl rfl rfl (by kernel_rfl) h zae
theorem yah2 {d:Int}
  (l0:(decide (0≤d))=true→(AV.c (.b (decide (d<6)))=V))
  (l1:(decide (0≤d))=false→(AV.c (.b false)=V)) :
  Ok 94 [.c (.i d)] V :=
 (tf (decide (0≤d))).elim (fun h0=>(match l0 h0 with | e=>zam (yamx (zaa h0 rfl)) e)) (fun h0=>(match l1 h0 with | e=>zam (yanc (zaa (zad h0) rfl)) e))
theorem zzp {d:Int} (h:(d==-1&&true)=true) :
  Ok 97 [.c (.i d)] (.c (.b true)) :=
 zaf [true] [] [] Tryz.func97 rfl rfl rfl rfl (by kernel_rfl) h zae
theorem zxh {d:Int} (h:(!d==-1&&true)=true) (c0:Ok 94 [.c (.i d)] (.c (.b (regB d)))) :
  Ok 97 [.c (.i d)] (.c (.b (regB d))) :=
 zaf [false] [] [] Tryz.func97 rfl rfl rfl rfl (by kernel_rfl) h (zab c0 zae)
theorem zwf {d:Int}
  (l0:(d==-1)=true→(AV.c (.b true)=V))
  (l1:(d==-1)=false→(Ok 94 [.c (.i d)] (.c (.b (regB d))))∧(AV.c (.b (regB d))=V)) :
  Ok 97 [.c (.i d)] V :=
 (tf (d==-1)).elim (fun h0=>(match l0 h0 with | e=>zam (zzp (zaa h0 rfl)) e)) (fun h0=>(match l1 h0 with | ⟨c0,e⟩=>zam (zxh (zaa (zad h0) rfl) c0) e))
theorem yahe {d:BitVec 64} (h:(eqb d 1#64&&true)=true) :
  Ok 95 [.c (.u d)] (.c (.b true)) :=
 zaf [true,true,true] [] [] Tryz.func95 rfl rfl rfl rfl (by kernel_rfl) h zae
theorem yakk {d:BitVec 64} (h:(!eqb d 1#64&&(eqb d 2#64&&true))=true) :
  Ok 95 [.c (.u d)] (.c (.b true)) :=
 zaf [false,true,true] [] [] Tryz.func95 rfl rfl rfl rfl (by kernel_rfl) h zae
theorem yaib {d:BitVec 64} (h:(!eqb d 1#64&&(!eqb d 2#64&&(eqb d 4#64&&true)))=true) :
  Ok 95 [.c (.u d)] (.c (.b true)) :=
 zaf [false,false,true] [] [] Tryz.func95 rfl rfl rfl rfl (by kernel_rfl) h zae
theorem yaky {d:BitVec 64} (h:(!eqb d 1#64&&(!eqb d 2#64&&(!eqb d 4#64&&true)))=true) :
  Ok 95 [.c (.u d)] (.c (.b (eqb d 8#64))) :=
 zaf [false,false,false] [] [] Tryz.func95 rfl rfl rfl rfl (by kernel_rfl) h zae
theorem yacy {d:BitVec 64}
  (l0:(eqb d 1#64)=true→(AV.c (.b true)=V))
  (l1:(eqb d 1#64)=false→(eqb d 2#64)=true→(AV.c (.b true)=V))
  (l2:(eqb d 1#64)=false→(eqb d 2#64)=false→(eqb d 4#64)=true→(AV.c (.b true)=V))
  (l3:(eqb d 1#64)=false→(eqb d 2#64)=false→(eqb d 4#64)=false→(AV.c (.b (eqb d 8#64))=V)) :
  Ok 95 [.c (.u d)] V :=
 (tf (eqb d 1#64)).elim (fun h0=>(match l0 h0 with | e=>zam (yahe (zaa h0 rfl)) e)) (fun h0=>(tf (eqb d 2#64)).elim (fun h1=>(match l1 h0 h1 with | e=>zam (yakk (zaa (zad h0) (zaa h1 rfl))) e)) (fun h1=>(tf (eqb d 4#64)).elim (fun h2=>(match l2 h0 h1 h2 with | e=>zam (yaib (zaa (zad h0) (zaa (zad h1) (zaa h2 rfl)))) e)) (fun h2=>(match l3 h0 h1 h2 with | e=>zam (yaky (zaa (zad h0) (zaa (zad h1) (zaa (zad h2) rfl)))) e))))
theorem yagf {d:Int} (h:(decide (0≤d)&&true)=true) :
  Ok 96 [.c (.i d),.c (.i n)] (.c (.b (decide (d<n)))) :=
 zaf [true] [] [] Tryz.func96 rfl rfl rfl rfl (by kernel_rfl) h zae
theorem yaho {d:Int} (h:(!decide (0≤d)&&true)=true) :
  Ok 96 [.c (.i d),.c (.i n)] (.c (.b false)) :=
 zaf [false] [] [] Tryz.func96 rfl rfl rfl rfl (by kernel_rfl) h zae
theorem yae5 {d:Int}
  (l0:(decide (0≤d))=true→(AV.c (.b (decide (d<n)))=V))
  (l1:(decide (0≤d))=false→(AV.c (.b false)=V)) :
  Ok 96 [.c (.i d),.c (.i n)] V :=
 (tf (decide (0≤d))).elim (fun h0=>(match l0 h0 with | e=>zam (yagf (zaa h0 rfl)) e)) (fun h0=>(match l1 h0 with | e=>zam (yaho (zaa (zad h0) rfl)) e))
theorem zxr (h:(i.op==10&&(i.op==10&&(regB i.d&&(regB i.s&&(zc0 i.im&&(decide (-64≤i.of)&&true))))))=true) (c0:Ok 94 [.c (.i i.d)] (.c (.b (regB i.d)))) (c1:Ok 94 [.c (.i i.s)] (.c (.b (regB i.s)))) (c2:Ok 95 [.c (.u i.im)] (.c (.b (zc0 i.im)))) :
  Ok 51 [.ag i.cs,.c (.i n)] (.c (.b (decide (i.of≤64)))) :=
 zaf [true,true,true,true,true,true] [] [] Tryz.func51 rfl rfl rfl rfl (by kernel_rfl) h (zab c0 (zab c1 (zab c2 zae)))
theorem zwy (h:(i.op==10&&(i.op==10&&(regB i.d&&(regB i.s&&(zc0 i.im&&(!decide (-64≤i.of)&&true))))))=true) (c0:Ok 94 [.c (.i i.d)] (.c (.b (regB i.d)))) (c1:Ok 94 [.c (.i i.s)] (.c (.b (regB i.s)))) (c2:Ok 95 [.c (.u i.im)] (.c (.b (zc0 i.im)))) :
  Ok 51 [.ag i.cs,.c (.i n)] (.c (.b false)) :=
 zaf [true,true,true,true,true,false] [] [] Tryz.func51 rfl rfl rfl rfl (by kernel_rfl) h (zab c0 (zab c1 (zab c2 zae)))
theorem zw2 (h:(i.op==10&&(i.op==10&&(regB i.d&&(regB i.s&&(!zc0 i.im&&true)))))=true) (c0:Ok 94 [.c (.i i.d)] (.c (.b (regB i.d)))) (c1:Ok 94 [.c (.i i.s)] (.c (.b (regB i.s)))) (c2:Ok 95 [.c (.u i.im)] (.c (.b (zc0 i.im)))) :
  Ok 51 [.ag i.cs,.c (.i n)] (.c (.b false)) :=
 zaf [true,true,true,true,false,false] [] [] Tryz.func51 rfl rfl rfl rfl (by kernel_rfl) h (zab c0 (zab c1 (zab c2 zae)))
theorem zyy (h:(i.op==10&&(i.op==10&&(regB i.d&&(!regB i.s&&true))))=true) (c0:Ok 94 [.c (.i i.d)] (.c (.b (regB i.d)))) (c1:Ok 94 [.c (.i i.s)] (.c (.b (regB i.s)))) :
  Ok 51 [.ag i.cs,.c (.i n)] (.c (.b false)) :=
 zaf [true,true,true,false,false,false] [] [] Tryz.func51 rfl rfl rfl rfl (by kernel_rfl) h (zab c0 (zab c1 zae))
theorem zxv (h:(i.op==10&&(i.op==10&&(!regB i.d&&true)))=true) (c0:Ok 94 [.c (.i i.d)] (.c (.b (regB i.d)))) :
  Ok 51 [.ag i.cs,.c (.i n)] (.c (.b false)) :=
 zaf [true,true,false,false,false,false] [] [] Tryz.func51 rfl rfl rfl rfl (by kernel_rfl) h (zab c0 zae)
theorem zxw (h:(!i.op==10&&(i.op==11&&(regB i.d&&(regB i.s&&(zc0 i.im&&(decide (-64≤i.of)&&true))))))=true) (c0:Ok 94 [.c (.i i.d)] (.c (.b (regB i.d)))) (c1:Ok 94 [.c (.i i.s)] (.c (.b (regB i.s)))) (c2:Ok 95 [.c (.u i.im)] (.c (.b (zc0 i.im)))) :
  Ok 51 [.ag i.cs,.c (.i n)] (.c (.b (decide (i.of≤64)))) :=
 zaf [false,true,true,true,true,true] [] [] Tryz.func51 rfl rfl rfl rfl (by kernel_rfl) h (zab c0 (zab c1 (zab c2 zae)))
theorem zwo (h:(!i.op==10&&(i.op==11&&(regB i.d&&(regB i.s&&(zc0 i.im&&(!decide (-64≤i.of)&&true))))))=true) (c0:Ok 94 [.c (.i i.d)] (.c (.b (regB i.d)))) (c1:Ok 94 [.c (.i i.s)] (.c (.b (regB i.s)))) (c2:Ok 95 [.c (.u i.im)] (.c (.b (zc0 i.im)))) :
  Ok 51 [.ag i.cs,.c (.i n)] (.c (.b false)) :=
 zaf [false,true,true,true,true,false] [] [] Tryz.func51 rfl rfl rfl rfl (by kernel_rfl) h (zab c0 (zab c1 (zab c2 zae)))
theorem zxb (h:(!i.op==10&&(i.op==11&&(regB i.d&&(regB i.s&&(!zc0 i.im&&true)))))=true) (c0:Ok 94 [.c (.i i.d)] (.c (.b (regB i.d)))) (c1:Ok 94 [.c (.i i.s)] (.c (.b (regB i.s)))) (c2:Ok 95 [.c (.u i.im)] (.c (.b (zc0 i.im)))) :
  Ok 51 [.ag i.cs,.c (.i n)] (.c (.b false)) :=
 zaf [false,true,true,true,false,false] [] [] Tryz.func51 rfl rfl rfl rfl (by kernel_rfl) h (zab c0 (zab c1 (zab c2 zae)))
theorem zw5 (h:(!i.op==10&&(i.op==11&&(regB i.d&&(!regB i.s&&true))))=true) (c0:Ok 94 [.c (.i i.d)] (.c (.b (regB i.d)))) (c1:Ok 94 [.c (.i i.s)] (.c (.b (regB i.s)))) :
  Ok 51 [.ag i.cs,.c (.i n)] (.c (.b false)) :=
 zaf [false,true,true,false,false,false] [] [] Tryz.func51 rfl rfl rfl rfl (by kernel_rfl) h (zab c0 (zab c1 zae))
theorem zza (h:(!i.op==10&&(i.op==11&&(!regB i.d&&true)))=true) (c0:Ok 94 [.c (.i i.d)] (.c (.b (regB i.d)))) :
  Ok 51 [.ag i.cs,.c (.i n)] (.c (.b false)) :=
 zaf [false,true,false,false,false,false] [] [] Tryz.func51 rfl rfl rfl rfl (by kernel_rfl) h (zab c0 zae)
theorem zvc (h:(!i.op==10&&(!i.op==11&&(i.op==12&&true)))=true) (c0:Ok 96 [.c (.i i.of),.c (.i n)] (.c (.b (zcj i.of n)))) :
  Ok 51 [.ag i.cs,.c (.i n)] (.c (.b (zcj i.of n))) :=
 zaf [false,false,true] [] [] Tryz.func51 rfl rfl rfl rfl (by kernel_rfl) h (zab c0 zae)
theorem zvy (h:(!i.op==10&&(!i.op==11&&(!i.op==12&&(i.op==13&&(i.op==13&&(regB i.d&&(srcB i.s&&true)))))))=true) (c0:Ok 94 [.c (.i i.d)] (.c (.b (regB i.d)))) (c1:Ok 97 [.c (.i i.s)] (.c (.b (srcB i.s)))) (c2:Ok 96 [.c (.i i.of),.c (.i n)] (.c (.b (zcj i.of n)))) :
  Ok 51 [.ag i.cs,.c (.i n)] (.c (.b (zcj i.of n))) :=
 zaf [false,false,false,true,true,true,true] [] [] Tryz.func51 rfl rfl rfl rfl (by kernel_rfl) h (zab c0 (zab c1 (zab c2 zae)))
theorem zv3 (h:(!i.op==10&&(!i.op==11&&(!i.op==12&&(i.op==13&&(i.op==13&&(regB i.d&&(!srcB i.s&&true)))))))=true) (c0:Ok 94 [.c (.i i.d)] (.c (.b (regB i.d)))) (c1:Ok 97 [.c (.i i.s)] (.c (.b (srcB i.s)))) :
  Ok 51 [.ag i.cs,.c (.i n)] (.c (.b false)) :=
 zaf [false,false,false,true,true,true,false] [] [] Tryz.func51 rfl rfl rfl rfl (by kernel_rfl) h (zab c0 (zab c1 zae))
theorem zvf (h:(!i.op==10&&(!i.op==11&&(!i.op==12&&(i.op==13&&(i.op==13&&(!regB i.d&&true))))))=true) (c0:Ok 94 [.c (.i i.d)] (.c (.b (regB i.d)))) :
  Ok 51 [.ag i.cs,.c (.i n)] (.c (.b false)) :=
 zaf [false,false,false,true,true,false,false] [] [] Tryz.func51 rfl rfl rfl rfl (by kernel_rfl) h (zab c0 zae)
theorem ztp (h:(!i.op==10&&(!i.op==11&&(!i.op==12&&(!i.op==13&&(i.op==14&&(regB i.d&&(srcB i.s&&true)))))))=true) (c0:Ok 94 [.c (.i i.d)] (.c (.b (regB i.d)))) (c1:Ok 97 [.c (.i i.s)] (.c (.b (srcB i.s)))) (c2:Ok 96 [.c (.i i.of),.c (.i n)] (.c (.b (zcj i.of n)))) :
  Ok 51 [.ag i.cs,.c (.i n)] (.c (.b (zcj i.of n))) :=
 zaf [false,false,false,false,true,true,true] [] [] Tryz.func51 rfl rfl rfl rfl (by kernel_rfl) h (zab c0 (zab c1 (zab c2 zae)))
theorem zvw (h:(!i.op==10&&(!i.op==11&&(!i.op==12&&(!i.op==13&&(i.op==14&&(regB i.d&&(!srcB i.s&&true)))))))=true) (c0:Ok 94 [.c (.i i.d)] (.c (.b (regB i.d)))) (c1:Ok 97 [.c (.i i.s)] (.c (.b (srcB i.s)))) :
  Ok 51 [.ag i.cs,.c (.i n)] (.c (.b false)) :=
 zaf [false,false,false,false,true,true,false] [] [] Tryz.func51 rfl rfl rfl rfl (by kernel_rfl) h (zab c0 (zab c1 zae))
theorem zus (h:(!i.op==10&&(!i.op==11&&(!i.op==12&&(!i.op==13&&(i.op==14&&(!regB i.d&&true))))))=true) (c0:Ok 94 [.c (.i i.d)] (.c (.b (regB i.d)))) :
  Ok 51 [.ag i.cs,.c (.i n)] (.c (.b false)) :=
 zaf [false,false,false,false,true,false,false] [] [] Tryz.func51 rfl rfl rfl rfl (by kernel_rfl) h (zab c0 zae)
theorem zts (h:(!i.op==10&&(!i.op==11&&(!i.op==12&&(!i.op==13&&(!i.op==14&&(i.op==15&&true))))))=true) :
  Ok 51 [.ag i.cs,.c (.i n)] (.c (.b true)) :=
 zaf [false,false,false,false,false,true] [] [] Tryz.func51 rfl rfl rfl rfl (by kernel_rfl) h zae
theorem ztg (h:(!i.op==10&&(!i.op==11&&(!i.op==12&&(!i.op==13&&(!i.op==14&&(!i.op==15&&(regB i.d&&true)))))))=true) (c0:Ok 94 [.c (.i i.d)] (.c (.b (regB i.d)))) (c1:Ok 97 [.c (.i i.s)] (.c (.b (srcB i.s)))) :
  Ok 51 [.ag i.cs,.c (.i n)] (.c (.b (srcB i.s))) :=
 zaf [false,false,false,false,false,false,true] [] [] Tryz.func51 rfl rfl rfl rfl (by kernel_rfl) h (zab c0 (zab c1 zae))
theorem zv1 (h:(!i.op==10&&(!i.op==11&&(!i.op==12&&(!i.op==13&&(!i.op==14&&(!i.op==15&&(!regB i.d&&true)))))))=true) (c0:Ok 94 [.c (.i i.d)] (.c (.b (regB i.d)))) :
  Ok 51 [.ag i.cs,.c (.i n)] (.c (.b false)) :=
 zaf [false,false,false,false,false,false,false] [] [] Tryz.func51 rfl rfl rfl rfl (by kernel_rfl) h (zab c0 zae)
theorem zu5
  (l0:(i.op==10)=true→(regB i.d)=true→(regB i.s)=true→(zc0 i.im)=true→(decide (-64≤i.of))=true→(Ok 94 [.c (.i i.d)] (.c (.b (regB i.d))))∧(Ok 94 [.c (.i i.s)] (.c (.b (regB i.s))))∧(Ok 95 [.c (.u i.im)] (.c (.b (zc0 i.im))))∧(AV.c (.b (decide (i.of≤64)))=V))
  (l1:(i.op==10)=true→(regB i.d)=true→(regB i.s)=true→(zc0 i.im)=true→(decide (-64≤i.of))=false→(Ok 94 [.c (.i i.d)] (.c (.b (regB i.d))))∧(Ok 94 [.c (.i i.s)] (.c (.b (regB i.s))))∧(Ok 95 [.c (.u i.im)] (.c (.b (zc0 i.im))))∧(AV.c (.b false)=V))
  (l2:(i.op==10)=true→(regB i.d)=true→(regB i.s)=true→(zc0 i.im)=false→(Ok 94 [.c (.i i.d)] (.c (.b (regB i.d))))∧(Ok 94 [.c (.i i.s)] (.c (.b (regB i.s))))∧(Ok 95 [.c (.u i.im)] (.c (.b (zc0 i.im))))∧(AV.c (.b false)=V))
  (l3:(i.op==10)=true→(regB i.d)=true→(regB i.s)=false→(Ok 94 [.c (.i i.d)] (.c (.b (regB i.d))))∧(Ok 94 [.c (.i i.s)] (.c (.b (regB i.s))))∧(AV.c (.b false)=V))
  (l4:(i.op==10)=true→(regB i.d)=false→(Ok 94 [.c (.i i.d)] (.c (.b (regB i.d))))∧(AV.c (.b false)=V))
  (l5:(i.op==10)=false→(i.op==11)=true→(regB i.d)=true→(regB i.s)=true→(zc0 i.im)=true→(decide (-64≤i.of))=true→(Ok 94 [.c (.i i.d)] (.c (.b (regB i.d))))∧(Ok 94 [.c (.i i.s)] (.c (.b (regB i.s))))∧(Ok 95 [.c (.u i.im)] (.c (.b (zc0 i.im))))∧(AV.c (.b (decide (i.of≤64)))=V))
  (l6:(i.op==10)=false→(i.op==11)=true→(regB i.d)=true→(regB i.s)=true→(zc0 i.im)=true→(decide (-64≤i.of))=false→(Ok 94 [.c (.i i.d)] (.c (.b (regB i.d))))∧(Ok 94 [.c (.i i.s)] (.c (.b (regB i.s))))∧(Ok 95 [.c (.u i.im)] (.c (.b (zc0 i.im))))∧(AV.c (.b false)=V))
  (l7:(i.op==10)=false→(i.op==11)=true→(regB i.d)=true→(regB i.s)=true→(zc0 i.im)=false→(Ok 94 [.c (.i i.d)] (.c (.b (regB i.d))))∧(Ok 94 [.c (.i i.s)] (.c (.b (regB i.s))))∧(Ok 95 [.c (.u i.im)] (.c (.b (zc0 i.im))))∧(AV.c (.b false)=V))
  (l8:(i.op==10)=false→(i.op==11)=true→(regB i.d)=true→(regB i.s)=false→(Ok 94 [.c (.i i.d)] (.c (.b (regB i.d))))∧(Ok 94 [.c (.i i.s)] (.c (.b (regB i.s))))∧(AV.c (.b false)=V))
  (l9:(i.op==10)=false→(i.op==11)=true→(regB i.d)=false→(Ok 94 [.c (.i i.d)] (.c (.b (regB i.d))))∧(AV.c (.b false)=V))
  (l10:(i.op==10)=false→(i.op==11)=false→(i.op==12)=true→(Ok 96 [.c (.i i.of),.c (.i n)] (.c (.b (zcj i.of n))))∧(AV.c (.b (zcj i.of n))=V))
  (l11:(i.op==10)=false→(i.op==11)=false→(i.op==12)=false→(i.op==13)=true→(regB i.d)=true→(srcB i.s)=true→(Ok 94 [.c (.i i.d)] (.c (.b (regB i.d))))∧(Ok 97 [.c (.i i.s)] (.c (.b (srcB i.s))))∧(Ok 96 [.c (.i i.of),.c (.i n)] (.c (.b (zcj i.of n))))∧(AV.c (.b (zcj i.of n))=V))
  (l12:(i.op==10)=false→(i.op==11)=false→(i.op==12)=false→(i.op==13)=true→(regB i.d)=true→(srcB i.s)=false→(Ok 94 [.c (.i i.d)] (.c (.b (regB i.d))))∧(Ok 97 [.c (.i i.s)] (.c (.b (srcB i.s))))∧(AV.c (.b false)=V))
  (l13:(i.op==10)=false→(i.op==11)=false→(i.op==12)=false→(i.op==13)=true→(regB i.d)=false→(Ok 94 [.c (.i i.d)] (.c (.b (regB i.d))))∧(AV.c (.b false)=V))
  (l14:(i.op==10)=false→(i.op==11)=false→(i.op==12)=false→(i.op==13)=false→(i.op==14)=true→(regB i.d)=true→(srcB i.s)=true→(Ok 94 [.c (.i i.d)] (.c (.b (regB i.d))))∧(Ok 97 [.c (.i i.s)] (.c (.b (srcB i.s))))∧(Ok 96 [.c (.i i.of),.c (.i n)] (.c (.b (zcj i.of n))))∧(AV.c (.b (zcj i.of n))=V))
  (l15:(i.op==10)=false→(i.op==11)=false→(i.op==12)=false→(i.op==13)=false→(i.op==14)=true→(regB i.d)=true→(srcB i.s)=false→(Ok 94 [.c (.i i.d)] (.c (.b (regB i.d))))∧(Ok 97 [.c (.i i.s)] (.c (.b (srcB i.s))))∧(AV.c (.b false)=V))
  (l16:(i.op==10)=false→(i.op==11)=false→(i.op==12)=false→(i.op==13)=false→(i.op==14)=true→(regB i.d)=false→(Ok 94 [.c (.i i.d)] (.c (.b (regB i.d))))∧(AV.c (.b false)=V))
  (l17:(i.op==10)=false→(i.op==11)=false→(i.op==12)=false→(i.op==13)=false→(i.op==14)=false→(i.op==15)=true→(AV.c (.b true)=V))
  (l18:(i.op==10)=false→(i.op==11)=false→(i.op==12)=false→(i.op==13)=false→(i.op==14)=false→(i.op==15)=false→(regB i.d)=true→(Ok 94 [.c (.i i.d)] (.c (.b (regB i.d))))∧(Ok 97 [.c (.i i.s)] (.c (.b (srcB i.s))))∧(AV.c (.b (srcB i.s))=V))
  (l19:(i.op==10)=false→(i.op==11)=false→(i.op==12)=false→(i.op==13)=false→(i.op==14)=false→(i.op==15)=false→(regB i.d)=false→(Ok 94 [.c (.i i.d)] (.c (.b (regB i.d))))∧(AV.c (.b false)=V)) :
  Ok 51 [.ag i.cs,.c (.i n)] V :=
 (tf (i.op==10)).elim (fun h0=>(tf (regB i.d)).elim (fun h1=>(tf (regB i.s)).elim (fun h2=>(tf (zc0 i.im)).elim (fun h3=>(tf (decide (-64≤i.of))).elim (fun h4=>(match l0 h0 h1 h2 h3 h4 with | ⟨c0,c1,c2,e⟩=>zam (zxr (zaa h0 (zaa h0 (zaa h1 (zaa h2 (zaa h3 (zaa h4 rfl)))))) c0 c1 c2) e)) (fun h4=>(match l1 h0 h1 h2 h3 h4 with | ⟨c0,c1,c2,e⟩=>zam (zwy (zaa h0 (zaa h0 (zaa h1 (zaa h2 (zaa h3 (zaa (zad h4) rfl)))))) c0 c1 c2) e))) (fun h3=>(match l2 h0 h1 h2 h3 with | ⟨c0,c1,c2,e⟩=>zam (zw2 (zaa h0 (zaa h0 (zaa h1 (zaa h2 (zaa (zad h3) rfl))))) c0 c1 c2) e))) (fun h2=>(match l3 h0 h1 h2 with | ⟨c0,c1,e⟩=>zam (zyy (zaa h0 (zaa h0 (zaa h1 (zaa (zad h2) rfl)))) c0 c1) e))) (fun h1=>(match l4 h0 h1 with | ⟨c0,e⟩=>zam (zxv (zaa h0 (zaa h0 (zaa (zad h1) rfl))) c0) e))) (fun h0=>(tf (i.op==11)).elim (fun h1=>(tf (regB i.d)).elim (fun h2=>(tf (regB i.s)).elim (fun h3=>(tf (zc0 i.im)).elim (fun h4=>(tf (decide (-64≤i.of))).elim (fun h5=>(match l5 h0 h1 h2 h3 h4 h5 with | ⟨c0,c1,c2,e⟩=>zam (zxw (zaa (zad h0) (zaa h1 (zaa h2 (zaa h3 (zaa h4 (zaa h5 rfl)))))) c0 c1 c2) e)) (fun h5=>(match l6 h0 h1 h2 h3 h4 h5 with | ⟨c0,c1,c2,e⟩=>zam (zwo (zaa (zad h0) (zaa h1 (zaa h2 (zaa h3 (zaa h4 (zaa (zad h5) rfl)))))) c0 c1 c2) e))) (fun h4=>(match l7 h0 h1 h2 h3 h4 with | ⟨c0,c1,c2,e⟩=>zam (zxb (zaa (zad h0) (zaa h1 (zaa h2 (zaa h3 (zaa (zad h4) rfl))))) c0 c1 c2) e))) (fun h3=>(match l8 h0 h1 h2 h3 with | ⟨c0,c1,e⟩=>zam (zw5 (zaa (zad h0) (zaa h1 (zaa h2 (zaa (zad h3) rfl)))) c0 c1) e))) (fun h2=>(match l9 h0 h1 h2 with | ⟨c0,e⟩=>zam (zza (zaa (zad h0) (zaa h1 (zaa (zad h2) rfl))) c0) e))) (fun h1=>(tf (i.op==12)).elim (fun h2=>(match l10 h0 h1 h2 with | ⟨c0,e⟩=>zam (zvc (zaa (zad h0) (zaa (zad h1) (zaa h2 rfl))) c0) e)) (fun h2=>(tf (i.op==13)).elim (fun h3=>(tf (regB i.d)).elim (fun h4=>(tf (srcB i.s)).elim (fun h5=>(match l11 h0 h1 h2 h3 h4 h5 with | ⟨c0,c1,c2,e⟩=>zam (zvy (zaa (zad h0) (zaa (zad h1) (zaa (zad h2) (zaa h3 (zaa h3 (zaa h4 (zaa h5 rfl))))))) c0 c1 c2) e)) (fun h5=>(match l12 h0 h1 h2 h3 h4 h5 with | ⟨c0,c1,e⟩=>zam (zv3 (zaa (zad h0) (zaa (zad h1) (zaa (zad h2) (zaa h3 (zaa h3 (zaa h4 (zaa (zad h5) rfl))))))) c0 c1) e))) (fun h4=>(match l13 h0 h1 h2 h3 h4 with | ⟨c0,e⟩=>zam (zvf (zaa (zad h0) (zaa (zad h1) (zaa (zad h2) (zaa h3 (zaa h3 (zaa (zad h4) rfl)))))) c0) e))) (fun h3=>(tf (i.op==14)).elim (fun h4=>(tf (regB i.d)).elim (fun h5=>(tf (srcB i.s)).elim (fun h6=>(match l14 h0 h1 h2 h3 h4 h5 h6 with | ⟨c0,c1,c2,e⟩=>zam (ztp (zaa (zad h0) (zaa (zad h1) (zaa (zad h2) (zaa (zad h3) (zaa h4 (zaa h5 (zaa h6 rfl))))))) c0 c1 c2) e)) (fun h6=>(match l15 h0 h1 h2 h3 h4 h5 h6 with | ⟨c0,c1,e⟩=>zam (zvw (zaa (zad h0) (zaa (zad h1) (zaa (zad h2) (zaa (zad h3) (zaa h4 (zaa h5 (zaa (zad h6) rfl))))))) c0 c1) e))) (fun h5=>(match l16 h0 h1 h2 h3 h4 h5 with | ⟨c0,e⟩=>zam (zus (zaa (zad h0) (zaa (zad h1) (zaa (zad h2) (zaa (zad h3) (zaa h4 (zaa (zad h5) rfl)))))) c0) e))) (fun h4=>(tf (i.op==15)).elim (fun h5=>(match l17 h0 h1 h2 h3 h4 h5 with | e=>zam (zts (zaa (zad h0) (zaa (zad h1) (zaa (zad h2) (zaa (zad h3) (zaa (zad h4) (zaa h5 rfl))))))) e)) (fun h5=>(tf (regB i.d)).elim (fun h6=>(match l18 h0 h1 h2 h3 h4 h5 h6 with | ⟨c0,c1,e⟩=>zam (ztg (zaa (zad h0) (zaa (zad h1) (zaa (zad h2) (zaa (zad h3) (zaa (zad h4) (zaa (zad h5) (zaa h6 rfl))))))) c0 c1) e)) (fun h6=>(match l19 h0 h1 h2 h3 h4 h5 h6 with | ⟨c0,e⟩=>zam (zv1 (zaa (zad h0) (zaa (zad h1) (zaa (zad h2) (zaa (zad h3) (zaa (zad h4) (zaa (zad h5) (zaa (zad h6) rfl))))))) c0) e))))))))
theorem yat4 (h:(i.op==10&&(i.op==10&&true))=true) :
  Ok 52 [.ag i.cs] (.c (.b true)) :=
 zaf [true,true] [] [] Tryz.func52 rfl rfl rfl rfl (by kernel_rfl) h zae
theorem yarx (h:(!i.op==10&&(i.op==11&&true))=true) :
  Ok 52 [.ag i.cs] (.c (.b true)) :=
 zaf [false,true] [] [] Tryz.func52 rfl rfl rfl rfl (by kernel_rfl) h zae
theorem yarh (h:(!i.op==10&&(!i.op==11&&(i.op==12&&true)))=true) :
  Ok 52 [.ag i.cs] (.c (.b (eqCs i.cs (splice (splice [.i 0,.i 0,.i 0,.u 0#64,.i 0] 0 [.i 12]) 4 [.i i.of])))) :=
 zaf [false,false,true] [] [] Tryz.func52 rfl rfl rfl rfl (by kernel_rfl) h zae
theorem yasp (h:(!i.op==10&&(!i.op==11&&(!i.op==12&&(i.op==13&&(i.op==13&&(i.s==-1&&true))))))=true) :
  Ok 52 [.ag i.cs] (.c (.b true)) :=
 zaf [false,false,false,true,true,true] [] [] Tryz.func52 rfl rfl rfl rfl (by kernel_rfl) h zae
theorem yarn (h:(!i.op==10&&(!i.op==11&&(!i.op==12&&(i.op==13&&(i.op==13&&(!i.s==-1&&true))))))=true) :
  Ok 52 [.ag i.cs] (.c (.b (eqb i.im 0#64))) :=
 zaf [false,false,false,true,true,false] [] [] Tryz.func52 rfl rfl rfl rfl (by kernel_rfl) h zae
theorem yaue (h:(!i.op==10&&(!i.op==11&&(!i.op==12&&(!i.op==13&&(i.op==14&&(i.s==-1&&true))))))=true) :
  Ok 52 [.ag i.cs] (.c (.b true)) :=
 zaf [false,false,false,false,true,true] [] [] Tryz.func52 rfl rfl rfl rfl (by kernel_rfl) h zae
theorem yave (h:(!i.op==10&&(!i.op==11&&(!i.op==12&&(!i.op==13&&(i.op==14&&(!i.s==-1&&true))))))=true) :
  Ok 52 [.ag i.cs] (.c (.b (eqb i.im 0#64))) :=
 zaf [false,false,false,false,true,false] [] [] Tryz.func52 rfl rfl rfl rfl (by kernel_rfl) h zae
theorem yaut (h:(!i.op==10&&(!i.op==11&&(!i.op==12&&(!i.op==13&&(!i.op==14&&(i.op==15&&true))))))=true) :
  Ok 52 [.ag i.cs] (.c (.b (eqCs i.cs (splice [.i 0,.i 0,.i 0,.u 0#64,.i 0] 0 [.i 15])))) :=
 zaf [false,false,false,false,false,true] [] [] Tryz.func52 rfl rfl rfl rfl (by kernel_rfl) h zae
theorem yas5 (h:(!i.op==10&&(!i.op==11&&(!i.op==12&&(!i.op==13&&(!i.op==14&&(!i.op==15&&(i.of==0&&(i.s==-1&&true))))))))=true) :
  Ok 52 [.ag i.cs] (.c (.b true)) :=
 zaf [false,false,false,false,false,false,true,true] [] [] Tryz.func52 rfl rfl rfl rfl (by kernel_rfl) h zae
theorem yas7 (h:(!i.op==10&&(!i.op==11&&(!i.op==12&&(!i.op==13&&(!i.op==14&&(!i.op==15&&(i.of==0&&(!i.s==-1&&true))))))))=true) :
  Ok 52 [.ag i.cs] (.c (.b (eqb i.im 0#64))) :=
 zaf [false,false,false,false,false,false,true,false] [] [] Tryz.func52 rfl rfl rfl rfl (by kernel_rfl) h zae
theorem yao2 (h:(!i.op==10&&(!i.op==11&&(!i.op==12&&(!i.op==13&&(!i.op==14&&(!i.op==15&&(!i.of==0&&true)))))))=true) :
  Ok 52 [.ag i.cs] (.c (.b false)) :=
 zaf [false,false,false,false,false,false,false] [] [] Tryz.func52 rfl rfl rfl rfl (by kernel_rfl) h zae
theorem yamz
  (l0:(i.op==10)=true→(AV.c (.b true)=V))
  (l1:(i.op==10)=false→(i.op==11)=true→(AV.c (.b true)=V))
  (l2:(i.op==10)=false→(i.op==11)=false→(i.op==12)=true→(AV.c (.b (eqCs i.cs (splice (splice [.i 0,.i 0,.i 0,.u 0#64,.i 0] 0 [.i 12]) 4 [.i i.of])))=V))
  (l3:(i.op==10)=false→(i.op==11)=false→(i.op==12)=false→(i.op==13)=true→(i.s==-1)=true→(AV.c (.b true)=V))
  (l4:(i.op==10)=false→(i.op==11)=false→(i.op==12)=false→(i.op==13)=true→(i.s==-1)=false→(AV.c (.b (eqb i.im 0#64))=V))
  (l5:(i.op==10)=false→(i.op==11)=false→(i.op==12)=false→(i.op==13)=false→(i.op==14)=true→(i.s==-1)=true→(AV.c (.b true)=V))
  (l6:(i.op==10)=false→(i.op==11)=false→(i.op==12)=false→(i.op==13)=false→(i.op==14)=true→(i.s==-1)=false→(AV.c (.b (eqb i.im 0#64))=V))
  (l7:(i.op==10)=false→(i.op==11)=false→(i.op==12)=false→(i.op==13)=false→(i.op==14)=false→(i.op==15)=true→(AV.c (.b (eqCs i.cs (splice [.i 0,.i 0,.i 0,.u 0#64,.i 0] 0 [.i 15])))=V))
  (l8:(i.op==10)=false→(i.op==11)=false→(i.op==12)=false→(i.op==13)=false→(i.op==14)=false→(i.op==15)=false→(i.of==0)=true→(i.s==-1)=true→(AV.c (.b true)=V))
  (l9:(i.op==10)=false→(i.op==11)=false→(i.op==12)=false→(i.op==13)=false→(i.op==14)=false→(i.op==15)=false→(i.of==0)=true→(i.s==-1)=false→(AV.c (.b (eqb i.im 0#64))=V))
  (l10:(i.op==10)=false→(i.op==11)=false→(i.op==12)=false→(i.op==13)=false→(i.op==14)=false→(i.op==15)=false→(i.of==0)=false→(AV.c (.b false)=V)) :
  Ok 52 [.ag i.cs] V :=
 (tf (i.op==10)).elim (fun h0=>(match l0 h0 with | e=>zam (yat4 (zaa h0 (zaa h0 rfl))) e)) (fun h0=>(tf (i.op==11)).elim (fun h1=>(match l1 h0 h1 with | e=>zam (yarx (zaa (zad h0) (zaa h1 rfl))) e)) (fun h1=>(tf (i.op==12)).elim (fun h2=>(match l2 h0 h1 h2 with | e=>zam (yarh (zaa (zad h0) (zaa (zad h1) (zaa h2 rfl)))) e)) (fun h2=>(tf (i.op==13)).elim (fun h3=>(tf (i.s==-1)).elim (fun h4=>(match l3 h0 h1 h2 h3 h4 with | e=>zam (yasp (zaa (zad h0) (zaa (zad h1) (zaa (zad h2) (zaa h3 (zaa h3 (zaa h4 rfl))))))) e)) (fun h4=>(match l4 h0 h1 h2 h3 h4 with | e=>zam (yarn (zaa (zad h0) (zaa (zad h1) (zaa (zad h2) (zaa h3 (zaa h3 (zaa (zad h4) rfl))))))) e))) (fun h3=>(tf (i.op==14)).elim (fun h4=>(tf (i.s==-1)).elim (fun h5=>(match l5 h0 h1 h2 h3 h4 h5 with | e=>zam (yaue (zaa (zad h0) (zaa (zad h1) (zaa (zad h2) (zaa (zad h3) (zaa h4 (zaa h5 rfl))))))) e)) (fun h5=>(match l6 h0 h1 h2 h3 h4 h5 with | e=>zam (yave (zaa (zad h0) (zaa (zad h1) (zaa (zad h2) (zaa (zad h3) (zaa h4 (zaa (zad h5) rfl))))))) e))) (fun h4=>(tf (i.op==15)).elim (fun h5=>(match l7 h0 h1 h2 h3 h4 h5 with | e=>zam (yaut (zaa (zad h0) (zaa (zad h1) (zaa (zad h2) (zaa (zad h3) (zaa (zad h4) (zaa h5 rfl))))))) e)) (fun h5=>(tf (i.of==0)).elim (fun h6=>(tf (i.s==-1)).elim (fun h7=>(match l8 h0 h1 h2 h3 h4 h5 h6 h7 with | e=>zam (yas5 (zaa (zad h0) (zaa (zad h1) (zaa (zad h2) (zaa (zad h3) (zaa (zad h4) (zaa (zad h5) (zaa h6 (zaa h7 rfl))))))))) e)) (fun h7=>(match l9 h0 h1 h2 h3 h4 h5 h6 h7 with | e=>zam (yas7 (zaa (zad h0) (zaa (zad h1) (zaa (zad h2) (zaa (zad h3) (zaa (zad h4) (zaa (zad h5) (zaa h6 (zaa (zad h7) rfl))))))))) e))) (fun h6=>(match l10 h0 h1 h2 h3 h4 h5 h6 with | e=>zam (yao2 (zaa (zad h0) (zaa (zad h1) (zaa (zad h2) (zaa (zad h3) (zaa (zad h4) (zaa (zad h5) (zaa (zad h6) rfl)))))))) e))))))))
end
theorem yabg (d:Int):Ok 94 [.c (.i d)] (.c (.b (regB d))):=by
 refine yah2 ?_ ?_ <;> (intro h;rw [regB,h];rfl)
theorem zy2 (d:Int):Ok 97 [.c (.i d)] (.c (.b (srcB d))):=by
 refine zwf ?_ ?_
 ·intro h;simp_all [srcB]
 ·intro h;refine ⟨yabg _,?_⟩;simp_all [srcB]
theorem yaip (d:BitVec 64):Ok 95 [.c (.u d)] (.c (.b (zc0 d))):=by
 refine yacy ?_ ?_ ?_ ?_ <;> (intros;simp_all [zc0])
theorem yaiv (d n:Int):Ok 96 [.c (.i d),.c (.i n)] (.c (.b (zcj d n))):=by
 refine yae5 ?_ ?_ <;> (intro h;rw [zcj,h];rfl)
theorem zmq (i:Ins) (n:Int):Ok 51 [.ag i.cs,.c (.i n)] (.c (.b (inB i n))):=by
 apply zu5
 all_goals intros
 all_goals repeat' apply And.intro
 all_goals first
  | exact yabg _
  | exact zy2 _
  | exact yaip _
  | exact yaiv _ _
  | (simp_all [inB];try omega)
theorem yajl (i:Ins):Ok 52 [.ag i.cs] (.c (.b (zbd i))):=by
 apply yamz
 all_goals intros
 all_goals (simp_all [zbd,eqCs,eqC,splice,Ins.cs,Bool.and_assoc];try rfl)
section
variable {m:Mach} {e o r op q j:Int} {x y:BitVec 64} {i:Ins} {V:AV} {t:ByteArray} {C:Cx} {R:Ending→World→Prop} {w:World} {β:Bs} {n:Nat} {E:Eff}
theorem yafo (h:(i.op==12&&true)=true) :
  Ok 99 [.ag i.cs] (.ag [.b false,.b false,.b false,.b false,.b false,.b false]) :=
 zaf [true] [] [] Tryz.func99 rfl rfl rfl rfl (by kernel_rfl) h zae
theorem yaeo (h:(!i.op==12&&(i.op==15&&true))=true) :
  Ok 99 [.ag i.cs] (.ag [.b true,.b false,.b false,.b false,.b false,.b false]) :=
 zaf [false,true] [] [] Tryz.func99 rfl rfl rfl rfl (by kernel_rfl) h zae
theorem yakc (h:(!i.op==12&&(!i.op==15&&(i.op==1&&(i.op==1&&(i.s != -1&&(decide (0≤i.s)&&decide (i.s<6)&&(Nat.ble ((i.s).toNat*1+1) 6&&true&&true)))))))=true) (c0:we 2 ((bcs no6).set ((i.s).toNat*1) (.b true))=we 2 (bcs (no6.set (i.s).toNat true))) :
  Ok 99 [.ag i.cs] (.ag (bcs (no6.set (i.s).toNat true))) :=
 zaf [false,false,true,true,true] [] [(12,3)] Tryz.func99 rfl rfl rfl rfl (by kernel_rfl) h (zac c0 zae)
theorem yalb (h:(!i.op==12&&(!i.op==15&&(i.op==1&&(i.op==1&&(!i.s != -1&&true)))))=true) :
  Ok 99 [.ag i.cs] (.ag [.b false,.b false,.b false,.b false,.b false,.b false]) :=
 zaf [false,false,true,true,false] [] [(12,3)] Tryz.func99 rfl rfl rfl rfl (by kernel_rfl) h zae
theorem yakp (h:(!i.op==12&&(!i.op==15&&(!i.op==1&&(i.op==10&&(i.s != -1&&(decide (0≤i.s)&&decide (i.s<6)&&(Nat.ble ((i.s).toNat*1+1) 6&&true&&true)))))))=true) (c0:we 2 ((bcs no6).set ((i.s).toNat*1) (.b true))=we 2 (bcs (no6.set (i.s).toNat true))) :
  Ok 99 [.ag i.cs] (.ag (bcs (no6.set (i.s).toNat true))) :=
 zaf [false,false,false,true,true] [] [(12,3)] Tryz.func99 rfl rfl rfl rfl (by kernel_rfl) h (zac c0 zae)
theorem yagz (h:(!i.op==12&&(!i.op==15&&(!i.op==1&&(i.op==10&&(!i.s != -1&&true)))))=true) :
  Ok 99 [.ag i.cs] (.ag [.b false,.b false,.b false,.b false,.b false,.b false]) :=
 zaf [false,false,false,true,false] [] [(12,3)] Tryz.func99 rfl rfl rfl rfl (by kernel_rfl) h zae
theorem yai9 (h:(!i.op==12&&(!i.op==15&&(!i.op==1&&(!i.op==10&&(decide (0≤i.d)&&decide (i.d<6)&&(Nat.ble ((i.d).toNat*1+1) 6&&true&&(i.s != -1&&(decide (0≤i.s)&&decide (i.s<6)&&(Nat.ble ((i.s).toNat*1+1) (bcs (no6.set (i.d).toNat true)).length&&true&&true)))))))))=true) (c0:we 2 ((bcs no6).set ((i.d).toNat*1) (.b true))=we 2 (bcs (no6.set (i.d).toNat true))) (c1:we 2 ((bcs (no6.set (i.d).toNat true)).set ((i.s).toNat*1) (.b true))=we 2 (bcs ((no6.set (i.d).toNat true).set (i.s).toNat true))) :
  Ok 99 [.ag i.cs] (.ag (bcs ((no6.set (i.d).toNat true).set (i.s).toNat true))) :=
 zaf [false,false,false,false,true] [] [(3,3),(12,3)] Tryz.func99 rfl rfl rfl rfl (by kernel_rfl) h (zac c0 (zac c1 zae))
theorem yahn (h:(!i.op==12&&(!i.op==15&&(!i.op==1&&(!i.op==10&&(decide (0≤i.d)&&decide (i.d<6)&&(Nat.ble ((i.d).toNat*1+1) 6&&true&&(!i.s != -1&&true)))))))=true) (c0:we 2 ((bcs no6).set ((i.d).toNat*1) (.b true))=we 2 (bcs (no6.set (i.d).toNat true))) :
  Ok 99 [.ag i.cs] (.ag (bcs (no6.set (i.d).toNat true))) :=
 zaf [false,false,false,false,false] [] [(3,3),(12,3)] Tryz.func99 rfl rfl rfl rfl (by kernel_rfl) h (zac c0 zae)
end
theorem zfj {n:Int} (h0:-1099511627776≤n) (h1:n≤1099511627776):IntKind.i64.wrap n=n:=by
 rw [IntKind.wrap_i64];omega
theorem zno {v:V6 Bool} {r:Int} (h:regB r=true):(bcs v).set (r.toNat*1) (.b true)=bcs (v.set r.toNat true) :=
 zb8 (P:=fun r=>(bcs v).set (r.toNat*1) (.b true)=bcs (v.set r.toNat true)) h rfl rfl rfl rfl rfl rfl
theorem yasl (v:V6 Bool):(bcs v).length=6:=rfl
theorem zuu {i:Ins} (h:i.op=12∨i.op=15∨(regB i.d=true∧srcB i.s=true)):Ok 99 [.ag i.cs] (.ag (bcs (zaw i))):=by
 unfold zaw
 by_cases c1:i.op=12
 ·rw [if_pos c1];exact yafo (by simp [c1])
 by_cases c2:i.op=15
 ·rw [if_neg c1,if_pos c2];exact yaeo (by simp [c2])
 obtain ⟨hd,hs⟩:=(h.resolve_left c1).resolve_left c2
 have d1:=regB_iff.1 hd
 have d2:=zbp hd
 rw [if_neg c1,if_neg c2]
 rcases srcB_iff.1 hs with e | hs
 ·rw [if_pos e]
  by_cases c3:i.op=1
  ·rw [if_pos (Or.inl c3)];exact yalb (by simp [c3,e])
  by_cases c4:i.op=10
  ·rw [if_pos (Or.inr c4)];exact yagz (by simp [c4,e])
  rw [if_neg (by omega)]
  refine yahn ?_ ?_
  ·simp [c1,c2,c3,c4,d1.1,d1.2,e];omega
  ·rw [zno hd]
 ·have s1:=regB_iff.1 hs
  have s2:=zbp hs
  have e:¬ i.s=-1:=by omega
  rw [if_neg e]
  by_cases c3:i.op=1
  ·rw [if_pos (Or.inl c3)]
   refine yakc ?_ ?_
   ·simp [c3,e,s1.1,s1.2];omega
   ·rw [zno hs]
  by_cases c4:i.op=10
  ·rw [if_pos (Or.inr c4)]
   refine yakp ?_ ?_
   ·simp [c4,e,s1.1,s1.2];omega
   ·rw [zno hs]
  rw [if_neg (by omega)]
  refine yai9 ?_ ?_ ?_
  ·simp [c1,c2,c3,c4,d1.1,d1.2,e,s1.1,s1.2,yasl];omega
  ·rw [zno hd]
  ·rw [zno hs]
section
variable {L:List Ins} {c:Nat} {w:World} {β:Bs} {E:Eff}
abbrev ckKn (L:List Ins) (c a b d:Nat) (j:Int):Kn:=⟨[(0,.c (.sl 0 0 L.length c)),(a,.c (.sl 0 0 L.length c)),(b,.c (.i L.length)),(d,.c (.i j))],pH L,1⟩
theorem yaau (hL:L.length≤64):∀ n j:Nat,j+n=L.length→((L.drop j).all zcl=false→⟨.c (.i 4),[],none⟩=E) →
  ((L.drop j).all zcl=true→ART Tryz.prog 19 (cx w β 1 []) Tryz.f19.ntmps (zdm Tryz.f19 1) (ckKn L c 32 33 34 0) (REff w β E)) →
  ART Tryz.prog 19 (cx w β 1 []) Tryz.f19.ntmps (zdm Tryz.f19 0) (ckKn L c 17 18 19 j) (REff w β E)
 | 0,j,h,hy,hz=>by
  refine yas6 (by rw [jn (by omega)];rfl) (zlf rfl) (fun _ h=>h) (hz ?_)
  rw [List.drop_eq_nil_of_le (by omega)];rfl
 | n+1,j,h,hy,hz=>by
  have hj:j<L.length:=by omega
  rw [zhj hj,List.all_cons] at hy hz
  refine yau9 (by omega) (fun a=>⟨jl hj,jl hj,pble hj,zdk hj,hy ?_⟩) (fun a b=>⟨jl hj,jl hj,pble hj,zdk hj,hy ?_⟩) (fun a b=>⟨jl hj,jl hj,pble hj,zdk hj,zlf rfl,?_⟩)
  ·have:zcl (elt L j)=false:=by simp at a;simp [zcl];omega
   rw [this];rfl
  ·have:zcl (elt L j)=false:=by simp at b;simp [zcl];omega
   rw [this];rfl
  ·have:zcl (elt L j)=true:=by simp at a b;simp [zcl];omega
   rw [this] at hy hz
   rw [zhx (by omega)]
   exact yaau hL n (j+1) (by omega) (fun h=>hy h) (fun h=>hz h)
theorem yabm (hL:L.length≤64):∀ n j:Nat,j+n=L.length→(zfk (L.drop j)=false→⟨.c (.i 3),[],none⟩=E) →
  (zfk (L.drop j)=true→ART Tryz.prog 19 (cx w β 1 []) Tryz.f19.ntmps (zdm Tryz.f19 2) (ckKn L c 48 49 50 0) (REff w β E)) →
  ART Tryz.prog 19 (cx w β 1 []) Tryz.f19.ntmps (zdm Tryz.f19 1) (ckKn L c 32 33 34 j) (REff w β E)
 | 0,j,h,hy,hz=>by
  refine yas2 (by rw [jn (by omega)];rfl) (zlf rfl) (fun _ h=>h) (hz ?_)
  rw [List.drop_eq_nil_of_le (by omega)];rfl
 | n+1,j,h,hy,hz=>by
  have hj:j<L.length:=by omega
  have el:((L.drop (j+1)).length:Int)=((L.length - 1 - j:Nat):Int):=by rw [List.length_drop];omega
  rw [zhj hj,zfk,el] at hy hz
  have ew:IntKind.wrap IntKind.i64 (IntKind.wrap IntKind.i64 ((L.length:Int) - 1) - (j:Int))=((L.length - 1 - j:Nat):Int):=by
   rw [zfj (n:=(L.length:Int) - 1) (by omega) (by omega),zfj (by omega) (by omega)];omega
  have c1:Eff.mk (AV.c (AC.i (IntKind.wrap IntKind.i64 (IntKind.wrap IntKind.i64 ((L.length:Int) - 1) - (j:Int))))) [] none=Eff.mk (AV.c (AC.i ((L.length - 1 - j:Nat):Int))) [] none:=by rw [ew]
  refine yara (by omega) (fun a=>⟨jl hj,jl hj,pble hj,zdk hj,c1,zmq _ _,hy ?_⟩) (fun a=>⟨jl hj,jl hj,pble hj,zdk hj,c1,zmq _ _,zlf rfl,?_⟩)
  ·have:inB (elt L j) ((L.length - 1 - j:Nat):Int)=false:=by simpa using a
   rw [this];rfl
  ·have:inB (elt L j) ((L.length - 1 - j:Nat):Int)=true:=by simpa using a
   rw [this] at hy hz
   rw [zhx (by omega)]
   exact yabm hL n (j+1) (by omega) (fun h=>hy h) (fun h=>hz h)
theorem zhr (h0:0<L.length) (hL:L.length≤64):(pcell L)[0+Int.toNat (IntKind.wrap IntKind.i64 ((L.length:Int) - 1))*5+0]?=some (.i (zbz L)):=by
 rw [zfj (by omega) (by omega),show (0+((L.length:Int) - 1).toNat*5+0)=(L.length - 1)*5 by omega]
 have h1:=yabr (L:=L) (k:=L.length - 1) (by omega) (.b false)
 have h2:(L.length - 1)*5<(pcell L).length:=by rw [zau];omega
 rw [List.getD_eq_getElem?_getD,List.getElem?_eq_getElem h2] at h1
 rw [List.getElem?_eq_getElem h2]
 refine congrArg some (h1.trans ?_)
 unfold zbz elt
 rw [List.getLast?_eq_getElem?,List.getD_eq_getElem?_getD,List.getElem?_eq_getElem (by omega)]
 rfl
theorem yaa7 (h0:0<L.length) (hL:L.length≤64):∀ n j:Nat,j+n=L.length→((L.drop j).all zbd=false→⟨.c (.i 1),[],none⟩=E) →
  ((L.drop j).all zbd=true→⟨.c (.i (if zbz L≠15 then 1 else 0)),[],none⟩=E) →
  ART Tryz.prog 19 (cx w β 1 []) Tryz.f19.ntmps (zdm Tryz.f19 2) (ckKn L c 48 49 50 j) (REff w β E)
 | 0,j,h,hy,hz=>by
  have hz:=hz (by rw [List.drop_eq_nil_of_le (by omega)];rfl)
  have o0:(!decide ((j:Int)<(L.length:Int)))=true:=by rw [jn (by omega)];rfl
  have o1:(decide (0≤IntKind.wrap IntKind.i64 ((L.length:Int) - 1))&&decide (IntKind.wrap IntKind.i64 ((L.length:Int) - 1)<(L.length:Int)))=true:=by
   rw [zfj (by omega) (by omega)];simp;omega
  have o2:(AC.isI (Option.getD (pcell L)[0+Int.toNat (IntKind.wrap IntKind.i64 ((L.length:Int) - 1))*5+0]? (AC.b false))&&Nat.blt (0+Int.toNat (IntKind.wrap IntKind.i64 ((L.length:Int) - 1))*5+0) (pcell L).length)=true:=by
   rw [zhr h0 hL,zfj (by omega) (by omega),zau];simp [AC.isI];omega
  have c0:Eff.mk (AV.c (AC.i (AC.asI (Option.getD (pcell L)[0+Int.toNat (IntKind.wrap IntKind.i64 ((L.length:Int) - 1))*5+0]? (AC.b false))))) [] none=Eff.mk (AV.c (AC.i (zbz L))) [] none:=by rw [zhr h0 hL];rfl
  refine yapc (fun a=>⟨o0,o1,o2,c0,?_⟩) (fun a=>⟨o0,o1,o2,c0,?_⟩)
  ·rw [← hz,if_pos (by simpa using a)]
  ·rw [← hz,if_neg (by simpa using a)]
 | n+1,j,h,hy,hz=>by
  have hj:j<L.length:=by omega
  rw [zhj hj,List.all_cons] at hy hz
  refine yata (by omega) (fun a=>⟨jl hj,jl hj,pble hj,zdk hj,yajl _,hy ?_⟩) (fun a=>⟨jl hj,jl hj,pble hj,zdk hj,yajl _,zlf rfl,?_⟩)
  ·have:zbd (elt L j)=false:=by simpa using a
   rw [this];rfl
  ·have:zbd (elt L j)=true:=by simpa using a
   rw [this] at hy hz
   rw [zhx (by omega)]
   exact yaa7 h0 hL n (j+1) (by omega) (fun h=>hy h) (fun h=>hz h)
end
theorem zjk (L:List Ins) (c:Nat):CallOK Tryz.prog ⟨19,[.c (.sl 0 0 L.length c)],pH L,⟨.c (.i (zan L)),[],none⟩⟩:=by
 refine zgr Tryz.func19 rfl rfl (zqn rfl) rfl ro_p fun w β=>?_
 refine yajz (Nat.le_refl 1) (fun a=>?_) (fun a b=>?_) (fun a b=>⟨zlf rfl,?_⟩)
 ·unfold zan
  rw [if_pos (Or.inl (by simpa using a))]
 ·unfold zan
  rw [if_pos (Or.inr (by simp at b;omega))]
 ·have h0:0<L.length:=by
   have:¬ ((L.length:Int)=0):=by simpa using a
   omega
  have h1:L.length≤64:=by simp at b;omega
  unfold zan
  rw [if_neg (by omega)]
  refine yaau h1 L.length 0 (by omega) (fun h=>?_) (fun h=>?_)
  ·rw [if_pos (by simpa using h)]
  ·rw [if_neg (by simpa using h)]
   refine yabm h1 L.length 0 (by omega) (fun h=>?_) (fun h=>?_)
   ·rw [if_pos (by simpa using h)]
   ·rw [if_neg (by simpa using h)]
    refine yaa7 h0 h1 L.length 0 (by omega) (fun h=>?_) (fun h=>?_)
    ·rw [if_pos (by simpa using h)]
    ·have e:¬ (L.all zbd=false):=by simpa using h
     rw [if_neg e]
end Go.Proofs.YtkigmocchaikgabGreatDoor
namespace Go.Proofs.YtkigmocchaikgabGreatDoor
open Go.Shelf Go.RowKit Go.Sort Go.Lib
def zeg (i:Ins) (ps:List Int):List UInt8:=ps.flatMap fun p=>32::za7 i p
def zgj (i:Ins):List UInt8:=nmL (i.op - 1).toNat++zeg i (plcs i.op)++[10]
def shown (L:List Ins):List UInt8:=L.flatMap zgj
structure Fld (i:Ins):Prop where
 o1:1≤i.op
 o2:i.op≤15
 d:-64≤i.d∧i.d≤64
 s:-64≤i.s∧i.s≤64
 f:-64≤i.of∧i.of≤64
theorem zl1 {P:Program} {f:FuncId} {A:Array Value} {args:List AV} {L:List Ins} {W:World} {b o c:Nat} {v:AV} {V:Value} (hP:PAt W b o L) (hA:(args.map (AV.g (fun _=>(b,o,c)))).toArray=A) (hV:∀ β,v.g β=V) (h:CallOK P ⟨f,args,pH L,⟨v,[],none⟩⟩) (hw:Gw W) :
  Calls P f A W fun e w'=>e=.returned V∧Below W.heap.size W w':=by
 have:=h.call (fun _=>(b,o,c)) W hw (fun k e he hw=>by rw [ro_p k e he] at hw;cases hw) (fun k e he=>?_) (fun k e _ _ he _ _ hw=>?_)
 ·rw [← hA]
  refine this.mono fun e w' ⟨β',he,hu⟩=>⟨by rw [he,← hV β'],?_⟩
  exact ⟨hu.frame.os,hu.frame.tape,hu.frame.output,hu.frame.size,fun k hk=>hu.frame.block k hk fun ⟨_,_,hm,_⟩=>by cases hm⟩
 ·obtain ⟨rfl,rfl⟩:=zr3 he
  exact ⟨hP.1,fun j c hj=>hP.2 j c hj _,(fun h=>by cases h),fun h=>absurd rfl h⟩
 ·rw [ro_p k e he] at hw;cases hw
theorem yasb (w:World):Bld w.heap.size w.heap.size [] (w.alloc (.cells #[.pointer none,.slice none 0 0] TB (0,0))) :=
 Or.inl ⟨Nat.le_refl _,.slice none 0 0,zbs _ _,⟨rfl,.inl ⟨rfl,rfl⟩⟩,by simp [Value.ownBlock]⟩
theorem zop {w w':World} (h:Below w.heap.size w w'):w.grownBy w' none:=⟨h.os,h.tape,h.output,h.size,fun k hk _=>h.block k hk⟩
theorem yabx {b:Nat} {p:Value} {l:List Value} {w w':World} {B:Nat} (h:BuilderAtF TB T8 B b p l w) (hb:Below w.heap.size w w'):BuilderAtF TB T8 B b p l w':=by
 have hlt:=h.lt
 obtain ⟨hB,v,hk,hown,hne⟩:=h
 exact ⟨hB,v,(hb.block b hlt).trans hk,hown.kept (zop hb) (by cases hv:v.ownBlock <;> simp),hne⟩
theorem zu4 {b:Nat} {l:List UInt8} {w w':World} {B:Nat} (h:Bld B b l w) (hb:Below w.heap.size w w'):Bld B b l w' :=
 h.imp (fun h=>yabx h hb) fun h=>yabx h hb
abbrev T36:TypeId:=84
structure Sh (B bn:Nat) (A:Array Value) (w1:World) (l:List UInt8) (w:World):Prop where
 bld:Bld B B l w
 nm:w.heap[bn]?=some (.cells A T36 (0,0))
 bel:Below B w1 w
 ne:bn≠B
 le:B≤w.heap.size
theorem Sh.below {B bn:Nat} {A:Array Value} {w1 w w':World} {l:List UInt8} (h:Sh B bn A w1 l w) (hb:Below w.heap.size w w'):Sh B bn A w1 l w' :=
 ⟨zu4 h.bld hb,(hb.block bn (Array.getElem?_eq_some_iff.1 h.nm).1).trans h.nm,h.bel.trans (hb.mono h.le),h.ne,Nat.le_trans h.le hb.size⟩
theorem Sh.lt {B bn:Nat} {A:Array Value} {w1 w:World} {l:List UInt8} (h:Sh B bn A w1 l w):B<w.heap.size:=by
 rcases h.bld with h | h <;> exact h.lt
theorem yaid (k:Nat):(nmL k).length≤5:=by
 by_cases h:k<15
 ·have:∀ k,k<15→(nmL k).length≤5:=by decide
  exact this k h
 ·have:nmL k=[]:=by unfold nmL;rw [List.getD_eq_getElem?_getD,List.getElem?_eq_none (by show oNames.length≤k;have:oNames.length=15:=rfl;omega)];rfl
  rw [this];simp
theorem Sh.wrote {B bn:Nat} {A:Array Value} {w1 w w':World} {l l':List UInt8} (h:Sh B bn A w1 l w) (h1:Bld B B l' w') (h2:Below B w w') (h3:Aside B w w'):Sh B bn A w1 l' w' :=
 ⟨h1,h3 _ _ h.nm (by simpa using h.ne) (fun _ _ e=>by cases e),h.bel.trans h2,h.ne,Nat.le_trans h.le h2.size⟩
theorem yak8 {op p:Int} (h:p∈plcs op):plc p:=by
 unfold plcs at h
 repeat' split at h
 all_goals (simp at h;try (unfold plc;omega))
theorem zhs (op:Int):(plcs op).length≤4:=by
 unfold plcs
 repeat' split
 all_goals decide
theorem zsl {i:Ins} (h:Fld i) (p:Int):(za7 i p).length≤22:=by
 have h1:=Lib.itoa_length_le i.d (by have:=h.d;omega) (by have:=h.d;omega)
 have h2:=Lib.itoa_length_le i.s (by have:=h.s;omega) (by have:=h.s;omega)
 have h3:=Lib.itoa_length_le i.of (by have:=h.f;omega) (by have:=h.f;omega)
 have h4:(decDigits i.im.toNat).length≤20:=by rw [decDigits_length];exact nDigits_le20 _ (by have:=i.im.isLt;omega)
 unfold za7
 repeat' split
 all_goals (try simp only [List.length_cons]);omega
theorem zmx {i:Ins} (h:Fld i):∀ ps:List Int,(zeg i ps).length≤23*ps.length
 | []=>by simp [zeg]
 | p::ps=>by
  have h1:=zsl h p
  have h2:=zmx h ps
  have e:(zeg i (p::ps)).length=(za7 i p).length+1+(zeg i ps).length:=by simp [zeg,List.flatMap_cons];omega
  rw [e,List.length_cons];omega
theorem zpx {i:Ins} (h:Fld i):(zgj i).length≤98:=by
 have h1:=yaid (i.op - 1).toNat
 have h2:=zmx h (plcs i.op)
 have h3:=zhs i.op
 simp only [zgj,List.length_append,List.length_cons,List.length_nil];omega
theorem zhe:∀ {L:List Ins},(∀ i∈L,Fld i)→(shown L).length≤98*L.length
 | [],_=>by simp [shown]
 | i::L,h=>by
  have h1:=zpx (h i (by simp))
  have h2:=zhe (L:=L) fun x hx=>h x (by simp [hx])
  have e:(shown (i::L)).length=(zgj i).length+(shown L).length:=by simp [shown,List.flatMap_cons]
  rw [e,List.length_cons];omega
theorem yao4 (ps:List Int) (m:Nat) (h:ps.length≤4):(ps.take m).length≤4:=by rw [List.length_take];omega
theorem yae8 {L:List Ins} {j t:Nat} {i:Ins} (h:L[j]?=some i) (ht:t<5):(pcell L)[j*5+t]?=i.cs[t]?:=by
 have hj:j<L.length:=(List.getElem?_eq_some_iff.1 h).1
 have hl:=zau L
 rw [List.getElem?_eq_getElem (by omega),List.getElem?_eq_getElem (show t<i.cs.length from ht)]
 have h1:=zut hj ht (.b false)
 rw [List.getD_eq_getElem?_getD,List.getElem?_eq_getElem (by omega),List.getD_eq_getElem?_getD (l:=L),h,Option.getD_some,Option.getD_some,List.getD_eq_getElem?_getD,List.getElem?_eq_getElem (show t<i.cs.length from ht)] at h1
 simpa using h1
theorem zmw {α:Type} {l:List α} {n:Nat} {x:α} (h:l[n]?=some x):l.take (n+1)=l.take n++[x]:=by
 rw [List.take_add_one,h];rfl
abbrev icells (i:Ins):Array Value:=#[.int .i64 i.op,.int .i64 i.d,.int .i64 i.s,.int .u64 (nv i.im),.int .i64 i.of]
set_option maxHeartbeats 1000000 in
set_option maxRecDepth 100000 in
theorem zj4 {L:List Ins} {w:World} {b o c:Nat} (hP:PAt w b o L) (hg:Gw w) (hL:L.length≤64) (he:zan L=0) (hF:∀ i∈L,Fld i) :
  Calls Tryz.prog 18 #[.slice (some ⟨b,o,none⟩) L.length c] w fun e w'=>e=.returned (.tuple #[.string ⟨(shown L).toArray⟩,.int .i64 0])∧Below w.heap.size w w':=by
 have hck:=zl1 (c:=c) (A:=#[.slice (some ⟨b,o,none⟩) L.length c]) hP rfl (fun _=>rfl) (zjk L c) hg
 rw [he] at hck
 obtain ⟨A,hA,hA1,hA2⟩:∃ A,A=zgn (fun _=>false)∧A.size=16∧A.all (·.oneCell')=true:=⟨_,rfl,zrk _,by kernel_rfl⟩
 have hnb:∀ w,Calls Tryz.prog 45 #[] w fun e w'=>e=.returned (.agg A)∧Below w.heap.size w w':=fun w=>by rw [hA];exact zwn w
 have hnm:∀ i:Ins,Fld i→A[i.op.toNat]?=some (.string ⟨(nmL (i.op - 1).toNat).toArray⟩):=fun i hi=>by
  rw [hA,yav5 _ _ (by have:=hi.o2;omega)]
  obtain ⟨k,hk⟩:∃ k:Nat,i.op=(k:Int)+1:=⟨(i.op - 1).toNat,by have:=hi.o1;omega⟩
  rw [hk,show ((k:Int)+1).toNat=k+1 by omega,show ((k:Int)+1 - 1).toNat=k by omega]
  rfl
 have HNM:=Lib.hid hnm
 clear hA hnm
 go_enter Tryz.func18,Tryz.ntmps18
 go_wp2_with (first
  | (go_at_call 19;refine hck.mono ?_;rintro e w1 ⟨rfl,hb1⟩)
  | (go_at_call 45;refine (hnb _).mono ?_;rintro e w2 ⟨rfl,hb2⟩)
  | (refine wpList_store_row rfl T36 _ _ rfl w2.heap.size A rfl rfl T36 (Array.replicate 16 (.string ⟨#[]⟩)) (zbs _ _) (by rw [hA1];exact yab4) (by simp [hA1]) hA2 ?_)
  | go_in)
 have hsz:w.heap.size≤w1.heap.size:=hb1.size
 have hB2:Below w1.heap.size w1 w2:=zap hb2
 have hg1:Gw w1:=hg.below hb1 hg.size'
 have h0:Sh w1.heap.size w2.heap.size A w1 [] ((w2.alloc (.cells (Array.replicate 16 (.string ⟨#[]⟩)) T36 (0,0))).setRow w2.heap.size A):=by
  have hlt:w1.heap.size<w2.heap.size:=Nat.lt_of_lt_of_le (by simp) hb2.size
  refine ⟨zu4 (yasb w1) (zfb (hb2.trans ((za2 w2 _).mono hb2.size)) hb2.size A),setRow_heap _ _ _ _ _ _ (zbs _ _),zfb (hB2.trans ((za2 w2 _).mono hB2.size)) hB2.size A,by omega,?_⟩
  simp;omega
 have hcell:∀ wr j i,Below w1.heap.size w1 wr→L[j]?=some i→∀ t v,(icells i)[t]?=some v→wr.cell? ⟨b,o+j*5+t,none⟩=some v:=by
  intro wr j i hbel hi t v ht
  have ht5:t<5:=by
   have:=(Array.getElem?_eq_some_iff.1 ht).1
   simpa using this
  rw [hbel.cell (p:=⟨b,o+j*5+t,none⟩) (Nat.lt_of_lt_of_le hP.1 hsz),hb1.cell (p:=⟨b,o+j*5+t,none⟩) hP.1,Nat.add_assoc]
  obtain ⟨y,hy⟩:∃ y,i.cs[t]?=some y:=⟨_,List.getElem?_eq_getElem (show t<i.cs.length from ht5)⟩
  rw [hP.2 _ y ((yae8 hi ht5).trans hy) (fun _=>(0,0,0))]
  rw [← ht]
  match t,ht5,hy with
  | 0,_,hy=>simp [Ins.cs] at hy;subst hy;rfl
  | 1,_,hy=>simp [Ins.cs] at hy;subst hy;rfl
  | 2,_,hy=>simp [Ins.cs] at hy;subst hy;rfl
  | 3,_,hy=>simp [Ins.cs] at hy;subst hy;rfl
  | 4,_,hy=>simp [Ins.cs] at hy;subst hy;rfl
 have HC:=Lib.hid hcell
 have HP:=Lib.hid hP
 have HF:=Lib.hid hF
 clear hcell hck hP hF
 generalize hB:w1.heap.size=B at *
 generalize hbn:w2.heap.size=bn at *
 go_loopw [19] (fun v wr=>∃ j:Nat,j≤L.length∧v=.int .i64 j∧Sh B bn A w1 (shown (L.take j)) wr) (fun v _=>L.length - (RowKit.intOf v).toNat)
 case atStart=>exact ⟨0,by omega,rfl,h0⟩
 case round =>
  obtain ⟨j,hj,rfl,hsh⟩:=hrel
  by_cases hjl:j<L.length
  ·obtain ⟨wo,rfl⟩:∃ x,x=wr:=⟨_,rfl⟩
   obtain ⟨i,hi⟩:∃ i,L[j]?=some i:=⟨L[j],by simp [hjl]⟩
   have hfi:Fld i:=HF.out i (List.mem_of_getElem? hi)
   have q0:wo.cell? ⟨b,o+j*5,none⟩=some (.int .i64 i.op):=HC.out wo j i hsh.bel hi 0 _ rfl
   have q1:wo.cell? ⟨b,o+j*5+1,none⟩=some (.int .i64 i.d):=HC.out wo j i hsh.bel hi 1 _ rfl
   have q2:wo.cell? ⟨b,o+j*5+2,none⟩=some (.int .i64 i.s):=HC.out wo j i hsh.bel hi 2 _ rfl
   have q3:wo.cell? ⟨b,o+j*5+3,none⟩=some (.int .u64 (nv i.im)):=HC.out wo j i hsh.bel hi 3 _ rfl
   have q4:wo.cell? ⟨b,o+j*5+4,none⟩=some (.int .i64 i.of):=HC.out wo j i hsh.bel hi 4 _ rfl
   have hnml:=cell_of_row wo bn i.op.toNat _ _ _ hsh.nm
   rw [HNM.out i hfi] at hnml
   have hbn2:bn<wo.heap.size:=(Array.getElem?_eq_some_iff.1 hsh.nm).1
   have hb2':b<wo.heap.size:=by have h1:=HP.out.1;have h2:=hsh.lt;omega
   have ho1:=hfi.o1
   have ho2:=hfi.o2
   obtain ⟨op,hop⟩:∃ k:Nat,i.op=(k:Int):=⟨i.op.toNat,by omega⟩
   rw [hop] at q0 ho1 ho2
   rw [hop,Int.toNat_natCast] at hnml
   have hl0:(shown (L.take j)).length≤6400:=by have h1:=zhe (L:=L.take j) (fun x hx=>HF.out x (List.mem_of_mem_take hx));rw [List.length_take] at h1;omega
   have hnl:=yaid (op - 1)
   have hBl:=hsh.lt
   have hsh1:∀ ob,Sh B bn A w1 (shown (L.take j)) (wo.alloc ob):=fun ob=>hsh.below (za2 _ _)
   have HS1:=Lib.hid hsh1
   have HG:=Lib.hid hg1
   clear hsh1 hg1
   go_wp2_with (first
    | (go_at_call 46;refine (zh1 (HS1.out _).bld _ (by simp only [ByteArray.size,List.size_toArray];omega) (HS1.out _).le).mono ?_;rintro e w4 ⟨rfl,hb4,hbl4,ha4⟩;have hsh4:=(HS1.out _).wrote hb4 hbl4 ha4;have hi4:=ha4 _ _ (zbs _ _) (by simp;omega) (fun _ _ e=>by cases e);have c4:=cell_of_row w4 wo.heap.size 0 _ _ _ hi4;have hlt4:=(Array.getElem?_eq_some_iff.1 hi4).1;clear ha4 hb4 hbl4)
    | (go_at_call 47;refine (zf0 _ _).mono ?_;rintro e w5 ⟨a,rfl,hpl,hb5⟩)
    | go_in)
   have hsh5:=hsh4.below hb5
   have hi5:=(hb5.block _ hlt4).trans hi4
   generalize hgg:w4.heap.size=g at *
   generalize hgi:wo.heap.size=gi at *
   clear hi4 c4 hsh4 q0 q1 q2 q3 q4 hnml
   go_loopw [32] (fun v wr=>∃ m:Nat,m≤(plcs (op:Int)).length∧v=.int .i64 m∧Sh B bn A w1 (shown (L.take j)++nmL (op - 1)++zeg i ((plcs (op:Int)).take m)) wr∧PlAt (op:Int) a g wr∧wr.heap[gi]?=some (.cells #[.int .i64 (op:Int),.int .i64 i.d,.int .i64 i.s,.int .u64 (nv i.im),.int .i64 i.of] 55 (0,0))) (fun v _=>(plcs (op:Int)).length - (RowKit.intOf v).toNat)
   case atStart=>exact ⟨0,by omega,rfl,by simpa [zeg] using hsh5,hpl,hi5⟩
   case round =>
    obtain ⟨m,hm,rfl,hshr,hplr,hir⟩:=hrel
    have hl1:(shown (L.take j)++nmL (op - 1)++zeg i ((plcs (op:Int)).take m)).length≤7000:=by have h1:=zmx hfi ((plcs (op:Int)).take m);have h2:=yao4 (plcs (op:Int)) m (zhs _);simp only [List.length_append];omega
    have hp4:=zhs (op:Int)
    by_cases hml:m<(plcs (op:Int)).length
    ·obtain ⟨p,hp⟩:∃ p,(plcs (op:Int))[m]?=some p:=⟨(plcs (op:Int))[m],by simp [hml]⟩
     obtain ⟨rfl,hgr⟩:=hplr (by intro e;rw [e] at hml;simp at hml)
     have hcp:wr.cell? ⟨g,m,none⟩=some (.int .i64 p):=by rw [cell_of_row wr g m _ _ _ hgr];simp [hp]
     have hpp:plc p:=yak8 (List.mem_of_getElem? hp)
     have hwl:=zsl hfi p
     obtain ⟨W,hW⟩:∃ W,W=za7 i p:=⟨_,rfl⟩
     have hwa:∀ w,Gw w→Calls Tryz.prog 49 #[.int .i64 p,.agg #[.int .i64 (op:Int),.int .i64 i.d,.int .i64 i.s,.int .u64 (nv i.im),.int .i64 i.of]] w fun e w'=>e=.returned (.string ⟨W.toArray⟩)∧Below w.heap.size w w':=fun w hw=>by
      rw [hW,← hop];exact zim (fun _=>(0,0,0)) rfl (fun _=>rfl) (yaim hpp (by have:=hfi.d;omega) (by have:=hfi.s;omega) (by have:=hfi.f;omega)) w hw
     rw [← hW] at hwl
     have HW:=Lib.hid hW
     have HM:=Lib.hid hml
     have hgB:∀ w',Below B w1 w'→Gw w':=fun w' h=>HG.out.below h (by have:=HG.out.size';omega)
     have HGB:=Lib.hid hgB
     clear hW hgB
     clear hpl h0 hb5 hi5 hsh5
     go_wp2_with (first
      | (go_at_call 48;refine (zlb hshr.bld 32 (by omega) hshr.le).mono ?_;rintro e w6 ⟨rfl,hb6,hbl6,ha6⟩;have hsh6:=hshr.wrote hb6 hbl6 ha6;have hi6:=ha6 _ _ hir (by simp;omega) (fun _ _ e=>by cases e);have hg6:=ha6 _ _ hgr (by simp;omega) (fun _ _ e=>by cases e);have d0:=cell_of_row w6 gi 0 _ _ _ hi6;have d1:=cell_of_row w6 gi 1 _ _ _ hi6;have d2:=cell_of_row w6 gi 2 _ _ _ hi6;have d3:=cell_of_row w6 gi 3 _ _ _ hi6;have d4:=cell_of_row w6 gi 4 _ _ _ hi6;have HG6:=Lib.hid (HGB.out _ hsh6.bel);clear hb6 hbl6 ha6)
      | (go_at_call 49;refine (hwa _ HG6.out).mono ?_;rintro e w7 ⟨rfl,hb7⟩;have hsh7:=hsh6.below hb7)
      | (go_at_call 46;refine (zh1 hsh7.bld _ (by simp only [ByteArray.size,List.size_toArray,List.length_append,List.length_cons,List.length_nil] at hl1 ⊢;omega) hsh7.le).mono ?_;rintro e w8 ⟨rfl,hb8,hbl8,ha8⟩)
      | go_in)
     have hlt7:gi<w6.heap.size:=(Array.getElem?_eq_some_iff.1 hi6).1
     have hlt8:g<w6.heap.size:=(Array.getElem?_eq_some_iff.1 hg6).1
     have hsh8:=hsh7.wrote hb8 hbl8 ha8
     have hi8:=ha8 _ _ ((hb7.block _ hlt7).trans hi6) (by simp;omega) (fun _ _ e=>by cases e)
     have hg8:=ha8 _ _ ((hb7.block _ hlt8).trans hg6) (by simp;omega) (fun _ _ e=>by cases e)
     have et:shown (L.take j)++nmL (op - 1)++zeg i ((plcs (op:Int)).take m)++[32]++W=shown (L.take j)++nmL (op - 1)++zeg i ((plcs (op:Int)).take (m+1)):=by
      rw [HW.out,zmw hp,zeg,zeg,List.flatMap_append]
      simp
     go_roundw
     case rel=>exact ⟨m+1,HM.out,by go_num,by rw [← et];exact hsh8,fun _=>⟨rfl,hg8⟩,hi8⟩
     case measure=>have:=HM.out;simp [RowKit.intOf];omega
    ·obtain rfl:m=(plcs (op:Int)).length:=by omega
     rw [List.take_length] at hshr hl1
     clear hpl h0 hb5 hi5 hsh5
     go_wp2_with (first
      | (go_at_call 48;refine (zlb hshr.bld 10 (by omega) hshr.le).mono ?_;rintro e w6 ⟨rfl,hb6,hbl6,ha6⟩)
      | go_in)
     have et:shown (L.take j)++nmL (op - 1)++zeg i (plcs (op:Int))++[10]=shown (L.take (j+1)):=by
      rw [zmw hi,shown,shown,List.flatMap_append]
      simp [zgj,hop]
     go_roundw
     case rel=>exact ⟨j+1,by omega,by go_num,by rw [← et];exact hshr.wrote hb6 hbl6 ha6⟩
     case measure=>simp [RowKit.intOf];omega
  ·obtain rfl:j=L.length:=by omega
   have hbld:=hsh.bld
   rw [List.take_length] at hbld
   have hle:=hsh.le
   go_wp2_with (go_at_call 50;refine (Tryz.Builder_String_any_k B B (shown L) _ hbld hle).mono ?_;rintro e w9 ⟨rfl,hb9,hbl9,ha9⟩)
   go_ret2
   exact ⟨rfl,hb1.trans ((hsh.bel.trans hbl9).mono hsz)⟩
end Go.Proofs.YtkigmocchaikgabGreatDoor
namespace Go.Proofs.YtkigmocchaikgabGreatDoor
open Go.Shelf Go.RowKit Go.Sort Go.Lib Go.Maps
def zf1 (s:ByteArray) (c:UInt8):List ByteArray:=splitB ⟨#[c]⟩ 0 (countB s ⟨#[c]⟩) s
def zec (i:Ins):List Int→List ByteArray→Option Ins
 | p::ps,x::xs=>match setW i p x with | some i'=>zec i' ps xs | none=>none
 | _,_=>some i
def zr5 (ws:List ByteArray):Option Ins :=
 match zjx (ws.headD ⟨#[]⟩).data.toList with
 | none=>none
 | some k=>if ws.length=1+(plcs ((k:Int)+1)).length then zec ⟨(k:Int)+1,0,0,0,0⟩ (plcs ((k:Int)+1)) ws.tail else none
def zmp (s:ByteArray):Option Ins:=zr5 (zf1 s 32)
theorem zmf (s:ByteArray) (c:UInt8):(zf1 s c).length=countB s ⟨#[c]⟩+1:=splitB_all _ (by show 1≤(#[c]:Array UInt8).size;simp) 0 _ s rfl
theorem zju (sep:ByteArray):∀ (k:Nat) (s:ByteArray),∀ x∈splitB sep 0 k s,x.size≤s.size
 | 0,s,x,hx=>by simp [splitB] at hx;subst hx;exact Nat.le_refl _
 | k+1,s,x,hx=>by
  unfold splitB at hx
  split at hx
  ·simp at hx;subst hx;exact Nat.le_refl _
  ·rw [List.mem_cons] at hx
   rcases hx with rfl | hx
   ·rw [ByteArray.size_extract];omega
   ·have:=zju sep k _ x hx
    rw [ByteArray.size_extract] at this;omega
theorem zhi {α:Type} {l:List α} {n:Nat} {x:α} (h:l[n]?=some x):l.drop n=x::l.drop (n+1):=by
 obtain ⟨hlt,rfl⟩:=List.getElem?_eq_some_iff.1 h
 exact List.drop_eq_getElem_cons hlt
abbrev set5 (w:World) (g:Nat) (i:Ins):World:=((((w.setCell ⟨g,0,none⟩ (.int .i64 i.op)).setCell ⟨g,1,none⟩ (.int .i64 i.d)).setCell ⟨g,2,none⟩ (.int .i64 i.s)).setCell ⟨g,3,none⟩ (.int .u64 (nv i.im))).setCell ⟨g,4,none⟩ (.int .i64 i.of)
theorem yaey (w:World) (g:Nat) (i:Ins) (X:Nat) (h:X≠g):(set5 w g i).heap[X]?=w.heap[X]?:=by
 rw [heap_setCell_other _ _ _ _ h,heap_setCell_other _ _ _ _ h,heap_setCell_other _ _ _ _ h,heap_setCell_other _ _ _ _ h,heap_setCell_other _ _ _ _ h]
theorem yadm {B:Nat} {w w':World} (h:Below B w w') {g:Nat} (hg:B≤g) (i:Ins):Below B w (set5 w' g i) :=
 ((((h.setCell hg _).setCell hg _).setCell hg _).setCell hg _).setCell hg _
theorem yai7 (w:World) (g:Nat) (i:Ins) (cs:Array Value) {t:TypeId} (h:w.heap[g]?=some (.cells cs t (0,0))) (hc:cs.size=5):(set5 w g i).heap[g]?=some (.cells (icells i) t (0,0)):=by
 rw [heap_setCell_same _ _ _ _ _ _ (heap_setCell_same _ _ _ _ _ _ (heap_setCell_same _ _ _ _ _ _ (heap_setCell_same _ _ _ _ _ _ (heap_setCell_same _ _ _ _ _ _ h))))]
 obtain ⟨l⟩:=cs
 match l,hc with
 | [a,b,c,d,e],_=>rfl
theorem yac5 (i:Ins):(icells i).all (·.oneCell')=true:=by
 simp [Value.oneCell']
theorem yauj:(Tryz.prog.info? 55).map (·.size)=some 5:=by kernel_rfl
abbrev T40:TypeId:=55
set_option maxHeartbeats 1000000 in
set_option maxRecDepth 100000 in
theorem zf3 {s:ByteArray} (hs:s.size≤4096) {w:World} {bm:Nat} (hm:yauu w bm opsD) (hg:Gw w):Calls Tryz.prog 44 #[.map (some bm),.string s] w (Done w ((zmp s).map Ins.v)):=by
 obtain ⟨mm,hmm⟩:=hg.most
 have hg4:∀ ob,(w.alloc ob).cell? ⟨1,0,none⟩=some (.int .i64 mm):=fun ob=>by rw [(za2 w ob).cell (p:=⟨1,0,none⟩) (Nat.lt_of_lt_of_le (by show 1<8;omega) hg.size')];exact hmm
 obtain ⟨ws,hws⟩:∃ ws,ws=zf1 s 32:=⟨_,rfl⟩
 have hwl:=zmf s 32
 rw [← hws] at hwl
 have hsp:∀ W:World,W.cell? ⟨1,0,none⟩=some (.int .i64 mm)→Calls Tryz.prog 42 #[.string s,.string ⟨#[32]⟩] W fun e w'=>e=.returned (.slice (some ⟨W.heap.size,0,none⟩) ws.length ws.length)∧w'=W.alloc (.cells (ws.map Value.string).toArray 9 (0,0)):=fun W hW=>by
  have:=Tryz.strings_Split s ⟨#[32]⟩ mm W (by omega) hW (by show 1≤(#[32]:Array UInt8).size;simp)
  rw [hwl,hws];exact this
 have hw4:∀ x∈ws,x.size≤4096:=fun x hx=>by rw [hws] at hx;exact Nat.le_trans (zju _ _ _ x hx) hs
 have hrd:zmp s=zr5 ws:=by rw [hws];rfl
 rw [hrd]
 clear hrd hws
 obtain ⟨x0,wt,rfl⟩:∃ x0 wt,ws=x0::wt:=by cases ws with | nil=>simp at hwl | cons a b=>exact ⟨_,_,rfl⟩
 have hx0:x0.size≤4096:=hw4 x0 (by simp)
 have HWL:=Lib.hid hwl
 have HW4:=Lib.hid hw4
 clear hwl hw4
 obtain ⟨ob,hob⟩:∃ ob,ob=Obj.cells #[.int .i64 0,.int .i64 0,.int .i64 0,.int .u64 0,.int .i64 0] T40 (0,0):=⟨_,rfl⟩
 unfold zr5
 simp only [List.headD_cons,List.tail_cons]
 cases hf:zjx x0.data.toList with
 | none =>
  go_enter Tryz.func44,Tryz.ntmps44
  go_wp2_with (first
   | (go_at_call 42;refine (hsp _ (hg4 _)).mono ?_;rintro e w1 ⟨rfl,rfl⟩)
   | (at_lookup;refine wpList_lookup_own_ok_int _ rfl _ _ 76 rfl 9 3 .i64 law Tryz.underlying76 Tryz.underlying3 (yavj _) bm 15 opsD rfl ((hm.alloc _).alloc _) _ _ rfl (Go.WideMaps.keyOf_string_mk Tryz.underlying9 (by unfold maxLen;omega)) ?_;intro c hc hcw;rw [yab8,hf] at hc;rw [zrx,hf])
   | (go_at_call 47;refine (zf0 _ _).mono ?_;rintro e w2 ⟨a,rfl,hpl,hb2⟩)
   | (go_at_call 90;refine (zit _).mono ?_;rintro e w3 ⟨rfl,rfl⟩)
   | go_in)
  exact ⟨rfl,rfl,zap (zap hb2)⟩
 | some k =>
  obtain ⟨hk,hxk⟩:=zhn hf
  simp only
  by_cases hn:(x0::wt).length=1+(plcs ((k:Int)+1)).length
  ·rw [if_pos hn]
   have hne:((wt.length:Int)+1==1+((plcs ((k:Int)+1)).length:Int))=true:=beq_iff_eq.2 (by simp only [List.length_cons] at hn;omega)
   have hwn:wt.length=(plcs ((k:Int)+1)).length:=by simp only [List.length_cons] at hn;omega
   have HF:=Lib.hid hf
   have HNE:=Lib.hid hne
   have HX:=Lib.hid hxk
   have HWN:=Lib.hid hwn
   clear hne hf hxk hn hob hwn
   have hp4:=zhs ((k:Int)+1)
   go_enter Tryz.func44,Tryz.ntmps44
   go_wp2_with (first
    | (go_at_call 42;refine (hsp _ (hg4 _)).mono ?_;rintro e w1 ⟨rfl,rfl⟩)
    | (at_lookup;refine wpList_lookup_own_ok_int _ rfl _ _ 76 rfl 9 3 .i64 law Tryz.underlying76 Tryz.underlying3 (yavj _) bm 15 opsD rfl ((hm.alloc _).alloc _) _ _ rfl (Go.WideMaps.keyOf_string_mk Tryz.underlying9 (by unfold maxLen;omega)) ?_;intro c hc hcw;rw [yab8,HF.out] at hc;rw [zrx,HF.out];obtain rfl:c=(k:Int)+1:=by (simp at hc;exact hc.symm))
    | (go_at_call 47;refine (zf0 _ _).mono ?_;rintro e w2 ⟨a,rfl,hpl,hb2⟩)
    | (go_at_call 90;rw [HNE.out];refine (zi7 _).mono ?_;rintro e w3 ⟨rfl,rfl⟩)
    | go_in)
   obtain ⟨R,hR⟩:∃ R,R=zec ⟨(k:Int)+1,0,0,0,0⟩ (plcs ((k:Int)+1)) wt:=⟨_,rfl⟩
   rw [← hR]
   have hgs:w.heap.size+1<w3.heap.size:=by have:=hb2.size;rw [yaon] at this;omega
   have hz:(w3.alloc (.cells (icells ⟨(k:Int)+1,0,0,0,0⟩) T40 (0,0))).heap[w.heap.size]?=some (.cells (icells ⟨0,0,0,0,0⟩) T40 (0,0)):=by
    rw [Below.heap_alloc _ _ _ (by omega),hb2.block _ (by simp;omega),Below.heap_alloc _ _ _ (by simp),zbs];rfl
   have hwd:(w3.alloc (.cells (icells ⟨(k:Int)+1,0,0,0,0⟩) T40 (0,0))).heap[w.heap.size+1]?=some (.cells ((x0::wt).map Value.string).toArray 9 (0,0)):=by
    rw [Below.heap_alloc _ _ _ hgs,hb2.block _ (by simp)]
    have e:=zbs (w.alloc (.cells (icells ⟨0,0,0,0,0⟩) T40 (0,0))) (.cells ((x0::wt).map Value.string).toArray 9 (0,0))
    rw [show (w.alloc (.cells (icells ⟨0,0,0,0,0⟩) T40 (0,0))).heap.size=w.heap.size+1 by simp] at e
    exact e
   have hpl2:PlAt ((k:Int)+1) a (w.heap.size+1+1) (w3.alloc (.cells (icells ⟨(k:Int)+1,0,0,0,0⟩) T40 (0,0))):=fun h=>by
    rw [yaon] at hpl
    obtain ⟨h1,h2⟩:=hpl h
    exact ⟨h1,by rw [Below.heap_alloc _ _ _ (Array.getElem?_eq_some_iff.1 h2).1];exact h2⟩
   have hbel2:Below w.heap.size w (w3.alloc (.cells (icells ⟨(k:Int)+1,0,0,0,0⟩) T40 (0,0))):=by
    have h3:=zap (zap hb2)
    exact h3.trans ((za2 w3 _).mono h3.size)
   have HG:=Lib.hid hg
   have HR:=Lib.hid hR
   clear hpl hb2 hsp hg4 hmm hg hR hm
   generalize hgi:w3.heap.size=gi at *
   go_loopw [38] (fun v wr=>∃ (n:Nat) (i:Ins),n≤(plcs ((k:Int)+1)).length∧v=.int .i64 n∧R=zec i ((plcs ((k:Int)+1)).drop n) (wt.drop n)∧wr.heap[gi]?=some (.cells (icells i) T40 (0,0))∧PlAt ((k:Int)+1) a (w.heap.size+1+1) wr∧wr.heap[w.heap.size+1]?=some (.cells ((x0::wt).map Value.string).toArray 9 (0,0))∧wr.heap[w.heap.size]?=some (.cells (icells ⟨0,0,0,0,0⟩) T40 (0,0))∧Below w.heap.size w wr) (fun v _=>(plcs ((k:Int)+1)).length - (RowKit.intOf v).toNat)
   case atStart=>exact ⟨0,_,by omega,rfl,HR.out,by rw [← hgi];exact zbs _ _,hpl2,hwd,hz,hbel2⟩
   case round =>
    obtain ⟨n,i,hnl,rfl,hR2,hir,hplr,hwr,hzr,hbr⟩:=hrel
    have HR2:=Lib.hid hR2
    have HZ:=Lib.hid hzr
    have HB:=Lib.hid hbr
    have HWd:=Lib.hid hwr
    have q0:wr.cell? ⟨gi,0,none⟩=some (.int .i64 i.op):=cell_of_row wr gi 0 _ _ _ hir
    have q1:wr.cell? ⟨gi,1,none⟩=some (.int .i64 i.d):=cell_of_row wr gi 1 _ _ _ hir
    have q2:wr.cell? ⟨gi,2,none⟩=some (.int .i64 i.s):=cell_of_row wr gi 2 _ _ _ hir
    have q3:wr.cell? ⟨gi,3,none⟩=some (.int .u64 (nv i.im)):=cell_of_row wr gi 3 _ _ _ hir
    have q4:wr.cell? ⟨gi,4,none⟩=some (.int .i64 i.of):=cell_of_row wr gi 4 _ _ _ hir
    clear hR2 hzr hbr hwr
    by_cases hlt:n<(plcs ((k:Int)+1)).length
    ·obtain ⟨p,hp⟩:∃ p,(plcs ((k:Int)+1))[n]?=some p:=⟨(plcs ((k:Int)+1))[n],by simp [hlt]⟩
     obtain ⟨x,hx⟩:∃ x,wt[n]?=some x:=⟨wt[n]'(by rw [HWN.out];exact hlt),by simp [HWN.out,hlt]⟩
     obtain ⟨rfl,hgr⟩:=hplr (by intro e;rw [e] at hlt;simp at hlt)
     have hcp:wr.cell? ⟨w.heap.size+1+1,n,none⟩=some (.int .i64 p):=by rw [cell_of_row wr _ n _ _ _ hgr];simp [hp]
     have hcx:wr.cell? ⟨w.heap.size+1,n+1,none⟩=some (.string x):=by rw [cell_of_row wr _ (n+1) _ _ _ HWd.out];simp [hx]
     have hpp:plc p:=yak8 (List.mem_of_getElem? hp)
     have hxs:x.size≤4096:=HW4.out x (by simp [List.mem_of_getElem? hx])
     have hwwl:n<wt.length:=by rw [HWN.out];exact hlt
     have Hpp:=Lib.hid hpp
     have Hxs:=Lib.hid hxs
     clear hpp hxs
     have HGw:=Lib.hid (HG.out.below HB.out HG.out.size')
     have HGr:=Lib.hid hgr
     have Hp:=Lib.hid hp
     have Hx:=Lib.hid hx
     have Hir:=Lib.hid hir
     clear hgr hp hx hir
     cases hset:setW i p x with
     | none =>
      have HS:=Lib.hid hset
      have hRn:R=none:=by rw [HR2.out,zhi Hp.out,zhi Hx.out];simp only [zec,hset]
      clear hset
      subst hRn
      go_wp2
      have hn4:n≤4:=by omega
      have hi0:0≤1+(n:Int):=by omega
      have hi1:(1+(n:Int)).toNat=n+1:=by omega
      have hi2:1+(n:Int)<(wt.length:Int)+1:=by omega
      have hi3:IntKind.i64.wrap (1+(n:Int))=1+(n:Int):=by rw [IntKind.wrap_i64];omega
      clear hcw hc hk hx0 hs hnl hlt hcp hplr hgs hz hwd hpl2 hbel2
      refine wp_region_any (by kernel_rfl) ?_
      change wpAny _ _ _ _ _ _ _ (World.drew _)
      refine wpAny_take (i:=1) (v:=?_) rfl (by kernel_rfl) (by kernel_rfl) (by kernel_rfl) (fun _ _ _ h=>h) (Or.inl ⟨by rfl,?_⟩) ?_
      rotate_left
      ·intro w';go_simp;try with_reducible rfl
      refine wpAny_take (i:=2) (v:=?_) rfl (by kernel_rfl) (by kernel_rfl) (by kernel_rfl) (fun _ _ _ h=>h) (Or.inl ⟨by rfl,?_⟩) ?_
      rotate_left
      ·intro w';go_simp;try with_reducible rfl
      refine wpAny_take (i:=3) (v:=?_) rfl (by kernel_rfl) (by kernel_rfl) (by kernel_rfl) (fun _ _ _ h=>h) (Or.inl ⟨by rfl,?_⟩) ?_
      rotate_left
      ·intro w';go_simp;try with_reducible rfl
      refine wpAny_take (i:=4) (v:=?_) rfl (by kernel_rfl) (by kernel_rfl) (by kernel_rfl) (fun _ _ _ h=>h) (Or.inl ⟨by rfl,?_⟩) ?_
      rotate_left
      ·intro w';go_simp;try with_reducible rfl
      refine wpAny_take (i:=5) (v:=?_) rfl (by kernel_rfl) (by kernel_rfl) (by kernel_rfl) (fun _ _ _ h=>h) (Or.inl ⟨by rfl,?_⟩) ?_
      rotate_left
      ·intro w';go_simp;try with_reducible rfl
      refine wpAny_ready (rs:=[0,6]) (by kernel_rfl) (by simp) (AllReady.cons rfl (fun K hK=>?_) (AllReady.cons rfl (fun K hK=>?_) AllReady.nil))
      ·go_simp
       refine hK _ _ ?_;clear hK K
       refine wpAny_ready (rs:=[6]) (by kernel_rfl) (by simp) (AllReady.cons rfl (fun K hK=>?_) AllReady.nil)
       go_simp
       refine hK _ _ ?_;clear hK K
       refine wpAny_ready (rs:=[7]) (by kernel_rfl) (by simp) (AllReady.cons rfl (fun K hK=>?_) AllReady.nil)
       go_simp
       go_wp2_with (go_at_call 91;refine (zie (i:=i) Hpp.out Hxs.out (by exact HGw.out.keep (Nat.le_refl _) (fun _ _=>rfl))).mono ?_;rw [HS.out];rintro e w5 ⟨rfl,hb5⟩)
       exact ⟨rfl,rfl,HB.out.drew.trans (hb5.mono HB.out.size)⟩
      ·go_simp
       refine hK _ _ ?_;clear hK K
       refine wpAny_ready (rs:=[0]) (by kernel_rfl) (by simp) (AllReady.cons rfl (fun K hK=>?_) AllReady.nil)
       go_simp
       refine hK _ _ ?_;clear hK K
       refine wpAny_ready (rs:=[7]) (by kernel_rfl) (by simp) (AllReady.cons rfl (fun K hK=>?_) AllReady.nil)
       go_simp
       go_wp2_with (go_at_call 91;refine (zie (i:=i) Hpp.out Hxs.out (by exact HGw.out.keep (Nat.le_refl _) (fun _ _=>rfl))).mono ?_;rw [HS.out];rintro e w5 ⟨rfl,hb5⟩)
       exact ⟨rfl,rfl,HB.out.drew.trans (hb5.mono HB.out.size)⟩
     | some i' =>
      have HS:=Lib.hid hset
      have hRn:R=zec i' ((plcs ((k:Int)+1)).drop (n+1)) (wt.drop (n+1)):=by rw [HR2.out,zhi Hp.out,zhi Hx.out];simp only [zec,hset]
      have HRn:=Lib.hid hRn
      have hgl:gi<wr.heap.size:=(Array.getElem?_eq_some_iff.1 Hir.out).1
      clear hset hRn
      go_wp2
      have hn4:n≤4:=by omega
      have hi0:0≤1+(n:Int):=by omega
      have hi1:(1+(n:Int)).toNat=n+1:=by omega
      have hi2:1+(n:Int)<(wt.length:Int)+1:=by omega
      have hi3:IntKind.i64.wrap (1+(n:Int))=1+(n:Int):=by rw [IntKind.wrap_i64];omega
      have HLT:=Lib.hid hlt
      clear hcw hc hk hx0 hs hnl hlt hcp hplr hz hwd hpl2 hbel2
      go_region_with (go_at_call 91;refine (zie (i:=i) Hpp.out Hxs.out (by exact HGw.out.keep (Nat.le_refl _) (fun _ _=>rfl))).mono ?_;rw [HS.out];rintro e w5 ⟨rfl,hb5⟩;have hi5:=(hb5.block gi hgl).trans Hir.out;have r0:w5.cell? ⟨gi,0,none⟩=some (.int .i64 i.op):=cell_of_row w5 gi 0 _ _ _ hi5;have r1:w5.cell? ⟨gi,1,none⟩=some (.int .i64 i.d):=cell_of_row w5 gi 1 _ _ _ hi5;have r2:w5.cell? ⟨gi,2,none⟩=some (.int .i64 i.s):=cell_of_row w5 gi 2 _ _ _ hi5;have r3:w5.cell? ⟨gi,3,none⟩=some (.int .u64 (nv i.im)):=cell_of_row w5 gi 3 _ _ _ hi5;have r4:w5.cell? ⟨gi,4,none⟩=some (.int .i64 i.of):=cell_of_row w5 gi 4 _ _ _ hi5;have f0:=frozen_of_row w5 gi 0 _ _ hi5;have f1:=frozen_of_row w5 gi 1 _ _ hi5;have f2:=frozen_of_row w5 gi 2 _ _ hi5;have f3:=frozen_of_row w5 gi 3 _ _ hi5;have f4:=frozen_of_row w5 gi 4 _ _ hi5)
      all_goals (
       go_wp2
       have hne:w.heap.size+1+1≠gi:=fun e=>by
        have h1:=HGr.out
        rw [e,Hir.out] at h1
        injection h1 with h1
        injection h1 with _ h2 _
        exact absurd h2 (show ¬ T40=T47 by decide)
       have hk5:∀ X o,X≠gi→wr.heap[X]?=some o→(set5 w5 gi i').heap[X]?=some o:=fun X o hX ho=>by
        rw [yaey w5 gi i' X hX,hb5.block X (Array.getElem?_eq_some_iff.1 ho).1];exact ho
       have hb6:Below w.heap.size w (set5 w5 gi i'):=yadm (HB.out.drew.trans (hb5.mono HB.out.size)) (by omega) i'
       go_roundw
       case rel=>exact ⟨n+1,i',HLT.out,by go_num,HRn.out,yai7 w5 gi i' _ hi5 rfl,fun _=>⟨rfl,hk5 _ _ hne HGr.out⟩,hk5 _ _ (by omega) HWd.out,hk5 _ _ (by omega) HZ.out,hb6⟩
       case measure=>have:=HLT.out;simp [RowKit.intOf];omega)
    ·obtain rfl:n=(plcs ((k:Int)+1)).length:=by omega
     have hRi:R=some i:=by rw [HR2.out,List.drop_length];unfold zec;rfl
     have HRi:=Lib.hid hRi
     have Hir:=Lib.hid hir
     clear hRi hir q0 q1 q2 q3 q4 hplr hcw hc hk hx0 hs hz hwd hpl2 hbel2 hgs
     have hB2:=setRow_heap wr w.heap.size _ (icells i) _ _ HZ.out
     have HB2:=Lib.hid hB2
     clear hB2
     go_wp2_with (first
      | (refine wpList_load_row rfl T40 _ rfl gi rfl _ (icells i) _ _ Hir.out Tryz.underlying55 rfl yauj ?_)
      | (refine wpList_store_row rfl T40 _ _ rfl w.heap.size (icells i) rfl rfl _ _ HZ.out yauj (by rfl) (yac5 i) ?_)
      | go_in)
     refine bodyPost_ret (results_cell_row rfl _ _ w.heap.size _ (icells i) _ _ rfl HB2.out Tryz.underlying55 rfl yauj) rfl ?_
     rw [← HR.out,HRi.out]
     exact ⟨rfl,zfb HB.out (Nat.le_refl _) _⟩
  ·rw [if_neg hn]
   have hne:((wt.length:Int)+1==1+((plcs ((k:Int)+1)).length:Int))=false:=beq_eq_false_iff_ne.2 (by simp only [List.length_cons] at hn;omega)
   have HF:=Lib.hid hf
   have HNE:=Lib.hid hne
   clear hne
   have HX:=Lib.hid hxk
   clear hf hxk hn hob
   have hp4:=zhs ((k:Int)+1)
   go_enter Tryz.func44,Tryz.ntmps44
   go_wp2_with (first
    | (go_at_call 42;refine (hsp _ (hg4 _)).mono ?_;rintro e w1 ⟨rfl,rfl⟩)
    | (at_lookup;refine wpList_lookup_own_ok_int _ rfl _ _ 76 rfl 9 3 .i64 law Tryz.underlying76 Tryz.underlying3 (yavj _) bm 15 opsD rfl ((hm.alloc _).alloc _) _ _ rfl (Go.WideMaps.keyOf_string_mk Tryz.underlying9 (by unfold maxLen;omega)) ?_;intro c hc hcw;rw [yab8,HF.out] at hc;rw [zrx,HF.out];obtain rfl:c=(k:Int)+1:=by (simp at hc;exact hc.symm))
    | (go_at_call 47;refine (zf0 _ _).mono ?_;rintro e w2 ⟨a,rfl,hpl,hb2⟩)
    | (go_at_call 90;rw [HNE.out];refine (zit _).mono ?_;rintro e w3 ⟨rfl,rfl⟩)
    | go_in)
   exact ⟨rfl,rfl,zap (zap hb2)⟩
theorem znr (p q:Nat) (sl bo:Value) (u:TypeId) (pv:Value) (older:List PanicEntry) (w:World) (hp:w.cell? ⟨p,0,none⟩=some sl) (fp:w.frozen? ⟨p,0,none⟩=false) (hq:w.cell? ⟨q,0,none⟩=some bo) (fq:w.frozen? ⟨q,0,none⟩=false) (hpq:q≠p) :
  CallsD Tryz.prog 40 #[.pointer (some ⟨p,0,none⟩),.pointer (some ⟨q,0,none⟩)] (.panicking ({ v:=.iface u pv,recovered:=false }::older)) w fun e u' w' =>
   e=.returned (.tuple #[])∧u'=.panicking ({ v:=.iface u pv,recovered:=true }::older)∧w'=(w.setCell ⟨p,0,none⟩ (.slice none 0 0)).setCell ⟨q,0,none⟩ (.bool false):=by
 have hq2:(w.setCell ⟨p,0,none⟩ (.slice none 0 0)).cell? ⟨q,0,none⟩=some bo:=by rw [World.cell?_of_block (w:=w) (heap_setCell_other _ _ _ _ hpq)];exact hq
 have fq2:(w.setCell ⟨p,0,none⟩ (.slice none 0 0)).frozen? ⟨q,0,none⟩=false:=by rw [World.frozen?_of_block (w:=w) (heap_setCell_other _ _ _ _ hpq)];exact fq
 refine callsD_of_wpS Tryz.func40 rfl fun c₀ cs hu=>?_
 apply wpS_seq
 apply wpS_region
 simp [wpOpsS,go_sem,recoverD,hu,Tryz.ntmps40,Exit.thenS]
 refine wpS_cond (t:=true) (by simp [Act.eval,Array.replicate]) ?_
 simp only [if_true]
 apply wpS_region
 simp [wpOpsS,go_sem,hp,fp,hq2,fq2,bodyPostS,results,Tryz.results40]
theorem yadr (p q:Nat) (w:World) :
  CallsD Tryz.prog 40 #[.pointer (some ⟨p,0,none⟩),.pointer (some ⟨q,0,none⟩)] .returning w fun e u' w'=>e=.returned (.tuple #[])∧u'=.returning∧w'=w:=by
 refine callsD_of_wpS Tryz.func40 rfl fun c₀ cs hu=>?_
 apply wpS_seq
 apply wpS_region
 simp [wpOpsS,go_sem,recoverD,hu,Tryz.ntmps40,Exit.thenS]
 refine wpS_cond (t:=false) (by simp [Act.eval,Array.replicate]) ?_
 simp only [Bool.false_eq_true,if_false]
 refine wpS_of_wp (wp_skip ?_)
 cases c₀
 simp_all [bodyPostS,results,Tryz.results40]
theorem yaeb {L:List Ins} {w:World} {b o c:Nat} (hP:PAt w b o L) (hg:Gw w) (he:zan L≠0) :
  Calls Tryz.prog 18 #[.slice (some ⟨b,o,none⟩) L.length c] w fun e w'=>e=.returned (.tuple #[.string ⟨#[]⟩,.int .i64 (zan L)])∧Below w.heap.size w w':=by
 have hck:=zl1 (c:=c) (A:=#[.slice (some ⟨b,o,none⟩) L.length c]) hP rfl (fun _=>rfl) (zjk L c) hg
 go_enter Tryz.func18,Tryz.ntmps18
 go_wp2_with (first
  | (go_at_call 19;refine hck.mono ?_;rintro e w1 ⟨rfl,hb1⟩)
  | go_in)
 go_ret2
 exact ⟨rfl,hb1⟩
end Go.Proofs.YtkigmocchaikgabGreatDoor
namespace Go.Proofs.YtkigmocchaikgabGreatDoor
open Go.Shelf Go.RowKit Go.Sort Go.Lib
theorem yaxo {i:Ins} {n:Nat} (hn:n≤64) (hk:zcl i=true) (hi:inB i n=true) (hb:zbd i=true):Fld i:=by
 obtain ⟨op,d,s,im,f⟩:=i
 simp only [zcl,Bool.and_eq_true,decide_eq_true_eq] at hk
 simp only [inB,regB,srcB,zcj] at hi
 simp only [zbd] at hb
 refine ⟨hk.1,hk.2,?_,?_,?_⟩ <;> simp only
 all_goals
  repeat' split at hi
  all_goals
   repeat' split at hb
   all_goals
    simp only [Bool.and_eq_true,Bool.or_eq_true,decide_eq_true_eq] at hi hb
    omega
theorem zl7:∀ {L:List Ins} {i:Ins},zfk L=true→i∈L→∃ n:Nat,n<L.length∧inB i n=true
 | [],_,_,h=>by cases h
 | a::L,i,h,hm=>by
  simp only [zfk,Bool.and_eq_true] at h
  rw [List.mem_cons] at hm
  rcases hm with rfl | hm
  ·exact ⟨L.length,by simp,h.1⟩
  ·obtain ⟨n,hn,h2⟩:=zl7 h.2 hm
   exact ⟨n,by simp;omega,h2⟩
theorem zg4 {L:List Ins} (h:zan L=0):L.length≤64∧∀ i∈L,Fld i:=by
 unfold zan at h
 split at h
 ·omega
 rename_i h1
 split at h
 ·omega
 rename_i h2
 split at h
 ·omega
 rename_i h3
 split at h
 ·omega
 rename_i h4
 refine ⟨by omega,fun i hi=>?_⟩
 have h2':L.all zcl=true:=by simpa using h2
 have h3':zfk L=true:=by simpa using h3
 have h4':L.all zbd=true:=by simpa using h4
 obtain ⟨n,hn,h5⟩:=zl7 h3' hi
 exact yaxo (by omega) (List.all_eq_true.1 h2' i hi) h5 (List.all_eq_true.1 h4' i hi)
end Go.Proofs.YtkigmocchaikgabGreatDoor
namespace Go.Proofs.YtkigmocchaikgabGreatDoor
open Go.Shelf Go.RowKit Go.Sort Go.Lib Go.Maps
def zia:List ByteArray→Option (List Ins)
 | []=>some []
 | x::xs=>match zmp x with | some i=>(zia xs).map (i::·) | none=>none
def ziq (s:ByteArray):List ByteArray:=zf1 ⟨(trimSuffix s.data.toList [10]).toArray⟩ 10
def accC (l:List Ins):List Value:=l.flatMap fun i=>(icells i).toList
abbrev T22:TypeId:=27
abbrev T4:TypeId:=4
structure Rl (B bl:Nat) (ls:List ByteArray) (w:World) (n:Nat) (acc:List Ins) (v:Value) (wr:World):Prop where
 all:zia ls=(zia (ls.drop n)).map (acc++·)
 len:acc.length=n
 l:wr.heap[B]?=some (.cells #[v] T22 (0,0))
 ok:wr.heap[B+1]?=some (.cells #[.bool false] T4 (0,0))
 lines:wr.heap[bl]?=some (.cells (ls.map Value.string).toArray 9 (0,0))
 map:yauu wr (B+1+1) opsD
 own:wr.ownsRow (bl+1) T40 5 v n (accC acc)
 bel:Below B w wr
 big:bl+1≤wr.heap.size
 far:B+1+1<bl
theorem yasa:(Tryz.prog.info? T40).map (fun i=>(i.zero,i.size,i.bytes))=some (some (.agg #[.int .i64 0,.int .i64 0,.int .i64 0,.int .u64 0,.int .i64 0]),5,40):=by kernel_rfl
theorem zid (i:Ins):∀ u∈(icells i).toList,u.oneCell'=true:=fun u hu=>by
 simp at hu
 rcases hu with rfl | rfl | rfl | rfl | rfl <;> rfl
theorem zl9 (w:World) (i:Ins):∀ j u,(icells i).toList[j]?=some u→(w.alloc (.cells (icells i) T40 (0,0))).cell? ((⟨w.heap.size,0,none⟩:Addr).add j)=some u:=fun j u h=>by
 rw [Lib.add_plain,cell_of_row _ _ _ _ _ _ (zbs _ _)]
 simpa using h
theorem zi9 {w:World} {B n:Nat} {v:Value} {xs:List Value} (h:w.ownsRow B T40 5 v n xs):∃ a n c,v=.slice a n c:=by
 rcases h.2 with ⟨hv,_⟩ | ⟨g,cap,cur,hv,_⟩
 ·exact ⟨_,_,_,hv⟩
 ·exact ⟨_,_,_,hv⟩
theorem zq7 {B bl n:Nat} {ls:List ByteArray} {w wr w5:World} {acc:List Ins} {v:Value} {o:Obj} (h:Rl B bl ls w n acc v wr) (hb:Below wr.drew.heap.size wr.drew w5):(w5.alloc o).ownsRow (bl+1) T40 5 v n (accC acc):=by
 obtain ⟨h1,h2⟩:=h.own
 refine ⟨h1,h2.imp id ?_⟩
 rintro ⟨g,cap,cur,a,b,c,d⟩
 have h3:=(hb.block g (Array.getElem?_eq_some_iff.1 c).1).trans c
 exact ⟨g,cap,cur,a,b,(Below.heap_alloc _ _ _ (Array.getElem?_eq_some_iff.1 h3).1).trans h3,d⟩
theorem zmd {B bl n:Nat} {ls:List ByteArray} {w wr w5:World} {acc:List Ins} {v:Value} {o:Obj} (h:Rl B bl ls w n acc v wr) (hb:Below wr.drew.heap.size wr.drew w5):bl+1≤(w5.alloc o).heap.size :=
 Nat.le_trans h.big (Nat.le_trans hb.size (za2 w5 o).size)
theorem yauh {w:World} {B n:Nat} {v:Value} {xs:List Value} (h:w.ownsRow B T40 5 v n xs) {k:Nat} (hk:k<B):some k≠v.ownBlock:=by
 rcases h.2 with ⟨rfl,_⟩ | ⟨g,cap,cur,rfl,hg,_⟩
 ·simp [Value.ownBlock]
 ·simp [Value.ownBlock];omega
theorem zni {B bl n:Nat} {ls:List ByteArray} {w wr w5 w6:World} {acc:List Ins} {v:Value} {o ob:Obj} {k:Nat} (h:Rl B bl ls w n acc v wr) (hb:Below wr.drew.heap.size wr.drew w5) (hg:(w5.alloc o).grownBy w6 v.ownBlock) (hk:k<bl+1) (ho:wr.heap[k]?=some ob):w6.heap[k]?=some ob:=by
 have h1:w5.heap[k]?=some ob:=(hb.block k (Array.getElem?_eq_some_iff.1 ho).1).trans ho
 have hlt:=(Array.getElem?_eq_some_iff.1 h1).1
 rw [hg.block k (Nat.lt_of_lt_of_le hlt (za2 w5 o).size) (yauh h.own hk),Below.heap_alloc _ _ _ hlt]
 exact h1
theorem yala {B bl n:Nat} {ls:List ByteArray} {w wr w5 w6:World} {acc:List Ins} {v:Value} {o:Obj} (h:Rl B bl ls w n acc v wr) (hb:Below wr.drew.heap.size wr.drew w5) (hg:(w5.alloc o).grownBy w6 v.ownBlock):w6.heap[B]?=some (.cells #[v] T22 (0,0)) :=
 zni h hb hg (by have:=h.far;omega) h.l
theorem zy1 {B bl n:Nat} {ls:List ByteArray} {w wr w5 w6:World} {acc:List Ins} {v v':Value} {o:Obj} {x:ByteArray} {i:Ins} (h:Rl B bl ls w n acc v wr) (hx:ls[n]?=some x) (hr:zmp x=some i) (hb:Below wr.drew.heap.size wr.drew w5) (hown:w6.ownsRow (bl+1) T40 5 v' (n+1) (accC acc++(icells i).toList)) (hg:(w5.alloc o).grownBy w6 v.ownBlock):Rl B bl ls w (n+1) (acc++[i]) v' (w6.setCell ⟨B,0,none⟩ v'):=by
 have hf:=h.far
 have hbg:=h.big
 have hB5:B≤w5.heap.size:=Nat.le_trans (by show B≤wr.heap.size;omega) hb.size
 have hbw:Below B w w5:=h.bel.drew.trans (hb.mono (by show B≤wr.heap.size;omega))
 have hb6:Below B w w6:=(hbw.alloc hB5 o).grown hg (Nat.le_trans hB5 (za2 w5 o).size) (fun k hk=>by
  rcases h.own.2 with ⟨rfl,_⟩ | ⟨g,cap,cur,rfl,hgb,_⟩
  ·simp [Value.ownBlock] at hk
  ·simp [Value.ownBlock] at hk;omega)
 refine ⟨?_,by simp [h.len],?_,?_,?_,?_,?_,hb6.setCell (Nat.le_refl _) _,?_,hf⟩
 ·rw [h.all,zhi hx]
  simp only [zia,hr,Option.map_map]
  congr 1
  funext l
  simp
 ·exact heap_setCell_same w6 B 0 _ _ v' (zni h hb hg (by omega) h.l)
 ·rw [heap_setCell_other _ _ _ _ (by simp)];exact zni h hb hg (by omega) h.ok
 ·rw [heap_setCell_other _ _ _ _ (by show bl≠B;omega)];exact zni h hb hg (by omega) h.lines
 ·obtain ⟨es,ck,hh,rest⟩:=h.map
  exact ⟨es,ck,(heap_setCell_other _ _ _ _ (by show B+1+1≠B;omega)).trans (zni h hb hg (by omega) hh),rest⟩
 ·have e:accC (acc++[i])=accC acc++(icells i).toList:=by simp [accC]
  rw [e]
  obtain ⟨h1,h2⟩:=hown
  refine ⟨h1,h2.imp id ?_⟩
  rintro ⟨g,cap,cur,a,b,c,d⟩
  exact ⟨g,cap,cur,a,b,(heap_setCell_other _ _ _ _ (by show g≠B;omega)).trans c,d⟩
 ·have h7:=hg.size
  have h8:=(za2 w5 o).size
  have h9:=hb.size
  have h10:wr.drew.heap.size=wr.heap.size:=rfl
  simp only [World.setCell,Array.size_modify]
  omega
theorem zk5 {P:Program} {fn:Func} {t t':Array Value} {R:Ending→World→Prop} (h:results fn t=results fn t'):∀ (ds:List Deferred) (u:FrameMode) (w:World),Leaves P fn t R ds u w↔Leaves P fn t' R ds u w
 | [],.returning,w=>by simp only [Leaves,h]
 | [],.panicking _,w=>Iff.rfl
 | [],.run,w=>Iff.rfl
 | d::ds,u,w=>by simp only [Leaves,zk5 h ds]
theorem yatb {a:Act} {k:Nat} (h2:k≠2) (h3:k≠3) (v:Value):results Tryz.f17 (a.put (some k) v).tmps=results Tryz.f17 a.tmps:=by
 simp [results,Tryz.results17,Act.put,Array.getElem?_setIfInBounds,h2,h3]
theorem yaol {P:Program} {R:Ending→World→Prop} {k:Nat} (h2:k≠2) (h3:k≠3) (v:Value) (c:List PanicEntry) (a:Act) (w:World) (h:Leaves P Tryz.f17 (a.put (some k) v).tmps R (a.put (some k) v).defers (.panicking c) w):Leaves P Tryz.f17 a.tmps R a.defers (.panicking c) w :=
 (zk5 (yatb h2 h3 v) _ _ _).1 h
def Rd (B:Nat) (w:World):Option (List Ins)→Ending→World→Prop
 | none,e,w'=>e=.returned (.tuple #[.slice none 0 0,.bool false])∧Below B w w'
 | some L,e,w'=>(∃ v bl,e=.returned (.tuple #[v,.bool true])∧B≤bl∧w'.ownsRow bl T40 5 v L.length (accC L))∧Below B w w'
theorem caught (pv:Value) {B:Nat} {v bo:Value} {w w5:World} {t:Array Value} (k1:w5.heap[B]?=some (.cells #[v] T22 (0,0))) (k2:w5.heap[B+1]?=some (.cells #[bo] T4 (0,0))) (hb:Below B w w5) (t2:t.getD 2 undef=.pointer (some ⟨B,0,none⟩)) (t3:t.getD 3 undef=.pointer (some ⟨B+1,0,none⟩)) :
  Leaves Tryz.prog Tryz.f17 t (Rd B w none) [] (settle (.panicking [{ v:=pv,recovered:=true }])) ((w5.setCell ⟨B,0,none⟩ (.slice none 0 0)).setCell ⟨B+1,0,none⟩ (.bool false)):=by
 have c1:((w5.setCell ⟨B,0,none⟩ (.slice none 0 0)).setCell ⟨B+1,0,none⟩ (.bool false)).cell? ⟨B,0,none⟩=some (.slice none 0 0):=by
  rw [World.cell?_of_block (heap_setCell_other _ _ _ _ (by simp)),cell_of_row _ _ _ _ _ _ (heap_setCell_same _ _ _ _ _ _ k1)];rfl
 have c2:((w5.setCell ⟨B,0,none⟩ (.slice none 0 0)).setCell ⟨B+1,0,none⟩ (.bool false)).cell? ⟨B+1,0,none⟩=some (.bool false):=by
  rw [cell_of_row _ _ _ _ _ _ (heap_setCell_same _ _ _ _ _ _ ((heap_setCell_other _ _ _ _ (by simp)).trans k2))];rfl
 have t2':t[2]?.getD undef=.pointer (some ⟨B,0,none⟩):=by simpa using t2
 have t3':t[3]?.getD undef=.pointer (some ⟨B+1,0,none⟩):=by simpa using t3
 refine ⟨.tuple #[.slice none 0 0,.bool false],?_,rfl,(hb.setCell (Nat.le_refl _) _).setCell (Nat.le_succ _) _⟩
 generalize (w5.setCell ⟨B,0,none⟩ (.slice none 0 0)).setCell ⟨B+1,0,none⟩ (.bool false)=W at *
 simp [results,Tryz.results17,t2',t3',asAddr,go_sem,c1,c2]
theorem passed {bl:Nat} {ls:List ByteArray} {w wr:World} {acc:List Ins} {v:Value} {t:Array Value} (h:Rl w.heap.size bl ls w ls.length acc v wr) (t2:t.getD 2 undef=.pointer (some ⟨w.heap.size,0,none⟩)) (t3:t.getD 3 undef=.pointer (some ⟨w.heap.size+1,0,none⟩)) :
  Leaves Tryz.prog Tryz.f17 t (Rd w.heap.size w (some acc)) [] (settle .returning) ((wr.setCell ⟨w.heap.size,0,none⟩ v).setCell ⟨w.heap.size+1,0,none⟩ (.bool true)):=by
 have k1:(wr.setCell ⟨w.heap.size,0,none⟩ v).heap[w.heap.size]?=some (.cells #[v] T22 (0,0)):=heap_setCell_same wr _ 0 _ _ v h.l
 have k2:(wr.setCell ⟨w.heap.size,0,none⟩ v).heap[w.heap.size+1]?=some (.cells #[.bool false] T4 (0,0)):=(heap_setCell_other _ _ _ _ (by simp)).trans h.ok
 have c1:((wr.setCell ⟨w.heap.size,0,none⟩ v).setCell ⟨w.heap.size+1,0,none⟩ (.bool true)).cell? ⟨w.heap.size,0,none⟩=some v:=by
  rw [World.cell?_of_block (heap_setCell_other _ _ _ _ (by simp)),cell_of_row _ _ _ _ _ _ k1];rfl
 have c2:((wr.setCell ⟨w.heap.size,0,none⟩ v).setCell ⟨w.heap.size+1,0,none⟩ (.bool true)).cell? ⟨w.heap.size+1,0,none⟩=some (.bool true):=by
  rw [cell_of_row _ _ _ _ _ _ (heap_setCell_same _ _ _ _ _ _ k2)];rfl
 have t2':t[2]?.getD undef=.pointer (some ⟨w.heap.size,0,none⟩):=by simpa using t2
 have t3':t[3]?.getD undef=.pointer (some ⟨w.heap.size+1,0,none⟩):=by simpa using t3
 have hf:=h.far
 have hown:((wr.setCell ⟨w.heap.size,0,none⟩ v).setCell ⟨w.heap.size+1,0,none⟩ (.bool true)).ownsRow (bl+1) T40 5 v acc.length (accC acc):=by
  rw [h.len]
  obtain ⟨h1,h2⟩:=h.own
  refine ⟨h1,h2.imp id ?_⟩
  rintro ⟨g,cap,cur,a,b,c,d⟩
  exact ⟨g,cap,cur,a,b,(heap_setCell_other _ _ _ _ (by show g≠w.heap.size+1;omega)).trans ((heap_setCell_other _ _ _ _ (by show g≠w.heap.size;omega)).trans c),d⟩
 refine ⟨.tuple #[v,.bool true],?_,⟨v,bl+1,rfl,by omega,hown⟩,(h.bel.setCell (Nat.le_refl _) _).setCell (Nat.le_succ _) _⟩
 generalize (wr.setCell ⟨w.heap.size,0,none⟩ v).setCell ⟨w.heap.size+1,0,none⟩ (.bool true)=W at *
 simp [results,Tryz.results17,t2',t3',asAddr,go_sem,c1,c2]
set_option maxHeartbeats 1000000 in
set_option maxRecDepth 100000 in
theorem zta {s:ByteArray} (hs:s.size≤4096) {w:World} (hg:Gw w) {R:Option (List Ins)} (hR:zia (ziq s)=R) :
  Calls Tryz.prog 17 #[.string s] w (Rd w.heap.size w R):=by
 have hmf:∀ (fn:Fn) (first cap:Array Value) (w:World),(Instr.makeFunc fn first cap).run Tryz.prog w=.ok (.func fn first cap) w:=fun _ _ _ _=>rfl
 obtain ⟨mm,hmm⟩:=hg.most
 have htr:∀ W,Calls Tryz.prog 43 #[.string s,.string ⟨#[10]⟩] W fun e w'=>e=.returned (.string ⟨(trimSuffix s.data.toList [10]).toArray⟩)∧w'=W:=fun W=>Tryz.strings_TrimSuffix s ⟨#[10]⟩ W (by omega)
 obtain ⟨ls,hls⟩:∃ ls,ls=ziq s:=⟨_,rfl⟩
 have hts:(ByteArray.mk (trimSuffix s.data.toList [10]).toArray).size≤4096:=by
  have h1:(ByteArray.mk (trimSuffix s.data.toList [10]).toArray).size=(trimSuffix s.data.toList [10]).length:=by simp [ByteArray.size]
  rw [h1]
  have h2:s.size=s.data.toList.length:=Lib.size_eq s
  unfold trimSuffix
  split
  ·rw [List.length_take];omega
  ·omega
 have hll:=zmf ⟨(trimSuffix s.data.toList [10]).toArray⟩ 10
 rw [show zf1 ⟨(trimSuffix s.data.toList [10]).toArray⟩ 10=ls by rw [hls];rfl] at hll
 have hsp:∀ W:World,W.cell? ⟨1,0,none⟩=some (.int .i64 mm)→Calls Tryz.prog 42 #[.string ⟨(trimSuffix s.data.toList [10]).toArray⟩,.string ⟨#[10]⟩] W fun e w'=>e=.returned (.slice (some ⟨W.heap.size,0,none⟩) ls.length ls.length)∧w'=W.alloc (.cells (ls.map Value.string).toArray 9 (0,0)):=fun W hW=>by
  have:=Tryz.strings_Split ⟨(trimSuffix s.data.toList [10]).toArray⟩ ⟨#[10]⟩ mm W (by omega) hW (by show 1≤(#[10]:Array UInt8).size;simp)
  rw [hll,hls];exact this
 have hl4:∀ x∈ls,x.size≤4096:=fun x hx=>by rw [hls] at hx;exact Nat.le_trans (zju _ _ _ x hx) hts
 rw [← hls] at hR
 have h1:∀ W,Below w.heap.size w W→W.cell? ⟨1,0,none⟩=some (.int .i64 mm):=fun W h=>by rw [h.cell (p:=⟨1,0,none⟩) (Nat.lt_of_lt_of_le (by show 1<8;omega) hg.size')];exact hmm
 have HL4:=Lib.hid hl4
 have HLL:=Lib.hid hll
 have HR:=Lib.hid hR
 have HG:=Lib.hid hg
 have HTS:=Lib.hid hts
 clear hl4 hll hls hR hmm hts
 go_enter_defers Tryz.func17,Tryz.ntmps17
 go_wp2_with (first
  | (go_at_call 41;refine (zld _).mono ?_;rintro e w1 ⟨rfl,hm,hb⟩;rw [yaon] at hm)
  | (go_at_call 43;refine (htr _).mono ?_;rintro e w2 ⟨rfl,rfl⟩)
  | (go_at_call 42;refine (hsp _ (h1 _ (zap (zap hb)))).mono ?_;rintro e w3 ⟨rfl,rfl⟩)
  | go_in)
 have hb0:Below w.heap.size w w2:=zap (zap hb)
 have hsz:w.heap.size+1+1<w2.heap.size:=hm.lt
 have h0:Rl w.heap.size w2.heap.size ls w 0 [] (.slice none 0 0) (w2.alloc (.cells (ls.map Value.string).toArray 9 (0,0))):=by
  refine ⟨by simp,rfl,?_,?_,zbs _ _,hm.alloc _,⟨rfl,.inl ⟨rfl,rfl⟩⟩,hb0.trans ((za2 w2 _).mono hb0.size),by simp,hsz⟩
  ·rw [Below.heap_alloc _ _ _ (by omega),hb.block _ (by simp;omega),Below.heap_alloc _ _ _ (by simp),zbs]
  ·rw [Below.heap_alloc _ _ _ (by omega),hb.block _ (by simp)]
   have e:=zbs (w.alloc (.cells #[.slice none 0 0] T22 (0,0))) (.cells #[.bool false] T4 (0,0))
   rw [show (w.alloc (.cells #[.slice none 0 0] T22 (0,0))).heap.size=w.heap.size+1 by simp] at e
   exact e
 clear hm hb hsp htr h1 hg
 generalize hbl:w2.heap.size=bl at *
 go_loopw [13] (fun c wr=>∃ (n:Nat) (acc:List Ins) (v:Value),n≤ls.length∧c=.int .i64 n∧Rl w.heap.size bl ls w n acc v wr) (fun c _=>ls.length - (RowKit.intOf c).toNat)
 case atStart=>exact ⟨0,[],_,by omega,rfl,h0⟩
 case round =>
  obtain ⟨n,acc,v,hn,rfl,hrl⟩:=hrel
  by_cases hlt:n<ls.length
  ·obtain ⟨x,hx⟩:∃ x,ls[n]?=some x:=⟨ls[n],by simp [hlt]⟩
   have hcx:wr.cell? ⟨bl,n,none⟩=some (.string x):=by rw [cell_of_row wr _ n _ _ _ hrl.lines];simp [hx]
   have hcl:wr.cell? ⟨w.heap.size,0,none⟩=some v:=cell_of_row wr _ 0 _ _ _ hrl.l
   have Hx:=Lib.hid hx
   have hxs:x.size≤4096:=HL4.out x (List.mem_of_getElem? hx)
   have HXS:=Lib.hid hxs
   have HLT:=Lib.hid hlt
   have HM:=Lib.hid hrl.map
   have HGw:=Lib.hid (HG.out.below hrl.bel HG.out.size')
   clear hx hxs
   cases hr:zmp x with
   | none =>
    have HRx:=Lib.hid hr
    obtain rfl:R=none:=by rw [← HR.out,hrl.all,zhi Hx.out];simp only [zia,hr];rfl
    clear hr
    go_wp2
    clear h0 hn hlt
    refine wp_region_any (by kernel_rfl) ?_
    change wpAny _ _ _ _ _ _ _ (World.drew _)
    refine wpAny_take (i:=1) (v:=?_) rfl (by kernel_rfl) (by kernel_rfl) (by kernel_rfl) (fun c a w h=>yaol (by decide) (by decide) _ c a w h) (Or.inl ⟨by rfl,?_⟩) ?_
    rotate_left
    ·intro w';go_simp;try with_reducible rfl
    refine wpAny_take (i:=2) (v:=?_) rfl (by kernel_rfl) (by kernel_rfl) (by kernel_rfl) (fun c a w h=>yaol (by decide) (by decide) _ c a w h) (Or.inl ⟨by rfl,?_⟩) ?_
    rotate_left
    ·intro w';go_simp;try with_reducible rfl
    refine wpAny_ready (rs:=[0,3]) (by kernel_rfl) (by simp) (AllReady.cons rfl (fun K hK=>?_) (AllReady.cons rfl (fun K hK=>?_) AllReady.nil))
    ·go_simp
     refine hK _ _ ?_;clear hK K
     refine wpAny_ready (rs:=[3]) (by kernel_rfl) (by simp) (AllReady.cons rfl (fun K hK=>?_) AllReady.nil)
     go_simp
     go_wp2_with (go_at_call 44;refine (zf3 HXS.out (bm:=w.heap.size+1+1) (by exact HM.out) (by exact HGw.out.keep (Nat.le_refl _) (fun _ _=>rfl))).mono ?_;rw [HRx.out];rintro e w5 ⟨rfl,hb5⟩)
     refine leaves_cons (f:=40) (args:=#[.pointer (some ⟨w.heap.size,0,none⟩),.pointer (some ⟨w.heap.size+1,0,none⟩)]) (by simp) (by simp [go_sem]) ?_
     have k1:=(hb5.block _ (Array.getElem?_eq_some_iff.1 hrl.l).1).trans hrl.l
     have k2:=(hb5.block _ (Array.getElem?_eq_some_iff.1 hrl.ok).1).trans hrl.ok
     refine (znr w.heap.size (w.heap.size+1) v (.bool false) 22 _ [] w5 (cell_of_row w5 _ 0 _ _ _ k1) (frozen_of_row w5 _ 0 _ _ k1) (cell_of_row w5 _ 0 _ _ _ k2) (frozen_of_row w5 _ 0 _ _ k2) (by omega)).mono ?_
     rintro e u' w'' ⟨rfl,rfl,rfl⟩
     exact caught _ k1 k2 (hrl.bel.drew.trans (hb5.mono hrl.bel.size)) (by rfl) (by rfl)
    ·go_simp
     go_wp2_with (go_at_call 44;refine (zf3 HXS.out (bm:=w.heap.size+1+1) (by exact HM.out) (by exact HGw.out.keep (Nat.le_refl _) (fun _ _=>rfl))).mono ?_;rw [HRx.out];rintro e w5 ⟨rfl,hb5⟩)
     refine leaves_cons (f:=40) (args:=#[.pointer (some ⟨w.heap.size,0,none⟩),.pointer (some ⟨w.heap.size+1,0,none⟩)]) (by simp) (by simp [go_sem]) ?_
     have k1:=(hb5.block _ (Array.getElem?_eq_some_iff.1 hrl.l).1).trans hrl.l
     have k2:=(hb5.block _ (Array.getElem?_eq_some_iff.1 hrl.ok).1).trans hrl.ok
     refine (znr w.heap.size (w.heap.size+1) v (.bool false) 22 _ [] w5 (cell_of_row w5 _ 0 _ _ _ k1) (frozen_of_row w5 _ 0 _ _ k1) (cell_of_row w5 _ 0 _ _ _ k2) (frozen_of_row w5 _ 0 _ _ k2) (by omega)).mono ?_
     rintro e u' w'' ⟨rfl,rfl,rfl⟩
     exact caught _ k1 k2 (hrl.bel.drew.trans (hb5.mono hrl.bel.size)) (by rfl) (by rfl)
   | some i =>
    have HRx:=Lib.hid hr
    have hn6:n≤4096:=by have h7:=countB_le ⟨#[10]⟩ (by show 1≤(#[10]:Array UInt8).size;simp) _ ⟨(trimSuffix s.data.toList [10]).toArray⟩ (Nat.le_refl _);have h8:=HTS.out;have h9:=HLL.out;omega
    obtain ⟨i0,hi,hz0,hz1,hz2⟩:=info_parts yasa
    clear hr
    go_wp2
    clear h0 hn hlt
    refine wp_region_any (by kernel_rfl) ?_
    change wpAny _ _ _ _ _ _ _ (World.drew _)
    refine wpAny_take (i:=1) (v:=?_) rfl (by kernel_rfl) (by kernel_rfl) (by kernel_rfl) (fun c a w h=>yaol (by decide) (by decide) _ c a w h) (Or.inl ⟨by rfl,?_⟩) ?_
    rotate_left
    ·intro w';go_simp;try with_reducible rfl
    refine wpAny_take (i:=2) (v:=?_) rfl (by kernel_rfl) (by kernel_rfl) (by kernel_rfl) (fun c a w h=>yaol (by decide) (by decide) _ c a w h) (Or.inl ⟨by rfl,?_⟩) ?_
    rotate_left
    ·intro w';go_simp;try with_reducible rfl
    refine wpAny_ready (rs:=[0,3]) (by kernel_rfl) (by simp) (AllReady.cons rfl (fun K hK=>?_) (AllReady.cons rfl (fun K hK=>?_) AllReady.nil))
    ·go_simp
     refine hK _ _ ?_;clear hK K
     refine wpAny_ready (rs:=[3]) (by kernel_rfl) (by simp) (AllReady.cons rfl (fun K hK=>?_) AllReady.nil)
     go_simp
     go_wp2_with (go_at_call 44;refine (zf3 HXS.out (bm:=w.heap.size+1+1) (by exact HM.out) (by exact HGw.out.keep (Nat.le_refl _) (fun _ _=>rfl))).mono ?_;rw [HRx.out];rintro e w5 ⟨rfl,hb5⟩;have c5:w5.cell? ⟨w.heap.size,0,none⟩=some v:=cell_of_row w5 _ 0 _ _ _ ((hb5.block _ (Array.getElem?_eq_some_iff.1 hrl.l).1).trans hrl.l);have hlt5:w.heap.size<w5.heap.size:=Nat.lt_of_lt_of_le (Array.getElem?_eq_some_iff.1 hrl.l).1 hb5.size)
     refine wpAny_ready (rs:=[4]) (by kernel_rfl) (by simp) (AllReady.cons rfl (fun K hK=>?_) AllReady.nil)
     go_simp
     refine hK _ _ ?_;clear hK K
     refine wpAny_ready (rs:=[5]) (by kernel_rfl) (by simp) (AllReady.cons rfl (fun K hK=>?_) AllReady.nil)
     rw [if_pos (by simp [Region.wanted])]
     refine wp_append_own _ (.tmp 17) (.tmp 21) T22 rfl (bl+1) T40 i0 _ 5 40 Tryz.underlying27 hi hz0 hz1 hz2 rfl (by decide) v n (accC acc) rfl (zq7 hrl hb5) ⟨w5.heap.size,0,none⟩ 1 1 (icells i).toList rfl rfl (zl9 w5 i) (zid i) (by unfold maxLen;omega) (by omega) (zmd hrl hb5) ?_
     intro v' w6 hown6 hgr6 _
     obtain ⟨ao,n',cap,rfl⟩:=zi9 hown6
     have k6:=yala hrl hb5 hgr6
     have c6:w6.cell? ⟨w.heap.size,0,none⟩=some v:=cell_of_row w6 _ 0 _ _ _ k6
     have f6:w6.frozen? ⟨w.heap.size,0,none⟩=false:=frozen_of_row w6 _ 0 _ _ k6
     refine hK _ _ ?_;clear hK K
     refine wpAny_ready (rs:=[6]) (by kernel_rfl) (by simp) (AllReady.cons rfl (fun K hK=>?_) AllReady.nil)
     go_simp
     refine hK _ _ ?_;clear hK K
     refine wpAny_done (by kernel_rfl) ?_ _
     have hnx:=zy1 hrl Hx.out HRx.out hb5 hown6 hgr6
     go_wp2
     go_roundw
     case rel=>exact ⟨n+1,acc++[i],_,HLT.out,by go_num,hnx⟩
     case measure=>have:=HLT.out;simp [RowKit.intOf];omega
    ·go_simp
     go_wp2_with (go_at_call 44;refine (zf3 HXS.out (bm:=w.heap.size+1+1) (by exact HM.out) (by exact HGw.out.keep (Nat.le_refl _) (fun _ _=>rfl))).mono ?_;rw [HRx.out];rintro e w5 ⟨rfl,hb5⟩;have c5:w5.cell? ⟨w.heap.size,0,none⟩=some v:=cell_of_row w5 _ 0 _ _ _ ((hb5.block _ (Array.getElem?_eq_some_iff.1 hrl.l).1).trans hrl.l);have hlt5:w.heap.size<w5.heap.size:=Nat.lt_of_lt_of_le (Array.getElem?_eq_some_iff.1 hrl.l).1 hb5.size)
     refine wpAny_ready (rs:=[0,4]) (by kernel_rfl) (by simp) (AllReady.cons rfl (fun K hK=>?_) (AllReady.cons rfl (fun K hK=>?_) AllReady.nil))
     ·go_simp
      refine hK _ _ ?_;clear hK K
      refine wpAny_ready (rs:=[4]) (by kernel_rfl) (by simp) (AllReady.cons rfl (fun K hK=>?_) AllReady.nil)
      go_simp
      refine hK _ _ ?_;clear hK K
      refine wpAny_ready (rs:=[5]) (by kernel_rfl) (by simp) (AllReady.cons rfl (fun K hK=>?_) AllReady.nil)
      rw [if_pos (by simp [Region.wanted])]
      refine wp_append_own _ (.tmp 17) (.tmp 21) T22 rfl (bl+1) T40 i0 _ 5 40 Tryz.underlying27 hi hz0 hz1 hz2 rfl (by decide) v n (accC acc) rfl (zq7 hrl hb5) ⟨w5.heap.size,0,none⟩ 1 1 (icells i).toList rfl rfl (zl9 w5 i) (zid i) (by unfold maxLen;omega) (by omega) (zmd hrl hb5) ?_
      intro v' w6 hown6 hgr6 _
      obtain ⟨ao,n',cap,rfl⟩:=zi9 hown6
      have k6:=yala hrl hb5 hgr6
      have c6:w6.cell? ⟨w.heap.size,0,none⟩=some v:=cell_of_row w6 _ 0 _ _ _ k6
      have f6:w6.frozen? ⟨w.heap.size,0,none⟩=false:=frozen_of_row w6 _ 0 _ _ k6
      refine hK _ _ ?_;clear hK K
      refine wpAny_ready (rs:=[6]) (by kernel_rfl) (by simp) (AllReady.cons rfl (fun K hK=>?_) AllReady.nil)
      go_simp
      refine hK _ _ ?_;clear hK K
      refine wpAny_done (by kernel_rfl) ?_ _
      have hnx:=zy1 hrl Hx.out HRx.out hb5 hown6 hgr6
      go_wp2
      go_roundw
      case rel=>exact ⟨n+1,acc++[i],_,HLT.out,by go_num,hnx⟩
      case measure=>have:=HLT.out;simp [RowKit.intOf];omega
     ·go_simp
      refine hK _ _ ?_;clear hK K
      refine wpAny_ready (rs:=[0]) (by kernel_rfl) (by simp) (AllReady.cons rfl (fun K hK=>?_) AllReady.nil)
      go_simp
      refine hK _ _ ?_;clear hK K
      refine wpAny_ready (rs:=[5]) (by kernel_rfl) (by simp) (AllReady.cons rfl (fun K hK=>?_) AllReady.nil)
      rw [if_pos (by simp [Region.wanted])]
      refine wp_append_own _ (.tmp 17) (.tmp 21) T22 rfl (bl+1) T40 i0 _ 5 40 Tryz.underlying27 hi hz0 hz1 hz2 rfl (by decide) v n (accC acc) rfl (zq7 hrl hb5) ⟨w5.heap.size,0,none⟩ 1 1 (icells i).toList rfl rfl (zl9 w5 i) (zid i) (by unfold maxLen;omega) (by omega) (zmd hrl hb5) ?_
      intro v' w6 hown6 hgr6 _
      obtain ⟨ao,n',cap,rfl⟩:=zi9 hown6
      have k6:=yala hrl hb5 hgr6
      have c6:w6.cell? ⟨w.heap.size,0,none⟩=some v:=cell_of_row w6 _ 0 _ _ _ k6
      have f6:w6.frozen? ⟨w.heap.size,0,none⟩=false:=frozen_of_row w6 _ 0 _ _ k6
      refine hK _ _ ?_;clear hK K
      refine wpAny_ready (rs:=[6]) (by kernel_rfl) (by simp) (AllReady.cons rfl (fun K hK=>?_) AllReady.nil)
      go_simp
      refine hK _ _ ?_;clear hK K
      refine wpAny_done (by kernel_rfl) ?_ _
      have hnx:=zy1 hrl Hx.out HRx.out hb5 hown6 hgr6
      go_wp2
      go_roundw
      case rel=>exact ⟨n+1,acc++[i],_,HLT.out,by go_num,hnx⟩
      case measure=>have:=HLT.out;simp [RowKit.intOf];omega
  ·obtain rfl:n=ls.length:=by omega
   have hR2:R=some acc:=by
    rw [← HR.out,hrl.all,List.drop_length];simp [zia]
   have HR2:=Lib.hid hR2
   have hcl:wr.cell? ⟨w.heap.size,0,none⟩=some v:=cell_of_row wr _ 0 _ _ _ hrl.l
   have hfl:wr.frozen? ⟨w.heap.size,0,none⟩=false:=frozen_of_row wr _ 0 _ _ hrl.l
   have k2:(wr.setCell ⟨w.heap.size,0,none⟩ v).heap[w.heap.size+1]?=some (.cells #[.bool false] T4 (0,0)):=(heap_setCell_other _ _ _ _ (by simp)).trans hrl.ok
   have hco:(wr.setCell ⟨w.heap.size,0,none⟩ v).cell? ⟨w.heap.size+1,0,none⟩=some (.bool false):=cell_of_row _ _ 0 _ _ _ k2
   have hfo:(wr.setCell ⟨w.heap.size,0,none⟩ v).frozen? ⟨w.heap.size+1,0,none⟩=false:=frozen_of_row _ _ 0 _ _ k2
   obtain ⟨ao,n',cap,rfl⟩:=zi9 hrl.own
   clear hR2 h0 k2
   go_wp2
   refine leaves_cons (f:=40) (args:=#[.pointer (some ⟨w.heap.size,0,none⟩),.pointer (some ⟨w.heap.size+1,0,none⟩)]) (by simp) (by simp [go_sem]) ?_
   refine (yadr w.heap.size (w.heap.size+1) _).mono ?_
   rintro e u' w'' ⟨rfl,rfl,rfl⟩
   rw [HR2.out]
   exact passed hrl (by rfl) (by rfl)
theorem zqd (s:ByteArray):∀ (n i:Nat) (r:List UInt8),s.size - i=n→ByteArray.toList.loop s i r=r.reverse++s.data.toList.drop i
 | 0,i,r,h=>by
  unfold ByteArray.toList.loop
  rw [if_neg (by omega),List.drop_eq_nil_of_le (by show s.data.toList.length≤i;simp;have:s.data.size=s.size:=rfl;omega),List.append_nil]
 | n+1,i,r,h=>by
  unfold ByteArray.toList.loop
  rw [if_pos (by omega),zqd s n (i+1) _ (by omega)]
  have hi:i<s.data.toList.length:=by simp;have:s.data.size=s.size:=rfl;omega
  rw [List.drop_eq_getElem_cons hi,List.reverse_cons,List.append_assoc]
  have:s.get! i=s.data.toList[i]:=by
   have h2:i<s.data.size:=by simpa using hi
   obtain ⟨a⟩:=s
   show a[i]! = _
   rw [getElem!_pos a i h2];simp
  rw [this];rfl
theorem zep (s:ByteArray):s.toList=s.data.toList:=by
 show ByteArray.toList.loop s 0 []=_
 rw [zqd s _ 0 [] rfl];simp
def zh0 (s:ByteArray):Option (List Ins) :=
 if s.size≤4096 then
  match zia (ziq s) with
  | none=>none
  | some L=>if zan L=0∧(⟨(shown L).toArray⟩:ByteArray)=s then some L else none
 else none
def Rr (B:Nat) (w:World):Option (List Ins)→Ending→World→Prop
 | none,e,w'=>e=.returned (.tuple #[.slice none 0 0,.int .i64 1])∧Below B w w'
 | some L,e,w'=>(∃ g c,e=.returned (.tuple #[.slice (some ⟨g,0,none⟩) L.length c,.int .i64 0])∧B≤g∧PAt w' g 0 L)∧Below B w w'
theorem yaix (β:Bs):∀ L:List Ins,accC L=(pcell L).map (AC.g β)
 | []=>rfl
 | i::L=>by
  have:=yaix β L
  show (icells i).toList++accC L=(i.cs++pcell L).map (AC.g β)
  rw [List.map_append,← this]
  rfl
theorem yaw0 {w:World} {bl:Nat} {v:Value} {L:List Ins} (h:w.ownsRow bl T40 5 v L.length (accC L)) (h0:L≠[]):∃ g c,v=.slice (some ⟨g,0,none⟩) L.length c∧bl≤g∧PAt w g 0 L:=by
 rcases h.2 with ⟨_,h1⟩ | ⟨g,cap,cur,rfl,hb,hc,h1,_,h2,h3⟩
 ·exact absurd (List.length_eq_zero_iff.1 h1) h0
 ·refine ⟨g,cap,rfl,hb,(Array.getElem?_eq_some_iff.1 hc).1,fun j c hj β=>?_⟩
  rw [cell_of_row w g _ _ _ _ hc,Nat.zero_add]
  have h4:(accC L)[j]?=some (AC.g β c):=by rw [yaix β,List.getElem?_map,hj];rfl
  rw [← h3,List.getElem?_take] at h4
  split at h4
  ·simpa using h4
  ·cases h4
theorem zvp:∀ {ls:List ByteArray} {L:List Ins},zia ls=some L→L.length=ls.length
 | [],L,h=>by simp [zia] at h;subst h;rfl
 | x::ls,L,h=>by
  unfold zia at h
  split at h
  ·rw [Option.map_eq_some_iff] at h
   obtain ⟨M,hM,rfl⟩:=h
   simp [zvp hM]
  ·cases h
theorem yag7 {w w':World} {b o:Nat} {L:List Ins} (h:PAt w b o L) (hb:Below w.heap.size w w'):PAt w' b o L :=
 ⟨Nat.lt_of_lt_of_le h.1 hb.size,fun j c hj β=>by rw [hb.cell (p:=⟨b,o+j,none⟩) h.1];exact h.2 j c hj β⟩
set_option maxHeartbeats 1000000 in
theorem yajw (s:ByteArray) {w:World} (hg:Gw w):Calls Tryz.prog 7 #[.string s] w (Rr w.heap.size w (zh0 s)):=by
 unfold zh0
 by_cases hs:s.size≤4096
 ·rw [if_pos hs]
  have hrl:=zta hs hg rfl
  cases hR:zia (ziq s) with
  | none =>
   rw [hR] at hrl
   clear hR
   go_enter Tryz.func7,Tryz.ntmps7
   go_wp2_with (first
    | (go_at_call 17;refine hrl.mono ?_;rintro e w1 ⟨rfl,hb1⟩)
    | go_in)
   go_ret2
   exact ⟨rfl,hb1⟩
  | some L =>
   rw [hR] at hrl
   have hne:L≠[]:=fun e=>by
    have h1:=zvp hR
    have h2:=zmf ⟨(trimSuffix s.data.toList [10]).toArray⟩ 10
    rw [e] at h1
    have h3:(ziq s).length=countB ⟨(trimSuffix s.data.toList [10]).toArray⟩ ⟨#[10]⟩+1:=h2
    simp only [List.length_nil] at h1
    omega
   clear hR
   simp only
   have hrl2:Calls Tryz.prog 17 #[.string s] w fun e w'=>∃ g c,e=.returned (.tuple #[.slice (some ⟨g,0,none⟩) L.length c,.bool true])∧w.heap.size≤g∧PAt w' g 0 L∧Below w.heap.size w w':=hrl.mono fun e w' ⟨⟨v,bl,he,hbl,ho⟩,hb⟩=>by
    obtain ⟨g,c,rfl,hg,hp⟩:=yaw0 ho hne
    exact ⟨g,c,he,Nat.le_trans hbl hg,hp,hb⟩
   clear hrl
   by_cases he:zan L=0
   ·obtain ⟨h64,hF⟩:=zg4 he
    by_cases hsh:(⟨(shown L).toArray⟩:ByteArray)=s
    ·rw [if_pos ⟨he,hsh⟩]
     have hso:∀ {w:World} {b o c:Nat},PAt w b o L→Gw w→Calls Tryz.prog 18 #[.slice (some ⟨b,o,none⟩) L.length c] w fun e w'=>e=.returned (.tuple #[.string s,.int .i64 0])∧Below w.heap.size w w':=fun hP hg=>by rw [← hsh];exact zj4 hP hg h64 he hF
     clear hsh hF he hne
     go_enter Tryz.func7,Tryz.ntmps7
     go_wp2_with (first
      | (go_at_call 17;refine hrl2.mono ?_;rintro e w1 ⟨g,c,rfl,hg1,hp1,hb1⟩)
      | (go_at_call 18;refine (hso hp1 (hg.below hb1 hg.size')).mono ?_;rintro e w2 ⟨rfl,hb2⟩)
      | go_in)
     go_ret2
     exact ⟨⟨g,c,rfl,hg1,yag7 hp1 hb2⟩,hb1.trans (hb2.mono hb1.size)⟩
    ·rw [if_neg (fun h=>hsh h.2)]
     obtain ⟨T,hT⟩:∃ T:ByteArray,T=⟨(shown L).toArray⟩:=⟨_,rfl⟩
     have hso:∀ {w:World} {b o c:Nat},PAt w b o L→Gw w→Calls Tryz.prog 18 #[.slice (some ⟨b,o,none⟩) L.length c] w fun e w'=>e=.returned (.tuple #[.string T,.int .i64 0])∧Below w.heap.size w w':=fun hP hg=>by rw [hT];exact zj4 hP hg h64 he hF
     rw [← hT] at hsh
     have hsl:(T.toList==s.toList)=false:=by
      rw [zep,zep]
      refine beq_eq_false_iff_ne.2 fun e=>hsh ?_
      obtain ⟨⟨a⟩⟩:=T
      obtain ⟨⟨b⟩⟩:=s
      simp at e
      rw [e]
     clear hT hF he hne hsh
     go_enter Tryz.func7,Tryz.ntmps7
     go_wp2_with (first
      | (go_at_call 17;refine hrl2.mono ?_;rintro e w1 ⟨g,c,rfl,hg1,hp1,hb1⟩)
      | (go_at_call 18;refine (hso hp1 (hg.below hb1 hg.size')).mono ?_;rintro e w2 ⟨rfl,hb2⟩)
      | go_in)
     go_ret2
     exact ⟨rfl,hb1.trans (hb2.mono hb1.size)⟩
   ·rw [if_neg (fun h=>he h.1)]
    have hso:∀ {w:World} {b o c:Nat},PAt w b o L→Gw w→Calls Tryz.prog 18 #[.slice (some ⟨b,o,none⟩) L.length c] w fun e w'=>e=.returned (.tuple #[.string ⟨#[]⟩,.int .i64 (zan L)])∧Below w.heap.size w w':=fun hP hg=>yaeb hP hg he
    go_enter Tryz.func7,Tryz.ntmps7
    go_wp2_with (first
     | (go_at_call 17;refine hrl2.mono ?_;rintro e w1 ⟨g,c,rfl,hg1,hp1,hb1⟩)
     | (go_at_call 18;refine (hso hp1 (hg.below hb1 hg.size')).mono ?_;rintro e w2 ⟨rfl,hb2⟩)
     | go_in)
    go_ret2
    exact ⟨rfl,hb1.trans (hb2.mono hb1.size)⟩
 ·rw [if_neg hs]
  have hs2:4096<(s.size:Int):=by omega
  go_enter Tryz.func7,Tryz.ntmps7
  go_wp2
  go_ret2
  exact ⟨rfl,Below.refl _ _⟩
end Go.Proofs.YtkigmocchaikgabGreatDoor
namespace Go.Proofs.YtkigmocchaikgabGreatDoor
open Go.Lib
theorem zfp {u:Nat} (h:u<10):decDigits u=[UInt8.ofNat (48+u)]:=by
 unfold decDigits;rw [dif_pos h]
theorem zl8 {u:Nat} (h:¬ u<10):decDigits u=decDigits (u / 10)++[UInt8.ofNat (48+u % 10)]:=by
 rw [decDigits,dif_neg h]
theorem zrq {d:Nat} (h:d<10):(UInt8.ofNat (48+d)).toNat=48+d:=by
 rw [UInt8.toNat_ofNat'];omega
theorem zqf (u:Nat):decDigits u≠[]:=fun e=>by
 have:=decDigits_length u
 rw [e] at this
 have:=nDigits_pos u
 simp at *
 omega
theorem zjl:∀ (u:Nat),∀ c∈decDigits u,48≤c.toNat∧c.toNat≤57:=fun u=>by
 induction u using Nat.strongRecOn with
 | _ u ih =>
  intro c hc
  by_cases h:u<10
  ·rw [zfp h,List.mem_singleton] at hc
   subst hc
   rw [zrq h];omega
  ·rw [zl8 h,List.mem_append,List.mem_singleton] at hc
   rcases hc with hc | rfl
   ·exact ih (u / 10) (by omega) c hc
   ·rw [zrq (by omega)];omega
theorem ztf (M:Nat):∀ (l:List UInt8) (acc:Nat) (r:List UInt8) (v:Nat),parseUintM M acc l=.ok v→parseUintM M acc (l++r)=parseUintM M v r
 | [],acc,r,v,h=>by simp only [parseUintM] at h;injection h with h;subst h;rfl
 | c::l,acc,r,v,h=>by
  simp only [List.cons_append,parseUintM] at h ⊢
  split at h
  ·rename_i h1
   rw [if_pos h1]
   split at h
   ·cases h
   ·rename_i h2
    rw [if_neg h2]
    split at h
    ·cases h
    ·rename_i h3
     rw [if_neg h3]
     exact ztf M l _ r v h
  ·cases h
theorem zvj (u:Nat) (hu:u<18446744073709551616):parseUintM 18446744073709551615 0 (decDigits u)=.ok u:=by
 induction u using Nat.strongRecOn with
 | _ u ih =>
  by_cases h:u<10
  ·rw [zfp h]
   simp only [parseUintM,zrq h]
   rw [if_pos (by omega),if_neg (by omega),if_neg (by omega)]
   congr 1;omega
  ·rw [zl8 h,ztf _ _ _ _ _ (ih (u / 10) (by omega) (by omega))]
   simp only [parseUintM,zrq (show u % 10<10 by omega)]
   rw [if_pos (by omega),if_neg (by omega),if_neg (by omega)]
   congr 1;omega
theorem yace (x:BitVec 64):numW ⟨(decDigits x.toNat).toArray⟩=some x:=by
 have h:=zvj x.toNat (by have:=x.isLt;omega)
 have h2:parseUintB 64 (decDigits x.toNat)=.ok x.toNat:=by
  unfold parseUintB
  rw [if_neg (zqf _)]
  exact h
 show ((match parseUintB 64 (decDigits x.toNat) with | .ok n=>some n | _=>none).map (BitVec.ofNat 64))=some x
 rw [h2]
 simp
theorem yagj:∀ (l:List UInt8) (acc:Nat),parseUint10 acc l=parseUintM 18446744073709551615 acc l
 | [],_=>rfl
 | c::l,acc=>by
  simp only [parseUint10,parseUintM]
  have e:(18446744073709551616≤acc*10+(c.toNat - 48))=(18446744073709551615<acc*10+(c.toNat - 48)):=propext ⟨fun h=>by omega,fun h=>by omega⟩
  simp only [e,yagj l]
theorem yaij (u:Nat) (hu:u<18446744073709551616):parseMag (decDigits u)=.ok u:=by
 unfold parseMag
 rw [if_neg (zqf _),yagj,zvj u hu]
theorem ztr (n:Int) (h0:-64≤n) (h1:n≤64):sgnB ⟨(itoa n).toArray⟩=some n:=by
 have key:atoiAll (itoa n)=.ok n:=by
  by_cases hn:n<0
  ·rw [itoa,if_pos hn]
   unfold atoiAll
   simp only
   rw [if_pos (Or.inr (by decide)),yaij _ (by omega)]
   simp only
   rw [if_neg (by intro h;exact h.1 (by decide)),if_neg (by omega),if_pos (by decide)]
   congr 1;omega
  ·rw [itoa,if_neg hn]
   obtain ⟨c,r,hc⟩:∃ c r,decDigits n.toNat=c::r:=by
    cases h:decDigits n.toNat with
    | nil=>exact absurd h (zqf _)
    | cons c r=>exact ⟨c,r,rfl⟩
   have hd:=zjl n.toNat c (by rw [hc];simp)
   have hm:=yaij n.toNat (by omega)
   rw [hc] at hm ⊢
   unfold atoiAll
   simp only
   rw [if_neg (by omega),hm]
   simp only
   rw [if_neg (by omega),if_neg (by omega),if_neg (by omega)]
   congr 1;omega
 show (match atoiAll (itoa n) with | .ok n=>some n | _=>none)=some n
 rw [key]
theorem zn6 (n:Int) (h0:-64≤n) (h1:n≤64):regW ⟨(114::itoa n).toArray⟩=some n:=by
 have h:=ztr n h0 h1
 show (if hasPrefix (114::itoa n) [114] then sgnB ⟨(trimPrefix (114::itoa n) [114]).toArray⟩ else none)=some n
 have hp:hasPrefix (114::itoa n) [114]=true:=by simp [hasPrefix]
 rw [if_pos hp]
 have ht:trimPrefix (114::itoa n) [114]=itoa n:=by
  unfold trimPrefix;rw [if_pos hp];rfl
 rw [ht];exact h
abbrev zmg (i:Ins) (p:Int):ByteArray:=⟨(za7 i p).toArray⟩
theorem yat1 (u:Nat):hasPrefix (decDigits u) [114]=false:=by
 cases h:decDigits u with
 | nil=>exact absurd h (zqf u)
 | cons c r =>
  have:=zjl u c (by rw [h];simp)
  have hc:c≠114:=fun e=>by subst e;exact absurd this.2 (by decide)
  show ((114:UInt8)==c&&_)=false
  rw [beq_eq_false_iff_ne.2 (fun e=>hc e.symm),Bool.false_and]
theorem set0 {i:Ins} (h:Fld i) (j:Ins):setW j 0 (zmg i 0)=some { j with d:=i.d }:=by
 show (regW ⟨(114::itoa i.d).toArray⟩).map _=_
 rw [zn6 i.d h.d.1 h.d.2];rfl
theorem set1 {i:Ins} (h:Fld i) (j:Ins):setW j 1 (zmg i 1)=some { j with s:=i.s }:=by
 show (regW ⟨(114::itoa i.s).toArray⟩).map _=_
 rw [zn6 i.s h.s.1 h.s.2];rfl
theorem yaz2 {i:Ins} (h:Fld i) (hs:i.s≠-1) (j:Ins):setW j 2 (zmg i 2)=some { j with s:=i.s }:=by
 have e:zmg i 2=⟨(114::itoa i.s).toArray⟩:=by simp [zmg,za7,hs]
 have hp:hasPrefix (114::itoa i.s) [114]=true:=by simp [hasPrefix]
 rw [e]
 simp only [setW,if_neg (show ¬ (2:Int)=0 by decide)]
 rw [if_pos (Or.inr ⟨trivial,hp⟩),zn6 i.s h.s.1 h.s.2];rfl
theorem yawa {i:Ins} (hs:i.s=-1) (j:Ins):setW j 2 (zmg i 2)=some { j with s:=-1,im:=i.im }:=by
 have e:zmg i 2=⟨(decDigits i.im.toNat).toArray⟩:=by simp [zmg,za7,hs]
 have hp:=yat1 i.im.toNat
 rw [e]
 simp only [setW,if_neg (show ¬ (2:Int)=0 by decide)]
 rw [if_neg (by rintro (h | h);exact absurd h (by decide);exact absurd (hp.symm.trans h.2) (by decide)),if_pos trivial,yace];rfl
theorem set3 (i j:Ins):setW j 3 (zmg i 3)=some { j with im:=i.im }:=by
 show (numW ⟨(decDigits i.im.toNat).toArray⟩).map _=_
 rw [yace];rfl
theorem set4 {i:Ins} (h:Fld i) (j:Ins):setW j 4 (zmg i 4)=some { j with of:=i.of }:=by
 show (sgnB ⟨(itoa i.of).toArray⟩).map _=_
 rw [ztr i.of h.f.1 h.f.2];rfl
theorem ze7 {x:BitVec 64} (h:eqb x 0#64=true):x=0:=by
 simpa [eqb] using h
theorem yakb {i:Ins} (h:Fld i) (hb:zbd i=true):zec ⟨i.op,0,0,0,0⟩ (plcs i.op) ((plcs i.op).map (zmg i))=some i:=by
 have h1:=h.o1
 have h2:=h.o2
 unfold zbd at hb
 by_cases h10:i.op=10
 ·rw [show plcs i.op=[3,0,1,4] by simp [plcs,h10]]
  simp only [List.map_cons,List.map_nil,zec,set3,set0 h,set1 h,set4 h]
 by_cases h11:i.op=11
 ·rw [show plcs i.op=[3,0,4,1] by simp [plcs,h11]]
  simp only [List.map_cons,List.map_nil,zec,set3,set0 h,set1 h,set4 h]
 rw [if_neg (by omega)] at hb
 by_cases h12:i.op=12
 ·rw [if_pos h12] at hb
  simp only [Bool.and_eq_true,decide_eq_true_eq] at hb
  rw [show plcs i.op=[4] by simp [plcs,h12]]
  simp only [List.map_cons,List.map_nil,zec,set4 h]
  obtain ⟨op,d,s,im,f⟩:=i
  simp only at hb ⊢
  rw [hb.1.1,hb.1.2,ze7 hb.2]
 rw [if_neg h12] at hb
 by_cases h13:i.op=13∨i.op=14
 ·rw [if_pos h13] at hb
  rw [show plcs i.op=[0,2,4] by unfold plcs;rw [if_neg h10,if_neg h11,if_neg h12,if_pos h13]]
  by_cases hs:i.s=-1
  ·simp only [List.map_cons,List.map_nil,zec,set0 h,yawa hs,set4 h]
   obtain ⟨op,d,s,im,f⟩:=i
   simp only at hs ⊢
   rw [hs]
  ·simp only [Bool.or_eq_true,decide_eq_true_eq] at hb
   have hm:=ze7 (hb.resolve_left hs)
   simp only [List.map_cons,List.map_nil,zec,set0 h,yaz2 h hs,set4 h]
   obtain ⟨op,d,s,im,f⟩:=i
   simp only at hm ⊢
   rw [hm]
 rw [if_neg h13] at hb
 by_cases h15:i.op=15
 ·rw [if_pos h15] at hb
  simp only [Bool.and_eq_true,decide_eq_true_eq] at hb
  rw [show plcs i.op=[] by simp [plcs,h15]]
  obtain ⟨op,d,s,im,f⟩:=i
  simp only [zec] at hb ⊢
  rw [hb.1.1.1,hb.1.1.2,ze7 hb.1.2,hb.2]
 rw [if_neg h15] at hb
 simp only [Bool.and_eq_true,Bool.or_eq_true,decide_eq_true_eq] at hb
 rw [show plcs i.op=[0,2] by unfold plcs;rw [if_neg h10,if_neg h11,if_neg h12,if_neg h13,if_neg h15]]
 by_cases hs:i.s=-1
 ·simp only [List.map_cons,List.map_nil,zec,set0 h,yawa hs]
  obtain ⟨op,d,s,im,f⟩:=i
  simp only at hs hb ⊢
  rw [hs,hb.1]
 ·have hm:=ze7 (hb.2.resolve_left hs)
  simp only [List.map_cons,List.map_nil,zec,set0 h,yaz2 h hs]
  obtain ⟨op,d,s,im,f⟩:=i
  simp only at hm hb ⊢
  rw [hm,hb.1]
theorem zpo (c:UInt8):∀ w:List UInt8,c∉w→index w [c]=-1
 | [],_=>rfl
 | b::w,h=>by
  simp only [List.mem_cons,not_or] at h
  unfold index
  have hp:[c].isPrefixOf (b::w)=false:=by
   show (c==b&&_)=false
   rw [beq_eq_false_iff_ne.2 h.1,Bool.false_and]
  rw [hp,zpo c w h.2]
  rfl
theorem yabj (c:UInt8) (r:List UInt8):∀ w:List UInt8,c∉w→index (w++c::r) [c]=w.length
 | [],_=>by
  show index (c::r) [c]=0
  unfold index
  rw [if_pos (by show (c==c&&_)=true;simp)]
 | b::w,h=>by
  simp only [List.mem_cons,not_or] at h
  have ih:=yabj c r w h.2
  rw [List.cons_append]
  unfold index
  have hp:[c].isPrefixOf (b::(w++c::r))=false:=by
   show (c==b&&_)=false
   rw [beq_eq_false_iff_ne.2 h.1,Bool.false_and]
  rw [hp,ih,if_neg (by decide),if_neg (by simp),List.length_cons]
  omega
def zfh (c:UInt8):List (List UInt8)→List UInt8
 | []=>[]
 | [w]=>w
 | w::x::ws=>w++c::zfh c (x::ws)
theorem zpq (c:UInt8):∀ (ws:List (List UInt8)),ws≠[]→(∀ w∈ws,c∉w)→Lib.split (zfh c ws) [c]=ws
 | [],h,_=>absurd rfl h
 | [w],_,h=>by
  have hi:=zpo c w (h w (by simp))
  show splitK [c] 0 (count w [c]) w=[w]
  rw [count_miss hi];rfl
 | w::x::ws,_,h=>by
  have hi:=yabj c (zfh c (x::ws)) w (h w (by simp))
  have ih:=zpq c (x::ws) (by simp) (fun y hy=>h y (List.mem_cons_of_mem _ hy))
  show splitK [c] 0 (count (w++c::zfh c (x::ws)) [c]) (w++c::zfh c (x::ws))=_
  have hd:(w++c::zfh c (x::ws)).drop (w.length+[c].length)=zfh c (x::ws):=by
   rw [List.drop_append];simp
  rw [count_hit (by simp) hi,hd,Nat.add_comm]
  unfold splitK
  rw [if_neg (by rw [hi];simp),hi]
  have hn:((w.length:Int)).toNat=w.length:=by omega
  rw [hn,hd,Nat.add_zero,List.take_left]
  exact congrArg _ ih
theorem yacx (s:ByteArray) (c:UInt8):(zf1 s c).map (·.data.toList)=Lib.split s.data.toList [c]:=splitB_data _ _ _ _
theorem zqk {c:UInt8} {s:ByteArray} {ws:List (List UInt8)} (hs:s.data.toList=zfh c ws) (h0:ws≠[]) (h:∀ w∈ws,c∉w):zf1 s c=ws.map fun l=>⟨l.toArray⟩:=by
 have h1:=yacx s c
 rw [hs,zpq c ws h0 h] at h1
 have h2:(zf1 s c).map (fun b:ByteArray=>(⟨b.data.toList.toArray⟩:ByteArray))=ws.map fun l=>⟨l.toArray⟩:=by
  rw [← h1,List.map_map];rfl
 rw [← h2]
 have:∀ l:List ByteArray,l.map (fun b:ByteArray=>(⟨b.data.toList.toArray⟩:ByteArray))=l:=fun l=>by
  induction l with
  | nil=>rfl
  | cons a l ih=>simp only [List.map_cons,ih]
 exact (this _).symm
theorem yail {c:UInt8} (hc:c.toNat<48) (u:Nat):c∉decDigits u:=fun h=>by
 have:=zjl u c h;omega
theorem zx7 {c:UInt8} (hc:c.toNat<45) (n:Int):c∉itoa n:=by
 unfold itoa
 split
 ·intro h
  rw [List.mem_cons] at h
  rcases h with rfl | h
  ·exact absurd hc (by decide)
  ·exact yail (by omega) _ h
 ·exact yail (by omega) _
theorem zxx {c:UInt8} (hc:c.toNat<45) (i:Ins) (p:Int):c∉za7 i p:=by
 have h114:c≠114:=fun e=>by subst e;exact absurd hc (by decide)
 unfold za7
 repeat' split
 ·simp only [List.mem_cons,not_or];exact ⟨h114,zx7 hc _⟩
 ·simp only [List.mem_cons,not_or];exact ⟨h114,zx7 hc _⟩
 ·exact zx7 hc _
 ·exact yail (by omega) _
theorem yarj {c:UInt8} (hc:c.toNat<45) (k:Nat) (hk:k<15):c∉nmL k:=fun h=>by
 have:∀ k,k<15→∀ x∈nmL k,45≤x.toNat:=by decide
 have:=this k hk c h
 omega
theorem znt (i:Ins):∀ (nm:List UInt8) (ps:List Int),nm++zeg i ps=zfh 32 (nm::ps.map (za7 i))
 | nm,[]=>by simp [zeg,zfh]
 | nm,p::ps=>by
  have ih:=znt i (za7 i p) ps
  show nm++(32::za7 i p++zeg i ps)=nm++32::zfh 32 (za7 i p::ps.map (za7 i))
  rw [← ih];rfl
def zdr (i:Ins):List UInt8:=nmL (i.op - 1).toNat++zeg i (plcs i.op)
theorem zwx {i:Ins} (h:Fld i) (hb:zbd i=true) {s:ByteArray} (hs:s.data.toList=zdr i):zmp s=some i:=by
 have h1:=h.o1
 have h2:=h.o2
 obtain ⟨k,hk⟩:∃ k:Nat,i.op=(k:Int)+1:=⟨(i.op - 1).toNat,by omega⟩
 have hk15:k<15:=by omega
 have hw:zf1 s 32=(nmL k::(plcs i.op).map (za7 i)).map fun l=>⟨l.toArray⟩:=by
  refine zqk (c:=32) ?_ (by simp) ?_
  ·rw [hs,zdr,show (i.op - 1).toNat=k by omega,znt]
  ·intro w hw
   rw [List.mem_cons,List.mem_map] at hw
   rcases hw with rfl | ⟨p,_,rfl⟩
   ·exact yarj (by decide) k hk15
   ·exact zxx (by decide) i p
 unfold zmp
 rw [hw]
 unfold zr5
 simp only [List.map_cons,List.headD_cons,List.tail_cons,List.length_cons,List.length_map]
 rw [zlp k hk15]
 simp only
 rw [← hk,if_pos (by omega),List.map_map]
 exact yakb h hb
theorem yajq {i:Ins} (h:Fld i):(10:UInt8)∉zdr i:=by
 have h1:=h.o1
 have h2:=h.o2
 unfold zdr
 rw [List.mem_append,not_or]
 refine ⟨yarj (by decide) _ (by omega),?_⟩
 unfold zeg
 rw [List.mem_flatMap]
 rintro ⟨p,_,hp⟩
 rw [List.mem_cons] at hp
 rcases hp with hp | hp
 ·exact absurd hp (by decide)
 ·exact zxx (by decide) i p hp
theorem zjv:∀ (i:Ins) (L:List Ins),shown (i::L)=zfh 10 ((i::L).map zdr)++[10]
 | i,[]=>by simp [shown,zgj,zdr,zfh]
 | i,j::L=>by
  have ih:=zjv j L
  have e:shown (i::j::L)=zdr i++10::shown (j::L):=by simp [shown,zgj,zdr]
  rw [e,ih]
  show _=(zdr i++10::zfh 10 ((j::L).map zdr))++[10]
  simp
theorem yaso (l:List UInt8):trimSuffix (l++[10]) [10]=l:=by
 have hp:hasSuffix (l++[10]) [10]=true:=by
  unfold hasSuffix
  simp
 unfold trimSuffix
 rw [if_pos hp]
 simp
theorem zp0:∀ {L:List Ins},(∀ i∈L,Fld i∧zbd i=true)→zia ((L.map zdr).map fun l=>⟨l.toArray⟩)=some L
 | [],_=>rfl
 | i::L,h=>by
  have h1:=h i (by simp)
  have ih:=zp0 (L:=L) fun x hx=>h x (by simp [hx])
  simp only [List.map_cons,zia]
  rw [zwx h1.1 h1.2 (s:=⟨(zdr i).toArray⟩) (by simp)]
  simp only
  rw [ih];rfl
theorem zyi {L:List Ins} (h:zan L=0):∀ i∈L,zbd i=true:=by
 unfold zan at h
 repeat' split at h
 all_goals try omega
 rename_i h4 _
 intro i hi
 have h4':L.all zbd=true:=by simpa using h4
 exact List.all_eq_true.1 h4' i hi
theorem zom {L:List Ins} (h:zan L=0) (hs:(⟨(shown L).toArray⟩:ByteArray).size≤4096):zh0 ⟨(shown L).toArray⟩=some L:=by
 obtain ⟨_,hF⟩:=zg4 h
 have hB:=zyi h
 have hl:zia (ziq ⟨(shown L).toArray⟩)=some L:=by
  cases L with
  | nil=>simp [zan] at h
  | cons i M =>
   have hw:ziq ⟨(shown (i::M)).toArray⟩=((i::M).map zdr).map fun l=>⟨l.toArray⟩:=by
    refine zqk (c:=10) ?_ (by simp) ?_
    ·show trimSuffix (shown (i::M)) [10]=_
     rw [zjv,yaso]
    ·intro w hw
     rw [List.mem_map] at hw
     obtain ⟨x,hx,rfl⟩:=hw
     exact yajq (hF x hx)
   rw [hw]
   exact zp0 fun x hx=>⟨hF x hx,hB x hx⟩
 unfold zh0
 rw [if_pos hs,hl]
 simp only
 rw [if_pos ⟨h,trivial⟩]
end Go.Proofs.YtkigmocchaikgabGreatDoor
namespace Go.Proofs.YtkigmocchaikgabGreatDoor
open Go.RowKit Go.Lib
def cutL (c:UInt8):Nat→List UInt8→List UInt8→List (List UInt8)
 | 0,_,_=>[]
 | _+1,cur,[]=>[cur]
 | k+1,cur,x::xs=>if x=c then cur::cutL c k [] xs else cutL c (k+1) (cur++[x]) xs
theorem zn7 (c:UInt8) (k:Nat):∀ (w cur r:List UInt8),c∉w→cutL c (k+1) cur (w++r)=cutL c (k+1) (cur++w) r
 | [],cur,r,_=>by simp
 | b::w,cur,r,h=>by
  simp only [List.mem_cons,not_or] at h
  rw [List.cons_append,cutL,if_neg (fun e=>h.1 e.symm),zn7 c k w _ r h.2]
  simp
theorem zmh (c:UInt8):∀ (ws:List (List UInt8)) (k:Nat),ws≠[]→(∀ w∈ws,c∉w)→ws.length≤k→cutL c k [] (zfh c ws)=ws
 | [],_,h,_,_=>absurd rfl h
 | _::_,0,_,_,hk=>absurd hk (by simp)
 | [w],k+1,_,h,_=>by
  have:=zn7 c k w [] [] (h w (by simp))
  simp only [List.append_nil,List.nil_append] at this
  show cutL c (k+1) [] w=[w]
  rw [this];rfl
 | w::x::ws,k+1,_,h,hk=>by
  show cutL c (k+1) [] (w++c::zfh c (x::ws))=_
  rw [zn7 c k w [] _ (h w (by simp)),List.nil_append,cutL,if_pos rfl,zmh c (x::ws) k (by simp) (fun y hy=>h y (List.mem_cons_of_mem _ hy)) (by simp at hk ⊢;omega)]
theorem znq (c:UInt8) (k:Nat):∀ (r cur:List UInt8),cutL c (k+1) cur r≠[]
 | [],_=>by simp [cutL]
 | x::r,cur=>by
  rw [cutL]
  split
  ·simp
  ·exact znq c k r _
theorem zhp (c:UInt8):∀ (r cur:List UInt8) (k:Nat),(cutL c k cur r).length≤k
 | _,_,0=>by simp [cutL]
 | [],_,_+1=>by simp [cutL]
 | x::r,cur,k+1=>by
  rw [cutL]
  split
  ·have:=zhp c r [] k;simp only [List.length_cons];omega
  ·exact zhp c r _ (k+1)
theorem zx6 (c:UInt8):∀ (r cur:List UInt8) (k n:Nat),cur.length+r.length≤n→∀ w∈cutL c k cur r,w.length≤n
 | _,_,0,_,_=>by simp [cutL]
 | [],cur,_+1,n,h=>by simp [cutL];simpa using h
 | x::r,cur,k+1,n,h=>by
  simp only [List.length_cons] at h
  rw [cutL]
  split
  ·intro w hw
   rw [List.mem_cons] at hw
   rcases hw with rfl | hw
   ·omega
   ·exact zx6 c r [] k n (by simp;omega) w hw
  ·exact zx6 c r _ (k+1) n (by simp;omega)
def digV (n:BitVec 64) (c:UInt8):BitVec 64:=badd (bmul 10#64 n) ((c.toBitVec - 48#8).setWidth 64)
def valP (l:List UInt8):BitVec 64:=(l.take 20).foldl digV 0#64
theorem yaao {u:Nat} (_hu:u<18446744073709551616):digV (BitVec.ofNat 64 (u / 10)) (UInt8.ofNat (48+u % 10))=BitVec.ofNat 64 u:=by
 have e:∀ d,d<10→((UInt8.ofNat (48+d)).toBitVec - 48#8).setWidth 64=BitVec.ofNat 64 d:=by decide
 unfold digV
 rw [e _ (Nat.mod_lt _ (by decide))]
 show 10#64*_+_=_
 apply BitVec.eq_of_toNat_eq
 simp only [BitVec.toNat_add,BitVec.toNat_mul,BitVec.toNat_ofNat]
 omega
theorem yan8 (u:Nat) (hu:u<18446744073709551616):(decDigits u).foldl digV 0#64=BitVec.ofNat 64 u:=by
 induction u using Nat.strongRecOn with
 | _ u ih =>
  by_cases h:u<10
  ·rw [zfp h]
   have:=yaao (u:=u) hu
   rw [show u / 10=0 by omega,show u % 10=u by omega] at this
   exact this
  ·rw [zl8 h,List.foldl_append,ih (u / 10) (by omega) (by omega)]
   exact yaao hu
theorem zwq (u:Nat) (hu:u<18446744073709551616):valP (decDigits u)=BitVec.ofNat 64 u:=by
 unfold valP
 rw [List.take_of_length_le (by rw [decDigits_length];exact nDigits_le20 _ hu)]
 exact yan8 u hu
theorem yaw4 (x:BitVec 64):valP (decDigits x.toNat)=x:=by
 rw [zwq _ (by have:=x.isLt;omega)];simp
def zgk (l:List UInt8):Int :=
 if 4<l.length then 0
 else if l.head?=some 45 then IntKind.i64.wrap (0 - IntKind.i64.wrap (nv (valP l.tail)))
 else IntKind.i64.wrap (nv (valP l))
theorem yacl {u:Nat} (h:u≤64):nv (BitVec.ofNat 64 u)=(u:Int):=by
 show ((BitVec.ofNat 64 u).toNat:Int)=_
 rw [BitVec.toNat_ofNat];omega
theorem zz6 {u:Nat} (h:u≤64):(decDigits u).length≤2:=by
 by_cases h1:u<10
 ·rw [zfp h1];simp
 ·rw [zl8 h1,zfp (show u / 10<10 by omega)];simp
theorem yaba (u:Nat):∀ c:UInt8,c.toNat<48∨57<c.toNat→(decDigits u).head?≠some c:=fun c hc e=>by
 cases h:decDigits u with
 | nil=>exact absurd h (zqf _)
 | cons b r =>
  rw [h] at e
  simp only [List.head?_cons,Option.some.injEq] at e
  have:=zjl u b (by rw [h];simp)
  rw [e] at this
  omega
theorem zph (n:Int) (h0:-64≤n) (h1:n≤64):zgk (itoa n)=n:=by
 by_cases hn:n<0
 ·have hl:=zz6 (u:=(-n).toNat) (by omega)
  rw [itoa,if_pos hn]
  unfold zgk
  rw [show (-n).toNat=n.natAbs by omega] at hl
  rw [if_neg (by simp only [List.length_cons];omega),if_pos (by simp),List.tail_cons,zwq _ (by omega),yacl (by omega),IntKind.wrap_i64,IntKind.wrap_i64]
  omega
 ·have hl:=zz6 (u:=n.toNat) (by omega)
  rw [itoa,if_neg hn]
  unfold zgk
  rw [if_neg (by omega),if_neg (yaba _ 45 (by decide)),zwq _ (by omega),yacl (by omega),IntKind.wrap_i64]
  omega
def regP (l:List UInt8):Int:=if l.length<2 then 0 else zgk l.tail
theorem yavc (n:Int):itoa n≠[]:=by
 unfold itoa
 split
 ·simp
 ·exact zqf _
theorem zq6 (n:Int) (h0:-64≤n) (h1:n≤64):regP (114::itoa n)=n:=by
 unfold regP
 have:=List.length_pos_iff.2 (yavc n)
 rw [if_neg (by simp only [List.length_cons];omega),List.tail_cons]
 exact zph n h0 h1
def opP (l:List UInt8):Int:=match zjx l with | some k=>(k:Int)+1 | none=>0
def zoy (i:Ins) (l:List UInt8):Ins:=if l.head?=some 114 then { i with s:=regP l } else { i with s:=-1,im:=valP l }
def yak9 (o:Int) (w1 w2 w3 w4:List UInt8):Ins :=
 if 1≤o∧o≤9 then zoy ⟨o,regP w1,0,0,0⟩ w2
 else if o=10 then ⟨10,regP w2,regP w3,valP w1,zgk w4⟩
 else if o=11 then ⟨11,regP w2,regP w4,valP w1,zgk w3⟩
 else if o=13∨o=14 then { zoy ⟨o,regP w1,0,0,0⟩ w2 with of:=zgk w3 }
 else if o=12 then ⟨12,0,0,0,zgk w1⟩
 else ⟨o,0,0,0,0⟩
def yaak (w:List (List UInt8)):Ins:=yak9 (opP (w.getD 0 [])) (w.getD 1 []) (w.getD 2 []) (w.getD 3 []) (w.getD 4 [])
def zdu (l:List UInt8):Ins:=yaak (cutL 32 6 [] l)
theorem yanb {i:Ins} (h:Fld i):regP (za7 i 0)=i.d:=by
 show regP (114::itoa i.d)=_
 exact zq6 _ h.d.1 h.d.2
theorem yav7 {i:Ins} (h:Fld i):regP (za7 i 1)=i.s:=by
 show regP (114::itoa i.s)=_
 exact zq6 _ h.s.1 h.s.2
theorem yawq (i:Ins):valP (za7 i 3)=i.im:=yaw4 i.im
theorem yal7 {i:Ins} (h:Fld i):zgk (za7 i 4)=i.of:=zph _ h.f.1 h.f.2
theorem yaqf {i:Ins} (h:Fld i) (hs:i.s≠-1) (j:Ins):zoy j (za7 i 2)={ j with s:=i.s }:=by
 have e:za7 i 2=114::itoa i.s:=by simp [za7,hs]
 rw [e,zoy,if_pos (by simp),zq6 _ h.s.1 h.s.2]
theorem yaqu {i:Ins} (hs:i.s=-1) (j:Ins):zoy j (za7 i 2)={ j with s:=-1,im:=i.im }:=by
 have e:za7 i 2=decDigits i.im.toNat:=by simp [za7,hs]
 rw [e,zoy,if_neg (yaba _ 114 (by decide)),yaw4]
theorem yafh {i:Ins} (h:Fld i) (hb:zbd i=true):zdu (zdr i)=i:=by
 have h1:=h.o1
 have h2:=h.o2
 obtain ⟨k,hk⟩:∃ k:Nat,i.op=(k:Int)+1:=⟨(i.op - 1).toNat,by omega⟩
 have hk15:k<15:=by omega
 have hw:cutL 32 6 [] (zdr i)=nmL k::(plcs i.op).map (za7 i):=by
  rw [zdr,show (i.op - 1).toNat=k by omega,znt]
  refine zmh 32 _ 6 (by simp) ?_ ?_
  ·intro w hw
   rw [List.mem_cons,List.mem_map] at hw
   rcases hw with rfl | ⟨p,_,rfl⟩
   ·exact yarj (by decide) k hk15
   ·exact zxx (by decide) i p
  ·have:=zhs i.op
   simp only [List.length_cons,List.length_map];omega
 have ho:opP (nmL k)=i.op:=by unfold opP;rw [zlp k hk15,hk]
 unfold zdu
 rw [hw]
 unfold yaak
 rw [List.getD_cons_zero,ho]
 simp only [List.getD_cons_succ]
 unfold yak9
 unfold zbd at hb
 by_cases h10:i.op=10
 ·rw [if_neg (by omega),if_pos h10,show plcs i.op=[3,0,1,4] by simp [plcs,h10]]
  simp only [List.map_cons,List.map_nil,List.getD_cons_zero,List.getD_cons_succ,yawq,yanb h,yav7 h,yal7 h]
  rw [← h10]
 by_cases h11:i.op=11
 ·rw [if_neg (by omega),if_neg h10,if_pos h11,show plcs i.op=[3,0,4,1] by simp [plcs,h11]]
  simp only [List.map_cons,List.map_nil,List.getD_cons_zero,List.getD_cons_succ,yawq,yanb h,yav7 h,yal7 h]
  rw [← h11]
 rw [if_neg (by omega)] at hb
 by_cases h12:i.op=12
 ·rw [if_pos h12] at hb
  simp only [Bool.and_eq_true,decide_eq_true_eq] at hb
  rw [if_neg (by omega),if_neg h10,if_neg h11,if_neg (by omega),if_pos h12,show plcs i.op=[4] by simp [plcs,h12]]
  simp only [List.map_cons,List.map_nil,List.getD_cons_zero,yal7 h]
  obtain ⟨op,d,s,im,f⟩:=i
  simp only at hb h12 ⊢
  rw [hb.1.1,hb.1.2,ze7 hb.2,h12]
 rw [if_neg h12] at hb
 by_cases h13:i.op=13∨i.op=14
 ·rw [if_pos h13] at hb
  rw [if_neg (by omega),if_neg h10,if_neg h11,if_pos h13,show plcs i.op=[0,2,4] by unfold plcs;rw [if_neg h10,if_neg h11,if_neg h12,if_pos h13]]
  simp only [List.map_cons,List.map_nil,List.getD_cons_zero,List.getD_cons_succ,yanb h,yal7 h]
  by_cases hs:i.s=-1
  ·rw [yaqu hs]
   obtain ⟨op,d,s,im,f⟩:=i
   simp only at hs ⊢
   rw [hs]
  ·simp only [Bool.or_eq_true,decide_eq_true_eq] at hb
   have hm:=ze7 (hb.resolve_left hs)
   rw [yaqf h hs]
   obtain ⟨op,d,s,im,f⟩:=i
   simp only at hm ⊢
   rw [hm]
 rw [if_neg h13] at hb
 by_cases h15:i.op=15
 ·rw [if_pos h15] at hb
  simp only [Bool.and_eq_true,decide_eq_true_eq] at hb
  rw [if_neg (by omega),if_neg h10,if_neg h11,if_neg h13,if_neg h12]
  obtain ⟨op,d,s,im,f⟩:=i
  simp only at hb ⊢
  rw [hb.1.1.1,hb.1.1.2,ze7 hb.1.2,hb.2]
 rw [if_neg h15] at hb
 simp only [Bool.and_eq_true,Bool.or_eq_true,decide_eq_true_eq] at hb
 rw [if_pos (by omega),show plcs i.op=[0,2] by unfold plcs;rw [if_neg h10,if_neg h11,if_neg h12,if_neg h13,if_neg h15]]
 simp only [List.map_cons,List.map_nil,List.getD_cons_zero,List.getD_cons_succ,yanb h]
 by_cases hs:i.s=-1
 ·rw [yaqu hs]
  obtain ⟨op,d,s,im,f⟩:=i
  simp only at hs hb ⊢
  rw [hs,hb.1]
 ·have hm:=ze7 (hb.2.resolve_left hs)
  rw [yaqf h hs]
  obtain ⟨op,d,s,im,f⟩:=i
  simp only at hm hb ⊢
  rw [hm,hb.1]
def zhy (s:ByteArray):List Ins:=(cutL 10 66 [] s.data.toList).dropLast.map zdu
def zym (s:ByteArray):Option (List Ins) :=
 if s.size≤4096 then
  if zan (zhy s)=0∧(⟨(shown (zhy s)).toArray⟩:ByteArray)=s then some (zhy s) else none
 else none
theorem zu2 (c:UInt8):∀ (w:List UInt8) (ws:List (List UInt8)),zfh c (w::ws)++[c]=zfh c ((w::ws)++[[]])
 | w,[]=>by simp [zfh]
 | w,x::ws=>by
  have ih:=zu2 c x ws
  show (w++c::zfh c (x::ws))++[c]=w++c::zfh c ((x::ws)++[[]])
  rw [← ih];simp
theorem yaei {L:List Ins} (h:zan L=0) {s:ByteArray} (hs:s.data.toList=shown L):zhy s=L:=by
 obtain ⟨h64,hF⟩:=zg4 h
 have hB:=zyi h
 cases L with
 | nil=>simp [zan] at h
 | cons i M =>
  unfold zhy
  rw [hs,zjv]
  have e:(i::M).map zdr=zdr i::M.map zdr:=rfl
  rw [e,zu2,zmh 10 _ 66 (by simp),List.dropLast_concat,← e,List.map_map]
  ·refine (List.map_congr_left (g:=id) fun x hx=>yafh (hF x hx) (hB x hx)).trans (List.map_id _)
  ·intro w hw
   rw [List.mem_append,← e,List.mem_map,List.mem_singleton] at hw
   rcases hw with ⟨x,hx,rfl⟩ | rfl
   ·exact yajq (hF x hx)
   ·simp
  ·simp only [List.length_append,List.length_cons,List.length_map,List.length_nil] at h64 ⊢;omega
theorem yafi {s:ByteArray} {L:List Ins} (h:zh0 s=some L):s.size≤4096:=by
 unfold zh0 at h
 split at h
 ·assumption
 ·cases h
theorem zof {s:ByteArray} {L:List Ins} (h:zh0 s=some L):zan L=0∧(⟨(shown L).toArray⟩:ByteArray)=s:=by
 unfold zh0 at h
 split at h
 ·split at h
  ·cases h
  ·split at h
   ·rename_i h1
    injection h with h
    subst h
    exact h1
   ·cases h
 ·cases h
theorem yab6 (s:ByteArray):zym s=zh0 s:=by
 cases hr:zh0 s with
 | some L =>
  obtain ⟨he,ht⟩:=zof hr
  have hl:zhy s=L:=yaei he (by rw [← ht])
  unfold zym
  rw [if_pos (yafi hr),hl,if_pos ⟨he,ht⟩]
 | none =>
  unfold zym
  split
  ·rename_i hs
   split
   ·rename_i h1
    have h2:=zom h1.1 (by rw [h1.2];exact hs)
    rw [h1.2,hr] at h2
    cases h2
   ·rfl
  ·rfl
end Go.Proofs.YtkigmocchaikgabGreatDoor
namespace Go.Proofs.YtkigmocchaikgabGreatDoor
open Go.RowKit
theorem zbh {K:Nat} {en e:Ent} {k:Nat} (h:look [(K,en)] k=some e):k=K∧e=en:=by
 rw [zav] at h
 split at h
 ·rename_i hk;injection h with h;exact ⟨hk,h.symm⟩
 ·cases h
theorem zel (a b:Nat):swp a b a=b:=by unfold swp;rw [if_pos rfl]
theorem zfo {a b j:Nat} (h1:j≠a) (h2:j≠b):swp a b j=j:=by unfold swp;rw [if_neg h1,if_neg h2]
theorem zo8 {ρ:Nat→Nat} {L:List Ins} (h:ρ 0=0):renH ρ (pH L)=pH L:=by
 show [(ρ 0,Ent.mk false ((pcell L).map (AC.ren ρ)) 0)]=_
 rw [zck _ (zaj L),h]
theorem yaxj {T:List (Nat×AV)} {n:Nat} (h:(T.flatMap fun x=>x.2.ks).all (fun k=>Nat.blt k n)=true) (t:Nat) (v:AV) (hv:look T t=some v) (k:Nat) (hk:k∈v.ks):k<n:=by
 have h1:k∈T.flatMap fun x=>x.2.ks:=List.mem_flatMap.2 ⟨(t,v),zdy hv,hk⟩
 have h2:=List.all_eq_true.1 h k h1
 simpa using h2
theorem zmm {w w':World} {β:Bs} {v:AV} {k r:Nat} {b:Bool} {cs:List AC} {en:Ending} (h:REff w β ⟨v,[],some (k,⟨b,cs,r⟩)⟩ en w'):REff w β ⟨v,[],some (k,⟨b,cs,0⟩)⟩ en w':=by
 obtain ⟨β',he,hu⟩:=h
 obtain ⟨x,o,c,h1,h2,h3,h4⟩:=hu.nw
 exact ⟨β',he,hu.frame,hu.wr,x,o,c,h1,h2,h3,h4.lt,h4.cell,h4.free,fun h=>absurd rfl h⟩
theorem zzx {P:Program} {f:FuncId} {C:Cx} {N:Nat} {todo:List Item} {σ:Kn} {R R':Ending→World→Prop} (h:ART P f C N todo σ R) (k:∀ e w,R e w→R' e w):ART P f C N todo σ R':=fun β a w hr cs=>by
 obtain ⟨e,w',fr,h1,h2⟩:=h β a w hr cs
 exact ⟨e,w',fr,k e w' h1,h2⟩
theorem zje {P:Program} {f:Nat} {args:List AV} {H:List (Nat×Ent)} {v:AV} {k r:Nat} {b:Bool} {cs:List AC} (h:CallOK P ⟨f,args,H,⟨v,[],some (k,⟨b,cs,r⟩)⟩⟩):CallOK P ⟨f,args,H,⟨v,[],some (k,⟨b,cs,0⟩)⟩⟩:=by
 refine ⟨⟨h.keys.v,h.keys.wr,fun j en hj c hc i hi=>?_⟩,h.wr,fun β w hgw hgx hB hI=>(h.call β w hgw hgx hB hI).mono fun e w' he=>zmm he⟩
 injection hj with hj;injection hj with h1 h2;subst h1 h2
 exact h.keys.nw k ⟨b,cs,r⟩ rfl c hc i hi
def Kn.ren (ρ:Nat→Nat) (σ:Kn) (n:Nat):Kn:=⟨σ.T.map fun x=>(x.1,x.2.ren ρ),renH ρ σ.H,n⟩
theorem zsa (a b j:Nat):swp a b (swp a b j)=j:=by
 unfold swp
 split <;> (try split) <;> (try split) <;> omega
theorem zs9 (ρ:Nat→Nat):∀ (T:List (Nat×AV)) (t:Nat) (v:AV),look (T.map fun x=>(x.1,x.2.ren ρ)) t=some v→∃ u,look T t=some u∧v=u.ren ρ
 | [],_,_,h=>by cases h
 | (s,x)::T,t,v,h=>by
  simp only [List.map_cons,zav] at h ⊢
  split at h
  ·rename_i hk
   injection h with h
   exact ⟨x,by rw [if_pos hk],h.symm⟩
  ·rename_i hk
   obtain ⟨u,h1,h2⟩:=zs9 ρ T t v h
   exact ⟨u,by rw [if_neg hk];exact h1,h2⟩
theorem ART.ren {P:Program} {f:FuncId} {C:Cx} {N:Nat} {todo:List Item} {σ σ':Kn} {R:Ending→World→Prop} (ρ:Nat→Nat) (n:Nat) (hρ:∀ k,ρ (ρ k)=k) (he:σ.ren ρ n=σ') (hF:∀ k,C.F k→ρ k=k∧k<n) (hl:σ'.Low) (h:ART P f C N todo σ' R):ART P f C N todo σ R:=fun β a w hr=>by
 subst he
 have hi:∀ i j,ρ i=ρ j→i=j:=fun i j e=>by rw [← hρ i,e,hρ j]
 have hb:(fun k=>(fun k=>β (ρ k)) (ρ k))=β:=funext fun k=>by simp only [hρ]
 refine h (fun k=>β (ρ k)) a w ⟨hr.size,hr.defers,fun t v hv=>?_,fun k e hk=>?_,fun k e k' e' hk hk' hne hw hc hc'=>?_,hr.frame,fun k hk=>⟨(hF k hk).2,?_⟩,hr.gd⟩
 ·obtain ⟨u,h1,rfl⟩:=zs9 ρ σ.T t v hv
  refine ⟨?_,hl.1 t _ hv⟩
  rw [AV.ren_g,hb]
  exact (hr.tmp t u h1).1
 ·have hk0:=hk
  obtain ⟨j,e',rfl,h1,rfl⟩:=zol hi hk
  obtain ⟨_,h3,_,h5⟩:=hr.blk j e' h1
  refine ⟨(hl.2 _ _ hk0).1,blk_ren.2 (by rw [hb];exact h3),(hl.2 _ _ hk0).2,fun hw=>?_⟩
  simp only [hρ]
  exact h5 hw
 ·obtain ⟨j,e1,rfl,h1,rfl⟩:=zol hi hk
  obtain ⟨j',e1',rfl,h1',rfl⟩:=zol hi hk'
  simp only [hρ]
  exact hr.inj j e1 j' e1' h1 h1' (fun e=>hne (by rw [e])) hw (fun e=>hc (by simp [Ent.ren,e])) (fun e=>hc' (by simp [Ent.ren,e]))
 ·simp only [(hF k hk).1]
  exact (hr.fix k hk).2
end Go.Proofs.YtkigmocchaikgabGreatDoor
