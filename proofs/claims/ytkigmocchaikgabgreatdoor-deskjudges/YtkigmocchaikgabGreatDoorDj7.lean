import Derived.Test.YtkigmocchaikgabGreatDoorDj2
import Derived.Test.YtkigmocchaikgabGreatDoorProg
import Derived.Test.YtkigmocchaikgabGreatDoorDj4
import Derived.BigRegion
import Derived.Deep.CutBlock
import Derived.Deep.DeepCutAuto
import Derived.Deep.RegionHeld3
/- Ways of bodies, written by a program (ways.py): what each asks for, and hands back. -/
namespace Go.Proofs.YtkigmocchaikgabGreatDoor
open Go.RowKit
section
abbrev fqDK (L M:List Ins) (c j r:Nat) (S2:List St):Kn:=⟨[(0,.c (.sl 0 0 L.length c)),(3,.c (.sx 4 L.length)),(4,.c (.w 8)),(5,.c (.i (j:Int)))],[(0,Ent.mk false (pcell L) 0),(4,Ent.mk true (pcell M) r),(7,Ent.mk true (scell S2) 0),(8,Ent.mk true [.i 0,.i 0,.sl 7 0 L.length L.length] 0)],10⟩
variable {L M:List Ins} {c q n j r:Nat} {S2:List St} {tr p g:Int} {w:World} {β:Bs} {C:Cx} {R:Ending→World→Prop} {a b:St} {i:Ins} {v4:V4}
theorem yarz (h:(Nat.ble (0+L.length*5) (pcell L).length&&(decide (0+L.length≤137438953472)&&decide (0<0+L.length))&&(tr != 0&&true))=true) (c0:Eff.mk (.c (.sx 4 (0+L.length))) [] (some (1+1+2,Ent.mk true (((rows 0 [.i 0,.i 0,.i 0,.u 0#64,.i 0]).drop 0).take 0++((pcell L).drop 0).take (L.length*5)) 5))=Eff.mk (.c (.sx 4 L.length)) [] (some (4,Ent.mk true (pcell L) 5))) (c1:CO 12 [.c (.sl 0 0 L.length c)] [(0,Ent.mk false (pcell L) 0)] (Eff.mk (.ag [.i tr,.i p,.sl 7 0 q L.length]) [] (some (7,Ent.mk true (scell S2) 0)))) (hk:EKeys n [] (some 4) ⟨.c (.sx 4 L.length),[],some (4,Ent.mk true (pcell L) 5)⟩) :
  BO 16 Tryz.f16 (cx w β n []) [.c (.sl 0 0 L.length c)] [(0,Ent.mk false (pcell L) 0)] 1 (REff w β ⟨.c (.sx 4 L.length),[],some (4,Ent.mk true (pcell L) 5)⟩) :=
 zah [] (some 4) [true] ([true]) [(1,2)] Tryz.func16 hk (by kernel_rfl) h (zac c0 (zab c1 zae))
theorem yamq (h:(Nat.ble (0+L.length*5) (pcell L).length&&(decide (0+L.length≤137438953472)&&decide (0<0+L.length))&&true)=true) (c0:Eff.mk (.c (.sx 4 (0+L.length))) [] (some (1+1+2,Ent.mk true (((rows 0 [.i 0,.i 0,.i 0,.u 0#64,.i 0]).drop 0).take 0++((pcell L).drop 0).take (L.length*5)) 5))=Eff.mk (.c (.sx 4 L.length)) [] (some (4,Ent.mk true (pcell L) 5))) (c1:CO 12 [.c (.sl 0 0 L.length c)] [(0,Ent.mk false (pcell L) 0)] (Eff.mk (.ag [.i 0,.i 0,.sl 7 0 L.length L.length]) [] (some (7,Ent.mk true (scell S2) 0)))) (lo:Kn.Low ⟨[(0,.c (.sl 0 0 L.length c)),(3,.c (.sx 4 L.length)),(4,.c (.w 8)),(5,.c (.i 0))],[(0,Ent.mk false (pcell L) 0),(4,Ent.mk true (pcell L) 5),(7,Ent.mk true (scell S2) 0),(8,Ent.mk true [.i 0,.i 0,.sl 7 0 L.length L.length] 0)],10⟩) (hF:∀ k,C.F k→k<10) (z:AR 16 Tryz.f16 C 0 ⟨[(0,.c (.sl 0 0 L.length c)),(3,.c (.sx 4 L.length)),(4,.c (.w 8)),(5,.c (.i 0))],[(0,Ent.mk false (pcell L) 0),(4,Ent.mk true (pcell L) 5),(7,Ent.mk true (scell S2) 0),(8,Ent.mk true [.i 0,.i 0,.sl 7 0 L.length L.length] 0)],10⟩ R) :
  BO 16 Tryz.f16 C [.c (.sl 0 0 L.length c)] [(0,Ent.mk false (pcell L) 0)] 1 R :=
 zai [false] ([true]) [(1,2)] Tryz.func16 (by kernel_rfl) h (zac c0 (zab c1 zae)) lo hF z
theorem yayf (h:(decide ((↑(j+1):Int)<(L.length:Int))&&(decide ((j:Int)<(L.length:Int))&&(Nat.ble (0+(j:Int).toNat*5+5) (pcell L).length&&(decide ((j:Int)<(L.length:Int))&&(Nat.ble (0+(j:Int).toNat*31+31) (scell S2).length&&(decide ((j:Int)<(L.length:Int))&&(AC.isB ((scell S2)[0+(j:Int).toNat*31+0]?.getD (.b false))&&Nat.blt (0+(j:Int).toNat*31+0) (scell S2).length&&(!(stAt S2 j).live&&(decide ((j:Int)<(L.length:Int))&&(Nat.ble ((j:Int).toNat*5+5) (pcell M).length&&true&&true))))))))))=true) (c0:pe (.c (.i (IntKind.i64.wrap ((j:Int)+1))))=pe (.c (.i (↑(j+1):Int)))) (c1:pe (.ag (((pcell L).drop (0+(j:Int).toNat*5)).take 5))=pe (.ag i.cs)) (c2:pe (.ag (((scell S2).drop (0+(j:Int).toNat*31)).take 31))=pe (.ag (stAt S2 j).cs)) (c3:Ok 31 [.ag i.cs,.ag (stAt S2 j).cs] (.tu [.ag a.cs,.ag b.cs,.c (.i g)])) (c4:pe (.c (.b (AC.asB ((scell S2)[0+(j:Int).toNat*31+0]?.getD (.b false)))))=pe (.c (.b (stAt S2 j).live))) (c5:Ok 36 [] (.ag onI.cs)) (c6:we 4 (splice (pcell M) ((j:Int).toNat*5) onI.cs)=we 4 (pcell (M.set j onI))) (c7:pe (.c (.i (IntKind.i64.wrap ((j:Int)+1))))=pe (.c (.i (↑(j+1):Int)))) (lo:Kn.Low (fqDK L (M.set j onI) c (j+1) 0 S2)) (hF:∀ k,C.F k→k<10) (z:AR 16 Tryz.f16 C 0 (fqDK L (M.set j onI) c (j+1) 0 S2) R) :
  AR 16 Tryz.f16 C 0 (fqDK L M c j r S2) R :=
 zai [true,true] ([true]) [(6,1),(8,3),(9,5),(10,5),(11,4),(12,8),(13,9),(13,12),(15,4),(17,6),(7,1)] Tryz.func16 (by kernel_rfl) h (zac c0 (zac c1 (zac c2 (zab c3 (zac c4 (zab c5 (zac c6 (zac c7 zae)))))))) lo hF z
theorem yayw (h:(decide ((↑(j+1):Int)<(L.length:Int))&&(decide ((j:Int)<(L.length:Int))&&(Nat.ble (0+(j:Int).toNat*5+5) (pcell L).length&&(decide ((j:Int)<(L.length:Int))&&(Nat.ble (0+(j:Int).toNat*31+31) (scell S2).length&&(decide ((j:Int)<(L.length:Int))&&(AC.isB ((scell S2)[0+(j:Int).toNat*31+0]?.getD (.b false))&&Nat.blt (0+(j:Int).toNat*31+0) (scell S2).length&&(!!(stAt S2 j).live&&(decide (0≤i.d)&&decide (i.d<6)&&(Nat.ble (7+(i.d).toNat*4+4) (a.cs).length&&(decide (0≤i.d)&&decide (i.d<6)&&(AC.isU ((a.cs)[7+(i.d).toNat*4+2]?.getD (.b false))&&Nat.blt (7+(i.d).toNat*4+2) (a.cs).length&&(decide ((j:Int)<(L.length:Int))&&(Nat.ble ((j:Int).toNat*5+(splice (splice (splice (splice [.i 0,.i 0,.i 0,.u 0#64,.i 0] 0 [.i 1]) 1 [.i i.d]) 2 [.i (-1)]) 3 [.u v4.l]).length) (pcell M).length&&true&&true))))))))))))))=true) (c0:pe (.c (.i (IntKind.i64.wrap ((j:Int)+1))))=pe (.c (.i (↑(j+1):Int)))) (c1:pe (.ag (((pcell L).drop (0+(j:Int).toNat*5)).take 5))=pe (.ag i.cs)) (c2:pe (.ag (((scell S2).drop (0+(j:Int).toNat*31)).take 31))=pe (.ag (stAt S2 j).cs)) (c3:Ok 31 [.ag i.cs,.ag (stAt S2 j).cs] (.tu [.ag a.cs,.ag b.cs,.c (.i g)])) (c4:pe (.c (.b (AC.asB ((scell S2)[0+(j:Int).toNat*31+0]?.getD (.b false)))))=pe (.c (.b (stAt S2 j).live))) (c5:Ok 38 [.c (.i i.op)] (.c (.b true))) (c6:pe (.ag (((a.cs).drop (7+(i.d).toNat*4)).take 4))=pe (.ag v4.cs)) (c7:Ok 39 [.ag v4.cs] (.c (.b true))) (c8:pe (.c (.u (AC.asU ((a.cs)[7+(i.d).toNat*4+2]?.getD (.b false)))))=pe (.c (.u v4.l))) (c9:we 4 (splice (pcell M) ((j:Int).toNat*5) (splice (splice (splice (splice [.i 0,.i 0,.i 0,.u 0#64,.i 0] 0 [.i 1]) 1 [.i i.d]) 2 [.i (-1)]) 3 [.u v4.l]))=we 4 (pcell (M.set j (Ins.mk 1 i.d (-1) v4.l 0)))) (c10:pe (.c (.i (IntKind.i64.wrap ((j:Int)+1))))=pe (.c (.i (↑(j+1):Int)))) (lo:Kn.Low (fqDK L (M.set j (Ins.mk 1 i.d ( - 1) v4.l 0)) c (j+1) 0 S2)) (hF:∀ k,C.F k→k<10) (z:AR 16 Tryz.f16 C 0 (fqDK L (M.set j (Ins.mk 1 i.d ( - 1) v4.l 0)) c (j+1) 0 S2) R) :
  AR 16 Tryz.f16 C 0 (fqDK L M c j r S2) R :=
 zai [true,false,true,true] ([true]) [(6,1),(8,3),(9,5),(10,5),(11,4),(12,8),(13,9),(13,12),(15,4),(17,6),(7,1)] Tryz.func16 (by kernel_rfl) h (zac c0 (zac c1 (zac c2 (zab c3 (zac c4 (zab c5 (zac c6 (zab c7 (zac c8 (zac c9 (zac c10 zae))))))))))) lo hF z
theorem yav6 (h:(decide ((↑(j+1):Int)<(L.length:Int))&&(decide ((j:Int)<(L.length:Int))&&(Nat.ble (0+(j:Int).toNat*5+5) (pcell L).length&&(decide ((j:Int)<(L.length:Int))&&(Nat.ble (0+(j:Int).toNat*31+31) (scell S2).length&&(decide ((j:Int)<(L.length:Int))&&(AC.isB ((scell S2)[0+(j:Int).toNat*31+0]?.getD (.b false))&&Nat.blt (0+(j:Int).toNat*31+0) (scell S2).length&&(!!(stAt S2 j).live&&(decide (0≤i.d)&&decide (i.d<6)&&(Nat.ble (7+(i.d).toNat*4+4) (a.cs).length&&true))))))))))=true) (c0:pe (.c (.i (IntKind.i64.wrap ((j:Int)+1))))=pe (.c (.i (↑(j+1):Int)))) (c1:pe (.ag (((pcell L).drop (0+(j:Int).toNat*5)).take 5))=pe (.ag i.cs)) (c2:pe (.ag (((scell S2).drop (0+(j:Int).toNat*31)).take 31))=pe (.ag (stAt S2 j).cs)) (c3:Ok 31 [.ag i.cs,.ag (stAt S2 j).cs] (.tu [.ag a.cs,.ag b.cs,.c (.i g)])) (c4:pe (.c (.b (AC.asB ((scell S2)[0+(j:Int).toNat*31+0]?.getD (.b false)))))=pe (.c (.b (stAt S2 j).live))) (c5:Ok 38 [.c (.i i.op)] (.c (.b true))) (c6:pe (.ag (((a.cs).drop (7+(i.d).toNat*4)).take 4))=pe (.ag v4.cs)) (c7:Ok 39 [.ag v4.cs] (.c (.b false))) (c8:Ok 34 [.c (.i i.op)] (.c (.b false))) (c9:Ok 34 [.c (.i i.op)] (.c (.b false))) (c10:pe (.c (.i (IntKind.i64.wrap ((j:Int)+1))))=pe (.c (.i (↑(j+1):Int)))) (lo:Kn.Low (fqDK L M c (j+1) r S2)) (hF:∀ k,C.F k→k<10) (z:AR 16 Tryz.f16 C 0 (fqDK L M c (j+1) r S2) R) :
  AR 16 Tryz.f16 C 0 (fqDK L M c j r S2) R :=
 zai [true,false,true,false,false,false,false,false] ([true]) [(6,1),(8,3),(9,5),(10,5),(11,4),(12,8),(13,9),(13,12),(15,4),(17,6),(7,1)] Tryz.func16 (by kernel_rfl) h (zac c0 (zac c1 (zac c2 (zab c3 (zac c4 (zab c5 (zac c6 (zab c7 (zab c8 (zab c9 (zac c10 zae))))))))))) lo hF z
theorem yay8 (h:(decide ((↑(j+1):Int)<(L.length:Int))&&(decide ((j:Int)<(L.length:Int))&&(Nat.ble (0+(j:Int).toNat*5+5) (pcell L).length&&(decide ((j:Int)<(L.length:Int))&&(Nat.ble (0+(j:Int).toNat*31+31) (scell S2).length&&(decide ((j:Int)<(L.length:Int))&&(AC.isB ((scell S2)[0+(j:Int).toNat*31+0]?.getD (.b false))&&Nat.blt (0+(j:Int).toNat*31+0) (scell S2).length&&(!!(stAt S2 j).live&&(!b.live&&(decide ((j:Int)<(L.length:Int))&&(Nat.ble ((j:Int).toNat*5+5) (pcell M).length&&true&&true)))))))))))=true) (c0:pe (.c (.i (IntKind.i64.wrap ((j:Int)+1))))=pe (.c (.i (↑(j+1):Int)))) (c1:pe (.ag (((pcell L).drop (0+(j:Int).toNat*5)).take 5))=pe (.ag i.cs)) (c2:pe (.ag (((scell S2).drop (0+(j:Int).toNat*31)).take 31))=pe (.ag (stAt S2 j).cs)) (c3:Ok 31 [.ag i.cs,.ag (stAt S2 j).cs] (.tu [.ag a.cs,.ag b.cs,.c (.i g)])) (c4:pe (.c (.b (AC.asB ((scell S2)[0+(j:Int).toNat*31+0]?.getD (.b false)))))=pe (.c (.b (stAt S2 j).live))) (c5:Ok 38 [.c (.i i.op)] (.c (.b false))) (c6:Ok 34 [.c (.i i.op)] (.c (.b true))) (c7:Ok 36 [] (.ag onI.cs)) (c8:we 4 (splice (pcell M) ((j:Int).toNat*5) onI.cs)=we 4 (pcell (M.set j onI))) (c9:pe (.c (.i (IntKind.i64.wrap ((j:Int)+1))))=pe (.c (.i (↑(j+1):Int)))) (lo:Kn.Low (fqDK L (M.set j onI) c (j+1) 0 S2)) (hF:∀ k,C.F k→k<10) (z:AR 16 Tryz.f16 C 0 (fqDK L (M.set j onI) c (j+1) 0 S2) R) :
  AR 16 Tryz.f16 C 0 (fqDK L M c j r S2) R :=
 zai [true,false,false,false,true,true] ([true]) [(6,1),(8,3),(9,5),(10,5),(11,4),(12,8),(13,9),(13,12),(15,4),(17,6),(7,1)] Tryz.func16 (by kernel_rfl) h (zac c0 (zac c1 (zac c2 (zab c3 (zac c4 (zab c5 (zab c6 (zab c7 (zac c8 (zac c9 zae)))))))))) lo hF z
theorem yax6 (h:(decide ((↑(j+1):Int)<(L.length:Int))&&(decide ((j:Int)<(L.length:Int))&&(Nat.ble (0+(j:Int).toNat*5+5) (pcell L).length&&(decide ((j:Int)<(L.length:Int))&&(Nat.ble (0+(j:Int).toNat*31+31) (scell S2).length&&(decide ((j:Int)<(L.length:Int))&&(AC.isB ((scell S2)[0+(j:Int).toNat*31+0]?.getD (.b false))&&Nat.blt (0+(j:Int).toNat*31+0) (scell S2).length&&(!!(stAt S2 j).live&&(!!b.live&&(!a.live&&(decide ((j:Int)<(L.length:Int))&&(Nat.ble ((j:Int).toNat*5+(splice (splice [.i 0,.i 0,.i 0,.u 0#64,.i 0] 0 [.i 12]) 4 [.i i.of]).length) (pcell M).length&&true&&true))))))))))))=true) (c0:pe (.c (.i (IntKind.i64.wrap ((j:Int)+1))))=pe (.c (.i (↑(j+1):Int)))) (c1:pe (.ag (((pcell L).drop (0+(j:Int).toNat*5)).take 5))=pe (.ag i.cs)) (c2:pe (.ag (((scell S2).drop (0+(j:Int).toNat*31)).take 31))=pe (.ag (stAt S2 j).cs)) (c3:Ok 31 [.ag i.cs,.ag (stAt S2 j).cs] (.tu [.ag a.cs,.ag b.cs,.c (.i g)])) (c4:pe (.c (.b (AC.asB ((scell S2)[0+(j:Int).toNat*31+0]?.getD (.b false)))))=pe (.c (.b (stAt S2 j).live))) (c5:Ok 38 [.c (.i i.op)] (.c (.b false))) (c6:Ok 34 [.c (.i i.op)] (.c (.b true))) (c7:Ok 34 [.c (.i i.op)] (.c (.b true))) (c8:we 4 (splice (pcell M) ((j:Int).toNat*5) (splice (splice [.i 0,.i 0,.i 0,.u 0#64,.i 0] 0 [.i 12]) 4 [.i i.of]))=we 4 (pcell (M.set j (Ins.mk 12 0 0 (0#64) i.of)))) (c9:pe (.c (.i (IntKind.i64.wrap ((j:Int)+1))))=pe (.c (.i (↑(j+1):Int)))) (lo:Kn.Low (fqDK L (M.set j (Ins.mk 12 0 0 (0#64) i.of)) c (j+1) 0 S2)) (hF:∀ k,C.F k→k<10) (z:AR 16 Tryz.f16 C 0 (fqDK L (M.set j (Ins.mk 12 0 0 (0#64) i.of)) c (j+1) 0 S2) R) :
  AR 16 Tryz.f16 C 0 (fqDK L M c j r S2) R :=
 zai [true,false,false,false,true,false,true,true] ([true]) [(6,1),(8,3),(9,5),(10,5),(11,4),(12,8),(13,9),(13,12),(15,4),(17,6),(7,1)] Tryz.func16 (by kernel_rfl) h (zac c0 (zac c1 (zac c2 (zab c3 (zac c4 (zab c5 (zab c6 (zab c7 (zac c8 (zac c9 zae)))))))))) lo hF z
theorem yayx (h:(decide ((↑(j+1):Int)<(L.length:Int))&&(decide ((j:Int)<(L.length:Int))&&(Nat.ble (0+(j:Int).toNat*5+5) (pcell L).length&&(decide ((j:Int)<(L.length:Int))&&(Nat.ble (0+(j:Int).toNat*31+31) (scell S2).length&&(decide ((j:Int)<(L.length:Int))&&(AC.isB ((scell S2)[0+(j:Int).toNat*31+0]?.getD (.b false))&&Nat.blt (0+(j:Int).toNat*31+0) (scell S2).length&&(!!(stAt S2 j).live&&(!!b.live&&(!!a.live&&true))))))))))=true) (c0:pe (.c (.i (IntKind.i64.wrap ((j:Int)+1))))=pe (.c (.i (↑(j+1):Int)))) (c1:pe (.ag (((pcell L).drop (0+(j:Int).toNat*5)).take 5))=pe (.ag i.cs)) (c2:pe (.ag (((scell S2).drop (0+(j:Int).toNat*31)).take 31))=pe (.ag (stAt S2 j).cs)) (c3:Ok 31 [.ag i.cs,.ag (stAt S2 j).cs] (.tu [.ag a.cs,.ag b.cs,.c (.i g)])) (c4:pe (.c (.b (AC.asB ((scell S2)[0+(j:Int).toNat*31+0]?.getD (.b false)))))=pe (.c (.b (stAt S2 j).live))) (c5:Ok 38 [.c (.i i.op)] (.c (.b false))) (c6:Ok 34 [.c (.i i.op)] (.c (.b true))) (c7:Ok 34 [.c (.i i.op)] (.c (.b true))) (c8:pe (.c (.i (IntKind.i64.wrap ((j:Int)+1))))=pe (.c (.i (↑(j+1):Int)))) (lo:Kn.Low (fqDK L M c (j+1) r S2)) (hF:∀ k,C.F k→k<10) (z:AR 16 Tryz.f16 C 0 (fqDK L M c (j+1) r S2) R) :
  AR 16 Tryz.f16 C 0 (fqDK L M c j r S2) R :=
 zai [true,false,false,false,true,false,true,false] ([true]) [(6,1),(8,3),(9,5),(10,5),(11,4),(12,8),(13,9),(13,12),(15,4),(17,6),(7,1)] Tryz.func16 (by kernel_rfl) h (zac c0 (zac c1 (zac c2 (zab c3 (zac c4 (zab c5 (zab c6 (zab c7 (zac c8 zae))))))))) lo hF z
theorem yaww (h:(decide ((↑(j+1):Int)<(L.length:Int))&&(decide ((j:Int)<(L.length:Int))&&(Nat.ble (0+(j:Int).toNat*5+5) (pcell L).length&&(decide ((j:Int)<(L.length:Int))&&(Nat.ble (0+(j:Int).toNat*31+31) (scell S2).length&&(decide ((j:Int)<(L.length:Int))&&(AC.isB ((scell S2)[0+(j:Int).toNat*31+0]?.getD (.b false))&&Nat.blt (0+(j:Int).toNat*31+0) (scell S2).length&&(!!(stAt S2 j).live&&true))))))))=true) (c0:pe (.c (.i (IntKind.i64.wrap ((j:Int)+1))))=pe (.c (.i (↑(j+1):Int)))) (c1:pe (.ag (((pcell L).drop (0+(j:Int).toNat*5)).take 5))=pe (.ag i.cs)) (c2:pe (.ag (((scell S2).drop (0+(j:Int).toNat*31)).take 31))=pe (.ag (stAt S2 j).cs)) (c3:Ok 31 [.ag i.cs,.ag (stAt S2 j).cs] (.tu [.ag a.cs,.ag b.cs,.c (.i g)])) (c4:pe (.c (.b (AC.asB ((scell S2)[0+(j:Int).toNat*31+0]?.getD (.b false)))))=pe (.c (.b (stAt S2 j).live))) (c5:Ok 38 [.c (.i i.op)] (.c (.b false))) (c6:Ok 34 [.c (.i i.op)] (.c (.b false))) (c7:Ok 34 [.c (.i i.op)] (.c (.b false))) (c8:pe (.c (.i (IntKind.i64.wrap ((j:Int)+1))))=pe (.c (.i (↑(j+1):Int)))) (lo:Kn.Low (fqDK L M c (j+1) r S2)) (hF:∀ k,C.F k→k<10) (z:AR 16 Tryz.f16 C 0 (fqDK L M c (j+1) r S2) R) :
  AR 16 Tryz.f16 C 0 (fqDK L M c j r S2) R :=
 zai [true,false,false,false,false,false,false,false] ([true]) [(6,1),(8,3),(9,5),(10,5),(11,4),(12,8),(13,9),(13,12),(15,4),(17,6),(7,1)] Tryz.func16 (by kernel_rfl) h (zac c0 (zac c1 (zac c2 (zab c3 (zac c4 (zab c5 (zab c6 (zab c7 (zac c8 zae))))))))) lo hF z
theorem yao9 (h:(!decide ((↑(j+1):Int)<(L.length:Int))&&true)=true) (c0:pe (.c (.i (IntKind.i64.wrap ((j:Int)+1))))=pe (.c (.i (↑(j+1):Int)))) (hk:EKeys n [] (some 4) ⟨.c (.sx 4 L.length),[],some (4,Ent.mk true (pcell M) r)⟩) :
  AR 16 Tryz.f16 (cx w β n []) 0 (fqDK L M c j r S2) (REff w β ⟨.c (.sx 4 L.length),[],some (4,Ent.mk true (pcell M) r)⟩) :=
 zah [] (some 4) [false] ([true]) [(6,1)] Tryz.func16 hk (by kernel_rfl) h (zac c0 zae)
end
section
abbrev deAK (L M:List Ins) (A:List (V6 Bool)) (j r:Nat):Kn:=⟨[(3,.c (.sx 4 L.length)),(4,.c (.sl 12 0 L.length L.length)),(5,.c (.i (j:Int)))],[(0,Ent.mk false (pcell L) 0),(4,Ent.mk true (pcell M) r),(12,Ent.mk true (rcell A) 0)],14⟩
abbrev zgl (L M:List Ins) (A:List (V6 Bool)) (j r x:Nat) (i:Ins) (u:V6 Bool):Kn:=⟨[(3,.c (.sx 4 L.length)),(4,.c (.sl 12 0 L.length L.length)),(5,.c (.i (j:Int))),(6,.c (.w 20)),(7,.c (.w 22)),(8,.c (.i (x:Int)))],[(0,Ent.mk false (pcell L) 0),(4,Ent.mk true (pcell M) r),(12,Ent.mk true (rcell A) 0),(20,Ent.mk true i.cs 0),(22,Ent.mk true (bcs u) 0)],24⟩
abbrev yakz (L M:List Ins) (A:List (V6 Bool)) (j r:Nat) (i:Ins) (u:V6 Bool):Kn:=⟨[(3,.c (.sx 4 L.length)),(4,.c (.sl 12 0 L.length L.length)),(5,.c (.i (j:Int))),(6,.c (.w 20)),(7,.c (.w 22)),(8,.c (.i 6))],[(0,Ent.mk false (pcell L) 0),(4,Ent.mk true (pcell M) r),(12,Ent.mk true (rcell A) 0),(20,Ent.mk true i.cs 0),(22,Ent.mk true (bcs u) 0)],24⟩
abbrev zq4 (L M:List Ins) (A:List (V6 Bool)) (j r x q:Nat) (u:V6 Bool) (U:List AC):Kn:=⟨[(3,.c (.sx 4 L.length)),(4,.c (.sl 12 0 L.length L.length)),(5,.c (.i (j:Int))),(7,.c (.w 22)),(9,.c (.sx 39 q)),(10,.c (.i (x:Int)))],[(0,Ent.mk false (pcell L) 0),(4,Ent.mk true (pcell M) r),(12,Ent.mk true (rcell A) 0),(22,Ent.mk true (bcs u) 0),(39,Ent.mk true U 1)],45⟩
abbrev zr6 (L M:List Ins) (A:List (V6 Bool)) (j r x q:Nat) (u:V6 Bool) (U:List AC):Kn:=⟨[(3,.c (.sx 4 L.length)),(4,.c (.sl 12 0 L.length L.length)),(5,.c (.i (j:Int))),(7,.c (.w 22)),(9,.c (.sx 30 q)),(10,.c (.i (x:Int)))],[(0,Ent.mk false (pcell L) 0),(4,Ent.mk true (pcell M) r),(12,Ent.mk true (rcell A) 0),(22,Ent.mk true (bcs u) 0),(30,Ent.mk true U 1)],45⟩
abbrev zmt (L M:List Ins) (A:List (V6 Bool)) (j r:Nat) (u:V6 Bool):Kn:=⟨[(3,.c (.sx 4 L.length)),(4,.c (.sl 12 0 L.length L.length)),(5,.c (.i (j:Int))),(7,.c (.w 22)),(9,.c zco),(10,.c (.i 0))],[(0,Ent.mk false (pcell L) 0),(4,Ent.mk true (pcell M) r),(12,Ent.mk true (rcell A) 0),(22,Ent.mk true (bcs u) 0)],45⟩
variable {L M:List Ins} {c q n j r x:Nat} {S2:List St} {tr p d:Int} {w:World} {β:Bs} {C:Cx} {R:Ending→World→Prop} {A:List (V6 Bool)} {i:Ins} {u u2:V6 Bool} {g g2 g3:Bool} {U:List AC}
theorem yazh :
  Ok 36 [] (.ag [.i 12,.i 0,.i 0,.u 0#64,.i 0]) :=
 zaf [] ([]) [] Tryz.func36 rfl rfl rfl rfl (by kernel_rfl) rfl zae
theorem yau4 (h:(Nat.ble (0+L.length*5) (pcell L).length&&(decide (0+L.length≤137438953472)&&decide (0<0+L.length))&&(tr != 0&&true))=true) (c0:Eff.mk (.c (.sx 4 (0+L.length))) [] (some (1+1+2,Ent.mk true (((rows 0 [.i 0,.i 0,.i 0,.u 0#64,.i 0]).drop 0).take 0++((pcell L).drop 0).take (L.length*5)) 5))=Eff.mk (.c (.sx 4 L.length)) [] (some (4,Ent.mk true (pcell L) 5))) (c1:CO 12 [.c (.sl 0 0 L.length c)] [(0,Ent.mk false (pcell L) 0)] (Eff.mk (.ag [.i tr,.i p,.sl 7 0 q L.length]) [] (some (7,Ent.mk true (scell S2) 0)))) (hk:EKeys n [] (some 4) ⟨.c (.sx 4 L.length),[],some (4,Ent.mk true (pcell L) 5)⟩) :
  BO 15 Tryz.f15 (cx w β n []) [.c (.sl 0 0 L.length c)] [(0,Ent.mk false (pcell L) 0)] 1 (REff w β ⟨.c (.sx 4 L.length),[],some (4,Ent.mk true (pcell L) 5)⟩) :=
 zah [] (some 4) [true] ([true]) [(1,2)] Tryz.func15 hk (by kernel_rfl) h (zac c0 (zab c1 zae))
theorem yamr (h:(Nat.ble (0+L.length*5) (pcell L).length&&(decide (0+L.length≤137438953472)&&decide (0<0+L.length))&&(decide ((L.length:Int)≤(L.length:Int))&&decide ((L.length:Int)≤1099511627776)&&true&&true))=true) (c0:Eff.mk (.c (.sx 4 (0+L.length))) [] (some (1+1+2,Ent.mk true (((rows 0 [.i 0,.i 0,.i 0,.u 0#64,.i 0]).drop 0).take 0++((pcell L).drop 0).take (L.length*5)) 5))=Eff.mk (.c (.sx 4 L.length)) [] (some (4,Ent.mk true (pcell L) 5))) (c1:CO 12 [.c (.sl 0 0 L.length c)] [(0,Ent.mk false (pcell L) 0)] (Eff.mk (.ag [.i 0,.i 0,.sl 7 0 L.length L.length]) [] (some (7,Ent.mk true (scell S2) 0)))) (c2:Eff.mk (.c (.sl 12 0 (L.length:Int).toNat (L.length:Int).toNat)) [] (some (1+1+4+4+2,Ent.mk true (rows (L.length:Int).toNat [.b false,.b false,.b false,.b false,.b false,.b false]) 0))=Eff.mk (.c (.sl 12 0 L.length L.length)) [] (some (12,Ent.mk true (rcell (List.replicate L.length no6)) 0))) (c3:pe (.c (.i (IntKind.i64.wrap ((L.length:Int) - 1))))=pe (.c (.i ((L.length:Int) - 1)))) (lo:Kn.Low ⟨[(3,.c (.sx 4 L.length)),(4,.c (.sl 12 0 L.length L.length)),(5,.c (.i ((L.length:Int) - 1)))],[(0,Ent.mk false (pcell L) 0),(4,Ent.mk true (pcell L) 5),(12,Ent.mk true (rcell (List.replicate L.length no6)) 0)],14⟩) (hF:∀ k,C.F k→k<14) (z:AR 15 Tryz.f15 C 0 ⟨[(3,.c (.sx 4 L.length)),(4,.c (.sl 12 0 L.length L.length)),(5,.c (.i ((L.length:Int) - 1)))],[(0,Ent.mk false (pcell L) 0),(4,Ent.mk true (pcell L) 5),(12,Ent.mk true (rcell (List.replicate L.length no6)) 0)],14⟩ R) :
  BO 15 Tryz.f15 C [.c (.sl 0 0 L.length c)] [(0,Ent.mk false (pcell L) 0)] 1 R :=
 zai [false] ([true]) [(1,2),(4,2),(5,2)] Tryz.func15 (by kernel_rfl) h (zac c0 (zab c1 (zac c2 (zac c3 zae)))) lo hF z
theorem yax9 (h:(decide ((j:Int)<(L.length:Int))&&(Nat.ble ((j:Int).toNat*5+5) (pcell M).length&&true))=true) (c0:pe (.ag (((pcell M).drop ((j:Int).toNat*5)).take 5))=pe (.ag i.cs)) (lo:Kn.Low ⟨[(3,.c (.sx 4 L.length)),(4,.c (.sl 12 0 L.length L.length)),(5,.c (.i (j:Int))),(6,.c (.w 20)),(7,.c (.w 22)),(8,.c (.i 0))],[(0,Ent.mk false (pcell L) 0),(4,Ent.mk true (pcell M) r),(12,Ent.mk true (rcell A) 0),(20,Ent.mk true i.cs 0),(22,Ent.mk true [.b false,.b false,.b false,.b false,.b false,.b false] 0)],24⟩) (hF:∀ k,C.F k→k<24) (z:AR 15 Tryz.f15 C 1 ⟨[(3,.c (.sx 4 L.length)),(4,.c (.sl 12 0 L.length L.length)),(5,.c (.i (j:Int))),(6,.c (.w 20)),(7,.c (.w 22)),(8,.c (.i 0))],[(0,Ent.mk false (pcell L) 0),(4,Ent.mk true (pcell M) r),(12,Ent.mk true (rcell A) 0),(20,Ent.mk true i.cs 0),(22,Ent.mk true [.b false,.b false,.b false,.b false,.b false,.b false] 0)],24⟩ R) :
  AR 15 Tryz.f15 C 0 (deAK L M A j r) R :=
 zai [true] ([true]) [(8,3)] Tryz.func15 (by kernel_rfl) h (zac c0 zae) lo hF z
theorem yapo (hk:EKeys n [] (some 4) ⟨.c (.sx 4 L.length),[],some (4,Ent.mk true (pcell M) r)⟩) :
  AR 15 Tryz.f15 (cx w β n []) 0 (Kn.mk [(3,.c (.sx 4 L.length)),(4,.c (.sl 12 0 L.length L.length)),(5,.c (.i (-1)))] [(0,Ent.mk false (pcell L) 0),(4,Ent.mk true (pcell M) r),(12,Ent.mk true (rcell A) 0)] 14) (REff w β ⟨.c (.sx 4 L.length),[],some (4,Ent.mk true (pcell M) r)⟩) :=
 zah [] (some 4) [false] ([true]) [] Tryz.func15 hk (by kernel_rfl) rfl zae
theorem yasz (h:(decide ((x:Int)<6)&&(i.op != 15&&(i.op != 12&&(decide ((↑(j+1):Int)<(L.length:Int))&&(decide ((x:Int)<6)&&(AC.isB ((rcell A)[0+(↑(j+1):Int).toNat*6+(x:Int).toNat*1]?.getD (.b false))&&Nat.blt (0+(↑(j+1):Int).toNat*6+(x:Int).toNat*1) (rcell A).length&&(decide ((x:Int)<6)&&(Nat.ble ((x:Int).toNat*1+List.length [AC.b g]) (bcs u).length&&true&&(!i.op==12&&true)))))))))=true) (c0:pe (.c (.i (IntKind.i64.wrap ((j:Int)+1))))=pe (.c (.i (↑(j+1):Int)))) (c1:pe (.c (.b (AC.asB ((rcell A)[0+(↑(j+1):Int).toNat*6+(x:Int).toNat*1]?.getD (.b false)))))=pe (.c (.b g))) (c2:we 22 (splice (bcs u) ((x:Int).toNat*1) [.b g])=we 22 (bcs (u.set x g))) (c3:Ok 34 [.c (.i i.op)] (.c (.b false))) (c4:pe (.c (.i (IntKind.i64.wrap ((x:Int)+1))))=pe (.c (.i (↑(x+1):Int)))) (lo:Kn.Low (zgl L M A j r (x+1) i (u.set x g))) (hF:∀ k,C.F k→k<24) (z:AR 15 Tryz.f15 C 1 (zgl L M A j r (x+1) i (u.set x g)) R) :
  AR 15 Tryz.f15 C 1 (zgl L M A j r x i u) R :=
 zai [true,true,true,false,false] ([true]) [(14,3),(14,7),(14,9),(16,3),(16,7),(16,10),(16,14),(16,17),(12,1)] Tryz.func15 (by kernel_rfl) h (zac c0 (zac c1 (zac c2 (zab c3 (zac c4 zae))))) lo hF z
theorem yaoy (h:(decide ((x:Int)<6)&&(i.op != 15&&(i.op != 12&&(decide ((↑(j+1):Int)<(L.length:Int))&&(decide ((x:Int)<6)&&(AC.isB ((rcell A)[0+(↑(j+1):Int).toNat*6+(x:Int).toNat*1]?.getD (.b false))&&Nat.blt (0+(↑(j+1):Int).toNat*6+(x:Int).toNat*1) (rcell A).length&&(decide ((x:Int)<6)&&(Nat.ble ((x:Int).toNat*1+List.length [AC.b g]) (bcs u).length&&true&&(!i.op==12&&(decide ((x:Int)<6)&&(AC.isB ((bcs (u.set x g))[(x:Int).toNat*1]?.getD (.b false))&&Nat.blt ((x:Int).toNat*1) (bcs (u.set x g)).length&&(g2&&(decide ((x:Int)<6)&&(Nat.ble ((x:Int).toNat*1+1) (bcs (u.set x g)).length&&true&&true))))))))))))))=true) (c0:pe (.c (.i (IntKind.i64.wrap ((j:Int)+1))))=pe (.c (.i (↑(j+1):Int)))) (c1:pe (.c (.b (AC.asB ((rcell A)[0+(↑(j+1):Int).toNat*6+(x:Int).toNat*1]?.getD (.b false)))))=pe (.c (.b g))) (c2:we 22 (splice (bcs u) ((x:Int).toNat*1) [.b g])=we 22 (bcs (u.set x g))) (c3:Ok 34 [.c (.i i.op)] (.c (.b true))) (c4:pe (.c (.b (AC.asB ((bcs (u.set x g))[(x:Int).toNat*1]?.getD (.b false)))))=pe (.c (.b g2))) (c5:we 22 (splice (bcs (u.set x g)) ((x:Int).toNat*1) [.b true])=we 22 (bcs u2)) (c6:pe (.c (.i (IntKind.i64.wrap ((x:Int)+1))))=pe (.c (.i (↑(x+1):Int)))) (lo:Kn.Low (zgl L M A j r (x+1) i u2)) (hF:∀ k,C.F k→k<24) (z:AR 15 Tryz.f15 C 1 (zgl L M A j r (x+1) i u2) R) :
  AR 15 Tryz.f15 C 1 (zgl L M A j r x i u) R :=
 zai [true,true,true,false,true,true] ([true]) [(14,3),(14,7),(14,9),(16,3),(16,7),(16,10),(16,14),(16,17),(12,1)] Tryz.func15 (by kernel_rfl) h (zac c0 (zac c1 (zac c2 (zab c3 (zac c4 (zac c5 (zac c6 zae))))))) lo hF z
theorem yamp (h:(decide ((x:Int)<6)&&(i.op != 15&&(i.op != 12&&(decide ((↑(j+1):Int)<(L.length:Int))&&(decide ((x:Int)<6)&&(AC.isB ((rcell A)[0+(↑(j+1):Int).toNat*6+(x:Int).toNat*1]?.getD (.b false))&&Nat.blt (0+(↑(j+1):Int).toNat*6+(x:Int).toNat*1) (rcell A).length&&(decide ((x:Int)<6)&&(Nat.ble ((x:Int).toNat*1+List.length [AC.b g]) (bcs u).length&&true&&(!i.op==12&&(decide ((x:Int)<6)&&(AC.isB ((bcs (u.set x g))[(x:Int).toNat*1]?.getD (.b false))&&Nat.blt ((x:Int).toNat*1) (bcs (u.set x g)).length&&(!g2&&(decide (0≤(↑(j+1):Int)+i.of)&&decide ((↑(j+1):Int)+i.of<(L.length:Int))&&(decide ((x:Int)<6)&&(AC.isB ((rcell A)[0+((↑(j+1):Int)+i.of).toNat*6+(x:Int).toNat*1]?.getD (.b false))&&Nat.blt (0+((↑(j+1):Int)+i.of).toNat*6+(x:Int).toNat*1) (rcell A).length&&(decide ((x:Int)<6)&&(Nat.ble ((x:Int).toNat*1+List.length [AC.b g3]) (bcs (u.set x g)).length&&true&&true)))))))))))))))))=true) (c0:pe (.c (.i (IntKind.i64.wrap ((j:Int)+1))))=pe (.c (.i (↑(j+1):Int)))) (c1:pe (.c (.b (AC.asB ((rcell A)[0+(↑(j+1):Int).toNat*6+(x:Int).toNat*1]?.getD (.b false)))))=pe (.c (.b g))) (c2:we 22 (splice (bcs u) ((x:Int).toNat*1) [.b g])=we 22 (bcs (u.set x g))) (c3:Ok 34 [.c (.i i.op)] (.c (.b true))) (c4:pe (.c (.b (AC.asB ((bcs (u.set x g))[(x:Int).toNat*1]?.getD (.b false)))))=pe (.c (.b g2))) (c5:pe (.c (.i (IntKind.i64.wrap ((j:Int)+1))))=pe (.c (.i (↑(j+1):Int)))) (c6:pe (.c (.i (IntKind.i64.wrap ((↑(j+1):Int)+i.of))))=pe (.c (.i ((↑(j+1):Int)+i.of)))) (c7:pe (.c (.b (AC.asB ((rcell A)[0+((↑(j+1):Int)+i.of).toNat*6+(x:Int).toNat*1]?.getD (.b false)))))=pe (.c (.b g3))) (c8:we 22 (splice (bcs (u.set x g)) ((x:Int).toNat*1) [.b g3])=we 22 (bcs u2)) (c9:pe (.c (.i (IntKind.i64.wrap ((x:Int)+1))))=pe (.c (.i (↑(x+1):Int)))) (lo:Kn.Low (zgl L M A j r (x+1) i u2)) (hF:∀ k,C.F k→k<24) (z:AR 15 Tryz.f15 C 1 (zgl L M A j r (x+1) i u2) R) :
  AR 15 Tryz.f15 C 1 (zgl L M A j r x i u) R :=
 zai [true,true,true,false,true,false] ([true]) [(14,3),(14,7),(14,9),(16,3),(16,7),(16,10),(16,14),(16,17),(12,1)] Tryz.func15 (by kernel_rfl) h (zac c0 (zac c1 (zac c2 (zab c3 (zac c4 (zac c5 (zac c6 (zac c7 (zac c8 (zac c9 zae)))))))))) lo hF z
theorem yaod (h:(decide ((x:Int)<6)&&(i.op != 15&&(!i.op != 12&&(i.op==12&&(decide ((x:Int)<6)&&(AC.isB ((bcs u)[(x:Int).toNat*1]?.getD (.b false))&&Nat.blt ((x:Int).toNat*1) (bcs u).length&&(g2&&(decide ((x:Int)<6)&&(Nat.ble ((x:Int).toNat*1+1) (bcs u).length&&true&&true)))))))))=true) (c0:pe (.c (.b (AC.asB ((bcs u)[(x:Int).toNat*1]?.getD (.b false)))))=pe (.c (.b g2))) (c1:we 22 (splice (bcs u) ((x:Int).toNat*1) [.b true])=we 22 (bcs u2)) (c2:pe (.c (.i (IntKind.i64.wrap ((x:Int)+1))))=pe (.c (.i (↑(x+1):Int)))) (lo:Kn.Low (zgl L M A j r (x+1) i u2)) (hF:∀ k,C.F k→k<24) (z:AR 15 Tryz.f15 C 1 (zgl L M A j r (x+1) i u2) R) :
  AR 15 Tryz.f15 C 1 (zgl L M A j r x i u) R :=
 zai [true,true,false,true,true,true] ([true]) [(14,3),(14,7),(14,9),(16,3),(16,7),(16,10),(16,14),(16,17),(12,1)] Tryz.func15 (by kernel_rfl) h (zac c0 (zac c1 (zac c2 zae))) lo hF z
theorem yamv (h:(decide ((x:Int)<6)&&(i.op != 15&&(!i.op != 12&&(i.op==12&&(decide ((x:Int)<6)&&(AC.isB ((bcs u)[(x:Int).toNat*1]?.getD (.b false))&&Nat.blt ((x:Int).toNat*1) (bcs u).length&&(!g2&&(decide (0≤(↑(j+1):Int)+i.of)&&decide ((↑(j+1):Int)+i.of<(L.length:Int))&&(decide ((x:Int)<6)&&(AC.isB ((rcell A)[0+((↑(j+1):Int)+i.of).toNat*6+(x:Int).toNat*1]?.getD (.b false))&&Nat.blt (0+((↑(j+1):Int)+i.of).toNat*6+(x:Int).toNat*1) (rcell A).length&&(decide ((x:Int)<6)&&(Nat.ble ((x:Int).toNat*1+List.length [AC.b g3]) (bcs u).length&&true&&true))))))))))))=true) (c0:pe (.c (.b (AC.asB ((bcs u)[(x:Int).toNat*1]?.getD (.b false)))))=pe (.c (.b g2))) (c1:pe (.c (.i (IntKind.i64.wrap ((j:Int)+1))))=pe (.c (.i (↑(j+1):Int)))) (c2:pe (.c (.i (IntKind.i64.wrap ((↑(j+1):Int)+i.of))))=pe (.c (.i ((↑(j+1):Int)+i.of)))) (c3:pe (.c (.b (AC.asB ((rcell A)[0+((↑(j+1):Int)+i.of).toNat*6+(x:Int).toNat*1]?.getD (.b false)))))=pe (.c (.b g3))) (c4:we 22 (splice (bcs u) ((x:Int).toNat*1) [.b g3])=we 22 (bcs u2)) (c5:pe (.c (.i (IntKind.i64.wrap ((x:Int)+1))))=pe (.c (.i (↑(x+1):Int)))) (lo:Kn.Low (zgl L M A j r (x+1) i u2)) (hF:∀ k,C.F k→k<24) (z:AR 15 Tryz.f15 C 1 (zgl L M A j r (x+1) i u2) R) :
  AR 15 Tryz.f15 C 1 (zgl L M A j r x i u) R :=
 zai [true,true,false,true,true,false] ([true]) [(14,3),(14,7),(14,9),(16,3),(16,7),(16,10),(16,14),(16,17),(12,1)] Tryz.func15 (by kernel_rfl) h (zac c0 (zac c1 (zac c2 (zac c3 (zac c4 (zac c5 zae)))))) lo hF z
theorem yatx (h:(decide ((x:Int)<6)&&(!i.op != 15&&(!i.op==12&&true)))=true) (c0:Ok 34 [.c (.i i.op)] (.c (.b false))) (c1:pe (.c (.i (IntKind.i64.wrap ((x:Int)+1))))=pe (.c (.i (↑(x+1):Int)))) (lo:Kn.Low (zgl L M A j r (x+1) i u)) (hF:∀ k,C.F k→k<24) (z:AR 15 Tryz.f15 C 1 (zgl L M A j r (x+1) i u) R) :
  AR 15 Tryz.f15 C 1 (zgl L M A j r x i u) R :=
 zai [true,false,false,false,false] ([true]) [(14,3),(14,7),(14,9),(16,3),(16,7),(16,10),(16,14),(16,17),(12,1)] Tryz.func15 (by kernel_rfl) h (zab c0 (zac c1 zae)) lo hF z
theorem yasu (h:(decide (0≤i.d)&&decide (i.d<6)&&(AC.isB ((bcs u)[(i.d).toNat*1]?.getD (.b false))&&Nat.blt ((i.d).toNat*1) (bcs u).length&&(!g&&(decide ((j:Int)<(L.length:Int))&&(Nat.ble ((j:Int).toNat*5+5) (pcell M).length&&true&&(decide ((j:Int)<(L.length:Int))&&(Nat.ble ((j:Int).toNat*5+5) (pcell (M.set j onI)).length&&true)))))))=true) (c0:Ok 35 [.c (.i i.op),.c (.i 1),.c (.i 10)] (.c (.b true))) (c1:pe (.c (.b (AC.asB ((bcs u)[(i.d).toNat*1]?.getD (.b false)))))=pe (.c (.b g))) (c2:Ok 36 [] (.ag onI.cs)) (c3:we 4 (splice (pcell M) ((j:Int).toNat*5) onI.cs)=we 4 (pcell (M.set j onI))) (c4:pe (.ag (((pcell (M.set j onI)).drop ((j:Int).toNat*5)).take 5))=pe (.ag onI.cs)) (c5:Ok 37 [.ag [.i 12,.i 0,.i 0,.u 0#64,.i 0]] (.c zco)) (lo:Kn.Low (zmt L (M.set j onI) A j 0 u)) (hF:∀ k,C.F k→k<45) (z:AR 15 Tryz.f15 C 2 (zmt L (M.set j onI) A j 0 u) R) :
  AR 15 Tryz.f15 C 1 (yakz L M A j r i u) R :=
 zai [false,true,true] ([true]) [(18,3),(19,4),(20,3),(21,3)] Tryz.func15 (by kernel_rfl) h (zab c0 (zac c1 (zab c2 (zac c3 (zac c4 (zab c5 zae)))))) lo hF z
theorem yaoz (h:(decide (0≤i.d)&&decide (i.d<6)&&(AC.isB ((bcs u)[(i.d).toNat*1]?.getD (.b false))&&Nat.blt ((i.d).toNat*1) (bcs u).length&&(!!g&&(decide (0≤i.d)&&decide (i.d<6)&&(Nat.ble ((i.d).toNat*1+1) (bcs u).length&&true&&true)))))=true) (c0:Ok 35 [.c (.i i.op),.c (.i 1),.c (.i 10)] (.c (.b true))) (c1:pe (.c (.b (AC.asB ((bcs u)[(i.d).toNat*1]?.getD (.b false)))))=pe (.c (.b g))) (c2:we 22 (splice (bcs u) ((i.d).toNat*1) [.b false])=we 22 (bcs (u.set (i.d).toNat false))) (c3:CO 37 [.ag i.cs] [] (Eff.mk (.c (.sx 39 q)) [] (some (39,Ent.mk true U 1)))) (lo:Kn.Low ⟨[(3,.c (.sx 4 L.length)),(4,.c (.sl 12 0 L.length L.length)),(5,.c (.i (j:Int))),(7,.c (.w 22)),(9,.c (.sx 39 q)),(10,.c (.i 0))],[(0,Ent.mk false (pcell L) 0),(4,Ent.mk true (pcell M) r),(12,Ent.mk true (rcell A) 0),(22,Ent.mk true (bcs (u.set (i.d).toNat false)) 0),(39,Ent.mk true U 1)],45⟩) (hF:∀ k,C.F k→k<45) (z:AR 15 Tryz.f15 C 2 ⟨[(3,.c (.sx 4 L.length)),(4,.c (.sl 12 0 L.length L.length)),(5,.c (.i (j:Int))),(7,.c (.w 22)),(9,.c (.sx 39 q)),(10,.c (.i 0))],[(0,Ent.mk false (pcell L) 0),(4,Ent.mk true (pcell M) r),(12,Ent.mk true (rcell A) 0),(22,Ent.mk true (bcs (u.set (i.d).toNat false)) 0),(39,Ent.mk true U 1)],45⟩ R) :
  AR 15 Tryz.f15 C 1 (yakz L M A j r i u) R :=
 zai [false,true,false] ([true]) [(18,3),(19,4),(20,3),(21,3)] Tryz.func15 (by kernel_rfl) h (zab c0 (zac c1 (zac c2 (zab c3 zae)))) lo hF z
theorem yamu (h:(decide (0≤i.d)&&decide (i.d<6)&&(AC.isB ((bcs u)[(i.d).toNat*1]?.getD (.b false))&&Nat.blt ((i.d).toNat*1) (bcs u).length&&(!!g&&(decide (0≤i.d)&&decide (i.d<6)&&(Nat.ble ((i.d).toNat*1+1) (bcs u).length&&true&&true)))))=true) (c0:Ok 35 [.c (.i i.op),.c (.i 1),.c (.i 10)] (.c (.b true))) (c1:pe (.c (.b (AC.asB ((bcs u)[(i.d).toNat*1]?.getD (.b false)))))=pe (.c (.b g))) (c2:we 22 (splice (bcs u) ((i.d).toNat*1) [.b false])=we 22 (bcs (u.set (i.d).toNat false))) (c3:Ok 37 [.ag i.cs] (.c zco)) (lo:Kn.Low (zmt L M A j r (u.set (i.d).toNat false))) (hF:∀ k,C.F k→k<45) (z:AR 15 Tryz.f15 C 2 (zmt L M A j r (u.set (i.d).toNat false)) R) :
  AR 15 Tryz.f15 C 1 (yakz L M A j r i u) R :=
 zai [false,true,false] ([true]) [(18,3),(19,4),(20,3),(21,3)] Tryz.func15 (by kernel_rfl) h (zab c0 (zac c1 (zac c2 (zab c3 zae)))) lo hF z
theorem yann (c0:Ok 35 [.c (.i i.op),.c (.i 1),.c (.i 10)] (.c (.b false))) (c1:CO 37 [.ag i.cs] [] (Eff.mk (.c (.sx 30 q)) [] (some (30,Ent.mk true U 1)))) (lo:Kn.Low ⟨[(3,.c (.sx 4 L.length)),(4,.c (.sl 12 0 L.length L.length)),(5,.c (.i (j:Int))),(7,.c (.w 22)),(9,.c (.sx 30 q)),(10,.c (.i 0))],[(0,Ent.mk false (pcell L) 0),(4,Ent.mk true (pcell M) r),(12,Ent.mk true (rcell A) 0),(22,Ent.mk true (bcs u) 0),(30,Ent.mk true U 1)],45⟩) (hF:∀ k,C.F k→k<45) (z:AR 15 Tryz.f15 C 2 ⟨[(3,.c (.sx 4 L.length)),(4,.c (.sl 12 0 L.length L.length)),(5,.c (.i (j:Int))),(7,.c (.w 22)),(9,.c (.sx 30 q)),(10,.c (.i 0))],[(0,Ent.mk false (pcell L) 0),(4,Ent.mk true (pcell M) r),(12,Ent.mk true (rcell A) 0),(22,Ent.mk true (bcs u) 0),(30,Ent.mk true U 1)],45⟩ R) :
  AR 15 Tryz.f15 C 1 (yakz L M A j r i u) R :=
 zai [false,false] ([true]) [(18,3),(19,4),(20,3),(21,3)] Tryz.func15 (by kernel_rfl) rfl (zab c0 (zab c1 zae)) lo hF z
theorem yamg (c0:Ok 35 [.c (.i i.op),.c (.i 1),.c (.i 10)] (.c (.b false))) (c1:Ok 37 [.ag i.cs] (.c zco)) (lo:Kn.Low (zmt L M A j r u)) (hF:∀ k,C.F k→k<45) (z:AR 15 Tryz.f15 C 2 (zmt L M A j r u) R) :
  AR 15 Tryz.f15 C 1 (yakz L M A j r i u) R :=
 zai [false,false] ([true]) [(18,3),(19,4),(20,3),(21,3)] Tryz.func15 (by kernel_rfl) rfl (zab c0 (zab c1 zae)) lo hF z
theorem yaic (h:(decide ((x:Int)<(q:Int))&&(decide ((x:Int)<(q:Int))&&(AC.isI (U[(x:Int).toNat*1]?.getD (.b false))&&Nat.blt ((x:Int).toNat*1) U.length&&(decide (0≤d)&&decide (d<6)&&(Nat.ble (d.toNat*1+1) (bcs u).length&&true&&true)))))=true) (c0:pe (.c (.i (AC.asI (U[(x:Int).toNat*1]?.getD (.b false)))))=pe (.c (.i d))) (c1:we 22 (splice (bcs u) (d.toNat*1) [.b true])=we 22 (bcs (u.set d.toNat true))) (c2:pe (.c (.i (IntKind.i64.wrap ((x:Int)+1))))=pe (.c (.i (↑(x+1):Int)))) (lo:Kn.Low (zq4 L M A j r (x+1) q (u.set d.toNat true) U)) (hF:∀ k,C.F k→k<45) (z:AR 15 Tryz.f15 C 2 (zq4 L M A j r (x+1) q (u.set d.toNat true) U) R) :
  AR 15 Tryz.f15 C 2 (zq4 L M A j r x q u U) R :=
 zai [true] ([true]) [(26,3),(26,5),(25,1)] Tryz.func15 (by kernel_rfl) h (zac c0 (zac c1 (zac c2 zae))) lo hF z
theorem yagm (h:(!decide ((x:Int)<(q:Int))&&(decide ((j:Int)<(L.length:Int))&&(Nat.ble (0+(j:Int).toNat*6+(bcs u).length) (rcell A).length&&true&&true)))=true) (c0:we 12 (splice (rcell A) (0+(j:Int).toNat*6) (bcs u))=we 12 (rcell (A.set j u))) (c1:pe (.c (.i (IntKind.i64.wrap ((j:Int) - 1))))=pe (.c (.i ((j:Int) - 1)))) (lo:Kn.Low ⟨[(3,.c (.sx 4 L.length)),(4,.c (.sl 12 0 L.length L.length)),(5,.c (.i ((j:Int) - 1)))],[(0,Ent.mk false (pcell L) 0),(4,Ent.mk true (pcell M) r),(12,Ent.mk true (rcell (A.set j u)) 0)],14⟩) (hF:∀ k,C.F k→k<14) (z:AR 15 Tryz.f15 C 0 ⟨[(3,.c (.sx 4 L.length)),(4,.c (.sl 12 0 L.length L.length)),(5,.c (.i ((j:Int) - 1)))],[(0,Ent.mk false (pcell L) 0),(4,Ent.mk true (pcell M) r),(12,Ent.mk true (rcell (A.set j u)) 0)],14⟩ R) :
  AR 15 Tryz.f15 C 2 (zq4 L M A j r x q u U) R :=
 zai [false] ([true]) [(27,4),(7,1)] Tryz.func15 (by kernel_rfl) h (zac c0 (zac c1 zae)) lo hF z
theorem yahh (h:(decide ((x:Int)<(q:Int))&&(decide ((x:Int)<(q:Int))&&(AC.isI (U[(x:Int).toNat*1]?.getD (.b false))&&Nat.blt ((x:Int).toNat*1) U.length&&(decide (0≤d)&&decide (d<6)&&(Nat.ble (d.toNat*1+1) (bcs u).length&&true&&true)))))=true) (c0:pe (.c (.i (AC.asI (U[(x:Int).toNat*1]?.getD (.b false)))))=pe (.c (.i d))) (c1:we 22 (splice (bcs u) (d.toNat*1) [.b true])=we 22 (bcs (u.set d.toNat true))) (c2:pe (.c (.i (IntKind.i64.wrap ((x:Int)+1))))=pe (.c (.i (↑(x+1):Int)))) (lo:Kn.Low (zr6 L M A j r (x+1) q (u.set d.toNat true) U)) (hF:∀ k,C.F k→k<45) (z:AR 15 Tryz.f15 C 2 (zr6 L M A j r (x+1) q (u.set d.toNat true) U) R) :
  AR 15 Tryz.f15 C 2 (zr6 L M A j r x q u U) R :=
 zai [true] ([true]) [(26,3),(26,5),(25,1)] Tryz.func15 (by kernel_rfl) h (zac c0 (zac c1 (zac c2 zae))) lo hF z
theorem yalp (h:(!decide ((x:Int)<(q:Int))&&(decide ((j:Int)<(L.length:Int))&&(Nat.ble (0+(j:Int).toNat*6+(bcs u).length) (rcell A).length&&true&&true)))=true) (c0:we 12 (splice (rcell A) (0+(j:Int).toNat*6) (bcs u))=we 12 (rcell (A.set j u))) (c1:pe (.c (.i (IntKind.i64.wrap ((j:Int) - 1))))=pe (.c (.i ((j:Int) - 1)))) (lo:Kn.Low ⟨[(3,.c (.sx 4 L.length)),(4,.c (.sl 12 0 L.length L.length)),(5,.c (.i ((j:Int) - 1)))],[(0,Ent.mk false (pcell L) 0),(4,Ent.mk true (pcell M) r),(12,Ent.mk true (rcell (A.set j u)) 0)],14⟩) (hF:∀ k,C.F k→k<14) (z:AR 15 Tryz.f15 C 0 ⟨[(3,.c (.sx 4 L.length)),(4,.c (.sl 12 0 L.length L.length)),(5,.c (.i ((j:Int) - 1)))],[(0,Ent.mk false (pcell L) 0),(4,Ent.mk true (pcell M) r),(12,Ent.mk true (rcell (A.set j u)) 0)],14⟩ R) :
  AR 15 Tryz.f15 C 2 (zr6 L M A j r x q u U) R :=
 zai [false] ([true]) [(27,4),(7,1)] Tryz.func15 (by kernel_rfl) h (zac c0 (zac c1 zae)) lo hF z
theorem zrw (h:(decide ((j:Int)<(L.length:Int))&&(Nat.ble (0+(j:Int).toNat*6+(bcs u).length) (rcell A).length&&true&&true))=true) (c0:we 12 (splice (rcell A) (0+(j:Int).toNat*6) (bcs u))=we 12 (rcell (A.set j u))) (c1:pe (.c (.i (IntKind.i64.wrap ((j:Int) - 1))))=pe (.c (.i ((j:Int) - 1)))) (lo:Kn.Low ⟨[(3,.c (.sx 4 L.length)),(4,.c (.sl 12 0 L.length L.length)),(5,.c (.i ((j:Int) - 1)))],[(0,Ent.mk false (pcell L) 0),(4,Ent.mk true (pcell M) r),(12,Ent.mk true (rcell (A.set j u)) 0)],14⟩) (hF:∀ k,C.F k→k<14) (z:AR 15 Tryz.f15 C 0 ⟨[(3,.c (.sx 4 L.length)),(4,.c (.sl 12 0 L.length L.length)),(5,.c (.i ((j:Int) - 1)))],[(0,Ent.mk false (pcell L) 0),(4,Ent.mk true (pcell M) r),(12,Ent.mk true (rcell (A.set j u)) 0)],14⟩ R) :
  AR 15 Tryz.f15 C 2 (zmt L M A j r u) R :=
 zai [false] ([true]) [(27,4),(7,1)] Tryz.func15 (by kernel_rfl) h (zac c0 (zac c1 zae)) lo hF z
end
section
variable {L:List Ins} {c n q:Nat} {e tr p:Int} {w:World} {β:Bs} {S S2:List St}
end
section
abbrev zgw (L:List Ins) (c j:Nat) (S:List St):Kn:=⟨[(0,.c (.sl 0 0 L.length c)),(2,.c (.w 1)),(3,.c (.sl 4 0 L.length L.length)),(4,.c (.i (j:Int)))],[(0,Ent.mk false (pcell L) 0),(1,Ent.mk true [.i 0,.i 0,zco] 0),(4,Ent.mk true (scell S) 0)],6⟩
variable {L:List Ins} {c j n q d:Nat} {b a u1 g1 u2 g2 u:St} {C:Cx} {R:Ending→World→Prop} {S S1 S2:List St} {tr p:Int} {w:World} {β:Bs}
theorem yazo (h:(decide ((L.length:Int)≤(L.length:Int))&&decide ((L.length:Int)≤1099511627776)&&true&&(decide (0<(L.length:Int))&&(Nat.ble (0+(b.cs).length) (scell (List.replicate L.length St.z)).length&&true&&true)))=true) (c0:Eff.mk (.c (.sl 4 0 (L.length:Int).toNat (L.length:Int).toNat)) [] (some (1+1+2,Ent.mk true (rows (L.length:Int).toNat St.z.cs) 0))=Eff.mk (.c (.sl 4 0 L.length L.length)) [] (some (4,Ent.mk true (scell (List.replicate L.length St.z)) 0))) (c1:Ok 30 [] (.ag b.cs)) (c2:we 4 (splice (scell (List.replicate L.length St.z)) 0 b.cs)=we 4 (scell ((List.replicate L.length St.z).set 0 b))) (lo:Kn.Low ⟨[(0,.c (.sl 0 0 L.length c)),(2,.c (.w 1)),(3,.c (.sl 4 0 L.length L.length)),(4,.c (.i 0))],[(0,Ent.mk false (pcell L) 0),(1,Ent.mk true [.i 0,.i 0,zco] 0),(4,Ent.mk true (scell ((List.replicate L.length St.z).set 0 b)) 0)],6⟩) (hF:∀ k,C.F k→k<6) (z:AR 12 Tryz.f12 C 0 ⟨[(0,.c (.sl 0 0 L.length c)),(2,.c (.w 1)),(3,.c (.sl 4 0 L.length L.length)),(4,.c (.i 0))],[(0,Ent.mk false (pcell L) 0),(1,Ent.mk true [.i 0,.i 0,zco] 0),(4,Ent.mk true (scell ((List.replicate L.length St.z).set 0 b)) 0)],6⟩ R) :
  BO 12 Tryz.f12 C [.c (.sl 0 0 L.length c)] [(0,Ent.mk false (pcell L) 0)] 1 R :=
 zai [] ([true]) [(1,2),(2,3)] Tryz.func12 (by kernel_rfl) h (zac c0 (zab c1 (zac c2 zae))) lo hF z
theorem yac2 (h:(decide ((j:Int)<(L.length:Int))&&(decide ((j:Int)<(L.length:Int))&&(Nat.ble (0+(j:Int).toNat*5+5) (pcell L).length&&(decide ((j:Int)<(L.length:Int))&&(Nat.ble (0+(j:Int).toNat*31+31) (scell S).length&&(tr != 0&&(decide ((↑(j+1):Int)≤(L.length:Int))&&decide ((L.length:Int)≤(L.length:Int))&&true)))))))=true) (c0:pe (.ag (((pcell L).drop (0+(j:Int).toNat*5)).take 5))=pe (.ag (elt L j).cs)) (c1:pe (.ag (((scell S).drop (0+(j:Int).toNat*31)).take 31))=pe (.ag (stAt S j).cs)) (c2:Ok 31 [.ag (elt L j).cs,.ag (stAt S j).cs] (.tu [.ag a.cs,.ag b.cs,.c (.i tr)])) (c3:pe (.c (.i (IntKind.i64.wrap ((j:Int)+1))))=pe (.c (.i (↑(j+1):Int)))) (c4:pe (.c (.sl 4 0 ((↑(j+1):Int)).toNat ((L.length:Int)).toNat))=pe (.c (.sl 4 0 (j+1) L.length))) (hk:EKeys n [] (some 4) ⟨.ag [.i tr,.i (j:Int),.sl 4 0 (j+1) L.length],[],some (4,Ent.mk true (scell S) 0)⟩) :
  AR 12 Tryz.f12 (cx w β n []) 0 (zgw L c j S) (REff w β ⟨.ag [.i tr,.i (j:Int),.sl 4 0 (j+1) L.length],[],some (4,Ent.mk true (scell S) 0)⟩) :=
 zah [] (some 4) [true,true] ([true]) [(6,3),(6,7),(8,4),(8,5)] Tryz.func12 hk (by kernel_rfl) h (zac c0 (zac c1 (zab c2 (zac c3 (zac c4 zae)))))
theorem yakw (h:(!decide ((j:Int)<(L.length:Int))&&true)=true) (hk:EKeys n [] (some 4) ⟨.ag [.i 0,.i 0,.sl 4 0 L.length L.length],[],some (4,Ent.mk true (scell S) 0)⟩) :
  AR 12 Tryz.f12 (cx w β n []) 0 (zgw L c j S) (REff w β ⟨.ag [.i 0,.i 0,.sl 4 0 L.length L.length],[],some (4,Ent.mk true (scell S) 0)⟩) :=
 zah [] (some 4) [false] ([true]) [] Tryz.func12 hk (by kernel_rfl) h zae
theorem yapk (h:(decide ((j:Int)<(L.length:Int))&&(decide ((j:Int)<(L.length:Int))&&(Nat.ble (0+(j:Int).toNat*5+5) (pcell L).length&&(decide ((j:Int)<(L.length:Int))&&(Nat.ble (0+(j:Int).toNat*31+31) (scell S).length&&(decide ((↑(j+1):Int)<(L.length:Int))&&(decide ((↑(j+1):Int)<(L.length:Int))&&(Nat.ble (0+(↑(j+1):Int).toNat*31+31) (scell S).length&&(decide ((↑(j+1):Int)<(L.length:Int))&&(Nat.ble (0+(↑(j+1):Int).toNat*31+(u1.cs).length) (scell S).length&&true&&(decide ((j:Int)<(L.length:Int))&&(AC.isI ((pcell L)[0+(j:Int).toNat*5+4]?.getD (.b false))&&Nat.blt (0+(j:Int).toNat*5+4) (pcell L).length&&(!b.live&&true)))))))))))))=true) (c0:pe (.ag (((pcell L).drop (0+(j:Int).toNat*5)).take 5))=pe (.ag (elt L j).cs)) (c1:pe (.ag (((scell S).drop (0+(j:Int).toNat*31)).take 31))=pe (.ag (stAt S j).cs)) (c2:Ok 31 [.ag (elt L j).cs,.ag (stAt S j).cs] (.tu [.ag a.cs,.ag b.cs,.c (.i 0)])) (c3:pe (.c (.i (IntKind.i64.wrap ((j:Int)+1))))=pe (.c (.i (↑(j+1):Int)))) (c4:pe (.c (.i (IntKind.i64.wrap ((j:Int)+1))))=pe (.c (.i (↑(j+1):Int)))) (c5:pe (.c (.i (IntKind.i64.wrap ((j:Int)+1))))=pe (.c (.i (↑(j+1):Int)))) (c6:pe (.ag (((scell S).drop (0+(↑(j+1):Int).toNat*31)).take 31))=pe (.ag g1.cs)) (c7:Ok 32 [.ag g1.cs,.ag a.cs] (.ag u1.cs)) (c8:we 4 (splice (scell S) (0+(↑(j+1):Int).toNat*31) u1.cs)=we 4 (scell S1)) (c9:pe (.c (.i (IntKind.i64.wrap ((j:Int)+1))))=pe (.c (.i (↑(j+1):Int)))) (c10:pe (.c (.i (AC.asI ((pcell L)[0+(j:Int).toNat*5+4]?.getD (.b false)))))=pe (.c (.i (elt L j).of))) (c11:pe (.c (.i (IntKind.i64.wrap ((↑(j+1):Int)+(elt L j).of))))=pe (.c (.i ((↑(j+1):Int)+(elt L j).of)))) (c12:pe (.c (.i (IntKind.i64.wrap ((j:Int)+1))))=pe (.c (.i (↑(j+1):Int)))) (lo:Kn.Low (zgw L c (j+1) S1)) (hF:∀ k,C.F k→k<6) (z:AR 12 Tryz.f12 C 0 (zgw L c (j+1) S1) R) :
  AR 12 Tryz.f12 C 0 (zgw L c j S) R :=
 zai [true,false,true,false] ([true]) [(6,3),(6,7),(9,1),(10,2),(10,5),(10,7),(10,11),(11,1),(11,6),(11,7),(13,5),(13,9),(5,1)] Tryz.func12 (by kernel_rfl) h (zac c0 (zac c1 (zab c2 (zac c3 (zac c4 (zac c5 (zac c6 (zab c7 (zac c8 (zac c9 (zac c10 (zac c11 (zac c12 zae))))))))))))) lo hF z
theorem yapf (h:(decide ((j:Int)<(L.length:Int))&&(decide ((j:Int)<(L.length:Int))&&(Nat.ble (0+(j:Int).toNat*5+5) (pcell L).length&&(decide ((j:Int)<(L.length:Int))&&(Nat.ble (0+(j:Int).toNat*31+31) (scell S).length&&(decide ((↑(j+1):Int)<(L.length:Int))&&(decide ((↑(j+1):Int)<(L.length:Int))&&(Nat.ble (0+(↑(j+1):Int).toNat*31+31) (scell S).length&&(decide ((↑(j+1):Int)<(L.length:Int))&&(Nat.ble (0+(↑(j+1):Int).toNat*31+(u1.cs).length) (scell S).length&&true&&(decide ((j:Int)<(L.length:Int))&&(AC.isI ((pcell L)[0+(j:Int).toNat*5+4]?.getD (.b false))&&Nat.blt (0+(j:Int).toNat*5+4) (pcell L).length&&(b.live&&(decide (0≤(↑(j+1):Int)+(elt L j).of)&&decide ((↑(j+1):Int)+(elt L j).of<(L.length:Int))&&(Nat.ble (0+((↑(j+1):Int)+(elt L j).of).toNat*31+31) (scell S1).length&&(decide (0≤(↑(j+1):Int)+(elt L j).of)&&decide ((↑(j+1):Int)+(elt L j).of<(L.length:Int))&&(Nat.ble (0+((↑(j+1):Int)+(elt L j).of).toNat*31+(u2.cs).length) (scell S1).length&&true&&true)))))))))))))))))=true) (c0:pe (.ag (((pcell L).drop (0+(j:Int).toNat*5)).take 5))=pe (.ag (elt L j).cs)) (c1:pe (.ag (((scell S).drop (0+(j:Int).toNat*31)).take 31))=pe (.ag (stAt S j).cs)) (c2:Ok 31 [.ag (elt L j).cs,.ag (stAt S j).cs] (.tu [.ag a.cs,.ag b.cs,.c (.i 0)])) (c3:pe (.c (.i (IntKind.i64.wrap ((j:Int)+1))))=pe (.c (.i (↑(j+1):Int)))) (c4:pe (.c (.i (IntKind.i64.wrap ((j:Int)+1))))=pe (.c (.i (↑(j+1):Int)))) (c5:pe (.c (.i (IntKind.i64.wrap ((j:Int)+1))))=pe (.c (.i (↑(j+1):Int)))) (c6:pe (.ag (((scell S).drop (0+(↑(j+1):Int).toNat*31)).take 31))=pe (.ag g1.cs)) (c7:Ok 32 [.ag g1.cs,.ag a.cs] (.ag u1.cs)) (c8:we 4 (splice (scell S) (0+(↑(j+1):Int).toNat*31) u1.cs)=we 4 (scell S1)) (c9:pe (.c (.i (IntKind.i64.wrap ((j:Int)+1))))=pe (.c (.i (↑(j+1):Int)))) (c10:pe (.c (.i (AC.asI ((pcell L)[0+(j:Int).toNat*5+4]?.getD (.b false)))))=pe (.c (.i (elt L j).of))) (c11:pe (.c (.i (IntKind.i64.wrap ((↑(j+1):Int)+(elt L j).of))))=pe (.c (.i ((↑(j+1):Int)+(elt L j).of)))) (c12:pe (.ag (((scell S1).drop (0+((↑(j+1):Int)+(elt L j).of).toNat*31)).take 31))=pe (.ag g2.cs)) (c13:Ok 32 [.ag g2.cs,.ag b.cs] (.ag u2.cs)) (c14:we 4 (splice (scell S1) (0+((↑(j+1):Int)+(elt L j).of).toNat*31) u2.cs)=we 4 (scell S2)) (c15:pe (.c (.i (IntKind.i64.wrap ((j:Int)+1))))=pe (.c (.i (↑(j+1):Int)))) (lo:Kn.Low (zgw L c (j+1) S2)) (hF:∀ k,C.F k→k<6) (z:AR 12 Tryz.f12 C 0 (zgw L c (j+1) S2) R) :
  AR 12 Tryz.f12 C 0 (zgw L c j S) R :=
 zai [true,false,true,true] ([true]) [(6,3),(6,7),(9,1),(10,2),(10,5),(10,7),(10,11),(11,1),(11,6),(11,7),(13,5),(13,9),(5,1)] Tryz.func12 (by kernel_rfl) h (zac c0 (zac c1 (zab c2 (zac c3 (zac c4 (zac c5 (zac c6 (zab c7 (zac c8 (zac c9 (zac c10 (zac c11 (zac c12 (zab c13 (zac c14 (zac c15 zae)))))))))))))))) lo hF z
theorem yal9 (h:(decide ((j:Int)<(L.length:Int))&&(decide ((j:Int)<(L.length:Int))&&(Nat.ble (0+(j:Int).toNat*5+5) (pcell L).length&&(decide ((j:Int)<(L.length:Int))&&(Nat.ble (0+(j:Int).toNat*31+31) (scell S).length&&(!decide ((↑(j+1):Int)<(L.length:Int))&&(decide ((j:Int)<(L.length:Int))&&(AC.isI ((pcell L)[0+(j:Int).toNat*5+4]?.getD (.b false))&&Nat.blt (0+(j:Int).toNat*5+4) (pcell L).length&&(!b.live&&true)))))))))=true) (c0:pe (.ag (((pcell L).drop (0+(j:Int).toNat*5)).take 5))=pe (.ag (elt L j).cs)) (c1:pe (.ag (((scell S).drop (0+(j:Int).toNat*31)).take 31))=pe (.ag (stAt S j).cs)) (c2:Ok 31 [.ag (elt L j).cs,.ag (stAt S j).cs] (.tu [.ag a.cs,.ag b.cs,.c (.i 0)])) (c3:pe (.c (.i (IntKind.i64.wrap ((j:Int)+1))))=pe (.c (.i (↑(j+1):Int)))) (c4:pe (.c (.i (IntKind.i64.wrap ((j:Int)+1))))=pe (.c (.i (↑(j+1):Int)))) (c5:pe (.c (.i (AC.asI ((pcell L)[0+(j:Int).toNat*5+4]?.getD (.b false)))))=pe (.c (.i (elt L j).of))) (c6:pe (.c (.i (IntKind.i64.wrap ((↑(j+1):Int)+(elt L j).of))))=pe (.c (.i ((↑(j+1):Int)+(elt L j).of)))) (c7:pe (.c (.i (IntKind.i64.wrap ((j:Int)+1))))=pe (.c (.i (↑(j+1):Int)))) (lo:Kn.Low (zgw L c (j+1) S)) (hF:∀ k,C.F k→k<6) (z:AR 12 Tryz.f12 C 0 (zgw L c (j+1) S) R) :
  AR 12 Tryz.f12 C 0 (zgw L c j S) R :=
 zai [true,false,false,false] ([true]) [(6,3),(6,7),(9,1),(10,2),(10,5),(10,7),(10,11),(11,1),(11,6),(11,7),(13,5),(13,9),(5,1)] Tryz.func12 (by kernel_rfl) h (zac c0 (zac c1 (zab c2 (zac c3 (zac c4 (zac c5 (zac c6 (zac c7 zae)))))))) lo hF z
end
section
abbrev zbk (i:Ins) (t:St) (q k:Nat) (U:List AC):Kn:=⟨[(2,.c (.w 0)),(3,.c (.w 1)),(4,.c (.w 2)),(5,.c (.w 3)),(7,.c (.sx 9 q)),(8,.c (.i (k:Int)))],[(0,Ent.mk true i.cs 0),(1,Ent.mk true t.cs 0),(2,Ent.mk true St.z.cs 0),(3,Ent.mk true St.z.cs 0),(9,Ent.mk true U 1)],10⟩
variable {t t1 t2:St} {d:Int} {a x y x1 y1 c b:V4} {i:Ins} {V:AV} {f1 f2 p1 p2:Bool} {w:World} {β:Bs} {n k:Nat} {U:List AC} {C:Cx} {R:Ending→World→Prop} {E:Eff}
theorem yaoc (h:(decide (0≤d)&&decide (d<6)&&(Nat.ble (1+d.toNat*1+1) (t.cs).length&&true&&(decide (0≤d)&&decide (d<6)&&(Nat.ble (7+d.toNat*4+(a.cs).length) ((St.mk t.live ((t.s).set d.toNat true) t.r).cs).length&&true&&true))))=true) (c0:we 0 ((t.cs).set (1+d.toNat*1) (.b true))=we 0 ((St.mk t.live ((t.s).set d.toNat true) t.r).cs)) (c1:we 0 (splice (St.mk t.live ((t.s).set d.toNat true) t.r).cs (7+d.toNat*4) a.cs)=we 0 ((St.wth t d.toNat a).cs)) :
  Ok 82 [.ag t.cs,.c (.i d),.ag a.cs] (.ag [.b t.live,.b ((t.s).set d.toNat true).x0,.b ((t.s).set d.toNat true).x1,.b ((t.s).set d.toNat true).x2,.b ((t.s).set d.toNat true).x3,.b ((t.s).set d.toNat true).x4,.b ((t.s).set d.toNat true).x5,.u (((t.r).set d.toNat a).x0).v,.u (((t.r).set d.toNat a).x0).m,.u (((t.r).set d.toNat a).x0).l,.u (((t.r).set d.toNat a).x0).h,.u (((t.r).set d.toNat a).x1).v,.u (((t.r).set d.toNat a).x1).m,.u (((t.r).set d.toNat a).x1).l,.u (((t.r).set d.toNat a).x1).h,.u (((t.r).set d.toNat a).x2).v,.u (((t.r).set d.toNat a).x2).m,.u (((t.r).set d.toNat a).x2).l,.u (((t.r).set d.toNat a).x2).h,.u (((t.r).set d.toNat a).x3).v,.u (((t.r).set d.toNat a).x3).m,.u (((t.r).set d.toNat a).x3).l,.u (((t.r).set d.toNat a).x3).h,.u (((t.r).set d.toNat a).x4).v,.u (((t.r).set d.toNat a).x4).m,.u (((t.r).set d.toNat a).x4).l,.u (((t.r).set d.toNat a).x4).h,.u (((t.r).set d.toNat a).x5).v,.u (((t.r).set d.toNat a).x5).m,.u (((t.r).set d.toNat a).x5).l,.u (((t.r).set d.toNat a).x5).h]) :=
 zaf [] ([]) [(1,3),(2,4)] Tryz.func82 rfl rfl rfl rfl (by kernel_rfl) h (zac c0 (zac c1 zae))
theorem yaow {q:Bool} (h:(!q&&true)=true) :
  Ok 79 [.ag i.cs,.ag t.cs,.ag x.cs,.ag y.cs,.c (.b q)] (.ag St.z.cs) :=
 zaf [true] ([]) [] Tryz.func79 rfl rfl rfl rfl (by kernel_rfl) h zae
theorem yami {q:Bool} (h:(!!q&&(i.s != -1&&true))=true) (c0:Ok 82 [.ag t.cs,.c (.i i.d),.ag x.cs] (.ag t1.cs)) (c1:Ok 82 [.ag t1.cs,.c (.i i.s),.ag y.cs] (.ag t2.cs)) :
  Ok 79 [.ag i.cs,.ag t.cs,.ag x.cs,.ag y.cs,.c (.b q)] (.ag t2.cs) :=
 zaf [false,true] ([]) [] Tryz.func79 rfl rfl rfl rfl (by kernel_rfl) h (zab c0 (zab c1 zae))
theorem yamy {q:Bool} (h:(!!q&&(!i.s != -1&&true))=true) (c0:Ok 82 [.ag t.cs,.c (.i i.d),.ag x.cs] (.ag t1.cs)) :
  Ok 79 [.ag i.cs,.ag t.cs,.ag x.cs,.ag y.cs,.c (.b q)] (.ag t1.cs) :=
 zaf [false,false] ([]) [] Tryz.func79 rfl rfl rfl rfl (by kernel_rfl) h (zab c0 zae)
theorem yago {q:Bool}
  (l0:(!q)=true→(AV.ag St.z.cs=V))
  (l1:(!q)=false→(i.s != -1)=true→(Ok 82 [.ag t.cs,.c (.i i.d),.ag x.cs] (.ag t1.cs))∧(Ok 82 [.ag t1.cs,.c (.i i.s),.ag y.cs] (.ag t2.cs))∧(AV.ag t2.cs=V))
  (l2:(!q)=false→(i.s != -1)=false→(Ok 82 [.ag t.cs,.c (.i i.d),.ag x.cs] (.ag t1.cs))∧(AV.ag t1.cs=V)) :
  Ok 79 [.ag i.cs,.ag t.cs,.ag x.cs,.ag y.cs,.c (.b q)] V :=
 (tf (!q)).elim (fun h0=>(match l0 h0 with | e=>zam (yaow (zaa h0 rfl)) e)) (fun h0=>(tf (i.s != -1)).elim (fun h1=>(match l1 h0 h1 with | ⟨c0,c1,e⟩=>zam (yami (zaa (zad h0) (zaa h1 rfl)) c0 c1) e)) (fun h1=>(match l2 h0 h1 with | ⟨c0,e⟩=>zam (yamy (zaa (zad h0) (zaa (zad h1) rfl)) c0) e)))
theorem yan5 (h:(!t.live&&true)=true) :
  BO 31 Tryz.f31 (cx w β n []) [.ag i.cs,.ag t.cs] [] 0 (REff w β ⟨.tu [.ag St.z.cs,.ag St.z.cs,.c (.i 0)],[],none⟩) :=
 zah [] none [true] ([true]) [] Tryz.func31 (zat rfl n) (by kernel_rfl) h zae
theorem yam3 {q:Nat} (h:(!!t.live&&true)=true) (c0:CO 37 [.ag i.cs] [] (Eff.mk (.c (.sx 9 q)) [] (some (9,Ent.mk true U 1)))) (lo:Kn.Low ⟨[(2,.c (.w 0)),(3,.c (.w 1)),(4,.c (.w 2)),(5,.c (.w 3)),(7,.c (.sx 9 q)),(8,.c (.i 0))],[(0,Ent.mk true i.cs 0),(1,Ent.mk true t.cs 0),(2,Ent.mk true St.z.cs 0),(3,Ent.mk true St.z.cs 0),(9,Ent.mk true U 1)],10⟩) (hF:∀ k,C.F k→k<10) (z:AR 31 Tryz.f31 C 0 ⟨[(2,.c (.w 0)),(3,.c (.w 1)),(4,.c (.w 2)),(5,.c (.w 3)),(7,.c (.sx 9 q)),(8,.c (.i 0))],[(0,Ent.mk true i.cs 0),(1,Ent.mk true t.cs 0),(2,Ent.mk true St.z.cs 0),(3,Ent.mk true St.z.cs 0),(9,Ent.mk true U 1)],10⟩ R) :
  BO 31 Tryz.f31 C [.ag i.cs,.ag t.cs] [] 0 R :=
 zai [false] ([true]) [] Tryz.func31 (by kernel_rfl) h (zab c0 zae) lo hF z
theorem yacs {q:Nat} (h:(decide ((k:Int)<(q:Int))&&(decide ((k:Int)<(q:Int))&&(AC.isI (U[(k:Int).toNat*1]?.getD (.b false))&&Nat.blt ((k:Int).toNat*1) U.length&&(decide (0≤d)&&decide (d<6)&&(AC.isB ((t.cs)[1+d.toNat*1]?.getD (.b false))&&Nat.blt (1+d.toNat*1) (t.cs).length&&(!(t.s).get d.toNat&&true))))))=true) (c0:pe (.c (.i (AC.asI (U[(k:Int).toNat*1]?.getD (.b false)))))=pe (.c (.i d))) (c1:pe (.c (.b (AC.asB ((t.cs)[1+d.toNat*1]?.getD (.b false)))))=pe (.c (.b ((t.s).get d.toNat)))) :
  AR 31 Tryz.f31 (cx w β n []) 0 (zbk i t q k U) (REff w β ⟨.tu [.ag St.z.cs,.ag St.z.cs,.c (.i 1)],[],none⟩) :=
 zah [] none [true,true] ([true]) [(7,3),(7,6),(6,1)] Tryz.func31 (zat rfl n) (by kernel_rfl) h (zac c0 (zac c1 zae))
theorem yac8 {q:Nat} (h:(decide ((k:Int)<(q:Int))&&(decide ((k:Int)<(q:Int))&&(AC.isI (U[(k:Int).toNat*1]?.getD (.b false))&&Nat.blt ((k:Int).toNat*1) U.length&&(decide (0≤d)&&decide (d<6)&&(AC.isB ((t.cs)[1+d.toNat*1]?.getD (.b false))&&Nat.blt (1+d.toNat*1) (t.cs).length&&(!!(t.s).get d.toNat&&true))))))=true) (c0:pe (.c (.i (AC.asI (U[(k:Int).toNat*1]?.getD (.b false)))))=pe (.c (.i d))) (c1:pe (.c (.b (AC.asB ((t.cs)[1+d.toNat*1]?.getD (.b false)))))=pe (.c (.b ((t.s).get d.toNat)))) (c2:pe (.c (.i (IntKind.i64.wrap ((k:Int)+1))))=pe (.c (.i (↑(k+1):Int)))) (lo:Kn.Low (zbk i t q (k+1) U)) (hF:∀ k,C.F k→k<10) (z:AR 31 Tryz.f31 C 0 (zbk i t q (k+1) U) R) :
  AR 31 Tryz.f31 C 0 (zbk i t q k U) R :=
 zai [true,false] ([true]) [(7,3),(7,6),(6,1)] Tryz.func31 (by kernel_rfl) h (zac c0 (zac c1 (zac c2 zae))) lo hF z
theorem zyc {q:Nat} (hn:n≤10)
  (l0:(!(t.s).get d.toNat)=true→(decide ((k:Int)<(q:Int)))=true∧(decide ((k:Int)<(q:Int)))=true∧(AC.isI (U[(k:Int).toNat*1]?.getD (.b false))&&Nat.blt ((k:Int).toNat*1) U.length)=true∧(decide (0≤d)&&decide (d<6))=true∧(AC.isB ((t.cs)[1+d.toNat*1]?.getD (.b false))&&Nat.blt (1+d.toNat*1) (t.cs).length)=true∧(pe (.c (.i (AC.asI (U[(k:Int).toNat*1]?.getD (.b false)))))=pe (.c (.i d)))∧(pe (.c (.b (AC.asB ((t.cs)[1+d.toNat*1]?.getD (.b false)))))=pe (.c (.b ((t.s).get d.toNat))))∧((⟨.tu [.ag St.z.cs,.ag St.z.cs,.c (.i 1)],[],none⟩:Eff)=E))
  (l1:(!(t.s).get d.toNat)=false→(decide ((k:Int)<(q:Int)))=true∧(decide ((k:Int)<(q:Int)))=true∧(AC.isI (U[(k:Int).toNat*1]?.getD (.b false))&&Nat.blt ((k:Int).toNat*1) U.length)=true∧(decide (0≤d)&&decide (d<6))=true∧(AC.isB ((t.cs)[1+d.toNat*1]?.getD (.b false))&&Nat.blt (1+d.toNat*1) (t.cs).length)=true∧(pe (.c (.i (AC.asI (U[(k:Int).toNat*1]?.getD (.b false)))))=pe (.c (.i d)))∧(pe (.c (.b (AC.asB ((t.cs)[1+d.toNat*1]?.getD (.b false)))))=pe (.c (.b ((t.s).get d.toNat))))∧(pe (.c (.i (IntKind.i64.wrap ((k:Int)+1))))=pe (.c (.i (↑(k+1):Int))))∧Kn.Low (zbk i t q (k+1) U)∧AR 31 Tryz.f31 (cx w β n []) 0 (zbk i t q (k+1) U) (REff w β E)) :
  AR 31 Tryz.f31 (cx w β n []) 0 (zbk i t q k U) (REff w β E) :=
 (tf (!(t.s).get d.toNat)).elim (fun h0=>(match l0 h0 with | ⟨o0,o1,o2,o3,o4,c0,c1,e⟩=>za6 (yacs (zaa o0 (zaa o1 (zaa o2 (zaa o3 (zaa o4 (zaa h0 rfl)))))) c0 c1) e)) (fun h0=>(match l1 h0 with | ⟨o0,o1,o2,o3,o4,c0,c1,c2,lo,z⟩=>yac8 (zaa o0 (zaa o1 (zaa o2 (zaa o3 (zaa o4 (zaa (zad h0) rfl)))))) c0 c1 c2 lo (fun _ hk=>Nat.lt_of_lt_of_le hk hn) z))
theorem yatn {q:Nat} (h:(!decide ((k:Int)<(q:Int))&&(i.s != -1&&(decide (0≤i.s)&&decide (i.s<6)&&(Nat.ble (7+(i.s).toNat*4+4) (t.cs).length&&(decide (0≤i.d)&&decide (i.d<6)&&(Nat.ble (7+(i.d).toNat*4+4) (t.cs).length&&(!i.op==10&&(decide (0≤i.d)&&decide (i.d<6)&&(Nat.ble (7+(i.d).toNat*4+4) (t.cs).length&&(i.op==15&&true))))))))))=true) (c0:Ok 74 [.c (.u i.im)] (.ag a.cs)) (c1:pe (.ag (((t.cs).drop (7+(i.s).toNat*4)).take 4))=pe (.ag ((t.r).get (i.s).toNat).cs)) (c2:pe (.ag (((t.cs).drop (7+(i.d).toNat*4)).take 4))=pe (.ag ((t.r).get (i.d).toNat).cs)) (c3:Ok 75 [.c (.i i.op)] (.c (.b false))) (c4:pe (.ag (((t.cs).drop (7+(i.d).toNat*4)).take 4))=pe (.ag ((t.r).get (i.d).toNat).cs)) :
  AR 31 Tryz.f31 (cx w β n []) 0 (zbk i t q k U) (REff w β ⟨.tu [.ag St.z.cs,.ag St.z.cs,.c (.i 0)],[],none⟩) :=
 zah [] none [false,true,false,false,false,true] ([true]) [(11,4),(12,4),(17,4)] Tryz.func31 (zat rfl n) (by kernel_rfl) h (zab c0 (zac c1 (zac c2 (zab c3 (zac c4 zae)))))
theorem yand {q:Nat} (h:(!decide ((k:Int)<(q:Int))&&(!i.s != -1&&(decide (0≤i.d)&&decide (i.d<6)&&(Nat.ble (7+(i.d).toNat*4+4) (t.cs).length&&(!i.op==10&&(decide (0≤i.d)&&decide (i.d<6)&&(Nat.ble (7+(i.d).toNat*4+4) (t.cs).length&&(!i.op==15&&(!i.op==12&&(i.op==13&&true))))))))))=true) (c0:Ok 74 [.c (.u i.im)] (.ag a.cs)) (c1:pe (.ag (((t.cs).drop (7+(i.d).toNat*4)).take 4))=pe (.ag ((t.r).get (i.d).toNat).cs)) (c2:Ok 75 [.c (.i i.op)] (.c (.b false))) (c3:pe (.ag (((t.cs).drop (7+(i.d).toNat*4)).take 4))=pe (.ag ((t.r).get (i.d).toNat).cs)) (c4:Ok 77 [.ag ((t.r).get (i.d).toNat).cs,.ag a.cs] (.tu [.ag x.cs,.ag y.cs,.c (.b p1)])) (c5:Ok 78 [.ag ((t.r).get (i.d).toNat).cs,.ag a.cs] (.tu [.ag x1.cs,.ag y1.cs,.c (.b p2)])) (c6:Ok 79 [.ag i.cs,.ag t.cs,.ag x.cs,.ag y.cs,.c (.b p1)] (.ag t1.cs)) (c7:Ok 79 [.ag i.cs,.ag t.cs,.ag x1.cs,.ag y1.cs,.c (.b p2)] (.ag t2.cs)) :
  AR 31 Tryz.f31 (cx w β n []) 0 (zbk i t q k U) (REff w β ⟨.tu [.ag t1.cs,.ag t2.cs,.c (.i 0)],[],none⟩) :=
 zah [] none [false,false,false,false,false,false,false,true] ([true]) [(11,4),(12,4),(17,4)] Tryz.func31 (zat rfl n) (by kernel_rfl) h (zab c0 (zac c1 (zab c2 (zac c3 (zab c4 (zab c5 (zab c6 (zab c7 zae))))))))
theorem yal2 {q:Nat} (h:(!decide ((k:Int)<(q:Int))&&(i.s != -1&&(decide (0≤i.s)&&decide (i.s<6)&&(Nat.ble (7+(i.s).toNat*4+4) (t.cs).length&&(decide (0≤i.d)&&decide (i.d<6)&&(Nat.ble (7+(i.d).toNat*4+4) (t.cs).length&&(!i.op==10&&(decide (0≤i.d)&&decide (i.d<6)&&(Nat.ble (7+(i.d).toNat*4+4) (t.cs).length&&(!i.op==15&&(!i.op==12&&(i.op==13&&true))))))))))))=true) (c0:Ok 74 [.c (.u i.im)] (.ag a.cs)) (c1:pe (.ag (((t.cs).drop (7+(i.s).toNat*4)).take 4))=pe (.ag ((t.r).get (i.s).toNat).cs)) (c2:pe (.ag (((t.cs).drop (7+(i.d).toNat*4)).take 4))=pe (.ag ((t.r).get (i.d).toNat).cs)) (c3:Ok 75 [.c (.i i.op)] (.c (.b false))) (c4:pe (.ag (((t.cs).drop (7+(i.d).toNat*4)).take 4))=pe (.ag ((t.r).get (i.d).toNat).cs)) (c5:Ok 77 [.ag ((t.r).get (i.d).toNat).cs,.ag ((t.r).get (i.s).toNat).cs] (.tu [.ag x.cs,.ag y.cs,.c (.b p1)])) (c6:Ok 78 [.ag ((t.r).get (i.d).toNat).cs,.ag ((t.r).get (i.s).toNat).cs] (.tu [.ag x1.cs,.ag y1.cs,.c (.b p2)])) (c7:Ok 79 [.ag i.cs,.ag t.cs,.ag x.cs,.ag y.cs,.c (.b p1)] (.ag t1.cs)) (c8:Ok 79 [.ag i.cs,.ag t.cs,.ag x1.cs,.ag y1.cs,.c (.b p2)] (.ag t2.cs)) :
  AR 31 Tryz.f31 (cx w β n []) 0 (zbk i t q k U) (REff w β ⟨.tu [.ag t1.cs,.ag t2.cs,.c (.i 0)],[],none⟩) :=
 zah [] none [false,true,false,false,false,false,false,true] ([true]) [(11,4),(12,4),(17,4)] Tryz.func31 (zat rfl n) (by kernel_rfl) h (zab c0 (zac c1 (zac c2 (zab c3 (zac c4 (zab c5 (zab c6 (zab c7 (zab c8 zae)))))))))
theorem yal8 {q:Nat} (h:(!decide ((k:Int)<(q:Int))&&(!i.s != -1&&(decide (0≤i.d)&&decide (i.d<6)&&(Nat.ble (7+(i.d).toNat*4+4) (t.cs).length&&(!i.op==10&&(decide (0≤i.d)&&decide (i.d<6)&&(Nat.ble (7+(i.d).toNat*4+4) (t.cs).length&&(!i.op==15&&(!i.op==12&&(!i.op==13&&(i.op==14&&true)))))))))))=true) (c0:Ok 74 [.c (.u i.im)] (.ag a.cs)) (c1:pe (.ag (((t.cs).drop (7+(i.d).toNat*4)).take 4))=pe (.ag ((t.r).get (i.d).toNat).cs)) (c2:Ok 75 [.c (.i i.op)] (.c (.b false))) (c3:pe (.ag (((t.cs).drop (7+(i.d).toNat*4)).take 4))=pe (.ag ((t.r).get (i.d).toNat).cs)) (c4:Ok 80 [.ag ((t.r).get (i.d).toNat).cs,.ag a.cs] (.tu [.ag x.cs,.ag y.cs,.c (.b p1)])) (c5:Ok 81 [.ag ((t.r).get (i.d).toNat).cs,.ag a.cs] (.tu [.ag x1.cs,.ag y1.cs,.c (.b p2)])) (c6:Ok 79 [.ag i.cs,.ag t.cs,.ag x.cs,.ag y.cs,.c (.b p1)] (.ag t1.cs)) (c7:Ok 79 [.ag i.cs,.ag t.cs,.ag x1.cs,.ag y1.cs,.c (.b p2)] (.ag t2.cs)) :
  AR 31 Tryz.f31 (cx w β n []) 0 (zbk i t q k U) (REff w β ⟨.tu [.ag t1.cs,.ag t2.cs,.c (.i 0)],[],none⟩) :=
 zah [] none [false,false,false,false,false,false,false,false,true] ([true]) [(11,4),(12,4),(17,4)] Tryz.func31 (zat rfl n) (by kernel_rfl) h (zab c0 (zac c1 (zab c2 (zac c3 (zab c4 (zab c5 (zab c6 (zab c7 zae))))))))
theorem yaoe {q:Nat} (h:(!decide ((k:Int)<(q:Int))&&(i.s != -1&&(decide (0≤i.s)&&decide (i.s<6)&&(Nat.ble (7+(i.s).toNat*4+4) (t.cs).length&&(decide (0≤i.d)&&decide (i.d<6)&&(Nat.ble (7+(i.d).toNat*4+4) (t.cs).length&&(!i.op==10&&(decide (0≤i.d)&&decide (i.d<6)&&(Nat.ble (7+(i.d).toNat*4+4) (t.cs).length&&(!i.op==15&&(!i.op==12&&(!i.op==13&&(i.op==14&&true)))))))))))))=true) (c0:Ok 74 [.c (.u i.im)] (.ag a.cs)) (c1:pe (.ag (((t.cs).drop (7+(i.s).toNat*4)).take 4))=pe (.ag ((t.r).get (i.s).toNat).cs)) (c2:pe (.ag (((t.cs).drop (7+(i.d).toNat*4)).take 4))=pe (.ag ((t.r).get (i.d).toNat).cs)) (c3:Ok 75 [.c (.i i.op)] (.c (.b false))) (c4:pe (.ag (((t.cs).drop (7+(i.d).toNat*4)).take 4))=pe (.ag ((t.r).get (i.d).toNat).cs)) (c5:Ok 80 [.ag ((t.r).get (i.d).toNat).cs,.ag ((t.r).get (i.s).toNat).cs] (.tu [.ag x.cs,.ag y.cs,.c (.b p1)])) (c6:Ok 81 [.ag ((t.r).get (i.d).toNat).cs,.ag ((t.r).get (i.s).toNat).cs] (.tu [.ag x1.cs,.ag y1.cs,.c (.b p2)])) (c7:Ok 79 [.ag i.cs,.ag t.cs,.ag x.cs,.ag y.cs,.c (.b p1)] (.ag t1.cs)) (c8:Ok 79 [.ag i.cs,.ag t.cs,.ag x1.cs,.ag y1.cs,.c (.b p2)] (.ag t2.cs)) :
  AR 31 Tryz.f31 (cx w β n []) 0 (zbk i t q k U) (REff w β ⟨.tu [.ag t1.cs,.ag t2.cs,.c (.i 0)],[],none⟩) :=
 zah [] none [false,true,false,false,false,false,false,false,true] ([true]) [(11,4),(12,4),(17,4)] Tryz.func31 (zat rfl n) (by kernel_rfl) h (zab c0 (zac c1 (zac c2 (zab c3 (zac c4 (zab c5 (zab c6 (zab c7 (zab c8 zae)))))))))
theorem yavo {q:Nat} (h:(!decide ((k:Int)<(q:Int))&&(i.s != -1&&(decide (0≤i.s)&&decide (i.s<6)&&(Nat.ble (7+(i.s).toNat*4+4) (t.cs).length&&(decide (0≤i.d)&&decide (i.d<6)&&(Nat.ble (7+(i.d).toNat*4+4) (t.cs).length&&(i.op==10&&(decide (nv (bsub (64#64) i.im)<nv c.h)&&true))))))))=true) (c0:Ok 74 [.c (.u i.im)] (.ag a.cs)) (c1:pe (.ag (((t.cs).drop (7+(i.s).toNat*4)).take 4))=pe (.ag ((t.r).get (i.s).toNat).cs)) (c2:pe (.ag (((t.cs).drop (7+(i.d).toNat*4)).take 4))=pe (.ag ((t.r).get (i.d).toNat).cs)) (c3:Ok 75 [.c (.i i.op)] (.c (.b true))) (c4:Ok 74 [.c (.u (BitVec.ofInt 64 i.of))] (.ag x.cs)) (c5:Ok 76 [.c (.i 2),.ag ((t.r).get (i.s).toNat).cs,.ag x.cs] (.ag c.cs)) :
  AR 31 Tryz.f31 (cx w β n []) 0 (zbk i t q k U) (REff w β ⟨.tu [.ag St.z.cs,.ag St.z.cs,.c (.i 2)],[],none⟩) :=
 zah [] none [false,true,true,true,true] ([true]) [(11,4),(12,4),(17,4)] Tryz.func31 (zat rfl n) (by kernel_rfl) h (zab c0 (zac c1 (zac c2 (zab c3 (zab c4 (zab c5 zae))))))
theorem yat7 {q:Nat} (h:(!decide ((k:Int)<(q:Int))&&(i.s != -1&&(decide (0≤i.s)&&decide (i.s<6)&&(Nat.ble (7+(i.s).toNat*4+4) (t.cs).length&&(decide (0≤i.d)&&decide (i.d<6)&&(Nat.ble (7+(i.d).toNat*4+4) (t.cs).length&&(i.op==10&&(!decide (nv (bsub (64#64) i.im)<nv c.h)&&(decide (0≤i.d)&&decide (i.d<6)&&(Nat.ble (7+(i.d).toNat*4+4) (t.cs).length&&(!i.op==15&&(!i.op==12&&(!i.op==13&&(!i.op==14&&(i.op==10&&true)))))))))))))))=true) (c0:Ok 74 [.c (.u i.im)] (.ag a.cs)) (c1:pe (.ag (((t.cs).drop (7+(i.s).toNat*4)).take 4))=pe (.ag ((t.r).get (i.s).toNat).cs)) (c2:pe (.ag (((t.cs).drop (7+(i.d).toNat*4)).take 4))=pe (.ag ((t.r).get (i.d).toNat).cs)) (c3:Ok 75 [.c (.i i.op)] (.c (.b true))) (c4:Ok 74 [.c (.u (BitVec.ofInt 64 i.of))] (.ag x.cs)) (c5:Ok 76 [.c (.i 2),.ag ((t.r).get (i.s).toNat).cs,.ag x.cs] (.ag c.cs)) (c6:pe (.ag (((t.cs).drop (7+(i.d).toNat*4)).take 4))=pe (.ag ((t.r).get (i.d).toNat).cs)) (c7:Ok 83 [.c (.i (IntKind.i64.wrap (nv i.im)))] (.ag b.cs)) (c8:Ok 82 [.ag t.cs,.c (.i i.d),.ag b.cs] (.ag t1.cs)) :
  AR 31 Tryz.f31 (cx w β n []) 0 (zbk i t q k U) (REff w β ⟨.tu [.ag t1.cs,.ag St.z.cs,.c (.i 0)],[],none⟩) :=
 zah [] none [false,true,true,true,false,false,false,false,false,true] ([true]) [(11,4),(12,4),(17,4)] Tryz.func31 (zat rfl n) (by kernel_rfl) h (zab c0 (zac c1 (zac c2 (zab c3 (zab c4 (zab c5 (zac c6 (zab c7 (zab c8 zae)))))))))
theorem yal6 {q:Nat}
  (l0:(decide (nv (bsub (64#64) i.im)<nv c.h))=true→(!decide ((k:Int)<(q:Int)))=true∧(i.s != -1)=true∧(decide (0≤i.s)&&decide (i.s<6))=true∧(Nat.ble (7+(i.s).toNat*4+4) (t.cs).length)=true∧(decide (0≤i.d)&&decide (i.d<6))=true∧(Nat.ble (7+(i.d).toNat*4+4) (t.cs).length)=true∧(i.op==10)=true∧(Ok 74 [.c (.u i.im)] (.ag a.cs))∧(pe (.ag (((t.cs).drop (7+(i.s).toNat*4)).take 4))=pe (.ag ((t.r).get (i.s).toNat).cs))∧(pe (.ag (((t.cs).drop (7+(i.d).toNat*4)).take 4))=pe (.ag ((t.r).get (i.d).toNat).cs))∧(Ok 75 [.c (.i i.op)] (.c (.b true)))∧(Ok 74 [.c (.u (BitVec.ofInt 64 i.of))] (.ag x.cs))∧(Ok 76 [.c (.i 2),.ag ((t.r).get (i.s).toNat).cs,.ag x.cs] (.ag c.cs))∧((⟨.tu [.ag St.z.cs,.ag St.z.cs,.c (.i 2)],[],none⟩:Eff)=E))
  (l1:(decide (nv (bsub (64#64) i.im)<nv c.h))=false→(!decide ((k:Int)<(q:Int)))=true∧(i.s != -1)=true∧(decide (0≤i.s)&&decide (i.s<6))=true∧(Nat.ble (7+(i.s).toNat*4+4) (t.cs).length)=true∧(decide (0≤i.d)&&decide (i.d<6))=true∧(Nat.ble (7+(i.d).toNat*4+4) (t.cs).length)=true∧(i.op==10)=true∧(decide (0≤i.d)&&decide (i.d<6))=true∧(Nat.ble (7+(i.d).toNat*4+4) (t.cs).length)=true∧(!i.op==15)=true∧(!i.op==12)=true∧(!i.op==13)=true∧(!i.op==14)=true∧(i.op==10)=true∧(Ok 74 [.c (.u i.im)] (.ag a.cs))∧(pe (.ag (((t.cs).drop (7+(i.s).toNat*4)).take 4))=pe (.ag ((t.r).get (i.s).toNat).cs))∧(pe (.ag (((t.cs).drop (7+(i.d).toNat*4)).take 4))=pe (.ag ((t.r).get (i.d).toNat).cs))∧(Ok 75 [.c (.i i.op)] (.c (.b true)))∧(Ok 74 [.c (.u (BitVec.ofInt 64 i.of))] (.ag x.cs))∧(Ok 76 [.c (.i 2),.ag ((t.r).get (i.s).toNat).cs,.ag x.cs] (.ag c.cs))∧(pe (.ag (((t.cs).drop (7+(i.d).toNat*4)).take 4))=pe (.ag ((t.r).get (i.d).toNat).cs))∧(Ok 83 [.c (.i (IntKind.i64.wrap (nv i.im)))] (.ag b.cs))∧(Ok 82 [.ag t.cs,.c (.i i.d),.ag b.cs] (.ag t1.cs))∧((⟨.tu [.ag t1.cs,.ag St.z.cs,.c (.i 0)],[],none⟩:Eff)=E)) :
  AR 31 Tryz.f31 (cx w β n []) 0 (zbk i t q k U) (REff w β E) :=
 (tf (decide (nv (bsub (64#64) i.im)<nv c.h))).elim (fun h0=>(match l0 h0 with | ⟨o0,o1,o2,o3,o4,o5,o6,c0,c1,c2,c3,c4,c5,e⟩=>za6 (yavo (zaa o0 (zaa o1 (zaa o2 (zaa o3 (zaa o4 (zaa o5 (zaa o6 (zaa h0 rfl)))))))) c0 c1 c2 c3 c4 c5) e)) (fun h0=>(match l1 h0 with | ⟨o0,o1,o2,o3,o4,o5,o6,o7,o8,o9,o10,o11,o12,o13,c0,c1,c2,c3,c4,c5,c6,c7,c8,e⟩=>za6 (yat7 (zaa o0 (zaa o1 (zaa o2 (zaa o3 (zaa o4 (zaa o5 (zaa o6 (zaa (zad h0) (zaa o7 (zaa o8 (zaa o9 (zaa o10 (zaa o11 (zaa o12 (zaa o13 rfl))))))))))))))) c0 c1 c2 c3 c4 c5 c6 c7 c8) e))
theorem yas0 {q:Nat} (h:(!decide ((k:Int)<(q:Int))&&(i.s != -1&&(decide (0≤i.s)&&decide (i.s<6)&&(Nat.ble (7+(i.s).toNat*4+4) (t.cs).length&&(decide (0≤i.d)&&decide (i.d<6)&&(Nat.ble (7+(i.d).toNat*4+4) (t.cs).length&&(!i.op==10&&(decide (nv (bsub (64#64) i.im)<nv c.h)&&true))))))))=true) (c0:Ok 74 [.c (.u i.im)] (.ag a.cs)) (c1:pe (.ag (((t.cs).drop (7+(i.s).toNat*4)).take 4))=pe (.ag ((t.r).get (i.s).toNat).cs)) (c2:pe (.ag (((t.cs).drop (7+(i.d).toNat*4)).take 4))=pe (.ag ((t.r).get (i.d).toNat).cs)) (c3:Ok 75 [.c (.i i.op)] (.c (.b true))) (c4:Ok 74 [.c (.u (BitVec.ofInt 64 i.of))] (.ag x.cs)) (c5:Ok 76 [.c (.i 2),.ag ((t.r).get (i.d).toNat).cs,.ag x.cs] (.ag c.cs)) :
  AR 31 Tryz.f31 (cx w β n []) 0 (zbk i t q k U) (REff w β ⟨.tu [.ag St.z.cs,.ag St.z.cs,.c (.i 2)],[],none⟩) :=
 zah [] none [false,true,false,true,true] ([true]) [(11,4),(12,4),(17,4)] Tryz.func31 (zat rfl n) (by kernel_rfl) h (zab c0 (zac c1 (zac c2 (zab c3 (zab c4 (zab c5 zae))))))
theorem yauc {q:Nat} (h:(!decide ((k:Int)<(q:Int))&&(i.s != -1&&(decide (0≤i.s)&&decide (i.s<6)&&(Nat.ble (7+(i.s).toNat*4+4) (t.cs).length&&(decide (0≤i.d)&&decide (i.d<6)&&(Nat.ble (7+(i.d).toNat*4+4) (t.cs).length&&(!i.op==10&&(!decide (nv (bsub (64#64) i.im)<nv c.h)&&(decide (0≤i.d)&&decide (i.d<6)&&(Nat.ble (7+(i.d).toNat*4+4) (t.cs).length&&(!i.op==15&&(!i.op==12&&(!i.op==13&&(!i.op==14&&(!i.op==10&&(i.op==11&&true))))))))))))))))=true) (c0:Ok 74 [.c (.u i.im)] (.ag a.cs)) (c1:pe (.ag (((t.cs).drop (7+(i.s).toNat*4)).take 4))=pe (.ag ((t.r).get (i.s).toNat).cs)) (c2:pe (.ag (((t.cs).drop (7+(i.d).toNat*4)).take 4))=pe (.ag ((t.r).get (i.d).toNat).cs)) (c3:Ok 75 [.c (.i i.op)] (.c (.b true))) (c4:Ok 74 [.c (.u (BitVec.ofInt 64 i.of))] (.ag x.cs)) (c5:Ok 76 [.c (.i 2),.ag ((t.r).get (i.d).toNat).cs,.ag x.cs] (.ag c.cs)) (c6:pe (.ag (((t.cs).drop (7+(i.d).toNat*4)).take 4))=pe (.ag ((t.r).get (i.d).toNat).cs)) :
  AR 31 Tryz.f31 (cx w β n []) 0 (zbk i t q k U) (REff w β ⟨.tu [.ag t.cs,.ag St.z.cs,.c (.i 0)],[],none⟩) :=
 zah [] none [false,true,false,true,false,false,false,false,false,false,true] ([true]) [(11,4),(12,4),(17,4)] Tryz.func31 (zat rfl n) (by kernel_rfl) h (zab c0 (zac c1 (zac c2 (zab c3 (zab c4 (zab c5 (zac c6 zae)))))))
theorem yapn {q:Nat}
  (l0:(decide (nv (bsub (64#64) i.im)<nv c.h))=true→(!decide ((k:Int)<(q:Int)))=true∧(i.s != -1)=true∧(decide (0≤i.s)&&decide (i.s<6))=true∧(Nat.ble (7+(i.s).toNat*4+4) (t.cs).length)=true∧(decide (0≤i.d)&&decide (i.d<6))=true∧(Nat.ble (7+(i.d).toNat*4+4) (t.cs).length)=true∧(!i.op==10)=true∧(Ok 74 [.c (.u i.im)] (.ag a.cs))∧(pe (.ag (((t.cs).drop (7+(i.s).toNat*4)).take 4))=pe (.ag ((t.r).get (i.s).toNat).cs))∧(pe (.ag (((t.cs).drop (7+(i.d).toNat*4)).take 4))=pe (.ag ((t.r).get (i.d).toNat).cs))∧(Ok 75 [.c (.i i.op)] (.c (.b true)))∧(Ok 74 [.c (.u (BitVec.ofInt 64 i.of))] (.ag x.cs))∧(Ok 76 [.c (.i 2),.ag ((t.r).get (i.d).toNat).cs,.ag x.cs] (.ag c.cs))∧((⟨.tu [.ag St.z.cs,.ag St.z.cs,.c (.i 2)],[],none⟩:Eff)=E))
  (l1:(decide (nv (bsub (64#64) i.im)<nv c.h))=false→(!decide ((k:Int)<(q:Int)))=true∧(i.s != -1)=true∧(decide (0≤i.s)&&decide (i.s<6))=true∧(Nat.ble (7+(i.s).toNat*4+4) (t.cs).length)=true∧(decide (0≤i.d)&&decide (i.d<6))=true∧(Nat.ble (7+(i.d).toNat*4+4) (t.cs).length)=true∧(!i.op==10)=true∧(decide (0≤i.d)&&decide (i.d<6))=true∧(Nat.ble (7+(i.d).toNat*4+4) (t.cs).length)=true∧(!i.op==15)=true∧(!i.op==12)=true∧(!i.op==13)=true∧(!i.op==14)=true∧(!i.op==10)=true∧(i.op==11)=true∧(Ok 74 [.c (.u i.im)] (.ag a.cs))∧(pe (.ag (((t.cs).drop (7+(i.s).toNat*4)).take 4))=pe (.ag ((t.r).get (i.s).toNat).cs))∧(pe (.ag (((t.cs).drop (7+(i.d).toNat*4)).take 4))=pe (.ag ((t.r).get (i.d).toNat).cs))∧(Ok 75 [.c (.i i.op)] (.c (.b true)))∧(Ok 74 [.c (.u (BitVec.ofInt 64 i.of))] (.ag x.cs))∧(Ok 76 [.c (.i 2),.ag ((t.r).get (i.d).toNat).cs,.ag x.cs] (.ag c.cs))∧(pe (.ag (((t.cs).drop (7+(i.d).toNat*4)).take 4))=pe (.ag ((t.r).get (i.d).toNat).cs))∧((⟨.tu [.ag t.cs,.ag St.z.cs,.c (.i 0)],[],none⟩:Eff)=E)) :
  AR 31 Tryz.f31 (cx w β n []) 0 (zbk i t q k U) (REff w β E) :=
 (tf (decide (nv (bsub (64#64) i.im)<nv c.h))).elim (fun h0=>(match l0 h0 with | ⟨o0,o1,o2,o3,o4,o5,o6,c0,c1,c2,c3,c4,c5,e⟩=>za6 (yas0 (zaa o0 (zaa o1 (zaa o2 (zaa o3 (zaa o4 (zaa o5 (zaa o6 (zaa h0 rfl)))))))) c0 c1 c2 c3 c4 c5) e)) (fun h0=>(match l1 h0 with | ⟨o0,o1,o2,o3,o4,o5,o6,o7,o8,o9,o10,o11,o12,o13,o14,c0,c1,c2,c3,c4,c5,c6,e⟩=>za6 (yauc (zaa o0 (zaa o1 (zaa o2 (zaa o3 (zaa o4 (zaa o5 (zaa o6 (zaa (zad h0) (zaa o7 (zaa o8 (zaa o9 (zaa o10 (zaa o11 (zaa o12 (zaa o13 (zaa o14 rfl)))))))))))))))) c0 c1 c2 c3 c4 c5 c6) e))
theorem yaug {q:Nat} (h:(!decide ((k:Int)<(q:Int))&&(i.s != -1&&(decide (0≤i.s)&&decide (i.s<6)&&(Nat.ble (7+(i.s).toNat*4+4) (t.cs).length&&(decide (0≤i.d)&&decide (i.d<6)&&(Nat.ble (7+(i.d).toNat*4+4) (t.cs).length&&(!i.op==10&&(decide (0≤i.d)&&decide (i.d<6)&&(Nat.ble (7+(i.d).toNat*4+4) (t.cs).length&&(!i.op==15&&(!i.op==12&&(!i.op==13&&(!i.op==14&&(!i.op==10&&(!i.op==11&&(i.op==1&&true))))))))))))))))=true) (c0:Ok 74 [.c (.u i.im)] (.ag a.cs)) (c1:pe (.ag (((t.cs).drop (7+(i.s).toNat*4)).take 4))=pe (.ag ((t.r).get (i.s).toNat).cs)) (c2:pe (.ag (((t.cs).drop (7+(i.d).toNat*4)).take 4))=pe (.ag ((t.r).get (i.d).toNat).cs)) (c3:Ok 75 [.c (.i i.op)] (.c (.b false))) (c4:pe (.ag (((t.cs).drop (7+(i.d).toNat*4)).take 4))=pe (.ag ((t.r).get (i.d).toNat).cs)) (c5:Ok 82 [.ag t.cs,.c (.i i.d),.ag ((t.r).get (i.s).toNat).cs] (.ag t1.cs)) :
  AR 31 Tryz.f31 (cx w β n []) 0 (zbk i t q k U) (REff w β ⟨.tu [.ag t1.cs,.ag St.z.cs,.c (.i 0)],[],none⟩) :=
 zah [] none [false,true,false,false,false,false,false,false,false,false,false,true] ([true]) [(11,4),(12,4),(17,4)] Tryz.func31 (zat rfl n) (by kernel_rfl) h (zab c0 (zac c1 (zac c2 (zab c3 (zac c4 (zab c5 zae))))))
theorem yat9 {q:Nat} (h:(!decide ((k:Int)<(q:Int))&&(!i.s != -1&&(decide (0≤i.d)&&decide (i.d<6)&&(Nat.ble (7+(i.d).toNat*4+4) (t.cs).length&&(!i.op==10&&(decide (0≤i.d)&&decide (i.d<6)&&(Nat.ble (7+(i.d).toNat*4+4) (t.cs).length&&(!i.op==15&&(!i.op==12&&(!i.op==13&&(!i.op==14&&(!i.op==10&&(!i.op==11&&(!i.op==1&&true))))))))))))))=true) (c0:Ok 74 [.c (.u i.im)] (.ag a.cs)) (c1:pe (.ag (((t.cs).drop (7+(i.d).toNat*4)).take 4))=pe (.ag ((t.r).get (i.d).toNat).cs)) (c2:Ok 75 [.c (.i i.op)] (.c (.b false))) (c3:pe (.ag (((t.cs).drop (7+(i.d).toNat*4)).take 4))=pe (.ag ((t.r).get (i.d).toNat).cs)) (c4:Ok 76 [.c (.i i.op),.ag ((t.r).get (i.d).toNat).cs,.ag a.cs] (.ag b.cs)) (c5:Ok 82 [.ag t.cs,.c (.i i.d),.ag b.cs] (.ag t1.cs)) :
  AR 31 Tryz.f31 (cx w β n []) 0 (zbk i t q k U) (REff w β ⟨.tu [.ag t1.cs,.ag St.z.cs,.c (.i 0)],[],none⟩) :=
 zah [] none [false,false,false,false,false,false,false,false,false,false,false,false] ([true]) [(11,4),(12,4),(17,4)] Tryz.func31 (zat rfl n) (by kernel_rfl) h (zab c0 (zac c1 (zab c2 (zac c3 (zab c4 (zab c5 zae))))))
theorem yast {q:Nat} (h:(!decide ((k:Int)<(q:Int))&&(i.s != -1&&(decide (0≤i.s)&&decide (i.s<6)&&(Nat.ble (7+(i.s).toNat*4+4) (t.cs).length&&(decide (0≤i.d)&&decide (i.d<6)&&(Nat.ble (7+(i.d).toNat*4+4) (t.cs).length&&(!i.op==10&&(decide (0≤i.d)&&decide (i.d<6)&&(Nat.ble (7+(i.d).toNat*4+4) (t.cs).length&&(!i.op==15&&(!i.op==12&&(!i.op==13&&(!i.op==14&&(!i.op==10&&(!i.op==11&&(!i.op==1&&true))))))))))))))))=true) (c0:Ok 74 [.c (.u i.im)] (.ag a.cs)) (c1:pe (.ag (((t.cs).drop (7+(i.s).toNat*4)).take 4))=pe (.ag ((t.r).get (i.s).toNat).cs)) (c2:pe (.ag (((t.cs).drop (7+(i.d).toNat*4)).take 4))=pe (.ag ((t.r).get (i.d).toNat).cs)) (c3:Ok 75 [.c (.i i.op)] (.c (.b false))) (c4:pe (.ag (((t.cs).drop (7+(i.d).toNat*4)).take 4))=pe (.ag ((t.r).get (i.d).toNat).cs)) (c5:Ok 76 [.c (.i i.op),.ag ((t.r).get (i.d).toNat).cs,.ag ((t.r).get (i.s).toNat).cs] (.ag b.cs)) (c6:Ok 82 [.ag t.cs,.c (.i i.d),.ag b.cs] (.ag t1.cs)) :
  AR 31 Tryz.f31 (cx w β n []) 0 (zbk i t q k U) (REff w β ⟨.tu [.ag t1.cs,.ag St.z.cs,.c (.i 0)],[],none⟩) :=
 zah [] none [false,true,false,false,false,false,false,false,false,false,false,false] ([true]) [(11,4),(12,4),(17,4)] Tryz.func31 (zat rfl n) (by kernel_rfl) h (zab c0 (zac c1 (zac c2 (zab c3 (zac c4 (zab c5 (zab c6 zae)))))))
theorem yarl (h:(!!t.live&&(i.s != -1&&(decide (0≤i.s)&&decide (i.s<6)&&(Nat.ble (7+(i.s).toNat*4+4) (t.cs).length&&(decide (0≤i.d)&&decide (i.d<6)&&(Nat.ble (7+(i.d).toNat*4+4) (t.cs).length&&(!i.op==10&&(decide (0≤i.d)&&decide (i.d<6)&&(Nat.ble (7+(i.d).toNat*4+4) (t.cs).length&&(!i.op==15&&(i.op==12&&true)))))))))))=true) (c0:Ok 37 [.ag i.cs] (.c zco)) (c1:Ok 74 [.c (.u i.im)] (.ag a.cs)) (c2:pe (.ag (((t.cs).drop (7+(i.s).toNat*4)).take 4))=pe (.ag ((t.r).get (i.s).toNat).cs)) (c3:pe (.ag (((t.cs).drop (7+(i.d).toNat*4)).take 4))=pe (.ag ((t.r).get (i.d).toNat).cs)) (c4:Ok 75 [.c (.i i.op)] (.c (.b false))) (c5:pe (.ag (((t.cs).drop (7+(i.d).toNat*4)).take 4))=pe (.ag ((t.r).get (i.d).toNat).cs)) :
  Ok 31 [.ag i.cs,.ag t.cs] (.tu [.ag St.z.cs,.ag t.cs,.c (.i 0)]) :=
 zaf [false,false,true,false,false,false,false,true] ([false]) [(11,4),(12,4),(17,4)] Tryz.func31 rfl rfl rfl rfl (by kernel_rfl) h (zab c0 (zab c1 (zac c2 (zac c3 (zab c4 (zac c5 zae))))))
theorem yaub (h:(!!t.live&&(!i.s != -1&&(decide (0≤i.d)&&decide (i.d<6)&&(Nat.ble (7+(i.d).toNat*4+4) (t.cs).length&&(!i.op==10&&(decide (0≤i.d)&&decide (i.d<6)&&(Nat.ble (7+(i.d).toNat*4+4) (t.cs).length&&(!i.op==15&&(!i.op==12&&(!i.op==13&&(!i.op==14&&(!i.op==10&&(!i.op==11&&(i.op==1&&true))))))))))))))=true) (c0:Ok 37 [.ag i.cs] (.c zco)) (c1:Ok 74 [.c (.u i.im)] (.ag a.cs)) (c2:pe (.ag (((t.cs).drop (7+(i.d).toNat*4)).take 4))=pe (.ag ((t.r).get (i.d).toNat).cs)) (c3:Ok 75 [.c (.i i.op)] (.c (.b false))) (c4:pe (.ag (((t.cs).drop (7+(i.d).toNat*4)).take 4))=pe (.ag ((t.r).get (i.d).toNat).cs)) (c5:Ok 82 [.ag t.cs,.c (.i i.d),.ag a.cs] (.ag t1.cs)) :
  Ok 31 [.ag i.cs,.ag t.cs] (.tu [.ag t1.cs,.ag St.z.cs,.c (.i 0)]) :=
 zaf [false,false,false,false,false,false,false,false,false,false,false,false,true] ([false]) [(11,4),(12,4),(17,4)] Tryz.func31 rfl rfl rfl rfl (by kernel_rfl) h (zab c0 (zab c1 (zac c2 (zab c3 (zac c4 (zab c5 zae))))))
end
section
abbrev zb5 (i:Ins) (t:St) (u:V6 Bool) (j:Int):Kn:=⟨[(2,.c (.w 0)),(3,.c (.w 1)),(8,.ag (bcs u)),(9,.c (.i j))],[(0,Ent.mk true i.cs 0),(1,Ent.mk true t.cs 0)],2⟩
variable {i:Ins} {e j ce tr:Int} {V:AV} {a b c x y:V4} {t t1 t2:St} {q fi:Bool} {u:V6 Bool} {C:Cx} {R:Ending→World→Prop} {w:World} {β:Bs} {n:Nat} {E:Eff}
theorem yaz3 (h:(i.op==12&&(i.op==12&&(decide (i.of<0)&&true)))=true) :
  Ok 55 [.ag i.cs] (.c (.b false)) :=
 zaf [true,true,true,true] ([]) [] Tryz.func55 rfl rfl rfl rfl (by kernel_rfl) h zae
theorem yazt (h:(i.op==12&&(i.op==12&&(!decide (i.of<0)&&(decide (64<i.of)&&true))))=true) :
  Ok 55 [.ag i.cs] (.c (.b false)) :=
 zaf [true,true,false,true] ([]) [] Tryz.func55 rfl rfl rfl rfl (by kernel_rfl) h zae
theorem yaz1 (h:(i.op==12&&(i.op==12&&(!decide (i.of<0)&&(!decide (64<i.of)&&true))))=true) (c0:CO 19 [.c (.sl 18 0 2 2)] [(18,Ent.mk true [.i i.op,.i i.d,.i i.s,.u i.im,.i 0,.i 15,.i 0,.i 0,.u 0#64,.i 0] 0)] (pe (.c (.i e)))) :
  Ok 55 [.ag i.cs] (.c (.b (e==0))) :=
 zaf [true,true,false,false] ([]) [] Tryz.func55 rfl rfl rfl rfl (by kernel_rfl) h (zab c0 zae)
theorem yazl (h:(!i.op==12&&(i.op==13&&(i.op==13&&(decide (i.of<0)&&true))))=true) :
  Ok 55 [.ag i.cs] (.c (.b false)) :=
 zaf [false,true,true,true,true] ([]) [] Tryz.func55 rfl rfl rfl rfl (by kernel_rfl) h zae
theorem yayk (h:(!i.op==12&&(i.op==13&&(i.op==13&&(!decide (i.of<0)&&(decide (64<i.of)&&true)))))=true) :
  Ok 55 [.ag i.cs] (.c (.b false)) :=
 zaf [false,true,true,false,true] ([]) [] Tryz.func55 rfl rfl rfl rfl (by kernel_rfl) h zae
theorem yayg (h:(!i.op==12&&(i.op==13&&(i.op==13&&(!decide (i.of<0)&&(!decide (64<i.of)&&true)))))=true) (c0:CO 19 [.c (.sl 20 0 2 2)] [(20,Ent.mk true [.i i.op,.i i.d,.i i.s,.u i.im,.i 0,.i 15,.i 0,.i 0,.u 0#64,.i 0] 0)] (pe (.c (.i e)))) :
  Ok 55 [.ag i.cs] (.c (.b (e==0))) :=
 zaf [false,true,true,false,false] ([]) [] Tryz.func55 rfl rfl rfl rfl (by kernel_rfl) h (zab c0 zae)
theorem yaza (h:(!i.op==12&&(!i.op==13&&(i.op==14&&(decide (i.of<0)&&true))))=true) :
  Ok 55 [.ag i.cs] (.c (.b false)) :=
 zaf [false,false,true,true,true] ([]) [] Tryz.func55 rfl rfl rfl rfl (by kernel_rfl) h zae
theorem yayh (h:(!i.op==12&&(!i.op==13&&(i.op==14&&(!decide (i.of<0)&&(decide (64<i.of)&&true)))))=true) :
  Ok 55 [.ag i.cs] (.c (.b false)) :=
 zaf [false,false,true,false,true] ([]) [] Tryz.func55 rfl rfl rfl rfl (by kernel_rfl) h zae
theorem yaxp (h:(!i.op==12&&(!i.op==13&&(i.op==14&&(!decide (i.of<0)&&(!decide (64<i.of)&&true)))))=true) (c0:CO 19 [.c (.sl 22 0 2 2)] [(22,Ent.mk true [.i i.op,.i i.d,.i i.s,.u i.im,.i 0,.i 15,.i 0,.i 0,.u 0#64,.i 0] 0)] (pe (.c (.i e)))) :
  Ok 55 [.ag i.cs] (.c (.b (e==0))) :=
 zaf [false,false,true,false,false] ([]) [] Tryz.func55 rfl rfl rfl rfl (by kernel_rfl) h (zab c0 zae)
theorem yazb (h:(!i.op==12&&(!i.op==13&&(!i.op==14&&true)))=true) (c0:CO 19 [.c (.sl 12 0 2 2)] [(12,Ent.mk true [.i i.op,.i i.d,.i i.s,.u i.im,.i i.of,.i 15,.i 0,.i 0,.u 0#64,.i 0] 0)] (pe (.c (.i e)))) :
  Ok 55 [.ag i.cs] (.c (.b (e==0))) :=
 zaf [false,false,false] ([]) [] Tryz.func55 rfl rfl rfl rfl (by kernel_rfl) h (zab c0 zae)
theorem yajb
  (l0:(i.op==12)=true→(decide (i.of<0))=true→(AV.c (.b false)=V))
  (l1:(i.op==12)=true→(decide (i.of<0))=false→(decide (64<i.of))=true→(AV.c (.b false)=V))
  (l2:(i.op==12)=true→(decide (i.of<0))=false→(decide (64<i.of))=false→(CO 19 [.c (.sl 18 0 2 2)] [(18,Ent.mk true [.i i.op,.i i.d,.i i.s,.u i.im,.i 0,.i 15,.i 0,.i 0,.u 0#64,.i 0] 0)] (pe (.c (.i e))))∧(AV.c (.b (e==0))=V))
  (l3:(i.op==12)=false→(i.op==13)=true→(decide (i.of<0))=true→(AV.c (.b false)=V))
  (l4:(i.op==12)=false→(i.op==13)=true→(decide (i.of<0))=false→(decide (64<i.of))=true→(AV.c (.b false)=V))
  (l5:(i.op==12)=false→(i.op==13)=true→(decide (i.of<0))=false→(decide (64<i.of))=false→(CO 19 [.c (.sl 20 0 2 2)] [(20,Ent.mk true [.i i.op,.i i.d,.i i.s,.u i.im,.i 0,.i 15,.i 0,.i 0,.u 0#64,.i 0] 0)] (pe (.c (.i e))))∧(AV.c (.b (e==0))=V))
  (l6:(i.op==12)=false→(i.op==13)=false→(i.op==14)=true→(decide (i.of<0))=true→(AV.c (.b false)=V))
  (l7:(i.op==12)=false→(i.op==13)=false→(i.op==14)=true→(decide (i.of<0))=false→(decide (64<i.of))=true→(AV.c (.b false)=V))
  (l8:(i.op==12)=false→(i.op==13)=false→(i.op==14)=true→(decide (i.of<0))=false→(decide (64<i.of))=false→(CO 19 [.c (.sl 22 0 2 2)] [(22,Ent.mk true [.i i.op,.i i.d,.i i.s,.u i.im,.i 0,.i 15,.i 0,.i 0,.u 0#64,.i 0] 0)] (pe (.c (.i e))))∧(AV.c (.b (e==0))=V))
  (l9:(i.op==12)=false→(i.op==13)=false→(i.op==14)=false→(CO 19 [.c (.sl 12 0 2 2)] [(12,Ent.mk true [.i i.op,.i i.d,.i i.s,.u i.im,.i i.of,.i 15,.i 0,.i 0,.u 0#64,.i 0] 0)] (pe (.c (.i e))))∧(AV.c (.b (e==0))=V)) :
  Ok 55 [.ag i.cs] V :=
 (tf (i.op==12)).elim (fun h0=>(tf (decide (i.of<0))).elim (fun h1=>(match l0 h0 h1 with | e=>zam (yaz3 (zaa h0 (zaa h0 (zaa h1 rfl)))) e)) (fun h1=>(tf (decide (64<i.of))).elim (fun h2=>(match l1 h0 h1 h2 with | e=>zam (yazt (zaa h0 (zaa h0 (zaa (zad h1) (zaa h2 rfl))))) e)) (fun h2=>(match l2 h0 h1 h2 with | ⟨c0,e⟩=>zam (yaz1 (zaa h0 (zaa h0 (zaa (zad h1) (zaa (zad h2) rfl)))) c0) e)))) (fun h0=>(tf (i.op==13)).elim (fun h1=>(tf (decide (i.of<0))).elim (fun h2=>(match l3 h0 h1 h2 with | e=>zam (yazl (zaa (zad h0) (zaa h1 (zaa h1 (zaa h2 rfl))))) e)) (fun h2=>(tf (decide (64<i.of))).elim (fun h3=>(match l4 h0 h1 h2 h3 with | e=>zam (yayk (zaa (zad h0) (zaa h1 (zaa h1 (zaa (zad h2) (zaa h3 rfl)))))) e)) (fun h3=>(match l5 h0 h1 h2 h3 with | ⟨c0,e⟩=>zam (yayg (zaa (zad h0) (zaa h1 (zaa h1 (zaa (zad h2) (zaa (zad h3) rfl))))) c0) e)))) (fun h1=>(tf (i.op==14)).elim (fun h2=>(tf (decide (i.of<0))).elim (fun h3=>(match l6 h0 h1 h2 h3 with | e=>zam (yaza (zaa (zad h0) (zaa (zad h1) (zaa h2 (zaa h3 rfl))))) e)) (fun h3=>(tf (decide (64<i.of))).elim (fun h4=>(match l7 h0 h1 h2 h3 h4 with | e=>zam (yayh (zaa (zad h0) (zaa (zad h1) (zaa h2 (zaa (zad h3) (zaa h4 rfl)))))) e)) (fun h4=>(match l8 h0 h1 h2 h3 h4 with | ⟨c0,e⟩=>zam (yaxp (zaa (zad h0) (zaa (zad h1) (zaa h2 (zaa (zad h3) (zaa (zad h4) rfl))))) c0) e)))) (fun h2=>(match l9 h0 h1 h2 with | ⟨c0,e⟩=>zam (yazb (zaa (zad h0) (zaa (zad h1) (zaa (zad h2) rfl))) c0) e))))
theorem yahx (h:(decide (nv (bsub (64#64) i.im)<nv c.h)&&true)=true) (c0:Ok 144 [.c (.u (BitVec.ofInt 64 i.of))] (.ag b.cs)) (c1:Ok 108 [.c (.i 2),.ag a.cs,.ag b.cs] (.tu [.ag c.cs,.c (.i 0)])) :
  Ok 100 [.ag i.cs,.ag a.cs] (.c (.i 2)) :=
 zaf [true] ([]) [] Tryz.func100 rfl rfl rfl rfl (by kernel_rfl) h (zab c0 (zab c1 zae))
theorem yagu (h:(!decide (nv (bsub (64#64) i.im)<nv c.h)&&true)=true) (c0:Ok 144 [.c (.u (BitVec.ofInt 64 i.of))] (.ag b.cs)) (c1:Ok 108 [.c (.i 2),.ag a.cs,.ag b.cs] (.tu [.ag c.cs,.c (.i 0)])) :
  Ok 100 [.ag i.cs,.ag a.cs] (.c (.i 0)) :=
 zaf [false] ([]) [] Tryz.func100 rfl rfl rfl rfl (by kernel_rfl) h (zab c0 (zab c1 zae))
theorem yaee
  (l0:(decide (nv (bsub (64#64) i.im)<nv c.h))=true→(Ok 144 [.c (.u (BitVec.ofInt 64 i.of))] (.ag b.cs))∧(Ok 108 [.c (.i 2),.ag a.cs,.ag b.cs] (.tu [.ag c.cs,.c (.i 0)]))∧(AV.c (.i 2)=V))
  (l1:(decide (nv (bsub (64#64) i.im)<nv c.h))=false→(Ok 144 [.c (.u (BitVec.ofInt 64 i.of))] (.ag b.cs))∧(Ok 108 [.c (.i 2),.ag a.cs,.ag b.cs] (.tu [.ag c.cs,.c (.i 0)]))∧(AV.c (.i 0)=V)) :
  Ok 100 [.ag i.cs,.ag a.cs] V :=
 (tf (decide (nv (bsub (64#64) i.im)<nv c.h))).elim (fun h0=>(match l0 h0 with | ⟨c0,c1,e⟩=>zam (yahx (zaa h0 rfl) c0 c1) e)) (fun h0=>(match l1 h0 with | ⟨c0,c1,e⟩=>zam (yagu (zaa (zad h0) rfl) c0 c1) e))
theorem yagd (h:(i.s==-1&&true)=true) (c0:Ok 144 [.c (.u i.im)] (.ag b.cs)) :
  Ok 107 [.ag i.cs,.ag t.cs] (.ag b.cs) :=
 zaf [true] ([]) [(3,4)] Tryz.func107 rfl rfl rfl rfl (by kernel_rfl) h (zab c0 zae)
theorem yac3 (h:(!i.s==-1&&(decide (0≤i.s)&&decide (i.s<6)&&(Nat.ble (7+(i.s).toNat*4+4) (t.cs).length&&true)))=true) (c0:pe (.ag (((t.cs).drop (7+(i.s).toNat*4)).take 4))=pe (.ag ((t.r).get (i.s).toNat).cs)) :
  Ok 107 [.ag i.cs,.ag t.cs] (.ag ((t.r).get (i.s).toNat).cs) :=
 zaf [false] ([]) [(3,4)] Tryz.func107 rfl rfl rfl rfl (by kernel_rfl) h (zac c0 zae)
theorem zzi
  (l0:(i.s==-1)=true→(Ok 144 [.c (.u i.im)] (.ag b.cs))∧(AV.ag b.cs=V))
  (l1:(i.s==-1)=false→(decide (0≤i.s)&&decide (i.s<6))=true∧(Nat.ble (7+(i.s).toNat*4+4) (t.cs).length)=true∧(pe (.ag (((t.cs).drop (7+(i.s).toNat*4)).take 4))=pe (.ag ((t.r).get (i.s).toNat).cs))∧(AV.ag ((t.r).get (i.s).toNat).cs=V)) :
  Ok 107 [.ag i.cs,.ag t.cs] V :=
 (tf (i.s==-1)).elim (fun h0=>(match l0 h0 with | ⟨c0,e⟩=>zam (yagd (zaa h0 rfl) c0) e)) (fun h0=>(match l1 h0 with | ⟨o0,o1,c0,e⟩=>zam (yac3 (zaa (zad h0) (zaa o0 (zaa o1 rfl))) c0) e))
theorem yaf0 (h:(decide (0≤i.d)&&decide (i.d<6)&&(Nat.ble (7+(i.d).toNat*4+4) (t.cs).length&&(!q&&true)))=true) (c0:pe (.ag (((t.cs).drop (7+(i.d).toNat*4)).take 4))=pe (.ag ((t.r).get (i.d).toNat).cs)) (c1:Ok 107 [.ag i.cs,.ag t.cs] (.ag b.cs)) (c2:Ok 103 [.ag ((t.r).get (i.d).toNat).cs,.ag b.cs] (.tu [.ag x.cs,.ag y.cs,.c (.b q),.c (.i 0)])) :
  Ok 102 [.ag i.cs,.ag t.cs,.c (.f 103 [])] (.ag St.z.cs) :=
 zaf [true] ([]) [(1,5)] Tryz.func102 rfl rfl rfl rfl (by kernel_rfl) h (zac c0 (zab c1 (zab c2 zae)))
theorem yaeg (h:(decide (0≤i.d)&&decide (i.d<6)&&(Nat.ble (7+(i.d).toNat*4+4) (t.cs).length&&(!!q&&(i.s != -1&&true))))=true) (c0:pe (.ag (((t.cs).drop (7+(i.d).toNat*4)).take 4))=pe (.ag ((t.r).get (i.d).toNat).cs)) (c1:Ok 107 [.ag i.cs,.ag t.cs] (.ag b.cs)) (c2:Ok 103 [.ag ((t.r).get (i.d).toNat).cs,.ag b.cs] (.tu [.ag x.cs,.ag y.cs,.c (.b q),.c (.i 0)])) (c3:Ok 53 [.ag t.cs,.c (.i i.d),.ag x.cs] (.ag t1.cs)) (c4:Ok 53 [.ag t1.cs,.c (.i i.s),.ag y.cs] (.ag t2.cs)) :
  Ok 102 [.ag i.cs,.ag t.cs,.c (.f 103 [])] (.ag t2.cs) :=
 zaf [false,true] ([]) [(1,5)] Tryz.func102 rfl rfl rfl rfl (by kernel_rfl) h (zac c0 (zab c1 (zab c2 (zab c3 (zab c4 zae)))))
theorem yacw (h:(decide (0≤i.d)&&decide (i.d<6)&&(Nat.ble (7+(i.d).toNat*4+4) (t.cs).length&&(!!q&&(!i.s != -1&&true))))=true) (c0:pe (.ag (((t.cs).drop (7+(i.d).toNat*4)).take 4))=pe (.ag ((t.r).get (i.d).toNat).cs)) (c1:Ok 107 [.ag i.cs,.ag t.cs] (.ag b.cs)) (c2:Ok 103 [.ag ((t.r).get (i.d).toNat).cs,.ag b.cs] (.tu [.ag x.cs,.ag y.cs,.c (.b q),.c (.i 0)])) (c3:Ok 53 [.ag t.cs,.c (.i i.d),.ag x.cs] (.ag t1.cs)) :
  Ok 102 [.ag i.cs,.ag t.cs,.c (.f 103 [])] (.ag t1.cs) :=
 zaf [false,false] ([]) [(1,5)] Tryz.func102 rfl rfl rfl rfl (by kernel_rfl) h (zac c0 (zab c1 (zab c2 (zab c3 zae))))
theorem zxd
  (l0:(!q)=true→(decide (0≤i.d)&&decide (i.d<6))=true∧(Nat.ble (7+(i.d).toNat*4+4) (t.cs).length)=true∧(pe (.ag (((t.cs).drop (7+(i.d).toNat*4)).take 4))=pe (.ag ((t.r).get (i.d).toNat).cs))∧(Ok 107 [.ag i.cs,.ag t.cs] (.ag b.cs))∧(Ok 103 [.ag ((t.r).get (i.d).toNat).cs,.ag b.cs] (.tu [.ag x.cs,.ag y.cs,.c (.b q),.c (.i 0)]))∧(AV.ag St.z.cs=V))
  (l1:(!q)=false→(i.s != -1)=true→(decide (0≤i.d)&&decide (i.d<6))=true∧(Nat.ble (7+(i.d).toNat*4+4) (t.cs).length)=true∧(pe (.ag (((t.cs).drop (7+(i.d).toNat*4)).take 4))=pe (.ag ((t.r).get (i.d).toNat).cs))∧(Ok 107 [.ag i.cs,.ag t.cs] (.ag b.cs))∧(Ok 103 [.ag ((t.r).get (i.d).toNat).cs,.ag b.cs] (.tu [.ag x.cs,.ag y.cs,.c (.b q),.c (.i 0)]))∧(Ok 53 [.ag t.cs,.c (.i i.d),.ag x.cs] (.ag t1.cs))∧(Ok 53 [.ag t1.cs,.c (.i i.s),.ag y.cs] (.ag t2.cs))∧(AV.ag t2.cs=V))
  (l2:(!q)=false→(i.s != -1)=false→(decide (0≤i.d)&&decide (i.d<6))=true∧(Nat.ble (7+(i.d).toNat*4+4) (t.cs).length)=true∧(pe (.ag (((t.cs).drop (7+(i.d).toNat*4)).take 4))=pe (.ag ((t.r).get (i.d).toNat).cs))∧(Ok 107 [.ag i.cs,.ag t.cs] (.ag b.cs))∧(Ok 103 [.ag ((t.r).get (i.d).toNat).cs,.ag b.cs] (.tu [.ag x.cs,.ag y.cs,.c (.b q),.c (.i 0)]))∧(Ok 53 [.ag t.cs,.c (.i i.d),.ag x.cs] (.ag t1.cs))∧(AV.ag t1.cs=V)) :
  Ok 102 [.ag i.cs,.ag t.cs,.c (.f 103 [])] V :=
 (tf (!q)).elim (fun h0=>(match l0 h0 with | ⟨o0,o1,c0,c1,c2,e⟩=>zam (yaf0 (zaa o0 (zaa o1 (zaa h0 rfl))) c0 c1 c2) e)) (fun h0=>(tf (i.s != -1)).elim (fun h1=>(match l1 h0 h1 with | ⟨o0,o1,c0,c1,c2,c3,c4,e⟩=>zam (yaeg (zaa o0 (zaa o1 (zaa (zad h0) (zaa h1 rfl)))) c0 c1 c2 c3 c4) e)) (fun h1=>(match l2 h0 h1 with | ⟨o0,o1,c0,c1,c2,c3,e⟩=>zam (yacw (zaa o0 (zaa o1 (zaa (zad h0) (zaa (zad h1) rfl)))) c0 c1 c2 c3) e)))
theorem yafq (h:(decide (0≤i.d)&&decide (i.d<6)&&(Nat.ble (7+(i.d).toNat*4+4) (t.cs).length&&(!q&&true)))=true) (c0:pe (.ag (((t.cs).drop (7+(i.d).toNat*4)).take 4))=pe (.ag ((t.r).get (i.d).toNat).cs)) (c1:Ok 107 [.ag i.cs,.ag t.cs] (.ag b.cs)) (c2:Ok 104 [.ag ((t.r).get (i.d).toNat).cs,.ag b.cs] (.tu [.ag x.cs,.ag y.cs,.c (.b q),.c (.i 0)])) :
  Ok 102 [.ag i.cs,.ag t.cs,.c (.f 104 [])] (.ag St.z.cs) :=
 zaf [true] ([]) [(1,5)] Tryz.func102 rfl rfl rfl rfl (by kernel_rfl) h (zac c0 (zab c1 (zab c2 zae)))
theorem yafv (h:(decide (0≤i.d)&&decide (i.d<6)&&(Nat.ble (7+(i.d).toNat*4+4) (t.cs).length&&(!!q&&(i.s != -1&&true))))=true) (c0:pe (.ag (((t.cs).drop (7+(i.d).toNat*4)).take 4))=pe (.ag ((t.r).get (i.d).toNat).cs)) (c1:Ok 107 [.ag i.cs,.ag t.cs] (.ag b.cs)) (c2:Ok 104 [.ag ((t.r).get (i.d).toNat).cs,.ag b.cs] (.tu [.ag x.cs,.ag y.cs,.c (.b q),.c (.i 0)])) (c3:Ok 53 [.ag t.cs,.c (.i i.d),.ag x.cs] (.ag t1.cs)) (c4:Ok 53 [.ag t1.cs,.c (.i i.s),.ag y.cs] (.ag t2.cs)) :
  Ok 102 [.ag i.cs,.ag t.cs,.c (.f 104 [])] (.ag t2.cs) :=
 zaf [false,true] ([]) [(1,5)] Tryz.func102 rfl rfl rfl rfl (by kernel_rfl) h (zac c0 (zab c1 (zab c2 (zab c3 (zab c4 zae)))))
theorem yaek (h:(decide (0≤i.d)&&decide (i.d<6)&&(Nat.ble (7+(i.d).toNat*4+4) (t.cs).length&&(!!q&&(!i.s != -1&&true))))=true) (c0:pe (.ag (((t.cs).drop (7+(i.d).toNat*4)).take 4))=pe (.ag ((t.r).get (i.d).toNat).cs)) (c1:Ok 107 [.ag i.cs,.ag t.cs] (.ag b.cs)) (c2:Ok 104 [.ag ((t.r).get (i.d).toNat).cs,.ag b.cs] (.tu [.ag x.cs,.ag y.cs,.c (.b q),.c (.i 0)])) (c3:Ok 53 [.ag t.cs,.c (.i i.d),.ag x.cs] (.ag t1.cs)) :
  Ok 102 [.ag i.cs,.ag t.cs,.c (.f 104 [])] (.ag t1.cs) :=
 zaf [false,false] ([]) [(1,5)] Tryz.func102 rfl rfl rfl rfl (by kernel_rfl) h (zac c0 (zab c1 (zab c2 (zab c3 zae))))
theorem zze
  (l0:(!q)=true→(decide (0≤i.d)&&decide (i.d<6))=true∧(Nat.ble (7+(i.d).toNat*4+4) (t.cs).length)=true∧(pe (.ag (((t.cs).drop (7+(i.d).toNat*4)).take 4))=pe (.ag ((t.r).get (i.d).toNat).cs))∧(Ok 107 [.ag i.cs,.ag t.cs] (.ag b.cs))∧(Ok 104 [.ag ((t.r).get (i.d).toNat).cs,.ag b.cs] (.tu [.ag x.cs,.ag y.cs,.c (.b q),.c (.i 0)]))∧(AV.ag St.z.cs=V))
  (l1:(!q)=false→(i.s != -1)=true→(decide (0≤i.d)&&decide (i.d<6))=true∧(Nat.ble (7+(i.d).toNat*4+4) (t.cs).length)=true∧(pe (.ag (((t.cs).drop (7+(i.d).toNat*4)).take 4))=pe (.ag ((t.r).get (i.d).toNat).cs))∧(Ok 107 [.ag i.cs,.ag t.cs] (.ag b.cs))∧(Ok 104 [.ag ((t.r).get (i.d).toNat).cs,.ag b.cs] (.tu [.ag x.cs,.ag y.cs,.c (.b q),.c (.i 0)]))∧(Ok 53 [.ag t.cs,.c (.i i.d),.ag x.cs] (.ag t1.cs))∧(Ok 53 [.ag t1.cs,.c (.i i.s),.ag y.cs] (.ag t2.cs))∧(AV.ag t2.cs=V))
  (l2:(!q)=false→(i.s != -1)=false→(decide (0≤i.d)&&decide (i.d<6))=true∧(Nat.ble (7+(i.d).toNat*4+4) (t.cs).length)=true∧(pe (.ag (((t.cs).drop (7+(i.d).toNat*4)).take 4))=pe (.ag ((t.r).get (i.d).toNat).cs))∧(Ok 107 [.ag i.cs,.ag t.cs] (.ag b.cs))∧(Ok 104 [.ag ((t.r).get (i.d).toNat).cs,.ag b.cs] (.tu [.ag x.cs,.ag y.cs,.c (.b q),.c (.i 0)]))∧(Ok 53 [.ag t.cs,.c (.i i.d),.ag x.cs] (.ag t1.cs))∧(AV.ag t1.cs=V)) :
  Ok 102 [.ag i.cs,.ag t.cs,.c (.f 104 [])] V :=
 (tf (!q)).elim (fun h0=>(match l0 h0 with | ⟨o0,o1,c0,c1,c2,e⟩=>zam (yafq (zaa o0 (zaa o1 (zaa h0 rfl))) c0 c1 c2) e)) (fun h0=>(tf (i.s != -1)).elim (fun h1=>(match l1 h0 h1 with | ⟨o0,o1,c0,c1,c2,c3,c4,e⟩=>zam (yafv (zaa o0 (zaa o1 (zaa (zad h0) (zaa h1 rfl)))) c0 c1 c2 c3 c4) e)) (fun h1=>(match l2 h0 h1 with | ⟨o0,o1,c0,c1,c2,c3,e⟩=>zam (yaek (zaa o0 (zaa o1 (zaa (zad h0) (zaa (zad h1) rfl)))) c0 c1 c2 c3) e)))
theorem yacv (h:(decide (0≤i.d)&&decide (i.d<6)&&(Nat.ble (7+(i.d).toNat*4+4) (t.cs).length&&(!q&&true)))=true) (c0:pe (.ag (((t.cs).drop (7+(i.d).toNat*4)).take 4))=pe (.ag ((t.r).get (i.d).toNat).cs)) (c1:Ok 107 [.ag i.cs,.ag t.cs] (.ag b.cs)) (c2:Ok 105 [.ag ((t.r).get (i.d).toNat).cs,.ag b.cs] (.tu [.ag x.cs,.ag y.cs,.c (.b q),.c (.i 0)])) :
  Ok 102 [.ag i.cs,.ag t.cs,.c (.f 105 [])] (.ag St.z.cs) :=
 zaf [true] ([]) [(1,5)] Tryz.func102 rfl rfl rfl rfl (by kernel_rfl) h (zac c0 (zab c1 (zab c2 zae)))
theorem yafd (h:(decide (0≤i.d)&&decide (i.d<6)&&(Nat.ble (7+(i.d).toNat*4+4) (t.cs).length&&(!!q&&(i.s != -1&&true))))=true) (c0:pe (.ag (((t.cs).drop (7+(i.d).toNat*4)).take 4))=pe (.ag ((t.r).get (i.d).toNat).cs)) (c1:Ok 107 [.ag i.cs,.ag t.cs] (.ag b.cs)) (c2:Ok 105 [.ag ((t.r).get (i.d).toNat).cs,.ag b.cs] (.tu [.ag x.cs,.ag y.cs,.c (.b q),.c (.i 0)])) (c3:Ok 53 [.ag t.cs,.c (.i i.d),.ag x.cs] (.ag t1.cs)) (c4:Ok 53 [.ag t1.cs,.c (.i i.s),.ag y.cs] (.ag t2.cs)) :
  Ok 102 [.ag i.cs,.ag t.cs,.c (.f 105 [])] (.ag t2.cs) :=
 zaf [false,true] ([]) [(1,5)] Tryz.func102 rfl rfl rfl rfl (by kernel_rfl) h (zac c0 (zab c1 (zab c2 (zab c3 (zab c4 zae)))))
theorem yad9 (h:(decide (0≤i.d)&&decide (i.d<6)&&(Nat.ble (7+(i.d).toNat*4+4) (t.cs).length&&(!!q&&(!i.s != -1&&true))))=true) (c0:pe (.ag (((t.cs).drop (7+(i.d).toNat*4)).take 4))=pe (.ag ((t.r).get (i.d).toNat).cs)) (c1:Ok 107 [.ag i.cs,.ag t.cs] (.ag b.cs)) (c2:Ok 105 [.ag ((t.r).get (i.d).toNat).cs,.ag b.cs] (.tu [.ag x.cs,.ag y.cs,.c (.b q),.c (.i 0)])) (c3:Ok 53 [.ag t.cs,.c (.i i.d),.ag x.cs] (.ag t1.cs)) :
  Ok 102 [.ag i.cs,.ag t.cs,.c (.f 105 [])] (.ag t1.cs) :=
 zaf [false,false] ([]) [(1,5)] Tryz.func102 rfl rfl rfl rfl (by kernel_rfl) h (zac c0 (zab c1 (zab c2 (zab c3 zae))))
theorem zy5
  (l0:(!q)=true→(decide (0≤i.d)&&decide (i.d<6))=true∧(Nat.ble (7+(i.d).toNat*4+4) (t.cs).length)=true∧(pe (.ag (((t.cs).drop (7+(i.d).toNat*4)).take 4))=pe (.ag ((t.r).get (i.d).toNat).cs))∧(Ok 107 [.ag i.cs,.ag t.cs] (.ag b.cs))∧(Ok 105 [.ag ((t.r).get (i.d).toNat).cs,.ag b.cs] (.tu [.ag x.cs,.ag y.cs,.c (.b q),.c (.i 0)]))∧(AV.ag St.z.cs=V))
  (l1:(!q)=false→(i.s != -1)=true→(decide (0≤i.d)&&decide (i.d<6))=true∧(Nat.ble (7+(i.d).toNat*4+4) (t.cs).length)=true∧(pe (.ag (((t.cs).drop (7+(i.d).toNat*4)).take 4))=pe (.ag ((t.r).get (i.d).toNat).cs))∧(Ok 107 [.ag i.cs,.ag t.cs] (.ag b.cs))∧(Ok 105 [.ag ((t.r).get (i.d).toNat).cs,.ag b.cs] (.tu [.ag x.cs,.ag y.cs,.c (.b q),.c (.i 0)]))∧(Ok 53 [.ag t.cs,.c (.i i.d),.ag x.cs] (.ag t1.cs))∧(Ok 53 [.ag t1.cs,.c (.i i.s),.ag y.cs] (.ag t2.cs))∧(AV.ag t2.cs=V))
  (l2:(!q)=false→(i.s != -1)=false→(decide (0≤i.d)&&decide (i.d<6))=true∧(Nat.ble (7+(i.d).toNat*4+4) (t.cs).length)=true∧(pe (.ag (((t.cs).drop (7+(i.d).toNat*4)).take 4))=pe (.ag ((t.r).get (i.d).toNat).cs))∧(Ok 107 [.ag i.cs,.ag t.cs] (.ag b.cs))∧(Ok 105 [.ag ((t.r).get (i.d).toNat).cs,.ag b.cs] (.tu [.ag x.cs,.ag y.cs,.c (.b q),.c (.i 0)]))∧(Ok 53 [.ag t.cs,.c (.i i.d),.ag x.cs] (.ag t1.cs))∧(AV.ag t1.cs=V)) :
  Ok 102 [.ag i.cs,.ag t.cs,.c (.f 105 [])] V :=
 (tf (!q)).elim (fun h0=>(match l0 h0 with | ⟨o0,o1,c0,c1,c2,e⟩=>zam (yacv (zaa o0 (zaa o1 (zaa h0 rfl))) c0 c1 c2) e)) (fun h0=>(tf (i.s != -1)).elim (fun h1=>(match l1 h0 h1 with | ⟨o0,o1,c0,c1,c2,c3,c4,e⟩=>zam (yafd (zaa o0 (zaa o1 (zaa (zad h0) (zaa h1 rfl)))) c0 c1 c2 c3 c4) e)) (fun h1=>(match l2 h0 h1 with | ⟨o0,o1,c0,c1,c2,c3,e⟩=>zam (yad9 (zaa o0 (zaa o1 (zaa (zad h0) (zaa (zad h1) rfl)))) c0 c1 c2 c3) e)))
theorem yadb (h:(decide (0≤i.d)&&decide (i.d<6)&&(Nat.ble (7+(i.d).toNat*4+4) (t.cs).length&&(!q&&true)))=true) (c0:pe (.ag (((t.cs).drop (7+(i.d).toNat*4)).take 4))=pe (.ag ((t.r).get (i.d).toNat).cs)) (c1:Ok 107 [.ag i.cs,.ag t.cs] (.ag b.cs)) (c2:Ok 106 [.ag ((t.r).get (i.d).toNat).cs,.ag b.cs] (.tu [.ag x.cs,.ag y.cs,.c (.b q),.c (.i 0)])) :
  Ok 102 [.ag i.cs,.ag t.cs,.c (.f 106 [])] (.ag St.z.cs) :=
 zaf [true] ([]) [(1,5)] Tryz.func102 rfl rfl rfl rfl (by kernel_rfl) h (zac c0 (zab c1 (zab c2 zae)))
theorem yact (h:(decide (0≤i.d)&&decide (i.d<6)&&(Nat.ble (7+(i.d).toNat*4+4) (t.cs).length&&(!!q&&(i.s != -1&&true))))=true) (c0:pe (.ag (((t.cs).drop (7+(i.d).toNat*4)).take 4))=pe (.ag ((t.r).get (i.d).toNat).cs)) (c1:Ok 107 [.ag i.cs,.ag t.cs] (.ag b.cs)) (c2:Ok 106 [.ag ((t.r).get (i.d).toNat).cs,.ag b.cs] (.tu [.ag x.cs,.ag y.cs,.c (.b q),.c (.i 0)])) (c3:Ok 53 [.ag t.cs,.c (.i i.d),.ag x.cs] (.ag t1.cs)) (c4:Ok 53 [.ag t1.cs,.c (.i i.s),.ag y.cs] (.ag t2.cs)) :
  Ok 102 [.ag i.cs,.ag t.cs,.c (.f 106 [])] (.ag t2.cs) :=
 zaf [false,true] ([]) [(1,5)] Tryz.func102 rfl rfl rfl rfl (by kernel_rfl) h (zac c0 (zab c1 (zab c2 (zab c3 (zab c4 zae)))))
theorem yads (h:(decide (0≤i.d)&&decide (i.d<6)&&(Nat.ble (7+(i.d).toNat*4+4) (t.cs).length&&(!!q&&(!i.s != -1&&true))))=true) (c0:pe (.ag (((t.cs).drop (7+(i.d).toNat*4)).take 4))=pe (.ag ((t.r).get (i.d).toNat).cs)) (c1:Ok 107 [.ag i.cs,.ag t.cs] (.ag b.cs)) (c2:Ok 106 [.ag ((t.r).get (i.d).toNat).cs,.ag b.cs] (.tu [.ag x.cs,.ag y.cs,.c (.b q),.c (.i 0)])) (c3:Ok 53 [.ag t.cs,.c (.i i.d),.ag x.cs] (.ag t1.cs)) :
  Ok 102 [.ag i.cs,.ag t.cs,.c (.f 106 [])] (.ag t1.cs) :=
 zaf [false,false] ([]) [(1,5)] Tryz.func102 rfl rfl rfl rfl (by kernel_rfl) h (zac c0 (zab c1 (zab c2 (zab c3 zae))))
theorem zxt
  (l0:(!q)=true→(decide (0≤i.d)&&decide (i.d<6))=true∧(Nat.ble (7+(i.d).toNat*4+4) (t.cs).length)=true∧(pe (.ag (((t.cs).drop (7+(i.d).toNat*4)).take 4))=pe (.ag ((t.r).get (i.d).toNat).cs))∧(Ok 107 [.ag i.cs,.ag t.cs] (.ag b.cs))∧(Ok 106 [.ag ((t.r).get (i.d).toNat).cs,.ag b.cs] (.tu [.ag x.cs,.ag y.cs,.c (.b q),.c (.i 0)]))∧(AV.ag St.z.cs=V))
  (l1:(!q)=false→(i.s != -1)=true→(decide (0≤i.d)&&decide (i.d<6))=true∧(Nat.ble (7+(i.d).toNat*4+4) (t.cs).length)=true∧(pe (.ag (((t.cs).drop (7+(i.d).toNat*4)).take 4))=pe (.ag ((t.r).get (i.d).toNat).cs))∧(Ok 107 [.ag i.cs,.ag t.cs] (.ag b.cs))∧(Ok 106 [.ag ((t.r).get (i.d).toNat).cs,.ag b.cs] (.tu [.ag x.cs,.ag y.cs,.c (.b q),.c (.i 0)]))∧(Ok 53 [.ag t.cs,.c (.i i.d),.ag x.cs] (.ag t1.cs))∧(Ok 53 [.ag t1.cs,.c (.i i.s),.ag y.cs] (.ag t2.cs))∧(AV.ag t2.cs=V))
  (l2:(!q)=false→(i.s != -1)=false→(decide (0≤i.d)&&decide (i.d<6))=true∧(Nat.ble (7+(i.d).toNat*4+4) (t.cs).length)=true∧(pe (.ag (((t.cs).drop (7+(i.d).toNat*4)).take 4))=pe (.ag ((t.r).get (i.d).toNat).cs))∧(Ok 107 [.ag i.cs,.ag t.cs] (.ag b.cs))∧(Ok 106 [.ag ((t.r).get (i.d).toNat).cs,.ag b.cs] (.tu [.ag x.cs,.ag y.cs,.c (.b q),.c (.i 0)]))∧(Ok 53 [.ag t.cs,.c (.i i.d),.ag x.cs] (.ag t1.cs))∧(AV.ag t1.cs=V)) :
  Ok 102 [.ag i.cs,.ag t.cs,.c (.f 106 [])] V :=
 (tf (!q)).elim (fun h0=>(match l0 h0 with | ⟨o0,o1,c0,c1,c2,e⟩=>zam (yadb (zaa o0 (zaa o1 (zaa h0 rfl))) c0 c1 c2) e)) (fun h0=>(tf (i.s != -1)).elim (fun h1=>(match l1 h0 h1 with | ⟨o0,o1,c0,c1,c2,c3,c4,e⟩=>zam (yact (zaa o0 (zaa o1 (zaa (zad h0) (zaa h1 rfl)))) c0 c1 c2 c3 c4) e)) (fun h1=>(match l2 h0 h1 with | ⟨o0,o1,c0,c1,c2,c3,e⟩=>zam (yads (zaa o0 (zaa o1 (zaa (zad h0) (zaa (zad h1) rfl)))) c0 c1 c2 c3) e)))
theorem yaoq (c0:Ok 99 [.ag i.cs] (.ag (bcs u))) (lo:Kn.Low (zb5 i t u 0)) (hF:∀ k,C.F k→k<2) (z:AR 57 Tryz.f57 C 0 (zb5 i t u 0) R) :
  BO 57 Tryz.f57 C [.ag i.cs,.ag t.cs] [] 0 R :=
 zai [] ([true]) [] Tryz.func57 (by kernel_rfl) rfl (zab c0 zae) lo hF z
theorem yadn (h:(decide (j<6)&&(AC.isB ((bcs u)[j.toNat*1]?.getD (.b false))&&Nat.blt (j.toNat*1) (bcs u).length&&(decide (0≤j)&&decide (j<6))&&(u.get j.toNat&&(decide (0≤j)&&decide (j<6)&&(AC.isB ((t.cs)[1+j.toNat*1]?.getD (.b false))&&Nat.blt (1+j.toNat*1) (t.cs).length&&(!(t.s).get j.toNat&&true))))))=true) (c0:pe (.c (.b (AC.asB ((bcs u)[j.toNat*1]?.getD (.b false)))))=pe (.c (.b (u.get j.toNat)))) (c1:pe (.c (.b (AC.asB ((t.cs)[1+j.toNat*1]?.getD (.b false)))))=pe (.c (.b ((t.s).get j.toNat)))) :
  AR 57 Tryz.f57 (cx w β n []) 0 (zb5 i t u j) (REff w β ⟨.c (.i 1),[],none⟩) :=
 zah [] none [true,true,true] ([true]) [(3,1),(4,5)] Tryz.func57 (zat rfl n) (by kernel_rfl) h (zac c0 (zac c1 zae))
theorem yafn (h:(decide (j<6)&&(AC.isB ((bcs u)[j.toNat*1]?.getD (.b false))&&Nat.blt (j.toNat*1) (bcs u).length&&(decide (0≤j)&&decide (j<6))&&(u.get j.toNat&&(decide (0≤j)&&decide (j<6)&&(AC.isB ((t.cs)[1+j.toNat*1]?.getD (.b false))&&Nat.blt (1+j.toNat*1) (t.cs).length&&(!!(t.s).get j.toNat&&true))))))=true) (c0:pe (.c (.b (AC.asB ((bcs u)[j.toNat*1]?.getD (.b false)))))=pe (.c (.b (u.get j.toNat)))) (c1:pe (.c (.b (AC.asB ((t.cs)[1+j.toNat*1]?.getD (.b false)))))=pe (.c (.b ((t.s).get j.toNat)))) (lo:Kn.Low (zb5 i t u (IntKind.i64.wrap (j+1)))) (hF:∀ k,C.F k→k<2) (z:AR 57 Tryz.f57 C 0 (zb5 i t u (IntKind.i64.wrap (j+1))) R) :
  AR 57 Tryz.f57 C 0 (zb5 i t u j) R :=
 zai [true,true,false] ([true]) [(3,1),(4,5)] Tryz.func57 (by kernel_rfl) h (zac c0 (zac c1 zae)) lo hF z
theorem yafg (h:(decide (j<6)&&(AC.isB ((bcs u)[j.toNat*1]?.getD (.b false))&&Nat.blt (j.toNat*1) (bcs u).length&&(decide (0≤j)&&decide (j<6))&&(!u.get j.toNat&&true)))=true) (c0:pe (.c (.b (AC.asB ((bcs u)[j.toNat*1]?.getD (.b false)))))=pe (.c (.b (u.get j.toNat)))) (lo:Kn.Low (zb5 i t u (IntKind.i64.wrap (j+1)))) (hF:∀ k,C.F k→k<2) (z:AR 57 Tryz.f57 C 0 (zb5 i t u (IntKind.i64.wrap (j+1))) R) :
  AR 57 Tryz.f57 C 0 (zb5 i t u j) R :=
 zai [true,false,false] ([true]) [(3,1),(4,5)] Tryz.func57 (by kernel_rfl) h (zac c0 zae) lo hF z
theorem zy9 (hn:n≤2)
  (l0:(u.get j.toNat)=true→(!(t.s).get j.toNat)=true→(decide (j<6))=true∧(AC.isB ((bcs u)[j.toNat*1]?.getD (.b false))&&Nat.blt (j.toNat*1) (bcs u).length&&(decide (0≤j)&&decide (j<6)))=true∧(decide (0≤j)&&decide (j<6))=true∧(AC.isB ((t.cs)[1+j.toNat*1]?.getD (.b false))&&Nat.blt (1+j.toNat*1) (t.cs).length)=true∧(pe (.c (.b (AC.asB ((bcs u)[j.toNat*1]?.getD (.b false)))))=pe (.c (.b (u.get j.toNat))))∧(pe (.c (.b (AC.asB ((t.cs)[1+j.toNat*1]?.getD (.b false)))))=pe (.c (.b ((t.s).get j.toNat))))∧((⟨.c (.i 1),[],none⟩:Eff)=E))
  (l1:(u.get j.toNat)=true→(!(t.s).get j.toNat)=false→(decide (j<6))=true∧(AC.isB ((bcs u)[j.toNat*1]?.getD (.b false))&&Nat.blt (j.toNat*1) (bcs u).length&&(decide (0≤j)&&decide (j<6)))=true∧(decide (0≤j)&&decide (j<6))=true∧(AC.isB ((t.cs)[1+j.toNat*1]?.getD (.b false))&&Nat.blt (1+j.toNat*1) (t.cs).length)=true∧(pe (.c (.b (AC.asB ((bcs u)[j.toNat*1]?.getD (.b false)))))=pe (.c (.b (u.get j.toNat))))∧(pe (.c (.b (AC.asB ((t.cs)[1+j.toNat*1]?.getD (.b false)))))=pe (.c (.b ((t.s).get j.toNat))))∧Kn.Low (zb5 i t u (IntKind.i64.wrap (j+1)))∧AR 57 Tryz.f57 (cx w β n []) 0 (zb5 i t u (IntKind.i64.wrap (j+1))) (REff w β E))
  (l2:(u.get j.toNat)=false→(decide (j<6))=true∧(AC.isB ((bcs u)[j.toNat*1]?.getD (.b false))&&Nat.blt (j.toNat*1) (bcs u).length&&(decide (0≤j)&&decide (j<6)))=true∧(pe (.c (.b (AC.asB ((bcs u)[j.toNat*1]?.getD (.b false)))))=pe (.c (.b (u.get j.toNat))))∧Kn.Low (zb5 i t u (IntKind.i64.wrap (j+1)))∧AR 57 Tryz.f57 (cx w β n []) 0 (zb5 i t u (IntKind.i64.wrap (j+1))) (REff w β E)) :
  AR 57 Tryz.f57 (cx w β n []) 0 (zb5 i t u j) (REff w β E) :=
 (tf (u.get j.toNat)).elim (fun h0=>(tf (!(t.s).get j.toNat)).elim (fun h1=>(match l0 h0 h1 with | ⟨o0,o1,o2,o3,c0,c1,e⟩=>za6 (yadn (zaa o0 (zaa o1 (zaa h0 (zaa o2 (zaa o3 (zaa h1 rfl)))))) c0 c1) e)) (fun h1=>(match l1 h0 h1 with | ⟨o0,o1,o2,o3,c0,c1,lo,z⟩=>yafn (zaa o0 (zaa o1 (zaa h0 (zaa o2 (zaa o3 (zaa (zad h1) rfl)))))) c0 c1 lo (fun _ hk=>Nat.lt_of_lt_of_le hk hn) z))) (fun h0=>(match l2 h0 with | ⟨o0,o1,c0,lo,z⟩=>yafg (zaa o0 (zaa o1 (zaa (zad h0) rfl))) c0 lo (fun _ hk=>Nat.lt_of_lt_of_le hk hn) z))
theorem yant (h:(i.op==10&&(decide (0≤i.s)&&decide (i.s<6)&&(Nat.ble (7+(i.s).toNat*4+4) (t.cs).length&&true)))=true) (c0:pe (.ag (((t.cs).drop (7+(i.s).toNat*4)).take 4))=pe (.ag ((t.r).get (i.s).toNat).cs)) (c1:Ok 100 [.ag i.cs,.ag ((t.r).get (i.s).toNat).cs] (.c (.i e))) :
  AR 57 Tryz.f57 (cx w β n []) 0 (zb5 i t u 6) (REff w β ⟨.c (.i e),[],none⟩) :=
 zah [] none [false,true] ([true]) [(9,5),(11,5)] Tryz.func57 (zat rfl n) (by kernel_rfl) h (zac c0 (zab c1 zae))
theorem yam7 (h:(!i.op==10&&(i.op==11&&(decide (0≤i.d)&&decide (i.d<6)&&(Nat.ble (7+(i.d).toNat*4+4) (t.cs).length&&true))))=true) (c0:pe (.ag (((t.cs).drop (7+(i.d).toNat*4)).take 4))=pe (.ag ((t.r).get (i.d).toNat).cs)) (c1:Ok 100 [.ag i.cs,.ag ((t.r).get (i.d).toNat).cs] (.c (.i e))) :
  AR 57 Tryz.f57 (cx w β n []) 0 (zb5 i t u 6) (REff w β ⟨.c (.i e),[],none⟩) :=
 zah [] none [false,false,true] ([true]) [(9,5),(11,5)] Tryz.func57 (zat rfl n) (by kernel_rfl) h (zac c0 (zab c1 zae))
theorem yamf (h:(!i.op==10&&(!i.op==11&&true))=true) :
  AR 57 Tryz.f57 (cx w β n []) 0 (zb5 i t u 6) (REff w β ⟨.c (.i 0),[],none⟩) :=
 zah [] none [false,false,false] ([true]) [(9,5),(11,5)] Tryz.func57 (zat rfl n) (by kernel_rfl) h zae
theorem zma
  (l0:(i.op==10)=true→(decide (0≤i.s)&&decide (i.s<6))=true∧(Nat.ble (7+(i.s).toNat*4+4) (t.cs).length)=true∧(pe (.ag (((t.cs).drop (7+(i.s).toNat*4)).take 4))=pe (.ag ((t.r).get (i.s).toNat).cs))∧(Ok 100 [.ag i.cs,.ag ((t.r).get (i.s).toNat).cs] (.c (.i e)))∧((⟨.c (.i e),[],none⟩:Eff)=E))
  (l1:(i.op==10)=false→(i.op==11)=true→(decide (0≤i.d)&&decide (i.d<6))=true∧(Nat.ble (7+(i.d).toNat*4+4) (t.cs).length)=true∧(pe (.ag (((t.cs).drop (7+(i.d).toNat*4)).take 4))=pe (.ag ((t.r).get (i.d).toNat).cs))∧(Ok 100 [.ag i.cs,.ag ((t.r).get (i.d).toNat).cs] (.c (.i e)))∧((⟨.c (.i e),[],none⟩:Eff)=E))
  (l2:(i.op==10)=false→(i.op==11)=false→((⟨.c (.i 0),[],none⟩:Eff)=E)) :
  AR 57 Tryz.f57 (cx w β n []) 0 (zb5 i t u 6) (REff w β E) :=
 (tf (i.op==10)).elim (fun h0=>(match l0 h0 with | ⟨o0,o1,c0,c1,e⟩=>za6 (yant (zaa h0 (zaa o0 (zaa o1 rfl))) c0 c1) e)) (fun h0=>(tf (i.op==11)).elim (fun h1=>(match l1 h0 h1 with | ⟨o0,o1,c0,c1,e⟩=>za6 (yam7 (zaa (zad h0) (zaa h1 (zaa o0 (zaa o1 rfl)))) c0 c1) e)) (fun h1=>(match l2 h0 h1 with | e=>za6 (yamf (zaa (zad h0) (zaa (zad h1) rfl))) e)))
theorem yaup (h:(i.op==10&&true)=true) (c0:pe (.c (.i (IntKind.i64.wrap (nv i.im))))=pe (.c (.i (nv i.im)))) (c1:Ok 101 [.c (.i (nv i.im))] (.tu [.ag a.cs,.c (.i 0)])) (c2:Ok 53 [.ag t.cs,.c (.i i.d),.ag a.cs] (.ag t1.cs)) :
  Ok 58 [.ag i.cs,.ag t.cs] (.tu [.ag t1.cs,.ag St.z.cs]) :=
 zaf [true] ([]) [(3,2),(17,6)] Tryz.func58 rfl rfl rfl rfl (by kernel_rfl) h (zac c0 (zab c1 (zab c2 zae)))
theorem yau2 (h:(!i.op==10&&(i.op==11&&true))=true) :
  Ok 58 [.ag i.cs,.ag t.cs] (.tu [.ag t.cs,.ag St.z.cs]) :=
 zaf [false,true] ([]) [(3,2),(17,6)] Tryz.func58 rfl rfl rfl rfl (by kernel_rfl) h zae
theorem yat3 (h:(!i.op==10&&(!i.op==11&&(i.op==12&&true)))=true) :
  Ok 58 [.ag i.cs,.ag t.cs] (.tu [.ag St.z.cs,.ag t.cs]) :=
 zaf [false,false,true] ([]) [(3,2),(17,6)] Tryz.func58 rfl rfl rfl rfl (by kernel_rfl) h zae
theorem yan2 (h:(!i.op==10&&(!i.op==11&&(!i.op==12&&(i.op==13&&true))))=true) (c0:Ok 102 [.ag i.cs,.ag t.cs,.c (.f 103 [])] (.ag t1.cs)) (c1:Ok 102 [.ag i.cs,.ag t.cs,.c (.f 104 [])] (.ag t2.cs)) :
  Ok 58 [.ag i.cs,.ag t.cs] (.tu [.ag t1.cs,.ag t2.cs]) :=
 zaf [false,false,false,true] ([]) [(3,2),(17,6)] Tryz.func58 rfl rfl rfl rfl (by kernel_rfl) h (zab c0 (zab c1 zae))
theorem yaox (h:(!i.op==10&&(!i.op==11&&(!i.op==12&&(!i.op==13&&(i.op==14&&true)))))=true) (c0:Ok 102 [.ag i.cs,.ag t.cs,.c (.f 105 [])] (.ag t1.cs)) (c1:Ok 102 [.ag i.cs,.ag t.cs,.c (.f 106 [])] (.ag t2.cs)) :
  Ok 58 [.ag i.cs,.ag t.cs] (.tu [.ag t1.cs,.ag t2.cs]) :=
 zaf [false,false,false,false,true] ([]) [(3,2),(17,6)] Tryz.func58 rfl rfl rfl rfl (by kernel_rfl) h (zab c0 (zab c1 zae))
theorem yasg (h:(!i.op==10&&(!i.op==11&&(!i.op==12&&(!i.op==13&&(!i.op==14&&(i.op==15&&true))))))=true) :
  Ok 58 [.ag i.cs,.ag t.cs] (.tu [.ag St.z.cs,.ag St.z.cs]) :=
 zaf [false,false,false,false,false,true] ([]) [(3,2),(17,6)] Tryz.func58 rfl rfl rfl rfl (by kernel_rfl) h zae
theorem yauf (h:(!i.op==10&&(!i.op==11&&(!i.op==12&&(!i.op==13&&(!i.op==14&&(!i.op==15&&(i.op==1&&true)))))))=true) (c0:Ok 107 [.ag i.cs,.ag t.cs] (.ag a.cs)) (c1:Ok 53 [.ag t.cs,.c (.i i.d),.ag a.cs] (.ag t1.cs)) :
  Ok 58 [.ag i.cs,.ag t.cs] (.tu [.ag t1.cs,.ag St.z.cs]) :=
 zaf [false,false,false,false,false,false,true] ([]) [(3,2),(17,6)] Tryz.func58 rfl rfl rfl rfl (by kernel_rfl) h (zab c0 (zab c1 zae))
theorem yavd (h:(!i.op==10&&(!i.op==11&&(!i.op==12&&(!i.op==13&&(!i.op==14&&(!i.op==15&&(!i.op==1&&(decide (0≤i.d)&&decide (i.d<6)&&(Nat.ble (7+(i.d).toNat*4+4) (t.cs).length&&true)))))))))=true) (c0:pe (.ag (((t.cs).drop (7+(i.d).toNat*4)).take 4))=pe (.ag ((t.r).get (i.d).toNat).cs)) (c1:Ok 107 [.ag i.cs,.ag t.cs] (.ag b.cs)) (c2:Ok 108 [.c (.i i.op),.ag ((t.r).get (i.d).toNat).cs,.ag b.cs] (.tu [.ag c.cs,.c (.i 0)])) (c3:Ok 53 [.ag t.cs,.c (.i i.d),.ag c.cs] (.ag t1.cs)) :
  Ok 58 [.ag i.cs,.ag t.cs] (.tu [.ag t1.cs,.ag St.z.cs]) :=
 zaf [false,false,false,false,false,false,false] ([]) [(3,2),(17,6)] Tryz.func58 rfl rfl rfl rfl (by kernel_rfl) h (zac c0 (zab c1 (zab c2 (zab c3 zae))))
theorem yan4 (h:(!fi&&true)=true) (c0:Ok 55 [.ag i.cs] (.c (.b fi))) :
  Ok 21 [.ag i.cs,.ag t.cs] (.tu [.ag St.z.cs,.ag St.z.cs,.c (.i 0),.c (.i 1)]) :=
 zaf [true,true] ([]) [] Tryz.func21 rfl rfl rfl rfl (by kernel_rfl) h (zab c0 zae)
theorem yapa (h:(!!fi&&(ce != 0&&true))=true) (c0:Ok 55 [.ag i.cs] (.c (.b fi))) (c1:Ok 56 [.ag t.cs] (.c (.i ce))) :
  Ok 21 [.ag i.cs,.ag t.cs] (.tu [.ag St.z.cs,.ag St.z.cs,.c (.i 0),.c (.i 1)]) :=
 zaf [false,true] ([]) [] Tryz.func21 rfl rfl rfl rfl (by kernel_rfl) h (zab c0 (zab c1 zae))
theorem yaps (h:(!!fi&&(!ce != 0&&(!t.live&&true)))=true) (c0:Ok 55 [.ag i.cs] (.c (.b fi))) (c1:Ok 56 [.ag t.cs] (.c (.i ce))) :
  Ok 21 [.ag i.cs,.ag t.cs] (.tu [.ag St.z.cs,.ag St.z.cs,.c (.i 0),.c (.i 0)]) :=
 zaf [false,false,true] ([]) [] Tryz.func21 rfl rfl rfl rfl (by kernel_rfl) h (zab c0 (zab c1 zae))
theorem yaov (h:(!!fi&&(!ce != 0&&(!!t.live&&(tr != 0&&true))))=true) (c0:Ok 55 [.ag i.cs] (.c (.b fi))) (c1:Ok 56 [.ag t.cs] (.c (.i ce))) (c2:Ok 57 [.ag i.cs,.ag t.cs] (.c (.i tr))) :
  Ok 21 [.ag i.cs,.ag t.cs] (.tu [.ag St.z.cs,.ag St.z.cs,.c (.i tr),.c (.i 0)]) :=
 zaf [false,false,false,true] ([]) [] Tryz.func21 rfl rfl rfl rfl (by kernel_rfl) h (zab c0 (zab c1 (zab c2 zae)))
theorem yanz (h:(!!fi&&(!ce != 0&&(!!t.live&&(!tr != 0&&true))))=true) (c0:Ok 55 [.ag i.cs] (.c (.b fi))) (c1:Ok 56 [.ag t.cs] (.c (.i ce))) (c2:Ok 57 [.ag i.cs,.ag t.cs] (.c (.i tr))) (c3:Ok 58 [.ag i.cs,.ag t.cs] (.tu [.ag t1.cs,.ag t2.cs])) :
  Ok 21 [.ag i.cs,.ag t.cs] (.tu [.ag t1.cs,.ag t2.cs,.c (.i 0),.c (.i 0)]) :=
 zaf [false,false,false,false] ([]) [] Tryz.func21 rfl rfl rfl rfl (by kernel_rfl) h (zab c0 (zab c1 (zab c2 (zab c3 zae))))
theorem zix
  (l0:(!fi)=true→(Ok 55 [.ag i.cs] (.c (.b fi)))∧(AV.tu [.ag St.z.cs,.ag St.z.cs,.c (.i 0),.c (.i 1)]=V))
  (l1:(!fi)=false→(ce != 0)=true→(Ok 55 [.ag i.cs] (.c (.b fi)))∧(Ok 56 [.ag t.cs] (.c (.i ce)))∧(AV.tu [.ag St.z.cs,.ag St.z.cs,.c (.i 0),.c (.i 1)]=V))
  (l2:(!fi)=false→(ce != 0)=false→(!t.live)=true→(Ok 55 [.ag i.cs] (.c (.b fi)))∧(Ok 56 [.ag t.cs] (.c (.i ce)))∧(AV.tu [.ag St.z.cs,.ag St.z.cs,.c (.i 0),.c (.i 0)]=V))
  (l3:(!fi)=false→(ce != 0)=false→(!t.live)=false→(tr != 0)=true→(Ok 55 [.ag i.cs] (.c (.b fi)))∧(Ok 56 [.ag t.cs] (.c (.i ce)))∧(Ok 57 [.ag i.cs,.ag t.cs] (.c (.i tr)))∧(AV.tu [.ag St.z.cs,.ag St.z.cs,.c (.i tr),.c (.i 0)]=V))
  (l4:(!fi)=false→(ce != 0)=false→(!t.live)=false→(tr != 0)=false→(Ok 55 [.ag i.cs] (.c (.b fi)))∧(Ok 56 [.ag t.cs] (.c (.i ce)))∧(Ok 57 [.ag i.cs,.ag t.cs] (.c (.i tr)))∧(Ok 58 [.ag i.cs,.ag t.cs] (.tu [.ag t1.cs,.ag t2.cs]))∧(AV.tu [.ag t1.cs,.ag t2.cs,.c (.i 0),.c (.i 0)]=V)) :
  Ok 21 [.ag i.cs,.ag t.cs] V :=
 (tf (!fi)).elim (fun h0=>(match l0 h0 with | ⟨c0,e⟩=>zam (yan4 (zaa h0 rfl) c0) e)) (fun h0=>(tf (ce != 0)).elim (fun h1=>(match l1 h0 h1 with | ⟨c0,c1,e⟩=>zam (yapa (zaa (zad h0) (zaa h1 rfl)) c0 c1) e)) (fun h1=>(tf (!t.live)).elim (fun h2=>(match l2 h0 h1 h2 with | ⟨c0,c1,e⟩=>zam (yaps (zaa (zad h0) (zaa (zad h1) (zaa h2 rfl))) c0 c1) e)) (fun h2=>(tf (tr != 0)).elim (fun h3=>(match l3 h0 h1 h2 h3 with | ⟨c0,c1,c2,e⟩=>zam (yaov (zaa (zad h0) (zaa (zad h1) (zaa (zad h2) (zaa h3 rfl)))) c0 c1 c2) e)) (fun h3=>(match l4 h0 h1 h2 h3 with | ⟨c0,c1,c2,c3,e⟩=>zam (yanz (zaa (zad h0) (zaa (zad h1) (zaa (zad h2) (zaa (zad h3) rfl)))) c0 c1 c2 c3) e)))))
end
section
variable {a b p q n2:V4} {i1 i2 al i may r bl ov:Bool} {V:AV} {x kv km y:BitVec 64}
theorem zzk :
  Ok 39 [.ag a.cs] (.c (.b (eqb a.l a.h))) :=
 zaf [] ([]) [] Tryz.func39 rfl rfl rfl rfl (by kernel_rfl) rfl zae
theorem yacz (h:(!i1&&true)=true) :
  Ok 128 [.ag a.cs,.c (.b i1),.ag b.cs,.c (.b i2)] (.tu [.ag [.u 0#64,.u 0#64,.u 0#64,.u 0#64],.ag [.u 0#64,.u 0#64,.u 0#64,.u 0#64],.c (.b false)]) :=
 zaf [true,true] ([]) [] Tryz.func128 rfl rfl rfl rfl (by kernel_rfl) h zae
theorem yaez (h:(!!i1&&(!i2&&true))=true) :
  Ok 128 [.ag a.cs,.c (.b i1),.ag b.cs,.c (.b i2)] (.tu [.ag [.u 0#64,.u 0#64,.u 0#64,.u 0#64],.ag [.u 0#64,.u 0#64,.u 0#64,.u 0#64],.c (.b false)]) :=
 zaf [false,true] ([]) [] Tryz.func128 rfl rfl rfl rfl (by kernel_rfl) h zae
theorem yadx (h:(!!i1&&(!!i2&&true))=true) :
  Ok 128 [.ag a.cs,.c (.b i1),.ag b.cs,.c (.b i2)] (.tu [.ag a.cs,.ag b.cs,.c (.b true)]) :=
 zaf [false,false] ([]) [] Tryz.func128 rfl rfl rfl rfl (by kernel_rfl) h zae
theorem yagw (h:(al&&(eqb a.l x&&true))=true) (c0:Ok 39 [.ag a.cs] (.c (.b al))) :
  Ok 127 [.ag a.cs,.c (.u x)] (.tu [.ag [.u 0#64,.u 0#64,.u 0#64,.u 0#64],.c (.b false)]) :=
 zaf [true,true] ([]) [] Tryz.func127 rfl rfl rfl rfl (by kernel_rfl) h (zab c0 zae)
theorem yald {n:V4} (h:(al&&(!eqb a.l x&&(!eqb a.l x&&(eqb a.h x&&true))))=true) (c0:Ok 39 [.ag a.cs] (.c (.b al))) (c1:Ok 126 [.ag [.u a.v,.u a.m,.u a.l,.u (bsub a.h 1#64)]] (.tu [.ag n.cs,.c (.b i)])) :
  Ok 127 [.ag a.cs,.c (.u x)] (.tu [.ag n.cs,.c (.b i)]) :=
 zaf [true,false,false,true] ([]) [] Tryz.func127 rfl rfl rfl rfl (by kernel_rfl) h (zab c0 (zab c1 zae))
theorem yakt {n:V4} (h:(al&&(!eqb a.l x&&(!eqb a.l x&&(!eqb a.h x&&true))))=true) (c0:Ok 39 [.ag a.cs] (.c (.b al))) (c1:Ok 126 [.ag a.cs] (.tu [.ag n.cs,.c (.b i)])) :
  Ok 127 [.ag a.cs,.c (.u x)] (.tu [.ag n.cs,.c (.b i)]) :=
 zaf [true,false,false,false] ([]) [] Tryz.func127 rfl rfl rfl rfl (by kernel_rfl) h (zab c0 (zab c1 zae))
theorem yahw {n:V4} (h:(!al&&(eqb a.l x&&true))=true) (c0:Ok 39 [.ag a.cs] (.c (.b al))) (c1:Ok 126 [.ag [.u a.v,.u a.m,.u (badd a.l 1#64),.u a.h]] (.tu [.ag n.cs,.c (.b i)])) :
  Ok 127 [.ag a.cs,.c (.u x)] (.tu [.ag n.cs,.c (.b i)]) :=
 zaf [false,false,true] ([]) [] Tryz.func127 rfl rfl rfl rfl (by kernel_rfl) h (zab c0 (zab c1 zae))
theorem yajy {n:V4} (h:(!al&&(!eqb a.l x&&(eqb a.h x&&true)))=true) (c0:Ok 39 [.ag a.cs] (.c (.b al))) (c1:Ok 126 [.ag [.u a.v,.u a.m,.u a.l,.u (bsub a.h 1#64)]] (.tu [.ag n.cs,.c (.b i)])) :
  Ok 127 [.ag a.cs,.c (.u x)] (.tu [.ag n.cs,.c (.b i)]) :=
 zaf [false,false,false,true] ([]) [] Tryz.func127 rfl rfl rfl rfl (by kernel_rfl) h (zab c0 (zab c1 zae))
theorem yak3 {n:V4} (h:(!al&&(!eqb a.l x&&(!eqb a.h x&&true)))=true) (c0:Ok 39 [.ag a.cs] (.c (.b al))) (c1:Ok 126 [.ag a.cs] (.tu [.ag n.cs,.c (.b i)])) :
  Ok 127 [.ag a.cs,.c (.u x)] (.tu [.ag n.cs,.c (.b i)]) :=
 zaf [false,false,false,false] ([]) [] Tryz.func127 rfl rfl rfl rfl (by kernel_rfl) h (zab c0 (zab c1 zae))
theorem zxn (h:(!may&&true)=true) (c0:Ok 129 [.ag [.u a.v,.u a.m],.ag [.u b.v,.u b.m]] (.tu [.ag [.u kv,.u km],.c (.b may)])) :
  Ok 78 [.ag a.cs,.ag b.cs] (.tu [.ag [.u 0#64,.u 0#64,.u 0#64,.u 0#64],.ag [.u 0#64,.u 0#64,.u 0#64,.u 0#64],.c (.b false)]) :=
 zaf [true] ([]) [] Tryz.func78 rfl rfl rfl rfl (by kernel_rfl) h (zab c0 zae)
theorem zyr {n:V4} (h:(!!may&&true)=true) (c0:Ok 129 [.ag [.u a.v,.u a.m],.ag [.u b.v,.u b.m]] (.tu [.ag [.u kv,.u km],.c (.b may)])) (c1:Ok 126 [.ag [.u kv,.u km,.u (bmax a.l b.l),.u (bmin a.h b.h)]] (.tu [.ag n.cs,.c (.b i)])) (c2:Ok 128 [.ag n.cs,.c (.b i),.ag n.cs,.c (.b i)] (.tu [.ag p.cs,.ag q.cs,.c (.b r)])) :
  Ok 78 [.ag a.cs,.ag b.cs] (.tu [.ag p.cs,.ag q.cs,.c (.b r)]) :=
 zaf [false] ([]) [] Tryz.func78 rfl rfl rfl rfl (by kernel_rfl) h (zab c0 (zab c1 (zab c2 zae)))
theorem yagb (h:(eqb b.h 0#64&&true)=true) :
  Ok 81 [.ag a.cs,.ag b.cs] (.tu [.ag [.u 0#64,.u 0#64,.u 0#64,.u 0#64],.ag [.u 0#64,.u 0#64,.u 0#64,.u 0#64],.c (.b false)]) :=
 zaf [true,true] ([]) [] Tryz.func81 rfl rfl rfl rfl (by kernel_rfl) h zae
theorem yaft (h:(!eqb b.h 0#64&&(eqb a.l 18446744073709551615#64&&true))=true) :
  Ok 81 [.ag a.cs,.ag b.cs] (.tu [.ag [.u 0#64,.u 0#64,.u 0#64,.u 0#64],.ag [.u 0#64,.u 0#64,.u 0#64,.u 0#64],.c (.b false)]) :=
 zaf [false,true] ([]) [] Tryz.func81 rfl rfl rfl rfl (by kernel_rfl) h zae
theorem yafx {n:V4} (h:(!eqb b.h 0#64&&(!eqb a.l 18446744073709551615#64&&true))=true) (c0:Ok 126 [.ag [.u a.v,.u a.m,.u a.l,.u (bmin a.h (bsub b.h 1#64))]] (.tu [.ag n.cs,.c (.b i)])) (c1:Ok 126 [.ag [.u b.v,.u b.m,.u (bmax b.l (badd a.l 1#64)),.u b.h]] (.tu [.ag n2.cs,.c (.b i2)])) (c2:Ok 128 [.ag n.cs,.c (.b i),.ag n2.cs,.c (.b i2)] (.tu [.ag p.cs,.ag q.cs,.c (.b r)])) :
  Ok 81 [.ag a.cs,.ag b.cs] (.tu [.ag p.cs,.ag q.cs,.c (.b r)]) :=
 zaf [false,false] ([]) [] Tryz.func81 rfl rfl rfl rfl (by kernel_rfl) h (zab c0 (zab c1 (zab c2 zae)))
theorem zq8 {n:V4} (c0:Ok 126 [.ag [.u a.v,.u a.m,.u (bmax a.l b.l),.u a.h]] (.tu [.ag n.cs,.c (.b i)])) (c1:Ok 126 [.ag [.u b.v,.u b.m,.u b.l,.u (bmin b.h a.h)]] (.tu [.ag n2.cs,.c (.b i2)])) (c2:Ok 128 [.ag n.cs,.c (.b i),.ag n2.cs,.c (.b i2)] (.tu [.ag p.cs,.ag q.cs,.c (.b r)])) :
  Ok 80 [.ag a.cs,.ag b.cs] (.tu [.ag p.cs,.ag q.cs,.c (.b r)]) :=
 zaf [] ([]) [] Tryz.func80 rfl rfl rfl rfl (by kernel_rfl) rfl (zab c0 (zab c1 (zab c2 zae)))
theorem zyx {n:V4} (h:(bl&&(al&&true))=true) (c0:Ok 39 [.ag b.cs] (.c (.b bl))) (c1:Ok 127 [.ag a.cs,.c (.u b.l)] (.tu [.ag n.cs,.c (.b i)])) (c2:Ok 39 [.ag a.cs] (.c (.b al))) (c3:Ok 127 [.ag b.cs,.c (.u a.l)] (.tu [.ag n2.cs,.c (.b i2)])) (c4:Ok 128 [.ag n.cs,.c (.b i),.ag n2.cs,.c (.b i2)] (.tu [.ag p.cs,.ag q.cs,.c (.b r)])) :
  Ok 77 [.ag a.cs,.ag b.cs] (.tu [.ag p.cs,.ag q.cs,.c (.b r)]) :=
 zaf [true,true] ([]) [] Tryz.func77 rfl rfl rfl rfl (by kernel_rfl) h (zab c0 (zab c1 (zab c2 (zab c3 (zab c4 zae)))))
theorem ztw {n:V4} (h:(bl&&(!al&&true))=true) (c0:Ok 39 [.ag b.cs] (.c (.b bl))) (c1:Ok 127 [.ag a.cs,.c (.u b.l)] (.tu [.ag n.cs,.c (.b i)])) (c2:Ok 39 [.ag a.cs] (.c (.b al))) (c3:Ok 128 [.ag n.cs,.c (.b i),.ag b.cs,.c (.b true)] (.tu [.ag p.cs,.ag q.cs,.c (.b r)])) :
  Ok 77 [.ag a.cs,.ag b.cs] (.tu [.ag p.cs,.ag q.cs,.c (.b r)]) :=
 zaf [true,false] ([]) [] Tryz.func77 rfl rfl rfl rfl (by kernel_rfl) h (zab c0 (zab c1 (zab c2 (zab c3 zae))))
theorem zs5 (h:(!bl&&(al&&true))=true) (c0:Ok 39 [.ag b.cs] (.c (.b bl))) (c1:Ok 39 [.ag a.cs] (.c (.b al))) (c2:Ok 127 [.ag b.cs,.c (.u a.l)] (.tu [.ag n2.cs,.c (.b i2)])) (c3:Ok 128 [.ag a.cs,.c (.b true),.ag n2.cs,.c (.b i2)] (.tu [.ag p.cs,.ag q.cs,.c (.b r)])) :
  Ok 77 [.ag a.cs,.ag b.cs] (.tu [.ag p.cs,.ag q.cs,.c (.b r)]) :=
 zaf [false,true] ([]) [] Tryz.func77 rfl rfl rfl rfl (by kernel_rfl) h (zab c0 (zab c1 (zab c2 (zab c3 zae))))
theorem zvu (h:(!bl&&(!al&&true))=true) (c0:Ok 39 [.ag b.cs] (.c (.b bl))) (c1:Ok 39 [.ag a.cs] (.c (.b al))) (c2:Ok 128 [.ag a.cs,.c (.b true),.ag b.cs,.c (.b true)] (.tu [.ag p.cs,.ag q.cs,.c (.b r)])) :
  Ok 77 [.ag a.cs,.ag b.cs] (.tu [.ag p.cs,.ag q.cs,.c (.b r)]) :=
 zaf [false,false] ([]) [] Tryz.func77 rfl rfl rfl rfl (by kernel_rfl) h (zab c0 (zab c1 (zab c2 zae)))
theorem zzl {n:Int} (h:(n==8&&true)=true) (c0:Ok 73 [] (.ag p.cs)) :
  Ok 83 [.c (.i n)] (.ag p.cs) :=
 zaf [true] ([]) [] Tryz.func83 rfl rfl rfl rfl (by kernel_rfl) h (zab c0 zae)
theorem zh7 {n:Int} (h:(!n==8&&(decide (0≤IntKind.i64.wrap (8*n))&&decide (IntKind.i64.wrap (8*n)≤64)&&true))=true) :
  Ok 83 [.c (.i n)] (.ag [.u 0#64,.u (bsub (bshl (1#64) (IntKind.i64.wrap (8*n)).toNat) 1#64),.u 0#64,.u (bsub (bshl (1#64) (IntKind.i64.wrap (8*n)).toNat) 1#64)]) :=
 zaf [false] ([]) [] Tryz.func83 rfl rfl rfl rfl (by kernel_rfl) h zae
theorem zvg {n:Int} (h:(n==1&&(n==1&&(decide (nv (BitVec.ofInt 64 (IntKind.i64.wrap (64 - IntKind.i64.wrap (8*n))))≤64)&&true)))=true) :
  Ok 101 [.c (.i n)] (.tu [.ag [.u 0#64,.u (bshr (18446744073709551615#64) (nv (BitVec.ofInt 64 (IntKind.i64.wrap (64 - IntKind.i64.wrap (8*n))))).toNat),.u 0#64,.u (bshr (18446744073709551615#64) (nv (BitVec.ofInt 64 (IntKind.i64.wrap (64 - IntKind.i64.wrap (8*n))))).toNat)],.c (.i 0)]) :=
 zaf [true,true] ([]) [] Tryz.func101 rfl rfl rfl rfl (by kernel_rfl) h zae
theorem zuy {n:Int} (h:(!n==1&&(n==2&&(n==2&&(decide (nv (BitVec.ofInt 64 (IntKind.i64.wrap (64 - IntKind.i64.wrap (8*n))))≤64)&&true))))=true) :
  Ok 101 [.c (.i n)] (.tu [.ag [.u 0#64,.u (bshr (18446744073709551615#64) (nv (BitVec.ofInt 64 (IntKind.i64.wrap (64 - IntKind.i64.wrap (8*n))))).toNat),.u 0#64,.u (bshr (18446744073709551615#64) (nv (BitVec.ofInt 64 (IntKind.i64.wrap (64 - IntKind.i64.wrap (8*n))))).toNat)],.c (.i 0)]) :=
 zaf [false,true,true] ([]) [] Tryz.func101 rfl rfl rfl rfl (by kernel_rfl) h zae
theorem zwh {n:Int} (h:(!n==1&&(!n==2&&(n==4&&(n==4&&(decide (nv (BitVec.ofInt 64 (IntKind.i64.wrap (64 - IntKind.i64.wrap (8*n))))≤64)&&true)))))=true) :
  Ok 101 [.c (.i n)] (.tu [.ag [.u 0#64,.u (bshr (18446744073709551615#64) (nv (BitVec.ofInt 64 (IntKind.i64.wrap (64 - IntKind.i64.wrap (8*n))))).toNat),.u 0#64,.u (bshr (18446744073709551615#64) (nv (BitVec.ofInt 64 (IntKind.i64.wrap (64 - IntKind.i64.wrap (8*n))))).toNat)],.c (.i 0)]) :=
 zaf [false,false,true,true] ([]) [] Tryz.func101 rfl rfl rfl rfl (by kernel_rfl) h zae
theorem zvb {n:Int} (h:(!n==1&&(!n==2&&(!n==4&&(n==8&&(decide (nv (BitVec.ofInt 64 (IntKind.i64.wrap (64 - IntKind.i64.wrap (8*n))))≤64)&&true)))))=true) :
  Ok 101 [.c (.i n)] (.tu [.ag [.u 0#64,.u (bshr (18446744073709551615#64) (nv (BitVec.ofInt 64 (IntKind.i64.wrap (64 - IntKind.i64.wrap (8*n))))).toNat),.u 0#64,.u (bshr (18446744073709551615#64) (nv (BitVec.ofInt 64 (IntKind.i64.wrap (64 - IntKind.i64.wrap (8*n))))).toNat)],.c (.i 0)]) :=
 zaf [false,false,false,true] ([]) [] Tryz.func101 rfl rfl rfl rfl (by kernel_rfl) h zae
theorem yadf (h:(!eqb y 0#64&&(!eqb y zero&&true))=true) :
  Ok 124 [.c (.u x),.c (.u y)] (.c (.b (decide (nv (18446744073709551615#64 / y)<nv x)))) :=
 zaf [true] ([]) [] Tryz.func124 rfl rfl rfl rfl (by kernel_rfl) h zae
theorem yacr (h:(!!eqb y 0#64&&true)=true) :
  Ok 124 [.c (.u x),.c (.u y)] (.c (.b false)) :=
 zaf [false] ([]) [] Tryz.func124 rfl rfl rfl rfl (by kernel_rfl) h zae
theorem yadp (h:(decide (nv (badd a.l b.l)<nv a.l)==decide (nv (badd a.h b.h)<nv a.h)&&true)=true) (c0:Ok 123 [.c (.i 2),.ag [.u a.v,.u a.m],.ag [.u b.v,.u b.m]] (.ag [.u kv,.u km])) (c1:Ok 126 [.ag [.u kv,.u km,.u (badd a.l b.l),.u (badd a.h b.h)]] (.tu [.ag p.cs,.c (.b i)])) :
  Ok 76 [.c (.i 2),.ag a.cs,.ag b.cs] (.ag p.cs) :=
 zaf [true,true,true] ([]) [] Tryz.func76 rfl rfl rfl rfl (by kernel_rfl) h (zab c0 (zab c1 zae))
theorem yaf1 (h:(!decide (nv (badd a.l b.l)<nv a.l)==decide (nv (badd a.h b.h)<nv a.h)&&true)=true) (c0:Ok 123 [.c (.i 2),.ag [.u a.v,.u a.m],.ag [.u b.v,.u b.m]] (.ag [.u kv,.u km])) (c1:Ok 126 [.ag [.u kv,.u km,.u 0#64,.u 18446744073709551615#64]] (.tu [.ag p.cs,.c (.b i)])) :
  Ok 76 [.c (.i 2),.ag a.cs,.ag b.cs] (.ag p.cs) :=
 zaf [true,true,false] ([]) [] Tryz.func76 rfl rfl rfl rfl (by kernel_rfl) h (zab c0 (zab c1 zae))
theorem yaec (h:(decide (nv a.l<nv b.h)==decide (nv a.h<nv b.l)&&true)=true) (c0:Ok 123 [.c (.i 3),.ag [.u a.v,.u a.m],.ag [.u b.v,.u b.m]] (.ag [.u kv,.u km])) (c1:Ok 126 [.ag [.u kv,.u km,.u (bsub a.l b.h),.u (bsub a.h b.l)]] (.tu [.ag p.cs,.c (.b i)])) :
  Ok 76 [.c (.i 3),.ag a.cs,.ag b.cs] (.ag p.cs) :=
 zaf [true,false,true,true] ([]) [] Tryz.func76 rfl rfl rfl rfl (by kernel_rfl) h (zab c0 (zab c1 zae))
theorem yadg (h:(!decide (nv a.l<nv b.h)==decide (nv a.h<nv b.l)&&true)=true) (c0:Ok 123 [.c (.i 3),.ag [.u a.v,.u a.m],.ag [.u b.v,.u b.m]] (.ag [.u kv,.u km])) (c1:Ok 126 [.ag [.u kv,.u km,.u 0#64,.u 18446744073709551615#64]] (.tu [.ag p.cs,.c (.b i)])) :
  Ok 76 [.c (.i 3),.ag a.cs,.ag b.cs] (.ag p.cs) :=
 zaf [true,false,true,false] ([]) [] Tryz.func76 rfl rfl rfl rfl (by kernel_rfl) h (zab c0 (zab c1 zae))
theorem yad7 (c0:Ok 123 [.c (.i 5),.ag [.u a.v,.u a.m],.ag [.u b.v,.u b.m]] (.ag [.u kv,.u km])) (c1:Ok 126 [.ag [.u kv,.u km,.u 0#64,.u (bmin a.h b.h)]] (.tu [.ag p.cs,.c (.b i)])) :
  Ok 76 [.c (.i 5),.ag a.cs,.ag b.cs] (.ag p.cs) :=
 zaf [true,false,false,false,true] ([]) [] Tryz.func76 rfl rfl rfl rfl (by kernel_rfl) rfl (zab c0 (zab c1 zae))
theorem yafj (c0:Ok 123 [.c (.i 6),.ag [.u a.v,.u a.m],.ag [.u b.v,.u b.m]] (.ag [.u kv,.u km])) (c1:Ok 126 [.ag [.u kv,.u km,.u (bmax a.l b.l),.u 18446744073709551615#64]] (.tu [.ag p.cs,.c (.b i)])) :
  Ok 76 [.c (.i 6),.ag a.cs,.ag b.cs] (.ag p.cs) :=
 zaf [true,false,false,false,false,true] ([]) [] Tryz.func76 rfl rfl rfl rfl (by kernel_rfl) rfl (zab c0 (zab c1 zae))
theorem yaea (c0:Ok 123 [.c (.i 7),.ag [.u a.v,.u a.m],.ag [.u b.v,.u b.m]] (.ag [.u kv,.u km])) (c1:Ok 126 [.ag [.u kv,.u km,.u 0#64,.u 18446744073709551615#64]] (.tu [.ag p.cs,.c (.b i)])) :
  Ok 76 [.c (.i 7),.ag a.cs,.ag b.cs] (.ag p.cs) :=
 zaf [true,false,false,false,false,false,false,false] ([]) [] Tryz.func76 rfl rfl rfl rfl (by kernel_rfl) rfl (zab c0 (zab c1 zae))
theorem yaf4 (h:(!ov&&true)=true) (c0:Ok 123 [.c (.i 4),.ag [.u a.v,.u a.m],.ag [.u b.v,.u b.m]] (.ag [.u kv,.u km])) (c1:Ok 124 [.c (.u a.h),.c (.u b.h)] (.c (.b ov))) (c2:Ok 126 [.ag [.u kv,.u km,.u (bmul a.l b.l),.u (bmul a.h b.h)]] (.tu [.ag p.cs,.c (.b i)])) :
  Ok 76 [.c (.i 4),.ag a.cs,.ag b.cs] (.ag p.cs) :=
 zaf [true,false,false,true,true] ([]) [] Tryz.func76 rfl rfl rfl rfl (by kernel_rfl) h (zab c0 (zab c1 (zab c2 zae)))
theorem yage (h:(!!ov&&true)=true) (c0:Ok 123 [.c (.i 4),.ag [.u a.v,.u a.m],.ag [.u b.v,.u b.m]] (.ag [.u kv,.u km])) (c1:Ok 124 [.c (.u a.h),.c (.u b.h)] (.c (.b ov))) (c2:Ok 126 [.ag [.u kv,.u km,.u 0#64,.u 18446744073709551615#64]] (.tu [.ag p.cs,.c (.b i)])) :
  Ok 76 [.c (.i 4),.ag a.cs,.ag b.cs] (.ag p.cs) :=
 zaf [true,false,false,true,false] ([]) [] Tryz.func76 rfl rfl rfl rfl (by kernel_rfl) h (zab c0 (zab c1 (zab c2 zae)))
theorem zyt (h:(!al&&true)=true) (c0:Ok 39 [.ag b.cs] (.c (.b al))) (c1:Ok 126 [.ag [.u 0#64,.u 18446744073709551615#64,.u 0#64,.u 18446744073709551615#64]] (.tu [.ag p.cs,.c (.b i)])) :
  Ok 76 [.c (.i 8),.ag a.cs,.ag b.cs] (.ag p.cs) :=
 zaf [false,false,false,false,false,false,true,false] ([]) [] Tryz.func76 rfl rfl rfl rfl (by kernel_rfl) h (zab c0 (zab c1 zae))
theorem zyw (h:(al&&(decide (0≤IntKind.i64.wrap (nv (band b.l 63#64)))&&decide (IntKind.i64.wrap (nv (band b.l 63#64))≤64)&&(decide (0≤IntKind.i64.wrap (nv (band b.l 63#64)))&&decide (IntKind.i64.wrap (nv (band b.l 63#64))≤64)&&(eqb (bshr (bshl a.h (IntKind.i64.wrap (nv (band b.l 63#64))).toNat) (IntKind.i64.wrap (nv (band b.l 63#64))).toNat) a.h&&(decide (0≤IntKind.i64.wrap (nv (band b.l 63#64)))&&decide (IntKind.i64.wrap (nv (band b.l 63#64))≤64)&&(decide (0≤IntKind.i64.wrap (nv (band b.l 63#64)))&&decide (IntKind.i64.wrap (nv (band b.l 63#64))≤64)&&true))))))=true) (c0:Ok 39 [.ag b.cs] (.c (.b al))) (c1:Ok 125 [.c (.i 8),.ag [.u a.v,.u a.m],.c (.i (IntKind.i64.wrap (nv (band b.l 63#64))))] (.ag [.u kv,.u km])) (c2:Ok 126 [.ag [.u kv,.u km,.u (bshl a.l (IntKind.i64.wrap (nv (band b.l 63#64))).toNat),.u (bshl a.h (IntKind.i64.wrap (nv (band b.l 63#64))).toNat)]] (.tu [.ag p.cs,.c (.b i)])) :
  Ok 76 [.c (.i 8),.ag a.cs,.ag b.cs] (.ag p.cs) :=
 zaf [false,false,false,false,false,false,true,true,true] ([]) [] Tryz.func76 rfl rfl rfl rfl (by kernel_rfl) h (zab c0 (zab c1 (zab c2 zae)))
theorem zxz (h:(al&&(decide (0≤IntKind.i64.wrap (nv (band b.l 63#64)))&&decide (IntKind.i64.wrap (nv (band b.l 63#64))≤64)&&(decide (0≤IntKind.i64.wrap (nv (band b.l 63#64)))&&decide (IntKind.i64.wrap (nv (band b.l 63#64))≤64)&&(!eqb (bshr (bshl a.h (IntKind.i64.wrap (nv (band b.l 63#64))).toNat) (IntKind.i64.wrap (nv (band b.l 63#64))).toNat) a.h&&true))))=true) (c0:Ok 39 [.ag b.cs] (.c (.b al))) (c1:Ok 125 [.c (.i 8),.ag [.u a.v,.u a.m],.c (.i (IntKind.i64.wrap (nv (band b.l 63#64))))] (.ag [.u kv,.u km])) (c2:Ok 126 [.ag [.u kv,.u km,.u 0#64,.u 18446744073709551615#64]] (.tu [.ag p.cs,.c (.b i)])) :
  Ok 76 [.c (.i 8),.ag a.cs,.ag b.cs] (.ag p.cs) :=
 zaf [false,false,false,false,false,false,true,true,false] ([]) [] Tryz.func76 rfl rfl rfl rfl (by kernel_rfl) h (zab c0 (zab c1 (zab c2 zae)))
theorem zwp (h:(!al&&true)=true) (c0:Ok 39 [.ag b.cs] (.c (.b al))) (c1:Ok 126 [.ag [.u 0#64,.u 18446744073709551615#64,.u 0#64,.u a.h]] (.tu [.ag p.cs,.c (.b i)])) :
  Ok 76 [.c (.i 9),.ag a.cs,.ag b.cs] (.ag p.cs) :=
 zaf [false,false,false,false,false,false,false,true,false] ([]) [] Tryz.func76 rfl rfl rfl rfl (by kernel_rfl) h (zab c0 (zab c1 zae))
theorem zzc (h:(al&&(decide (0≤IntKind.i64.wrap (nv (band b.l 63#64)))&&decide (IntKind.i64.wrap (nv (band b.l 63#64))≤64)&&(decide (0≤IntKind.i64.wrap (nv (band b.l 63#64)))&&decide (IntKind.i64.wrap (nv (band b.l 63#64))≤64)&&true)))=true) (c0:Ok 39 [.ag b.cs] (.c (.b al))) (c1:Ok 125 [.c (.i 9),.ag [.u a.v,.u a.m],.c (.i (IntKind.i64.wrap (nv (band b.l 63#64))))] (.ag [.u kv,.u km])) (c2:Ok 126 [.ag [.u kv,.u km,.u (bshr a.l (IntKind.i64.wrap (nv (band b.l 63#64))).toNat),.u (bshr a.h (IntKind.i64.wrap (nv (band b.l 63#64))).toNat)]] (.tu [.ag p.cs,.c (.b i)])) :
  Ok 76 [.c (.i 9),.ag a.cs,.ag b.cs] (.ag p.cs) :=
 zaf [false,false,false,false,false,false,false,true,true] ([]) [] Tryz.func76 rfl rfl rfl rfl (by kernel_rfl) h (zab c0 (zab c1 (zab c2 zae)))
end
section
attribute [local go_sem] zc9 w_or zdf za3 zbx zbc zda zcy zdb zbw zb4 zc3 zby zdc zcn zcz zb1 zb3 zb2 zb0 za1
abbrev PT (b:Nat):Value:=.pointer (some ⟨b,0,none⟩)
def lv (p:Bool) (a:Value):Value:=if p then a else V0
set_option maxRecDepth 100000 in
set_option maxHeartbeats 4000000 in
theorem zzg {p1 p2:Value} {v m l g v' m' l' g' a b c d a' b' c' d' x y z t x' y' z' t':BitVec 64} {may i1 i2:Bool} {e1 e2:Int} (hr:Hid ((valB v m l g&&valB v' m' l' g')=true)) (w:World)
  (HR:Hid (∀ w',Below w.heap.size w w'→Calls Tryz.prog 149 #[p1,p2] w' fun e w''=>e=.returned (.tuple #[Vl a b c d,Vl a' b' c' d',.bool may])∧Below w'.heap.size w' w''))
  (N1:Hid (∀ w,Calls Tryz.prog 156 #[Vl a b c d] w fun e w'=>e=.returned (.tuple #[Vl x y z t,.bool i1,N e1])∧Below w.heap.size w w'))
  (N2:Hid (∀ w,Calls Tryz.prog 156 #[Vl a' b' c' d'] w fun e w'=>e=.returned (.tuple #[Vl x' y' z' t',.bool i2,N e2])∧Below w.heap.size w w')) :
  Calls Tryz.prog 145 #[Vl v m l g,Vl v' m' l' g',.func (.func 149) #[] #[p1,p2]] w fun e w'=>e=.returned (.tuple #[lv (may&&(i1&&i2)) (Vl x y z t),lv (may&&(i1&&i2)) (Vl x' y' z' t'),.bool (may&&(i1&&i2)),N 0])∧Below w.heap.size w w':=by
 obtain ⟨z1,H1⟩:∃ b,Hid (valB v m l g=b):=⟨_,rfl⟩
 obtain ⟨z2,H2⟩:∃ b,Hid (valB v' m' l' g'=b):=⟨_,rfl⟩
 rw [H1.out,H2.out] at hr
 obtain ⟨q,hq⟩:∃ q,Hid (q=(may&&(i1&&i2))):=⟨_,rfl⟩
 rw [← hq.out]
 go_enter Tryz.func145,Tryz.ntmps145
 go_wp2_with fail
 refine (zj8 H1 H2 (by simp) (by simp [go_sem]) (by simp [go_sem]) (by simp [go_sem]) (by simp [go_sem]) (by simp [go_sem]) (by simp [go_sem]) (by simp [go_sem]) (by simp [go_sem])).mono ?_
 rw [hr.out,er_t]
 rintro e w1 ⟨rfl,hb1⟩
 have hK:=((((((Kp.start w).add4 _ _ _ _ _).add4 _ _ _ _ _).add4 _ _ _ _ _).add4 _ _ _ _ _).keep ((Below.refl _ _).alloc (Nat.le_refl _) _)).keep hb1
 simp only [World.size_alloc] at hK
 clear hb1
 go_wp2_with fail
 refine (HR.out _ hK.bel).mono ?_
 rintro e w2 ⟨rfl,hb2⟩
 have hK2:=hK.keep hb2
 have hK3:=(hK2.set4 (x:=U a) (y:=U b) (z:=U c) (t:=U d) 3 rfl).set4 (x:=U a') (y:=U b') (z:=U c') (t:=U d') 2 rfl
 obtain ⟨s0,s1,s2,s3,s4,s5,s6,s7,s8⟩:=hK2.box.head.four
 obtain ⟨r0,r1,r2,r3,r4,r5,r6,r7,r8⟩:=hK2.box.tail.head.four
 obtain ⟨b0,b1,b2,b3,b4,b5,b6,b7,b8⟩:=hK2.box.tail.tail.head.four
 obtain ⟨a0,a1,a2,a3,a4,a5,a6,a7,a8⟩:=hK2.box.tail.tail.tail.head.four
 clear hb2 hK
 go_wp2_with fail
 refine (N1.out _).mono ?_
 rintro e w3 ⟨rfl,hb3⟩
 have hK4:=hK3.keep hb3
 have hK5:=hK4.set4 (x:=U x) (y:=U y) (z:=U z) (t:=U t) 3 rfl
 clear s0 s1 s2 s3 s4 s5 s6 s7 s8 r0 r1 r2 r3 r4 r5 r6 r7 r8 b0 b1 b2 b3 b4 b5 b6 b7 b8 a0 a1 a2 a3 a4 a5 a6 a7 a8
 obtain ⟨s0,s1,s2,s3,s4,s5,s6,s7,s8⟩:=hK4.box.head.four
 obtain ⟨r0,r1,r2,r3,r4,r5,r6,r7,r8⟩:=hK4.box.tail.head.four
 obtain ⟨b0,b1,b2,b3,b4,b5,b6,b7,b8⟩:=hK4.box.tail.tail.head.four
 obtain ⟨a0,a1,a2,a3,a4,a5,a6,a7,a8⟩:=hK4.box.tail.tail.tail.head.four
 clear hb3 hK2 hK3
 go_wp2_with fail
 refine (N2.out _).mono ?_
 rintro e w4 ⟨rfl,hb4⟩
 have hK6:=hK5.keep hb4
 have hK7:=hK6.set4 (x:=U x') (y:=U y') (z:=U z') (t:=U t') 2 rfl
 clear s0 s1 s2 s3 s4 s5 s6 s7 s8 r0 r1 r2 r3 r4 r5 r6 r7 r8 b0 b1 b2 b3 b4 b5 b6 b7 b8 a0 a1 a2 a3 a4 a5 a6 a7 a8
 obtain ⟨s0,s1,s2,s3,s4,s5,s6,s7,s8⟩:=hK6.box.head.four
 obtain ⟨r0,r1,r2,r3,r4,r5,r6,r7,r8⟩:=hK6.box.tail.head.four
 obtain ⟨b0,b1,b2,b3,b4,b5,b6,b7,b8⟩:=hK6.box.tail.tail.head.four
 obtain ⟨a0,a1,a2,a3,a4,a5,a6,a7,a8⟩:=hK6.box.tail.tail.tail.head.four
 clear hb4 hK4 hK5
 go_upto_region 7 with fail
 clear s0 s1 s2 s3 s4 s5 s6 s7 s8 r0 r1 r2 r3 r4 r5 r6 r7 r8 b0 b1 b2 b3 b4 b5 b6 b7 b8 a0 a1 a2 a3 a4 a5 a6 a7 a8
 clear hK6
 go_cut [52] (fun u wc=>u=.bool (!q)∧Kp w wc [(w.heap.size+1+1+1,[.int .u64 0,.int .u64 0,.int .u64 0,.int .u64 0]),(w.heap.size+1+1,[.int .u64 0,.int .u64 0,.int .u64 0,.int .u64 0]),(w.heap.size+1,[U x',U y',U z',U t']),(w.heap.size,[U x,U y,U z,U t])])
 case first =>
  cases may
  ·go_wp2_with fail
   go_meet
   case rel=>exact ⟨by rw [hq.out];rfl,hK7⟩
  ·cases i1
   ·go_wp2_with fail
    go_meet
    case rel=>exact ⟨by rw [hq.out];rfl,hK7⟩
   ·cases i2
    all_goals
     go_wp2_with fail
     go_meet
     case rel=>exact ⟨by rw [hq.out];rfl,hK7⟩
 case rest =>
  clear hK7 hq
  obtain ⟨rfl,hK8⟩:=hcut
  obtain ⟨s0,s1,s2,s3,s4,s5,s6,s7,s8⟩:=hK8.box.head.four
  obtain ⟨r0,r1,r2,r3,r4,r5,r6,r7,r8⟩:=hK8.box.tail.head.four
  obtain ⟨b0,b1,b2,b3,b4,b5,b6,b7,b8⟩:=hK8.box.tail.tail.head.four
  obtain ⟨a0,a1,a2,a3,a4,a5,a6,a7,a8⟩:=hK8.box.tail.tail.tail.head.four
  cases q
  ·go_wp2_with fail
   exact bodyPost_ret (v:=.tuple #[V0,V0,.bool false,N 0]) (by simp [results,Tryz.results145,go_sem,za4,s0,s1,s2,s3,r0,r1,r2,r3]) rfl ⟨rfl,((hK8.set4 1 rfl).set4 0 rfl).bel⟩
  ·go_wp2_with fail
   go_region
   all_goals
    go_wp2_with fail
    exact bodyPost_ret (v:=.tuple #[Vl x y z t,Vl x' y' z' t',.bool true,N 0]) (by simp [results,Tryz.results145,go_sem,s0,s1,s2,s3,r0,r1,r2,r3]) rfl ⟨rfl,Below.drew ((hK8.set4 1 rfl).set4 0 rfl).bel⟩
set_option maxRecDepth 100000 in
set_option maxHeartbeats 4000000 in
theorem zy3 {p1 p2:Value} {v m l g v' m' l' g' a b c d a' b' c' d' x y z t x' y' z' t':BitVec 64} {may i1 i2:Bool} {e1 e2:Int} (hr:Hid ((valB v m l g&&valB v' m' l' g')=true)) (w:World)
  (HR:Hid (∀ w',Below w.heap.size w w'→Calls Tryz.prog 146 #[p1,p2] w' fun e w''=>e=.returned (.tuple #[Vl a b c d,Vl a' b' c' d',.bool may])∧Below w'.heap.size w' w''))
  (N1:Hid (∀ w,Calls Tryz.prog 156 #[Vl a b c d] w fun e w'=>e=.returned (.tuple #[Vl x y z t,.bool i1,N e1])∧Below w.heap.size w w'))
  (N2:Hid (∀ w,Calls Tryz.prog 156 #[Vl a' b' c' d'] w fun e w'=>e=.returned (.tuple #[Vl x' y' z' t',.bool i2,N e2])∧Below w.heap.size w w')) :
  Calls Tryz.prog 145 #[Vl v m l g,Vl v' m' l' g',.func (.func 146) #[] #[p1,p2]] w fun e w'=>e=.returned (.tuple #[lv (may&&(i1&&i2)) (Vl x y z t),lv (may&&(i1&&i2)) (Vl x' y' z' t'),.bool (may&&(i1&&i2)),N 0])∧Below w.heap.size w w':=by
 obtain ⟨z1,H1⟩:∃ b,Hid (valB v m l g=b):=⟨_,rfl⟩
 obtain ⟨z2,H2⟩:∃ b,Hid (valB v' m' l' g'=b):=⟨_,rfl⟩
 rw [H1.out,H2.out] at hr
 obtain ⟨q,hq⟩:∃ q,Hid (q=(may&&(i1&&i2))):=⟨_,rfl⟩
 rw [← hq.out]
 go_enter Tryz.func145,Tryz.ntmps145
 go_wp2_with fail
 refine (zj8 H1 H2 (by simp) (by simp [go_sem]) (by simp [go_sem]) (by simp [go_sem]) (by simp [go_sem]) (by simp [go_sem]) (by simp [go_sem]) (by simp [go_sem]) (by simp [go_sem])).mono ?_
 rw [hr.out,er_t]
 rintro e w1 ⟨rfl,hb1⟩
 have hK:=((((((Kp.start w).add4 _ _ _ _ _).add4 _ _ _ _ _).add4 _ _ _ _ _).add4 _ _ _ _ _).keep ((Below.refl _ _).alloc (Nat.le_refl _) _)).keep hb1
 simp only [World.size_alloc] at hK
 clear hb1
 go_wp2_with fail
 refine (HR.out _ hK.bel).mono ?_
 rintro e w2 ⟨rfl,hb2⟩
 have hK2:=hK.keep hb2
 have hK3:=(hK2.set4 (x:=U a) (y:=U b) (z:=U c) (t:=U d) 3 rfl).set4 (x:=U a') (y:=U b') (z:=U c') (t:=U d') 2 rfl
 obtain ⟨s0,s1,s2,s3,s4,s5,s6,s7,s8⟩:=hK2.box.head.four
 obtain ⟨r0,r1,r2,r3,r4,r5,r6,r7,r8⟩:=hK2.box.tail.head.four
 obtain ⟨b0,b1,b2,b3,b4,b5,b6,b7,b8⟩:=hK2.box.tail.tail.head.four
 obtain ⟨a0,a1,a2,a3,a4,a5,a6,a7,a8⟩:=hK2.box.tail.tail.tail.head.four
 clear hb2 hK
 go_wp2_with fail
 refine (N1.out _).mono ?_
 rintro e w3 ⟨rfl,hb3⟩
 have hK4:=hK3.keep hb3
 have hK5:=hK4.set4 (x:=U x) (y:=U y) (z:=U z) (t:=U t) 3 rfl
 clear s0 s1 s2 s3 s4 s5 s6 s7 s8 r0 r1 r2 r3 r4 r5 r6 r7 r8 b0 b1 b2 b3 b4 b5 b6 b7 b8 a0 a1 a2 a3 a4 a5 a6 a7 a8
 obtain ⟨s0,s1,s2,s3,s4,s5,s6,s7,s8⟩:=hK4.box.head.four
 obtain ⟨r0,r1,r2,r3,r4,r5,r6,r7,r8⟩:=hK4.box.tail.head.four
 obtain ⟨b0,b1,b2,b3,b4,b5,b6,b7,b8⟩:=hK4.box.tail.tail.head.four
 obtain ⟨a0,a1,a2,a3,a4,a5,a6,a7,a8⟩:=hK4.box.tail.tail.tail.head.four
 clear hb3 hK2 hK3
 go_wp2_with fail
 refine (N2.out _).mono ?_
 rintro e w4 ⟨rfl,hb4⟩
 have hK6:=hK5.keep hb4
 have hK7:=hK6.set4 (x:=U x') (y:=U y') (z:=U z') (t:=U t') 2 rfl
 clear s0 s1 s2 s3 s4 s5 s6 s7 s8 r0 r1 r2 r3 r4 r5 r6 r7 r8 b0 b1 b2 b3 b4 b5 b6 b7 b8 a0 a1 a2 a3 a4 a5 a6 a7 a8
 obtain ⟨s0,s1,s2,s3,s4,s5,s6,s7,s8⟩:=hK6.box.head.four
 obtain ⟨r0,r1,r2,r3,r4,r5,r6,r7,r8⟩:=hK6.box.tail.head.four
 obtain ⟨b0,b1,b2,b3,b4,b5,b6,b7,b8⟩:=hK6.box.tail.tail.head.four
 obtain ⟨a0,a1,a2,a3,a4,a5,a6,a7,a8⟩:=hK6.box.tail.tail.tail.head.four
 clear hb4 hK4 hK5
 go_upto_region 7 with fail
 clear s0 s1 s2 s3 s4 s5 s6 s7 s8 r0 r1 r2 r3 r4 r5 r6 r7 r8 b0 b1 b2 b3 b4 b5 b6 b7 b8 a0 a1 a2 a3 a4 a5 a6 a7 a8
 clear hK6
 go_cut [52] (fun u wc=>u=.bool (!q)∧Kp w wc [(w.heap.size+1+1+1,[.int .u64 0,.int .u64 0,.int .u64 0,.int .u64 0]),(w.heap.size+1+1,[.int .u64 0,.int .u64 0,.int .u64 0,.int .u64 0]),(w.heap.size+1,[U x',U y',U z',U t']),(w.heap.size,[U x,U y,U z,U t])])
 case first =>
  cases may
  ·go_wp2_with fail
   go_meet
   case rel=>exact ⟨by rw [hq.out];rfl,hK7⟩
  ·cases i1
   ·go_wp2_with fail
    go_meet
    case rel=>exact ⟨by rw [hq.out];rfl,hK7⟩
   ·cases i2
    all_goals
     go_wp2_with fail
     go_meet
     case rel=>exact ⟨by rw [hq.out];rfl,hK7⟩
 case rest =>
  clear hK7 hq
  obtain ⟨rfl,hK8⟩:=hcut
  obtain ⟨s0,s1,s2,s3,s4,s5,s6,s7,s8⟩:=hK8.box.head.four
  obtain ⟨r0,r1,r2,r3,r4,r5,r6,r7,r8⟩:=hK8.box.tail.head.four
  obtain ⟨b0,b1,b2,b3,b4,b5,b6,b7,b8⟩:=hK8.box.tail.tail.head.four
  obtain ⟨a0,a1,a2,a3,a4,a5,a6,a7,a8⟩:=hK8.box.tail.tail.tail.head.four
  cases q
  ·go_wp2_with fail
   exact bodyPost_ret (v:=.tuple #[V0,V0,.bool false,N 0]) (by simp [results,Tryz.results145,go_sem,za4,s0,s1,s2,s3,r0,r1,r2,r3]) rfl ⟨rfl,((hK8.set4 1 rfl).set4 0 rfl).bel⟩
  ·go_wp2_with fail
   go_region
   all_goals
    go_wp2_with fail
    exact bodyPost_ret (v:=.tuple #[Vl x y z t,Vl x' y' z' t',.bool true,N 0]) (by simp [results,Tryz.results145,go_sem,s0,s1,s2,s3,r0,r1,r2,r3]) rfl ⟨rfl,Below.drew ((hK8.set4 1 rfl).set4 0 rfl).bel⟩
set_option maxRecDepth 100000 in
set_option maxHeartbeats 4000000 in
theorem yafe {p1 p2:Value} {v m l g v' m' l' g' a b c d a' b' c' d' x y z t x' y' z' t':BitVec 64} {may i1 i2:Bool} {e1 e2:Int} (hr:Hid ((valB v m l g&&valB v' m' l' g')=true)) (w:World)
  (HR:Hid (∀ w',Below w.heap.size w w'→Calls Tryz.prog 153 #[p1,p2] w' fun e w''=>e=.returned (.tuple #[Vl a b c d,Vl a' b' c' d',.bool may])∧Below w'.heap.size w' w''))
  (N1:Hid (∀ w,Calls Tryz.prog 156 #[Vl a b c d] w fun e w'=>e=.returned (.tuple #[Vl x y z t,.bool i1,N e1])∧Below w.heap.size w w'))
  (N2:Hid (∀ w,Calls Tryz.prog 156 #[Vl a' b' c' d'] w fun e w'=>e=.returned (.tuple #[Vl x' y' z' t',.bool i2,N e2])∧Below w.heap.size w w')) :
  Calls Tryz.prog 145 #[Vl v m l g,Vl v' m' l' g',.func (.func 153) #[] #[p1,p2]] w fun e w'=>e=.returned (.tuple #[lv (may&&(i1&&i2)) (Vl x y z t),lv (may&&(i1&&i2)) (Vl x' y' z' t'),.bool (may&&(i1&&i2)),N 0])∧Below w.heap.size w w':=by
 obtain ⟨z1,H1⟩:∃ b,Hid (valB v m l g=b):=⟨_,rfl⟩
 obtain ⟨z2,H2⟩:∃ b,Hid (valB v' m' l' g'=b):=⟨_,rfl⟩
 rw [H1.out,H2.out] at hr
 obtain ⟨q,hq⟩:∃ q,Hid (q=(may&&(i1&&i2))):=⟨_,rfl⟩
 rw [← hq.out]
 go_enter Tryz.func145,Tryz.ntmps145
 go_wp2_with fail
 refine (zj8 H1 H2 (by simp) (by simp [go_sem]) (by simp [go_sem]) (by simp [go_sem]) (by simp [go_sem]) (by simp [go_sem]) (by simp [go_sem]) (by simp [go_sem]) (by simp [go_sem])).mono ?_
 rw [hr.out,er_t]
 rintro e w1 ⟨rfl,hb1⟩
 have hK:=((((((Kp.start w).add4 _ _ _ _ _).add4 _ _ _ _ _).add4 _ _ _ _ _).add4 _ _ _ _ _).keep ((Below.refl _ _).alloc (Nat.le_refl _) _)).keep hb1
 simp only [World.size_alloc] at hK
 clear hb1
 go_wp2_with fail
 refine (HR.out _ hK.bel).mono ?_
 rintro e w2 ⟨rfl,hb2⟩
 have hK2:=hK.keep hb2
 have hK3:=(hK2.set4 (x:=U a) (y:=U b) (z:=U c) (t:=U d) 3 rfl).set4 (x:=U a') (y:=U b') (z:=U c') (t:=U d') 2 rfl
 obtain ⟨s0,s1,s2,s3,s4,s5,s6,s7,s8⟩:=hK2.box.head.four
 obtain ⟨r0,r1,r2,r3,r4,r5,r6,r7,r8⟩:=hK2.box.tail.head.four
 obtain ⟨b0,b1,b2,b3,b4,b5,b6,b7,b8⟩:=hK2.box.tail.tail.head.four
 obtain ⟨a0,a1,a2,a3,a4,a5,a6,a7,a8⟩:=hK2.box.tail.tail.tail.head.four
 clear hb2 hK
 go_wp2_with fail
 refine (N1.out _).mono ?_
 rintro e w3 ⟨rfl,hb3⟩
 have hK4:=hK3.keep hb3
 have hK5:=hK4.set4 (x:=U x) (y:=U y) (z:=U z) (t:=U t) 3 rfl
 clear s0 s1 s2 s3 s4 s5 s6 s7 s8 r0 r1 r2 r3 r4 r5 r6 r7 r8 b0 b1 b2 b3 b4 b5 b6 b7 b8 a0 a1 a2 a3 a4 a5 a6 a7 a8
 obtain ⟨s0,s1,s2,s3,s4,s5,s6,s7,s8⟩:=hK4.box.head.four
 obtain ⟨r0,r1,r2,r3,r4,r5,r6,r7,r8⟩:=hK4.box.tail.head.four
 obtain ⟨b0,b1,b2,b3,b4,b5,b6,b7,b8⟩:=hK4.box.tail.tail.head.four
 obtain ⟨a0,a1,a2,a3,a4,a5,a6,a7,a8⟩:=hK4.box.tail.tail.tail.head.four
 clear hb3 hK2 hK3
 go_wp2_with fail
 refine (N2.out _).mono ?_
 rintro e w4 ⟨rfl,hb4⟩
 have hK6:=hK5.keep hb4
 have hK7:=hK6.set4 (x:=U x') (y:=U y') (z:=U z') (t:=U t') 2 rfl
 clear s0 s1 s2 s3 s4 s5 s6 s7 s8 r0 r1 r2 r3 r4 r5 r6 r7 r8 b0 b1 b2 b3 b4 b5 b6 b7 b8 a0 a1 a2 a3 a4 a5 a6 a7 a8
 obtain ⟨s0,s1,s2,s3,s4,s5,s6,s7,s8⟩:=hK6.box.head.four
 obtain ⟨r0,r1,r2,r3,r4,r5,r6,r7,r8⟩:=hK6.box.tail.head.four
 obtain ⟨b0,b1,b2,b3,b4,b5,b6,b7,b8⟩:=hK6.box.tail.tail.head.four
 obtain ⟨a0,a1,a2,a3,a4,a5,a6,a7,a8⟩:=hK6.box.tail.tail.tail.head.four
 clear hb4 hK4 hK5
 go_upto_region 7 with fail
 clear s0 s1 s2 s3 s4 s5 s6 s7 s8 r0 r1 r2 r3 r4 r5 r6 r7 r8 b0 b1 b2 b3 b4 b5 b6 b7 b8 a0 a1 a2 a3 a4 a5 a6 a7 a8
 clear hK6
 go_cut [52] (fun u wc=>u=.bool (!q)∧Kp w wc [(w.heap.size+1+1+1,[.int .u64 0,.int .u64 0,.int .u64 0,.int .u64 0]),(w.heap.size+1+1,[.int .u64 0,.int .u64 0,.int .u64 0,.int .u64 0]),(w.heap.size+1,[U x',U y',U z',U t']),(w.heap.size,[U x,U y,U z,U t])])
 case first =>
  cases may
  ·go_wp2_with fail
   go_meet
   case rel=>exact ⟨by rw [hq.out];rfl,hK7⟩
  ·cases i1
   ·go_wp2_with fail
    go_meet
    case rel=>exact ⟨by rw [hq.out];rfl,hK7⟩
   ·cases i2
    all_goals
     go_wp2_with fail
     go_meet
     case rel=>exact ⟨by rw [hq.out];rfl,hK7⟩
 case rest =>
  clear hK7 hq
  obtain ⟨rfl,hK8⟩:=hcut
  obtain ⟨s0,s1,s2,s3,s4,s5,s6,s7,s8⟩:=hK8.box.head.four
  obtain ⟨r0,r1,r2,r3,r4,r5,r6,r7,r8⟩:=hK8.box.tail.head.four
  obtain ⟨b0,b1,b2,b3,b4,b5,b6,b7,b8⟩:=hK8.box.tail.tail.head.four
  obtain ⟨a0,a1,a2,a3,a4,a5,a6,a7,a8⟩:=hK8.box.tail.tail.tail.head.four
  cases q
  ·go_wp2_with fail
   exact bodyPost_ret (v:=.tuple #[V0,V0,.bool false,N 0]) (by simp [results,Tryz.results145,go_sem,za4,s0,s1,s2,s3,r0,r1,r2,r3]) rfl ⟨rfl,((hK8.set4 1 rfl).set4 0 rfl).bel⟩
  ·go_wp2_with fail
   go_region
   all_goals
    go_wp2_with fail
    exact bodyPost_ret (v:=.tuple #[Vl x y z t,Vl x' y' z' t',.bool true,N 0]) (by simp [results,Tryz.results145,go_sem,s0,s1,s2,s3,r0,r1,r2,r3]) rfl ⟨rfl,Below.drew ((hK8.set4 1 rfl).set4 0 rfl).bel⟩
set_option maxRecDepth 100000 in
set_option maxHeartbeats 4000000 in
theorem zsc {p1 p2:Value} {v m l g v' m' l' g' a b c d a' b' c' d' x y z t x' y' z' t':BitVec 64} {may i1 i2:Bool} {e1 e2:Int} (hr:Hid ((valB v m l g&&valB v' m' l' g')=true)) (w:World)
  (HR:Hid (∀ w',Below w.heap.size w w'→Calls Tryz.prog 151 #[p1,p2] w' fun e w''=>e=.returned (.tuple #[Vl a b c d,Vl a' b' c' d',.bool may])∧Below w'.heap.size w' w''))
  (N1:Hid (∀ w,Calls Tryz.prog 156 #[Vl a b c d] w fun e w'=>e=.returned (.tuple #[Vl x y z t,.bool i1,N e1])∧Below w.heap.size w w'))
  (N2:Hid (∀ w,Calls Tryz.prog 156 #[Vl a' b' c' d'] w fun e w'=>e=.returned (.tuple #[Vl x' y' z' t',.bool i2,N e2])∧Below w.heap.size w w')) :
  Calls Tryz.prog 145 #[Vl v m l g,Vl v' m' l' g',.func (.func 151) #[] #[p1,p2]] w fun e w'=>e=.returned (.tuple #[lv (may&&(i1&&i2)) (Vl x y z t),lv (may&&(i1&&i2)) (Vl x' y' z' t'),.bool (may&&(i1&&i2)),N 0])∧Below w.heap.size w w':=by
 obtain ⟨z1,H1⟩:∃ b,Hid (valB v m l g=b):=⟨_,rfl⟩
 obtain ⟨z2,H2⟩:∃ b,Hid (valB v' m' l' g'=b):=⟨_,rfl⟩
 rw [H1.out,H2.out] at hr
 obtain ⟨q,hq⟩:∃ q,Hid (q=(may&&(i1&&i2))):=⟨_,rfl⟩
 rw [← hq.out]
 go_enter Tryz.func145,Tryz.ntmps145
 go_wp2_with fail
 refine (zj8 H1 H2 (by simp) (by simp [go_sem]) (by simp [go_sem]) (by simp [go_sem]) (by simp [go_sem]) (by simp [go_sem]) (by simp [go_sem]) (by simp [go_sem]) (by simp [go_sem])).mono ?_
 rw [hr.out,er_t]
 rintro e w1 ⟨rfl,hb1⟩
 have hK:=((((((Kp.start w).add4 _ _ _ _ _).add4 _ _ _ _ _).add4 _ _ _ _ _).add4 _ _ _ _ _).keep ((Below.refl _ _).alloc (Nat.le_refl _) _)).keep hb1
 simp only [World.size_alloc] at hK
 clear hb1
 go_wp2_with fail
 refine (HR.out _ hK.bel).mono ?_
 rintro e w2 ⟨rfl,hb2⟩
 have hK2:=hK.keep hb2
 have hK3:=(hK2.set4 (x:=U a) (y:=U b) (z:=U c) (t:=U d) 3 rfl).set4 (x:=U a') (y:=U b') (z:=U c') (t:=U d') 2 rfl
 obtain ⟨s0,s1,s2,s3,s4,s5,s6,s7,s8⟩:=hK2.box.head.four
 obtain ⟨r0,r1,r2,r3,r4,r5,r6,r7,r8⟩:=hK2.box.tail.head.four
 obtain ⟨b0,b1,b2,b3,b4,b5,b6,b7,b8⟩:=hK2.box.tail.tail.head.four
 obtain ⟨a0,a1,a2,a3,a4,a5,a6,a7,a8⟩:=hK2.box.tail.tail.tail.head.four
 clear hb2 hK
 go_wp2_with fail
 refine (N1.out _).mono ?_
 rintro e w3 ⟨rfl,hb3⟩
 have hK4:=hK3.keep hb3
 have hK5:=hK4.set4 (x:=U x) (y:=U y) (z:=U z) (t:=U t) 3 rfl
 clear s0 s1 s2 s3 s4 s5 s6 s7 s8 r0 r1 r2 r3 r4 r5 r6 r7 r8 b0 b1 b2 b3 b4 b5 b6 b7 b8 a0 a1 a2 a3 a4 a5 a6 a7 a8
 obtain ⟨s0,s1,s2,s3,s4,s5,s6,s7,s8⟩:=hK4.box.head.four
 obtain ⟨r0,r1,r2,r3,r4,r5,r6,r7,r8⟩:=hK4.box.tail.head.four
 obtain ⟨b0,b1,b2,b3,b4,b5,b6,b7,b8⟩:=hK4.box.tail.tail.head.four
 obtain ⟨a0,a1,a2,a3,a4,a5,a6,a7,a8⟩:=hK4.box.tail.tail.tail.head.four
 clear hb3 hK2 hK3
 go_wp2_with fail
 refine (N2.out _).mono ?_
 rintro e w4 ⟨rfl,hb4⟩
 have hK6:=hK5.keep hb4
 have hK7:=hK6.set4 (x:=U x') (y:=U y') (z:=U z') (t:=U t') 2 rfl
 clear s0 s1 s2 s3 s4 s5 s6 s7 s8 r0 r1 r2 r3 r4 r5 r6 r7 r8 b0 b1 b2 b3 b4 b5 b6 b7 b8 a0 a1 a2 a3 a4 a5 a6 a7 a8
 obtain ⟨s0,s1,s2,s3,s4,s5,s6,s7,s8⟩:=hK6.box.head.four
 obtain ⟨r0,r1,r2,r3,r4,r5,r6,r7,r8⟩:=hK6.box.tail.head.four
 obtain ⟨b0,b1,b2,b3,b4,b5,b6,b7,b8⟩:=hK6.box.tail.tail.head.four
 obtain ⟨a0,a1,a2,a3,a4,a5,a6,a7,a8⟩:=hK6.box.tail.tail.tail.head.four
 clear hb4 hK4 hK5
 go_upto_region 7 with fail
 clear s0 s1 s2 s3 s4 s5 s6 s7 s8 r0 r1 r2 r3 r4 r5 r6 r7 r8 b0 b1 b2 b3 b4 b5 b6 b7 b8 a0 a1 a2 a3 a4 a5 a6 a7 a8
 clear hK6
 go_cut [52] (fun u wc=>u=.bool (!q)∧Kp w wc [(w.heap.size+1+1+1,[.int .u64 0,.int .u64 0,.int .u64 0,.int .u64 0]),(w.heap.size+1+1,[.int .u64 0,.int .u64 0,.int .u64 0,.int .u64 0]),(w.heap.size+1,[U x',U y',U z',U t']),(w.heap.size,[U x,U y,U z,U t])])
 case first =>
  cases may
  ·go_wp2_with fail
   go_meet
   case rel=>exact ⟨by rw [hq.out];rfl,hK7⟩
  ·cases i1
   ·go_wp2_with fail
    go_meet
    case rel=>exact ⟨by rw [hq.out];rfl,hK7⟩
   ·cases i2
    all_goals
     go_wp2_with fail
     go_meet
     case rel=>exact ⟨by rw [hq.out];rfl,hK7⟩
 case rest =>
  clear hK7 hq
  obtain ⟨rfl,hK8⟩:=hcut
  obtain ⟨s0,s1,s2,s3,s4,s5,s6,s7,s8⟩:=hK8.box.head.four
  obtain ⟨r0,r1,r2,r3,r4,r5,r6,r7,r8⟩:=hK8.box.tail.head.four
  obtain ⟨b0,b1,b2,b3,b4,b5,b6,b7,b8⟩:=hK8.box.tail.tail.head.four
  obtain ⟨a0,a1,a2,a3,a4,a5,a6,a7,a8⟩:=hK8.box.tail.tail.tail.head.four
  cases q
  ·go_wp2_with fail
   exact bodyPost_ret (v:=.tuple #[V0,V0,.bool false,N 0]) (by simp [results,Tryz.results145,go_sem,za4,s0,s1,s2,s3,r0,r1,r2,r3]) rfl ⟨rfl,((hK8.set4 1 rfl).set4 0 rfl).bel⟩
  ·go_wp2_with fail
   go_region
   all_goals
    go_wp2_with fail
    exact bodyPost_ret (v:=.tuple #[Vl x y z t,Vl x' y' z' t',.bool true,N 0]) (by simp [results,Tryz.results145,go_sem,s0,s1,s2,s3,r0,r1,r2,r3]) rfl ⟨rfl,Below.drew ((hK8.set4 1 rfl).set4 0 rfl).bel⟩
end
section
attribute [local go_sem] zc9 w_or zdf za3 zbx zbc zda zcy zdb zbw zb4 zc3 zby zdc zcn zcz zb1 zb3 zb2 zb0 za1
theorem Kp.drop' {w0 w:World} {p:Nat×List Value} {L:List (Nat×List Value)} (h:Kp w0 w (p::L)):Kp w0 w L:=⟨h.bel,h.box.tail,fun q hq=>h.lo q (List.mem_cons_of_mem _ hq)⟩
theorem Kp.other1 {w0 w:World} {L:List (Nat×List Value)} (h:Kp w0 w L) {b i:Nat} (v:Value) (hlo:w0.heap.size≤b) (hne:∀ p,p∈L→p.1≠b):Kp w0 (w.setCell ⟨b,i,none⟩ v) L :=
 ⟨h.bel.setCell hlo v,h.box.other hne,h.lo⟩
theorem Kp.other4 {w0 w:World} {L:List (Nat×List Value)} (h:Kp w0 w L) {b:Nat} (x y z t:Value) (hlo:w0.heap.size≤b) (hne:∀ p,p∈L→p.1≠b) :
  Kp w0 ((((w.setCell ⟨b,0,none⟩ x).setCell ⟨b,1,none⟩ y).setCell ⟨b,2,none⟩ z).setCell ⟨b,3,none⟩ t) L :=
 (((h.other1 x hlo hne).other1 y hlo hne).other1 z hlo hne).other1 t hlo hne
end
end Go.Proofs.YtkigmocchaikgabGreatDoor
