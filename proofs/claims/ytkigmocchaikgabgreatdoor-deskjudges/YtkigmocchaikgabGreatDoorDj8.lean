import Derived.Test.YtkigmocchaikgabGreatDoorDj4
import Derived.Test.YtkigmocchaikgabGreatDoorDj7
import Derived.Deep.RegionHeld3
import Derived.Test.YtkigmocchaikgabGreatDoorDj3
import Derived.Test.YtkigmocchaikgabGreatDoorDj2
import Derived.Test.YtkigmocchaikgabGreatDoorProg
import Derived.Test.YtkigmocchaikgabGreatDoorDj6
/- The contracts of the functions that Equal and Less hand to leave. -/
namespace Go.Proofs.YtkigmocchaikgabGreatDoor
open Go.RowKit
section
attribute [local go_sem] zc9 w_or zdf za3 zbx zbc zda zcy zdb zbw zb4 zc3 zby zdc zcn zcz zb1 zb3 zb2 zb0 za1
def Cap (w:World) (b1 b2:Nat) (v m l g v' m' l' g':BitVec 64):Prop :=
 b1<w.heap.size∧b2<w.heap.size∧w.cell? ⟨b1,0,none⟩=some (U v)∧w.cell? ⟨b1,1,none⟩=some (U m)∧w.cell? ⟨b1,2,none⟩=some (U l)∧w.cell? ⟨b1,3,none⟩=some (U g)
 ∧ w.cell? ⟨b2,0,none⟩=some (U v')∧w.cell? ⟨b2,1,none⟩=some (U m')∧w.cell? ⟨b2,2,none⟩=some (U l')∧w.cell? ⟨b2,3,none⟩=some (U g')
theorem Cap.keep {w w':World} {b1 b2:Nat} {v m l g v' m' l' g':BitVec 64} (h:Cap w b1 b2 v m l g v' m' l' g') (hb:Below w.heap.size w w'):Cap w' b1 b2 v m l g v' m' l' g':=by
 obtain ⟨s1,s2,a0,a1,a2,a3,c0,c1,c2,c3⟩:=h
 exact ⟨Nat.lt_of_lt_of_le s1 hb.size,Nat.lt_of_lt_of_le s2 hb.size,(hb.cell (p:=⟨b1,0,none⟩) s1).trans a0,(hb.cell (p:=⟨b1,1,none⟩) s1).trans a1,(hb.cell (p:=⟨b1,2,none⟩) s1).trans a2,(hb.cell (p:=⟨b1,3,none⟩) s1).trans a3,
  (hb.cell (p:=⟨b2,0,none⟩) s2).trans c0,(hb.cell (p:=⟨b2,1,none⟩) s2).trans c1,(hb.cell (p:=⟨b2,2,none⟩) s2).trans c2,(hb.cell (p:=⟨b2,3,none⟩) s2).trans c3⟩
set_option maxRecDepth 100000 in
set_option maxHeartbeats 4000000 in
theorem zvh {b1 b2:Nat} {v m l g v' m' l' g' kv km lo hi:BitVec 64} {may:Bool} {w:World} (hc:Hid (Cap w b1 b2 v m l g v' m' l' g'))
  (HM:Hid (∀ w,Calls Tryz.prog 150 #[Bt v m,Bt v' m'] w fun e w'=>e=.returned (.tuple #[Bt kv km,.bool may,N 0])∧Below w.heap.size w w'))
  (m1:Hid (bmax l l'=lo)) (m2:Hid (bmin g g'=hi)) :
  Calls Tryz.prog 149 #[PT b1,PT b2] w fun e w'=>e=.returned (.tuple #[Vl kv km lo hi,Vl kv km lo hi,.bool may])∧Below w.heap.size w w':=by
 have e1:(if nv l<nv l' then nv l' else nv l)=nv lo:=by rw [← m1.out];unfold bmax;split <;> rfl
 have e2:(if nv g' < nv g then nv g' else nv g)=nv hi:=by rw [← m2.out];unfold bmin;split <;> rfl
 obtain ⟨s1,s2,a0,a1,a2,a3,c0,c1,c2,c3⟩:=hc.out
 go_enter Tryz.func149,Tryz.ntmps149
 go_wp2_with fail
 refine (HM.out _).mono ?_
 rintro e w1 ⟨rfl,hb1⟩
 have hK:=(((Kp.start w).add4 _ _ _ _ _).add4 _ _ _ _ _).keep hb1
 simp only [World.size_alloc] at hK
 have hcc:=hc.out.keep hK.bel
 clear s1 s2 a0 a1 a2 a3 c0 c1 c2 c3
 obtain ⟨s1,s2,a0,a1,a2,a3,c0,c1,c2,c3⟩:=hcc
 obtain ⟨t0,t1,t2,t3,t4,t5,t6,t7,t8⟩:=hK.box.head.four
 obtain ⟨r0,r1,r2,r3,r4,r5,r6,r7,r8⟩:=hK.box.tail.head.four
 go_wp2_with fail
 have hK2:=(hK.add2 (U kv) (U km) 47).add4 (U kv) (U km) (U lo) (U hi) 49
 simp only [World.size_alloc] at hK2
 have n1:w.heap.size≠w1.heap.size+1:=by omega
 have n2:w1.heap.size+1≠w.heap.size:=by omega
 have n3:w.heap.size≠w1.heap.size:=by omega
 have n4:w1.heap.size≠w.heap.size:=by omega
 have n5:w.heap.size+1≠w1.heap.size:=by omega
 have n6:w1.heap.size≠w.heap.size+1:=by omega
 clear t0 t1 t2 t3 t4 t5 t6 t7 t8 r0 r1 r2 r3 r4 r5 r6 r7 r8
 obtain ⟨k0,k1,k2,k3,k4,k5,k6,k7,k8⟩:=hK2.box.head.four
 obtain ⟨t0,t1,t2,t3,t4,t5,t6,t7,t8⟩:=hK2.box.tail.tail.head.four
 obtain ⟨r0,r1,r2,r3,r4,r5,r6,r7,r8⟩:=hK2.box.tail.tail.tail.head.four
 go_region
 all_goals
  go_wp2_with fail
  refine bodyPost_ret (v:=.tuple #[Vl kv km lo hi,Vl kv km lo hi,.bool may]) ?_ rfl ⟨rfl,?_⟩
  ·simp [results,Tryz.results149,go_sem,t0,t1,t2,t3,r0,r1,r2,r3]
  ·exact Below.drew ((hK2.set4 3 rfl).set4 2 rfl).bel
set_option maxRecDepth 100000 in
set_option maxHeartbeats 4000000 in
theorem zya {b1 b2:Nat} {v m l g v' m' l' g':BitVec 64} {w:World} (hc:Hid (Cap w b1 b2 v m l g v' m' l' g')) :
  Calls Tryz.prog 151 #[PT b1,PT b2] w fun e w'=>e=.returned (.tuple #[Vl v m (bmax l l') (bmin g g),Vl v' m' (bmax l' l') (bmin g' g),.bool true])∧Below w.heap.size w w':=by
 obtain ⟨s1,s2,a0,a1,a2,a3,c0,c1,c2,c3⟩:=hc.out
 have hK0:=((Kp.start w).add4 (.int .u64 0) (.int .u64 0) (.int .u64 0) (.int .u64 0) 49).add4 (.int .u64 0) (.int .u64 0) (.int .u64 0) (.int .u64 0) 49
 simp only [World.size_alloc] at hK0
 go_enter Tryz.func151,Tryz.ntmps151
 go_wp2_with fail
 have hS0:Kp w _ []:=(hK0).drop'.drop'.keep (Below.drew (Below.refl _ _))
 have hR0:=(hK0).keep (Below.drew (Below.refl _ _))
 have HS:Hid (∀ w',Kp w w' []→Kp w w' []∧w'.cell? ⟨b1,0,none⟩=some (U v)∧w'.cell? ⟨b1,1,none⟩=some (U m)∧w'.cell? ⟨b1,2,none⟩=some (U l)∧w'.cell? ⟨b1,3,none⟩=some (U g)∧w'.cell? ⟨b2,0,none⟩=some (U v')∧w'.cell? ⟨b2,1,none⟩=some (U m')∧w'.cell? ⟨b2,2,none⟩=some (U l')∧w'.cell? ⟨b2,3,none⟩=some (U g')):=by
  intro w' hk
  obtain ⟨_,_,d0,d1,d2,d3,f0,f1,f2,f3⟩:=hc.out.keep hk.bel
  exact ⟨hk,d0,d1,d2,d3,f0,f1,f2,f3⟩
 go_region_held3 (fun w'=>Kp w w' []∧w'.cell? ⟨b1,0,none⟩=some (U v)∧w'.cell? ⟨b1,1,none⟩=some (U m)∧w'.cell? ⟨b1,2,none⟩=some (U l)∧w'.cell? ⟨b1,3,none⟩=some (U g)∧w'.cell? ⟨b2,0,none⟩=some (U v')∧w'.cell? ⟨b2,1,none⟩=some (U m')∧w'.cell? ⟨b2,2,none⟩=some (U l')∧w'.cell? ⟨b2,3,none⟩=some (U g'))
  ((refine HS.out _ ?_;repeat (first | refine Kp.other4 ?_ _ _ _ _ (by first | exact Nat.le_refl _ | omega) (by simp) | exact hS0 | refine Kp.keep ?_ (by assumption) | refine Kp.keep ?_ (Below.drew (Below.refl _ _)))))
  (first
   | (go_at_call 152;refine (zms _ _ _ _ _ _ _).mono ?_;rintro e wk ⟨rfl,hb⟩;first | (have hR2:=hR1.keep hb;obtain ⟨t0,t1,t2,t3,t4,t5,t6,t7,t8⟩:=hR2.box.head.four;obtain ⟨r0,r1,r2,r3,r4,r5,r6,r7,r8⟩:=hR2.box.tail.head.four) | (have hR1:=hR0.keep hb)))
 all_goals
  go_wp2_with fail
  refine bodyPost_ret (v:=.tuple #[Vl v m (bmax l l') (bmin g g),Vl v' m' (bmax l' l') (bmin g' g),.bool true]) ?_ rfl ⟨rfl,?_⟩
  ·simp [results,Tryz.results151,go_sem,t0,t1,t2,t3,r0,r1,r2,r3]
  ·exact ((hR2.set4 1 rfl).set4 0 rfl).bel
end
section
attribute [local go_sem] zc9 w_or zdf za3 zbx zbc zda zcy zdb zbw zb4 zc3 zby zdc zcn zcz zb1 zb3 zb2 zb0 za1
theorem yay5 (x:BitVec 64):(nv x==18446744073709551615)=eqb x top:=by rw [← znb];exact zcn x top
attribute [local go_sem] yay5
set_option maxRecDepth 100000 in
set_option maxHeartbeats 4000000 in
theorem yap1 {b1 b2:Nat} {v m l g v' m' l' g':BitVec 64} {w:World} (hc:Hid (Cap w b1 b2 v' m' l' g' v m l g)) (hn:Hid ((eqb g' zero||eqb l top)=true)) :
  Calls Tryz.prog 153 #[PT b1,PT b2] w fun e w'=>e=.returned (.tuple #[Vl v m l g,Vl v' m' l' g',.bool false])∧Below w.heap.size w w':=by
 obtain ⟨s1,s2,a0,a1,a2,a3,c0,c1,c2,c3⟩:=hc.out
 have hK0:=((Kp.start w).add4 (.int .u64 0) (.int .u64 0) (.int .u64 0) (.int .u64 0) 49).add4 (.int .u64 0) (.int .u64 0) (.int .u64 0) (.int .u64 0) 49
 simp only [World.size_alloc] at hK0
 obtain ⟨t0,t1,t2,t3,t4,t5,t6,t7,t8⟩:=hK0.box.head.four
 obtain ⟨r0,r1,r2,r3,r4,r5,r6,r7,r8⟩:=hK0.box.tail.head.four
 have n1:b1≠w.heap.size:=by omega
 have n2:b2≠w.heap.size:=by omega
 have n3:w.heap.size≠b1:=by omega
 have n4:w.heap.size≠b2:=by omega
 have n5:b1≠w.heap.size+1:=by omega
 have n6:b2≠w.heap.size+1:=by omega
 have n7:w.heap.size+1≠b1:=by omega
 have n8:w.heap.size+1≠b2:=by omega
 cases z1:eqb g' zero
 ·have z2:eqb l top=true:=by have:=hn.out;rw [z1] at this;simpa using this
  go_enter Tryz.func153,Tryz.ntmps153
  go_wp2_with fail
  go_region
  all_goals
   go_wp2_with fail
   refine bodyPost_ret (v:=.tuple #[Vl v m l g,Vl v' m' l' g',.bool false]) ?_ rfl ⟨rfl,?_⟩
   ·simp [results,Tryz.results153,go_sem]
   ·exact (by repeat (first | exact Below.refl _ _ | assumption | refine below_drewN ?_ _ | refine Below.drew ?_ | refine Below.alloc ?_ (by first | exact Nat.le_refl _ | (simp;done) | (simp;omega) | omega) _ | refine Below.setCell ?_ (by first | exact Nat.le_refl _ | (simp;done) | (simp;omega) | omega) _ | refine Below.trans ?_ (Below.mono (by assumption) (by first | exact Nat.le_refl _ | (simp;done) | (simp;omega) | omega))))
 ·go_enter Tryz.func153,Tryz.ntmps153
  go_wp2_with fail
  go_region
  all_goals
   go_wp2_with fail
   refine bodyPost_ret (v:=.tuple #[Vl v m l g,Vl v' m' l' g',.bool false]) ?_ rfl ⟨rfl,?_⟩
   ·simp [results,Tryz.results153,go_sem]
   ·exact (by repeat (first | exact Below.refl _ _ | assumption | refine below_drewN ?_ _ | refine Below.drew ?_ | refine Below.alloc ?_ (by first | exact Nat.le_refl _ | (simp;done) | (simp;omega) | omega) _ | refine Below.setCell ?_ (by first | exact Nat.le_refl _ | (simp;done) | (simp;omega) | omega) _ | refine Below.trans ?_ (Below.mono (by assumption) (by first | exact Nat.le_refl _ | (simp;done) | (simp;omega) | omega))))
set_option maxRecDepth 100000 in
set_option maxHeartbeats 4000000 in
theorem yagk {b1 b2:Nat} {v m l g v' m' l' g':BitVec 64} {w:World} (hc:Hid (Cap w b1 b2 v' m' l' g' v m l g)) (z1:eqb g' zero=false) (z2:eqb l top=false) :
  Calls Tryz.prog 153 #[PT b1,PT b2] w fun e w'=>e=.returned (.tuple #[Vl v m (bmax l l) (bmin g (bsub g' one)),Vl v' m' (bmax l' (badd l one)) (bmin g' g'),.bool true])∧Below w.heap.size w w':=by
 obtain ⟨s1,s2,a0,a1,a2,a3,c0,c1,c2,c3⟩:=hc.out
 have hK0:=((Kp.start w).add4 (.int .u64 0) (.int .u64 0) (.int .u64 0) (.int .u64 0) 49).add4 (.int .u64 0) (.int .u64 0) (.int .u64 0) (.int .u64 0) 49
 simp only [World.size_alloc] at hK0
 go_enter Tryz.func153,Tryz.ntmps153
 go_wp2_with fail
 go_quiet (fail)
 go_wp2_with fail
 have hS0:Kp w _ []:=(hK0.drew nq).drop'.drop'.keep (Below.drew (Below.refl _ _))
 have hR0:=(hK0.drew nq).keep (Below.drew (Below.refl _ _))
 have HS:Hid (∀ w',Kp w w' []→Kp w w' []∧w'.cell? ⟨b1,0,none⟩=some (U v')∧w'.cell? ⟨b1,1,none⟩=some (U m')∧w'.cell? ⟨b1,2,none⟩=some (U l')∧w'.cell? ⟨b1,3,none⟩=some (U g')∧w'.cell? ⟨b2,0,none⟩=some (U v)∧w'.cell? ⟨b2,1,none⟩=some (U m)∧w'.cell? ⟨b2,2,none⟩=some (U l)∧w'.cell? ⟨b2,3,none⟩=some (U g)):=by
  intro w' hk
  obtain ⟨_,_,d0,d1,d2,d3,f0,f1,f2,f3⟩:=hc.out.keep hk.bel
  exact ⟨hk,d0,d1,d2,d3,f0,f1,f2,f3⟩
 go_region_held3 (fun w'=>Kp w w' []∧w'.cell? ⟨b1,0,none⟩=some (U v')∧w'.cell? ⟨b1,1,none⟩=some (U m')∧w'.cell? ⟨b1,2,none⟩=some (U l')∧w'.cell? ⟨b1,3,none⟩=some (U g')∧w'.cell? ⟨b2,0,none⟩=some (U v)∧w'.cell? ⟨b2,1,none⟩=some (U m)∧w'.cell? ⟨b2,2,none⟩=some (U l)∧w'.cell? ⟨b2,3,none⟩=some (U g))
  ((refine HS.out _ ?_;repeat (first | refine Kp.other4 ?_ _ _ _ _ (by first | exact Nat.le_refl _ | omega) (by simp) | exact hS0 | refine Kp.keep ?_ (by assumption) | refine Kp.keep ?_ (Below.drew (Below.refl _ _)))))
  (first
   | (go_at_call 152;refine (zms _ _ _ _ _ _ _).mono ?_;rintro e wk ⟨rfl,hb⟩;first | (have hR2:=hR1.keep hb;obtain ⟨t0,t1,t2,t3,t4,t5,t6,t7,t8⟩:=hR2.box.head.four;obtain ⟨r0,r1,r2,r3,r4,r5,r6,r7,r8⟩:=hR2.box.tail.head.four) | (have hR1:=hR0.keep hb)))
 all_goals
  go_wp2_with fail
  refine bodyPost_ret (v:=.tuple #[Vl v m (bmax l l) (bmin g (bsub g' one)),Vl v' m' (bmax l' (badd l one)) (bmin g' g'),.bool true]) ?_ rfl ⟨rfl,?_⟩
  ·simp [results,Tryz.results153,go_sem,t0,t1,t2,t3,r0,r1,r2,r3]
  ·exact ((hR2.set4 1 rfl).set4 0 rfl).bel
set_option maxRecDepth 100000 in
set_option maxHeartbeats 4000000 in
theorem yaj2 {b1 b2:Nat} {v m l g v' m' l' g':BitVec 64} {w:World} {q:Bool} (hc:Hid (Cap w b1 b2 v m l g v' m' l' g')) (hq:Hid (q=(eqb l g&&(eqb l' g'&&eqb l l')))) :
  Calls Tryz.prog 146 #[PT b1,PT b2] w fun e w'=>e=.returned (.tuple #[Vl v m (woL l l' g') (woH l g l' g'),Vl v' m' (woL l' l g) (woH l' g' l g),.bool (!q)])∧Below w.heap.size w w':=by
 obtain ⟨s1,s2,a0,a1,a2,a3,c0,c1,c2,c3⟩:=hc.out
 obtain ⟨y1,Y1⟩:∃ b,Hid (eqb l g=b):=⟨_,rfl⟩
 obtain ⟨y2,Y2⟩:∃ b,Hid (eqb l' g'=b):=⟨_,rfl⟩
 obtain ⟨y3,Y3⟩:∃ b,eqb l l'=b:=⟨_,rfl⟩
 rw [Y1.out,Y2.out,Y3] at hq
 have hK0:=((Kp.start w).add4 (.int .u64 0) (.int .u64 0) (.int .u64 0) (.int .u64 0) 49).add4 (.int .u64 0) (.int .u64 0) (.int .u64 0) (.int .u64 0) 49
 simp only [World.size_alloc] at hK0
 go_enter Tryz.func146,Tryz.ntmps146
 go_upto_region 1 with fail
 go_cut [5] (fun u wc=>u=.bool q∧Kp w wc [(w.heap.size+1,[.int .u64 0,.int .u64 0,.int .u64 0,.int .u64 0]),(w.heap.size,[.int .u64 0,.int .u64 0,.int .u64 0,.int .u64 0])])
 case first =>
  go_wp2_with fail
  refine (zd8 Y1.out _).mono ?_
  rintro e w1 ⟨rfl,hb1⟩
  have hK1:=hK0.keep hb1
  clear s1 s2 a0 a1 a2 a3 c0 c1 c2 c3
  obtain ⟨s1,s2,a0,a1,a2,a3,c0,c1,c2,c3⟩:=hc.out.keep hK1.bel
  cases y1
  ·go_wp2_with fail
   go_meet
   case rel=>exact ⟨by rw [hq.out];rfl,hK1⟩
  ·go_wp2_with fail
   refine (zd8 Y2.out _).mono ?_
   rintro e w2 ⟨rfl,hb2⟩
   have hK2:=hK1.keep hb2
   clear s1 s2 a0 a1 a2 a3 c0 c1 c2 c3
   obtain ⟨s1,s2,a0,a1,a2,a3,c0,c1,c2,c3⟩:=hc.out.keep hK2.bel
   cases y2
   ·go_wp2_with fail
    go_meet
    case rel=>exact ⟨by rw [hq.out];rfl,hK2⟩
   ·cases y3
    all_goals
     go_wp2_with fail
     go_meet
     case rel=>exact ⟨by rw [hq.out];rfl,hK2⟩
 case rest =>
  clear hK0 hq Y1 Y2 Y3 s1 s2 a0 a1 a2 a3 c0 c1 c2 c3
  obtain ⟨rfl,hK0⟩:=hcut
  obtain ⟨s1,s2,a0,a1,a2,a3,c0,c1,c2,c3⟩:=hc.out.keep hK0.bel
  go_wp2_with fail
  have hS0:Kp w _ []:=(hK0).drop'.drop'.keep (Below.drew (Below.refl _ _))
  have hR0:=(hK0).keep (Below.drew (Below.refl _ _))
  have HS:Hid (∀ w',Kp w w' []→Kp w w' []∧w'.cell? ⟨b1,0,none⟩=some (U v)∧w'.cell? ⟨b1,1,none⟩=some (U m)∧w'.cell? ⟨b1,2,none⟩=some (U l)∧w'.cell? ⟨b1,3,none⟩=some (U g)∧w'.cell? ⟨b2,0,none⟩=some (U v')∧w'.cell? ⟨b2,1,none⟩=some (U m')∧w'.cell? ⟨b2,2,none⟩=some (U l')∧w'.cell? ⟨b2,3,none⟩=some (U g')):=by
   intro w' hk
   obtain ⟨_,_,d0,d1,d2,d3,f0,f1,f2,f3⟩:=hc.out.keep hk.bel
   exact ⟨hk,d0,d1,d2,d3,f0,f1,f2,f3⟩
  go_region_held3 (fun w'=>Kp w w' []∧w'.cell? ⟨b1,0,none⟩=some (U v)∧w'.cell? ⟨b1,1,none⟩=some (U m)∧w'.cell? ⟨b1,2,none⟩=some (U l)∧w'.cell? ⟨b1,3,none⟩=some (U g)∧w'.cell? ⟨b2,0,none⟩=some (U v')∧w'.cell? ⟨b2,1,none⟩=some (U m')∧w'.cell? ⟨b2,2,none⟩=some (U l')∧w'.cell? ⟨b2,3,none⟩=some (U g'))
   ((refine HS.out _ ?_;repeat (first | refine Kp.other4 ?_ _ _ _ _ (by first | exact Nat.le_refl _ | omega) (by simp) | exact hS0 | refine Kp.keep ?_ (by assumption) | refine Kp.keep ?_ (Below.drew (Below.refl _ _)))))
   (first
    | (go_at_call 148;refine (yae7 _ _ _ _ _ _ _ _ _).mono ?_;rintro e wk ⟨rfl,hb⟩;first | (have hR2:=hR1.keep hb;obtain ⟨t0,t1,t2,t3,t4,t5,t6,t7,t8⟩:=hR2.box.head.four;obtain ⟨r0,r1,r2,r3,r4,r5,r6,r7,r8⟩:=hR2.box.tail.head.four) | (have hR1:=hR0.keep hb)))
  all_goals
   go_wp2_with fail
   refine bodyPost_ret (v:=.tuple #[Vl v m (woL l l' g') (woH l g l' g'),Vl v' m' (woL l' l g) (woH l' g' l g),.bool (!q)]) ?_ rfl ⟨rfl,?_⟩
   ·simp [results,Tryz.results146,go_sem,t0,t1,t2,t3,r0,r1,r2,r3]
   ·exact ((hR2.set4 1 rfl).set4 0 rfl).bel
end
section
attribute [local go_sem] zc9 w_or zdf za3 zbx zbc zda zcy zdb zbw zb4 zc3 zby zdc zcn zcz zb1 zb3 zb2 zb0 za1
set_option maxRecDepth 100000 in
set_option maxHeartbeats 4000000 in
theorem zgv {v m l g v' m' l' g' a b c d a' b' c' d' x y z t x' y' z' t':BitVec 64} {may i1 i2:Bool} {e1 e2:Int} (hr:Hid ((valB v m l g&&valB v' m' l' g')=true)) (w:World)
  (HR:Hid (∀ (B:Nat) w',Cap w' B (B+1) v m l g v' m' l' g'→Calls Tryz.prog 149 #[PT B,PT (B+1)] w' fun e w''=>e=.returned (.tuple #[Vl a b c d,Vl a' b' c' d',.bool may])∧Below w'.heap.size w' w''))
  (N1:Hid (∀ w,Calls Tryz.prog 156 #[Vl a b c d] w fun e w'=>e=.returned (.tuple #[Vl x y z t,.bool i1,N e1])∧Below w.heap.size w w'))
  (N2:Hid (∀ w,Calls Tryz.prog 156 #[Vl a' b' c' d'] w fun e w'=>e=.returned (.tuple #[Vl x' y' z' t',.bool i2,N e2])∧Below w.heap.size w w')) :
  Calls Tryz.prog 104 #[Vl v m l g,Vl v' m' l' g'] w fun e w'=>e=.returned (.tuple #[lv (may&&(i1&&i2)) (Vl x y z t),lv (may&&(i1&&i2)) (Vl x' y' z' t'),.bool (may&&(i1&&i2)),N 0])∧Below w.heap.size w w':=by
 have hK0:=((((Kp.start w).add4 (U v) (U m) (U l) (U g) 49).add4 (U v') (U m') (U l') (U g') 49).add4 (.int .u64 0) (.int .u64 0) (.int .u64 0) (.int .u64 0) 49).add4 (.int .u64 0) (.int .u64 0) (.int .u64 0) (.int .u64 0) 49
 simp only [World.size_alloc] at hK0
 have HC:Hid (∀ w',Below ((((w.alloc (.cells #[U v,U m,U l,U g] 49)).alloc (.cells #[U v',U m',U l',U g'] 49)).alloc (.cells #[.int .u64 0,.int .u64 0,.int .u64 0,.int .u64 0] 49)).alloc (.cells #[.int .u64 0,.int .u64 0,.int .u64 0,.int .u64 0] 49)).heap.size ((((w.alloc (.cells #[U v,U m,U l,U g] 49)).alloc (.cells #[U v',U m',U l',U g'] 49)).alloc (.cells #[.int .u64 0,.int .u64 0,.int .u64 0,.int .u64 0] 49)).alloc (.cells #[.int .u64 0,.int .u64 0,.int .u64 0,.int .u64 0] 49)) w'→Cap w' w.heap.size (w.heap.size+1) v m l g v' m' l' g'):=by
  intro w' hb
  have hk:=hK0.keep hb
  obtain ⟨b0,b1,b2,b3,_,_,_,_,b8⟩:=hk.box.tail.tail.head.four
  obtain ⟨a0,a1,a2,a3,_,_,_,_,a8⟩:=hk.box.tail.tail.tail.head.four
  exact ⟨a8,b8,a0,a1,a2,a3,b0,b1,b2,b3⟩
 obtain ⟨q,hq⟩:∃ q,Hid (q=(may&&(i1&&i2))):=⟨_,rfl⟩
 have HL:Hid (Calls Tryz.prog 145 #[Vl v m l g,Vl v' m' l' g',.func (.func 149) #[] #[PT w.heap.size,PT (w.heap.size+1)]] ((((w.alloc (.cells #[U v,U m,U l,U g] 49)).alloc (.cells #[U v',U m',U l',U g'] 49)).alloc (.cells #[.int .u64 0,.int .u64 0,.int .u64 0,.int .u64 0] 49)).alloc (.cells #[.int .u64 0,.int .u64 0,.int .u64 0,.int .u64 0] 49)) fun e w'=>e=.returned (.tuple #[lv q (Vl x y z t),lv q (Vl x' y' z' t'),.bool q,N 0])∧Below ((((w.alloc (.cells #[U v,U m,U l,U g] 49)).alloc (.cells #[U v',U m',U l',U g'] 49)).alloc (.cells #[.int .u64 0,.int .u64 0,.int .u64 0,.int .u64 0] 49)).alloc (.cells #[.int .u64 0,.int .u64 0,.int .u64 0,.int .u64 0] 49)).heap.size ((((w.alloc (.cells #[U v,U m,U l,U g] 49)).alloc (.cells #[U v',U m',U l',U g'] 49)).alloc (.cells #[.int .u64 0,.int .u64 0,.int .u64 0,.int .u64 0] 49)).alloc (.cells #[.int .u64 0,.int .u64 0,.int .u64 0,.int .u64 0] 49)) w'):=by
  show Calls _ _ _ _ _
  rw [hq.out]
  exact zzg hr _ (hid (fun w' hb=>HR.out w.heap.size w' (HC.out w' hb))) N1 N2
 rw [← hq.out]
 clear hq N1 N2 HR HC hr
 go_enter Tryz.func104,Tryz.ntmps104
 go_wp2_with fail
 refine HL.out.mono ?_
 rintro e w1 ⟨rfl,hb1⟩
 have hK:=hK0.keep hb1
 clear HL
 obtain ⟨s0,s1,s2,s3,s4,s5,s6,s7,s8⟩:=hK.box.head.four
 obtain ⟨r0,r1,r2,r3,r4,r5,r6,r7,r8⟩:=hK.box.tail.head.four
 obtain ⟨b0,b1,b2,b3,b4,b5,b6,b7,b8⟩:=hK.box.tail.tail.head.four
 obtain ⟨a0,a1,a2,a3,a4,a5,a6,a7,a8⟩:=hK.box.tail.tail.tail.head.four
 cases q
 ·have e0:∀ a,lv false a=V0:=fun a=>rfl
  simp only [e0]
  go_wp2_with fail
  exact bodyPost_ret (v:=.tuple #[V0,V0,.bool false,N 0]) (by simp [results,Tryz.results104,go_sem,s0,s1,s2,s3,r0,r1,r2,r3]) rfl ⟨rfl,((hK.set4 1 rfl).set4 0 rfl).bel⟩
 ·have e0:∀ a,lv true a=a:=fun a=>rfl
  simp only [e0]
  go_wp2_with fail
  exact bodyPost_ret (v:=.tuple #[Vl x y z t,Vl x' y' z' t',.bool true,N 0]) (by simp [results,Tryz.results104,go_sem,s0,s1,s2,s3,r0,r1,r2,r3]) rfl ⟨rfl,((hK.set4 1 rfl).set4 0 rfl).bel⟩
set_option maxRecDepth 100000 in
set_option maxHeartbeats 4000000 in
theorem zmo {v m l g v' m' l' g' a b c d a' b' c' d' x y z t x' y' z' t':BitVec 64} {may i1 i2:Bool} {e1 e2:Int} (hr:Hid ((valB v m l g&&valB v' m' l' g')=true)) (w:World)
  (HR:Hid (∀ (B:Nat) w',Cap w' B (B+1) v m l g v' m' l' g'→Calls Tryz.prog 146 #[PT B,PT (B+1)] w' fun e w''=>e=.returned (.tuple #[Vl a b c d,Vl a' b' c' d',.bool may])∧Below w'.heap.size w' w''))
  (N1:Hid (∀ w,Calls Tryz.prog 156 #[Vl a b c d] w fun e w'=>e=.returned (.tuple #[Vl x y z t,.bool i1,N e1])∧Below w.heap.size w w'))
  (N2:Hid (∀ w,Calls Tryz.prog 156 #[Vl a' b' c' d'] w fun e w'=>e=.returned (.tuple #[Vl x' y' z' t',.bool i2,N e2])∧Below w.heap.size w w')) :
  Calls Tryz.prog 103 #[Vl v m l g,Vl v' m' l' g'] w fun e w'=>e=.returned (.tuple #[lv (may&&(i1&&i2)) (Vl x y z t),lv (may&&(i1&&i2)) (Vl x' y' z' t'),.bool (may&&(i1&&i2)),N 0])∧Below w.heap.size w w':=by
 have hK0:=((((Kp.start w).add4 (U v) (U m) (U l) (U g) 49).add4 (U v') (U m') (U l') (U g') 49).add4 (.int .u64 0) (.int .u64 0) (.int .u64 0) (.int .u64 0) 49).add4 (.int .u64 0) (.int .u64 0) (.int .u64 0) (.int .u64 0) 49
 simp only [World.size_alloc] at hK0
 have HC:Hid (∀ w',Below ((((w.alloc (.cells #[U v,U m,U l,U g] 49)).alloc (.cells #[U v',U m',U l',U g'] 49)).alloc (.cells #[.int .u64 0,.int .u64 0,.int .u64 0,.int .u64 0] 49)).alloc (.cells #[.int .u64 0,.int .u64 0,.int .u64 0,.int .u64 0] 49)).heap.size ((((w.alloc (.cells #[U v,U m,U l,U g] 49)).alloc (.cells #[U v',U m',U l',U g'] 49)).alloc (.cells #[.int .u64 0,.int .u64 0,.int .u64 0,.int .u64 0] 49)).alloc (.cells #[.int .u64 0,.int .u64 0,.int .u64 0,.int .u64 0] 49)) w'→Cap w' w.heap.size (w.heap.size+1) v m l g v' m' l' g'):=by
  intro w' hb
  have hk:=hK0.keep hb
  obtain ⟨b0,b1,b2,b3,_,_,_,_,b8⟩:=hk.box.tail.tail.head.four
  obtain ⟨a0,a1,a2,a3,_,_,_,_,a8⟩:=hk.box.tail.tail.tail.head.four
  exact ⟨a8,b8,a0,a1,a2,a3,b0,b1,b2,b3⟩
 obtain ⟨q,hq⟩:∃ q,Hid (q=(may&&(i1&&i2))):=⟨_,rfl⟩
 have HL:Hid (Calls Tryz.prog 145 #[Vl v m l g,Vl v' m' l' g',.func (.func 146) #[] #[PT w.heap.size,PT (w.heap.size+1)]] ((((w.alloc (.cells #[U v,U m,U l,U g] 49)).alloc (.cells #[U v',U m',U l',U g'] 49)).alloc (.cells #[.int .u64 0,.int .u64 0,.int .u64 0,.int .u64 0] 49)).alloc (.cells #[.int .u64 0,.int .u64 0,.int .u64 0,.int .u64 0] 49)) fun e w'=>e=.returned (.tuple #[lv q (Vl x y z t),lv q (Vl x' y' z' t'),.bool q,N 0])∧Below ((((w.alloc (.cells #[U v,U m,U l,U g] 49)).alloc (.cells #[U v',U m',U l',U g'] 49)).alloc (.cells #[.int .u64 0,.int .u64 0,.int .u64 0,.int .u64 0] 49)).alloc (.cells #[.int .u64 0,.int .u64 0,.int .u64 0,.int .u64 0] 49)).heap.size ((((w.alloc (.cells #[U v,U m,U l,U g] 49)).alloc (.cells #[U v',U m',U l',U g'] 49)).alloc (.cells #[.int .u64 0,.int .u64 0,.int .u64 0,.int .u64 0] 49)).alloc (.cells #[.int .u64 0,.int .u64 0,.int .u64 0,.int .u64 0] 49)) w'):=by
  show Calls _ _ _ _ _
  rw [hq.out]
  exact zy3 hr _ (hid (fun w' hb=>HR.out w.heap.size w' (HC.out w' hb))) N1 N2
 rw [← hq.out]
 clear hq N1 N2 HR HC hr
 go_enter Tryz.func103,Tryz.ntmps103
 go_wp2_with fail
 refine HL.out.mono ?_
 rintro e w1 ⟨rfl,hb1⟩
 have hK:=hK0.keep hb1
 clear HL
 obtain ⟨s0,s1,s2,s3,s4,s5,s6,s7,s8⟩:=hK.box.head.four
 obtain ⟨r0,r1,r2,r3,r4,r5,r6,r7,r8⟩:=hK.box.tail.head.four
 obtain ⟨b0,b1,b2,b3,b4,b5,b6,b7,b8⟩:=hK.box.tail.tail.head.four
 obtain ⟨a0,a1,a2,a3,a4,a5,a6,a7,a8⟩:=hK.box.tail.tail.tail.head.four
 cases q
 ·have e0:∀ a,lv false a=V0:=fun a=>rfl
  simp only [e0]
  go_wp2_with fail
  exact bodyPost_ret (v:=.tuple #[V0,V0,.bool false,N 0]) (by simp [results,Tryz.results103,go_sem,s0,s1,s2,s3,r0,r1,r2,r3]) rfl ⟨rfl,((hK.set4 1 rfl).set4 0 rfl).bel⟩
 ·have e0:∀ a,lv true a=a:=fun a=>rfl
  simp only [e0]
  go_wp2_with fail
  exact bodyPost_ret (v:=.tuple #[Vl x y z t,Vl x' y' z' t',.bool true,N 0]) (by simp [results,Tryz.results103,go_sem,s0,s1,s2,s3,r0,r1,r2,r3]) rfl ⟨rfl,((hK.set4 1 rfl).set4 0 rfl).bel⟩
set_option maxRecDepth 100000 in
set_option maxHeartbeats 4000000 in
theorem zh4 {v m l g v' m' l' g' a b c d a' b' c' d' x y z t x' y' z' t':BitVec 64} {may i1 i2:Bool} {e1 e2:Int} (hr:Hid ((valB v m l g&&valB v' m' l' g')=true)) (w:World)
  (HR:Hid (∀ (B:Nat) w',Cap w' (B+1) B v' m' l' g' v m l g→Calls Tryz.prog 153 #[PT (B+1),PT B] w' fun e w''=>e=.returned (.tuple #[Vl a b c d,Vl a' b' c' d',.bool may])∧Below w'.heap.size w' w''))
  (N1:Hid (∀ w,Calls Tryz.prog 156 #[Vl a b c d] w fun e w'=>e=.returned (.tuple #[Vl x y z t,.bool i1,N e1])∧Below w.heap.size w w'))
  (N2:Hid (∀ w,Calls Tryz.prog 156 #[Vl a' b' c' d'] w fun e w'=>e=.returned (.tuple #[Vl x' y' z' t',.bool i2,N e2])∧Below w.heap.size w w')) :
  Calls Tryz.prog 106 #[Vl v m l g,Vl v' m' l' g'] w fun e w'=>e=.returned (.tuple #[lv (may&&(i1&&i2)) (Vl x y z t),lv (may&&(i1&&i2)) (Vl x' y' z' t'),.bool (may&&(i1&&i2)),N 0])∧Below w.heap.size w w':=by
 have hK0:=((((Kp.start w).add4 (U v) (U m) (U l) (U g) 49).add4 (U v') (U m') (U l') (U g') 49).add4 (.int .u64 0) (.int .u64 0) (.int .u64 0) (.int .u64 0) 49).add4 (.int .u64 0) (.int .u64 0) (.int .u64 0) (.int .u64 0) 49
 simp only [World.size_alloc] at hK0
 have HC:Hid (∀ w',Below ((((w.alloc (.cells #[U v,U m,U l,U g] 49)).alloc (.cells #[U v',U m',U l',U g'] 49)).alloc (.cells #[.int .u64 0,.int .u64 0,.int .u64 0,.int .u64 0] 49)).alloc (.cells #[.int .u64 0,.int .u64 0,.int .u64 0,.int .u64 0] 49)).heap.size ((((w.alloc (.cells #[U v,U m,U l,U g] 49)).alloc (.cells #[U v',U m',U l',U g'] 49)).alloc (.cells #[.int .u64 0,.int .u64 0,.int .u64 0,.int .u64 0] 49)).alloc (.cells #[.int .u64 0,.int .u64 0,.int .u64 0,.int .u64 0] 49)) w'→Cap w' (w.heap.size+1) w.heap.size v' m' l' g' v m l g):=by
  intro w' hb
  have hk:=hK0.keep hb
  obtain ⟨b0,b1,b2,b3,_,_,_,_,b8⟩:=hk.box.tail.tail.head.four
  obtain ⟨a0,a1,a2,a3,_,_,_,_,a8⟩:=hk.box.tail.tail.tail.head.four
  exact ⟨b8,a8,b0,b1,b2,b3,a0,a1,a2,a3⟩
 obtain ⟨q,hq⟩:∃ q,Hid (q=(may&&(i1&&i2))):=⟨_,rfl⟩
 have HL:Hid (Calls Tryz.prog 145 #[Vl v m l g,Vl v' m' l' g',.func (.func 153) #[] #[PT (w.heap.size+1),PT w.heap.size]] ((((w.alloc (.cells #[U v,U m,U l,U g] 49)).alloc (.cells #[U v',U m',U l',U g'] 49)).alloc (.cells #[.int .u64 0,.int .u64 0,.int .u64 0,.int .u64 0] 49)).alloc (.cells #[.int .u64 0,.int .u64 0,.int .u64 0,.int .u64 0] 49)) fun e w'=>e=.returned (.tuple #[lv q (Vl x y z t),lv q (Vl x' y' z' t'),.bool q,N 0])∧Below ((((w.alloc (.cells #[U v,U m,U l,U g] 49)).alloc (.cells #[U v',U m',U l',U g'] 49)).alloc (.cells #[.int .u64 0,.int .u64 0,.int .u64 0,.int .u64 0] 49)).alloc (.cells #[.int .u64 0,.int .u64 0,.int .u64 0,.int .u64 0] 49)).heap.size ((((w.alloc (.cells #[U v,U m,U l,U g] 49)).alloc (.cells #[U v',U m',U l',U g'] 49)).alloc (.cells #[.int .u64 0,.int .u64 0,.int .u64 0,.int .u64 0] 49)).alloc (.cells #[.int .u64 0,.int .u64 0,.int .u64 0,.int .u64 0] 49)) w'):=by
  show Calls _ _ _ _ _
  rw [hq.out]
  exact yafe hr _ (hid (fun w' hb=>HR.out w.heap.size w' (HC.out w' hb))) N1 N2
 rw [← hq.out]
 clear hq N1 N2 HR HC hr
 go_enter Tryz.func106,Tryz.ntmps106
 go_wp2_with fail
 refine HL.out.mono ?_
 rintro e w1 ⟨rfl,hb1⟩
 have hK:=hK0.keep hb1
 clear HL
 obtain ⟨s0,s1,s2,s3,s4,s5,s6,s7,s8⟩:=hK.box.head.four
 obtain ⟨r0,r1,r2,r3,r4,r5,r6,r7,r8⟩:=hK.box.tail.head.four
 obtain ⟨b0,b1,b2,b3,b4,b5,b6,b7,b8⟩:=hK.box.tail.tail.head.four
 obtain ⟨a0,a1,a2,a3,a4,a5,a6,a7,a8⟩:=hK.box.tail.tail.tail.head.four
 cases q
 ·have e0:∀ a,lv false a=V0:=fun a=>rfl
  simp only [e0]
  go_wp2_with fail
  exact bodyPost_ret (v:=.tuple #[V0,V0,.bool false,N 0]) (by simp [results,Tryz.results106,go_sem,s0,s1,s2,s3,r0,r1,r2,r3]) rfl ⟨rfl,((hK.set4 1 rfl).set4 0 rfl).bel⟩
 ·have e0:∀ a,lv true a=a:=fun a=>rfl
  simp only [e0]
  go_wp2_with fail
  exact bodyPost_ret (v:=.tuple #[Vl x y z t,Vl x' y' z' t',.bool true,N 0]) (by simp [results,Tryz.results106,go_sem,s0,s1,s2,s3,r0,r1,r2,r3]) rfl ⟨rfl,((hK.set4 1 rfl).set4 0 rfl).bel⟩
set_option maxRecDepth 100000 in
set_option maxHeartbeats 4000000 in
theorem zkd {v m l g v' m' l' g' a b c d a' b' c' d' x y z t x' y' z' t':BitVec 64} {may i1 i2:Bool} {e1 e2:Int} (hr:Hid ((valB v m l g&&valB v' m' l' g')=true)) (w:World)
  (HR:Hid (∀ (B:Nat) w',Cap w' B (B+1) v m l g v' m' l' g'→Calls Tryz.prog 151 #[PT B,PT (B+1)] w' fun e w''=>e=.returned (.tuple #[Vl a b c d,Vl a' b' c' d',.bool may])∧Below w'.heap.size w' w''))
  (N1:Hid (∀ w,Calls Tryz.prog 156 #[Vl a b c d] w fun e w'=>e=.returned (.tuple #[Vl x y z t,.bool i1,N e1])∧Below w.heap.size w w'))
  (N2:Hid (∀ w,Calls Tryz.prog 156 #[Vl a' b' c' d'] w fun e w'=>e=.returned (.tuple #[Vl x' y' z' t',.bool i2,N e2])∧Below w.heap.size w w')) :
  Calls Tryz.prog 105 #[Vl v m l g,Vl v' m' l' g'] w fun e w'=>e=.returned (.tuple #[lv (may&&(i1&&i2)) (Vl x y z t),lv (may&&(i1&&i2)) (Vl x' y' z' t'),.bool (may&&(i1&&i2)),N 0])∧Below w.heap.size w w':=by
 have hK0:=((((Kp.start w).add4 (U v) (U m) (U l) (U g) 49).add4 (U v') (U m') (U l') (U g') 49).add4 (.int .u64 0) (.int .u64 0) (.int .u64 0) (.int .u64 0) 49).add4 (.int .u64 0) (.int .u64 0) (.int .u64 0) (.int .u64 0) 49
 simp only [World.size_alloc] at hK0
 have HC:Hid (∀ w',Below ((((w.alloc (.cells #[U v,U m,U l,U g] 49)).alloc (.cells #[U v',U m',U l',U g'] 49)).alloc (.cells #[.int .u64 0,.int .u64 0,.int .u64 0,.int .u64 0] 49)).alloc (.cells #[.int .u64 0,.int .u64 0,.int .u64 0,.int .u64 0] 49)).heap.size ((((w.alloc (.cells #[U v,U m,U l,U g] 49)).alloc (.cells #[U v',U m',U l',U g'] 49)).alloc (.cells #[.int .u64 0,.int .u64 0,.int .u64 0,.int .u64 0] 49)).alloc (.cells #[.int .u64 0,.int .u64 0,.int .u64 0,.int .u64 0] 49)) w'→Cap w' w.heap.size (w.heap.size+1) v m l g v' m' l' g'):=by
  intro w' hb
  have hk:=hK0.keep hb
  obtain ⟨b0,b1,b2,b3,_,_,_,_,b8⟩:=hk.box.tail.tail.head.four
  obtain ⟨a0,a1,a2,a3,_,_,_,_,a8⟩:=hk.box.tail.tail.tail.head.four
  exact ⟨a8,b8,a0,a1,a2,a3,b0,b1,b2,b3⟩
 obtain ⟨q,hq⟩:∃ q,Hid (q=(may&&(i1&&i2))):=⟨_,rfl⟩
 have HL:Hid (Calls Tryz.prog 145 #[Vl v m l g,Vl v' m' l' g',.func (.func 151) #[] #[PT w.heap.size,PT (w.heap.size+1)]] ((((w.alloc (.cells #[U v,U m,U l,U g] 49)).alloc (.cells #[U v',U m',U l',U g'] 49)).alloc (.cells #[.int .u64 0,.int .u64 0,.int .u64 0,.int .u64 0] 49)).alloc (.cells #[.int .u64 0,.int .u64 0,.int .u64 0,.int .u64 0] 49)) fun e w'=>e=.returned (.tuple #[lv q (Vl x y z t),lv q (Vl x' y' z' t'),.bool q,N 0])∧Below ((((w.alloc (.cells #[U v,U m,U l,U g] 49)).alloc (.cells #[U v',U m',U l',U g'] 49)).alloc (.cells #[.int .u64 0,.int .u64 0,.int .u64 0,.int .u64 0] 49)).alloc (.cells #[.int .u64 0,.int .u64 0,.int .u64 0,.int .u64 0] 49)).heap.size ((((w.alloc (.cells #[U v,U m,U l,U g] 49)).alloc (.cells #[U v',U m',U l',U g'] 49)).alloc (.cells #[.int .u64 0,.int .u64 0,.int .u64 0,.int .u64 0] 49)).alloc (.cells #[.int .u64 0,.int .u64 0,.int .u64 0,.int .u64 0] 49)) w'):=by
  show Calls _ _ _ _ _
  rw [hq.out]
  exact zsc hr _ (hid (fun w' hb=>HR.out w.heap.size w' (HC.out w' hb))) N1 N2
 rw [← hq.out]
 clear hq N1 N2 HR HC hr
 go_enter Tryz.func105,Tryz.ntmps105
 go_wp2_with fail
 refine HL.out.mono ?_
 rintro e w1 ⟨rfl,hb1⟩
 have hK:=hK0.keep hb1
 clear HL
 obtain ⟨s0,s1,s2,s3,s4,s5,s6,s7,s8⟩:=hK.box.head.four
 obtain ⟨r0,r1,r2,r3,r4,r5,r6,r7,r8⟩:=hK.box.tail.head.four
 obtain ⟨b0,b1,b2,b3,b4,b5,b6,b7,b8⟩:=hK.box.tail.tail.head.four
 obtain ⟨a0,a1,a2,a3,a4,a5,a6,a7,a8⟩:=hK.box.tail.tail.tail.head.four
 cases q
 ·have e0:∀ a,lv false a=V0:=fun a=>rfl
  simp only [e0]
  go_wp2_with fail
  exact bodyPost_ret (v:=.tuple #[V0,V0,.bool false,N 0]) (by simp [results,Tryz.results105,go_sem,s0,s1,s2,s3,r0,r1,r2,r3]) rfl ⟨rfl,((hK.set4 1 rfl).set4 0 rfl).bel⟩
 ·have e0:∀ a,lv true a=a:=fun a=>rfl
  simp only [e0]
  go_wp2_with fail
  exact bodyPost_ret (v:=.tuple #[Vl x y z t,Vl x' y' z' t',.bool true,N 0]) (by simp [results,Tryz.results105,go_sem,s0,s1,s2,s3,r0,r1,r2,r3]) rfl ⟨rfl,((hK.set4 1 rfl).set4 0 rfl).bel⟩
end
section
attribute [local go_sem] zc9 w_or zdf za3 zbx zbc zda zcy zdb zbw zb4 zc3 zby zdc zcn zcz zb1 zb3 zb2 zb0 za1
def bi (b:Bool):Int:=if b then 1 else 0
def bo (op:Int) (x y c:Bool):Bool×Bool :=
 if op=2 then ((x ^^ y) ^^ c,(x&&y)||(c&&(x||y)))
 else if op=3 then ((x ^^ y) ^^ c,(!x&&y)||(c&&(!x||y)))
 else if op=5 then (x&&y,false)
 else if op=6 then (x||y,false)
 else (x ^^ y,false)
theorem yasc {op:Int} (h2:op≠2) (h3:op≠3) (h5:op≠5) (h6:op≠6) (x y c:Bool):bo op x y c=(x ^^ y,false):=by
 unfold bo;rw [if_neg h2,if_neg h3,if_neg h5,if_neg h6]
set_option maxHeartbeats 4000000 in
theorem yag1 (op:Int) (x y c:Bool) (w:World) :
  Calls Tryz.prog 189 #[N op,N (bi x),N (bi y),N (bi c)] w fun e w'=>e=.returned (.tuple #[N (bi (bo op x y c).1),N (bi (bo op x y c).2)])∧w=w':=by
 by_cases hop:op=2∨op=3∨op=5∨op=6
 ·generalize h1:bi (bo op x y c).1=r1
  generalize h2:bi (bo op x y c).2=r2
  have H1:Hid (bi (bo op x y c).1=r1):=h1
  have H2:Hid (bi (bo op x y c).2=r2):=h2
  clear h1 h2
  rcases hop with rfl | rfl | rfl | rfl <;> cases x <;> cases y <;> cases c
  all_goals
   simp only [bi,if_true,if_false,Bool.false_eq_true]
   go_enter Tryz.func189,Tryz.ntmps189
   go_wp2_with fail
   go_ret2
   rw [← H1.out,← H2.out]
   exact ⟨rfl,rfl⟩
 ·have h2:op≠2:=by omega
  have h3:op≠3:=by omega
  have h5:op≠5:=by omega
  have h6:op≠6:=by omega
  generalize g1:bi (bo op x y c).1=r1
  generalize g2:bi (bo op x y c).2=r2
  rw [yasc h2 h3 h5 h6] at g1 g2
  have H1:Hid (bi (x ^^ y)=r1):=g1
  have H2:Hid (bi false=r2):=g2
  clear g1 g2
  have e2:(op==2)=false:=by simpa using h2
  have e3:(op==3)=false:=by simpa using h3
  have e5:(op==5)=false:=by simpa using h5
  have e6:(op==6)=false:=by simpa using h6
  clear h2 h3 h5 h6 hop
  cases x <;> cases y <;> cases c
  all_goals
   simp only [bi,if_true,if_false,Bool.false_eq_true]
   go_enter Tryz.func189,Tryz.ntmps189
   go_wp2_with fail
   go_ret2
   rw [← H1.out,← H2.out]
   exact ⟨rfl,rfl⟩
end
theorem Kp.set1 {w0 w:World} {b i:Nat} {v u:Value} {vs:List Value} {L:List (Nat×List Value)} (k:Nat) (h:Kp w0 w L) (e:L[k]?=some (b,vs)) (hi:vs[i]?=some u) :
  Kp w0 (w.setCell ⟨b,i,none⟩ v) (L.set k (b,vs.set i v)):=by
 have hlo:w0.heap.size≤b:=h.lo _ (List.mem_of_getElem? e)
 refine ⟨h.bel.setCell hlo v,Boxes.setOne k h.box e hi,fun p hp=>?_⟩
 rcases List.mem_or_eq_of_mem_set hp with h1 | h1
 ·exact h.lo p h1
 ·rw [h1];exact hlo
def kx (k:Nat):Bool:=k % 2==1
def ky (k:Nat):Bool:=k / 2 % 2==1
def kc (k:Nat):Bool:=k / 4==1
def alw (z o u p c0 c1:Bool) (k:Nat):Bool:=(if kx k then o else z)&&(if ky k then p else u)&&(if kc k then c1 else c0)
def put1 (q:Bool×Bool) (b:Bool):Bool×Bool:=if b then (q.1,true) else (true,q.2)
def inn (op:Int) (z o u p c0 c1:Bool):Nat→(Bool×Bool)×(Bool×Bool)
 | 0=>((false,false),(false,false))
 | k+1=>if alw z o u p c0 c1 k then (put1 (inn op z o u p c0 c1 k).1 (bo op (kx k) (ky k) (kc k)).1,put1 (inn op z o u p c0 c1 k).2 (bo op (kx k) (ky k) (kc k)).2) else inn op z o u p c0 c1 k
theorem zcp {op:Int} {z o u p c0 c1:Bool} {k:Nat} {s:(Bool×Bool)×(Bool×Bool)} (h:inn op z o u p c0 c1 k=s) (ha:alw z o u p c0 c1 k=false):inn op z o u p c0 c1 (k+1)=s:=by
 simp only [inn];rw [if_neg (by rw [ha];decide),h]
theorem zgq {op:Int} {z o u p c0 c1:Bool} {k:Nat} {s:(Bool×Bool)×(Bool×Bool)} {b1 b2 x y c:Bool} (h:inn op z o u p c0 c1 k=s) (ha:alw z o u p c0 c1 k=true)
  (hx:kx k=x) (hy:ky k=y) (hc:kc k=c) (hb:bo op x y c=(b1,b2)):inn op z o u p c0 c1 (k+1)=(put1 s.1 b1,put1 s.2 b2):=by
 simp only [inn];rw [if_pos ha,h,hx,hy,hc,hb]
def twoC (op:Int) (av am bv bm:BitVec 64):Nat→Bool×Bool
 | 0=>(true,false)
 | i+1=>(inn op (mz av i) (mo av am i) (mz bv i) (mo bv bm i) (twoC op av am bv bm i).1 (twoC op av am bv bm i).2 8).2
def twoR (op:Int) (av am bv bm:BitVec 64) (i:Nat):Bool×Bool :=
 (inn op (mz av i) (mo av am i) (mz bv i) (mo bv bm i) (twoC op av am bv bm i).1 (twoC op av am bv bm i).2 8).1
def twoV (op:Int) (av am bv bm:BitVec 64) (k:Nat):BitVec 64:=acc (fun j=>(twoR op av am bv bm j).2&&!(twoR op av am bv bm j).1) k
def twoM (op:Int) (av am bv bm:BitVec 64) (k:Nat):BitVec 64:=acc (fun j=>(twoR op av am bv bm j).2&&(twoR op av am bv bm j).1) k
theorem yah8 (op:Int) (av am bv bm:BitVec 64) (k:Nat):putV (twoV op av am bv bm k) k (twoR op av am bv bm k).1 (twoR op av am bv bm k).2=twoV op av am bv bm (k+1):=zlv (fun j=>(twoR op av am bv bm j).1) (fun j=>(twoR op av am bv bm j).2) k
theorem yak0 (op:Int) (av am bv bm:BitVec 64) (k:Nat):putM (twoM op av am bv bm k) k (twoR op av am bv bm k).1 (twoR op av am bv bm k).2=twoM op av am bv bm (k+1):=zlq (fun j=>(twoR op av am bv bm j).1) (fun j=>(twoR op av am bv bm j).2) k
theorem ze5 {op:Int} {x y c b1 b2:Bool} (h:Hid (bo op x y c=(b1,b2))) (w:World) :
  Calls Tryz.prog 189 #[N op,N (bi x),N (bi y),N (bi c)] w fun e w'=>e=.returned (.tuple #[N (bi b1),N (bi b2)])∧w=w':=by
 have:=yag1 op x y c w
 rw [h.out] at this
 exact this
theorem zuk (op:Int) (x y c:Bool):∃ b1 b2,Hid (bo op x y c=(b1,b2)):=⟨_,_,rfl⟩
section
attribute [local go_sem] zc9 w_or zdf za3 zbx zbc zda zcy zdb zbw zb4 zc3 zby zdc zcn zcz zb1 zb3 zb2 zb0 za1
theorem ba0:bits .and .i64 0 1=0:=by decide
theorem ba1:bits .and .i64 1 1=1:=by decide
theorem ba2:bits .and .i64 2 1=0:=by decide
theorem ba3:bits .and .i64 3 1=1:=by decide
theorem ba4:bits .and .i64 4 1=0:=by decide
theorem ba5:bits .and .i64 5 1=1:=by decide
theorem ba6:bits .and .i64 6 1=0:=by decide
theorem ba7:bits .and .i64 7 1=1:=by decide
attribute [local go_sem] ba0 ba1 ba2 ba3 ba4 ba5 ba6 ba7
theorem bi_t:bi true=1:=rfl
theorem bi_f:bi false=0:=rfl
theorem yavb {k:Nat} (h:k<8):k=0∨k=1∨k=2∨k=3∨k=4∨k=5∨k=6∨k=7:=by omega
set_option maxRecDepth 100000 in
set_option maxHeartbeats 8000000 in
theorem zn8 (op:Int) (av am bv bm:BitVec 64) (w:World) :
  Calls Tryz.prog 165 #[N op,Bt av am,Bt bv bm] w fun e w'=>e=.returned (Bt (twoV op av am bv bm 64) (twoM op av am bv bm 64))∧Below w.heap.size w w':=by
 go_enter Tryz.func165,Tryz.ntmps165
 go_wp2_with fail
 have hK0:=(((((Kp.start w).add2 (U av) (U am) 47).add2 (U bv) (U bm) 47).add2 (.int .u64 0) (.int .u64 0) 47).add2 (.int .u64 0) (.int .u64 0) 47).add2 (.bool true) (.bool false) 209
 simp only [World.size_alloc] at hK0
 go_loopw [9] (fun t wr=>∃ (i:Nat) (c0 c1:Bool) (V M:BitVec 64),i≤64∧t=N i∧twoC op av am bv bm i=(c0,c1)∧twoV op av am bv bm i=V∧twoM op av am bv bm i=M
   ∧ Kp w wr [(w.heap.size+1+1+1+1,[.bool c0,.bool c1]),(w.heap.size+1+1+1,[U V,U M]),(w.heap.size+1+1,[.int .u64 0,.int .u64 0]),(w.heap.size+1,[U bv,U bm]),(w.heap.size,[U av,U am])]) (fun t _=>64 - (intOf t).toNat)
 case atStart=>exact ⟨0,true,false,zero,zero,by omega,rfl,rfl,rfl,rfl,hK0⟩
 case round =>
  clear hK0
  obtain ⟨i,c0,c1,V,M,hi,rfl,hC,hV,hM,hK⟩:=hrel
  have HC:Hid _:=hC
  have HV:Hid _:=hV
  have HM:Hid _:=hM
  clear hC hV hM
  by_cases hlt:i<64
  ·obtain ⟨z,o,H1,H2⟩:=zg0 av am i
   obtain ⟨u,p,H3,H4⟩:=zg0 bv bm i
   obtain ⟨R,hR⟩:∃ R,R=wr.heap.size:=⟨_,rfl⟩
   have hK1:=(hK.add2 (.bool false) (.bool false) 209).add2 (.bool false) (.bool false) 209
   simp only [World.size_alloc] at hK1
   rw [← hR] at hK1
   have hR':wr.heap.size=R:=hR.symm
   clear hR hK
   have hd:decide ((i:Int)<64)=true:=by simp;omega
   go_wp2_with fail
   clear hR'
   go_loopw [12] (fun t ws=>∃ (k:Nat) (r0 r1 v0 v1:Bool),k≤8∧t=N k∧inn op z o u p c0 c1 k=((r0,r1),(v0,v1))
     ∧ Kp w ws [(R+1,[.bool v0,.bool v1]),(R,[.bool r0,.bool r1]),(w.heap.size+1+1+1+1,[.bool c0,.bool c1]),(w.heap.size+1+1+1,[U V,U M]),(w.heap.size+1+1,[.int .u64 0,.int .u64 0]),(w.heap.size+1,[U bv,U bm]),(w.heap.size,[U av,U am])]) (fun t _=>8 - (intOf t).toNat)
   case atStart=>exact ⟨0,false,false,false,false,by omega,rfl,rfl,hK1⟩
   case round =>
    clear hK1
    obtain ⟨k,r0,r1,v0,v1,hk,rfl,hs,hK⟩:=hrel
    have Hs:Hid _:=hs
    clear hs
    obtain ⟨vv0,vv1,vv2,vv3,vv4⟩:=hK.box.head.two
    obtain ⟨rr0,rr1,rr2,rr3,rr4⟩:=hK.box.tail.head.two
    obtain ⟨cc0,cc1,cc2,cc3,cc4⟩:=hK.box.tail.tail.head.two
    obtain ⟨oo0,oo1,oo2,oo3,oo4⟩:=hK.box.tail.tail.tail.head.two
    obtain ⟨b0,b1,b2,b3,b4⟩:=hK.box.tail.tail.tail.tail.tail.head.two
    obtain ⟨a0,a1,a2,a3,a4⟩:=hK.box.tail.tail.tail.tail.tail.tail.head.two
    by_cases hk8:k<8
    ·rcases yavb hk8 with rfl | rfl | rfl | rfl | rfl | rfl | rfl | rfl
     ·as_aux_lemma =>
      obtain ⟨q1,q2,Hb⟩:=zuk op false false false
      go_wp2_with fail
      refine (zbj hlt H1 H2 _).mono ?_
      rintro e w1 ⟨rfl,hb1⟩
      have hK1:=hK.keep hb1
      clear vv0 vv1 vv2 vv3 vv4 rr0 rr1 rr2 rr3 rr4 cc0 cc1 cc2 cc3 cc4 oo0 oo1 oo2 oo3 oo4 b0 b1 b2 b3 b4 a0 a1 a2 a3 a4
      obtain ⟨vv0,vv1,vv2,vv3,vv4⟩:=hK1.box.head.two
      obtain ⟨rr0,rr1,rr2,rr3,rr4⟩:=hK1.box.tail.head.two
      obtain ⟨cc0,cc1,cc2,cc3,cc4⟩:=hK1.box.tail.tail.head.two
      obtain ⟨oo0,oo1,oo2,oo3,oo4⟩:=hK1.box.tail.tail.tail.head.two
      obtain ⟨b0,b1,b2,b3,b4⟩:=hK1.box.tail.tail.tail.tail.tail.head.two
      obtain ⟨a0,a1,a2,a3,a4⟩:=hK1.box.tail.tail.tail.tail.tail.tail.head.two
      go_wp2_with fail
      refine (zbj hlt H3 H4 _).mono ?_
      rintro e w2 ⟨rfl,hb2⟩
      have hK2:=hK1.keep hb2
      clear vv0 vv1 vv2 vv3 vv4 rr0 rr1 rr2 rr3 rr4 cc0 cc1 cc2 cc3 cc4 oo0 oo1 oo2 oo3 oo4 b0 b1 b2 b3 b4 a0 a1 a2 a3 a4
      obtain ⟨vv0,vv1,vv2,vv3,vv4⟩:=hK2.box.head.two
      obtain ⟨rr0,rr1,rr2,rr3,rr4⟩:=hK2.box.tail.head.two
      obtain ⟨cc0,cc1,cc2,cc3,cc4⟩:=hK2.box.tail.tail.head.two
      obtain ⟨oo0,oo1,oo2,oo3,oo4⟩:=hK2.box.tail.tail.tail.head.two
      obtain ⟨b0,b1,b2,b3,b4⟩:=hK2.box.tail.tail.tail.tail.tail.head.two
      obtain ⟨a0,a1,a2,a3,a4⟩:=hK2.box.tail.tail.tail.tail.tail.tail.head.two
      clear hb1 hb2 hK1 hK H1 H2 H3 H4
      cases z
      ·as_aux_lemma =>
        go_wp2_with fail
        go_roundw
        case rel=>exact ⟨0+1,r0,r1,v0,v1,by omega,rfl,zcp Hs.out rfl,hK2⟩
        case measure=>simp [intOf]
      ·cases u
       ·as_aux_lemma =>
         go_wp2_with fail
         go_roundw
         case rel=>exact ⟨0+1,r0,r1,v0,v1,by omega,rfl,zcp Hs.out rfl,hK2⟩
         case measure=>simp [intOf]
       ·cases c0
        ·as_aux_lemma =>
          go_wp2_with fail
          go_roundw
          case rel=>exact ⟨0+1,r0,r1,v0,v1,by omega,rfl,zcp Hs.out rfl,hK2⟩
          case measure=>simp [intOf]
        ·as_aux_lemma =>
          go_wp2_with fail
          refine (ze5 Hb _).mono ?_
          rintro e w3 ⟨rfl,rfl⟩
          cases q1 <;> cases q2
          all_goals
           first | rw [bi_t] | rw [bi_f]
           try first | rw [bi_t] | rw [bi_f]
           go_wp2_with fail
           go_roundw
           case rel=>exact ⟨0+1,_,_,_,_,by omega,rfl,zgq Hs.out rfl rfl rfl rfl Hb.out,(hK2.set1 1 rfl rfl).set1 0 rfl rfl⟩
           case measure=>simp [intOf]
     ·as_aux_lemma =>
      obtain ⟨q1,q2,Hb⟩:=zuk op true false false
      go_wp2_with fail
      refine (zbj hlt H1 H2 _).mono ?_
      rintro e w1 ⟨rfl,hb1⟩
      have hK1:=hK.keep hb1
      clear vv0 vv1 vv2 vv3 vv4 rr0 rr1 rr2 rr3 rr4 cc0 cc1 cc2 cc3 cc4 oo0 oo1 oo2 oo3 oo4 b0 b1 b2 b3 b4 a0 a1 a2 a3 a4
      obtain ⟨vv0,vv1,vv2,vv3,vv4⟩:=hK1.box.head.two
      obtain ⟨rr0,rr1,rr2,rr3,rr4⟩:=hK1.box.tail.head.two
      obtain ⟨cc0,cc1,cc2,cc3,cc4⟩:=hK1.box.tail.tail.head.two
      obtain ⟨oo0,oo1,oo2,oo3,oo4⟩:=hK1.box.tail.tail.tail.head.two
      obtain ⟨b0,b1,b2,b3,b4⟩:=hK1.box.tail.tail.tail.tail.tail.head.two
      obtain ⟨a0,a1,a2,a3,a4⟩:=hK1.box.tail.tail.tail.tail.tail.tail.head.two
      go_wp2_with fail
      refine (zbj hlt H3 H4 _).mono ?_
      rintro e w2 ⟨rfl,hb2⟩
      have hK2:=hK1.keep hb2
      clear vv0 vv1 vv2 vv3 vv4 rr0 rr1 rr2 rr3 rr4 cc0 cc1 cc2 cc3 cc4 oo0 oo1 oo2 oo3 oo4 b0 b1 b2 b3 b4 a0 a1 a2 a3 a4
      obtain ⟨vv0,vv1,vv2,vv3,vv4⟩:=hK2.box.head.two
      obtain ⟨rr0,rr1,rr2,rr3,rr4⟩:=hK2.box.tail.head.two
      obtain ⟨cc0,cc1,cc2,cc3,cc4⟩:=hK2.box.tail.tail.head.two
      obtain ⟨oo0,oo1,oo2,oo3,oo4⟩:=hK2.box.tail.tail.tail.head.two
      obtain ⟨b0,b1,b2,b3,b4⟩:=hK2.box.tail.tail.tail.tail.tail.head.two
      obtain ⟨a0,a1,a2,a3,a4⟩:=hK2.box.tail.tail.tail.tail.tail.tail.head.two
      clear hb1 hb2 hK1 hK H1 H2 H3 H4
      cases o
      ·as_aux_lemma =>
        go_wp2_with fail
        go_roundw
        case rel=>exact ⟨1+1,r0,r1,v0,v1,by omega,rfl,zcp Hs.out rfl,hK2⟩
        case measure=>simp [intOf]
      ·cases u
       ·as_aux_lemma =>
         go_wp2_with fail
         go_roundw
         case rel=>exact ⟨1+1,r0,r1,v0,v1,by omega,rfl,zcp Hs.out rfl,hK2⟩
         case measure=>simp [intOf]
       ·cases c0
        ·as_aux_lemma =>
          go_wp2_with fail
          go_roundw
          case rel=>exact ⟨1+1,r0,r1,v0,v1,by omega,rfl,zcp Hs.out rfl,hK2⟩
          case measure=>simp [intOf]
        ·as_aux_lemma =>
          go_wp2_with fail
          refine (ze5 Hb _).mono ?_
          rintro e w3 ⟨rfl,rfl⟩
          cases q1 <;> cases q2
          all_goals
           first | rw [bi_t] | rw [bi_f]
           try first | rw [bi_t] | rw [bi_f]
           go_wp2_with fail
           go_roundw
           case rel=>exact ⟨1+1,_,_,_,_,by omega,rfl,zgq Hs.out rfl rfl rfl rfl Hb.out,(hK2.set1 1 rfl rfl).set1 0 rfl rfl⟩
           case measure=>simp [intOf]
     ·as_aux_lemma =>
      obtain ⟨q1,q2,Hb⟩:=zuk op false true false
      go_wp2_with fail
      refine (zbj hlt H1 H2 _).mono ?_
      rintro e w1 ⟨rfl,hb1⟩
      have hK1:=hK.keep hb1
      clear vv0 vv1 vv2 vv3 vv4 rr0 rr1 rr2 rr3 rr4 cc0 cc1 cc2 cc3 cc4 oo0 oo1 oo2 oo3 oo4 b0 b1 b2 b3 b4 a0 a1 a2 a3 a4
      obtain ⟨vv0,vv1,vv2,vv3,vv4⟩:=hK1.box.head.two
      obtain ⟨rr0,rr1,rr2,rr3,rr4⟩:=hK1.box.tail.head.two
      obtain ⟨cc0,cc1,cc2,cc3,cc4⟩:=hK1.box.tail.tail.head.two
      obtain ⟨oo0,oo1,oo2,oo3,oo4⟩:=hK1.box.tail.tail.tail.head.two
      obtain ⟨b0,b1,b2,b3,b4⟩:=hK1.box.tail.tail.tail.tail.tail.head.two
      obtain ⟨a0,a1,a2,a3,a4⟩:=hK1.box.tail.tail.tail.tail.tail.tail.head.two
      go_wp2_with fail
      refine (zbj hlt H3 H4 _).mono ?_
      rintro e w2 ⟨rfl,hb2⟩
      have hK2:=hK1.keep hb2
      clear vv0 vv1 vv2 vv3 vv4 rr0 rr1 rr2 rr3 rr4 cc0 cc1 cc2 cc3 cc4 oo0 oo1 oo2 oo3 oo4 b0 b1 b2 b3 b4 a0 a1 a2 a3 a4
      obtain ⟨vv0,vv1,vv2,vv3,vv4⟩:=hK2.box.head.two
      obtain ⟨rr0,rr1,rr2,rr3,rr4⟩:=hK2.box.tail.head.two
      obtain ⟨cc0,cc1,cc2,cc3,cc4⟩:=hK2.box.tail.tail.head.two
      obtain ⟨oo0,oo1,oo2,oo3,oo4⟩:=hK2.box.tail.tail.tail.head.two
      obtain ⟨b0,b1,b2,b3,b4⟩:=hK2.box.tail.tail.tail.tail.tail.head.two
      obtain ⟨a0,a1,a2,a3,a4⟩:=hK2.box.tail.tail.tail.tail.tail.tail.head.two
      clear hb1 hb2 hK1 hK H1 H2 H3 H4
      cases z
      ·as_aux_lemma =>
        go_wp2_with fail
        go_roundw
        case rel=>exact ⟨2+1,r0,r1,v0,v1,by omega,rfl,zcp Hs.out rfl,hK2⟩
        case measure=>simp [intOf]
      ·cases p
       ·as_aux_lemma =>
         go_wp2_with fail
         go_roundw
         case rel=>exact ⟨2+1,r0,r1,v0,v1,by omega,rfl,zcp Hs.out rfl,hK2⟩
         case measure=>simp [intOf]
       ·cases c0
        ·as_aux_lemma =>
          go_wp2_with fail
          go_roundw
          case rel=>exact ⟨2+1,r0,r1,v0,v1,by omega,rfl,zcp Hs.out rfl,hK2⟩
          case measure=>simp [intOf]
        ·as_aux_lemma =>
          go_wp2_with fail
          refine (ze5 Hb _).mono ?_
          rintro e w3 ⟨rfl,rfl⟩
          cases q1 <;> cases q2
          all_goals
           first | rw [bi_t] | rw [bi_f]
           try first | rw [bi_t] | rw [bi_f]
           go_wp2_with fail
           go_roundw
           case rel=>exact ⟨2+1,_,_,_,_,by omega,rfl,zgq Hs.out rfl rfl rfl rfl Hb.out,(hK2.set1 1 rfl rfl).set1 0 rfl rfl⟩
           case measure=>simp [intOf]
     ·as_aux_lemma =>
      obtain ⟨q1,q2,Hb⟩:=zuk op true true false
      go_wp2_with fail
      refine (zbj hlt H1 H2 _).mono ?_
      rintro e w1 ⟨rfl,hb1⟩
      have hK1:=hK.keep hb1
      clear vv0 vv1 vv2 vv3 vv4 rr0 rr1 rr2 rr3 rr4 cc0 cc1 cc2 cc3 cc4 oo0 oo1 oo2 oo3 oo4 b0 b1 b2 b3 b4 a0 a1 a2 a3 a4
      obtain ⟨vv0,vv1,vv2,vv3,vv4⟩:=hK1.box.head.two
      obtain ⟨rr0,rr1,rr2,rr3,rr4⟩:=hK1.box.tail.head.two
      obtain ⟨cc0,cc1,cc2,cc3,cc4⟩:=hK1.box.tail.tail.head.two
      obtain ⟨oo0,oo1,oo2,oo3,oo4⟩:=hK1.box.tail.tail.tail.head.two
      obtain ⟨b0,b1,b2,b3,b4⟩:=hK1.box.tail.tail.tail.tail.tail.head.two
      obtain ⟨a0,a1,a2,a3,a4⟩:=hK1.box.tail.tail.tail.tail.tail.tail.head.two
      go_wp2_with fail
      refine (zbj hlt H3 H4 _).mono ?_
      rintro e w2 ⟨rfl,hb2⟩
      have hK2:=hK1.keep hb2
      clear vv0 vv1 vv2 vv3 vv4 rr0 rr1 rr2 rr3 rr4 cc0 cc1 cc2 cc3 cc4 oo0 oo1 oo2 oo3 oo4 b0 b1 b2 b3 b4 a0 a1 a2 a3 a4
      obtain ⟨vv0,vv1,vv2,vv3,vv4⟩:=hK2.box.head.two
      obtain ⟨rr0,rr1,rr2,rr3,rr4⟩:=hK2.box.tail.head.two
      obtain ⟨cc0,cc1,cc2,cc3,cc4⟩:=hK2.box.tail.tail.head.two
      obtain ⟨oo0,oo1,oo2,oo3,oo4⟩:=hK2.box.tail.tail.tail.head.two
      obtain ⟨b0,b1,b2,b3,b4⟩:=hK2.box.tail.tail.tail.tail.tail.head.two
      obtain ⟨a0,a1,a2,a3,a4⟩:=hK2.box.tail.tail.tail.tail.tail.tail.head.two
      clear hb1 hb2 hK1 hK H1 H2 H3 H4
      cases o
      ·as_aux_lemma =>
        go_wp2_with fail
        go_roundw
        case rel=>exact ⟨3+1,r0,r1,v0,v1,by omega,rfl,zcp Hs.out rfl,hK2⟩
        case measure=>simp [intOf]
      ·cases p
       ·as_aux_lemma =>
         go_wp2_with fail
         go_roundw
         case rel=>exact ⟨3+1,r0,r1,v0,v1,by omega,rfl,zcp Hs.out rfl,hK2⟩
         case measure=>simp [intOf]
       ·cases c0
        ·as_aux_lemma =>
          go_wp2_with fail
          go_roundw
          case rel=>exact ⟨3+1,r0,r1,v0,v1,by omega,rfl,zcp Hs.out rfl,hK2⟩
          case measure=>simp [intOf]
        ·as_aux_lemma =>
          go_wp2_with fail
          refine (ze5 Hb _).mono ?_
          rintro e w3 ⟨rfl,rfl⟩
          cases q1 <;> cases q2
          all_goals
           first | rw [bi_t] | rw [bi_f]
           try first | rw [bi_t] | rw [bi_f]
           go_wp2_with fail
           go_roundw
           case rel=>exact ⟨3+1,_,_,_,_,by omega,rfl,zgq Hs.out rfl rfl rfl rfl Hb.out,(hK2.set1 1 rfl rfl).set1 0 rfl rfl⟩
           case measure=>simp [intOf]
     ·as_aux_lemma =>
      obtain ⟨q1,q2,Hb⟩:=zuk op false false true
      go_wp2_with fail
      refine (zbj hlt H1 H2 _).mono ?_
      rintro e w1 ⟨rfl,hb1⟩
      have hK1:=hK.keep hb1
      clear vv0 vv1 vv2 vv3 vv4 rr0 rr1 rr2 rr3 rr4 cc0 cc1 cc2 cc3 cc4 oo0 oo1 oo2 oo3 oo4 b0 b1 b2 b3 b4 a0 a1 a2 a3 a4
      obtain ⟨vv0,vv1,vv2,vv3,vv4⟩:=hK1.box.head.two
      obtain ⟨rr0,rr1,rr2,rr3,rr4⟩:=hK1.box.tail.head.two
      obtain ⟨cc0,cc1,cc2,cc3,cc4⟩:=hK1.box.tail.tail.head.two
      obtain ⟨oo0,oo1,oo2,oo3,oo4⟩:=hK1.box.tail.tail.tail.head.two
      obtain ⟨b0,b1,b2,b3,b4⟩:=hK1.box.tail.tail.tail.tail.tail.head.two
      obtain ⟨a0,a1,a2,a3,a4⟩:=hK1.box.tail.tail.tail.tail.tail.tail.head.two
      go_wp2_with fail
      refine (zbj hlt H3 H4 _).mono ?_
      rintro e w2 ⟨rfl,hb2⟩
      have hK2:=hK1.keep hb2
      clear vv0 vv1 vv2 vv3 vv4 rr0 rr1 rr2 rr3 rr4 cc0 cc1 cc2 cc3 cc4 oo0 oo1 oo2 oo3 oo4 b0 b1 b2 b3 b4 a0 a1 a2 a3 a4
      obtain ⟨vv0,vv1,vv2,vv3,vv4⟩:=hK2.box.head.two
      obtain ⟨rr0,rr1,rr2,rr3,rr4⟩:=hK2.box.tail.head.two
      obtain ⟨cc0,cc1,cc2,cc3,cc4⟩:=hK2.box.tail.tail.head.two
      obtain ⟨oo0,oo1,oo2,oo3,oo4⟩:=hK2.box.tail.tail.tail.head.two
      obtain ⟨b0,b1,b2,b3,b4⟩:=hK2.box.tail.tail.tail.tail.tail.head.two
      obtain ⟨a0,a1,a2,a3,a4⟩:=hK2.box.tail.tail.tail.tail.tail.tail.head.two
      clear hb1 hb2 hK1 hK H1 H2 H3 H4
      cases z
      ·as_aux_lemma =>
        go_wp2_with fail
        go_roundw
        case rel=>exact ⟨4+1,r0,r1,v0,v1,by omega,rfl,zcp Hs.out rfl,hK2⟩
        case measure=>simp [intOf]
      ·cases u
       ·as_aux_lemma =>
         go_wp2_with fail
         go_roundw
         case rel=>exact ⟨4+1,r0,r1,v0,v1,by omega,rfl,zcp Hs.out rfl,hK2⟩
         case measure=>simp [intOf]
       ·cases c1
        ·as_aux_lemma =>
          go_wp2_with fail
          go_roundw
          case rel=>exact ⟨4+1,r0,r1,v0,v1,by omega,rfl,zcp Hs.out rfl,hK2⟩
          case measure=>simp [intOf]
        ·as_aux_lemma =>
          go_wp2_with fail
          refine (ze5 Hb _).mono ?_
          rintro e w3 ⟨rfl,rfl⟩
          cases q1 <;> cases q2
          all_goals
           first | rw [bi_t] | rw [bi_f]
           try first | rw [bi_t] | rw [bi_f]
           go_wp2_with fail
           go_roundw
           case rel=>exact ⟨4+1,_,_,_,_,by omega,rfl,zgq Hs.out rfl rfl rfl rfl Hb.out,(hK2.set1 1 rfl rfl).set1 0 rfl rfl⟩
           case measure=>simp [intOf]
     ·as_aux_lemma =>
      obtain ⟨q1,q2,Hb⟩:=zuk op true false true
      go_wp2_with fail
      refine (zbj hlt H1 H2 _).mono ?_
      rintro e w1 ⟨rfl,hb1⟩
      have hK1:=hK.keep hb1
      clear vv0 vv1 vv2 vv3 vv4 rr0 rr1 rr2 rr3 rr4 cc0 cc1 cc2 cc3 cc4 oo0 oo1 oo2 oo3 oo4 b0 b1 b2 b3 b4 a0 a1 a2 a3 a4
      obtain ⟨vv0,vv1,vv2,vv3,vv4⟩:=hK1.box.head.two
      obtain ⟨rr0,rr1,rr2,rr3,rr4⟩:=hK1.box.tail.head.two
      obtain ⟨cc0,cc1,cc2,cc3,cc4⟩:=hK1.box.tail.tail.head.two
      obtain ⟨oo0,oo1,oo2,oo3,oo4⟩:=hK1.box.tail.tail.tail.head.two
      obtain ⟨b0,b1,b2,b3,b4⟩:=hK1.box.tail.tail.tail.tail.tail.head.two
      obtain ⟨a0,a1,a2,a3,a4⟩:=hK1.box.tail.tail.tail.tail.tail.tail.head.two
      go_wp2_with fail
      refine (zbj hlt H3 H4 _).mono ?_
      rintro e w2 ⟨rfl,hb2⟩
      have hK2:=hK1.keep hb2
      clear vv0 vv1 vv2 vv3 vv4 rr0 rr1 rr2 rr3 rr4 cc0 cc1 cc2 cc3 cc4 oo0 oo1 oo2 oo3 oo4 b0 b1 b2 b3 b4 a0 a1 a2 a3 a4
      obtain ⟨vv0,vv1,vv2,vv3,vv4⟩:=hK2.box.head.two
      obtain ⟨rr0,rr1,rr2,rr3,rr4⟩:=hK2.box.tail.head.two
      obtain ⟨cc0,cc1,cc2,cc3,cc4⟩:=hK2.box.tail.tail.head.two
      obtain ⟨oo0,oo1,oo2,oo3,oo4⟩:=hK2.box.tail.tail.tail.head.two
      obtain ⟨b0,b1,b2,b3,b4⟩:=hK2.box.tail.tail.tail.tail.tail.head.two
      obtain ⟨a0,a1,a2,a3,a4⟩:=hK2.box.tail.tail.tail.tail.tail.tail.head.two
      clear hb1 hb2 hK1 hK H1 H2 H3 H4
      cases o
      ·as_aux_lemma =>
        go_wp2_with fail
        go_roundw
        case rel=>exact ⟨5+1,r0,r1,v0,v1,by omega,rfl,zcp Hs.out rfl,hK2⟩
        case measure=>simp [intOf]
      ·cases u
       ·as_aux_lemma =>
         go_wp2_with fail
         go_roundw
         case rel=>exact ⟨5+1,r0,r1,v0,v1,by omega,rfl,zcp Hs.out rfl,hK2⟩
         case measure=>simp [intOf]
       ·cases c1
        ·as_aux_lemma =>
          go_wp2_with fail
          go_roundw
          case rel=>exact ⟨5+1,r0,r1,v0,v1,by omega,rfl,zcp Hs.out rfl,hK2⟩
          case measure=>simp [intOf]
        ·as_aux_lemma =>
          go_wp2_with fail
          refine (ze5 Hb _).mono ?_
          rintro e w3 ⟨rfl,rfl⟩
          cases q1 <;> cases q2
          all_goals
           first | rw [bi_t] | rw [bi_f]
           try first | rw [bi_t] | rw [bi_f]
           go_wp2_with fail
           go_roundw
           case rel=>exact ⟨5+1,_,_,_,_,by omega,rfl,zgq Hs.out rfl rfl rfl rfl Hb.out,(hK2.set1 1 rfl rfl).set1 0 rfl rfl⟩
           case measure=>simp [intOf]
     ·as_aux_lemma =>
      obtain ⟨q1,q2,Hb⟩:=zuk op false true true
      go_wp2_with fail
      refine (zbj hlt H1 H2 _).mono ?_
      rintro e w1 ⟨rfl,hb1⟩
      have hK1:=hK.keep hb1
      clear vv0 vv1 vv2 vv3 vv4 rr0 rr1 rr2 rr3 rr4 cc0 cc1 cc2 cc3 cc4 oo0 oo1 oo2 oo3 oo4 b0 b1 b2 b3 b4 a0 a1 a2 a3 a4
      obtain ⟨vv0,vv1,vv2,vv3,vv4⟩:=hK1.box.head.two
      obtain ⟨rr0,rr1,rr2,rr3,rr4⟩:=hK1.box.tail.head.two
      obtain ⟨cc0,cc1,cc2,cc3,cc4⟩:=hK1.box.tail.tail.head.two
      obtain ⟨oo0,oo1,oo2,oo3,oo4⟩:=hK1.box.tail.tail.tail.head.two
      obtain ⟨b0,b1,b2,b3,b4⟩:=hK1.box.tail.tail.tail.tail.tail.head.two
      obtain ⟨a0,a1,a2,a3,a4⟩:=hK1.box.tail.tail.tail.tail.tail.tail.head.two
      go_wp2_with fail
      refine (zbj hlt H3 H4 _).mono ?_
      rintro e w2 ⟨rfl,hb2⟩
      have hK2:=hK1.keep hb2
      clear vv0 vv1 vv2 vv3 vv4 rr0 rr1 rr2 rr3 rr4 cc0 cc1 cc2 cc3 cc4 oo0 oo1 oo2 oo3 oo4 b0 b1 b2 b3 b4 a0 a1 a2 a3 a4
      obtain ⟨vv0,vv1,vv2,vv3,vv4⟩:=hK2.box.head.two
      obtain ⟨rr0,rr1,rr2,rr3,rr4⟩:=hK2.box.tail.head.two
      obtain ⟨cc0,cc1,cc2,cc3,cc4⟩:=hK2.box.tail.tail.head.two
      obtain ⟨oo0,oo1,oo2,oo3,oo4⟩:=hK2.box.tail.tail.tail.head.two
      obtain ⟨b0,b1,b2,b3,b4⟩:=hK2.box.tail.tail.tail.tail.tail.head.two
      obtain ⟨a0,a1,a2,a3,a4⟩:=hK2.box.tail.tail.tail.tail.tail.tail.head.two
      clear hb1 hb2 hK1 hK H1 H2 H3 H4
      cases z
      ·as_aux_lemma =>
        go_wp2_with fail
        go_roundw
        case rel=>exact ⟨6+1,r0,r1,v0,v1,by omega,rfl,zcp Hs.out rfl,hK2⟩
        case measure=>simp [intOf]
      ·cases p
       ·as_aux_lemma =>
         go_wp2_with fail
         go_roundw
         case rel=>exact ⟨6+1,r0,r1,v0,v1,by omega,rfl,zcp Hs.out rfl,hK2⟩
         case measure=>simp [intOf]
       ·cases c1
        ·as_aux_lemma =>
          go_wp2_with fail
          go_roundw
          case rel=>exact ⟨6+1,r0,r1,v0,v1,by omega,rfl,zcp Hs.out rfl,hK2⟩
          case measure=>simp [intOf]
        ·as_aux_lemma =>
          go_wp2_with fail
          refine (ze5 Hb _).mono ?_
          rintro e w3 ⟨rfl,rfl⟩
          cases q1 <;> cases q2
          all_goals
           first | rw [bi_t] | rw [bi_f]
           try first | rw [bi_t] | rw [bi_f]
           go_wp2_with fail
           go_roundw
           case rel=>exact ⟨6+1,_,_,_,_,by omega,rfl,zgq Hs.out rfl rfl rfl rfl Hb.out,(hK2.set1 1 rfl rfl).set1 0 rfl rfl⟩
           case measure=>simp [intOf]
     ·as_aux_lemma =>
      obtain ⟨q1,q2,Hb⟩:=zuk op true true true
      go_wp2_with fail
      refine (zbj hlt H1 H2 _).mono ?_
      rintro e w1 ⟨rfl,hb1⟩
      have hK1:=hK.keep hb1
      clear vv0 vv1 vv2 vv3 vv4 rr0 rr1 rr2 rr3 rr4 cc0 cc1 cc2 cc3 cc4 oo0 oo1 oo2 oo3 oo4 b0 b1 b2 b3 b4 a0 a1 a2 a3 a4
      obtain ⟨vv0,vv1,vv2,vv3,vv4⟩:=hK1.box.head.two
      obtain ⟨rr0,rr1,rr2,rr3,rr4⟩:=hK1.box.tail.head.two
      obtain ⟨cc0,cc1,cc2,cc3,cc4⟩:=hK1.box.tail.tail.head.two
      obtain ⟨oo0,oo1,oo2,oo3,oo4⟩:=hK1.box.tail.tail.tail.head.two
      obtain ⟨b0,b1,b2,b3,b4⟩:=hK1.box.tail.tail.tail.tail.tail.head.two
      obtain ⟨a0,a1,a2,a3,a4⟩:=hK1.box.tail.tail.tail.tail.tail.tail.head.two
      go_wp2_with fail
      refine (zbj hlt H3 H4 _).mono ?_
      rintro e w2 ⟨rfl,hb2⟩
      have hK2:=hK1.keep hb2
      clear vv0 vv1 vv2 vv3 vv4 rr0 rr1 rr2 rr3 rr4 cc0 cc1 cc2 cc3 cc4 oo0 oo1 oo2 oo3 oo4 b0 b1 b2 b3 b4 a0 a1 a2 a3 a4
      obtain ⟨vv0,vv1,vv2,vv3,vv4⟩:=hK2.box.head.two
      obtain ⟨rr0,rr1,rr2,rr3,rr4⟩:=hK2.box.tail.head.two
      obtain ⟨cc0,cc1,cc2,cc3,cc4⟩:=hK2.box.tail.tail.head.two
      obtain ⟨oo0,oo1,oo2,oo3,oo4⟩:=hK2.box.tail.tail.tail.head.two
      obtain ⟨b0,b1,b2,b3,b4⟩:=hK2.box.tail.tail.tail.tail.tail.head.two
      obtain ⟨a0,a1,a2,a3,a4⟩:=hK2.box.tail.tail.tail.tail.tail.tail.head.two
      clear hb1 hb2 hK1 hK H1 H2 H3 H4
      cases o
      ·as_aux_lemma =>
        go_wp2_with fail
        go_roundw
        case rel=>exact ⟨7+1,r0,r1,v0,v1,by omega,rfl,zcp Hs.out rfl,hK2⟩
        case measure=>simp [intOf]
      ·cases p
       ·as_aux_lemma =>
         go_wp2_with fail
         go_roundw
         case rel=>exact ⟨7+1,r0,r1,v0,v1,by omega,rfl,zcp Hs.out rfl,hK2⟩
         case measure=>simp [intOf]
       ·cases c1
        ·as_aux_lemma =>
          go_wp2_with fail
          go_roundw
          case rel=>exact ⟨7+1,r0,r1,v0,v1,by omega,rfl,zcp Hs.out rfl,hK2⟩
          case measure=>simp [intOf]
        ·as_aux_lemma =>
          go_wp2_with fail
          refine (ze5 Hb _).mono ?_
          rintro e w3 ⟨rfl,rfl⟩
          cases q1 <;> cases q2
          all_goals
           first | rw [bi_t] | rw [bi_f]
           try first | rw [bi_t] | rw [bi_f]
           go_wp2_with fail
           go_roundw
           case rel=>exact ⟨7+1,_,_,_,_,by omega,rfl,zgq Hs.out rfl rfl rfl rfl Hb.out,(hK2.set1 1 rfl rfl).set1 0 rfl rfl⟩
           case measure=>simp [intOf]
    ·have e8:k=8:=by omega
     subst e8
     go_wp2_with fail
     refine (zf5 _ _ i hlt _ _ _).mono ?_
     rintro e w1 ⟨rfl,hb1⟩
     have hK1:=hK.keep hb1
     clear vv0 vv1 vv2 vv3 vv4 rr0 rr1 rr2 rr3 rr4 cc0 cc1 cc2 cc3 cc4 oo0 oo1 oo2 oo3 oo4 b0 b1 b2 b3 b4 a0 a1 a2 a3 a4
     obtain ⟨vv0,vv1,vv2,vv3,vv4⟩:=hK1.box.head.two
     obtain ⟨rr0,rr1,rr2,rr3,rr4⟩:=hK1.box.tail.head.two
     obtain ⟨cc0,cc1,cc2,cc3,cc4⟩:=hK1.box.tail.tail.head.two
     obtain ⟨oo0,oo1,oo2,oo3,oo4⟩:=hK1.box.tail.tail.tail.head.two
     obtain ⟨b0,b1,b2,b3,b4⟩:=hK1.box.tail.tail.tail.tail.tail.head.two
     obtain ⟨a0,a1,a2,a3,a4⟩:=hK1.box.tail.tail.tail.tail.tail.tail.head.two
     have hK2:=hK1.set2 (x:=U (putV V i r0 r1)) (y:=U (putM M i r0 r1)) 3 rfl
     obtain ⟨vvv0,vvv1,vvv2,vvv3,vvv4⟩:=hK2.box.head.two
     obtain ⟨ccc0,ccc1,ccc2,ccc3,ccc4⟩:=hK2.box.tail.tail.head.two
     go_wp2_with fail
     have hS:inn op (mz av i) (mo av am i) (mz bv i) (mo bv bm i) (twoC op av am bv bm i).1 (twoC op av am bv bm i).2 8=((r0,r1),(v0,v1)):=by
      rw [← H1.out,← H2.out,← H3.out,← H4.out,HC.out];exact Hs.out
     have hR1:twoR op av am bv bm i=(r0,r1):=by unfold twoR;rw [hS]
     exact ⟨⟨i+1,v0,v1,_,_,by omega,by go_num,by show (inn op (mz av i) (mo av am i) (mz bv i) (mo bv bm i) (twoC op av am bv bm i).1 (twoC op av am bv bm i).2 8).2=_;rw [hS],
      by rw [← yah8,hR1,HV.out],by rw [← yak0,hR1,HM.out],⟨((hK2.set2 (x:=.bool v0) (y:=.bool v1) 2 rfl)).bel,((hK2.set2 (x:=.bool v0) (y:=.bool v1) 2 rfl)).box.tail.tail,fun q hq=>((hK2.set2 (x:=.bool v0) (y:=.bool v1) 2 rfl)).lo q (List.mem_cons_of_mem _ (List.mem_cons_of_mem _ hq))⟩⟩,by simp [intOf];omega⟩
  ·have e64:i=64:=by omega
   subst e64
   obtain ⟨cc0,cc1,cc2,cc3,cc4⟩:=hK.box.head.two
   obtain ⟨oo0,oo1,oo2,oo3,oo4⟩:=hK.box.tail.head.two
   obtain ⟨zz0,zz1,zz2,zz3,zz4⟩:=hK.box.tail.tail.head.two
   obtain ⟨b0,b1,b2,b3,b4⟩:=hK.box.tail.tail.tail.head.two
   obtain ⟨a0,a1,a2,a3,a4⟩:=hK.box.tail.tail.tail.tail.head.two
   go_wp2_with fail
   rw [← HV.out,← HM.out] at *
   exact bodyPost_ret (v:=Bt (twoV op av am bv bm 64) (twoM op av am bv bm 64)) (by simp [results,Tryz.results165,go_sem,zz0,zz1]) rfl ⟨rfl,(hK.set2 (x:=_) (y:=_) 2 rfl).bel⟩
end
end Go.Proofs.YtkigmocchaikgabGreatDoor
namespace Go.Proofs.YtkigmocchaikgabGreatDoor
theorem yaj7:∀ a m b n cm cM:Bool,(a&&m)=false→(b&&n)=false→(cm=true→cM=true) →
  (inn 2 (!a) (a||m) (!b) (b||n) (!cm) cM 8).2=(!((a&&b)||(cm&&(a||b))),((a||m)&&(b||n))||(cM&&((a||m)||(b||n))))
  ∧ ((inn 2 (!a) (a||m) (!b) (b||n) (!cm) cM 8).1.2&&(inn 2 (!a) (a||m) (!b) (b||n) (!cm) cM 8).1.1)=(m||n||(!cm&&cM))
  ∧ ((inn 2 (!a) (a||m) (!b) (b||n) (!cm) cM 8).1.2&&!(inn 2 (!a) (a||m) (!b) (b||n) (!cm) cM 8).1.1)=(((a ^^ b) ^^ cm)&&!(m||n||(!cm&&cM))):=by
 decide
theorem yakl:∀ a m b n cm cM:Bool,(a&&m)=false→(b&&n)=false→(cm=true→cM=true) →
  (inn 3 (!a) (a||m) (!b) (b||n) (!cm) cM 8).2=(!((!(a||m)&&b)||(cm&&(!(a||m)||b))),(!a&&(b||n))||(cM&&(!a||(b||n))))
  ∧ ((inn 3 (!a) (a||m) (!b) (b||n) (!cm) cM 8).1.2&&(inn 3 (!a) (a||m) (!b) (b||n) (!cm) cM 8).1.1)=(m||n||(!cm&&cM))
  ∧ ((inn 3 (!a) (a||m) (!b) (b||n) (!cm) cM 8).1.2&&!(inn 3 (!a) (a||m) (!b) (b||n) (!cm) cM 8).1.1)=(((a ^^ b) ^^ cm)&&!(m||n||(!cm&&cM))):=by
 decide
theorem yajn:∀ a m b n:Bool,(a&&m)=false→(b&&n)=false →
  (inn 5 (!a) (a||m) (!b) (b||n) true false 8).2=(true,false)
  ∧ ((inn 5 (!a) (a||m) (!b) (b||n) true false 8).1.2&&(inn 5 (!a) (a||m) (!b) (b||n) true false 8).1.1)=(((a||m)&&(b||n))&&!(a&&b))
  ∧ ((inn 5 (!a) (a||m) (!b) (b||n) true false 8).1.2&&!(inn 5 (!a) (a||m) (!b) (b||n) true false 8).1.1)=(a&&b):=by
 decide
theorem yaq9:∀ a m b n:Bool,(a&&m)=false→(b&&n)=false →
  (inn 6 (!a) (a||m) (!b) (b||n) true false 8).2=(true,false)
  ∧ ((inn 6 (!a) (a||m) (!b) (b||n) true false 8).1.2&&(inn 6 (!a) (a||m) (!b) (b||n) true false 8).1.1)=((m||n)&&!(a||b))
  ∧ ((inn 6 (!a) (a||m) (!b) (b||n) true false 8).1.2&&!(inn 6 (!a) (a||m) (!b) (b||n) true false 8).1.1)=(a||b):=by
 decide
theorem yagp:∀ a m b n:Bool,(a&&m)=false→(b&&n)=false →
  (inn 7 (!a) (a||m) (!b) (b||n) true false 8).2=(true,false)
  ∧ ((inn 7 (!a) (a||m) (!b) (b||n) true false 8).1.2&&(inn 7 (!a) (a||m) (!b) (b||n) true false 8).1.1)=(m||n)
  ∧ ((inn 7 (!a) (a||m) (!b) (b||n) true false 8).1.2&&!(inn 7 (!a) (a||m) (!b) (b||n) true false 8).1.1)=((a ^^ b)&&!(m||n)):=by
 decide
theorem yayl (av am bv bm:BitVec 64) (i:Nat):cy av bv i=true→cy (bor av am) (bor bv bm) i=true :=
 znx av bv (bor av am) (bor bv bm) (fun i h=>by rw [zaq,h];rfl) (fun i h=>by rw [zaq,h];rfl) i
theorem yaxa (av am bv bm:BitVec 64) (i:Nat):bw (bor av am) bv i=true→bw av (bor bv bm) i=true :=
 zg1 (bor av am) bv av (bor bv bm) (fun i h=>by rw [zaq,h];rfl) (fun i h=>by rw [zaq,h];rfl) i
theorem zzy {av am bv bm:BitVec 64} (ha:∀ j,(bit av j&&bit am j)=false) (hb:∀ j,(bit bv j&&bit bm j)=false) (i:Nat):twoC 2 av am bv bm i=(!cy av bv i,cy (bor av am) (bor bv bm) i):=by
 induction i with
 | zero=>rw [znn,znn];rfl
 | succ i ih =>
  simp only [twoC]
  rw [ih,zkn,zkn,zaq,zaq]
  exact (yaj7 (bit av i) (bit am i) (bit bv i) (bit bm i) (cy av bv i) (cy (bor av am) (bor bv bm) i) (ha i) (hb i) (yayl av am bv bm i)).1
theorem zre {av am bv bm:BitVec 64} (ha:∀ j,(bit av j&&bit am j)=false) (hb:∀ j,(bit bv j&&bit bm j)=false):twoV 2 av am bv bm 64=bandn (badd av bv) (addM av am bv bm)∧twoM 2 av am bv bm 64=addM av am bv bm:=by
 have key:=fun j=>yaj7 (bit av j) (bit am j) (bit bv j) (bit bm j) (cy av bv j) (cy (bor av am) (bor bv bm) j) (ha j) (hb j) (yayl av am bv bm j)
 constructor
 ·apply zdz;intro j hj
  simp only [twoR]
  rw [zzy ha hb j,zas _ _ _ hj,zik _ _ _ hj]
  unfold addM
  rw [zrg ha hb j hj]
  exact (key j).2.2
 ·apply zdz;intro j hj
  simp only [twoR]
  rw [zzy ha hb j]
  unfold addM
  rw [zrg ha hb j hj]
  exact (key j).2.1
theorem yaat {av am bv bm:BitVec 64} (ha:∀ j,(bit av j&&bit am j)=false) (hb:∀ j,(bit bv j&&bit bm j)=false) (i:Nat) (hi:i≤64):twoC 3 av am bv bm i=(!bw (bor av am) bv i,bw av (bor bv bm) i):=by
 induction i with
 | zero=>rw [zzj,zzj];rfl
 | succ i ih =>
  simp only [twoC]
  rw [ih (by omega),zyp _ _ _ (by omega),zyp _ _ _ (by omega),zaq,zaq]
  exact (yakl (bit av i) (bit am i) (bit bv i) (bit bm i) (bw (bor av am) bv i) (bw av (bor bv bm) i) (ha i) (hb i) (yaxa av am bv bm i)).1
theorem yai8 {av am bv bm:BitVec 64} (ha:∀ j,(bit av j&&bit am j)=false) (hb:∀ j,(bit bv j&&bit bm j)=false):twoV 3 av am bv bm 64=bandn (bsub av bv) (subM av am bv bm)∧twoM 3 av am bv bm 64=subM av am bv bm:=by
 have key:=fun j=>yakl (bit av j) (bit am j) (bit bv j) (bit bm j) (bw (bor av am) bv j) (bw av (bor bv bm) j) (ha j) (hb j) (yaxa av am bv bm j)
 constructor
 ·apply zdz;intro j hj
  simp only [twoR]
  rw [yaat ha hb j (by omega),zas _ _ _ hj,zko _ _ _ hj]
  unfold subM
  rw [zrb ha hb j hj]
  have h1:=(key j).2.2
  have m3:=zg1 (bor av am) bv av bv (fun i h=>by rw [zaq,h];rfl) (fun i h=>h) j
  have m4:=zg1 av bv av (bor bv bm) (fun i h=>h) (fun i h=>by rw [zaq,h];rfl) j
  refine h1.trans ?_
  revert m3 m4
  cases bit av j <;> cases bit am j <;> cases bit bv j <;> cases bit bm j <;> cases bw (bor av am) bv j <;> cases bw av bv j <;> cases bw av (bor bv bm) j <;> simp
 ·apply zdz;intro j hj
  simp only [twoR]
  rw [yaat ha hb j (by omega)]
  unfold subM
  rw [zrb ha hb j hj]
  exact (key j).2.1
theorem zz8 {av am bv bm:BitVec 64} (ha:∀ j,(bit av j&&bit am j)=false) (hb:∀ j,(bit bv j&&bit bm j)=false) (i:Nat):twoC 5 av am bv bm i=(true,false):=by
 induction i with
 | zero=>rfl
 | succ i ih=>simp only [twoC];rw [ih];exact (yajn (bit av i) (bit am i) (bit bv i) (bit bm i) (ha i) (hb i)).1
theorem yajj {av am bv bm:BitVec 64} (ha:∀ j,(bit av j&&bit am j)=false) (hb:∀ j,(bit bv j&&bit bm j)=false):twoV 5 av am bv bm 64=band av bv∧twoM 5 av am bv bm 64=bandn (band (bor av am) (bor bv bm)) (band av bv):=by
 have key:=fun j=>yajn (bit av j) (bit am j) (bit bv j) (bit bm j) (ha j) (hb j)
 constructor
 ·apply zdz;intro j hj
  simp only [twoR]
  rw [zz8 ha hb j,zaz]
  exact (key j).2.2
 ·apply zdz;intro j hj
  simp only [twoR]
  rw [zz8 ha hb j,zas _ _ _ hj,zaz,zaz,zaq,zaq]
  exact (key j).2.1
theorem yalf {av am bv bm:BitVec 64} (ha:∀ j,(bit av j&&bit am j)=false) (hb:∀ j,(bit bv j&&bit bm j)=false) (i:Nat):twoC 6 av am bv bm i=(true,false):=by
 induction i with
 | zero=>rfl
 | succ i ih=>simp only [twoC];rw [ih];exact (yaq9 (bit av i) (bit am i) (bit bv i) (bit bm i) (ha i) (hb i)).1
theorem yaqy {av am bv bm:BitVec 64} (ha:∀ j,(bit av j&&bit am j)=false) (hb:∀ j,(bit bv j&&bit bm j)=false):twoV 6 av am bv bm 64=bor av bv∧twoM 6 av am bv bm 64=bandn (bor am bm) (bor av bv):=by
 have key:=fun j=>yaq9 (bit av j) (bit am j) (bit bv j) (bit bm j) (ha j) (hb j)
 constructor
 ·apply zdz;intro j hj
  simp only [twoR]
  rw [yalf ha hb j,zaq]
  exact (key j).2.2
 ·apply zdz;intro j hj
  simp only [twoR]
  rw [yalf ha hb j,zas _ _ _ hj,zaq,zaq]
  exact (key j).2.1
theorem yab9 {av am bv bm:BitVec 64} (ha:∀ j,(bit av j&&bit am j)=false) (hb:∀ j,(bit bv j&&bit bm j)=false) (i:Nat):twoC 7 av am bv bm i=(true,false):=by
 induction i with
 | zero=>rfl
 | succ i ih=>simp only [twoC];rw [ih];exact (yagp (bit av i) (bit am i) (bit bv i) (bit bm i) (ha i) (hb i)).1
theorem yall {av am bv bm:BitVec 64} (ha:∀ j,(bit av j&&bit am j)=false) (hb:∀ j,(bit bv j&&bit bm j)=false):twoV 7 av am bv bm 64=bandn (bxor av bv) (bor am bm)∧twoM 7 av am bv bm 64=bor am bm:=by
 have key:=fun j=>yagp (bit av j) (bit am j) (bit bv j) (bit bm j) (ha j) (hb j)
 constructor
 ·apply zdz;intro j hj
  simp only [twoR]
  rw [yab9 ha hb j,zas _ _ _ hj,zbm,zaq]
  exact (key j).2.2
 ·apply zdz;intro j hj
  simp only [twoR]
  rw [yab9 ha hb j,zaq]
  exact (key j).2.1
end Go.Proofs.YtkigmocchaikgabGreatDoor
namespace Go.Proofs.YtkigmocchaikgabGreatDoor
open Go.RowKit
section
attribute [local go_sem] zc9 w_or zdf za3 zbx zbc zda zcy zdb zbw zb4 zc3 zby zdc zcn zcz zb1 zb3 zb2 zb0 za1
theorem zpu {a b:BitVec 64×BitVec 64}:eqb (band (addP a b).1 (addP a b).2) zero=true:=by
 rw [zb7];intro j
 by_cases hj:j<64
 ·simp only [addP];rw [zas _ _ _ hj];cases bit (badd a.1 b.1) j <;> cases bit (addM a.1 a.2 b.1 b.2) j <;> rfl
 ·rw [zba _ _ (by omega)];rfl
theorem yafb (av am bv bm:BitVec 64) (k:Nat):eqb (band (mulS av am bv bm k).1 (mulS av am bv bm k).2) zero=true:=by
 induction k with
 | zero=>exact (by decide:eqb (band zero zero) zero=true)
 | succ k ih =>
  simp only [mulS]
  by_cases h1:bit av k=true
  ·rw [if_pos h1];exact zpu
  ·rw [if_neg h1]
   by_cases h2:bit am k=true
   ·rw [if_pos h2];exact zpu
   ·rw [if_neg h2];exact ih
theorem yakx {v m:BitVec 64} (h:eqb (band v m) zero=true) (k:Nat):eqb (band (bshl v k) (bshl m k)) zero=true:=by
 rw [zb7] at h ⊢
 intro j
 by_cases hj:j<64
 ·rw [zej _ _ _ hj,zej _ _ _ hj]
  have:=h (j - k)
  revert this
  cases decide (k≤j) <;> cases bit v (j - k) <;> cases bit m (j - k) <;> simp
 ·rw [zba _ _ (by omega)];rfl
theorem yac1 (m:BitVec 64):eqb (band zero m) zero=true:=by
 rw [zb7];intro j;rw [zbb];rfl
theorem znp {av am bv bm:BitVec 64} (ha:eqb (band av am) zero=true) (hb:eqb (band bv bm) zero=true) (w:World) :
  Calls Tryz.prog 165 #[N 2,Bt av am,Bt bv bm] w fun e w'=>e=.returned (Bt (addP (av,am) (bv,bm)).1 (addP (av,am) (bv,bm)).2)∧Below w.heap.size w w':=by
 have h:=zn8 2 av am bv bm w
 rw [(zre ((zb7 _ _).1 ha) ((zb7 _ _).1 hb)).1,(zre ((zb7 _ _).1 ha) ((zb7 _ _).1 hb)).2] at h
 exact h
theorem yadc {op:Int} {av am bv bm:BitVec 64} (hop:op=2∨op=3∨op=5∨op=6∨op=7) (ha:eqb (band av am) zero=true) (hb:eqb (band bv bm) zero=true) (w:World) :
  Calls Tryz.prog 165 #[N op,Bt av am,Bt bv bm] w fun e w'=>e=.returned (Bt (twoP op av am bv bm).1 (twoP op av am bv bm).2)∧Below w.heap.size w w':=by
 have h:=zn8 op av am bv bm w
 have ra:=(zb7 _ _).1 ha
 have rb:=(zb7 _ _).1 hb
 rcases hop with rfl | rfl | rfl | rfl | rfl
 ·rw [(zre ra rb).1,(zre ra rb).2] at h;exact h
 ·rw [(yai8 ra rb).1,(yai8 ra rb).2] at h;exact h
 ·rw [(yajj ra rb).1,(yajj ra rb).2] at h;exact h
 ·rw [(yaqy ra rb).1,(yaqy ra rb).2] at h;exact h
 ·rw [(yall ra rb).1,(yall ra rb).2] at h;exact h
theorem yadd {v m:BitVec 64} (h:eqb (band v m) zero=true) {n:Nat} (hn:n<64) (w:World) :
  Calls Tryz.prog 125 #[N 8,Bt v m,N n] w fun e w'=>e=.returned (Bt (bshl v n) (bshl m n))∧Below w.heap.size w w':=by
 have hh:=zf6 true 8 rfl v m n hn w
 rw [(zll h n).1,(zll h n).2] at hh
 exact hh
set_option maxRecDepth 100000 in
set_option maxHeartbeats 2000000 in
theorem zsg {op:Int} {av am bv bm:BitVec 64} (hop:Hid (op=2∨op=3∨op=5∨op=6∨op=7)) (ha:Hid (eqb (band av am) zero=true)) (hb:Hid (eqb (band bv bm) zero=true)) (w:World) :
  Calls Tryz.prog 123 #[N op,Bt av am,Bt bv bm] w fun e w'=>e=.returned (Bt (twoP op av am bv bm).1 (twoP op av am bv bm).2)∧Below w.heap.size w w':=by
 have h4:(op != 4)=true:=by rcases hop.out with rfl | rfl | rfl | rfl | rfl <;> decide
 go_enter Tryz.func123,Tryz.ntmps123
 go_wp2_with fail
 refine (yadc hop.out ha.out hb.out _).mono ?_
 rintro e w1 ⟨rfl,hb1⟩
 obtain ⟨hc1,hf1,hs1⟩:=bk (w.heap.size+1+1+1) hb1 (by simp)
 go_wp2_with fail
 exact bodyPost_ret (v:=Bt (twoP op av am bv bm).1 (twoP op av am bv bm).2) (by simp [results,Tryz.results123,go_sem,hc1]) rfl ⟨rfl,(by repeat (first | exact Below.refl _ _ | assumption | refine below_drewN ?_ _ | refine Below.drew ?_ | refine Below.alloc ?_ (by first | exact Nat.le_refl _ | (simp;done) | (simp;omega) | omega) _ | refine Below.setCell ?_ (by first | exact Nat.le_refl _ | (simp;done) | (simp;omega) | omega) _ | refine Below.trans ?_ (Below.mono (by assumption) (by first | exact Nat.le_refl _ | (simp;done) | (simp;omega) | omega))))⟩
set_option maxRecDepth 100000 in
set_option maxHeartbeats 2000000 in
theorem zy6 {av am bv bm:BitVec 64} (hb:Hid (eqb (band bv bm) zero=true)) (w:World) :
  Calls Tryz.prog 123 #[N 4,Bt av am,Bt bv bm] w fun e w'=>e=.returned (Bt (mulS av am bv bm 64).1 (mulS av am bv bm 64).2)∧Below w.heap.size w w':=by
 go_enter Tryz.func123,Tryz.ntmps123
 go_wp2_with fail
 go_loopw [8] (fun i wr=>∃ k:Nat,k≤64∧i=N k
   ∧ Below (w.heap.size+1+1+1) (((w.alloc (.cells #[U av,U am] 47)).alloc (.cells #[U bv,U bm] 47)).alloc (.cells #[.int .u64 0,.int .u64 0] 47)) wr
   ∧ wr.cell? ⟨w.heap.size+1+1+1,0,none⟩=some (U (mulS av am bv bm k).1)∧wr.cell? ⟨w.heap.size+1+1+1,1,none⟩=some (U (mulS av am bv bm k).2)
   ∧ (∀ o,wr.frozen? ⟨w.heap.size+1+1+1,o,none⟩=false)
   ∧ w.heap.size+1+1+1+1≤wr.heap.size) (fun i _=>64 - (intOf i).toNat)
 case atStart =>
  exact ⟨0,by omega,rfl,(by repeat (first | exact Below.refl _ _ | assumption | refine below_drewN ?_ _ | refine Below.drew ?_ | refine Below.alloc ?_ (by first | exact Nat.le_refl _ | (simp;done) | (simp;omega) | omega) _ | refine Below.setCell ?_ (by first | exact Nat.le_refl _ | (simp;done) | (simp;omega) | omega) _ | refine Below.trans ?_ (Below.mono (by assumption) (by first | exact Nat.le_refl _ | (simp;done) | (simp;omega) | omega)))),by simp [mulS,za4,go_sem],by simp [mulS,za4,go_sem],by simp [go_sem],by simp⟩
 case round =>
  obtain ⟨k,hk,rfl,hbel,ho0,ho1,hfo,hsz⟩:=hrel
  obtain ⟨hc,hf⟩:=bl hbel
  by_cases hlt:k<64
  ·obtain ⟨z,o,H1,H2⟩:=zg0 av am k
   have Hr:Hid (eqb (band (mulS av am bv bm k).1 (mulS av am bv bm k).2) zero=true):=yafb av am bv bm k
   have Hs:Hid (mulS av am bv bm (k+1)=if bit av k then addP (mulS av am bv bm k) (bshl bv k,bshl bm k)
    else if bit am k then addP (mulS av am bv bm k) (zero,bor (bshl bv k) (bshl bm k)) else mulS av am bv bm k):=rfl
   generalize mulS av am bv bm k=S at ho0 ho1 Hs Hr
   obtain ⟨sv,sm⟩:=S
   simp only at ho0 ho1
   have Hu:Hid (eqb (band (bshl bv k) (bshl bm k)) zero=true):=yakx hb.out k
   go_wp2_with fail
   refine (zbj hlt H1 H2 _).mono ?_
   rintro e w1 ⟨rfl,hb1⟩
   obtain ⟨hc1,hf1,hs1⟩:=bk _ hb1 hsz
   go_wp2_with fail
   refine (yadd hb.out hlt _).mono ?_
   rintro e w2 ⟨rfl,hb2⟩
   obtain ⟨hc2,hf2,hs2⟩:=bk _ hb2 hs1
   have hlt1:w.heap.size+1+1+1<w2.heap.size:=by omega
   have hlt2:w.heap.size+1+1<w2.heap.size:=by omega
   have hlt3:w.heap.size+1<w2.heap.size:=by omega
   have hlt4:w.heap.size<w2.heap.size:=by omega
   have hb12:Below wr.heap.size wr w2:=hb1.trans (hb2.mono hb1.size)
   have Hz:=H1.out
   have Ho:=H2.out
   unfold mz at Hz
   unfold mo at Ho
   cases hA:bit av k <;> cases hM:bit am k
   all_goals
    rw [hA] at Hz
    rw [hA,hM] at Ho
    rw [hA,hM] at Hs
    simp only [Bool.not_true,Bool.not_false,Bool.or_false,Bool.or_true] at Hz Ho
    subst Hz
    subst Ho
    clear H1 H2 hA hM
   ·go_wp2_with fail
    exact ⟨⟨k+1,by omega,by go_num,yaar hbel (hb12.trans (((Below.refl _ _).alloc (Nat.le_refl _) _).mono hb12.size)) hsz ho0 ho1 hfo (by rw [Hs.out];rfl) (by rw [Hs.out];rfl)⟩,by simp [intOf];omega⟩
   ·go_wp2_with fail
    refine (znp (bv:=zero) Hr.out (yac1 _) _).mono ?_
    rintro e w3 ⟨rfl,hb3⟩
    obtain ⟨hc3,hf3,hs3⟩:=bk (w.heap.size+1+1+1+1) hb3 (by simp;omega)
    go_wp2_with fail
    exact ⟨⟨k+1,by omega,by go_num,zeh hbel (hb12.trans ((((Below.refl _ _).alloc (Nat.le_refl _) _).trans (hb3.mono (by simp))).mono hb12.size)) hsz ho0 ho1 hfo (by rw [Hs.out];rfl) (by rw [Hs.out];rfl)⟩,by simp [intOf];omega⟩
   all_goals
    go_wp2_with fail
    refine (znp Hr.out Hu.out _).mono ?_
    rintro e w3 ⟨rfl,hb3⟩
    obtain ⟨hc3,hf3,hs3⟩:=bk (w.heap.size+1+1+1+1) hb3 (by simp;omega)
    go_wp2_with fail
    exact ⟨⟨k+1,by omega,by go_num,zeh hbel (hb12.trans ((((Below.refl _ _).alloc (Nat.le_refl _) _).trans (hb3.mono (by simp))).mono hb12.size)) hsz ho0 ho1 hfo (by rw [Hs.out];rfl) (by rw [Hs.out];rfl)⟩,by simp [intOf];omega⟩
  ·have hk64:k=64:=by omega
   subst hk64
   go_wp2_with fail
   exact bodyPost_ret (v:=Bt (mulS av am bv bm 64).1 (mulS av am bv bm 64).2) (by simp [results,Tryz.results123,go_sem,hc]) rfl ⟨rfl,(by repeat (first | exact Below.refl _ _ | assumption | refine below_drewN ?_ _ | refine Below.drew ?_ | refine Below.alloc ?_ (by first | exact Nat.le_refl _ | (simp;done) | (simp;omega) | omega) _ | refine Below.setCell ?_ (by first | exact Nat.le_refl _ | (simp;done) | (simp;omega) | omega) _ | refine Below.trans ?_ (Below.mono (by assumption) (by first | exact Nat.le_refl _ | (simp;done) | (simp;omega) | omega))))⟩
end
theorem okc {f:Nat} {A:Array Value} {V:Value} {args:List AV} {v:AV} (h:∀ w,Calls Tryz.prog f A w fun e w'=>e=.returned V∧Below w.heap.size w w') (hA:∀ β,(args.map (AV.g β)).toArray=A) (hV:∀ β,v.g β=V) (hv:v.ks=[]):Ok f args v :=
 zd3 hA hV hv fun w _=>h w
theorem V4.rt_of {a:V4} (h:a.ok=true):a.rt=true:=(zef _ _).2 (zbf h).1
theorem zn2 {a b:V4} (ha:a.rt=true) (hb:b.rt=true):(eqb (band a.v a.m) zero&&eqb (band b.v b.m) zero)=true:=by
 rw [show eqb (band a.v a.m) zero=true from ha,show eqb (band b.v b.m) zero=true from hb];rfl
theorem zg5 {a b:V4} (ha:a.ok=true) (hb:b.ok=true):(valB a.v a.m a.l a.h&&valB b.v b.m b.l b.h)=true:=by
 rw [show valB a.v a.m a.l a.h=true from ha,show valB b.v b.m b.l b.h=true from hb];rfl
theorem znm (a:V4):Ok 98 [.ag a.cs] (.c (.i (er a.ok))):=okc (zk3 a.v a.m a.l a.h) (fun _=>rfl) (fun _=>rfl) rfl
theorem yaax (x:BitVec 64):Ok 144 [.c (.u x)] (.ag (V4.of x).cs):=okc (yait x) (fun _=>rfl) (fun _=>rfl) rfl
theorem yalw:Ok 54 [] (.ag V4.any.cs):=okc yadu (fun _=>rfl) (fun _=>rfl) rfl
theorem yafz {a b:V4} (ha:a.ok=true) (hb:b.ok=true):Ok 109 [.ag a.cs,.ag b.cs] (.tu [.ag (a.join b).cs,.c (.i 0)]) :=
 okc (zxg (zg5 ha hb)) (fun _=>rfl) (fun _=>rfl) rfl
theorem yaaa (x:BitVec 64):Ok 74 [.c (.u x)] (.ag (V4.of x).cs):=okc (zwj x) (fun _=>rfl) (fun _=>rfl) rfl
theorem zu6:Ok 73 [] (.ag V4.any.cs):=okc zq2 (fun _=>rfl) (fun _=>rfl) rfl
theorem zdn {a:V4} (hr:a.rt=true):Ok 126 [.ag a.cs] (.tu [.ag a.norm.cs,.c (.b a.nok)]):=by
 unfold V4.norm
 cases hn:a.nok
 ·exact okc (ztj hr hn) (fun _=>rfl) (fun _=>rfl) rfl
 ·exact okc (zxj hr hn) (fun _=>rfl) (fun _=>rfl) rfl
theorem yaf9 {a b:V4} (ha:a.rt=true) (hb:b.rt=true) :
  Ok 129 [.ag [.u a.v,.u a.m],.ag [.u b.v,.u b.m]] (.tu [.ag (if a.meets b then [.u (bor a.v b.v),.u (band a.m b.m)] else [.u zero,.u zero]),.c (.b (a.meets b))]):=by
 cases hm:a.meets b
 ·obtain ⟨j,hj,hno,hok⟩:=yasm hm
  exact okc (fun w=>zxm a.v a.m b.v b.m j hj hno hok w) (fun _=>rfl) (fun _=>rfl) rfl
 ·obtain ⟨h1,h2,h3⟩:=yaj5 (zn2 ha hb) hm
  refine okc (A:=#[Bt a.v a.m,Bt b.v b.m]) (V:=.tuple #[Bt (bor a.v b.v) (band a.m b.m),.bool true]) (fun w=>?_) (fun _=>rfl) (fun _=>rfl) rfl
  have h:=zoh a.v a.m b.v b.m h1 w
  rw [h2,h3] at h
  exact h
theorem znj {a:V4} {op:Int} (hop:op=8∨op=9) (hr:a.rt=true) {n:Nat} (hn:n<64) :
  Ok 125 [.c (.i op),.ag [.u a.v,.u a.m],.c (.i n)] (.ag (if op=8 then [.u (bshl a.v n),.u (bshl a.m n)] else [.u (bshr a.v n),.u (bshr a.m n)])):=by
 rcases hop with rfl | rfl
 ·refine okc (A:=#[N 8,Bt a.v a.m,N n]) (V:=Bt (bshl a.v n) (bshl a.m n)) (fun w=>?_) (fun _=>rfl) (fun _=>rfl) rfl
  have h:=zf6 true 8 rfl a.v a.m n hn w
  rw [(zll hr n).1,(zll hr n).2] at h
  exact h
 ·refine okc (A:=#[N 9,Bt a.v a.m,N n]) (V:=Bt (bshr a.v n) (bshr a.m n)) (fun w=>?_) (fun _=>rfl) (fun _=>rfl) rfl
  have h:=zf6 false 9 rfl a.v a.m n hn w
  rw [(zqc hr n).1,(zqc hr n).2] at h
  exact h
theorem zc5 {a b:V4} {op:Int} (hop:2≤op∧op≤7) (ha:a.rt=true) (hb:b.rt=true) :
  Ok 123 [.c (.i op),.ag [.u a.v,.u a.m],.ag [.u b.v,.u b.m]] (.ag [.u (twoP op a.v a.m b.v b.m).1,.u (twoP op a.v a.m b.v b.m).2]):=by
 by_cases h4:op=4
 ·subst h4;exact okc (zy6 hb) (fun _=>rfl) (fun _=>rfl) rfl
 ·exact okc (zsg (hid (by omega)) ha hb) (fun _=>rfl) (fun _=>rfl) rfl
theorem zd0 (a:V4):Ok 39 [.ag a.cs] (.c (.b a.alone)):=zzk
theorem zd4 (a b:V4) (i1 i2:Bool):Ok 128 [.ag a.cs,.c (.b i1),.ag b.cs,.c (.b i2)] (.tu [.ag (lvV (i1&&i2) a).cs,.ag (lvV (i1&&i2) b).cs,.c (.b (i1&&i2))]):=by
 cases i1
 ·exact yacz rfl
 ·cases i2
  ·exact yaez rfl
  ·exact yadx rfl
theorem zga (a:V4):a.norm=lvV a.nok a.nrm:=rfl
theorem yai3 (p q:Bool) (a:V4):lvV p (lvV q a)=lvV (p&&q) a:=by cases p <;> cases q <;> rfl
theorem zmb {a b:V4} (ha:a.ok=true) (hb:b.ok=true):Ok 78 [.ag a.cs,.ag b.cs] (.tu [.ag (a.equal b).1.cs,.ag (a.equal b).2.1.cs,.c (.b (a.equal b).2.2)]):=by
 have hm:=yaf9 (V4.rt_of ha) (V4.rt_of hb)
 unfold V4.equal
 cases h:a.meets b with
 | false=>rw [h] at hm;exact zxn rfl hm
 | true =>
  rw [h] at hm
  have hrt:(a.rawEqual b).rt=true:=(zef _ _).2 (by
   have r1:=(zbf ha).1
   have r2:=(zbf hb).1
   intro j
   have h3:=r1 j;have h4:=r2 j
   show (bit (bor a.v b.v) j&&bit (band a.m b.m) j)=false
   rw [zaq,zaz]
   revert h3 h4
   cases bit a.v j <;> cases bit a.m j <;> cases bit b.v j <;> cases bit b.m j <;> simp)
  have hn:=zdn hrt
  have hbt:=zd4 (a.rawEqual b).norm (a.rawEqual b).norm (a.rawEqual b).nok (a.rawEqual b).nok
  have:=zyr rfl hm hn hbt
  rw [zga,yai3] at this
  simp only [if_true,zgy,Bool.true_and]
  cases hk:(a.rawEqual b).nok <;> rw [hk] at this <;> exact this
theorem zpg {a b:V4} (ha:a.ok=true) (hb:b.ok=true):Ok 81 [.ag a.cs,.ag b.cs] (.tu [.ag (a.less b).1.cs,.ag (a.less b).2.1.cs,.c (.b (a.less b).2.2)]):=by
 unfold V4.less
 cases h1:eqb b.h zero with
 | true=>exact yagb (by rw [show eqb b.h 0#64=true from h1];rfl)
 | false =>
  cases h2:eqb a.l top with
  | true=>exact yaft (by rw [show eqb b.h 0#64=false from h1,show eqb a.l 18446744073709551615#64=true from h2];rfl)
  | false =>
   have n1:=zdn (a:=⟨a.v,a.m,a.l,bmin a.h (bsub b.h one)⟩) (show a.rt=true from V4.rt_of ha)
   have n2:=zdn (a:=⟨b.v,b.m,bmax b.l (badd a.l one),b.h⟩) (show b.rt=true from V4.rt_of hb)
   have:=yafx (a:=a) (b:=b) (by rw [show eqb b.h 0#64=false from h1,show eqb a.l 18446744073709551615#64=false from h2];rfl) n1 n2 (zd4 _ _ _ _)
   rw [zga,zga,yai3,yai3] at this
   simp only [Bool.or_self,Bool.false_eq_true,if_false,zgy,Bool.true_and]
   revert this
   generalize V4.nok _=k1
   generalize V4.nok _=k2
   intro this
   cases k1 <;> cases k2 <;> exact this
theorem ziu {a b:V4} (ha:a.ok=true) (hb:b.ok=true):Ok 80 [.ag a.cs,.ag b.cs] (.tu [.ag (a.notLess b).1.cs,.ag (a.notLess b).2.1.cs,.c (.b (a.notLess b).2.2)]):=by
 have n1:=zdn (a:=⟨a.v,a.m,bmax a.l b.l,a.h⟩) (show a.rt=true from V4.rt_of ha)
 have n2:=zdn (a:=⟨b.v,b.m,b.l,bmin b.h a.h⟩) (show b.rt=true from V4.rt_of hb)
 have:=zq8 (a:=a) (b:=b) n1 n2 (zd4 _ _ _ _)
 rw [zga,zga,yai3,yai3] at this
 unfold V4.notLess
 simp only [zgy,Bool.true_and]
 revert this
 generalize V4.nok _=k1
 generalize V4.nok _=k2
 intro this
 cases k1 <;> cases k2 <;> exact this
theorem zuh {a:V4} (hr:a.rt=true) (x:BitVec 64) :
  Ok 127 [.ag a.cs,.c (.u x)] (.tu [.ag (lvV (!(a.alone&&eqb a.l x)) (a.without (V4.of x)).norm).cs,.c (.b (!(a.alone&&eqb a.l x)&&(a.without (V4.of x)).nok))]):=by
 have hx:eqb x x=true:=zjn x
 have hal:=zd0 a
 have e0:a.without (V4.of x)=⟨a.v,a.m,if eqb a.l x then badd a.l one else a.l,if !eqb a.l x&&eqb a.h x then bsub a.h one else a.h⟩:=by
  simp only [V4.without,V4.of,woL,woH,hx,Bool.true_and]
 have hn:∀ l h,Ok 126 [.ag (V4.cs ⟨a.v,a.m,l,h⟩)] (.tu [.ag (V4.norm ⟨a.v,a.m,l,h⟩).cs,.c (.b (V4.nok ⟨a.v,a.m,l,h⟩))]):=fun l h=>zdn (a:=⟨a.v,a.m,l,h⟩) (show a.rt=true from hr)
 rw [e0]
 cases h1:eqb a.l x with
 | true =>
  cases h2:a.alone with
  | true=>rw [h2] at hal;exact yagw (by rw [h1];rfl) hal
  | false=>rw [h2] at hal;exact yahw (by rw [h1];rfl) hal (hn (badd a.l one) a.h)
 | false =>
  cases h2:a.alone with
  | true =>
   rw [h2] at hal
   cases h3:eqb a.h x with
   | true=>exact yald (by rw [h1,h3];rfl) hal (hn a.l (bsub a.h one))
   | false=>exact yakt (by rw [h1,h3];rfl) hal (hn a.l a.h)
  | false =>
   rw [h2] at hal
   cases h3:eqb a.h x with
   | true=>exact yajy (by rw [h1,h3];rfl) hal (hn a.l (bsub a.h one))
   | false=>exact yak3 (by rw [h1,h3];rfl) hal (hn a.l a.h)
theorem V4.norm_ok {a:V4} (h:a.ok=true):a.nok=true∧a.nrm=a∧a.norm=a:=by
 obtain ⟨h1,h2,h3,h4,h5⟩:=zp2 h
 have e:a.nrm=a:=by cases a;simp only [V4.nrm] at *;rw [h2,h3,h4,h5]
 refine ⟨h1,e,?_⟩
 unfold V4.norm
 rw [show a.nok=true from h1]
 exact e
theorem zfx {a b:V4} (h:b.alone=false):a.without b=a:=by
 have h':eqb b.l b.h=false:=h
 simp only [V4.without,woL,woH,h',Bool.false_and]
 rfl
theorem zem {a b:V4} (h:b.alone=true):a.without b=a.without (V4.of b.l):=by
 have h':eqb b.l b.h=true:=h
 simp only [V4.without,V4.of,woL,woH,h',zjn]
theorem zm6 {a b:V4} (ha:a.ok=true) (hb:b.ok=true):Ok 77 [.ag a.cs,.ag b.cs] (.tu [.ag (a.other b).1.cs,.ag (a.other b).2.1.cs,.c (.b (a.other b).2.2)]):=by
 have a1:=zd0 a
 have b1:=zd0 b
 have na:=V4.norm_ok ha
 have nb:=V4.norm_ok hb
 have ra:=zuh (V4.rt_of ha) b.l
 have rb:=zuh (V4.rt_of hb) a.l
 unfold V4.other
 cases h1:b.alone with
 | true =>
  cases h2:a.alone with
  | true =>
   rw [h1] at b1;rw [h2] at a1
   rw [h2] at ra;rw [h1] at rb
   have hsym:eqb b.l a.l=eqb a.l b.l:=by rw [Bool.eq_iff_iff,zdl,zdl];exact eq_comm
   have:=zyx rfl b1 ra a1 rb (zd4 _ _ _ _)
   rw [hsym,zga,zga] at this
   rw [zem h1,zem h2]
   simp only [zgy]
   revert this
   generalize V4.nrm _=n1
   generalize V4.nrm _=n2
   generalize V4.nok _=k1
   generalize V4.nok _=k2
   generalize eqb a.l b.l=q
   intro this
   cases k1 <;> cases k2 <;> cases q <;> exact this
  | false =>
   rw [h1] at b1;rw [h2] at a1
   rw [h2] at ra
   have:=ztw rfl b1 ra a1 (zd4 _ b _ _)
   rw [zga] at this
   rw [zem h1,zfx h2]
   simp only [zgy,nb.1,nb.2.1]
   revert this
   generalize V4.nrm _=n1
   generalize V4.nok _=k1
   intro this
   cases k1 <;> exact this
 | false =>
  cases h2:a.alone with
  | true =>
   rw [h1] at b1;rw [h2] at a1
   rw [h1] at rb
   have:=zs5 rfl b1 a1 rb (zd4 a _ _ _)
   rw [zga] at this
   rw [zem h2,zfx h1]
   simp only [zgy,na.1,na.2.1]
   revert this
   generalize V4.nrm _=n1
   generalize V4.nok _=k1
   intro this
   cases k1 <;> exact this
  | false =>
   rw [h1] at b1;rw [h2] at a1
   have:=zvu rfl b1 a1 (zd4 a b _ _)
   rw [zfx h2,zfx h1]
   simp only [zgy,na.1,na.2.1,nb.1,nb.2.1]
   exact this
theorem zcu {n:V4} (hr:n.rt=true):Hid (∀ w,Calls Tryz.prog 156 #[Vl n.v n.m n.l n.h] w fun e w'=>e=.returned (.tuple #[Vl n.norm.v n.norm.m n.norm.l n.norm.h,.bool n.nok,N 0])∧Below w.heap.size w w'):=by
 intro w
 unfold V4.norm
 cases hn:n.nok
 ·exact zte hr hn w
 ·exact zq1 hr hn w
def Four (f:Nat) (a b:V4) (r:V4×V4×Bool):Prop:=Ok f [.ag a.cs,.ag b.cs] (.tu [.ag r.1.cs,.ag r.2.1.cs,.c (.b r.2.2),.c (.i 0)])
theorem zkj {f:Nat} {a b x y:V4} {may:Bool} (h:∀ w,Calls Tryz.prog f #[Vl a.v a.m a.l a.h,Vl b.v b.m b.l b.h] w fun e w'=>e=.returned (.tuple #[lv (may&&(x.nok&&y.nok)) (Vl x.norm.v x.norm.m x.norm.l x.norm.h),lv (may&&(x.nok&&y.nok)) (Vl y.norm.v y.norm.m y.norm.l y.norm.h),.bool (may&&(x.nok&&y.nok)),N 0])∧Below w.heap.size w w') :
  Four f a b (zgy may x y):=by
 refine okc h (fun _=>rfl) (fun _=>?_) ?_
 ·simp only [zgy,V4.norm]
  cases may <;> cases x.nok <;> cases y.nok <;> rfl
 ·rfl
theorem zgt {a b:V4} (ha:a.ok=true) (hb:b.ok=true):Four 104 a b (a.equal b):=by
 have r1:=V4.rt_of ha
 have r2:=V4.rt_of hb
 have hbb:=zg5 ha hb
 unfold V4.equal
 cases hm:a.meets b with
 | false =>
  have n:=zcu (n:=⟨zero,zero,bmax a.l b.l,bmin a.h b.h⟩) ((zef _ _).2 (zn1 zero))
  have:=zkj (f:=104) (a:=a) (b:=b) (may:=false) fun w=>zgv hbb w (hid (fun B w' hc=>zvh hc (hid (fun w=>yat5 (zn2 r1 r2) hm w)) rfl rfl)) n n
  exact this
 | true =>
  have hrt:(a.rawEqual b).rt=true:=(zef _ _).2 (by
   have r1:=(zbf ha).1
   have r2:=(zbf hb).1
   intro j
   have h3:=r1 j;have h4:=r2 j
   show (bit (bor a.v b.v) j&&bit (band a.m b.m) j)=false
   rw [zaq,zaz]
   revert h3 h4
   cases bit a.v j <;> cases bit a.m j <;> cases bit b.v j <;> cases bit b.m j <;> simp)
  exact zkj (f:=104) (a:=a) (b:=b) (may:=true) fun w=>zgv hbb w (hid (fun B w' hc=>zvh hc (hid (fun w=>yahv (zn2 r1 r2) hm w)) rfl rfl)) (zcu hrt) (zcu hrt)
theorem zgs {a b:V4} (ha:a.ok=true) (hb:b.ok=true):Four 103 a b (a.other b) :=
 zkj (f:=103) (a:=a) (b:=b) fun w=>zmo (zg5 ha hb) w (hid (fun _ _ hc=>yaj2 hc rfl)) (zcu (n:=a.without b) (show a.rt=true from V4.rt_of ha)) (zcu (n:=b.without a) (show b.rt=true from V4.rt_of hb))
theorem zii {a b:V4} (ha:a.ok=true) (hb:b.ok=true):Four 106 a b (a.less b):=by
 unfold V4.less
 cases hz:(eqb b.h zero||eqb a.l top) with
 | true =>
  have:=zkj (f:=106) (a:=a) (b:=b) (may:=false) fun w=>zh4 (zg5 ha hb) w (hid (fun B w' hc=>yap1 hc hz)) (zcu (V4.rt_of ha)) (zcu (V4.rt_of hb))
  exact this
 | false =>
  rw [Bool.or_eq_false_iff] at hz
  have n1:=zcu (n:=⟨a.v,a.m,bmax a.l a.l,bmin a.h (bsub b.h one)⟩) (show a.rt=true from V4.rt_of ha)
  have n2:=zcu (n:=⟨b.v,b.m,bmax b.l (badd a.l one),bmin b.h b.h⟩) (show b.rt=true from V4.rt_of hb)
  have:=zkj (f:=106) (a:=a) (b:=b) (may:=true) fun w=>zh4 (zg5 ha hb) w (hid (fun B w' hc=>yagk hc hz.1 hz.2)) n1 n2
  rw [zva,ztu] at this
  exact this
theorem zfd {a b:V4} (ha:a.ok=true) (hb:b.ok=true):Four 105 a b (a.notLess b):=by
 have n1:=zcu (n:=⟨a.v,a.m,bmax a.l b.l,bmin a.h a.h⟩) (show a.rt=true from V4.rt_of ha)
 have n2:=zcu (n:=⟨b.v,b.m,bmax b.l b.l,bmin b.h a.h⟩) (show b.rt=true from V4.rt_of hb)
 have:=zkj (f:=105) (a:=a) (b:=b) (may:=true) fun w=>zkd (zg5 ha hb) w (hid (fun B w' hc=>zya hc)) n1 n2
 rw [zva,ztu] at this
 exact this
theorem zgc (y:BitVec 64):IntKind.wrap IntKind.i64 (nv (band y 63#64))=(six y:Int):=by
 have h:=zn5 y
 rw [zud,IntKind.wrap_i64]
 omega
theorem yakg {a:V4} (h:a.ok=true):hasV a.v a.m a.l a.h a.l=true:=by
 obtain ⟨_,h2,_,h4,_⟩:=zbf h
 unfold hasV
 rw [show valB a.v a.m a.l a.h=true from h,h2]
 simp [h4]
theorem yal0 {a b:V4} {op:Int} (hop:2≤op∧op≤9) (ha:a.ok=true) (hb:b.ok=true):(V4.raw2 op a b).rt=true :=
 (zef _ _).2 (yab7 hop (yakg ha) (yakg hb)).1
theorem zp8 {a b:V4} {op:Int} (hop:2≤op∧op≤9) (ha:a.ok=true) (hb:b.ok=true):Ok 108 [.c (.i op),.ag a.cs,.ag b.cs] (.tu [.ag (V4.two op a b).cs,.c (.i 0)]):=by
 have hr:=yal0 hop ha hb
 unfold V4.two V4.norm
 cases hn:(V4.raw2 op a b).nok
 ·exact okc (zuj (zg5 ha hb) hop hr hn) (fun _=>rfl) (fun _=>rfl) rfl
 ·exact okc (zyg (zg5 ha hb) hop hr hn) (fun _=>rfl) (fun _=>rfl) rfl
theorem yaf7 (x y:BitVec 64):Ok 124 [.c (.u x),.c (.u y)] (.c (.b (zxo x y))):=by
 unfold zxo
 cases h:eqb y zero with
 | true=>exact yacr (by rw [show eqb y 0#64=true from h];rfl)
 | false =>
  have e:decide (18446744073709551615 / nv y<nv x)=decide (nv (18446744073709551615#64 / y)<nv x):=by
   have:nv (18446744073709551615#64 / y)=18446744073709551615 / nv y:=by
    unfold nv
    rw [BitVec.toNat_udiv]
    rfl
   rw [this]
  rw [e]
  exact yadf (by rw [show eqb y 0#64=false from h,h];rfl)
theorem zi2 {a b:V4} {op:Int} (hop:2≤op∧op≤9) (ha:a.ok=true) (hb:b.ok=true):Ok 76 [.c (.i op),.ag a.cs,.ag b.cs] (.ag (V4.two op a b).cs):=by
 have ra:=V4.rt_of ha
 have rb:=V4.rt_of hb
 have hrt:=yal0 hop ha hb
 have hn:=zdn hrt
 have hcase:op=2∨op=3∨op=4∨op=5∨op=6∨op=7∨op=8∨op=9:=by omega
 rcases hcase with rfl | rfl | rfl | rfl | rfl | rfl | rfl | rfl
 ·have ht:=zc5 (op:=2) (by decide) ra rb
  by_cases hc:decide (nv (badd a.l b.l)<nv a.l)=decide (nv (badd a.h b.h)<nv a.h)
  ·have e:V4.raw2 2 a b=⟨(twoP 2 a.v a.m b.v b.m).1,(twoP 2 a.v a.m b.v b.m).2,badd a.l b.l,badd a.h b.h⟩:=by
    simp only [V4.raw2,rk,zcd,addB,if_pos hc];rfl
   unfold V4.two
   rw [e] at hn ⊢
   exact yadp (by rw [hc];simp) ht hn
  ·have e:V4.raw2 2 a b=⟨(twoP 2 a.v a.m b.v b.m).1,(twoP 2 a.v a.m b.v b.m).2,zero,top⟩:=by
    simp only [V4.raw2,rk,zcd,addB,if_neg hc];rfl
   unfold V4.two
   rw [e] at hn ⊢
   exact yaf1 (by simpa using hc) ht hn
 ·have ht:=zc5 (op:=3) (by decide) ra rb
  by_cases hc:decide (nv a.l<nv b.h)=decide (nv a.h<nv b.l)
  ·have e:V4.raw2 3 a b=⟨(twoP 3 a.v a.m b.v b.m).1,(twoP 3 a.v a.m b.v b.m).2,bsub a.l b.h,bsub a.h b.l⟩:=by
    simp only [V4.raw2,rk,zcd,subB,if_pos hc];rfl
   unfold V4.two
   rw [e] at hn ⊢
   exact yaec (by rw [hc];simp) ht hn
  ·have e:V4.raw2 3 a b=⟨(twoP 3 a.v a.m b.v b.m).1,(twoP 3 a.v a.m b.v b.m).2,zero,top⟩:=by
    simp only [V4.raw2,rk,zcd,subB,if_neg hc];rfl
   unfold V4.two
   rw [e] at hn ⊢
   exact yadg (by simpa using hc) ht hn
 ·have ht:=zc5 (op:=4) (by decide) ra rb
  have ho:=yaf7 a.h b.h
  cases hc:zxo a.h b.h with
  | false =>
   have e:V4.raw2 4 a b=⟨(twoP 4 a.v a.m b.v b.m).1,(twoP 4 a.v a.m b.v b.m).2,bmul a.l b.l,bmul a.h b.h⟩:=by
    simp only [V4.raw2,rk,zcd,mulB,hc];rfl
   unfold V4.two
   rw [e] at hn ⊢
   rw [hc] at ho
   exact yaf4 rfl ht ho hn
  | true =>
   have e:V4.raw2 4 a b=⟨(twoP 4 a.v a.m b.v b.m).1,(twoP 4 a.v a.m b.v b.m).2,zero,top⟩:=by
    simp only [V4.raw2,rk,zcd,mulB,hc];rfl
   unfold V4.two
   rw [e] at hn ⊢
   rw [hc] at ho
   exact yage rfl ht ho hn
 ·exact yad7 (zc5 (op:=5) (by decide) ra rb) hn
 ·exact yafj (zc5 (op:=6) (by decide) ra rb) hn
 ·exact yaea (zc5 (op:=7) (by decide) ra rb) hn
 ·have hal:=zd0 b
  have hlt:=zn5 b.l
  cases hc:b.alone with
  | false =>
   have e:V4.raw2 8 a b=⟨zero,top,zero,top⟩:=by
    have hc':eqb b.l b.h=false:=hc
    simp only [V4.raw2,rk,hc',if_true];rfl
   unfold V4.two
   rw [e] at hn ⊢
   rw [hc] at hal
   exact zyt rfl hal hn
  | true =>
   have hc':eqb b.l b.h=true:=hc
   have hs:=znj (a:=a) (op:=8) (Or.inl rfl) ra hlt
   rw [hc] at hal
   rw [← zgc] at hs
   have e6:Int.toNat (IntKind.wrap IntKind.i64 (nv (band b.l 63#64)))=six b.l:=by rw [zgc];rfl
   unfold V4.two
   cases hq:eqb (bshr (bshl a.h (six b.l)) (six b.l)) a.h with
   | true =>
    have e:V4.raw2 8 a b=⟨bshl a.v (six b.l),bshl a.m (six b.l),bshl a.l (six b.l),bshl a.h (six b.l)⟩:=by
     simp only [V4.raw2,rk,hc',if_true,shlB,hq]
    rw [e] at hn ⊢
    rw [← e6] at hn
    rw [← e6] at hs
    have:=zyw (a:=a) (b:=b) (al:=true) (by rw [e6,zgc,hq];simp;omega) hal hs hn
    rw [e6] at this
    exact this
   | false =>
    have e:V4.raw2 8 a b=⟨bshl a.v (six b.l),bshl a.m (six b.l),zero,top⟩:=by
     simp only [V4.raw2,rk,hc',if_true,shlB,hq];rfl
    rw [e] at hn ⊢
    exact zxz (a:=a) (b:=b) (al:=true) (by rw [e6,zgc,hq];simp;omega) hal hs hn
 ·have hal:=zd0 b
  have hlt:=zn5 b.l
  cases hc:b.alone with
  | false =>
   have e:V4.raw2 9 a b=⟨zero,top,zero,a.h⟩:=by
    have hc':eqb b.l b.h=false:=hc
    simp only [V4.raw2,rk,hc'];rfl
   unfold V4.two
   rw [e] at hn ⊢
   rw [hc] at hal
   exact zwp rfl hal hn
  | true =>
   have hc':eqb b.l b.h=true:=hc
   have hs:=znj (a:=a) (op:=9) (Or.inr rfl) ra hlt
   rw [hc] at hal
   rw [← zgc] at hs
   have e6:Int.toNat (IntKind.wrap IntKind.i64 (nv (band b.l 63#64)))=six b.l:=by rw [zgc];rfl
   have e:V4.raw2 9 a b=⟨bshr a.v (six b.l),bshr a.m (six b.l),bshr a.l (six b.l),bshr a.h (six b.l)⟩:=by
    simp only [V4.raw2,rk,hc'];rfl
   unfold V4.two
   rw [e] at hn ⊢
   rw [← e6] at hn
   rw [← e6] at hs
   have:=zzc (a:=a) (b:=b) (al:=true) (by rw [zgc];simp;omega) hal hs hn
   rw [e6] at this
   exact this
theorem ztd {n:Int} (hn:n=1∨n=2∨n=4∨n=8):Ok 101 [.c (.i n)] (.tu [.ag (V4.bytes n).cs,.c (.i 0)]):=by
 rcases hn with rfl | rfl | rfl | rfl
 ·exact zvg (by decide +kernel)
 ·exact zuy (by decide +kernel)
 ·exact zwh (by decide +kernel)
 ·exact zvb (by decide +kernel)
theorem zw9 {n:Int} (hn:n=1∨n=2∨n=4∨n=8):Ok 83 [.c (.i n)] (.ag (V4.bytes n).cs):=by
 rcases hn with rfl | rfl | rfl | rfl
 ·exact zh7 (by decide +kernel)
 ·exact zh7 (by decide +kernel)
 ·exact zh7 (by decide +kernel)
 ·exact zzl rfl zu6
section
variable {w:World} {β:Bs} {n:Nat}
end
theorem p_at {P:Program} {f:Nat} {args args':List AV} {L:List Ins} {e:Eff} (h:CallOK P ⟨f,args,pH L,e⟩) (K:Nat) (b:Bool) (ha:args.map (AV.ren (swp 0 K))=args') (he:e.ren (swp 0 K)=e):CallOK P ⟨f,args',[(K,⟨b,pcell L,0⟩)],e⟩:=by
 have h1:=h.ren (swp 0 K) (zbl 0 K)
 unfold CallRec.ren at h1
 simp only [ha,he] at h1
 refine h1.more ⟨fun k en hk=>?_⟩
 have e1:renH (swp 0 K) (pH L)=[(K,⟨false,pcell L,0⟩)]:=by
  show [(swp 0 K 0,Ent.mk false ((pcell L).map (AC.ren (swp 0 K))) 0)]=_
  rw [zck _ (zaj L)]
  rfl
 rw [e1,zav] at hk
 split at hk
 ·rename_i hk'
  injection hk with hk
  subst hk hk'
  exact ⟨⟨b,pcell L,0⟩,by rw [zav,if_pos rfl],rfl,fun h=>(by cases h),Or.inl rfl⟩
 ·cases hk
section
abbrev zbg (t:St) (j:Int):Kn:=⟨[(1,.c (.w 0)),(14,.ag (bcs t.s)),(15,.c (.i j))],[(0,Ent.mk true t.cs 0)],1⟩
abbrev zcc (t u b:St) (j:Int):Kn:=⟨[(2,.c (.w 0)),(3,.c (.w 1)),(4,.c (.w 2)),(6,.c (.w 19)),(28,.c (.i j))],[(0,Ent.mk true t.cs 0),(1,Ent.mk true u.cs 0),(2,Ent.mk true St.z.cs 0),(19,Ent.mk true b.cs 0)],20⟩
variable {t u b b2:St} {d j e f:Int} {a:V4} {w:World} {β:Bs} {n:Nat} {C:Cx} {R:Ending→World→Prop} {E:Eff} {m:Mach}
theorem yapr (h:(decide (0≤d)&&decide (d<6)&&(Nat.ble (1+d.toNat*1+1) (t.cs).length&&true&&(decide (0≤d)&&decide (d<6)&&(Nat.ble (7+d.toNat*4+(a.cs).length) ((St.mk t.live ((t.s).set d.toNat true) t.r).cs).length&&true&&true))))=true) (c0:we 0 ((t.cs).set (1+d.toNat*1) (.b true))=we 0 ((St.mk t.live ((t.s).set d.toNat true) t.r).cs)) (c1:we 0 (splice (St.mk t.live ((t.s).set d.toNat true) t.r).cs (7+d.toNat*4) a.cs)=we 0 ((St.wth t d.toNat a).cs)) :
  Ok 53 [.ag t.cs,.c (.i d),.ag a.cs] (.ag [.b t.live,.b ((t.s).set d.toNat true).x0,.b ((t.s).set d.toNat true).x1,.b ((t.s).set d.toNat true).x2,.b ((t.s).set d.toNat true).x3,.b ((t.s).set d.toNat true).x4,.b ((t.s).set d.toNat true).x5,.u (((t.r).set d.toNat a).x0).v,.u (((t.r).set d.toNat a).x0).m,.u (((t.r).set d.toNat a).x0).l,.u (((t.r).set d.toNat a).x0).h,.u (((t.r).set d.toNat a).x1).v,.u (((t.r).set d.toNat a).x1).m,.u (((t.r).set d.toNat a).x1).l,.u (((t.r).set d.toNat a).x1).h,.u (((t.r).set d.toNat a).x2).v,.u (((t.r).set d.toNat a).x2).m,.u (((t.r).set d.toNat a).x2).l,.u (((t.r).set d.toNat a).x2).h,.u (((t.r).set d.toNat a).x3).v,.u (((t.r).set d.toNat a).x3).m,.u (((t.r).set d.toNat a).x3).l,.u (((t.r).set d.toNat a).x3).h,.u (((t.r).set d.toNat a).x4).v,.u (((t.r).set d.toNat a).x4).m,.u (((t.r).set d.toNat a).x4).l,.u (((t.r).set d.toNat a).x4).h,.u (((t.r).set d.toNat a).x5).v,.u (((t.r).set d.toNat a).x5).m,.u (((t.r).set d.toNat a).x5).l,.u (((t.r).set d.toNat a).x5).h]) :=
 zaf [] ([]) [(1,5),(1,8)] Tryz.func53 rfl rfl rfl rfl (by kernel_rfl) h (zac c0 (zac c1 zae))
theorem yajs (c0:Ok 54 [] (.ag a.cs)) (c1:Ok 53 [.ag St.e.cs,.c (.i 1),.ag a.cs] (.ag t.cs)) :
  Ok 20 [] (.ag t.cs) :=
 zaf [] ([]) [] Tryz.func20 rfl rfl rfl rfl (by kernel_rfl) rfl (zab c0 (zab c1 zae))
theorem yamb (h:(!t.live&&(!eqCs t.cs St.z.cs&&true))=true) :
  BO 56 Tryz.f56 (cx w β n []) [.ag t.cs] [] 0 (REff w β ⟨.c (.i 1),[],none⟩) :=
 zah [] none [true,true] ([true]) [] Tryz.func56 (zat rfl n) (by kernel_rfl) h zae
theorem yan9 (h:(!t.live&&(!!eqCs t.cs St.z.cs&&true))=true) (lo:Kn.Low (zbg t 0)) (hF:∀ k,C.F k→k<1) (z:AR 56 Tryz.f56 C 0 (zbg t 0) R) :
  BO 56 Tryz.f56 C [.ag t.cs] [] 0 R :=
 zai [true,false] ([true]) [] Tryz.func56 (by kernel_rfl) h zae lo hF z
theorem yan7 (h:(!!t.live&&true)=true) (lo:Kn.Low (zbg t 0)) (hF:∀ k,C.F k→k<1) (z:AR 56 Tryz.f56 C 0 (zbg t 0) R) :
  BO 56 Tryz.f56 C [.ag t.cs] [] 0 R :=
 zai [false,false] ([true]) [] Tryz.func56 (by kernel_rfl) h zae lo hF z
theorem yajv (hn:n≤1)
  (l0:(!t.live)=true→(!eqCs t.cs St.z.cs)=true→((⟨.c (.i 1),[],none⟩:Eff)=E))
  (l1:(!t.live)=true→(!eqCs t.cs St.z.cs)=false→Kn.Low (zbg t 0)∧AR 56 Tryz.f56 (cx w β n []) 0 (zbg t 0) (REff w β E))
  (l2:(!t.live)=false→Kn.Low (zbg t 0)∧AR 56 Tryz.f56 (cx w β n []) 0 (zbg t 0) (REff w β E)) :
  BO 56 Tryz.f56 (cx w β n []) [.ag t.cs] [] 0 (REff w β E) :=
 (tf (!t.live)).elim (fun h0=>(tf (!eqCs t.cs St.z.cs)).elim (fun h1=>(match l0 h0 h1 with | e=>za6 (yamb (zaa h0 (zaa h1 rfl))) e)) (fun h1=>(match l1 h0 h1 with | ⟨lo,z⟩=>yan9 (zaa h0 (zaa (zad h1) rfl)) lo (fun _ hk=>Nat.lt_of_lt_of_le hk hn) z))) (fun h0=>(match l2 h0 with | ⟨lo,z⟩=>yan7 (zaa (zad h0) rfl) lo (fun _ hk=>Nat.lt_of_lt_of_le hk hn) z))
theorem yae2 (h:(decide (j<6)&&(AC.isB ((bcs t.s)[j.toNat*1]?.getD (.b false))&&Nat.blt (j.toNat*1) (bcs t.s).length&&(decide (0≤j)&&decide (j<6))&&((t.s).get j.toNat&&(decide (0≤j)&&decide (j<6)&&(Nat.ble (7+j.toNat*4+4) (t.cs).length&&(er (V4.ok ((t.r).get j.toNat)) != 0&&true))))))=true) (c0:pe (.c (.b (AC.asB ((bcs t.s)[j.toNat*1]?.getD (.b false)))))=pe (.c (.b ((t.s).get j.toNat)))) (c1:pe (.ag (((t.cs).drop (7+j.toNat*4)).take 4))=pe (.ag ((t.r).get j.toNat).cs)) (c2:Ok 98 [.ag ((t.r).get j.toNat).cs] (.c (.i (er (V4.ok ((t.r).get j.toNat)))))) :
  AR 56 Tryz.f56 (cx w β n []) 0 (zbg t j) (REff w β ⟨.c (.i 1),[],none⟩) :=
 zah [] none [true,true,true,true] ([true]) [(5,1),(6,5),(6,16)] Tryz.func56 (zat rfl n) (by kernel_rfl) h (zac c0 (zac c1 (zab c2 zae)))
theorem yac6 (h:(decide (j<6)&&(AC.isB ((bcs t.s)[j.toNat*1]?.getD (.b false))&&Nat.blt (j.toNat*1) (bcs t.s).length&&(decide (0≤j)&&decide (j<6))&&((t.s).get j.toNat&&(decide (0≤j)&&decide (j<6)&&(Nat.ble (7+j.toNat*4+4) (t.cs).length&&(!er (V4.ok ((t.r).get j.toNat)) != 0&&(!!(t.s).get j.toNat&&true)))))))=true) (c0:pe (.c (.b (AC.asB ((bcs t.s)[j.toNat*1]?.getD (.b false)))))=pe (.c (.b ((t.s).get j.toNat)))) (c1:pe (.ag (((t.cs).drop (7+j.toNat*4)).take 4))=pe (.ag ((t.r).get j.toNat).cs)) (c2:Ok 98 [.ag ((t.r).get j.toNat).cs] (.c (.i (er (V4.ok ((t.r).get j.toNat)))))) (lo:Kn.Low (zbg t (IntKind.i64.wrap (j+1)))) (hF:∀ k,C.F k→k<1) (z:AR 56 Tryz.f56 C 0 (zbg t (IntKind.i64.wrap (j+1))) R) :
  AR 56 Tryz.f56 C 0 (zbg t j) R :=
 zai [true,true,false,false,false] ([true]) [(5,1),(6,5),(6,16)] Tryz.func56 (by kernel_rfl) h (zac c0 (zac c1 (zab c2 zae))) lo hF z
theorem yaga (h:(decide (j<6)&&(AC.isB ((bcs t.s)[j.toNat*1]?.getD (.b false))&&Nat.blt (j.toNat*1) (bcs t.s).length&&(decide (0≤j)&&decide (j<6))&&(!(t.s).get j.toNat&&(!(t.s).get j.toNat&&(decide (0≤j)&&decide (j<6)&&(Nat.ble (7+j.toNat*4+4) (t.cs).length&&(!eqCs ((t.r).get j.toNat).cs [.u 0#64,.u 0#64,.u 0#64,.u 0#64]&&true)))))))=true) (c0:pe (.c (.b (AC.asB ((bcs t.s)[j.toNat*1]?.getD (.b false)))))=pe (.c (.b ((t.s).get j.toNat)))) (c1:pe (.ag (((t.cs).drop (7+j.toNat*4)).take 4))=pe (.ag ((t.r).get j.toNat).cs)) :
  AR 56 Tryz.f56 (cx w β n []) 0 (zbg t j) (REff w β ⟨.c (.i 1),[],none⟩) :=
 zah [] none [true,false,false,true,true] ([true]) [(5,1),(6,5),(6,16)] Tryz.func56 (zat rfl n) (by kernel_rfl) h (zac c0 (zac c1 zae))
theorem yafl (h:(decide (j<6)&&(AC.isB ((bcs t.s)[j.toNat*1]?.getD (.b false))&&Nat.blt (j.toNat*1) (bcs t.s).length&&(decide (0≤j)&&decide (j<6))&&(!(t.s).get j.toNat&&(!(t.s).get j.toNat&&(decide (0≤j)&&decide (j<6)&&(Nat.ble (7+j.toNat*4+4) (t.cs).length&&(!!eqCs ((t.r).get j.toNat).cs [.u 0#64,.u 0#64,.u 0#64,.u 0#64]&&true)))))))=true) (c0:pe (.c (.b (AC.asB ((bcs t.s)[j.toNat*1]?.getD (.b false)))))=pe (.c (.b ((t.s).get j.toNat)))) (c1:pe (.ag (((t.cs).drop (7+j.toNat*4)).take 4))=pe (.ag ((t.r).get j.toNat).cs)) (lo:Kn.Low (zbg t (IntKind.i64.wrap (j+1)))) (hF:∀ k,C.F k→k<1) (z:AR 56 Tryz.f56 C 0 (zbg t (IntKind.i64.wrap (j+1))) R) :
  AR 56 Tryz.f56 C 0 (zbg t j) R :=
 zai [true,false,false,true,false] ([true]) [(5,1),(6,5),(6,16)] Tryz.func56 (by kernel_rfl) h (zac c0 (zac c1 zae)) lo hF z
theorem zy4 (hn:n≤1)
  (l0:((t.s).get j.toNat)=true→(er (V4.ok ((t.r).get j.toNat)) != 0)=true→(decide (j<6))=true∧(AC.isB ((bcs t.s)[j.toNat*1]?.getD (.b false))&&Nat.blt (j.toNat*1) (bcs t.s).length&&(decide (0≤j)&&decide (j<6)))=true∧(decide (0≤j)&&decide (j<6))=true∧(Nat.ble (7+j.toNat*4+4) (t.cs).length)=true∧(pe (.c (.b (AC.asB ((bcs t.s)[j.toNat*1]?.getD (.b false)))))=pe (.c (.b ((t.s).get j.toNat))))∧(pe (.ag (((t.cs).drop (7+j.toNat*4)).take 4))=pe (.ag ((t.r).get j.toNat).cs))∧(Ok 98 [.ag ((t.r).get j.toNat).cs] (.c (.i (er (V4.ok ((t.r).get j.toNat))))))∧((⟨.c (.i 1),[],none⟩:Eff)=E))
  (l1:((t.s).get j.toNat)=true→(er (V4.ok ((t.r).get j.toNat)) != 0)=false→(decide (j<6))=true∧(AC.isB ((bcs t.s)[j.toNat*1]?.getD (.b false))&&Nat.blt (j.toNat*1) (bcs t.s).length&&(decide (0≤j)&&decide (j<6)))=true∧(decide (0≤j)&&decide (j<6))=true∧(Nat.ble (7+j.toNat*4+4) (t.cs).length)=true∧(!!(t.s).get j.toNat)=true∧(pe (.c (.b (AC.asB ((bcs t.s)[j.toNat*1]?.getD (.b false)))))=pe (.c (.b ((t.s).get j.toNat))))∧(pe (.ag (((t.cs).drop (7+j.toNat*4)).take 4))=pe (.ag ((t.r).get j.toNat).cs))∧(Ok 98 [.ag ((t.r).get j.toNat).cs] (.c (.i (er (V4.ok ((t.r).get j.toNat))))))∧Kn.Low (zbg t (IntKind.i64.wrap (j+1)))∧AR 56 Tryz.f56 (cx w β n []) 0 (zbg t (IntKind.i64.wrap (j+1))) (REff w β E))
  (l2:((t.s).get j.toNat)=false→(!eqCs ((t.r).get j.toNat).cs [.u 0#64,.u 0#64,.u 0#64,.u 0#64])=true→(decide (j<6))=true∧(AC.isB ((bcs t.s)[j.toNat*1]?.getD (.b false))&&Nat.blt (j.toNat*1) (bcs t.s).length&&(decide (0≤j)&&decide (j<6)))=true∧(decide (0≤j)&&decide (j<6))=true∧(Nat.ble (7+j.toNat*4+4) (t.cs).length)=true∧(pe (.c (.b (AC.asB ((bcs t.s)[j.toNat*1]?.getD (.b false)))))=pe (.c (.b ((t.s).get j.toNat))))∧(pe (.ag (((t.cs).drop (7+j.toNat*4)).take 4))=pe (.ag ((t.r).get j.toNat).cs))∧((⟨.c (.i 1),[],none⟩:Eff)=E))
  (l3:((t.s).get j.toNat)=false→(!eqCs ((t.r).get j.toNat).cs [.u 0#64,.u 0#64,.u 0#64,.u 0#64])=false→(decide (j<6))=true∧(AC.isB ((bcs t.s)[j.toNat*1]?.getD (.b false))&&Nat.blt (j.toNat*1) (bcs t.s).length&&(decide (0≤j)&&decide (j<6)))=true∧(decide (0≤j)&&decide (j<6))=true∧(Nat.ble (7+j.toNat*4+4) (t.cs).length)=true∧(pe (.c (.b (AC.asB ((bcs t.s)[j.toNat*1]?.getD (.b false)))))=pe (.c (.b ((t.s).get j.toNat))))∧(pe (.ag (((t.cs).drop (7+j.toNat*4)).take 4))=pe (.ag ((t.r).get j.toNat).cs))∧Kn.Low (zbg t (IntKind.i64.wrap (j+1)))∧AR 56 Tryz.f56 (cx w β n []) 0 (zbg t (IntKind.i64.wrap (j+1))) (REff w β E)) :
  AR 56 Tryz.f56 (cx w β n []) 0 (zbg t j) (REff w β E) :=
 (tf ((t.s).get j.toNat)).elim (fun h0=>(tf (er (V4.ok ((t.r).get j.toNat)) != 0)).elim (fun h1=>(match l0 h0 h1 with | ⟨o0,o1,o2,o3,c0,c1,c2,e⟩=>za6 (yae2 (zaa o0 (zaa o1 (zaa h0 (zaa o2 (zaa o3 (zaa h1 rfl)))))) c0 c1 c2) e)) (fun h1=>(match l1 h0 h1 with | ⟨o0,o1,o2,o3,o4,c0,c1,c2,lo,z⟩=>yac6 (zaa o0 (zaa o1 (zaa h0 (zaa o2 (zaa o3 (zaa (zad h1) (zaa o4 rfl))))))) c0 c1 c2 lo (fun _ hk=>Nat.lt_of_lt_of_le hk hn) z))) (fun h0=>(tf (!eqCs ((t.r).get j.toNat).cs [.u 0#64,.u 0#64,.u 0#64,.u 0#64])).elim (fun h1=>(match l2 h0 h1 with | ⟨o0,o1,o2,o3,c0,c1,e⟩=>za6 (yaga (zaa o0 (zaa o1 (zaa (zad h0) (zaa (zad h0) (zaa o2 (zaa o3 (zaa h1 rfl))))))) c0 c1) e)) (fun h1=>(match l3 h0 h1 with | ⟨o0,o1,o2,o3,c0,c1,lo,z⟩=>yafl (zaa o0 (zaa o1 (zaa (zad h0) (zaa (zad h0) (zaa o2 (zaa o3 (zaa (zad h1) rfl))))))) c0 c1 lo (fun _ hk=>Nat.lt_of_lt_of_le hk hn) z)))
theorem yanq :
  AR 56 Tryz.f56 (cx w β n []) 0 (zbg t 6) (REff w β ⟨.c (.i 0),[],none⟩) :=
 zah [] none [false] ([true]) [] Tryz.func56 (zat rfl n) (by kernel_rfl) rfl zae
theorem yapm (h:(e != 0&&true)=true) (c0:Ok 56 [.ag t.cs] (.c (.i e))) :
  BO 59 Tryz.f59 (cx w β n []) [.ag t.cs,.ag u.cs] [] 0 (REff w β ⟨.tu [.ag St.z.cs,.c (.i 1)],[],none⟩) :=
 zah [] none [true,true] ([true]) [] Tryz.func59 (zat rfl n) (by kernel_rfl) h (zab c0 zae)
theorem yapg (h:(!e != 0&&(f != 0&&true))=true) (c0:Ok 56 [.ag t.cs] (.c (.i e))) (c1:Ok 56 [.ag u.cs] (.c (.i f))) :
  BO 59 Tryz.f59 (cx w β n []) [.ag t.cs,.ag u.cs] [] 0 (REff w β ⟨.tu [.ag St.z.cs,.c (.i 1)],[],none⟩) :=
 zah [] none [false,true] ([true]) [] Tryz.func59 (zat rfl n) (by kernel_rfl) h (zab c0 (zab c1 zae))
theorem yanh (h:(!e != 0&&(!f != 0&&(!t.live&&true)))=true) (c0:Ok 56 [.ag t.cs] (.c (.i e))) (c1:Ok 56 [.ag u.cs] (.c (.i f))) :
  BO 59 Tryz.f59 (cx w β n []) [.ag t.cs,.ag u.cs] [] 0 (REff w β ⟨.tu [.ag u.cs,.c (.i 0)],[],none⟩) :=
 zah [] none [false,false,true] ([true]) [] Tryz.func59 (zat rfl n) (by kernel_rfl) h (zab c0 (zab c1 zae))
theorem yamt (h:(!e != 0&&(!f != 0&&(!!t.live&&(!u.live&&true))))=true) (c0:Ok 56 [.ag t.cs] (.c (.i e))) (c1:Ok 56 [.ag u.cs] (.c (.i f))) :
  BO 59 Tryz.f59 (cx w β n []) [.ag t.cs,.ag u.cs] [] 0 (REff w β ⟨.tu [.ag t.cs,.c (.i 0)],[],none⟩) :=
 zah [] none [false,false,false,true] ([true]) [] Tryz.func59 (zat rfl n) (by kernel_rfl) h (zab c0 (zab c1 zae))
theorem yapv (h:(!e != 0&&(!f != 0&&(!!t.live&&(!!u.live&&true))))=true) (c0:Ok 56 [.ag t.cs] (.c (.i e))) (c1:Ok 56 [.ag u.cs] (.c (.i f))) (lo:Kn.Low ⟨[(2,.c (.w 0)),(3,.c (.w 1)),(4,.c (.w 2)),(6,.c (.w 19)),(28,.c (.i 0))],[(0,Ent.mk true t.cs 0),(1,Ent.mk true u.cs 0),(2,Ent.mk true St.z.cs 0),(19,Ent.mk true St.e.cs 0)],20⟩) (hF:∀ k,C.F k→k<20) (z:AR 59 Tryz.f59 C 0 ⟨[(2,.c (.w 0)),(3,.c (.w 1)),(4,.c (.w 2)),(6,.c (.w 19)),(28,.c (.i 0))],[(0,Ent.mk true t.cs 0),(1,Ent.mk true u.cs 0),(2,Ent.mk true St.z.cs 0),(19,Ent.mk true St.e.cs 0)],20⟩ R) :
  BO 59 Tryz.f59 C [.ag t.cs,.ag u.cs] [] 0 R :=
 zai [false,false,false,false] ([true]) [] Tryz.func59 (by kernel_rfl) h (zab c0 (zab c1 zae)) lo hF z
theorem yake (hn:n≤20)
  (l0:(e != 0)=true→(Ok 56 [.ag t.cs] (.c (.i e)))∧((⟨.tu [.ag St.z.cs,.c (.i 1)],[],none⟩:Eff)=E))
  (l1:(e != 0)=false→(f != 0)=true→(Ok 56 [.ag t.cs] (.c (.i e)))∧(Ok 56 [.ag u.cs] (.c (.i f)))∧((⟨.tu [.ag St.z.cs,.c (.i 1)],[],none⟩:Eff)=E))
  (l2:(e != 0)=false→(f != 0)=false→(!t.live)=true→(Ok 56 [.ag t.cs] (.c (.i e)))∧(Ok 56 [.ag u.cs] (.c (.i f)))∧((⟨.tu [.ag u.cs,.c (.i 0)],[],none⟩:Eff)=E))
  (l3:(e != 0)=false→(f != 0)=false→(!t.live)=false→(!u.live)=true→(Ok 56 [.ag t.cs] (.c (.i e)))∧(Ok 56 [.ag u.cs] (.c (.i f)))∧((⟨.tu [.ag t.cs,.c (.i 0)],[],none⟩:Eff)=E))
  (l4:(e != 0)=false→(f != 0)=false→(!t.live)=false→(!u.live)=false→(Ok 56 [.ag t.cs] (.c (.i e)))∧(Ok 56 [.ag u.cs] (.c (.i f)))∧Kn.Low ⟨[(2,.c (.w 0)),(3,.c (.w 1)),(4,.c (.w 2)),(6,.c (.w 19)),(28,.c (.i 0))],[(0,Ent.mk true t.cs 0),(1,Ent.mk true u.cs 0),(2,Ent.mk true St.z.cs 0),(19,Ent.mk true St.e.cs 0)],20⟩∧AR 59 Tryz.f59 (cx w β n []) 0 ⟨[(2,.c (.w 0)),(3,.c (.w 1)),(4,.c (.w 2)),(6,.c (.w 19)),(28,.c (.i 0))],[(0,Ent.mk true t.cs 0),(1,Ent.mk true u.cs 0),(2,Ent.mk true St.z.cs 0),(19,Ent.mk true St.e.cs 0)],20⟩ (REff w β E)) :
  BO 59 Tryz.f59 (cx w β n []) [.ag t.cs,.ag u.cs] [] 0 (REff w β E) :=
 (tf (e != 0)).elim (fun h0=>(match l0 h0 with | ⟨c0,e⟩=>za6 (yapm (zaa h0 rfl) c0) e)) (fun h0=>(tf (f != 0)).elim (fun h1=>(match l1 h0 h1 with | ⟨c0,c1,e⟩=>za6 (yapg (zaa (zad h0) (zaa h1 rfl)) c0 c1) e)) (fun h1=>(tf (!t.live)).elim (fun h2=>(match l2 h0 h1 h2 with | ⟨c0,c1,e⟩=>za6 (yanh (zaa (zad h0) (zaa (zad h1) (zaa h2 rfl))) c0 c1) e)) (fun h2=>(tf (!u.live)).elim (fun h3=>(match l3 h0 h1 h2 h3 with | ⟨c0,c1,e⟩=>za6 (yamt (zaa (zad h0) (zaa (zad h1) (zaa (zad h2) (zaa h3 rfl)))) c0 c1) e)) (fun h3=>(match l4 h0 h1 h2 h3 with | ⟨c0,c1,lo,z⟩=>yapv (zaa (zad h0) (zaa (zad h1) (zaa (zad h2) (zaa (zad h3) rfl)))) c0 c1 lo (fun _ hk=>Nat.lt_of_lt_of_le hk hn) z)))))
theorem yadk (h:(decide (j<6)&&(decide (0≤j)&&decide (j<6)&&(AC.isB ((t.cs)[1+j.toNat*1]?.getD (.b false))&&Nat.blt (1+j.toNat*1) (t.cs).length&&((t.s).get j.toNat&&(decide (0≤j)&&decide (j<6)&&(AC.isB ((u.cs)[1+j.toNat*1]?.getD (.b false))&&Nat.blt (1+j.toNat*1) (u.cs).length&&((u.s).get j.toNat&&(decide (0≤j)&&decide (j<6)&&(Nat.ble (7+j.toNat*4+4) (t.cs).length&&(decide (0≤j)&&decide (j<6)&&(Nat.ble (7+j.toNat*4+4) (u.cs).length&&true)))))))))))=true) (c0:pe (.c (.b (AC.asB ((t.cs)[1+j.toNat*1]?.getD (.b false)))))=pe (.c (.b ((t.s).get j.toNat)))) (c1:pe (.c (.b (AC.asB ((u.cs)[1+j.toNat*1]?.getD (.b false)))))=pe (.c (.b ((u.s).get j.toNat)))) (c2:pe (.ag (((t.cs).drop (7+j.toNat*4)).take 4))=pe (.ag ((t.r).get j.toNat).cs)) (c3:pe (.ag (((u.cs).drop (7+j.toNat*4)).take 4))=pe (.ag ((u.r).get j.toNat).cs)) (c4:Ok 109 [.ag ((t.r).get j.toNat).cs,.ag ((u.r).get j.toNat).cs] (.tu [.ag a.cs,.c (.i 0)])) (c5:Ok 53 [.ag b.cs,.c (.i j),.ag a.cs] (.ag b2.cs)) (lo:Kn.Low (zcc t u b2 (IntKind.i64.wrap (j+1)))) (hF:∀ k,C.F k→k<20) (z:AR 59 Tryz.f59 C 0 (zcc t u b2 (IntKind.i64.wrap (j+1))) R) :
  AR 59 Tryz.f59 C 0 (zcc t u b j) R :=
 zai [true,true,true] ([true]) [(11,3),(11,8),(12,3),(12,7)] Tryz.func59 (by kernel_rfl) h (zac c0 (zac c1 (zac c2 (zac c3 (zab c4 (zab c5 zae)))))) lo hF z
theorem yae9 (h:(decide (j<6)&&(decide (0≤j)&&decide (j<6)&&(AC.isB ((t.cs)[1+j.toNat*1]?.getD (.b false))&&Nat.blt (1+j.toNat*1) (t.cs).length&&((t.s).get j.toNat&&(decide (0≤j)&&decide (j<6)&&(AC.isB ((u.cs)[1+j.toNat*1]?.getD (.b false))&&Nat.blt (1+j.toNat*1) (u.cs).length&&(!(u.s).get j.toNat&&true)))))))=true) (c0:pe (.c (.b (AC.asB ((t.cs)[1+j.toNat*1]?.getD (.b false)))))=pe (.c (.b ((t.s).get j.toNat)))) (c1:pe (.c (.b (AC.asB ((u.cs)[1+j.toNat*1]?.getD (.b false)))))=pe (.c (.b ((u.s).get j.toNat)))) (lo:Kn.Low (zcc t u b (IntKind.i64.wrap (j+1)))) (hF:∀ k,C.F k→k<20) (z:AR 59 Tryz.f59 C 0 (zcc t u b (IntKind.i64.wrap (j+1))) R) :
  AR 59 Tryz.f59 C 0 (zcc t u b j) R :=
 zai [true,true,false] ([true]) [(11,3),(11,8),(12,3),(12,7)] Tryz.func59 (by kernel_rfl) h (zac c0 (zac c1 zae)) lo hF z
theorem yaf2 (h:(decide (j<6)&&(decide (0≤j)&&decide (j<6)&&(AC.isB ((t.cs)[1+j.toNat*1]?.getD (.b false))&&Nat.blt (1+j.toNat*1) (t.cs).length&&(!(t.s).get j.toNat&&true))))=true) (c0:pe (.c (.b (AC.asB ((t.cs)[1+j.toNat*1]?.getD (.b false)))))=pe (.c (.b ((t.s).get j.toNat)))) (lo:Kn.Low (zcc t u b (IntKind.i64.wrap (j+1)))) (hF:∀ k,C.F k→k<20) (z:AR 59 Tryz.f59 C 0 (zcc t u b (IntKind.i64.wrap (j+1))) R) :
  AR 59 Tryz.f59 C 0 (zcc t u b j) R :=
 zai [true,false,false] ([true]) [(11,3),(11,8),(12,3),(12,7)] Tryz.func59 (by kernel_rfl) h (zac c0 zae) lo hF z
theorem zxu (hn:n≤20)
  (l0:((t.s).get j.toNat)=true→((u.s).get j.toNat)=true→(decide (j<6))=true∧(decide (0≤j)&&decide (j<6))=true∧(AC.isB ((t.cs)[1+j.toNat*1]?.getD (.b false))&&Nat.blt (1+j.toNat*1) (t.cs).length)=true∧(decide (0≤j)&&decide (j<6))=true∧(AC.isB ((u.cs)[1+j.toNat*1]?.getD (.b false))&&Nat.blt (1+j.toNat*1) (u.cs).length)=true∧(decide (0≤j)&&decide (j<6))=true∧(Nat.ble (7+j.toNat*4+4) (t.cs).length)=true∧(decide (0≤j)&&decide (j<6))=true∧(Nat.ble (7+j.toNat*4+4) (u.cs).length)=true∧(pe (.c (.b (AC.asB ((t.cs)[1+j.toNat*1]?.getD (.b false)))))=pe (.c (.b ((t.s).get j.toNat))))∧(pe (.c (.b (AC.asB ((u.cs)[1+j.toNat*1]?.getD (.b false)))))=pe (.c (.b ((u.s).get j.toNat))))∧(pe (.ag (((t.cs).drop (7+j.toNat*4)).take 4))=pe (.ag ((t.r).get j.toNat).cs))∧(pe (.ag (((u.cs).drop (7+j.toNat*4)).take 4))=pe (.ag ((u.r).get j.toNat).cs))∧(Ok 109 [.ag ((t.r).get j.toNat).cs,.ag ((u.r).get j.toNat).cs] (.tu [.ag a.cs,.c (.i 0)]))∧(Ok 53 [.ag b.cs,.c (.i j),.ag a.cs] (.ag b2.cs))∧Kn.Low (zcc t u b2 (IntKind.i64.wrap (j+1)))∧AR 59 Tryz.f59 (cx w β n []) 0 (zcc t u b2 (IntKind.i64.wrap (j+1))) (REff w β E))
  (l1:((t.s).get j.toNat)=true→((u.s).get j.toNat)=false→(decide (j<6))=true∧(decide (0≤j)&&decide (j<6))=true∧(AC.isB ((t.cs)[1+j.toNat*1]?.getD (.b false))&&Nat.blt (1+j.toNat*1) (t.cs).length)=true∧(decide (0≤j)&&decide (j<6))=true∧(AC.isB ((u.cs)[1+j.toNat*1]?.getD (.b false))&&Nat.blt (1+j.toNat*1) (u.cs).length)=true∧(pe (.c (.b (AC.asB ((t.cs)[1+j.toNat*1]?.getD (.b false)))))=pe (.c (.b ((t.s).get j.toNat))))∧(pe (.c (.b (AC.asB ((u.cs)[1+j.toNat*1]?.getD (.b false)))))=pe (.c (.b ((u.s).get j.toNat))))∧Kn.Low (zcc t u b (IntKind.i64.wrap (j+1)))∧AR 59 Tryz.f59 (cx w β n []) 0 (zcc t u b (IntKind.i64.wrap (j+1))) (REff w β E))
  (l2:((t.s).get j.toNat)=false→(decide (j<6))=true∧(decide (0≤j)&&decide (j<6))=true∧(AC.isB ((t.cs)[1+j.toNat*1]?.getD (.b false))&&Nat.blt (1+j.toNat*1) (t.cs).length)=true∧(pe (.c (.b (AC.asB ((t.cs)[1+j.toNat*1]?.getD (.b false)))))=pe (.c (.b ((t.s).get j.toNat))))∧Kn.Low (zcc t u b (IntKind.i64.wrap (j+1)))∧AR 59 Tryz.f59 (cx w β n []) 0 (zcc t u b (IntKind.i64.wrap (j+1))) (REff w β E)) :
  AR 59 Tryz.f59 (cx w β n []) 0 (zcc t u b j) (REff w β E) :=
 (tf ((t.s).get j.toNat)).elim (fun h0=>(tf ((u.s).get j.toNat)).elim (fun h1=>(match l0 h0 h1 with | ⟨o0,o1,o2,o3,o4,o5,o6,o7,o8,c0,c1,c2,c3,c4,c5,lo,z⟩=>yadk (zaa o0 (zaa o1 (zaa o2 (zaa h0 (zaa o3 (zaa o4 (zaa h1 (zaa o5 (zaa o6 (zaa o7 (zaa o8 rfl))))))))))) c0 c1 c2 c3 c4 c5 lo (fun _ hk=>Nat.lt_of_lt_of_le hk hn) z)) (fun h1=>(match l1 h0 h1 with | ⟨o0,o1,o2,o3,o4,c0,c1,lo,z⟩=>yae9 (zaa o0 (zaa o1 (zaa o2 (zaa h0 (zaa o3 (zaa o4 (zaa (zad h1) rfl))))))) c0 c1 lo (fun _ hk=>Nat.lt_of_lt_of_le hk hn) z))) (fun h0=>(match l2 h0 with | ⟨o0,o1,o2,c0,lo,z⟩=>yaf2 (zaa o0 (zaa o1 (zaa o2 (zaa (zad h0) rfl)))) c0 lo (fun _ hk=>Nat.lt_of_lt_of_le hk hn) z))
theorem yaoj :
  AR 59 Tryz.f59 (cx w β n []) 0 (zcc t u b 6) (REff w β ⟨.tu [.ag b.cs,.c (.i 0)],[],none⟩) :=
 zah [] none [false] ([true]) [] Tryz.func59 (zat rfl n) (by kernel_rfl) rfl zae
end
end Go.Proofs.YtkigmocchaikgabGreatDoor
namespace Go.Proofs.YtkigmocchaikgabGreatDoor
theorem V4.ok_rt {a:V4} (h:a.ok=true):RtB a.v a.m:=(zbf h).1
theorem V4.has_ok {a:V4} {x:BitVec 64} (h:a.has x=true):a.ok=true:=(zng h).1
theorem V4.nrm_ok {a:V4} (hr:RtB a.v a.m) (h:a.nok=true):a.nrm.ok=true:=zfn hr h
theorem V4.nrm_has {a:V4} {x:BitVec 64} (hr:RtB a.v a.m) (hx:rawV a.v a.m a.l a.h x=true):a.nok=true∧a.nrm.has x=true:=yapx hr hx
theorem V4.has_iff {a:V4} {x:BitVec 64}:a.has x=true↔a.ok=true∧hasB a.v a.m x=true∧nv a.l≤nv x∧nv x≤nv a.h:=by
 simp only [V4.has,hasV,V4.ok,Bool.and_eq_true,decide_eq_true_eq]
theorem V4.low_has {a:V4} (h:a.ok=true):a.has a.l=true:=by
 obtain ⟨_,h2,_,h4,_⟩:=zbf h
 exact V4.has_iff.2 ⟨h,h2,Int.le_refl _,h4⟩
theorem V4.le {a:V4} (h:a.ok=true):nv a.l≤nv a.h:=(zbf h).2.2.2.1
theorem V4.stays {a:V4} (h:a.ok=true):a.nok=true∧a.nrm=a:=by
 obtain ⟨h1,h2,h3,h4,h5⟩:=zp2 h
 refine ⟨h1,?_⟩
 cases a;simp only [V4.nrm] at *;rw [h2,h3,h4,h5]
theorem V4.two_has {op:Int} {a b:V4} {x y:BitVec 64} (hop:2≤op∧op≤9) (hx:a.has x=true) (hy:b.has y=true):(V4.two op a b).has (numN op x y)=true:=by
 obtain ⟨h1,h2⟩:=yab7 hop hx hy
 obtain ⟨h3,h4⟩:=V4.nrm_has (a:=V4.raw2 op a b) h1 h2
 unfold V4.two V4.norm
 rw [if_pos h3]
 exact h4
theorem V4.two_ok {op:Int} {a b:V4} (hop:2≤op∧op≤9) (ha:a.ok=true) (hb:b.ok=true):(V4.two op a b).ok=true:=V4.has_ok (V4.two_has hop (V4.low_has ha) (V4.low_has hb))
theorem V4.join_has {a b:V4} {x:BitVec 64} (ha:a.ok=true) (hb:b.ok=true) (h:a.has x=true∨b.has x=true):(a.join b).has x=true:=by
 obtain ⟨_,h2,h3⟩:=zkb ha hb
 rcases h with h | h
 ·exact yabh h2 h
 ·exact yabh h3 h
theorem V4.join_ok {a b:V4} (ha:a.ok=true) (hb:b.ok=true):(a.join b).ok=true:=V4.has_ok (V4.join_has ha hb (Or.inl (V4.low_has ha)))
theorem zt9 {v m:BitVec 64} (h:RtB v m):insB v m v m=true:=zho h h fun _ hx=>hx
theorem yarw (x:BitVec 64):hasB x zero x=true:=by
 have hr:RtB x zero:=fun j=>by rw [zbb];cases bit x j <;> rfl
 refine (za0 _ _ _).2 ⟨hr,fun j hj=>?_⟩
 rw [zbb];cases bit x j <;> rfl
theorem yaj9 (x:BitVec 64):sM x x=zero:=by
 apply bext
 intro j hj
 rw [zbb]
 exact (zn3 x x j hj).2 fun _ _=>rfl
theorem V4.of_ok (x:BitVec 64):(V4.of x).ok=true:=by
 have h:=yarw x
 have hs:spV x x=x:=by
  unfold spV
  rw [yaj9]
  apply bext
  intro j hj
  rw [zas _ _ _ hj,zbb];cases bit x j <;> rfl
 show valB x zero x x=true
 unfold valB
 rw [h,yaj9,hs,zt9 ((za0 _ _ _).1 h).1]
 simp
theorem yar1 {l h:BitVec 64} {n:Nat} (hn:n<64) (hl:l=zero) (hb:bit h n=true):∀ j,j≤n→bit (sM l h) j=true:=by
 intro j hj
 cases hc:bit (sM l h) j with
 | true=>rfl
 | false =>
  have:=(zn3 l h j (by omega)).1 hc n hj
  rw [hl,zbb,hb] at this
  cases this
theorem V4.low_ok {h:BitVec 64} (n:Nat) (hn:n≤64) (hb:∀ j,j<64→bit h j=decide (j<n)) (h0:0<n):V4.ok ⟨zero,h,zero,h⟩=true∧∀ x,nv x≤nv h→V4.has ⟨zero,h,zero,h⟩ x=true:=by
 have hr:RtB zero h:=zn1 h
 have g0:hasB zero h zero=true:=(za0 _ _ _).2 ⟨hr,fun j hj=>by rw [zbb];rfl⟩
 have g1:hasB zero h h=true:=(za0 _ _ _).2 ⟨hr,fun j hj=>by rw [zbb];cases bit h j <;> rfl⟩
 have hle:nv zero≤nv h:=(ends h).1
 have sm:sM zero h=h:=by
  apply bext
  intro j hj
  rw [hb j hj]
  by_cases c:j<n
  ·rw [yar1 (n:=n - 1) (by omega) rfl (by rw [hb _ (by omega)];simp;omega) j (by omega)];simp [c]
  ·have:bit (sM zero h) j=false:=(zn3 _ _ _ hj).2 fun i hi=>by
    by_cases c':i<64
    ·rw [zbb,hb i c'];simp;omega
    ·rw [zba _ _ (by omega),zba _ _ (by omega)]
   rw [this];simp [c]
 have sp:spV zero h=zero:=by
  unfold spV
  apply bext
  intro j hj
  rw [zas _ _ _ hj,zbb];rfl
 have ho:V4.ok ⟨zero,h,zero,h⟩=true:=by
  show valB zero h zero h=true
  unfold valB
  rw [g0,g1,sm,sp,zt9 hr]
  simp [hle]
 refine ⟨ho,fun x hx=>V4.has_iff.2 ⟨ho,(za0 _ _ _).2 ⟨hr,fun j hj=>?_⟩,(ends x).1,hx⟩⟩
 -- a bit that h lacks, x lacks
 rw [zbb]
 have:=zgh (l:=zero) (h:=h) (x:=x) (ends x).1 hx
 rw [sm,sp] at this
 have h2:=((za0 _ _ _).1 this).2 j hj
 rw [zbb] at h2
 exact h2
theorem V4.any_has (x:BitVec 64):V4.any.has x=true:=(V4.low_ok (h:=top) 64 (Nat.le_refl _) (fun j hj=>by rw [zrv _ hj];simp [hj]) (by decide)).2 x (ends x).2
theorem V4.any_ok:V4.any.ok=true:=V4.has_ok (V4.any_has zero)
theorem zwm (n:Int):∃ k,0<k∧k≤64∧∀ j,j<64→bit (zm1 n) j=decide (j<k):=by
 have key:∀ (k:Nat) (x:BitVec 64),(∀ j:Fin 64,x.getLsbD j.1=decide (j.1<k))→∀ j,j<64→bit x j=decide (j<k):=fun k x h j hj=>h ⟨j,hj⟩
 unfold zm1
 split
 ·exact ⟨64,by decide,by decide,fun j hj=>by rw [zrv _ hj];simp [hj]⟩
 ·split
  ·exact ⟨32,by decide,by decide,key 32 _ (by decide)⟩
  ·split
   ·exact ⟨16,by decide,by decide,key 16 _ (by decide)⟩
   ·exact ⟨8,by decide,by decide,key 8 _ (by decide)⟩
theorem V4.bytes_has (n:Int) (x:BitVec 64) (hx:nv x≤nv (zm1 n)):(V4.bytes n).has x=true:=by
 obtain ⟨k,h1,h2,h3⟩:=zwm n
 exact (V4.low_ok k h2 h3 h1).2 x hx
theorem V4.bytes_ok (n:Int):(V4.bytes n).ok=true:=V4.has_ok (V4.bytes_has n zero (ends _).1)
theorem zlx {may:Bool} {x y:V4} (hx:RtB x.v x.m) (hy:RtB y.v y.m) (h:(zgy may x y).2.2=true):(zgy may x y).1.ok=true∧(zgy may x y).2.1.ok=true:=by
 have h':(may&&(x.nok&&y.nok))=true:=h
 simp only [zgy,lvV,h',if_true]
 simp only [Bool.and_eq_true] at h'
 exact ⟨V4.nrm_ok hx h'.2.1,V4.nrm_ok hy h'.2.2⟩
theorem yalm {a b:V4} (ha:a.ok=true) (hb:b.ok=true):RtB (bor a.v b.v) (band a.m b.m):=by
 have r1:=V4.ok_rt ha
 have r2:=V4.ok_rt hb
 intro j
 have h3:=r1 j;have h4:=r2 j
 rw [zaq,zaz]
 revert h3 h4
 cases bit a.v j <;> cases bit a.m j <;> cases bit b.v j <;> cases bit b.m j <;> simp
theorem V4.equal_ok {a b:V4} (ha:a.ok=true) (hb:b.ok=true) (h:(a.equal b).2.2=true):(a.equal b).1.ok=true∧(a.equal b).2.1.ok=true:=by
 unfold V4.equal at h ⊢
 split at h
 ·rename_i hm
  rw [if_pos hm]
  exact zlx (yalm ha hb) (yalm ha hb) h
 ·cases h
theorem V4.other_ok {a b:V4} (ha:a.ok=true) (hb:b.ok=true) (h:(a.other b).2.2=true):(a.other b).1.ok=true∧(a.other b).2.1.ok=true :=
 zlx (show RtB a.v a.m from V4.ok_rt ha) (show RtB b.v b.m from V4.ok_rt hb) h
theorem V4.less_ok {a b:V4} (ha:a.ok=true) (hb:b.ok=true) (h:(a.less b).2.2=true):(a.less b).1.ok=true∧(a.less b).2.1.ok=true:=by
 unfold V4.less at h ⊢
 split at h
 ·cases h
 ·rename_i hm
  rw [if_neg hm]
  exact zlx (show RtB a.v a.m from V4.ok_rt ha) (show RtB b.v b.m from V4.ok_rt hb) h
theorem V4.notLess_ok {a b:V4} (ha:a.ok=true) (hb:b.ok=true) (h:(a.notLess b).2.2=true):(a.notLess b).1.ok=true∧(a.notLess b).2.1.ok=true :=
 zlx (show RtB a.v a.m from V4.ok_rt ha) (show RtB b.v b.m from V4.ok_rt hb) h
theorem V4.eq_iff {a b:V4}:eqCs a.cs b.cs=true↔a=b:=by
 cases a;cases b
 simp [V4.cs,eqCs,eqC,eqb]
theorem zjq {p:Nat→Bool}:zcv p 6=false↔∀ j,j<6→p j=false:=by
 simp only [zcv,Bool.or_eq_false_iff]
 constructor
 ·rintro ⟨h0,h1,h2,h3,h4,h5,_⟩
  exact lt6 h0 h1 h2 h3 h4 h5
 ·intro h
  exact ⟨h 0 (by decide),h 1 (by decide),h 2 (by decide),h 3 (by decide),h 4 (by decide),h 5 (by decide),trivial⟩
theorem St.z_iff {t:St}:eqCs t.cs St.z.cs=true↔t=St.z:=by
 obtain ⟨l,⟨s0,s1,s2,s3,s4,s5⟩,⟨⟨a0,a1,a2,a3⟩,⟨b0,b1,b2,b3⟩,⟨c0,c1,c2,c3⟩,⟨d0,d1,d2,d3⟩,⟨e0,e1,e2,e3⟩,⟨f0,f1,f2,f3⟩⟩⟩:=t
 simp [St.cs,St.z,no6,V6.rep,V4.z,eqCs,eqC,eqb,and_assoc]
theorem V4.z_iff {a:V4}:eqCs a.cs V4.z.cs=true↔a=V4.z:=V4.eq_iff
structure St.Ok (t:St):Prop where
 dead:t.live=false→t=St.z
 set:∀ j,j<6→t.s.get j=true→(t.r.get j).ok=true
 unset:∀ j,j<6→t.s.get j=false→t.r.get j=V4.z
theorem badR_no {t:St} {j:Nat}:badR t j=false↔((t.s.get j=true→(t.r.get j).ok=true)∧(t.s.get j=false→t.r.get j=V4.z)):=by
 unfold badR
 cases h:t.s.get j with
 | true=>simp
 | false =>
  rw [← V4.z_iff]
  simp
theorem St.ok_iff {t:St}:t.ok=true↔t.Ok:=by
 unfold St.ok
 rw [Bool.and_eq_true,Bool.or_eq_true,St.z_iff,Bool.not_eq_true',zjq]
 constructor
 ·rintro ⟨h1,h2⟩
  exact ⟨fun h=>h1.resolve_left (by rw [h];decide),fun j hj=>(badR_no.1 (h2 j hj)).1,fun j hj=>(badR_no.1 (h2 j hj)).2⟩
 ·intro h
  refine ⟨?_,fun j hj=>badR_no.2 ⟨h.set j hj,h.unset j hj⟩⟩
  cases hl:t.live with
  | true=>exact Or.inl rfl
  | false=>exact Or.inr (h.dead hl)
theorem zyu {α:Type} (a:α):∀ j,j<6→(V6.rep a).get j=a:=lt6 rfl rfl rfl rfl rfl rfl
theorem zzn:∀ j,j<6→no6.get j=false:=lt6 rfl rfl rfl rfl rfl rfl
theorem St.z_Ok:St.z.Ok:=⟨fun _=>rfl,fun j hj h=>(by rw [show St.z.s=no6 from rfl,zzn j hj] at h;cases h),fun j hj _=>zyu _ j hj⟩
theorem St.e_Ok:St.e.Ok:=⟨fun h=>(by cases h),fun j hj h=>(by rw [show St.e.s=no6 from rfl,zzn j hj] at h;cases h),fun j hj _=>zyu _ j hj⟩
theorem St.wth_s {t:St} {d j:Nat} {a:V4} (hd:d<6) (hj:j<6):(t.wth d a).s.get j=if d=j then true else t.s.get j:=V6.get_set _ _ _ _ hd hj
theorem St.wth_r {t:St} {d j:Nat} {a:V4} (hd:d<6) (hj:j<6):(t.wth d a).r.get j=if d=j then a else t.r.get j:=V6.get_set _ _ _ _ hd hj
theorem St.wth_Ok {t:St} {d:Nat} {a:V4} (hd:d<6) (hl:t.live=true) (ha:a.ok=true) (h:t.Ok):(t.wth d a).Ok:=by
 refine ⟨fun hn=>?_,fun j hj hs=>?_,fun j hj hs=>?_⟩
 ·have:t.live=false:=hn
  rw [hl] at this;cases this
 ·rw [St.wth_s hd hj] at hs
  rw [St.wth_r hd hj]
  split
  ·exact ha
  ·rename_i hne;rw [if_neg hne] at hs;exact h.set j hj hs
 ·rw [St.wth_s hd hj] at hs
  rw [St.wth_r hd hj]
  split
  ·rename_i hne;rw [if_pos hne] at hs;cases hs
  ·rename_i hne;rw [if_neg hne] at hs;exact h.unset j hj hs
theorem yakj:beginS.Ok:=St.wth_Ok (by decide) rfl V4.any_ok St.e_Ok
structure St.Has (t:St) (m:Mach):Prop where
 ok:t.Ok
 live:t.live=true
 mach:yakv m=0
 fin:m.fin=0
 reg:∀ j,j<6→t.s.get j=true→m.s.get j=true∧(t.r.get j).has (m.r.get j)=true
theorem lackR_no {t:St} {m:Mach} {j:Nat}:yavm t m j=false↔(t.s.get j=true→m.s.get j=true∧(t.r.get j).has (m.r.get j)=true):=by
 unfold yavm
 cases t.s.get j <;> cases m.s.get j <;> cases (t.r.get j).has (m.r.get j) <;> simp
theorem St.has_iff {t:St} {m:Mach}:t.has m=true↔t.Has m:=by
 unfold St.has
 rw [Bool.and_eq_true,Bool.and_eq_true,Bool.and_eq_true,Bool.and_eq_true,St.ok_iff,decide_eq_true_eq,decide_eq_true_eq,Bool.not_eq_true',zjq]
 constructor
 ·rintro ⟨h1,h2,h3,h4,h5⟩
  exact ⟨h1,h2,h3,h4,fun j hj=>lackR_no.1 (h5 j hj)⟩
 ·intro h
  exact ⟨h.ok,h.live,h.mach,h.fin,fun j hj=>lackR_no.2 (h.reg j hj)⟩
theorem zh5 (t u:St):∀ n,n≤6→∀ b:St,(zc6 t u n b).live=b.live∧∀ j,j<6 →
  (zc6 t u n b).s.get j=(if 6 - n≤j then ((t.s.get j&&u.s.get j)||b.s.get j) else b.s.get j) ∧
  (zc6 t u n b).r.get j=(if 6 - n≤j∧(t.s.get j&&u.s.get j)=true then (t.r.get j).join (u.r.get j) else b.r.get j)
 | 0,_,b=>⟨rfl,fun j hj=>⟨by rw [if_neg (by omega)];rfl,by rw [if_neg (by omega)];rfl⟩⟩
 | n+1,hn,b=>by
  obtain ⟨h1,h2⟩:=zh5 t u n (by omega) (zhz t u (5 - n) b)
  have hk:5 - n<6:=by omega
  have hb:(zhz t u (5 - n) b).live=b.live∧∀ j,j<6→(zhz t u (5 - n) b).s.get j=(if 5 - n=j then ((t.s.get j&&u.s.get j)||b.s.get j) else b.s.get j) ∧
    (zhz t u (5 - n) b).r.get j=(if 5 - n=j∧(t.s.get j&&u.s.get j)=true then (t.r.get j).join (u.r.get j) else b.r.get j):=by
   unfold zhz
   cases hc:(t.s.get (5 - n)&&u.s.get (5 - n)) with
   | true =>
    rw [if_pos rfl]
    refine ⟨rfl,fun j hj=>?_⟩
    rw [St.wth_s hk hj,St.wth_r hk hj]
    by_cases hjj:5 - n=j
    ·subst hjj;simp [hc]
    ·simp [hjj]
   | false =>
    rw [if_neg (by decide)]
    refine ⟨rfl,fun j hj=>?_⟩
    by_cases hjj:5 - n=j
    ·subst hjj;simp [hc]
    ·simp [hjj]
  refine ⟨h1.trans hb.1,fun j hj=>?_⟩
  obtain ⟨h3,h4⟩:=h2 j hj
  obtain ⟨h5,h6⟩:=hb.2 j hj
  show (zc6 t u n (zhz t u (5 - n) b)).s.get j=_∧(zc6 t u n (zhz t u (5 - n) b)).r.get j=_
  rw [h3,h4,h5,h6]
  have pick:∀ {p q r:Prop} [Decidable p] [Decidable q] [Decidable r] (x y:Bool) (v w:V4),(r↔(p∨q))→¬ (p∧q)→((if p then (x||(if q then (x||y) else y)) else (if q then (x||y) else y))=(if r then (x||y) else y)) ∧
    ((if p∧x=true then v else (if q∧x=true then v else w))=(if r∧x=true then v else w)):=by
   intro p q r _ _ _ x y v w h1 h2
   by_cases hp:p
   ·have hq:¬ q:=fun hq=>h2 ⟨hp,hq⟩
    have hr:r:=h1.2 (Or.inl hp)
    simp [hp,hq,hr]
   ·by_cases hq:q
    ·have hr:r:=h1.2 (Or.inr hq)
     simp [hp,hq,hr]
    ·have hr:¬ r:=fun hr=>(h1.1 hr).elim hp hq
     simp [hp,hq,hr]
  exact pick _ _ _ _ (by omega) (by omega)
theorem St.join_live {t u:St} (ht:t.live=true) (hu:u.live=true):(t.join u).live=true∧∀ j,j<6 →
  (t.join u).s.get j=(t.s.get j&&u.s.get j)∧(t.join u).r.get j=(if (t.s.get j&&u.s.get j)=true then (t.r.get j).join (u.r.get j) else V4.z):=by
 unfold St.join
 rw [if_pos ht,if_pos hu]
 obtain ⟨h1,h2⟩:=zh5 t u 6 (Nat.le_refl 6) St.e
 refine ⟨h1,fun j hj=>?_⟩
 obtain ⟨h3,h4⟩:=h2 j hj
 rw [h3,h4,if_pos (by omega),show St.e.s=no6 from rfl,show St.e.r=V6.rep V4.z from rfl,zzn j hj,zyu _ j hj,Bool.or_false]
 exact ⟨rfl,by simp⟩
theorem St.join_Ok {t u:St} (ht:t.Ok) (hu:u.Ok):(t.join u).Ok:=by
 by_cases h1:t.live=true
 ·by_cases h2:u.live=true
  ·obtain ⟨h3,h4⟩:=St.join_live h1 h2
   refine ⟨fun h=>(by rw [h3] at h;cases h),fun j hj hs=>?_,fun j hj hs=>?_⟩
   ·obtain ⟨h5,h6⟩:=h4 j hj
    rw [h5] at hs
    rw [h6,if_pos hs]
    rw [Bool.and_eq_true] at hs
    exact V4.join_ok (ht.set j hj hs.1) (hu.set j hj hs.2)
   ·obtain ⟨h5,h6⟩:=h4 j hj
    rw [h5] at hs
    rw [h6,if_neg (by rw [hs];decide)]
  ·unfold St.join;rw [if_pos h1,if_neg h2];exact ht
 ·unfold St.join;rw [if_neg h1];exact hu
theorem St.join_Has {t u:St} {m:Mach} (ht:t.Ok) (hu:u.Ok) (h:t.Has m∨u.Has m):(t.join u).Has m:=by
 by_cases h1:t.live=true
 ·by_cases h2:u.live=true
  ·obtain ⟨h3,h4⟩:=St.join_live h1 h2
   have key:∀ j,j<6→(t.join u).s.get j=true→m.s.get j=true∧((t.join u).r.get j).has (m.r.get j)=true:=by
    intro j hj hs
    obtain ⟨h5,h6⟩:=h4 j hj
    rw [h5] at hs
    rw [h6,if_pos hs]
    rw [Bool.and_eq_true] at hs
    rcases h with h | h
    ·exact ⟨(h.reg j hj hs.1).1,V4.join_has (ht.set j hj hs.1) (hu.set j hj hs.2) (Or.inl (h.reg j hj hs.1).2)⟩
    ·exact ⟨(h.reg j hj hs.2).1,V4.join_has (ht.set j hj hs.1) (hu.set j hj hs.2) (Or.inr (h.reg j hj hs.2).2)⟩
   rcases h with h | h
   ·exact ⟨St.join_Ok ht hu,h3,h.mach,h.fin,key⟩
   ·exact ⟨St.join_Ok ht hu,h3,h.mach,h.fin,key⟩
  ·have e:t.join u=t:=by unfold St.join;rw [if_pos h1,if_neg h2]
   rw [e]
   exact h.resolve_right fun h=>h2 h.live
 ·have e:t.join u=u:=by unfold St.join;rw [if_neg h1]
  rw [e]
  exact h.resolve_left fun h=>h1 h.live
end Go.Proofs.YtkigmocchaikgabGreatDoor
namespace Go.Proofs.YtkigmocchaikgabGreatDoor
open Go.RowKit
section
variable {j:Int}
theorem zwg (h:regB j=true):decide (j<6)=true:=decide_eq_true (regB_iff.1 h).2
theorem b_ok (u:V6 Bool) (h:regB j=true):(AC.isB (Option.getD (bcs u)[Int.toNat j*1]? (AC.b false))&&Nat.blt (Int.toNat j*1) (List.length (bcs u))&&(decide (0≤j)&&decide (j<6)))=true :=
 zb8 (P:=fun j=>(AC.isB (Option.getD (bcs u)[Int.toNat j*1]? (AC.b false))&&Nat.blt (Int.toNat j*1) (List.length (bcs u))&&(decide (0≤j)&&decide (j<6)))=true) h rfl rfl rfl rfl rfl rfl
theorem zwu (u:V6 Bool) (h:regB j=true):Eff.mk (AV.c (AC.b (AC.asB (Option.getD (bcs u)[Int.toNat j*1]? (AC.b false))))) [] none=Eff.mk (AV.c (AC.b (V6.get u (Int.toNat j)))) [] none :=
 zb8 (P:=fun j=>Eff.mk (AV.c (AC.b (AC.asB (Option.getD (bcs u)[Int.toNat j*1]? (AC.b false))))) [] none=Eff.mk (AV.c (AC.b (V6.get u (Int.toNat j)))) [] none) h rfl rfl rfl rfl rfl rfl
theorem zx1 (t:St) (h:regB j=true):(AC.isB (Option.getD (St.cs t)[1+Int.toNat j*1]? (AC.b false))&&Nat.blt (1+Int.toNat j*1) (List.length (St.cs t)))=true :=
 zb8 (P:=fun j=>(AC.isB (Option.getD (St.cs t)[1+Int.toNat j*1]? (AC.b false))&&Nat.blt (1+Int.toNat j*1) (List.length (St.cs t)))=true) h rfl rfl rfl rfl rfl rfl
theorem znd (t:St) (h:regB j=true):Eff.mk (AV.c (AC.b (AC.asB (Option.getD (St.cs t)[1+Int.toNat j*1]? (AC.b false))))) [] none=Eff.mk (AV.c (AC.b (V6.get (St.s t) (Int.toNat j)))) [] none :=
 zb8 (P:=fun j=>Eff.mk (AV.c (AC.b (AC.asB (Option.getD (St.cs t)[1+Int.toNat j*1]? (AC.b false))))) [] none=Eff.mk (AV.c (AC.b (V6.get (St.s t) (Int.toNat j)))) [] none) h rfl rfl rfl rfl rfl rfl
theorem zbe (t:St) (h:regB j=true):Nat.ble (7+Int.toNat j*4+4) (List.length (St.cs t))=true :=
 zb8 (P:=fun j=>Nat.ble (7+Int.toNat j*4+4) (List.length (St.cs t))=true) h rfl rfl rfl rfl rfl rfl
theorem zax (t:St) (h:regB j=true):Eff.mk (AV.ag (List.take 4 (List.drop (7+Int.toNat j*4) (St.cs t)))) [] none=Eff.mk (AV.ag (V4.cs (V6.get (St.r t) (Int.toNat j)))) [] none:=by rw [yamd h]
end
theorem zm5 {n:Nat} (hn:n+1≤6):regB ((6 - (n+1):Nat):Int)=true:=by rw [regB_iff];omega
theorem zn0 {n:Nat} (hn:n+1≤6):((6 - (n+1):Nat):Int).toNat=5 - n:=by omega
theorem zjg {n:Nat} (hn:n+1≤6):IntKind.wrap IntKind.i64 (((6 - (n+1):Nat):Int)+1)=((6 - n:Nat):Int):=by rw [zfj (by omega) (by omega)];omega
theorem zqo (b:Bool):(er b != 0)=!b:=by cases b <;> rfl
theorem zb9 {t:St} {d:Int} (a:V4) (h:regB d=true):Ok 53 [.ag t.cs,.c (.i d),.ag a.cs] (.ag (t.wth d.toNat a).cs):=by
 have h1:=regB_iff.1 h
 have h2:=zbp h
 refine yapr ?_ ?_ ?_
 ·simp [h1.1,h1.2,yaj4,V4.cs];omega
 ·rw [zry h]
 ·rw [zss a h];rfl
theorem yak1:Ok 20 [] (.ag beginS.cs):=yajs (a:=V4.any) (t:=beginS) yalw (zb9 (t:=St.e) (d:=1) V4.any rfl)
abbrev fcKn (t:St) (j:Int):Kn:=⟨[(1,.c (.w 0)),(14,.ag (bcs t.s)),(15,.c (.i j))],[(0,⟨true,t.cs,0⟩)],1⟩
theorem yaqk {t:St} {w:World} {β:Bs} {E:Eff}:∀ n,n≤6→(zcv (badR t) n=true→⟨.c (.i 1),[],none⟩=E)→(zcv (badR t) n=false→⟨.c (.i 0),[],none⟩=E) →
  ART Tryz.prog 56 (cx w β 0 []) Tryz.f56.ntmps (zdm Tryz.f56 0) (fcKn t (6 - n:Nat)) (REff w β E)
 | 0,_,_,hz=>za6 yanq (hz rfl)
 | n+1,hn,hy,hz=>by
  have hj:=zm5 hn
  have ej:=zn0 hn
  have f0:=zwg hj
  have f1:=b_ok t.s hj
  have f2:(decide (0≤((6 - (n+1):Nat):Int))&&decide (((6 - (n+1):Nat):Int)<6))=true:=hj
  have f3:=zbe t hj
  have f4:=zwu t.s hj
  have f5:=zax t hj
  have yes:badR t (5 - n)=true→(⟨.c (.i 1),[],none⟩:Eff)=E:=fun h=>hy (by rw [zcv,h];rfl)
  have next:badR t (5 - n)=false→ART Tryz.prog 56 (cx w β 0 []) Tryz.f56.ntmps (zdm Tryz.f56 0) (fcKn t (IntKind.wrap IntKind.i64 (((6 - (n+1):Nat):Int)+1))) (REff w β E):=by
   intro hb
   rw [zjg hn]
   refine yaqk n (by omega) (fun h=>hy ?_) (fun h=>hz ?_)
   ·rw [zcv,hb,h];rfl
   ·rw [zcv,hb,h];rfl
  refine zy4 (by omega) (fun a b=>⟨f0,f1,f2,f3,f4,f5,znm _,yes ?_⟩) (fun a b=>⟨f0,f1,f2,f3,?_,f4,f5,znm _,zc8 rfl,next ?_⟩) (fun a b=>⟨f0,f1,f2,f3,f4,f5,yes ?_⟩) (fun a b=>⟨f0,f1,f2,f3,f4,f5,zc8 rfl,next ?_⟩)
  ·rw [ej] at a b
   rw [zqo] at b
   unfold badR;rw [a,b];rfl
  ·rw [a];rfl
  ·rw [ej] at a b
   rw [zqo] at b
   unfold badR;rw [a,b];rfl
  ·rw [ej] at a b
   unfold badR;rw [a];exact b
  ·rw [ej] at a b
   unfold badR;rw [a];exact b
theorem zde (t:St):Ok 56 [.ag t.cs] (.c (.i (er t.ok))):=by
 refine zk7 Tryz.func56 rfl rfl rfl rfl fun w β=>?_
 have main:(t.live||eqCs t.cs St.z.cs)=true→ART Tryz.prog 56 (cx w β 0 []) Tryz.f56.ntmps (zdm Tryz.f56 0) (fcKn t 0) (REff w β ⟨.c (.i (er t.ok)),[],none⟩):=by
  intro h
  refine yaqk 6 (Nat.le_refl 6) (fun k=>?_) (fun k=>?_)
  ·unfold St.ok;rw [h,k];rfl
  ·unfold St.ok;rw [h,k];rfl
 refine yajv (Nat.zero_le 1) (fun a b=>?_) (fun a b=>⟨zc8 rfl,main ?_⟩) (fun a=>⟨zc8 rfl,main ?_⟩)
 ·have b:(!eqCs t.cs St.z.cs)=true:=b
  have h:(t.live||eqCs t.cs St.z.cs)=false:=by
   revert a b
   cases t.live <;> cases eqCs t.cs St.z.cs <;> decide
  unfold St.ok;rw [h];rfl
 ·have b:(!eqCs t.cs St.z.cs)=false:=b
  rw [yag8 b];cases t.live <;> rfl
 ·rw [yag8 a];rfl
abbrev fjKn (t u b:St) (j:Int):Kn:=⟨[(2,.c (.w 0)),(3,.c (.w 1)),(4,.c (.w 2)),(6,.c (.w 19)),(28,.c (.i j))],[(0,⟨true,t.cs,0⟩),(1,⟨true,u.cs,0⟩),(2,⟨true,St.z.cs,0⟩),(19,⟨true,b.cs,0⟩)],20⟩
theorem yaqn {t u:St} (ht:t.Ok) (hu:u.Ok) {w:World} {β:Bs}:∀ n,n≤6→∀ b:St,
  ART Tryz.prog 59 (cx w β 0 []) Tryz.f59.ntmps (zdm Tryz.f59 0) (fjKn t u b (6 - n:Nat)) (REff w β ⟨.tu [.ag (zc6 t u n b).cs,.c (.i 0)],[],none⟩)
 | 0,_,b=>yaoj
 | n+1,hn,b=>by
  have hj:=zm5 hn
  have ej:=zn0 hn
  have hlt:5 - n<6:=by omega
  have f0:=zwg hj
  have f1:=zx1 t hj
  have f2:(decide (0≤((6 - (n+1):Nat):Int))&&decide (((6 - (n+1):Nat):Int)<6))=true:=hj
  have f3:=zx1 u hj
  have f4:=zbe t hj
  have f5:=zbe u hj
  have f6:=znd t hj
  have f7:=znd u hj
  have f8:=zax t hj
  have f9:=zax u hj
  have next:∀ b':St,zhz t u (5 - n) b=b'→ART Tryz.prog 59 (cx w β 0 []) Tryz.f59.ntmps (zdm Tryz.f59 0) (fjKn t u b' (IntKind.wrap IntKind.i64 (((6 - (n+1):Nat):Int)+1))) (REff w β ⟨.tu [.ag (zc6 t u (n+1) b).cs,.c (.i 0)],[],none⟩):=by
   intro b' hb
   rw [zjg hn,zc6,hb]
   exact yaqn ht hu n (by omega) b'
  have hJ:t.s.get ((6 - (n+1):Nat):Int).toNat=true→u.s.get ((6 - (n+1):Nat):Int).toNat=true→Ok 109 [.ag (t.r.get ((6 - (n+1):Nat):Int).toNat).cs,.ag (u.r.get ((6 - (n+1):Nat):Int).toNat).cs] (.tu [.ag ((t.r.get ((6 - (n+1):Nat):Int).toNat).join (u.r.get ((6 - (n+1):Nat):Int).toNat)).cs,.c (.i 0)]):=fun a d=>by
   rw [ej] at a d ⊢
   exact yafz (ht.set _ hlt a) (hu.set _ hlt d)
  refine zxu (a:=(t.r.get ((6 - (n+1):Nat):Int).toNat).join (u.r.get ((6 - (n+1):Nat):Int).toNat)) (b2:=b.wth ((6 - (n+1):Nat):Int).toNat ((t.r.get ((6 - (n+1):Nat):Int).toNat).join (u.r.get ((6 - (n+1):Nat):Int).toNat))) (by omega)
   (fun a d=>⟨f0,f2,f1,f2,f3,f2,f4,f2,f5,f6,f7,f8,f9,hJ a d,zb9 _ hj,zc8 rfl,next _ ?_⟩) (fun a d=>⟨f0,f2,f1,f2,f3,f6,f7,zc8 rfl,next _ ?_⟩) (fun a=>⟨f0,f2,f1,f6,zc8 rfl,next _ ?_⟩)
  ·rw [ej] at a d ⊢
   unfold zhz;rw [a,d];rfl
  ·rw [ej] at a d
   unfold zhz;rw [a,d];rfl
  ·rw [ej] at a
   unfold zhz;rw [a];rfl
def yad4 (t u:St):Int:=if t.ok&&u.ok then 0 else 1
def yaeh (t u:St):St:=if t.ok&&u.ok then t.join u else St.z
theorem yamj (t u:St):Ok 59 [.ag t.cs,.ag u.cs] (.tu [.ag (yaeh t u).cs,.c (.i (yad4 t u))]):=by
 refine zk7 Tryz.func59 rfl rfl rfl rfl fun w β=>?_
 have bad:(t.ok&&u.ok)=false→(⟨.tu [.ag St.z.cs,.c (.i 1)],[],none⟩:Eff)=⟨.tu [.ag (yaeh t u).cs,.c (.i (yad4 t u))],[],none⟩:=fun h=>by unfold yaeh yad4;rw [h];rfl
 refine yake (e:=er t.ok) (f:=er u.ok) (Nat.zero_le 20) (fun a=>⟨zde t,bad ?_⟩) (fun a b=>⟨zde t,zde u,bad ?_⟩) (fun a b d=>⟨zde t,zde u,?_⟩) (fun a b d e=>⟨zde t,zde u,?_⟩) (fun a b d e=>⟨zde t,zde u,zc8 rfl,?_⟩)
 ·rw [zqo] at a
  rw [show t.ok=false by simpa using a];rfl
 ·rw [zqo] at b
  rw [show u.ok=false by simpa using b];cases t.ok <;> rfl
 all_goals
  rw [zqo] at a b
  have a:t.ok=true:=by simpa using a
  have b:u.ok=true:=by simpa using b
  have hA:yaeh t u=t.join u:=by unfold yaeh;rw [a,b];rfl
  have hE:yad4 t u=0:=by unfold yad4;rw [a,b];rfl
  rw [hA,hE]
  unfold St.join
 ·rw [if_neg (by simpa using d)]
 ·rw [if_pos (by simpa using d),if_neg (by simpa using e)]
 ·rw [if_pos (by simpa using d),if_pos (by simpa using e)]
  exact yaqn (St.ok_iff.1 a) (St.ok_iff.1 b) 6 (Nat.le_refl 6) St.e
end Go.Proofs.YtkigmocchaikgabGreatDoor
namespace Go.Proofs.YtkigmocchaikgabGreatDoor
theorem fine_right {i:Ins}:zft i=true↔Right i 65:=by
 unfold zft
 rw [Bool.and_eq_true,Bool.and_eq_true]
 exact ⟨fun ⟨a,b,c⟩=>⟨a,b,c⟩,fun h=>⟨h.kind,h.fits,h.bare⟩⟩
theorem zqm {o n n':Int} (h:n≤n') (hg:zcj o n=true):zcj o n'=true:=by
 simp only [zcj,Bool.and_eq_true,decide_eq_true_eq] at hg ⊢
 omega
theorem Right.mono {i:Ins} {n n':Int} (h:n≤n') (hr:Right i n):Right i n':=by
 refine ⟨hr.kind,?_,hr.bare⟩
 have:=hr.fits
 unfold inB at this ⊢
 by_cases c1:i.op=10∨i.op=11
 ·rw [if_pos c1] at this ⊢;exact this
 rw [if_neg c1] at this ⊢
 by_cases c2:i.op=12
 ·rw [if_pos c2] at this ⊢;exact zqm h this
 rw [if_neg c2] at this ⊢
 by_cases c3:i.op=13∨i.op=14
 ·rw [if_pos c3] at this ⊢
  rw [Bool.and_eq_true] at this ⊢
  exact ⟨this.1,zqm h this.2⟩
 rw [if_neg c3] at this ⊢
 exact this
theorem zrt {u s:V6 Bool} (h:lacks u s=false):∀ j,j<6→u.get j=true→s.get j=true:=by
 rw [zka,zjq] at h
 intro j hj hu
 have:=h j hj
 rw [hu] at this
 simpa using this
theorem zri {v:V6 Bool} {k j:Nat} (hk:k<6) (hj:j<6):(v.set k true).get j=if k=j then true else v.get j:=V6.get_set _ _ _ _ hk hj
theorem yaxh {i:Ins} (h1:i.op≠12) (h2:i.op≠15) (hs:regB i.s=true):(zaw i).get i.s.toNat=true:=by
 have h3:=regB_iff.1 hs
 have h4:=zbp hs
 unfold zaw
 rw [if_neg h1,if_neg h2,if_neg (by omega),zri h4 h4,if_pos rfl]
theorem yaz8 {i:Ins} (h1:i.op≠12) (h2:i.op≠15) (h3:i.op≠1) (h4:i.op≠10) (hd:regB i.d=true) (hs:srcB i.s=true):(zaw i).get i.d.toNat=true:=by
 have h5:=zbp hd
 unfold zaw
 rw [if_neg h1,if_neg h2,if_neg (by omega:¬ (i.op=1∨i.op=10))]
 by_cases c:i.s=-1
 ·rw [if_pos c,zri h5 h5,if_pos rfl]
 ·rw [if_neg c]
  have h6:=zbp ((srcB_iff.1 hs).resolve_left c)
  rw [zri h6 h5,zri h5 h5,if_pos rfl]
  split <;> rfl
theorem zeu {i:Ins} {n:Int} {t:St} (hr:Right i n) (ht:t.Ok) (hu:lacks (zaw i) t.s=false) (h1:i.op≠12) (h2:i.op≠15):(srcV i t).ok=true:=by
 have hg:=zbo hr
 unfold srcV
 by_cases c:i.s=-1
 ·rw [if_pos c];exact V4.of_ok _
 ·rw [if_neg c]
  have hs:=(srcB_iff.1 hg.2).resolve_left c
  exact ht.set _ (zbp hs) (zrt hu _ (zbp hs) (yaxh h1 h2 hs))
theorem zdx {i:Ins} {n:Int} {t:St} (hr:Right i n) (ht:t.Ok) (hu:lacks (zaw i) t.s=false) (h1:i.op≠12) (h2:i.op≠15) (h3:i.op≠1) (h4:i.op≠10):(t.r.get i.d.toNat).ok=true:=by
 have hg:=zbo hr
 exact ht.set _ (zbp hg.1) (zrt hu _ (zbp hg.1) (yaz8 h1 h2 h3 h4 hg.1 hg.2))
theorem zux {i:Ins} {t:St} (h:zek i t=0):lacks (zaw i) t.s=false∧(i.op=10→farS i (t.r.get i.s.toNat)=false)∧(i.op=11→farS i (t.r.get i.d.toNat)=false):=by
 unfold zek at h
 by_cases c0:lacks (zaw i) t.s=true
 ·rw [if_pos c0] at h;exact absurd h (by decide)
 rw [if_neg c0] at h
 refine ⟨by simpa using c0,fun h1=>?_,fun h1=>?_⟩
 ·rw [if_pos h1] at h
  cases hf:farS i (t.r.get i.s.toNat) with
  | false=>rfl
  | true=>rw [hf] at h;exact absurd h (by decide)
 ·rw [if_neg (by omega),if_pos h1] at h
  cases hf:farS i (t.r.get i.d.toNat) with
  | false=>rfl
  | true=>rw [hf] at h;exact absurd h (by decide)
theorem zkw {i:Ins} {n:Int} (h:Right i n):i.op=10∨i.op=11∨i.op=12∨i.op=13∨i.op=14∨i.op=15∨i.op=1∨(2≤i.op∧i.op≤9):=by
 have:=kind_iff.1 h.kind
 omega
section
variable {i:Ins} {t:St} {m:Mach}
theorem zso (h:i.op=10):goS i t=(t.wth i.d.toNat (V4.bytes (nv i.im)),St.z):=by unfold goS;rw [if_pos h]
theorem zne (h:i.op=11):goS i t=(t,St.z):=by unfold goS;rw [if_neg (by omega),if_pos h]
theorem zsy (h:i.op=12):goS i t=(St.z,t):=by unfold goS;rw [if_neg (by omega),if_neg (by omega),if_pos h]
theorem yabw (h:i.op=13):goS i t=(zeo i t ((t.r.get i.d.toNat).other (srcV i t)),zeo i t ((t.r.get i.d.toNat).equal (srcV i t))):=by
 unfold goS;rw [if_neg (by omega),if_neg (by omega),if_neg (by omega),if_pos h]
theorem yaab (h:i.op=14):goS i t=(zeo i t ((t.r.get i.d.toNat).notLess (srcV i t)),zeo i t ((t.r.get i.d.toNat).less (srcV i t))):=by
 unfold goS;rw [if_neg (by omega),if_neg (by omega),if_neg (by omega),if_neg (by omega),if_pos h]
theorem zq9 (h:i.op=15):goS i t=(St.z,St.z):=by
 unfold goS;rw [if_neg (by omega),if_neg (by omega),if_neg (by omega),if_neg (by omega),if_neg (by omega),if_pos h]
theorem zs4 (h:i.op=1):goS i t=(t.wth i.d.toNat (srcV i t),St.z):=by
 unfold goS;rw [if_neg (by omega),if_neg (by omega),if_neg (by omega),if_neg (by omega),if_neg (by omega),if_neg (by omega),if_pos h]
theorem zq3 (h:2≤i.op∧i.op≤9):goS i t=(t.wth i.d.toNat (V4.two i.op (t.r.get i.d.toNat) (srcV i t)),St.z):=by
 unfold goS;rw [if_neg (by omega),if_neg (by omega),if_neg (by omega),if_neg (by omega),if_neg (by omega),if_neg (by omega),if_neg (by omega)]
end
theorem zlh {i:Ins} {n:Int} {t:St} {x:V4×V4×Bool} (hr:Right i n) (ht:t.Ok) (hl:t.live=true) (hx:x.2.2=true→x.1.ok=true∧x.2.1.ok=true):(zeo i t x).Ok:=by
 have hg:=zbo hr
 unfold zeo
 by_cases c:x.2.2=true
 ·rw [if_pos c]
  have h1:=St.wth_Ok (zbp hg.1) hl (hx c).1 ht
  by_cases cs:i.s=-1
  ·rw [if_pos cs];exact h1
  ·rw [if_neg cs]
   have hs:=(srcB_iff.1 hg.2).resolve_left cs
   exact St.wth_Ok (zbp hs) hl (hx c).2 h1
 ·rw [if_neg c];exact St.z_Ok
theorem yawf {i:Ins} {n:Int} {t:St} (hr:Right i n) (ht:t.Ok) (hl:t.live=true) (h0:zek i t=0):(goS i t).1.Ok∧(goS i t).2.Ok:=by
 have hd:=zbp (zbo hr).1
 obtain ⟨hu,h10,h11⟩:=zux h0
 rcases zkw hr with c | c | c | c | c | c | c | c
 ·rw [zso c];exact ⟨St.wth_Ok hd hl (V4.bytes_ok _) ht,St.z_Ok⟩
 ·rw [zne c];exact ⟨ht,St.z_Ok⟩
 ·rw [zsy c];exact ⟨St.z_Ok,ht⟩
 ·have hs:=zeu hr ht hu (by omega) (by omega)
  have hdv:=zdx hr ht hu (by omega) (by omega) (by omega) (by omega)
  rw [yabw c];exact ⟨zlh hr ht hl (V4.other_ok hdv hs),zlh hr ht hl (V4.equal_ok hdv hs)⟩
 ·have hs:=zeu hr ht hu (by omega) (by omega)
  have hdv:=zdx hr ht hu (by omega) (by omega) (by omega) (by omega)
  rw [yaab c];exact ⟨zlh hr ht hl (V4.notLess_ok hdv hs),zlh hr ht hl (V4.less_ok hdv hs)⟩
 ·rw [zq9 c];exact ⟨St.z_Ok,St.z_Ok⟩
 ·rw [zs4 c];exact ⟨St.wth_Ok hd hl (zeu hr ht hu (by omega) (by omega)) ht,St.z_Ok⟩
 ·have hs:=zeu hr ht hu (by omega) (by omega)
  have hdv:=zdx hr ht hu (by omega) (by omega) (by omega) (by omega)
  rw [zq3 c];exact ⟨St.wth_Ok hd hl (V4.two_ok (by omega) hdv hs) ht,St.z_Ok⟩
theorem zqr {i:Ins} {n:Int} {t:St} (hr:Right i n) (ht:t.Ok):(zag i t).1.Ok∧(zag i t).2.1.Ok:=by
 unfold zag
 by_cases hl:t.live=true
 ·rw [if_pos hl]
  by_cases h0:zek i t=0
  ·rw [if_pos h0];exact yawf hr ht hl h0
  ·rw [if_neg h0];exact ⟨St.z_Ok,St.z_Ok⟩
 ·rw [if_neg hl];exact ⟨St.z_Ok,St.z_Ok⟩
end Go.Proofs.YtkigmocchaikgabGreatDoor
