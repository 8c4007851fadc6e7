import Derived.Test.YtkigmocchaikgabGreatDoorDj2
import Derived.Test.YtkigmocchaikgabGreatDoorDj1
import Derived.RangeFuncBox
import Derived.RangeFuncLeaves
import Derived.RangeFuncWrites
import Derived.Shelf.Abstract
import Derived.WalkKit
import Derived.OwnWalkIn
import Derived.TacticsInMore
import Derived.LoopNIn
import Derived.LoopIn
import Derived.Test.YtkigmocchaikgabGreatDoorProg
/- The contract of the reference's twoBits. -/
namespace Go.Proofs.YtkigmocchaikgabGreatDoor
open Go.RowKit
section
attribute [local go_sem] zdb w_or zdd za3 zb4 zbd zc9 zc4 zda zbw zby zcz zb0 zdc zcn zc0 zb1 zbx zb2 zbz za1
theorem ba0:bits .and .i64 0 1=0:=by decide
theorem ba1:bits .and .i64 1 1=1:=by decide
theorem ba2:bits .and .i64 2 1=0:=by decide
theorem ba3:bits .and .i64 3 1=1:=by decide
theorem ba4:bits .and .i64 4 1=0:=by decide
theorem ba5:bits .and .i64 5 1=1:=by decide
theorem ba6:bits .and .i64 6 1=0:=by decide
theorem ba7:bits .and .i64 7 1=1:=by decide
attribute [local go_sem] ba0 ba1 ba2 ba3 ba4 ba5 ba6 ba7
theorem bi_t:bi true=1:=rfl
theorem bi_f:bi false=0:=rfl
theorem yasj {k:Nat} (h:k<8):k=0∨k=1∨k=2∨k=3∨k=4∨k=5∨k=6∨k=7:=by omega
set_option maxRecDepth 100000 in
set_option maxHeartbeats 8000000 in
theorem zni (op:Int) (av am bv bm:BitVec 64) (w:World) :
  Calls Tryz.prog 165 #[N op,Bt av am,Bt bv bm] w fun e w'=>e=.returned (Bt (twoV op av am bv bm 64) (twoM op av am bv bm 64))∧Below w.heap.size w w':=by
 go_enter Tryz.func165,Tryz.ntmps165
 go_wp2_with fail
 have hK0:=(((((Kp.start w).add2 (U av) (U am) 47).add2 (U bv) (U bm) 47).add2 (.int .u64 0) (.int .u64 0) 47).add2 (.int .u64 0) (.int .u64 0) 47).add2 (.bool true) (.bool false) 209
 simp only [World.size_alloc] at hK0
 go_loopw [9] (fun t wr=>∃ (i:Nat) (c0 c1:Bool) (V M:BitVec 64),i≤64∧t=N i∧twoC op av am bv bm i=(c0,c1)∧twoV op av am bv bm i=V∧twoM op av am bv bm i=M
   ∧ Kp w wr [(w.heap.size+1+1+1+1,[.bool c0,.bool c1]),(w.heap.size+1+1+1,[U V,U M]),(w.heap.size+1+1,[.int .u64 0,.int .u64 0]),(w.heap.size+1,[U bv,U bm]),(w.heap.size,[U av,U am])]) (fun t _=>64 - (intOf t).toNat)
 case atStart=>exact ⟨0,true,false,zero,zero,by omega,rfl,rfl,rfl,rfl,hK0⟩
 case round =>
  clear hK0
  obtain ⟨i,c0,c1,V,M,hi,rfl,hC,hV,hM,hK⟩:=hrel
  have HC:Hid _:=hC
  have HV:Hid _:=hV
  have HM:Hid _:=hM
  clear hC hV hM
  by_cases hlt:i<64
  ·obtain ⟨z,o,H1,H2⟩:=zgy av am i
   obtain ⟨u,p,H3,H4⟩:=zgy bv bm i
   obtain ⟨R,hR⟩:∃ R,R=wr.heap.size:=⟨_,rfl⟩
   have hK1:=(hK.add2 (.bool false) (.bool false) 209).add2 (.bool false) (.bool false) 209
   simp only [World.size_alloc] at hK1
   rw [← hR] at hK1
   have hR':wr.heap.size=R:=hR.symm
   clear hR hK
   have hd:decide ((i:Int)<64)=true:=by simp;omega
   go_wp2_with fail
   clear hR'
   go_loopw [12] (fun t ws=>∃ (k:Nat) (r0 r1 v0 v1:Bool),k≤8∧t=N k∧inn op z o u p c0 c1 k=((r0,r1),(v0,v1))
     ∧ Kp w ws [(R+1,[.bool v0,.bool v1]),(R,[.bool r0,.bool r1]),(w.heap.size+1+1+1+1,[.bool c0,.bool c1]),(w.heap.size+1+1+1,[U V,U M]),(w.heap.size+1+1,[.int .u64 0,.int .u64 0]),(w.heap.size+1,[U bv,U bm]),(w.heap.size,[U av,U am])]) (fun t _=>8 - (intOf t).toNat)
   case atStart=>exact ⟨0,false,false,false,false,by omega,rfl,rfl,hK1⟩
   case round =>
    clear hK1
    obtain ⟨k,r0,r1,v0,v1,hk,rfl,hs,hK⟩:=hrel
    have Hs:Hid _:=hs
    clear hs
    obtain ⟨vv0,vv1,vv2,vv3,vv4⟩:=hK.box.head.two
    obtain ⟨rr0,rr1,rr2,rr3,rr4⟩:=hK.box.tail.head.two
    obtain ⟨cc0,cc1,cc2,cc3,cc4⟩:=hK.box.tail.tail.head.two
    obtain ⟨oo0,oo1,oo2,oo3,oo4⟩:=hK.box.tail.tail.tail.head.two
    obtain ⟨b0,b1,b2,b3,b4⟩:=hK.box.tail.tail.tail.tail.tail.head.two
    obtain ⟨a0,a1,a2,a3,a4⟩:=hK.box.tail.tail.tail.tail.tail.tail.head.two
    by_cases hk8:k<8
    ·rcases yasj hk8 with rfl | rfl | rfl | rfl | rfl | rfl | rfl | rfl
     ·as_aux_lemma =>
      obtain ⟨q1,q2,Hb⟩:=zuk op false false false
      go_wp2_with fail
      refine (zbj hlt H1 H2 _).mono ?_
      rintro e w1 ⟨rfl,hb1⟩
      have hK1:=hK.keep hb1
      clear vv0 vv1 vv2 vv3 vv4 rr0 rr1 rr2 rr3 rr4 cc0 cc1 cc2 cc3 cc4 oo0 oo1 oo2 oo3 oo4 b0 b1 b2 b3 b4 a0 a1 a2 a3 a4
      obtain ⟨vv0,vv1,vv2,vv3,vv4⟩:=hK1.box.head.two
      obtain ⟨rr0,rr1,rr2,rr3,rr4⟩:=hK1.box.tail.head.two
      obtain ⟨cc0,cc1,cc2,cc3,cc4⟩:=hK1.box.tail.tail.head.two
      obtain ⟨oo0,oo1,oo2,oo3,oo4⟩:=hK1.box.tail.tail.tail.head.two
      obtain ⟨b0,b1,b2,b3,b4⟩:=hK1.box.tail.tail.tail.tail.tail.head.two
      obtain ⟨a0,a1,a2,a3,a4⟩:=hK1.box.tail.tail.tail.tail.tail.tail.head.two
      go_wp2_with fail
      refine (zbj hlt H3 H4 _).mono ?_
      rintro e w2 ⟨rfl,hb2⟩
      have hK2:=hK1.keep hb2
      clear vv0 vv1 vv2 vv3 vv4 rr0 rr1 rr2 rr3 rr4 cc0 cc1 cc2 cc3 cc4 oo0 oo1 oo2 oo3 oo4 b0 b1 b2 b3 b4 a0 a1 a2 a3 a4
      obtain ⟨vv0,vv1,vv2,vv3,vv4⟩:=hK2.box.head.two
      obtain ⟨rr0,rr1,rr2,rr3,rr4⟩:=hK2.box.tail.head.two
      obtain ⟨cc0,cc1,cc2,cc3,cc4⟩:=hK2.box.tail.tail.head.two
      obtain ⟨oo0,oo1,oo2,oo3,oo4⟩:=hK2.box.tail.tail.tail.head.two
      obtain ⟨b0,b1,b2,b3,b4⟩:=hK2.box.tail.tail.tail.tail.tail.head.two
      obtain ⟨a0,a1,a2,a3,a4⟩:=hK2.box.tail.tail.tail.tail.tail.tail.head.two
      clear hb1 hb2 hK1 hK H1 H2 H3 H4
      cases z
      ·as_aux_lemma =>
        go_wp2_with fail
        go_roundw
        case rel=>exact ⟨0+1,r0,r1,v0,v1,by omega,rfl,zcp Hs.out rfl,hK2⟩
        case measure=>simp [intOf]
      ·cases u
       ·as_aux_lemma =>
         go_wp2_with fail
         go_roundw
         case rel=>exact ⟨0+1,r0,r1,v0,v1,by omega,rfl,zcp Hs.out rfl,hK2⟩
         case measure=>simp [intOf]
       ·cases c0
        ·as_aux_lemma =>
          go_wp2_with fail
          go_roundw
          case rel=>exact ⟨0+1,r0,r1,v0,v1,by omega,rfl,zcp Hs.out rfl,hK2⟩
          case measure=>simp [intOf]
        ·as_aux_lemma =>
          go_wp2_with fail
          refine (ze9 Hb _).mono ?_
          rintro e w3 ⟨rfl,rfl⟩
          cases q1 <;> cases q2
          all_goals
           first | rw [bi_t] | rw [bi_f]
           try first | rw [bi_t] | rw [bi_f]
           go_wp2_with fail
           go_roundw
           case rel=>exact ⟨0+1,_,_,_,_,by omega,rfl,zg6 Hs.out rfl rfl rfl rfl Hb.out,(hK2.set1 1 rfl rfl).set1 0 rfl rfl⟩
           case measure=>simp [intOf]
     ·as_aux_lemma =>
      obtain ⟨q1,q2,Hb⟩:=zuk op true false false
      go_wp2_with fail
      refine (zbj hlt H1 H2 _).mono ?_
      rintro e w1 ⟨rfl,hb1⟩
      have hK1:=hK.keep hb1
      clear vv0 vv1 vv2 vv3 vv4 rr0 rr1 rr2 rr3 rr4 cc0 cc1 cc2 cc3 cc4 oo0 oo1 oo2 oo3 oo4 b0 b1 b2 b3 b4 a0 a1 a2 a3 a4
      obtain ⟨vv0,vv1,vv2,vv3,vv4⟩:=hK1.box.head.two
      obtain ⟨rr0,rr1,rr2,rr3,rr4⟩:=hK1.box.tail.head.two
      obtain ⟨cc0,cc1,cc2,cc3,cc4⟩:=hK1.box.tail.tail.head.two
      obtain ⟨oo0,oo1,oo2,oo3,oo4⟩:=hK1.box.tail.tail.tail.head.two
      obtain ⟨b0,b1,b2,b3,b4⟩:=hK1.box.tail.tail.tail.tail.tail.head.two
      obtain ⟨a0,a1,a2,a3,a4⟩:=hK1.box.tail.tail.tail.tail.tail.tail.head.two
      go_wp2_with fail
      refine (zbj hlt H3 H4 _).mono ?_
      rintro e w2 ⟨rfl,hb2⟩
      have hK2:=hK1.keep hb2
      clear vv0 vv1 vv2 vv3 vv4 rr0 rr1 rr2 rr3 rr4 cc0 cc1 cc2 cc3 cc4 oo0 oo1 oo2 oo3 oo4 b0 b1 b2 b3 b4 a0 a1 a2 a3 a4
      obtain ⟨vv0,vv1,vv2,vv3,vv4⟩:=hK2.box.head.two
      obtain ⟨rr0,rr1,rr2,rr3,rr4⟩:=hK2.box.tail.head.two
      obtain ⟨cc0,cc1,cc2,cc3,cc4⟩:=hK2.box.tail.tail.head.two
      obtain ⟨oo0,oo1,oo2,oo3,oo4⟩:=hK2.box.tail.tail.tail.head.two
      obtain ⟨b0,b1,b2,b3,b4⟩:=hK2.box.tail.tail.tail.tail.tail.head.two
      obtain ⟨a0,a1,a2,a3,a4⟩:=hK2.box.tail.tail.tail.tail.tail.tail.head.two
      clear hb1 hb2 hK1 hK H1 H2 H3 H4
      cases o
      ·as_aux_lemma =>
        go_wp2_with fail
        go_roundw
        case rel=>exact ⟨1+1,r0,r1,v0,v1,by omega,rfl,zcp Hs.out rfl,hK2⟩
        case measure=>simp [intOf]
      ·cases u
       ·as_aux_lemma =>
         go_wp2_with fail
         go_roundw
         case rel=>exact ⟨1+1,r0,r1,v0,v1,by omega,rfl,zcp Hs.out rfl,hK2⟩
         case measure=>simp [intOf]
       ·cases c0
        ·as_aux_lemma =>
          go_wp2_with fail
          go_roundw
          case rel=>exact ⟨1+1,r0,r1,v0,v1,by omega,rfl,zcp Hs.out rfl,hK2⟩
          case measure=>simp [intOf]
        ·as_aux_lemma =>
          go_wp2_with fail
          refine (ze9 Hb _).mono ?_
          rintro e w3 ⟨rfl,rfl⟩
          cases q1 <;> cases q2
          all_goals
           first | rw [bi_t] | rw [bi_f]
           try first | rw [bi_t] | rw [bi_f]
           go_wp2_with fail
           go_roundw
           case rel=>exact ⟨1+1,_,_,_,_,by omega,rfl,zg6 Hs.out rfl rfl rfl rfl Hb.out,(hK2.set1 1 rfl rfl).set1 0 rfl rfl⟩
           case measure=>simp [intOf]
     ·as_aux_lemma =>
      obtain ⟨q1,q2,Hb⟩:=zuk op false true false
      go_wp2_with fail
      refine (zbj hlt H1 H2 _).mono ?_
      rintro e w1 ⟨rfl,hb1⟩
      have hK1:=hK.keep hb1
      clear vv0 vv1 vv2 vv3 vv4 rr0 rr1 rr2 rr3 rr4 cc0 cc1 cc2 cc3 cc4 oo0 oo1 oo2 oo3 oo4 b0 b1 b2 b3 b4 a0 a1 a2 a3 a4
      obtain ⟨vv0,vv1,vv2,vv3,vv4⟩:=hK1.box.head.two
      obtain ⟨rr0,rr1,rr2,rr3,rr4⟩:=hK1.box.tail.head.two
      obtain ⟨cc0,cc1,cc2,cc3,cc4⟩:=hK1.box.tail.tail.head.two
      obtain ⟨oo0,oo1,oo2,oo3,oo4⟩:=hK1.box.tail.tail.tail.head.two
      obtain ⟨b0,b1,b2,b3,b4⟩:=hK1.box.tail.tail.tail.tail.tail.head.two
      obtain ⟨a0,a1,a2,a3,a4⟩:=hK1.box.tail.tail.tail.tail.tail.tail.head.two
      go_wp2_with fail
      refine (zbj hlt H3 H4 _).mono ?_
      rintro e w2 ⟨rfl,hb2⟩
      have hK2:=hK1.keep hb2
      clear vv0 vv1 vv2 vv3 vv4 rr0 rr1 rr2 rr3 rr4 cc0 cc1 cc2 cc3 cc4 oo0 oo1 oo2 oo3 oo4 b0 b1 b2 b3 b4 a0 a1 a2 a3 a4
      obtain ⟨vv0,vv1,vv2,vv3,vv4⟩:=hK2.box.head.two
      obtain ⟨rr0,rr1,rr2,rr3,rr4⟩:=hK2.box.tail.head.two
      obtain ⟨cc0,cc1,cc2,cc3,cc4⟩:=hK2.box.tail.tail.head.two
      obtain ⟨oo0,oo1,oo2,oo3,oo4⟩:=hK2.box.tail.tail.tail.head.two
      obtain ⟨b0,b1,b2,b3,b4⟩:=hK2.box.tail.tail.tail.tail.tail.head.two
      obtain ⟨a0,a1,a2,a3,a4⟩:=hK2.box.tail.tail.tail.tail.tail.tail.head.two
      clear hb1 hb2 hK1 hK H1 H2 H3 H4
      cases z
      ·as_aux_lemma =>
        go_wp2_with fail
        go_roundw
        case rel=>exact ⟨2+1,r0,r1,v0,v1,by omega,rfl,zcp Hs.out rfl,hK2⟩
        case measure=>simp [intOf]
      ·cases p
       ·as_aux_lemma =>
         go_wp2_with fail
         go_roundw
         case rel=>exact ⟨2+1,r0,r1,v0,v1,by omega,rfl,zcp Hs.out rfl,hK2⟩
         case measure=>simp [intOf]
       ·cases c0
        ·as_aux_lemma =>
          go_wp2_with fail
          go_roundw
          case rel=>exact ⟨2+1,r0,r1,v0,v1,by omega,rfl,zcp Hs.out rfl,hK2⟩
          case measure=>simp [intOf]
        ·as_aux_lemma =>
          go_wp2_with fail
          refine (ze9 Hb _).mono ?_
          rintro e w3 ⟨rfl,rfl⟩
          cases q1 <;> cases q2
          all_goals
           first | rw [bi_t] | rw [bi_f]
           try first | rw [bi_t] | rw [bi_f]
           go_wp2_with fail
           go_roundw
           case rel=>exact ⟨2+1,_,_,_,_,by omega,rfl,zg6 Hs.out rfl rfl rfl rfl Hb.out,(hK2.set1 1 rfl rfl).set1 0 rfl rfl⟩
           case measure=>simp [intOf]
     ·as_aux_lemma =>
      obtain ⟨q1,q2,Hb⟩:=zuk op true true false
      go_wp2_with fail
      refine (zbj hlt H1 H2 _).mono ?_
      rintro e w1 ⟨rfl,hb1⟩
      have hK1:=hK.keep hb1
      clear vv0 vv1 vv2 vv3 vv4 rr0 rr1 rr2 rr3 rr4 cc0 cc1 cc2 cc3 cc4 oo0 oo1 oo2 oo3 oo4 b0 b1 b2 b3 b4 a0 a1 a2 a3 a4
      obtain ⟨vv0,vv1,vv2,vv3,vv4⟩:=hK1.box.head.two
      obtain ⟨rr0,rr1,rr2,rr3,rr4⟩:=hK1.box.tail.head.two
      obtain ⟨cc0,cc1,cc2,cc3,cc4⟩:=hK1.box.tail.tail.head.two
      obtain ⟨oo0,oo1,oo2,oo3,oo4⟩:=hK1.box.tail.tail.tail.head.two
      obtain ⟨b0,b1,b2,b3,b4⟩:=hK1.box.tail.tail.tail.tail.tail.head.two
      obtain ⟨a0,a1,a2,a3,a4⟩:=hK1.box.tail.tail.tail.tail.tail.tail.head.two
      go_wp2_with fail
      refine (zbj hlt H3 H4 _).mono ?_
      rintro e w2 ⟨rfl,hb2⟩
      have hK2:=hK1.keep hb2
      clear vv0 vv1 vv2 vv3 vv4 rr0 rr1 rr2 rr3 rr4 cc0 cc1 cc2 cc3 cc4 oo0 oo1 oo2 oo3 oo4 b0 b1 b2 b3 b4 a0 a1 a2 a3 a4
      obtain ⟨vv0,vv1,vv2,vv3,vv4⟩:=hK2.box.head.two
      obtain ⟨rr0,rr1,rr2,rr3,rr4⟩:=hK2.box.tail.head.two
      obtain ⟨cc0,cc1,cc2,cc3,cc4⟩:=hK2.box.tail.tail.head.two
      obtain ⟨oo0,oo1,oo2,oo3,oo4⟩:=hK2.box.tail.tail.tail.head.two
      obtain ⟨b0,b1,b2,b3,b4⟩:=hK2.box.tail.tail.tail.tail.tail.head.two
      obtain ⟨a0,a1,a2,a3,a4⟩:=hK2.box.tail.tail.tail.tail.tail.tail.head.two
      clear hb1 hb2 hK1 hK H1 H2 H3 H4
      cases o
      ·as_aux_lemma =>
        go_wp2_with fail
        go_roundw
        case rel=>exact ⟨3+1,r0,r1,v0,v1,by omega,rfl,zcp Hs.out rfl,hK2⟩
        case measure=>simp [intOf]
      ·cases p
       ·as_aux_lemma =>
         go_wp2_with fail
         go_roundw
         case rel=>exact ⟨3+1,r0,r1,v0,v1,by omega,rfl,zcp Hs.out rfl,hK2⟩
         case measure=>simp [intOf]
       ·cases c0
        ·as_aux_lemma =>
          go_wp2_with fail
          go_roundw
          case rel=>exact ⟨3+1,r0,r1,v0,v1,by omega,rfl,zcp Hs.out rfl,hK2⟩
          case measure=>simp [intOf]
        ·as_aux_lemma =>
          go_wp2_with fail
          refine (ze9 Hb _).mono ?_
          rintro e w3 ⟨rfl,rfl⟩
          cases q1 <;> cases q2
          all_goals
           first | rw [bi_t] | rw [bi_f]
           try first | rw [bi_t] | rw [bi_f]
           go_wp2_with fail
           go_roundw
           case rel=>exact ⟨3+1,_,_,_,_,by omega,rfl,zg6 Hs.out rfl rfl rfl rfl Hb.out,(hK2.set1 1 rfl rfl).set1 0 rfl rfl⟩
           case measure=>simp [intOf]
     ·as_aux_lemma =>
      obtain ⟨q1,q2,Hb⟩:=zuk op false false true
      go_wp2_with fail
      refine (zbj hlt H1 H2 _).mono ?_
      rintro e w1 ⟨rfl,hb1⟩
      have hK1:=hK.keep hb1
      clear vv0 vv1 vv2 vv3 vv4 rr0 rr1 rr2 rr3 rr4 cc0 cc1 cc2 cc3 cc4 oo0 oo1 oo2 oo3 oo4 b0 b1 b2 b3 b4 a0 a1 a2 a3 a4
      obtain ⟨vv0,vv1,vv2,vv3,vv4⟩:=hK1.box.head.two
      obtain ⟨rr0,rr1,rr2,rr3,rr4⟩:=hK1.box.tail.head.two
      obtain ⟨cc0,cc1,cc2,cc3,cc4⟩:=hK1.box.tail.tail.head.two
      obtain ⟨oo0,oo1,oo2,oo3,oo4⟩:=hK1.box.tail.tail.tail.head.two
      obtain ⟨b0,b1,b2,b3,b4⟩:=hK1.box.tail.tail.tail.tail.tail.head.two
      obtain ⟨a0,a1,a2,a3,a4⟩:=hK1.box.tail.tail.tail.tail.tail.tail.head.two
      go_wp2_with fail
      refine (zbj hlt H3 H4 _).mono ?_
      rintro e w2 ⟨rfl,hb2⟩
      have hK2:=hK1.keep hb2
      clear vv0 vv1 vv2 vv3 vv4 rr0 rr1 rr2 rr3 rr4 cc0 cc1 cc2 cc3 cc4 oo0 oo1 oo2 oo3 oo4 b0 b1 b2 b3 b4 a0 a1 a2 a3 a4
      obtain ⟨vv0,vv1,vv2,vv3,vv4⟩:=hK2.box.head.two
      obtain ⟨rr0,rr1,rr2,rr3,rr4⟩:=hK2.box.tail.head.two
      obtain ⟨cc0,cc1,cc2,cc3,cc4⟩:=hK2.box.tail.tail.head.two
      obtain ⟨oo0,oo1,oo2,oo3,oo4⟩:=hK2.box.tail.tail.tail.head.two
      obtain ⟨b0,b1,b2,b3,b4⟩:=hK2.box.tail.tail.tail.tail.tail.head.two
      obtain ⟨a0,a1,a2,a3,a4⟩:=hK2.box.tail.tail.tail.tail.tail.tail.head.two
      clear hb1 hb2 hK1 hK H1 H2 H3 H4
      cases z
      ·as_aux_lemma =>
        go_wp2_with fail
        go_roundw
        case rel=>exact ⟨4+1,r0,r1,v0,v1,by omega,rfl,zcp Hs.out rfl,hK2⟩
        case measure=>simp [intOf]
      ·cases u
       ·as_aux_lemma =>
         go_wp2_with fail
         go_roundw
         case rel=>exact ⟨4+1,r0,r1,v0,v1,by omega,rfl,zcp Hs.out rfl,hK2⟩
         case measure=>simp [intOf]
       ·cases c1
        ·as_aux_lemma =>
          go_wp2_with fail
          go_roundw
          case rel=>exact ⟨4+1,r0,r1,v0,v1,by omega,rfl,zcp Hs.out rfl,hK2⟩
          case measure=>simp [intOf]
        ·as_aux_lemma =>
          go_wp2_with fail
          refine (ze9 Hb _).mono ?_
          rintro e w3 ⟨rfl,rfl⟩
          cases q1 <;> cases q2
          all_goals
           first | rw [bi_t] | rw [bi_f]
           try first | rw [bi_t] | rw [bi_f]
           go_wp2_with fail
           go_roundw
           case rel=>exact ⟨4+1,_,_,_,_,by omega,rfl,zg6 Hs.out rfl rfl rfl rfl Hb.out,(hK2.set1 1 rfl rfl).set1 0 rfl rfl⟩
           case measure=>simp [intOf]
     ·as_aux_lemma =>
      obtain ⟨q1,q2,Hb⟩:=zuk op true false true
      go_wp2_with fail
      refine (zbj hlt H1 H2 _).mono ?_
      rintro e w1 ⟨rfl,hb1⟩
      have hK1:=hK.keep hb1
      clear vv0 vv1 vv2 vv3 vv4 rr0 rr1 rr2 rr3 rr4 cc0 cc1 cc2 cc3 cc4 oo0 oo1 oo2 oo3 oo4 b0 b1 b2 b3 b4 a0 a1 a2 a3 a4
      obtain ⟨vv0,vv1,vv2,vv3,vv4⟩:=hK1.box.head.two
      obtain ⟨rr0,rr1,rr2,rr3,rr4⟩:=hK1.box.tail.head.two
      obtain ⟨cc0,cc1,cc2,cc3,cc4⟩:=hK1.box.tail.tail.head.two
      obtain ⟨oo0,oo1,oo2,oo3,oo4⟩:=hK1.box.tail.tail.tail.head.two
      obtain ⟨b0,b1,b2,b3,b4⟩:=hK1.box.tail.tail.tail.tail.tail.head.two
      obtain ⟨a0,a1,a2,a3,a4⟩:=hK1.box.tail.tail.tail.tail.tail.tail.head.two
      go_wp2_with fail
      refine (zbj hlt H3 H4 _).mono ?_
      rintro e w2 ⟨rfl,hb2⟩
      have hK2:=hK1.keep hb2
      clear vv0 vv1 vv2 vv3 vv4 rr0 rr1 rr2 rr3 rr4 cc0 cc1 cc2 cc3 cc4 oo0 oo1 oo2 oo3 oo4 b0 b1 b2 b3 b4 a0 a1 a2 a3 a4
      obtain ⟨vv0,vv1,vv2,vv3,vv4⟩:=hK2.box.head.two
      obtain ⟨rr0,rr1,rr2,rr3,rr4⟩:=hK2.box.tail.head.two
      obtain ⟨cc0,cc1,cc2,cc3,cc4⟩:=hK2.box.tail.tail.head.two
      obtain ⟨oo0,oo1,oo2,oo3,oo4⟩:=hK2.box.tail.tail.tail.head.two
      obtain ⟨b0,b1,b2,b3,b4⟩:=hK2.box.tail.tail.tail.tail.tail.head.two
      obtain ⟨a0,a1,a2,a3,a4⟩:=hK2.box.tail.tail.tail.tail.tail.tail.head.two
      clear hb1 hb2 hK1 hK H1 H2 H3 H4
      cases o
      ·as_aux_lemma =>
        go_wp2_with fail
        go_roundw
        case rel=>exact ⟨5+1,r0,r1,v0,v1,by omega,rfl,zcp Hs.out rfl,hK2⟩
        case measure=>simp [intOf]
      ·cases u
       ·as_aux_lemma =>
         go_wp2_with fail
         go_roundw
         case rel=>exact ⟨5+1,r0,r1,v0,v1,by omega,rfl,zcp Hs.out rfl,hK2⟩
         case measure=>simp [intOf]
       ·cases c1
        ·as_aux_lemma =>
          go_wp2_with fail
          go_roundw
          case rel=>exact ⟨5+1,r0,r1,v0,v1,by omega,rfl,zcp Hs.out rfl,hK2⟩
          case measure=>simp [intOf]
        ·as_aux_lemma =>
          go_wp2_with fail
          refine (ze9 Hb _).mono ?_
          rintro e w3 ⟨rfl,rfl⟩
          cases q1 <;> cases q2
          all_goals
           first | rw [bi_t] | rw [bi_f]
           try first | rw [bi_t] | rw [bi_f]
           go_wp2_with fail
           go_roundw
           case rel=>exact ⟨5+1,_,_,_,_,by omega,rfl,zg6 Hs.out rfl rfl rfl rfl Hb.out,(hK2.set1 1 rfl rfl).set1 0 rfl rfl⟩
           case measure=>simp [intOf]
     ·as_aux_lemma =>
      obtain ⟨q1,q2,Hb⟩:=zuk op false true true
      go_wp2_with fail
      refine (zbj hlt H1 H2 _).mono ?_
      rintro e w1 ⟨rfl,hb1⟩
      have hK1:=hK.keep hb1
      clear vv0 vv1 vv2 vv3 vv4 rr0 rr1 rr2 rr3 rr4 cc0 cc1 cc2 cc3 cc4 oo0 oo1 oo2 oo3 oo4 b0 b1 b2 b3 b4 a0 a1 a2 a3 a4
      obtain ⟨vv0,vv1,vv2,vv3,vv4⟩:=hK1.box.head.two
      obtain ⟨rr0,rr1,rr2,rr3,rr4⟩:=hK1.box.tail.head.two
      obtain ⟨cc0,cc1,cc2,cc3,cc4⟩:=hK1.box.tail.tail.head.two
      obtain ⟨oo0,oo1,oo2,oo3,oo4⟩:=hK1.box.tail.tail.tail.head.two
      obtain ⟨b0,b1,b2,b3,b4⟩:=hK1.box.tail.tail.tail.tail.tail.head.two
      obtain ⟨a0,a1,a2,a3,a4⟩:=hK1.box.tail.tail.tail.tail.tail.tail.head.two
      go_wp2_with fail
      refine (zbj hlt H3 H4 _).mono ?_
      rintro e w2 ⟨rfl,hb2⟩
      have hK2:=hK1.keep hb2
      clear vv0 vv1 vv2 vv3 vv4 rr0 rr1 rr2 rr3 rr4 cc0 cc1 cc2 cc3 cc4 oo0 oo1 oo2 oo3 oo4 b0 b1 b2 b3 b4 a0 a1 a2 a3 a4
      obtain ⟨vv0,vv1,vv2,vv3,vv4⟩:=hK2.box.head.two
      obtain ⟨rr0,rr1,rr2,rr3,rr4⟩:=hK2.box.tail.head.two
      obtain ⟨cc0,cc1,cc2,cc3,cc4⟩:=hK2.box.tail.tail.head.two
      obtain ⟨oo0,oo1,oo2,oo3,oo4⟩:=hK2.box.tail.tail.tail.head.two
      obtain ⟨b0,b1,b2,b3,b4⟩:=hK2.box.tail.tail.tail.tail.tail.head.two
      obtain ⟨a0,a1,a2,a3,a4⟩:=hK2.box.tail.tail.tail.tail.tail.tail.head.two
      clear hb1 hb2 hK1 hK H1 H2 H3 H4
      cases z
      ·as_aux_lemma =>
        go_wp2_with fail
        go_roundw
        case rel=>exact ⟨6+1,r0,r1,v0,v1,by omega,rfl,zcp Hs.out rfl,hK2⟩
        case measure=>simp [intOf]
      ·cases p
       ·as_aux_lemma =>
         go_wp2_with fail
         go_roundw
         case rel=>exact ⟨6+1,r0,r1,v0,v1,by omega,rfl,zcp Hs.out rfl,hK2⟩
         case measure=>simp [intOf]
       ·cases c1
        ·as_aux_lemma =>
          go_wp2_with fail
          go_roundw
          case rel=>exact ⟨6+1,r0,r1,v0,v1,by omega,rfl,zcp Hs.out rfl,hK2⟩
          case measure=>simp [intOf]
        ·as_aux_lemma =>
          go_wp2_with fail
          refine (ze9 Hb _).mono ?_
          rintro e w3 ⟨rfl,rfl⟩
          cases q1 <;> cases q2
          all_goals
           first | rw [bi_t] | rw [bi_f]
           try first | rw [bi_t] | rw [bi_f]
           go_wp2_with fail
           go_roundw
           case rel=>exact ⟨6+1,_,_,_,_,by omega,rfl,zg6 Hs.out rfl rfl rfl rfl Hb.out,(hK2.set1 1 rfl rfl).set1 0 rfl rfl⟩
           case measure=>simp [intOf]
     ·as_aux_lemma =>
      obtain ⟨q1,q2,Hb⟩:=zuk op true true true
      go_wp2_with fail
      refine (zbj hlt H1 H2 _).mono ?_
      rintro e w1 ⟨rfl,hb1⟩
      have hK1:=hK.keep hb1
      clear vv0 vv1 vv2 vv3 vv4 rr0 rr1 rr2 rr3 rr4 cc0 cc1 cc2 cc3 cc4 oo0 oo1 oo2 oo3 oo4 b0 b1 b2 b3 b4 a0 a1 a2 a3 a4
      obtain ⟨vv0,vv1,vv2,vv3,vv4⟩:=hK1.box.head.two
      obtain ⟨rr0,rr1,rr2,rr3,rr4⟩:=hK1.box.tail.head.two
      obtain ⟨cc0,cc1,cc2,cc3,cc4⟩:=hK1.box.tail.tail.head.two
      obtain ⟨oo0,oo1,oo2,oo3,oo4⟩:=hK1.box.tail.tail.tail.head.two
      obtain ⟨b0,b1,b2,b3,b4⟩:=hK1.box.tail.tail.tail.tail.tail.head.two
      obtain ⟨a0,a1,a2,a3,a4⟩:=hK1.box.tail.tail.tail.tail.tail.tail.head.two
      go_wp2_with fail
      refine (zbj hlt H3 H4 _).mono ?_
      rintro e w2 ⟨rfl,hb2⟩
      have hK2:=hK1.keep hb2
      clear vv0 vv1 vv2 vv3 vv4 rr0 rr1 rr2 rr3 rr4 cc0 cc1 cc2 cc3 cc4 oo0 oo1 oo2 oo3 oo4 b0 b1 b2 b3 b4 a0 a1 a2 a3 a4
      obtain ⟨vv0,vv1,vv2,vv3,vv4⟩:=hK2.box.head.two
      obtain ⟨rr0,rr1,rr2,rr3,rr4⟩:=hK2.box.tail.head.two
      obtain ⟨cc0,cc1,cc2,cc3,cc4⟩:=hK2.box.tail.tail.head.two
      obtain ⟨oo0,oo1,oo2,oo3,oo4⟩:=hK2.box.tail.tail.tail.head.two
      obtain ⟨b0,b1,b2,b3,b4⟩:=hK2.box.tail.tail.tail.tail.tail.head.two
      obtain ⟨a0,a1,a2,a3,a4⟩:=hK2.box.tail.tail.tail.tail.tail.tail.head.two
      clear hb1 hb2 hK1 hK H1 H2 H3 H4
      cases o
      ·as_aux_lemma =>
        go_wp2_with fail
        go_roundw
        case rel=>exact ⟨7+1,r0,r1,v0,v1,by omega,rfl,zcp Hs.out rfl,hK2⟩
        case measure=>simp [intOf]
      ·cases p
       ·as_aux_lemma =>
         go_wp2_with fail
         go_roundw
         case rel=>exact ⟨7+1,r0,r1,v0,v1,by omega,rfl,zcp Hs.out rfl,hK2⟩
         case measure=>simp [intOf]
       ·cases c1
        ·as_aux_lemma =>
          go_wp2_with fail
          go_roundw
          case rel=>exact ⟨7+1,r0,r1,v0,v1,by omega,rfl,zcp Hs.out rfl,hK2⟩
          case measure=>simp [intOf]
        ·as_aux_lemma =>
          go_wp2_with fail
          refine (ze9 Hb _).mono ?_
          rintro e w3 ⟨rfl,rfl⟩
          cases q1 <;> cases q2
          all_goals
           first | rw [bi_t] | rw [bi_f]
           try first | rw [bi_t] | rw [bi_f]
           go_wp2_with fail
           go_roundw
           case rel=>exact ⟨7+1,_,_,_,_,by omega,rfl,zg6 Hs.out rfl rfl rfl rfl Hb.out,(hK2.set1 1 rfl rfl).set1 0 rfl rfl⟩
           case measure=>simp [intOf]
    ·have e8:k=8:=by omega
     subst e8
     go_wp2_with fail
     refine (zf8 _ _ i hlt _ _ _).mono ?_
     rintro e w1 ⟨rfl,hb1⟩
     have hK1:=hK.keep hb1
     clear vv0 vv1 vv2 vv3 vv4 rr0 rr1 rr2 rr3 rr4 cc0 cc1 cc2 cc3 cc4 oo0 oo1 oo2 oo3 oo4 b0 b1 b2 b3 b4 a0 a1 a2 a3 a4
     obtain ⟨vv0,vv1,vv2,vv3,vv4⟩:=hK1.box.head.two
     obtain ⟨rr0,rr1,rr2,rr3,rr4⟩:=hK1.box.tail.head.two
     obtain ⟨cc0,cc1,cc2,cc3,cc4⟩:=hK1.box.tail.tail.head.two
     obtain ⟨oo0,oo1,oo2,oo3,oo4⟩:=hK1.box.tail.tail.tail.head.two
     obtain ⟨b0,b1,b2,b3,b4⟩:=hK1.box.tail.tail.tail.tail.tail.head.two
     obtain ⟨a0,a1,a2,a3,a4⟩:=hK1.box.tail.tail.tail.tail.tail.tail.head.two
     have hK2:=hK1.set2 (x:=U (putV V i r0 r1)) (y:=U (putM M i r0 r1)) 3 rfl
     obtain ⟨vvv0,vvv1,vvv2,vvv3,vvv4⟩:=hK2.box.head.two
     obtain ⟨ccc0,ccc1,ccc2,ccc3,ccc4⟩:=hK2.box.tail.tail.head.two
     go_wp2_with fail
     have hS:inn op (mz av i) (mo av am i) (mz bv i) (mo bv bm i) (twoC op av am bv bm i).1 (twoC op av am bv bm i).2 8=((r0,r1),(v0,v1)):=by
      rw [← H1.out,← H2.out,← H3.out,← H4.out,HC.out];exact Hs.out
     have hR1:twoR op av am bv bm i=(r0,r1):=by unfold twoR;rw [hS]
     exact ⟨⟨i+1,v0,v1,_,_,by omega,by go_num,by show (inn op (mz av i) (mo av am i) (mz bv i) (mo bv bm i) (twoC op av am bv bm i).1 (twoC op av am bv bm i).2 8).2=_;rw [hS],
      by rw [← yah5,hR1,HV.out],by rw [← yalz,hR1,HM.out],⟨((hK2.set2 (x:=.bool v0) (y:=.bool v1) 2 rfl)).bel,((hK2.set2 (x:=.bool v0) (y:=.bool v1) 2 rfl)).box.tail.tail,fun q hq=>((hK2.set2 (x:=.bool v0) (y:=.bool v1) 2 rfl)).lo q (List.mem_cons_of_mem _ (List.mem_cons_of_mem _ hq))⟩⟩,by simp [intOf];omega⟩
  ·have e64:i=64:=by omega
   subst e64
   obtain ⟨cc0,cc1,cc2,cc3,cc4⟩:=hK.box.head.two
   obtain ⟨oo0,oo1,oo2,oo3,oo4⟩:=hK.box.tail.head.two
   obtain ⟨zz0,zz1,zz2,zz3,zz4⟩:=hK.box.tail.tail.head.two
   obtain ⟨b0,b1,b2,b3,b4⟩:=hK.box.tail.tail.tail.head.two
   obtain ⟨a0,a1,a2,a3,a4⟩:=hK.box.tail.tail.tail.tail.head.two
   go_wp2_with fail
   rw [← HV.out,← HM.out] at *
   exact bodyPost_ret (v:=Bt (twoV op av am bv bm 64) (twoM op av am bv bm 64)) (by simp [results,Tryz.results165,go_sem,zz0,zz1]) rfl ⟨rfl,(hK.set2 (x:=_) (y:=_) 2 rfl).bel⟩
end
end Go.Proofs.YtkigmocchaikgabGreatDoor
namespace Go.Proofs.YtkigmocchaikgabGreatDoor
theorem yait:∀ a m b n cm cM:Bool,(a&&m)=false→(b&&n)=false→(cm=true→cM=true) →
  (inn 2 (!a) (a||m) (!b) (b||n) (!cm) cM 8).2=(!((a&&b)||(cm&&(a||b))),((a||m)&&(b||n))||(cM&&((a||m)||(b||n))))
  ∧ ((inn 2 (!a) (a||m) (!b) (b||n) (!cm) cM 8).1.2&&(inn 2 (!a) (a||m) (!b) (b||n) (!cm) cM 8).1.1)=(m||n||(!cm&&cM))
  ∧ ((inn 2 (!a) (a||m) (!b) (b||n) (!cm) cM 8).1.2&&!(inn 2 (!a) (a||m) (!b) (b||n) (!cm) cM 8).1.1)=(((a ^^ b) ^^ cm)&&!(m||n||(!cm&&cM))):=by
 decide
theorem yakf:∀ a m b n cm cM:Bool,(a&&m)=false→(b&&n)=false→(cm=true→cM=true) →
  (inn 3 (!a) (a||m) (!b) (b||n) (!cm) cM 8).2=(!((!(a||m)&&b)||(cm&&(!(a||m)||b))),(!a&&(b||n))||(cM&&(!a||(b||n))))
  ∧ ((inn 3 (!a) (a||m) (!b) (b||n) (!cm) cM 8).1.2&&(inn 3 (!a) (a||m) (!b) (b||n) (!cm) cM 8).1.1)=(m||n||(!cm&&cM))
  ∧ ((inn 3 (!a) (a||m) (!b) (b||n) (!cm) cM 8).1.2&&!(inn 3 (!a) (a||m) (!b) (b||n) (!cm) cM 8).1.1)=(((a ^^ b) ^^ cm)&&!(m||n||(!cm&&cM))):=by
 decide
theorem yaij:∀ a m b n:Bool,(a&&m)=false→(b&&n)=false →
  (inn 5 (!a) (a||m) (!b) (b||n) true false 8).2=(true,false)
  ∧ ((inn 5 (!a) (a||m) (!b) (b||n) true false 8).1.2&&(inn 5 (!a) (a||m) (!b) (b||n) true false 8).1.1)=(((a||m)&&(b||n))&&!(a&&b))
  ∧ ((inn 5 (!a) (a||m) (!b) (b||n) true false 8).1.2&&!(inn 5 (!a) (a||m) (!b) (b||n) true false 8).1.1)=(a&&b):=by
 decide
theorem yap6:∀ a m b n:Bool,(a&&m)=false→(b&&n)=false →
  (inn 6 (!a) (a||m) (!b) (b||n) true false 8).2=(true,false)
  ∧ ((inn 6 (!a) (a||m) (!b) (b||n) true false 8).1.2&&(inn 6 (!a) (a||m) (!b) (b||n) true false 8).1.1)=((m||n)&&!(a||b))
  ∧ ((inn 6 (!a) (a||m) (!b) (b||n) true false 8).1.2&&!(inn 6 (!a) (a||m) (!b) (b||n) true false 8).1.1)=(a||b):=by
 decide
theorem yakm:∀ a m b n:Bool,(a&&m)=false→(b&&n)=false →
  (inn 7 (!a) (a||m) (!b) (b||n) true false 8).2=(true,false)
  ∧ ((inn 7 (!a) (a||m) (!b) (b||n) true false 8).1.2&&(inn 7 (!a) (a||m) (!b) (b||n) true false 8).1.1)=(m||n)
  ∧ ((inn 7 (!a) (a||m) (!b) (b||n) true false 8).1.2&&!(inn 7 (!a) (a||m) (!b) (b||n) true false 8).1.1)=((a ^^ b)&&!(m||n)):=by
 decide
theorem yayk (av am bv bm:BitVec 64) (i:Nat):cy av bv i=true→cy (bor av am) (bor bv bm) i=true :=
 zn9 av bv (bor av am) (bor bv bm) (fun i h=>by rw [zap,h];rfl) (fun i h=>by rw [zap,h];rfl) i
theorem yays (av am bv bm:BitVec 64) (i:Nat):bw (bor av am) bv i=true→bw av (bor bv bm) i=true :=
 zg1 (bor av am) bv av (bor bv bm) (fun i h=>by rw [zap,h];rfl) (fun i h=>by rw [zap,h];rfl) i
theorem yacj {av am bv bm:BitVec 64} (ha:∀ j,(bit av j&&bit am j)=false) (hb:∀ j,(bit bv j&&bit bm j)=false) (i:Nat):twoC 2 av am bv bm i=(!cy av bv i,cy (bor av am) (bor bv bm) i):=by
 induction i with
 | zero=>rw [zmh,zmh];rfl
 | succ i ih =>
  simp only [twoC]
  rw [ih,zj6,zj6,zap,zap]
  exact (yait (bit av i) (bit am i) (bit bv i) (bit bm i) (cy av bv i) (cy (bor av am) (bor bv bm) i) (ha i) (hb i) (yayk av am bv bm i)).1
theorem zqz {av am bv bm:BitVec 64} (ha:∀ j,(bit av j&&bit am j)=false) (hb:∀ j,(bit bv j&&bit bm j)=false):twoV 2 av am bv bm 64=bandn (badd av bv) (addM av am bv bm)∧twoM 2 av am bv bm 64=addM av am bv bm:=by
 have key:=fun j=>yait (bit av j) (bit am j) (bit bv j) (bit bm j) (cy av bv j) (cy (bor av am) (bor bv bm) j) (ha j) (hb j) (yayk av am bv bm j)
 constructor
 ·apply zdz;intro j hj
  simp only [twoR]
  rw [yacj ha hb j,zas _ _ _ hj,zh8 _ _ _ hj]
  unfold addM
  rw [zsc ha hb j hj]
  exact (key j).2.2
 ·apply zdz;intro j hj
  simp only [twoR]
  rw [yacj ha hb j]
  unfold addM
  rw [zsc ha hb j hj]
  exact (key j).2.1
theorem yaas {av am bv bm:BitVec 64} (ha:∀ j,(bit av j&&bit am j)=false) (hb:∀ j,(bit bv j&&bit bm j)=false) (i:Nat) (hi:i≤64):twoC 3 av am bv bm i=(!bw (bor av am) bv i,bw av (bor bv bm) i):=by
 induction i with
 | zero=>rw [zxj,zxj];rfl
 | succ i ih =>
  simp only [twoC]
  rw [ih (by omega),zyr _ _ _ (by omega),zyr _ _ _ (by omega),zap,zap]
  exact (yakf (bit av i) (bit am i) (bit bv i) (bit bm i) (bw (bor av am) bv i) (bw av (bor bv bm) i) (ha i) (hb i) (yays av am bv bm i)).1
theorem yaip {av am bv bm:BitVec 64} (ha:∀ j,(bit av j&&bit am j)=false) (hb:∀ j,(bit bv j&&bit bm j)=false):twoV 3 av am bv bm 64=bandn (bsub av bv) (subM av am bv bm)∧twoM 3 av am bv bm 64=subM av am bv bm:=by
 have key:=fun j=>yakf (bit av j) (bit am j) (bit bv j) (bit bm j) (bw (bor av am) bv j) (bw av (bor bv bm) j) (ha j) (hb j) (yays av am bv bm j)
 constructor
 ·apply zdz;intro j hj
  simp only [twoR]
  rw [yaas ha hb j (by omega),zas _ _ _ hj,zj4 _ _ _ hj]
  unfold subM
  rw [zr1 ha hb j hj]
  have h1:=(key j).2.2
  have m3:=zg1 (bor av am) bv av bv (fun i h=>by rw [zap,h];rfl) (fun i h=>h) j
  have m4:=zg1 av bv av (bor bv bm) (fun i h=>h) (fun i h=>by rw [zap,h];rfl) j
  refine h1.trans ?_
  revert m3 m4
  cases bit av j <;> cases bit am j <;> cases bit bv j <;> cases bit bm j <;> cases bw (bor av am) bv j <;> cases bw av bv j <;> cases bw av (bor bv bm) j <;> simp
 ·apply zdz;intro j hj
  simp only [twoR]
  rw [yaas ha hb j (by omega)]
  unfold subM
  rw [zr1 ha hb j hj]
  exact (key j).2.1
theorem yabm {av am bv bm:BitVec 64} (ha:∀ j,(bit av j&&bit am j)=false) (hb:∀ j,(bit bv j&&bit bm j)=false) (i:Nat):twoC 5 av am bv bm i=(true,false):=by
 induction i with
 | zero=>rfl
 | succ i ih=>simp only [twoC];rw [ih];exact (yaij (bit av i) (bit am i) (bit bv i) (bit bm i) (ha i) (hb i)).1
theorem yagx {av am bv bm:BitVec 64} (ha:∀ j,(bit av j&&bit am j)=false) (hb:∀ j,(bit bv j&&bit bm j)=false):twoV 5 av am bv bm 64=band av bv∧twoM 5 av am bv bm 64=bandn (band (bor av am) (bor bv bm)) (band av bv):=by
 have key:=fun j=>yaij (bit av j) (bit am j) (bit bv j) (bit bm j) (ha j) (hb j)
 constructor
 ·apply zdz;intro j hj
  simp only [twoR]
  rw [yabm ha hb j,zaz]
  exact (key j).2.2
 ·apply zdz;intro j hj
  simp only [twoR]
  rw [yabm ha hb j,zas _ _ _ hj,zaz,zaz,zap,zap]
  exact (key j).2.1
theorem yaj7 {av am bv bm:BitVec 64} (ha:∀ j,(bit av j&&bit am j)=false) (hb:∀ j,(bit bv j&&bit bm j)=false) (i:Nat):twoC 6 av am bv bm i=(true,false):=by
 induction i with
 | zero=>rfl
 | succ i ih=>simp only [twoC];rw [ih];exact (yap6 (bit av i) (bit am i) (bit bv i) (bit bm i) (ha i) (hb i)).1
theorem yaqo {av am bv bm:BitVec 64} (ha:∀ j,(bit av j&&bit am j)=false) (hb:∀ j,(bit bv j&&bit bm j)=false):twoV 6 av am bv bm 64=bor av bv∧twoM 6 av am bv bm 64=bandn (bor am bm) (bor av bv):=by
 have key:=fun j=>yap6 (bit av j) (bit am j) (bit bv j) (bit bm j) (ha j) (hb j)
 constructor
 ·apply zdz;intro j hj
  simp only [twoR]
  rw [yaj7 ha hb j,zap]
  exact (key j).2.2
 ·apply zdz;intro j hj
  simp only [twoR]
  rw [yaj7 ha hb j,zas _ _ _ hj,zap,zap]
  exact (key j).2.1
theorem yaaq {av am bv bm:BitVec 64} (ha:∀ j,(bit av j&&bit am j)=false) (hb:∀ j,(bit bv j&&bit bm j)=false) (i:Nat):twoC 7 av am bv bm i=(true,false):=by
 induction i with
 | zero=>rfl
 | succ i ih=>simp only [twoC];rw [ih];exact (yakm (bit av i) (bit am i) (bit bv i) (bit bm i) (ha i) (hb i)).1
theorem yako {av am bv bm:BitVec 64} (ha:∀ j,(bit av j&&bit am j)=false) (hb:∀ j,(bit bv j&&bit bm j)=false):twoV 7 av am bv bm 64=bandn (bxor av bv) (bor am bm)∧twoM 7 av am bv bm 64=bor am bm:=by
 have key:=fun j=>yakm (bit av j) (bit am j) (bit bv j) (bit bm j) (ha j) (hb j)
 constructor
 ·apply zdz;intro j hj
  simp only [twoR]
  rw [yaaq ha hb j,zas _ _ _ hj,zbl,zap]
  exact (key j).2.2
 ·apply zdz;intro j hj
  simp only [twoR]
  rw [yaaq ha hb j,zap]
  exact (key j).2.1
end Go.Proofs.YtkigmocchaikgabGreatDoor
namespace Go.Proofs.YtkigmocchaikgabGreatDoor
open Go.RowKit
section
attribute [local go_sem] zdb w_or zdd za3 zb4 zbd zc9 zc4 zda zbw zby zcz zb0 zdc zcn zc0 zb1 zbx zb2 zbz za1
theorem zpm {a b:BitVec 64×BitVec 64}:eqb (band (addP a b).1 (addP a b).2) zero=true:=by
 rw [zcc];intro j
 by_cases hj:j<64
 ·simp only [addP];rw [zas _ _ _ hj];cases bit (badd a.1 b.1) j <;> cases bit (addM a.1 a.2 b.1 b.2) j <;> rfl
 ·rw [zba _ _ (by omega)];rfl
theorem yacv (av am bv bm:BitVec 64) (k:Nat):eqb (band (mulS av am bv bm k).1 (mulS av am bv bm k).2) zero=true:=by
 induction k with
 | zero=>exact (by decide:eqb (band zero zero) zero=true)
 | succ k ih =>
  simp only [mulS]
  by_cases h1:bit av k=true
  ·rw [if_pos h1];exact zpm
  ·rw [if_neg h1]
   by_cases h2:bit am k=true
   ·rw [if_pos h2];exact zpm
   ·rw [if_neg h2];exact ih
theorem yajr {v m:BitVec 64} (h:eqb (band v m) zero=true) (k:Nat):eqb (band (bshl v k) (bshl m k)) zero=true:=by
 rw [zcc] at h ⊢
 intro j
 by_cases hj:j<64
 ·rw [zei _ _ _ hj,zei _ _ _ hj]
  have:=h (j - k)
  revert this
  cases decide (k≤j) <;> cases bit v (j - k) <;> cases bit m (j - k) <;> simp
 ·rw [zba _ _ (by omega)];rfl
theorem yad0 (m:BitVec 64):eqb (band zero m) zero=true:=by
 rw [zcc];intro j;rw [zbb];rfl
theorem zmk {av am bv bm:BitVec 64} (ha:eqb (band av am) zero=true) (hb:eqb (band bv bm) zero=true) (w:World) :
  Calls Tryz.prog 165 #[N 2,Bt av am,Bt bv bm] w fun e w'=>e=.returned (Bt (addP (av,am) (bv,bm)).1 (addP (av,am) (bv,bm)).2)∧Below w.heap.size w w':=by
 have h:=zni 2 av am bv bm w
 rw [(zqz ((zcc _ _).1 ha) ((zcc _ _).1 hb)).1,(zqz ((zcc _ _).1 ha) ((zcc _ _).1 hb)).2] at h
 exact h
theorem yafl {op:Int} {av am bv bm:BitVec 64} (hop:op=2∨op=3∨op=5∨op=6∨op=7) (ha:eqb (band av am) zero=true) (hb:eqb (band bv bm) zero=true) (w:World) :
  Calls Tryz.prog 165 #[N op,Bt av am,Bt bv bm] w fun e w'=>e=.returned (Bt (twoP op av am bv bm).1 (twoP op av am bv bm).2)∧Below w.heap.size w w':=by
 have h:=zni op av am bv bm w
 have ra:=(zcc _ _).1 ha
 have rb:=(zcc _ _).1 hb
 rcases hop with rfl | rfl | rfl | rfl | rfl
 ·rw [(zqz ra rb).1,(zqz ra rb).2] at h;exact h
 ·rw [(yaip ra rb).1,(yaip ra rb).2] at h;exact h
 ·rw [(yagx ra rb).1,(yagx ra rb).2] at h;exact h
 ·rw [(yaqo ra rb).1,(yaqo ra rb).2] at h;exact h
 ·rw [(yako ra rb).1,(yako ra rb).2] at h;exact h
theorem yad7 {v m:BitVec 64} (h:eqb (band v m) zero=true) {n:Nat} (hn:n<64) (w:World) :
  Calls Tryz.prog 125 #[N 8,Bt v m,N n] w fun e w'=>e=.returned (Bt (bshl v n) (bshl m n))∧Below w.heap.size w w':=by
 have hh:=zf2 true 8 rfl v m n hn w
 rw [(zlh h n).1,(zlh h n).2] at hh
 exact hh
set_option maxRecDepth 100000 in
set_option maxHeartbeats 2000000 in
theorem zsd {op:Int} {av am bv bm:BitVec 64} (hop:Hid (op=2∨op=3∨op=5∨op=6∨op=7)) (ha:Hid (eqb (band av am) zero=true)) (hb:Hid (eqb (band bv bm) zero=true)) (w:World) :
  Calls Tryz.prog 123 #[N op,Bt av am,Bt bv bm] w fun e w'=>e=.returned (Bt (twoP op av am bv bm).1 (twoP op av am bv bm).2)∧Below w.heap.size w w':=by
 have h4:(op != 4)=true:=by rcases hop.out with rfl | rfl | rfl | rfl | rfl <;> decide
 go_enter Tryz.func123,Tryz.ntmps123
 go_wp2_with fail
 refine (yafl hop.out ha.out hb.out _).mono ?_
 rintro e w1 ⟨rfl,hb1⟩
 obtain ⟨hc1,hf1,hs1⟩:=bk (w.heap.size+1+1+1) hb1 (by simp)
 go_wp2_with fail
 exact bodyPost_ret (v:=Bt (twoP op av am bv bm).1 (twoP op av am bv bm).2) (by simp [results,Tryz.results123,go_sem,hc1]) rfl ⟨rfl,(by repeat (first | exact Below.refl _ _ | assumption | refine below_drewN ?_ _ | refine Below.drew ?_ | refine Below.alloc ?_ (by first | exact Nat.le_refl _ | (simp;done) | (simp;omega) | omega) _ | refine Below.setCell ?_ (by first | exact Nat.le_refl _ | (simp;done) | (simp;omega) | omega) _ | refine Below.trans ?_ (Below.mono (by assumption) (by first | exact Nat.le_refl _ | (simp;done) | (simp;omega) | omega))))⟩
set_option maxRecDepth 100000 in
set_option maxHeartbeats 2000000 in
theorem zxi {av am bv bm:BitVec 64} (hb:Hid (eqb (band bv bm) zero=true)) (w:World) :
  Calls Tryz.prog 123 #[N 4,Bt av am,Bt bv bm] w fun e w'=>e=.returned (Bt (mulS av am bv bm 64).1 (mulS av am bv bm 64).2)∧Below w.heap.size w w':=by
 go_enter Tryz.func123,Tryz.ntmps123
 go_wp2_with fail
 go_loopw [8] (fun i wr=>∃ k:Nat,k≤64∧i=N k
   ∧ Below (w.heap.size+1+1+1) (((w.alloc (.cells #[U av,U am] 47)).alloc (.cells #[U bv,U bm] 47)).alloc (.cells #[.int .u64 0,.int .u64 0] 47)) wr
   ∧ wr.cell? ⟨w.heap.size+1+1+1,0,none⟩=some (U (mulS av am bv bm k).1)∧wr.cell? ⟨w.heap.size+1+1+1,1,none⟩=some (U (mulS av am bv bm k).2)
   ∧ (∀ o,wr.frozen? ⟨w.heap.size+1+1+1,o,none⟩=false)
   ∧ w.heap.size+1+1+1+1≤wr.heap.size) (fun i _=>64 - (intOf i).toNat)
 case atStart =>
  exact ⟨0,by omega,rfl,(by repeat (first | exact Below.refl _ _ | assumption | refine below_drewN ?_ _ | refine Below.drew ?_ | refine Below.alloc ?_ (by first | exact Nat.le_refl _ | (simp;done) | (simp;omega) | omega) _ | refine Below.setCell ?_ (by first | exact Nat.le_refl _ | (simp;done) | (simp;omega) | omega) _ | refine Below.trans ?_ (Below.mono (by assumption) (by first | exact Nat.le_refl _ | (simp;done) | (simp;omega) | omega)))),by simp [mulS,za4,go_sem],by simp [mulS,za4,go_sem],by simp [go_sem],by simp⟩
 case round =>
  obtain ⟨k,hk,rfl,hbel,ho0,ho1,hfo,hsz⟩:=hrel
  obtain ⟨hc,hf⟩:=bl hbel
  by_cases hlt:k<64
  ·obtain ⟨z,o,H1,H2⟩:=zgy av am k
   have Hr:Hid (eqb (band (mulS av am bv bm k).1 (mulS av am bv bm k).2) zero=true):=yacv av am bv bm k
   have Hs:Hid (mulS av am bv bm (k+1)=if bit av k then addP (mulS av am bv bm k) (bshl bv k,bshl bm k)
    else if bit am k then addP (mulS av am bv bm k) (zero,bor (bshl bv k) (bshl bm k)) else mulS av am bv bm k):=rfl
   generalize mulS av am bv bm k=S at ho0 ho1 Hs Hr
   obtain ⟨sv,sm⟩:=S
   simp only at ho0 ho1
   have Hu:Hid (eqb (band (bshl bv k) (bshl bm k)) zero=true):=yajr hb.out k
   go_wp2_with fail
   refine (zbj hlt H1 H2 _).mono ?_
   rintro e w1 ⟨rfl,hb1⟩
   obtain ⟨hc1,hf1,hs1⟩:=bk _ hb1 hsz
   go_wp2_with fail
   refine (yad7 hb.out hlt _).mono ?_
   rintro e w2 ⟨rfl,hb2⟩
   obtain ⟨hc2,hf2,hs2⟩:=bk _ hb2 hs1
   have hlt1:w.heap.size+1+1+1<w2.heap.size:=by omega
   have hlt2:w.heap.size+1+1<w2.heap.size:=by omega
   have hlt3:w.heap.size+1<w2.heap.size:=by omega
   have hlt4:w.heap.size<w2.heap.size:=by omega
   have hb12:Below wr.heap.size wr w2:=hb1.trans (hb2.mono hb1.size)
   have Hz:=H1.out
   have Ho:=H2.out
   unfold mz at Hz
   unfold mo at Ho
   cases hA:bit av k <;> cases hM:bit am k
   all_goals
    rw [hA] at Hz
    rw [hA,hM] at Ho
    rw [hA,hM] at Hs
    simp only [Bool.not_true,Bool.not_false,Bool.or_false,Bool.or_true] at Hz Ho
    subst Hz
    subst Ho
    clear H1 H2 hA hM
   ·go_wp2_with fail
    exact ⟨⟨k+1,by omega,by go_num,yaag hbel (hb12.trans (((Below.refl _ _).alloc (Nat.le_refl _) _).mono hb12.size)) hsz ho0 ho1 hfo (by rw [Hs.out];rfl) (by rw [Hs.out];rfl)⟩,by simp [intOf];omega⟩
   ·go_wp2_with fail
    refine (zmk (bv:=zero) Hr.out (yad0 _) _).mono ?_
    rintro e w3 ⟨rfl,hb3⟩
    obtain ⟨hc3,hf3,hs3⟩:=bk (w.heap.size+1+1+1+1) hb3 (by simp;omega)
    go_wp2_with fail
    exact ⟨⟨k+1,by omega,by go_num,zeh hbel (hb12.trans ((((Below.refl _ _).alloc (Nat.le_refl _) _).trans (hb3.mono (by simp))).mono hb12.size)) hsz ho0 ho1 hfo (by rw [Hs.out];rfl) (by rw [Hs.out];rfl)⟩,by simp [intOf];omega⟩
   all_goals
    go_wp2_with fail
    refine (zmk Hr.out Hu.out _).mono ?_
    rintro e w3 ⟨rfl,hb3⟩
    obtain ⟨hc3,hf3,hs3⟩:=bk (w.heap.size+1+1+1+1) hb3 (by simp;omega)
    go_wp2_with fail
    exact ⟨⟨k+1,by omega,by go_num,zeh hbel (hb12.trans ((((Below.refl _ _).alloc (Nat.le_refl _) _).trans (hb3.mono (by simp))).mono hb12.size)) hsz ho0 ho1 hfo (by rw [Hs.out];rfl) (by rw [Hs.out];rfl)⟩,by simp [intOf];omega⟩
  ·have hk64:k=64:=by omega
   subst hk64
   go_wp2_with fail
   exact bodyPost_ret (v:=Bt (mulS av am bv bm 64).1 (mulS av am bv bm 64).2) (by simp [results,Tryz.results123,go_sem,hc]) rfl ⟨rfl,(by repeat (first | exact Below.refl _ _ | assumption | refine below_drewN ?_ _ | refine Below.drew ?_ | refine Below.alloc ?_ (by first | exact Nat.le_refl _ | (simp;done) | (simp;omega) | omega) _ | refine Below.setCell ?_ (by first | exact Nat.le_refl _ | (simp;done) | (simp;omega) | omega) _ | refine Below.trans ?_ (Below.mono (by assumption) (by first | exact Nat.le_refl _ | (simp;done) | (simp;omega) | omega))))⟩
end
end Go.Proofs.YtkigmocchaikgabGreatDoor
namespace Go.Proofs.YtkigmocchaikgabGreatDoor
open Go.RowKit Go.Shelf
section
attribute [local go_sem] Oper.semAt_some
abbrev Upto (n:Nat):Type:={ x:Nat // x<n }
def yaoj (n:Nat) (h:0<n) (j:Nat):Upto n:=⟨n - 1 - j,by omega⟩
def down (n:Nat) (h:0<n) (k:Nat):List (Upto n):=(List.range k).map (yaoj n h)
theorem yahc (n:Nat) (h:0<n) (k:Nat):down n h (k+1)=down n h k++[yaoj n h k]:=by simp [down,List.range_succ]
theorem zzk (n:Nat) (h:0<n) (k:Nat):(down n h k).length=k:=by simp [down]
abbrev encN {n:Nat} (x:Upto n):Array Value:=#[Value.int .i64 (x.1:Int)]
set_option maxRecDepth 100000 in
set_option maxHeartbeats 2000000 in
theorem yakq {n:Nat} (hn:0<n) (h64:n≤64) (m l:Nat) (p:Addr) (hm:1≤m) (J Jx:List (Upto n)→World→Prop)
  (hY:∀ pre x W,J pre W→pre.length<n→YieldAt Fence.wide (m - 1) Tryz.prog l (encN x) W fun e W' =>
   (e=.returned (.bool true)∧J (pre++[x]) W'∧True)∨(e=.returned (.bool false)∧Jx (pre++[x]) W'))
  (W:World) (hB:W.cell? p=some (.int .i64 (n:Int))) (h0:J [] W) :
  CallsIn Fence.wide m Tryz.prog 163 #[.func (.yield l) #[] #[],.pointer (some p)] W fun e W'=>(∃ v,e=.returned v) ∧
   ((∃ ys,ys=down n hn n∧J ys W')∨(∃ pre,True∧Jx pre W')):=by
 refine callsIn_of_wp Tryz.func163 rfl trivial ?_ rfl
 simp only [Tryz.ntmps163,List.size_toArray,List.length_cons,List.length_nil,Nat.reduceAdd,Nat.reduceSub,Array.replicate_succ,Array.replicate_zero,List.push_toArray,List.append_toArray,List.nil_append,List.cons_append]
 gi_wp2
 gi_loopw [3] (fun i wr=>∃ k:Nat,k≤n∧i=.int .i64 ((n:Int) - 1 - k)∧J (down n hn k) wr)
  (fun i _=>((intOf i)+1).toNat)
 case atStart=>exact ⟨0,Nat.zero_le _,by simp,h0⟩
 case round =>
  obtain ⟨k,hk,rfl,hJs⟩:=hrel
  by_cases hlt:k<n
  ·obtain ⟨fn,tmps,assign,body,hy,hR⟩:=hY _ (yaoj n hn k) wr hJs (by rw [zzk];exact hlt)
   have e1:((n - 1 - k:Nat):Int)=(n:Int) - 1 - k:=by omega
   simp only [encN,yaoj,e1] at hy
   gi_wp2
   refine hR.mono ?_
   rintro e W3 (⟨rfl,hJ3,_⟩ | ⟨rfl,hJx3⟩)
   ·gi_wp2
    go_roundw
    case rel=>exact ⟨k+1,by omega,by simp;omega,by rw [yahc];exact hJ3⟩
    case measure=>simp [intOf];omega
   ·gi_wp2
    refine bodyPost_ret (results_none rfl _ _ _) rfl ?_
    exact ⟨⟨_,rfl⟩,.inr ⟨_,trivial,hJx3⟩⟩
  ·obtain rfl:k=n:=by omega
   gi_wp2
   go_end0
   exact ⟨⟨_,rfl⟩,.inl ⟨_,rfl,hJs⟩⟩
theorem ztr {n:Nat} (hn:0<n) (h64:n≤64) (m:Nat) (p:Addr) (hm:1≤m) (w:World) (hB:p.block<w.heap.size) (hc:w.cell? p=some (.int .i64 (n:Int))) :
  SeqStopsK Fence.wide m Tryz.prog 163 #[.pointer (some p)] (encN (n:=n)) (fun _ _=>True) (fun ys=>ys=down n hn n) (fun _=>True) n w:=fun l J Jx W hW _ _ hY h0 =>
 yakq hn h64 m l p hm J Jx hY W ((hW.cell (p:=p) hB).trans hc) h0
end
end Go.Proofs.YtkigmocchaikgabGreatDoor
