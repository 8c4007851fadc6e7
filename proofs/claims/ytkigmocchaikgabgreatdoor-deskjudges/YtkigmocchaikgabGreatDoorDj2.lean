import Derived.Test.YtkigmocchaikgabGreatDoorDj1
import Derived.Laws.MathBits
import Derived.Laws.StructEq
import Derived.Deep.RegionWith
import Derived.Deep.CutBlock
import Derived.Deep.DeepCutAuto
import Derived.BigRegion
import Derived.Deep.RegionHeld3
/- The contracts of the reference's least and greatest. -/
namespace Go.Proofs.YtkigmocchaikgabGreatDoor
open Go.RowKit
section
attribute [local go_sem] zdb w_or zdd za3 zb4 zbd zc9 zc4 zda zbw zby zcz zb0 zdc zcn zc0 zb1 zbx zb2 zbz za1
theorem yapn (v:BitVec 64) (i:Nat):eqb (band (bshr v i) one) zero=!bit v i:=by
 cases hb:bit v i
 ·have h:∀ j,bit (band (bshr v i) one) j=false:=by
   intro j
   rw [zaz,ze0]
   have ho:bit one j=decide (j=0):=by
    have:=zct 0 j (by omega)
    rw [show bshl one 0=one by unfold bshl;simp] at this
    exact this
   rw [ho]
   by_cases e:j=0
   ·subst e;rw [Nat.add_zero,hb];rfl
   ·simp [e]
  rw [(zb6 _).2 fun j _=>h j];rfl
 ·have:=zi5 v i
  rw [hb,zdm] at this
  rw [this];rfl
theorem yaax {v m x:BitVec 64} {b:Bool} (h:hasB v m x=b) (w:World) :
  Calls Tryz.prog 190 #[Bt v m,U x] w fun e w'=>e=.returned (.bool b)∧Below w.heap.size w w':=h ▸ zvs v m x w
set_option maxRecDepth 100000 in
set_option maxHeartbeats 1000000 in
theorem zkt (v m x:BitVec 64) (w:World) :
  Calls Tryz.prog 168 #[Bt v m,U x] w fun e w'=>e=.returned (.tuple #[U (zcr v m x 64).1,.bool (zcr v m x 64).2])∧Below w.heap.size w w':=by
 obtain ⟨hh,Hh⟩:∃ b,Hid (hasB v m x=b):=⟨_,rfl⟩
 go_enter Tryz.func168,Tryz.ntmps168
 go_wp2_with fail
 refine (yaax Hh.out _).mono ?_
 rintro e w1 ⟨rfl,hb1⟩
 have hK:=((Kp.start w).add2 _ _ _).keep hb1
 go_wp2_with fail
 go_loopw [6,7,8] (fun b f i wr=>∃ k:Nat,k≤64∧i=N k∧b=U (zcr v m x k).1∧f=.bool (zcr v m x k).2∧Kp w wr [(w.heap.size,[U v,U m])]) (fun _ _ i _=>64 - (intOf i).toNat)
 case atStart=>exact ⟨0,by omega,rfl,rfl,by rw [zcr,Hh.out],hK⟩
 case round =>
  clear hK hb1
  obtain ⟨k,hk,rfl,rfl,rfl,hK⟩:=hrel
  obtain ⟨a0,a1,a2,a3,a4⟩:=hK.box.head.two
  have Hs:Hid (k<64→zcr v m x (k+1)=if (zcr v m x k).2 then zcr v m x k else if okL v m x k then (zgo v x k,true) else zcr v m x k):=fun _=>rfl
  have Ht:Hid ((zcr v m x k).2=true→zcr v m x 64=zcr v m x k):=fun h=>zke v m x k 64 h hk
  have Hu:Hid (k=64→zcr v m x 64=zcr v m x k):=fun h=>by rw [h]
  generalize zcr v m x k=S at Hs Ht Hu ⊢
  obtain ⟨sb,sf⟩:=S
  by_cases hlt:k<64
  ·cases sf
   ·have hA:=zi5 x k
    have Hn:=Hs.out hlt
    have Hok:Hid (okL v m x k=(!bit x k&&hasB v m (zgo v x k))):=rfl
    clear Hs Ht Hu
    have Hn:Hid _:=Hn
    obtain ⟨bx,hbx⟩:∃ b,Hid (bit x k=b):=⟨_,rfl⟩
    rw [hbx.out] at hA Hok
    obtain ⟨bc,hbc⟩:∃ b,Hid (hasB v m (zgo v x k)=b):=⟨_,rfl⟩
    rw [hbc.out] at Hok
    cases bx
    ·go_wp2_with fail
     go_quiet (fail)
     go_wp2_with fail
     go_quiet (fail)
     go_wp2_with fail
     refine (yaax (b:=bc) hbc.out _).mono ?_
     rintro e w2 ⟨rfl,hb2⟩
     have hK2:=(hK.drew _).keep hb2
     cases bc
     ·go_wp2_with fail
      exact ⟨⟨k+1,by omega,by go_num,by rw [Hn.out,Hok.out];rfl,by rw [Hn.out,Hok.out];rfl,hK2⟩,by simp [intOf];omega⟩
     ·go_wp2_with fail
      exact ⟨⟨k+1,by omega,by go_num,by rw [Hn.out,Hok.out];rfl,by rw [Hn.out,Hok.out];rfl,hK2⟩,by simp [intOf];omega⟩
    ·go_wp2_with fail
     exact ⟨⟨k+1,by omega,by go_num,by rw [Hn.out,Hok.out];rfl,by rw [Hn.out,Hok.out];rfl,hK⟩,by simp [intOf];omega⟩
   ·have He:Hid _:=Ht.out rfl
    clear Hs Ht Hu
    go_wp2_with fail
    go_ret2
    rw [He.out]
    exact ⟨rfl,hK.bel⟩
  ·have hk64:k=64:=by omega
   have He:Hid _:=Hu.out hk64
   clear Hs Ht Hu
   subst hk64
   go_wp2_with fail
   go_ret2
   rw [He.out]
   exact ⟨rfl,hK.bel⟩
set_option maxRecDepth 100000 in
set_option maxHeartbeats 1000000 in
theorem zkv (v m x:BitVec 64) (w:World) :
  Calls Tryz.prog 169 #[Bt v m,U x] w fun e w'=>e=.returned (.tuple #[U (zcq v m x 64).1,.bool (zcq v m x 64).2])∧Below w.heap.size w w':=by
 obtain ⟨hh,Hh⟩:∃ b,Hid (hasB v m x=b):=⟨_,rfl⟩
 go_enter Tryz.func169,Tryz.ntmps169
 go_wp2_with fail
 refine (yaax Hh.out _).mono ?_
 rintro e w1 ⟨rfl,hb1⟩
 have hK:=((Kp.start w).add2 _ _ _).keep hb1
 go_wp2_with fail
 go_loopw [6,7,8] (fun b f i wr=>∃ k:Nat,k≤64∧i=N k∧b=U (zcq v m x k).1∧f=.bool (zcq v m x k).2∧Kp w wr [(w.heap.size,[U v,U m])]) (fun _ _ i _=>64 - (intOf i).toNat)
 case atStart=>exact ⟨0,by omega,rfl,rfl,by rw [zcq,Hh.out],hK⟩
 case round =>
  clear hK hb1
  obtain ⟨k,hk,rfl,rfl,rfl,hK⟩:=hrel
  obtain ⟨a0,a1,a2,a3,a4⟩:=hK.box.head.two
  have Hs:Hid (k<64→zcq v m x (k+1)=if (zcq v m x k).2 then zcq v m x k else if okG v m x k then (zq6 v m x k,true) else zcq v m x k):=fun _=>rfl
  have Ht:Hid ((zcq v m x k).2=true→zcq v m x 64=zcq v m x k):=fun h=>zkk v m x k 64 h hk
  have Hu:Hid (k=64→zcq v m x 64=zcq v m x k):=fun h=>by rw [h]
  generalize zcq v m x k=S at Hs Ht Hu ⊢
  obtain ⟨sb,sf⟩:=S
  by_cases hlt:k<64
  ·cases sf
   ·have hA:=yapn x k
    have Hn:=Hs.out hlt
    have Hok:Hid (okG v m x k=(bit x k&&hasB v m (zq6 v m x k))):=rfl
    clear Hs Ht Hu
    have Hn:Hid _:=Hn
    obtain ⟨bx,hbx⟩:∃ b,Hid (bit x k=b):=⟨_,rfl⟩
    rw [hbx.out] at hA Hok
    obtain ⟨bc,hbc⟩:∃ b,Hid (hasB v m (zq6 v m x k)=b):=⟨_,rfl⟩
    rw [hbc.out] at Hok
    cases bx
    ·go_wp2_with fail
     exact ⟨⟨k+1,by omega,by go_num,by rw [Hn.out,Hok.out];rfl,by rw [Hn.out,Hok.out];rfl,hK⟩,by simp [intOf];omega⟩
    ·go_wp2_with fail
     go_quiet (fail)
     go_wp2_with fail
     refine (yaax (b:=bc) hbc.out _).mono ?_
     rintro e w2 ⟨rfl,hb2⟩
     have hK2:=(hK.drew _).keep hb2
     cases bc
     ·go_wp2_with fail
      exact ⟨⟨k+1,by omega,by go_num,by rw [Hn.out,Hok.out];rfl,by rw [Hn.out,Hok.out];rfl,hK2⟩,by simp [intOf];omega⟩
     ·go_wp2_with fail
      exact ⟨⟨k+1,by omega,by go_num,by rw [Hn.out,Hok.out];rfl,by rw [Hn.out,Hok.out];rfl,hK2⟩,by simp [intOf];omega⟩
   ·have He:Hid _:=Ht.out rfl
    clear Hs Ht Hu
    go_wp2_with fail
    go_ret2
    rw [He.out]
    exact ⟨rfl,hK.bel⟩
  ·have hk64:k=64:=by omega
   have He:Hid _:=Hu.out hk64
   clear Hs Ht Hu
   subst hk64
   go_wp2_with fail
   go_ret2
   rw [He.out]
   exact ⟨rfl,hK.bel⟩
end
section
attribute [local go_sem] zdb w_or zdd za3 zb4 zbd zc9 zc4 zda zbw zby zcz zb0 zdc zcn zc0 zb1 zbx zb2 zbz za1
set_option maxHeartbeats 400000 in
theorem zvf (av am bv bm:BitVec 64) (w:World) :
  Calls Tryz.prog 130 #[Bt av am,Bt bv bm] w fun e w'=>e=.returned (Bt (zxf av am bv bm 64) (zyv av am bv bm 64))∧Below w.heap.size w w':=by
 go_enter Tryz.func130,Tryz.ntmps130
 go_wp2
 go_loopw [6] (fun i wr=>∃ k:Nat,k≤64∧i=N k
   ∧ Below (w.heap.size+1+1+1) (((w.alloc (.cells #[U av,U am] 47)).alloc (.cells #[U bv,U bm] 47)).alloc (.cells #[.int .u64 0,.int .u64 0] 47)) wr
   ∧ wr.cell? ⟨w.heap.size+1+1+1,0,none⟩=some (U (zxf av am bv bm k))∧wr.cell? ⟨w.heap.size+1+1+1,1,none⟩=some (U (zyv av am bv bm k))
   ∧ (∀ o,wr.frozen? ⟨w.heap.size+1+1+1,o,none⟩=false)
   ∧ w.heap.size+1+1+1+1≤wr.heap.size) (fun i _=>64 - (intOf i).toNat)
 case atStart =>
  exact ⟨0,by omega,rfl,(by repeat (first | exact Below.refl _ _ | assumption | refine below_drewN ?_ _ | refine Below.drew ?_ | refine Below.alloc ?_ (by first | exact Nat.le_refl _ | (simp;done) | (simp;omega) | omega) _ | refine Below.setCell ?_ (by first | exact Nat.le_refl _ | (simp;done) | (simp;omega) | omega) _ | refine Below.trans ?_ (Below.mono (by assumption) (by first | exact Nat.le_refl _ | (simp;done) | (simp;omega) | omega)))),by simp [zxf,acc,za4,go_sem],by simp [zyv,acc,za4,go_sem],by simp [go_sem],by simp⟩
 case round =>
  obtain ⟨k,hk,rfl,hbel,ho0,ho1,hfo,hsz⟩:=hrel
  obtain ⟨hc,hf⟩:=bl hbel
  by_cases hlt:k<64
  ·obtain ⟨z1,o1,H1,H2⟩:=zgy av am k
   obtain ⟨z2,o2,H3,H4⟩:=zgy bv bm k
   go_wp2_with fail
   refine (zbj hlt H1 H2 _).mono ?_
   rintro e w1 ⟨rfl,hb1⟩
   obtain ⟨hc1,hf1,hs1⟩:=bk _ hb1 hsz
   go_wp2_with fail
   refine (zbj hlt H3 H4 _).mono ?_
   rintro e w2 ⟨rfl,hb2⟩
   obtain ⟨hc2,hf2,hs2⟩:=bk _ hb2 hs1
   cases z1 <;> cases o1
   all_goals
    go_wp2_with fail
    refine (zf8 _ _ k hlt _ _ _).mono ?_
    rintro e w3 ⟨rfl,hb3⟩
    obtain ⟨hc3,hf3,hs3⟩:=bk _ hb3 hs2
    go_wp2_with fail
    exact ⟨⟨k+1,by omega,by go_num,zeh hbel ((hb1.trans (hb2.mono hb1.size)).trans (hb3.mono (Nat.le_trans hb1.size hb2.size))) hsz ho0 ho1 hfo
     (by rw [← yaex,← H1.out,← H2.out,← H3.out,← H4.out];rfl) (by rw [← yae4,← H1.out,← H2.out,← H3.out,← H4.out];rfl)⟩,by simp [intOf];omega⟩
  ·have hk64:k=64:=by omega
   subst hk64
   go_wp2_with fail
   exact bodyPost_ret (v:=Bt (zxf av am bv bm 64) (zyv av am bv bm 64)) (by simp [results,Tryz.results130,go_sem,hc]) rfl ⟨rfl,(by repeat (first | exact Below.refl _ _ | assumption | refine below_drewN ?_ _ | refine Below.drew ?_ | refine Below.alloc ?_ (by first | exact Nat.le_refl _ | (simp;done) | (simp;omega) | omega) _ | refine Below.setCell ?_ (by first | exact Nat.le_refl _ | (simp;done) | (simp;omega) | omega) _ | refine Below.trans ?_ (Below.mono (by assumption) (by first | exact Nat.le_refl _ | (simp;done) | (simp;omega) | omega))))⟩
set_option maxHeartbeats 600000 in
theorem zma (av am bv bm:BitVec 64) (hok:Hid (∀ j,j<64→ziu av am bv bm j=true)) (w:World) :
  Calls Tryz.prog 129 #[Bt av am,Bt bv bm] w fun e w'=>e=.returned (.tuple #[Bt (zrs av am bv bm 64) (zqu av am bv bm 64),.bool true])∧Below w.heap.size w w':=by
 go_enter Tryz.func129,Tryz.ntmps129
 go_wp2
 go_loopw [7] (fun i wr=>∃ k:Nat,k≤64∧i=N k
   ∧ Below (w.heap.size+1+1+1) (((w.alloc (.cells #[U av,U am] 47)).alloc (.cells #[U bv,U bm] 47)).alloc (.cells #[.int .u64 0,.int .u64 0] 47)) wr
   ∧ wr.cell? ⟨w.heap.size+1+1+1,0,none⟩=some (U (zrs av am bv bm k))∧wr.cell? ⟨w.heap.size+1+1+1,1,none⟩=some (U (zqu av am bv bm k))
   ∧ (∀ o,wr.frozen? ⟨w.heap.size+1+1+1,o,none⟩=false)
   ∧ w.heap.size+1+1+1+1≤wr.heap.size) (fun i _=>64 - (intOf i).toNat)
 case atStart =>
  exact ⟨0,by omega,rfl,(by repeat (first | exact Below.refl _ _ | assumption | refine below_drewN ?_ _ | refine Below.drew ?_ | refine Below.alloc ?_ (by first | exact Nat.le_refl _ | (simp;done) | (simp;omega) | omega) _ | refine Below.setCell ?_ (by first | exact Nat.le_refl _ | (simp;done) | (simp;omega) | omega) _ | refine Below.trans ?_ (Below.mono (by assumption) (by first | exact Nat.le_refl _ | (simp;done) | (simp;omega) | omega)))),by simp [zrs,acc,za4,go_sem],by simp [zqu,acc,za4,go_sem],by simp [go_sem],by simp⟩
 case round =>
  obtain ⟨k,hk,rfl,hbel,ho0,ho1,hfo,hsz⟩:=hrel
  obtain ⟨hc,hf⟩:=bl hbel
  by_cases hlt:k<64
  ·obtain ⟨z1,o1,H1,H2⟩:=zgy av am k
   obtain ⟨z2,o2,H3,H4⟩:=zgy bv bm k
   have Hok:Hid (((z1&&z2)||(o1&&o2))=true):=by rw [H1.out,H2.out,H3.out,H4.out];exact hok.out k hlt
   go_wp2_with fail
   refine (zbj hlt H1 H2 _).mono ?_
   rintro e w1 ⟨rfl,hb1⟩
   obtain ⟨hc1,hf1,hs1⟩:=bk _ hb1 hsz
   go_wp2_with fail
   refine (zbj hlt H3 H4 _).mono ?_
   rintro e w2 ⟨rfl,hb2⟩
   obtain ⟨hc2,hf2,hs2⟩:=bk _ hb2 hs1
   cases z1 <;> cases o1 <;> cases z2 <;> cases o2 <;> first
    | exact absurd Hok.out (by decide)
    | (clear Hok
       go_wp2_with fail
       refine (zf8 _ _ k hlt _ _ _).mono ?_
       rintro e w3 ⟨rfl,hb3⟩
       obtain ⟨hc3,hf3,hs3⟩:=bk _ hb3 hs2
       go_wp2_with fail
       exact ⟨⟨k+1,by omega,by go_num,zeh hbel ((hb1.trans (hb2.mono hb1.size)).trans (hb3.mono (Nat.le_trans hb1.size hb2.size))) hsz ho0 ho1 hfo
        (by rw [← zpx,← H1.out,← H2.out,← H3.out,← H4.out];rfl) (by rw [← zpt,← H1.out,← H2.out,← H3.out,← H4.out];rfl)⟩,by simp [intOf];omega⟩)
  ·have hk64:k=64:=by omega
   subst hk64
   go_wp2_with fail
   exact bodyPost_ret (v:=.tuple #[Bt (zrs av am bv bm 64) (zqu av am bv bm 64),.bool true]) (by simp [results,Tryz.results129,go_sem,hc]) rfl ⟨rfl,(by repeat (first | exact Below.refl _ _ | assumption | refine below_drewN ?_ _ | refine Below.drew ?_ | refine Below.alloc ?_ (by first | exact Nat.le_refl _ | (simp;done) | (simp;omega) | omega) _ | refine Below.setCell ?_ (by first | exact Nat.le_refl _ | (simp;done) | (simp;omega) | omega) _ | refine Below.trans ?_ (Below.mono (by assumption) (by first | exact Nat.le_refl _ | (simp;done) | (simp;omega) | omega))))⟩
set_option maxHeartbeats 600000 in
theorem zxr (av am bv bm:BitVec 64) (j0:Nat) (hj:j0<64) (hno:Hid (ziu av am bv bm j0=false)) (hok:Hid (∀ j,j<j0→ziu av am bv bm j=true)) (w:World) :
  Calls Tryz.prog 129 #[Bt av am,Bt bv bm] w fun e w'=>e=.returned (.tuple #[Bt zero zero,.bool false])∧Below w.heap.size w w':=by
 go_enter Tryz.func129,Tryz.ntmps129
 go_wp2
 go_loopw [7] (fun i wr=>∃ k:Nat,k≤j0∧i=N k
   ∧ Below (w.heap.size+1+1+1) (((w.alloc (.cells #[U av,U am] 47)).alloc (.cells #[U bv,U bm] 47)).alloc (.cells #[.int .u64 0,.int .u64 0] 47)) wr
   ∧ wr.cell? ⟨w.heap.size+1+1+1,0,none⟩=some (U (zrs av am bv bm k))∧wr.cell? ⟨w.heap.size+1+1+1,1,none⟩=some (U (zqu av am bv bm k))
   ∧ (∀ o,wr.frozen? ⟨w.heap.size+1+1+1,o,none⟩=false)
   ∧ w.heap.size+1+1+1+1≤wr.heap.size) (fun i _=>64 - (intOf i).toNat)
 case atStart =>
  exact ⟨0,by omega,rfl,(by repeat (first | exact Below.refl _ _ | assumption | refine below_drewN ?_ _ | refine Below.drew ?_ | refine Below.alloc ?_ (by first | exact Nat.le_refl _ | (simp;done) | (simp;omega) | omega) _ | refine Below.setCell ?_ (by first | exact Nat.le_refl _ | (simp;done) | (simp;omega) | omega) _ | refine Below.trans ?_ (Below.mono (by assumption) (by first | exact Nat.le_refl _ | (simp;done) | (simp;omega) | omega)))),by simp [zrs,acc,za4,go_sem],by simp [zqu,acc,za4,go_sem],by simp [go_sem],by simp⟩
 case round =>
  obtain ⟨k,hk,rfl,hbel,ho0,ho1,hfo,hsz⟩:=hrel
  obtain ⟨hc,hf⟩:=bl hbel
  have hlt:k<64:=by omega
  obtain ⟨z1,o1,H1,H2⟩:=zgy av am k
  obtain ⟨z2,o2,H3,H4⟩:=zgy bv bm k
  by_cases hlj:k<j0
  ·have Hok:Hid (((z1&&z2)||(o1&&o2))=true):=by rw [H1.out,H2.out,H3.out,H4.out];exact hok.out k hlj
   go_wp2_with fail
   refine (zbj hlt H1 H2 _).mono ?_
   rintro e w1 ⟨rfl,hb1⟩
   obtain ⟨hc1,hf1,hs1⟩:=bk _ hb1 hsz
   go_wp2_with fail
   refine (zbj hlt H3 H4 _).mono ?_
   rintro e w2 ⟨rfl,hb2⟩
   obtain ⟨hc2,hf2,hs2⟩:=bk _ hb2 hs1
   cases z1 <;> cases o1 <;> cases z2 <;> cases o2 <;> first
    | exact absurd Hok.out (by decide)
    | (clear Hok
       go_wp2_with fail
       refine (zf8 _ _ k hlt _ _ _).mono ?_
       rintro e w3 ⟨rfl,hb3⟩
       obtain ⟨hc3,hf3,hs3⟩:=bk _ hb3 hs2
       go_wp2_with fail
       exact ⟨⟨k+1,by omega,by go_num,zeh hbel ((hb1.trans (hb2.mono hb1.size)).trans (hb3.mono (Nat.le_trans hb1.size hb2.size))) hsz ho0 ho1 hfo
        (by rw [← zpx,← H1.out,← H2.out,← H3.out,← H4.out];rfl) (by rw [← zpt,← H1.out,← H2.out,← H3.out,← H4.out];rfl)⟩,by simp [intOf];omega⟩)
  ·have ek:k=j0:=by omega
   have Hno:Hid (((z1&&z2)||(o1&&o2))=false):=by rw [H1.out,H2.out,H3.out,H4.out,ek];exact hno.out
   clear ek
   go_wp2_with fail
   refine (zbj hlt H1 H2 _).mono ?_
   rintro e w1 ⟨rfl,hb1⟩
   obtain ⟨hc1,hf1,hs1⟩:=bk _ hb1 hsz
   go_wp2_with fail
   refine (zbj hlt H3 H4 _).mono ?_
   rintro e w2 ⟨rfl,hb2⟩
   obtain ⟨hc2,hf2,hs2⟩:=bk _ hb2 hs1
   cases z1 <;> cases o1 <;> cases z2 <;> cases o2 <;> first
    | exact absurd Hno.out (by decide)
    | (clear Hno
       go_wp2_with fail
       exact bodyPost_ret (v:=.tuple #[Bt zero zero,.bool false]) (by simp [results,Tryz.results129,go_sem,hc,hc1,hc2,za4]) rfl ⟨rfl,(by repeat (first | exact Below.refl _ _ | assumption | refine below_drewN ?_ _ | refine Below.drew ?_ | refine Below.alloc ?_ (by first | exact Nat.le_refl _ | (simp;done) | (simp;omega) | omega) _ | refine Below.setCell ?_ (by first | exact Nat.le_refl _ | (simp;done) | (simp;omega) | omega) _ | refine Below.trans ?_ (Below.mono (by assumption) (by first | exact Nat.le_refl _ | (simp;done) | (simp;omega) | omega))))⟩)
end
section
attribute [local go_sem] zdb w_or zdd za3 zb4 zbd zc9 zc4 zda zbw zby zcz zb0 zdc zcn zc0 zb1 zbx zb2 zbz za1
set_option maxHeartbeats 600000 in
theorem zf2 (up:Bool) (op:Int) (hop:op=if up then 8 else 9) (v m:BitVec 64) (n:Nat) (hn:n<64) (w:World) :
  Calls Tryz.prog 125 #[N op,Bt v m,N n] w fun e w'=>e=.returned (Bt (shV up v m n 64) (shM up v m n 64))∧Below w.heap.size w w':=by
 have hop9:(op==9)=!up:=by cases up <;> simp [hop]
 clear hop
 go_enter Tryz.func125,Tryz.ntmps125
 go_wp2
 go_loopw [8] (fun i wr=>∃ k:Nat,k≤64∧i=N k
   ∧ Below (w.heap.size+1+1) ((w.alloc (.cells #[U v,U m] 47)).alloc (.cells #[.int .u64 0,.int .u64 0] 47)) wr
   ∧ wr.cell? ⟨w.heap.size+1+1,0,none⟩=some (U (shV up v m n k))∧wr.cell? ⟨w.heap.size+1+1,1,none⟩=some (U (shM up v m n k))
   ∧ (∀ o,wr.frozen? ⟨w.heap.size+1+1,o,none⟩=false)
   ∧ w.heap.size+1+1+1≤wr.heap.size) (fun i _=>64 - (intOf i).toNat)
 case atStart =>
  exact ⟨0,by omega,rfl,(by repeat (first | exact Below.refl _ _ | assumption | refine below_drewN ?_ _ | refine Below.drew ?_ | refine Below.alloc ?_ (by first | exact Nat.le_refl _ | (simp;done) | (simp;omega) | omega) _ | refine Below.setCell ?_ (by first | exact Nat.le_refl _ | (simp;done) | (simp;omega) | omega) _ | refine Below.trans ?_ (Below.mono (by assumption) (by first | exact Nat.le_refl _ | (simp;done) | (simp;omega) | omega)))),by simp [shV,acc,za4,go_sem],by simp [shM,acc,za4,go_sem],by simp [go_sem],by simp⟩
 case round =>
  obtain ⟨k,hk,rfl,hbel,ho0,ho1,hfo,hsz⟩:=hrel
  obtain ⟨hc,hf⟩:=bl hbel
  by_cases hlt:k<64
  ·cases up
   ·by_cases hin:k+n<64
    ·obtain ⟨z1,o1,H1,H2⟩:=zgy v m (k+n)
     have hs:=yamb false v m n k (k+n) (by simp [zee]) hin
     have Hz:Hid (z1=shz false v n k):=H1.out.trans hs.1
     have Ho:Hid (o1=sho false v m n k):=H2.out.trans hs.2
     clear hs
     go_wp2_with fail
     refine (zqi (by omega) _).mono ?_
     rintro e w0 ⟨rfl,rfl⟩
     go_wp2_with fail
     rw [show (k:Int)+(n:Int)=((k+n:Nat):Int) from by omega]
     refine (zbj hin H1 H2 _).mono ?_
     rintro e w1 ⟨rfl,hb1⟩
     obtain ⟨hc1,hf1,hs1⟩:=bk _ hb1 hsz
     go_wp2_with fail
     refine (zf8 _ _ k hlt _ _ _).mono ?_
     rintro e w3 ⟨rfl,hb3⟩
     obtain ⟨hc3,hf3,hs3⟩:=bk _ hb3 hs1
     go_wp2_with fail
     exact ⟨⟨k+1,by omega,by go_num,zeh hbel (hb1.trans (hb3.mono hb1.size)) hsz ho0 ho1 hfo
      (by rw [← zlw,← Hz.out,← Ho.out]) (by rw [← zlt,← Hz.out,← Ho.out])⟩,by simp [intOf];omega⟩
    ·have hs:=yabh false v m n k (by simp [zee];omega)
     have Hz:Hid (true=shz false v n k):=hs.1
     have Ho:Hid (false=sho false v m n k):=hs.2
     clear hs
     go_wp2_with fail
     refine (zti (by omega) _).mono ?_
     rintro e w0 ⟨rfl,rfl⟩
     go_wp2_with fail
     refine (zf8 _ _ k hlt _ _ _).mono ?_
     rintro e w3 ⟨rfl,hb3⟩
     obtain ⟨hc3,hf3,hs3⟩:=bk _ hb3 hsz
     go_wp2_with fail
     exact ⟨⟨k+1,by omega,by go_num,zeh hbel hb3 hsz ho0 ho1 hfo
      (by rw [← zlw,← Hz.out,← Ho.out]) (by rw [← zlt,← Hz.out,← Ho.out])⟩,by simp [intOf];omega⟩
   ·by_cases hin:n≤k
    ·obtain ⟨z1,o1,H1,H2⟩:=zgy v m (k - n)
     have hs:=yamb true v m n k (k - n) (by simp [zee];omega) (by omega)
     have Hz:Hid (z1=shz true v n k):=H1.out.trans hs.1
     have Ho:Hid (o1=sho true v m n k):=H2.out.trans hs.2
     clear hs
     go_wp2_with fail
     refine (zqi (by omega) _).mono ?_
     rintro e w0 ⟨rfl,rfl⟩
     go_wp2_with fail
     rw [show (k:Int) - (n:Int)=((k - n:Nat):Int) from by omega]
     refine (zbj (by omega) H1 H2 _).mono ?_
     rintro e w1 ⟨rfl,hb1⟩
     obtain ⟨hc1,hf1,hs1⟩:=bk _ hb1 hsz
     go_wp2_with fail
     refine (zf8 _ _ k hlt _ _ _).mono ?_
     rintro e w3 ⟨rfl,hb3⟩
     obtain ⟨hc3,hf3,hs3⟩:=bk _ hb3 hs1
     go_wp2_with fail
     exact ⟨⟨k+1,by omega,by go_num,zeh hbel (hb1.trans (hb3.mono hb1.size)) hsz ho0 ho1 hfo
      (by rw [← zlw,← Hz.out,← Ho.out]) (by rw [← zlt,← Hz.out,← Ho.out])⟩,by simp [intOf];omega⟩
    ·have hs:=yabh true v m n k (by simp [zee];omega)
     have Hz:Hid (true=shz true v n k):=hs.1
     have Ho:Hid (false=sho true v m n k):=hs.2
     clear hs
     go_wp2_with fail
     refine (zti (by omega) _).mono ?_
     rintro e w0 ⟨rfl,rfl⟩
     go_wp2_with fail
     refine (zf8 _ _ k hlt _ _ _).mono ?_
     rintro e w3 ⟨rfl,hb3⟩
     obtain ⟨hc3,hf3,hs3⟩:=bk _ hb3 hsz
     go_wp2_with fail
     exact ⟨⟨k+1,by omega,by go_num,zeh hbel hb3 hsz ho0 ho1 hfo
      (by rw [← zlw,← Hz.out,← Ho.out]) (by rw [← zlt,← Hz.out,← Ho.out])⟩,by simp [intOf];omega⟩
  ·have hk64:k=64:=by omega
   subst hk64
   go_wp2_with fail
   exact bodyPost_ret (v:=Bt (shV up v m n 64) (shM up v m n 64)) (by simp [results,Tryz.results125,go_sem,hc]) rfl ⟨rfl,(by repeat (first | exact Below.refl _ _ | assumption | refine below_drewN ?_ _ | refine Below.drew ?_ | refine Below.alloc ?_ (by first | exact Nat.le_refl _ | (simp;done) | (simp;omega) | omega) _ | refine Below.setCell ?_ (by first | exact Nat.le_refl _ | (simp;done) | (simp;omega) | omega) _ | refine Below.trans ?_ (Below.mono (by assumption) (by first | exact Nat.le_refl _ | (simp;done) | (simp;omega) | omega))))⟩
set_option maxHeartbeats 600000 in
theorem zu8 (l h:BitVec 64) (w:World) :
  Calls Tryz.prog 170 #[U l,U h] w fun e w'=>e=.returned (Bt (zxo l h 64) (zzq l h 64))∧Below w.heap.size w w':=by
 go_enter Tryz.func170,Tryz.ntmps170
 go_wp2
 go_loopw [6,7] (fun s i wr=>∃ (c:Nat) (t:Int),c≤64∧s=.bool (zgp l h c)∧i=N t∧t=63 - c
   ∧ Below (w.heap.size+1) (w.alloc (.cells #[.int .u64 0,.int .u64 0] 47)) wr
   ∧ wr.cell? ⟨w.heap.size+1,0,none⟩=some (U (zxo l h c))∧wr.cell? ⟨w.heap.size+1,1,none⟩=some (U (zzq l h c))
   ∧ (∀ o,wr.frozen? ⟨w.heap.size+1,o,none⟩=false)
   ∧ w.heap.size+1+1≤wr.heap.size) (fun _ i _=>(intOf i+1).toNat)
 case atStart =>
  exact ⟨0,63,by omega,rfl,rfl,by omega,(by repeat (first | exact Below.refl _ _ | assumption | refine below_drewN ?_ _ | refine Below.drew ?_ | refine Below.alloc ?_ (by first | exact Nat.le_refl _ | (simp;done) | (simp;omega) | omega) _ | refine Below.setCell ?_ (by first | exact Nat.le_refl _ | (simp;done) | (simp;omega) | omega) _ | refine Below.trans ?_ (Below.mono (by assumption) (by first | exact Nat.le_refl _ | (simp;done) | (simp;omega) | omega)))),by simp [zxo,accd,za4,go_sem],by simp [zzq,accd,za4,go_sem],by simp [go_sem],by simp⟩
 case round =>
  obtain ⟨c,t,hc,rfl,rfl,ht,hbel,ho0,ho1,hfo,hsz⟩:=hrel
  obtain ⟨hcc,hf⟩:=bl hbel
  by_cases hlt:c<64
  ·obtain ⟨i,rfl⟩:=Int.eq_ofNat_of_zero_le (show 0≤t by omega)
   have hi:i=63 - c:=by omega
   have hi64:i<64:=by omega
   have hi0:(0:Int)≤(i:Int):=by omega
   have Hi:Hid (i=63 - c):=hi
   have hstep:=yasb l h c i hi hlt
   have hl:=yagw l i
   have hh:=yagw h i
   obtain ⟨s,hs⟩:∃ s,s=zgp l h c:=⟨_,rfl⟩
   obtain ⟨bl,hbl⟩:∃ b,b=bit l i:=⟨_,rfl⟩
   obtain ⟨bh,hbh⟩:∃ b,b=bit h i:=⟨_,rfl⟩
   rw [← hbl,← hbh,← hs] at hstep
   rw [← hbl] at hl
   rw [← hbh] at hh
   rw [← hs]
   clear hi ht hs hbl hbh
   have H1:Hid _:=hstep.1
   have H2:Hid _:=hstep.2.1
   have H3:Hid _:=hstep.2.2
   clear hstep
   have q1:=yax1
   have q2:=yavs
   have q3:=yaxo
   have q4:=yaw1
   cases s <;> cases bl <;> cases bh
   all_goals
    simp only [if_true,if_false,Bool.false_eq_true] at hl hh
    go_wp2_with fail
    go_quiet (fail)
    go_wp2_with fail
    refine (zf8 _ _ i hi64 _ _ _).mono ?_
    rintro e w3 ⟨rfl,hb3⟩
    have hb3':Below wr.heap.size wr w3:=(below_drewN (Below.refl _ wr) _).trans hb3
    obtain ⟨hc3,hf3,hs3⟩:=bk _ hb3' hsz
    clear hb3
    go_wp2_with fail
    exact ⟨⟨c+1,_,by omega,by rw [H1.out];rfl,rfl,by have:=Hi.out;omega,zeh hbel hb3' hsz ho0 ho1 hfo
     (by rw [← yac4 l h c i Hi.out,H2.out,H3.out];rfl) (by rw [← yafr l h c i Hi.out,H2.out,H3.out];rfl)⟩,by simp [intOf]⟩
  ·have ec:c=64:=by omega
   subst ec
   have ht':t=-1:=by omega
   subst ht'
   go_wp2_with fail
   exact bodyPost_ret (v:=Bt (zxo l h 64) (zzq l h 64)) (by simp [results,Tryz.results170,go_sem,hcc]) rfl ⟨rfl,(by repeat (first | exact Below.refl _ _ | assumption | refine below_drewN ?_ _ | refine Below.drew ?_ | refine Below.alloc ?_ (by first | exact Nat.le_refl _ | (simp;done) | (simp;omega) | omega) _ | refine Below.setCell ?_ (by first | exact Nat.le_refl _ | (simp;done) | (simp;omega) | omega) _ | refine Below.trans ?_ (Below.mono (by assumption) (by first | exact Nat.le_refl _ | (simp;done) | (simp;omega) | omega))))⟩
end
section
attribute [local go_sem] zdb w_or zdd za3 zb4 zbd zc9 zc4 zda zbw zby zcz zb0 zdc zcn zc0 zb1 zbx zb2 zbz za1
set_option maxHeartbeats 400000 in
theorem yaoi {n:Nat} {v m:BitVec 64} (hr:Hid (eqb (band v m) zero=true)) (hn:n<64) (w:World) :
  Calls Tryz.prog 200 #[N 8,Bt v m,N n] w fun e w'=>e=.returned (.tuple #[Bt (bshl v n) (bshl m n),N 0])∧Below w.heap.size w w':=by
 go_enter Tryz.func200,Tryz.ntmps200
 go_wp2_with fail
 refine (zi8 hr (by simp) (by simp [go_sem]) (by simp [go_sem])).mono ?_
 rintro e w1 ⟨rfl,hb1⟩
 obtain ⟨hc1,hf1,hs1⟩:=bk (w.heap.size+1+1) hb1 (by simp)
 first | rw [er_t] | rw [er_f]
 go_wp2_with fail
 refine (yaqa _ _ n hn _).mono ?_
 rintro e w2 ⟨rfl,hb2⟩
 obtain ⟨hc2,hf2,hs2⟩:=bk _ hb2 hs1
 go_wp2_with fail
 exact bodyPost_ret (v:=.tuple #[Bt (bshl v n) (bshl m n),N 0]) (by simp [results,Tryz.results200,go_sem,hc1,hc2]) rfl ⟨rfl,(by repeat (first | exact Below.refl _ _ | assumption | refine below_drewN ?_ _ | refine Below.drew ?_ | refine Below.alloc ?_ (by first | exact Nat.le_refl _ | (simp;done) | (simp;omega) | omega) _ | refine Below.setCell ?_ (by first | exact Nat.le_refl _ | (simp;done) | (simp;omega) | omega) _ | refine Below.trans ?_ (Below.mono (by assumption) (by first | exact Nat.le_refl _ | (simp;done) | (simp;omega) | omega))))⟩
set_option maxHeartbeats 400000 in
theorem yadt {n:Nat} {v m:BitVec 64} (hr:Hid (eqb (band v m) zero=true)) (hn:n<64) (w:World) :
  Calls Tryz.prog 200 #[N 9,Bt v m,N n] w fun e w'=>e=.returned (.tuple #[Bt (bshr v n) (bshr m n),N 0])∧Below w.heap.size w w':=by
 go_enter Tryz.func200,Tryz.ntmps200
 go_wp2_with fail
 refine (zi8 hr (by simp) (by simp [go_sem]) (by simp [go_sem])).mono ?_
 rintro e w1 ⟨rfl,hb1⟩
 obtain ⟨hc1,hf1,hs1⟩:=bk (w.heap.size+1+1) hb1 (by simp)
 first | rw [er_t] | rw [er_f]
 go_wp2_with fail
 exact bodyPost_ret (v:=.tuple #[Bt (bshr v n) (bshr m n),N 0]) (by simp [results,Tryz.results200,go_sem,hc1]) rfl ⟨rfl,(by repeat (first | exact Below.refl _ _ | assumption | refine below_drewN ?_ _ | refine Below.drew ?_ | refine Below.alloc ?_ (by first | exact Nat.le_refl _ | (simp;done) | (simp;omega) | omega) _ | refine Below.setCell ?_ (by first | exact Nat.le_refl _ | (simp;done) | (simp;omega) | omega) _ | refine Below.trans ?_ (Below.mono (by assumption) (by first | exact Nat.le_refl _ | (simp;done) | (simp;omega) | omega))))⟩
end
section
attribute [local go_sem] zdb w_or zdd za3 zb4 zbd zc9 zc4 zda zbw zby zcz zb0 zdc zcn zc0 zb1 zbx zb2 zbz za1
end
theorem hid {p:Prop} (h:p):Hid p:=h
section
attribute [local go_sem] zdb w_or zdd za3 zb4 zbd zc9 zc4 zda zbw zby zcz zb0 zdc zcn zc0 zb1 zbx zb2 zbz za1
set_option maxHeartbeats 1000000 in
theorem zlc (v m l h:BitVec 64) (w:World) :
  Calls Tryz.prog 98 #[Vl v m l h] w fun e w'=>e=.returned (N (er (valB v m l h)))∧Below w.heap.size w w':=by
 have Hv:Hid (valB v m l h=(hasB v m l&&(hasB v m h&&(decide (nv l≤nv h)&&insB v m (spV l h) (sM l h))))):=rfl
 obtain ⟨b1,H1⟩:∃ b,Hid (hasB v m l=b):=⟨_,rfl⟩
 obtain ⟨b2,H2⟩:∃ b,Hid (hasB v m h=b):=⟨_,rfl⟩
 obtain ⟨b3,H3⟩:∃ b,Hid (insB v m (spV l h) (sM l h)=b):=⟨_,rfl⟩
 rw [H1.out,H2.out,H3.out] at Hv
 go_enter Tryz.func98,Tryz.ntmps98
 go_wp2_with fail
 refine (hasC H1.out _).mono ?_
 rintro e w1 ⟨rfl,hb1⟩
 have hK:=((Kp.start w).add4 _ _ _ _ _).keep hb1
 obtain ⟨a0,a1,a2,a3,a4,a5,a6,a7,a8⟩:=hK.box.head.four
 cases b1
 ·go_wp2_with fail
  go_ret
  rw [Hv.out]
  exact ⟨rfl,hK.bel⟩
 ·go_wp2_with fail
  refine (hasC H2.out _).mono ?_
  rintro e w2 ⟨rfl,hb2⟩
  have hK2:=hK.keep hb2
  clear a0 a1 a2 a3 a4 a5 a6 a7 a8
  obtain ⟨a0,a1,a2,a3,a4,a5,a6,a7,a8⟩:=hK2.box.head.four
  cases b2
  ·go_wp2_with fail
   go_ret
   rw [Hv.out]
   exact ⟨rfl,hK2.bel⟩
  ·by_cases hle:nv l≤nv h
   ·have Hd:Hid (decide (nv l≤nv h)=true):=decide_eq_true hle
    have HS:Hid (∀ w,Calls Tryz.prog 142 #[U l,U h] w fun e w'=>e=.returned (.tuple #[Bt (spV l h) (sM l h),N 0])∧Below w.heap.size w w'):=fun w=>yahm hle w
    rw [Hd.out] at Hv
    clear hle Hd
    generalize spV l h=sv at HS H3
    generalize sM l h=sm at HS H3
    go_wp2_with fail
    refine (HS.out _).mono ?_
    rintro e w3 ⟨rfl,hb3⟩
    have hK3:=hK2.keep hb3
    clear a0 a1 a2 a3 a4 a5 a6 a7 a8
    obtain ⟨a0,a1,a2,a3,a4,a5,a6,a7,a8⟩:=hK3.box.head.four
    go_wp2_with fail
    refine (insC H3.out _).mono ?_
    rintro e w4 ⟨rfl,hb4⟩
    have hK4:=(hK3.add2 _ _ _).keep hb4
    cases b3
    all_goals
     go_wp2_with fail
     go_ret
     rw [Hv.out]
     exact ⟨rfl,hK4.bel⟩
   ·have Hd:Hid (decide (nv l≤nv h)=false):=decide_eq_false hle
    have HS:Hid (∀ w,Calls Tryz.prog 142 #[U l,U h] w fun e w'=>e=.returned (.tuple #[Bt zero zero,N 3])∧Below w.heap.size w w'):=fun w=>yat7 (by omega) w
    rw [Hd.out] at Hv
    clear hle Hd
    go_wp2_with fail
    refine (HS.out _).mono ?_
    rintro e w3 ⟨rfl,hb3⟩
    have hK3:=hK2.keep hb3
    go_wp2_with fail
    go_ret
    rw [Hv.out]
    exact ⟨rfl,(hK3.add2 _ _ _).bel⟩
set_option maxHeartbeats 1000000 in
theorem zv7 {v m l h:BitVec 64} (hr:Hid (eqb (band v m) zero=true)) (ho:Hid (zc7 v m l h=false)) (w:World) :
  Calls Tryz.prog 126 #[Vl v m l h] w fun e w'=>e=.returned (.tuple #[V0,.bool false])∧Below w.heap.size w w':=by
 have hrt:=(zea v m).1 hr.out
 have hs:=zqe hrt l
 have hg:=zpf hrt h
 have HL:Hid (∀ w,Calls Tryz.prog 168 #[Bt v m,U l] w fun e w'=>e=.returned (.tuple #[U (zcr v m l 64).1,.bool (zcr v m l 64).2])∧Below w.heap.size w w'):=fun w=>zkt v m l w
 have HG:Hid (∀ w,Calls Tryz.prog 169 #[Bt v m,U h] w fun e w'=>e=.returned (.tuple #[U (zcq v m h 64).1,.bool (zcq v m h 64).2])∧Below w.heap.size w w'):=fun w=>zkv v m h w
 have Ho:Hid (((zcr v m l 64).2&&((zcq v m h 64).2&&decide (nv (zcr v m l 64).1≤nv (zcq v m h 64).1)))=false):=by
  have:=ho.out
  unfold zc7 nLo nHi at this
  show _=false
  rw [hs.1,hg.1]
  cases e1:(zbr v m l).2
  ·rfl
  ·cases e2:(zcg v m h).2
   ·rfl
   ·rw [hs.2 e1,hg.2 e2]
    rw [e1,e2] at this
    exact this
 clear ho hs hg hrt hr
 generalize zcr v m l 64=L at HL Ho
 generalize zcq v m h 64=G at HG Ho
 obtain ⟨lo,lb⟩:=L
 obtain ⟨hi,gb⟩:=G
 go_enter Tryz.func126,Tryz.ntmps126
 go_wp2_with fail
 refine (HL.out _).mono ?_
 rintro e w2 ⟨rfl,hb2⟩
 have hK2:=(((Kp.start w).add4 _ _ _ _ _).add4 _ _ _ _ _).keep hb2
 simp only [World.size_alloc] at hK2
 obtain ⟨r0,r1,r2,r3,r4,r5,r6,r7,r8⟩:=hK2.box.head.four
 obtain ⟨a0,a1,a2,a3,a4,a5,a6,a7,a8⟩:=hK2.box.tail.head.four
 go_wp2_with fail
 refine (HG.out _).mono ?_
 rintro e w3 ⟨rfl,hb3⟩
 have hK3:=hK2.keep hb3
 clear r0 r1 r2 r3 r4 r5 r6 r7 r8 a0 a1 a2 a3 a4 a5 a6 a7 a8
 obtain ⟨r0,r1,r2,r3,r4,r5,r6,r7,r8⟩:=hK3.box.head.four
 obtain ⟨a0,a1,a2,a3,a4,a5,a6,a7,a8⟩:=hK3.box.tail.head.four
 cases lb
 ·go_wp2_with fail
  exact bodyPost_ret (v:=.tuple #[V0,.bool false]) (by simp [results,Tryz.results126,go_sem,za4,r0,r1,r2,r3]) rfl ⟨rfl,(hK3.set4 0 rfl).bel⟩
 ·cases gb
  ·go_wp2_with fail
   exact bodyPost_ret (v:=.tuple #[V0,.bool false]) (by simp [results,Tryz.results126,go_sem,za4,r0,r1,r2,r3]) rfl ⟨rfl,(hK3.set4 0 rfl).bel⟩
  ·have hlt:nv hi<nv lo:=by
    have:=Ho.out
    simp only [Bool.true_and,decide_eq_false_iff_not] at this
    omega
   clear Ho
   go_wp2_with fail
   exact bodyPost_ret (v:=.tuple #[V0,.bool false]) (by simp [results,Tryz.results126,go_sem,za4,r0,r1,r2,r3]) rfl ⟨rfl,(hK3.set4 0 rfl).bel⟩
set_option maxRecDepth 100000 in
set_option maxHeartbeats 8000000 in
theorem zyh {v m l h:BitVec 64} (hr:Hid (eqb (band v m) zero=true)) (ho:Hid (zc7 v m l h=true)) (w:World) :
  Calls Tryz.prog 126 #[Vl v m l h] w fun e w'=>e=.returned (.tuple #[Vl (nV v m l h) (nM m (nLo v m l) (nHi v m h)) (nLo v m l) (nHi v m h),.bool true])∧Below w.heap.size w w':=by
 have hrt:=(zea v m).1 hr.out
 have hfa:=zes hrt ho.out
 have ho':=ho.out
 unfold zc7 at ho'
 simp only [Bool.and_eq_true] at ho'
 have hs:=zqe hrt l
 have hg:=zpf hrt h
 have HL:Hid (∀ w,Calls Tryz.prog 168 #[Bt v m,U l] w fun e w'=>e=.returned (.tuple #[U (nLo v m l),.bool true])∧Below w.heap.size w w'):=fun w=>by
  have:=zkt v m l w;rw [hs.1,hs.2 ho'.1,ho'.1] at this;exact this
 have HG:Hid (∀ w,Calls Tryz.prog 169 #[Bt v m,U h] w fun e w'=>e=.returned (.tuple #[U (nHi v m h),.bool true])∧Below w.heap.size w w'):=fun w=>by
  have:=zkv v m h w;rw [hg.1,hg.2 ho'.2.1,ho'.2.1] at this;exact this
 have HS:Hid (∀ w,Calls Tryz.prog 170 #[U (nLo v m l),U (nHi v m h)] w fun e w'=>e=.returned (Bt (spV (nLo v m l) (nHi v m h)) (sM (nLo v m l) (nHi v m h)))∧Below w.heap.size w w'):=fun w=>by
  have hh:=zu8 (nLo v m l) (nHi v m h) w
  rw [(yai6 _ _).1,(yai6 _ _).2] at hh
  exact hh
 have HM:Hid (∀ w,Calls Tryz.prog 129 #[Bt v m,Bt (spV (nLo v m l) (nHi v m h)) (sM (nLo v m l) (nHi v m h))] w fun e w'=>e=.returned (.tuple #[Bt (nV v m l h) (nM m (nLo v m l) (nHi v m h)),.bool true])∧Below w.heap.size w w'):=fun w=>by
  obtain ⟨h1,h2,h3⟩:=yajk (zkc hrt (zez (nLo v m l) (nHi v m h))).out (zmi hrt hfa.1 (Int.le_refl _) hfa.2.2.1)
  have h:=zma v m _ _ h1 w
  rw [h2,h3] at h
  exact h
 have hle:=hfa.2.2.1
 clear hfa ho' ho hrt hs hg hr
 generalize nV v m l h=rv at HM ⊢
 generalize nM m (nLo v m l) (nHi v m h)=rm at HM ⊢
 generalize spV (nLo v m l) (nHi v m h)=sv at HM HS
 generalize sM (nLo v m l) (nHi v m h)=sm at HM HS
 generalize nLo v m l=lo at HL HS hle ⊢
 generalize nHi v m h=hi at HG HS hle ⊢
 go_enter Tryz.func126,Tryz.ntmps126
 go_wp2_with fail
 refine (HL.out _).mono ?_
 rintro e w2 ⟨rfl,hb2⟩
 have hK2:=(((Kp.start w).add4 _ _ _ _ _).add4 _ _ _ _ _).keep hb2
 simp only [World.size_alloc] at hK2
 obtain ⟨r0,r1,r2,r3,r4,r5,r6,r7,r8⟩:=hK2.box.head.four
 obtain ⟨a0,a1,a2,a3,a4,a5,a6,a7,a8⟩:=hK2.box.tail.head.four
 go_wp2_with fail
 refine (HG.out _).mono ?_
 rintro e w3 ⟨rfl,hb3⟩
 have hK3:=hK2.keep hb3
 clear r0 r1 r2 r3 r4 r5 r6 r7 r8 a0 a1 a2 a3 a4 a5 a6 a7 a8
 obtain ⟨r0,r1,r2,r3,r4,r5,r6,r7,r8⟩:=hK3.box.head.four
 obtain ⟨a0,a1,a2,a3,a4,a5,a6,a7,a8⟩:=hK3.box.tail.head.four
 go_wp2_with fail
 go_cut [8,9] (fun p f wc=>∃ b,p=.pointer (some ⟨b,0,none⟩)∧f=.bool true∧Kp w wc [(b,[U rv,U rm]),(w.heap.size+1,[.int .u64 0,.int .u64 0,.int .u64 0,.int .u64 0]),(w.heap.size,[U v,U m,U l,U h])])
 case first =>
  go_region_with (first
    | (go_at_call 170;refine (HS.out _).mono ?_;rintro e w4 ⟨rfl,hb4⟩;clear r0 r1 r2 r3 r4 r5 r6 r7 a0 a1 a2 a3 a4 a5 a6 a7;first | (have hK4:=(hK3.keep (Below.drew (Below.refl _ _))).keep hb4;obtain ⟨r0,r1,r2,r3,r4,r5,r6,r7,r8⟩:=hK4.box.head.four;obtain ⟨a0,a1,a2,a3,a4,a5,a6,a7,a8⟩:=hK4.box.tail.head.four) | (have hK4:=((hK3.keep (Below.drew (Below.refl _ _))).add2 _ _ _).keep hb4;rw [show w3.drew.heap.size=w3.heap.size from rfl] at hK4;obtain ⟨q0,q1,q2,q3,q4⟩:=hK4.box.head.two;obtain ⟨r0,r1,r2,r3,r4,r5,r6,r7,r8⟩:=hK4.box.tail.head.four;obtain ⟨a0,a1,a2,a3,a4,a5,a6,a7,a8⟩:=hK4.box.tail.tail.head.four))
    | (go_at_call 129;refine (HM.out _).mono ?_;rintro e w5 ⟨rfl,hb5⟩;clear r0 r1 r2 r3 r4 r5 r6 r7 a0 a1 a2 a3 a4 a5 a6 a7;first | (have hK5:=hK4.keep hb5;obtain ⟨q0,q1,q2,q3,q4⟩:=hK5.box.head.two;obtain ⟨r0,r1,r2,r3,r4,r5,r6,r7,r8⟩:=hK5.box.tail.head.four;obtain ⟨a0,a1,a2,a3,a4,a5,a6,a7,a8⟩:=hK5.box.tail.tail.head.four) | (have hK5:=hK4.keep hb5;obtain ⟨r0,r1,r2,r3,r4,r5,r6,r7,r8⟩:=hK5.box.head.four;obtain ⟨a0,a1,a2,a3,a4,a5,a6,a7,a8⟩:=hK5.box.tail.head.four) | (have hK5:=(hK4.add2 _ _ _).keep hb5;obtain ⟨q0,q1,q2,q3,q4⟩:=hK5.box.head.two;obtain ⟨r0,r1,r2,r3,r4,r5,r6,r7,r8⟩:=hK5.box.tail.head.four;obtain ⟨a0,a1,a2,a3,a4,a5,a6,a7,a8⟩:=hK5.box.tail.tail.head.four)))
  all_goals
   go_wp2_with fail
   go_meet
   case rel=>first | exact ⟨_,rfl,rfl,hK5.add2 _ _ _⟩ | exact ⟨_,rfl,rfl,hK5.set2 0 rfl⟩
 case rest =>
  clear r0 r1 r2 r3 r4 r5 r6 r7 r8 a0 a1 a2 a3 a4 a5 a6 a7 a8
  obtain ⟨b,rfl,rfl,hK6⟩:=hcut
  obtain ⟨q0,q1,q2,q3,q4⟩:=hK6.box.head.two
  obtain ⟨r0,r1,r2,r3,r4,r5,r6,r7,r8⟩:=hK6.box.tail.head.four
  obtain ⟨a0,a1,a2,a3,a4,a5,a6,a7,a8⟩:=hK6.box.tail.tail.head.four
  have hne:w.heap.size+1<b:=hK6.box.2.1 _ (List.Mem.head _)
  go_wp2_with fail
  exact bodyPost_ret (v:=.tuple #[Vl rv rm lo hi,.bool true]) (by simp [results,Tryz.results126,go_sem,r0,r1,r2,r3]) rfl ⟨rfl,(hK6.set4 1 rfl).bel⟩
end
section
attribute [local go_sem] zdb w_or zdd za3 zb4 zbd zc9 zc4 zda zbw zby zcz zb0 zdc zcn zc0 zb1 zbx zb2 zbz za1
attribute [local go_sem] zix
theorem yaa8 {v m l h:BitVec 64} {b:Bool} (hv:valB v m l h=b) (w:World) :
  Calls Tryz.prog 98 #[Vl v m l h] w fun e w'=>e=.returned (N (er b))∧Below w.heap.size w w':=hv ▸ zlc v m l h w
set_option maxHeartbeats 1000000 in
theorem yahz (x:BitVec 64) (w:World) :
  Calls Tryz.prog 144 #[U x] w fun e w'=>e=.returned (Vl x zero x x)∧Below w.heap.size w w':=by
 go_enter Tryz.func144,Tryz.ntmps144
 go_wp2_with fail
 exact bodyPost_ret (v:=Vl x zero x x) (by simp [results,Tryz.results144,go_sem,za4]) rfl ⟨rfl,(by repeat (first | exact Below.refl _ _ | assumption | refine below_drewN ?_ _ | refine Below.drew ?_ | refine Below.alloc ?_ (by first | exact Nat.le_refl _ | (simp;done) | (simp;omega) | omega) _ | refine Below.setCell ?_ (by first | exact Nat.le_refl _ | (simp;done) | (simp;omega) | omega) _ | refine Below.trans ?_ (Below.mono (by assumption) (by first | exact Nat.le_refl _ | (simp;done) | (simp;omega) | omega))))⟩
set_option maxHeartbeats 1000000 in
theorem zvg (x:BitVec 64) (w:World) :
  Calls Tryz.prog 74 #[U x] w fun e w'=>e=.returned (Vl x zero x x)∧Below w.heap.size w w':=by
 go_enter Tryz.func74,Tryz.ntmps74
 go_wp2_with fail
 exact bodyPost_ret (v:=Vl x zero x x) (by simp [results,Tryz.results74,go_sem,za4]) rfl ⟨rfl,(by repeat (first | exact Below.refl _ _ | assumption | refine below_drewN ?_ _ | refine Below.drew ?_ | refine Below.alloc ?_ (by first | exact Nat.le_refl _ | (simp;done) | (simp;omega) | omega) _ | refine Below.setCell ?_ (by first | exact Nat.le_refl _ | (simp;done) | (simp;omega) | omega) _ | refine Below.trans ?_ (Below.mono (by assumption) (by first | exact Nat.le_refl _ | (simp;done) | (simp;omega) | omega))))⟩
set_option maxHeartbeats 1000000 in
theorem yaf0 (w:World) :
  Calls Tryz.prog 54 #[] w fun e w'=>e=.returned (Vl zero top zero top)∧Below w.heap.size w w':=by
 go_enter Tryz.func54,Tryz.ntmps54
 go_wp2_with fail
 exact bodyPost_ret (v:=Vl zero top zero top) (by simp [results,Tryz.results54,go_sem,za4,zmf]) rfl ⟨rfl,(by repeat (first | exact Below.refl _ _ | assumption | refine below_drewN ?_ _ | refine Below.drew ?_ | refine Below.alloc ?_ (by first | exact Nat.le_refl _ | (simp;done) | (simp;omega) | omega) _ | refine Below.setCell ?_ (by first | exact Nat.le_refl _ | (simp;done) | (simp;omega) | omega) _ | refine Below.trans ?_ (Below.mono (by assumption) (by first | exact Nat.le_refl _ | (simp;done) | (simp;omega) | omega))))⟩
set_option maxHeartbeats 1000000 in
theorem zqs (w:World) :
  Calls Tryz.prog 73 #[] w fun e w'=>e=.returned (Vl zero top zero top)∧Below w.heap.size w w':=by
 go_enter Tryz.func73,Tryz.ntmps73
 go_wp2_with fail
 exact bodyPost_ret (v:=Vl zero top zero top) (by simp [results,Tryz.results73,go_sem,za4,zmf]) rfl ⟨rfl,(by repeat (first | exact Below.refl _ _ | assumption | refine below_drewN ?_ _ | refine Below.drew ?_ | refine Below.alloc ?_ (by first | exact Nat.le_refl _ | (simp;done) | (simp;omega) | omega) _ | refine Below.setCell ?_ (by first | exact Nat.le_refl _ | (simp;done) | (simp;omega) | omega) _ | refine Below.trans ?_ (Below.mono (by assumption) (by first | exact Nat.le_refl _ | (simp;done) | (simp;omega) | omega))))⟩
end
section
attribute [local go_sem] zdb w_or zdd za3 zb4 zbd zc9 zc4 zda zbw zby zcz zb0 zdc zcn zc0 zb1 zbx zb2 zbz za1
end
section
attribute [local go_sem] zdb w_or zdd za3 zb4 zbd zc9 zc4 zda zbw zby zcz zb0 zdc zcn zc0 zb1 zbx zb2 zbz za1
set_option maxHeartbeats 2000000 in
theorem zxp {v m l h v' m' l' h':BitVec 64} (hr:Hid ((valB v m l h&&valB v' m' l' h')=true)) (w:World) :
  Calls Tryz.prog 109 #[Vl v m l h,Vl v' m' l' h'] w fun e w'=>e=.returned (.tuple #[Vl (nV (jV v m v' m') (jM v m v' m') (bmin l l') (bmax h h')) (nM (jM v m v' m') (nLo (jV v m v' m') (jM v m v' m') (bmin l l')) (nHi (jV v m v' m') (jM v m v' m') (bmax h h'))) (nLo (jV v m v' m') (jM v m v' m') (bmin l l')) (nHi (jV v m v' m') (jM v m v' m') (bmax h h')),N 0])∧Below w.heap.size w w':=by
 have hr':=hr.out
 rw [Bool.and_eq_true] at hr'
 have H1:Hid (valB v m l h=true):=hr'.1
 have H2:Hid (valB v' m' l' h'=true):=hr'.2
 have hf:=zko hr'.1 hr'.2
 have ha:=(zbf hr'.1).1
 have hb:=(zbf hr'.2).1
 have HJ:Hid (∀ w,Calls Tryz.prog 157 #[Bt v m,Bt v' m'] w fun e w'=>e=.returned (.tuple #[Bt (jV v m v' m') (jM v m v' m'),N 0])∧Below w.heap.size w w'):=fun w=>join_ok (zkc ha hb) w
 have HN:Hid (∀ w,Calls Tryz.prog 156 #[Vl (jV v m v' m') (jM v m v' m') (bmin l l') (bmax h h')] w fun e w'=>e=.returned (.tuple #[Vl (nV (jV v m v' m') (jM v m v' m') (bmin l l') (bmax h h')) (nM (jM v m v' m') (nLo (jV v m v' m') (jM v m v' m') (bmin l l')) (nHi (jV v m v' m') (jM v m v' m') (bmax h h'))) (nLo (jV v m v' m') (jM v m v' m') (bmin l l')) (nHi (jV v m v' m') (jM v m v' m') (bmax h h')),.bool true,N 0])∧Below w.heap.size w w'):=fun w =>
  zsv ((zea _ _).2 (zkf v m v' m')) hf.1 w
 clear hf ha hb hr hr'
 generalize nV (jV v m v' m') (jM v m v' m') (bmin l l') (bmax h h')=rv at HN ⊢
 generalize nM (jM v m v' m') (nLo (jV v m v' m') (jM v m v' m') (bmin l l')) (nHi (jV v m v' m') (jM v m v' m') (bmax h h'))=rm at HN ⊢
 generalize nLo (jV v m v' m') (jM v m v' m') (bmin l l')=lo at HN ⊢
 generalize nHi (jV v m v' m') (jM v m v' m') (bmax h h')=hi at HN ⊢
 generalize jV v m v' m'=jv at HN HJ
 generalize jM v m v' m'=jm at HN HJ
 go_enter Tryz.func109,Tryz.ntmps109
 go_wp2_with fail
 refine (yaa8 H1.out _).mono ?_
 rintro e w1 ⟨rfl,hb1⟩
 have hK:=((((Kp.start w).add4 _ _ _ _ _).add4 _ _ _ _ _).add4 _ _ _ _ _).keep hb1
 simp only [World.size_alloc] at hK
 obtain ⟨r0,r1,r2,r3,r4,r5,r6,r7,r8⟩:=hK.box.head.four
 obtain ⟨b0,b1,b2,b3,b4,b5,b6,b7,b8⟩:=hK.box.tail.head.four
 obtain ⟨a0,a1,a2,a3,a4,a5,a6,a7,a8⟩:=hK.box.tail.tail.head.four
 rw [er_t]
 go_wp2_with fail
 refine (yaa8 H2.out _).mono ?_
 rintro e w2 ⟨rfl,hb2⟩
 have hK2:=hK.keep hb2
 clear r0 r1 r2 r3 r4 r5 r6 r7 r8 b0 b1 b2 b3 b4 b5 b6 b7 b8 a0 a1 a2 a3 a4 a5 a6 a7 a8
 obtain ⟨r0,r1,r2,r3,r4,r5,r6,r7,r8⟩:=hK2.box.head.four
 obtain ⟨b0,b1,b2,b3,b4,b5,b6,b7,b8⟩:=hK2.box.tail.head.four
 obtain ⟨a0,a1,a2,a3,a4,a5,a6,a7,a8⟩:=hK2.box.tail.tail.head.four
 rw [er_t]
 go_wp2_with fail
 refine (HJ.out _).mono ?_
 rintro e w3 ⟨rfl,hb3⟩
 have hK3:=hK2.keep hb3
 clear r0 r1 r2 r3 r4 r5 r6 r7 r8 b0 b1 b2 b3 b4 b5 b6 b7 b8 a0 a1 a2 a3 a4 a5 a6 a7 a8
 obtain ⟨r0,r1,r2,r3,r4,r5,r6,r7,r8⟩:=hK3.box.head.four
 obtain ⟨b0,b1,b2,b3,b4,b5,b6,b7,b8⟩:=hK3.box.tail.head.four
 obtain ⟨a0,a1,a2,a3,a4,a5,a6,a7,a8⟩:=hK3.box.tail.tail.head.four
 by_cases h1:nv l' < nv l <;> by_cases h2:nv h<nv h'
 ·have e1:bmin l l'=l':=if_pos h1
  have e2:bmax h h'=h':=if_pos h2
  rw [e1,e2] at HN
  clear e1 e2
  go_wp2_with fail
  refine (HN.out _).mono ?_
  rintro e w4 ⟨rfl,hb4⟩
  have hK4:=(hK3.add2 _ _ _).keep hb4
  clear r0 r1 r2 r3 r4 r5 r6 r7 r8 b0 b1 b2 b3 b4 b5 b6 b7 b8 a0 a1 a2 a3 a4 a5 a6 a7 a8
  obtain ⟨j0,j1,j2,j3,j4⟩:=hK4.box.head.two
  obtain ⟨r0,r1,r2,r3,r4,r5,r6,r7,r8⟩:=hK4.box.tail.head.four
  obtain ⟨b0,b1,b2,b3,b4,b5,b6,b7,b8⟩:=hK4.box.tail.tail.head.four
  obtain ⟨a0,a1,a2,a3,a4,a5,a6,a7,a8⟩:=hK4.box.tail.tail.tail.head.four
  go_wp2_with fail
  exact bodyPost_ret (v:=.tuple #[Vl rv rm lo hi,N 0]) (by simp [results,Tryz.results109,go_sem,r0,r1,r2,r3,r8]) rfl ⟨rfl,((hK4.set4 1 rfl).add4 _ _ _ _ _).bel⟩
 ·have e1:bmin l l'=l':=if_pos h1
  have e2:bmax h h'=h:=if_neg h2
  rw [e1,e2] at HN
  clear e1 e2
  have h2':nv h'≤nv h:=by omega
  clear h2
  go_wp2_with fail
  refine (HN.out _).mono ?_
  rintro e w4 ⟨rfl,hb4⟩
  have hK4:=(hK3.add2 _ _ _).keep hb4
  clear r0 r1 r2 r3 r4 r5 r6 r7 r8 b0 b1 b2 b3 b4 b5 b6 b7 b8 a0 a1 a2 a3 a4 a5 a6 a7 a8
  obtain ⟨j0,j1,j2,j3,j4⟩:=hK4.box.head.two
  obtain ⟨r0,r1,r2,r3,r4,r5,r6,r7,r8⟩:=hK4.box.tail.head.four
  obtain ⟨b0,b1,b2,b3,b4,b5,b6,b7,b8⟩:=hK4.box.tail.tail.head.four
  obtain ⟨a0,a1,a2,a3,a4,a5,a6,a7,a8⟩:=hK4.box.tail.tail.tail.head.four
  go_wp2_with fail
  exact bodyPost_ret (v:=.tuple #[Vl rv rm lo hi,N 0]) (by simp [results,Tryz.results109,go_sem,r0,r1,r2,r3,r8]) rfl ⟨rfl,((hK4.set4 1 rfl).add4 _ _ _ _ _).bel⟩
 ·have e1:bmin l l'=l:=if_neg h1
  have e2:bmax h h'=h':=if_pos h2
  rw [e1,e2] at HN
  clear e1 e2
  have h1':nv l≤nv l':=by omega
  clear h1
  go_wp2_with fail
  refine (HN.out _).mono ?_
  rintro e w4 ⟨rfl,hb4⟩
  have hK4:=(hK3.add2 _ _ _).keep hb4
  clear r0 r1 r2 r3 r4 r5 r6 r7 r8 b0 b1 b2 b3 b4 b5 b6 b7 b8 a0 a1 a2 a3 a4 a5 a6 a7 a8
  obtain ⟨j0,j1,j2,j3,j4⟩:=hK4.box.head.two
  obtain ⟨r0,r1,r2,r3,r4,r5,r6,r7,r8⟩:=hK4.box.tail.head.four
  obtain ⟨b0,b1,b2,b3,b4,b5,b6,b7,b8⟩:=hK4.box.tail.tail.head.four
  obtain ⟨a0,a1,a2,a3,a4,a5,a6,a7,a8⟩:=hK4.box.tail.tail.tail.head.four
  go_wp2_with fail
  exact bodyPost_ret (v:=.tuple #[Vl rv rm lo hi,N 0]) (by simp [results,Tryz.results109,go_sem,r0,r1,r2,r3,r8]) rfl ⟨rfl,((hK4.set4 1 rfl).add4 _ _ _ _ _).bel⟩
 ·have e1:bmin l l'=l:=if_neg h1
  have e2:bmax h h'=h:=if_neg h2
  rw [e1,e2] at HN
  clear e1 e2
  have h1':nv l≤nv l':=by omega
  clear h1
  have h2':nv h'≤nv h:=by omega
  clear h2
  go_wp2_with fail
  refine (HN.out _).mono ?_
  rintro e w4 ⟨rfl,hb4⟩
  have hK4:=(hK3.add2 _ _ _).keep hb4
  clear r0 r1 r2 r3 r4 r5 r6 r7 r8 b0 b1 b2 b3 b4 b5 b6 b7 b8 a0 a1 a2 a3 a4 a5 a6 a7 a8
  obtain ⟨j0,j1,j2,j3,j4⟩:=hK4.box.head.two
  obtain ⟨r0,r1,r2,r3,r4,r5,r6,r7,r8⟩:=hK4.box.tail.head.four
  obtain ⟨b0,b1,b2,b3,b4,b5,b6,b7,b8⟩:=hK4.box.tail.tail.head.four
  obtain ⟨a0,a1,a2,a3,a4,a5,a6,a7,a8⟩:=hK4.box.tail.tail.tail.head.four
  go_wp2_with fail
  exact bodyPost_ret (v:=.tuple #[Vl rv rm lo hi,N 0]) (by simp [results,Tryz.results109,go_sem,r0,r1,r2,r3,r8]) rfl ⟨rfl,((hK4.set4 1 rfl).add4 _ _ _ _ _).bel⟩
end
section
attribute [local go_sem] zdb w_or zdd za3 zb4 zbd zc9 zc4 zda zbw zby zcz zb0 zdc zcn zc0 zb1 zbx zb2 zbz za1
set_option maxHeartbeats 400000 in
theorem yakz (v m l h:BitVec 64) (w:World) :
  Calls Tryz.prog 147 #[Vl v m l h] w fun e w'=>e=.returned (.bool (eqb l h))∧Below w.heap.size w w':=by
 go_enter Tryz.func147,Tryz.ntmps147
 go_wp2_with fail
 go_ret
 exact ⟨rfl,(by repeat (first | exact Below.refl _ _ | assumption | refine below_drewN ?_ _ | refine Below.drew ?_ | refine Below.alloc ?_ (by first | exact Nat.le_refl _ | (simp;done) | (simp;omega) | omega) _ | refine Below.setCell ?_ (by first | exact Nat.le_refl _ | (simp;done) | (simp;omega) | omega) _ | refine Below.trans ?_ (Below.mono (by assumption) (by first | exact Nat.le_refl _ | (simp;done) | (simp;omega) | omega))))⟩
theorem zd6 {v m l h:BitVec 64} {b:Bool} (hb:eqb l h=b) (w:World) :
  Calls Tryz.prog 147 #[Vl v m l h] w fun e w'=>e=.returned (.bool b)∧Below w.heap.size w w':=hb ▸ yakz v m l h w
set_option maxRecDepth 100000 in
set_option maxHeartbeats 1000000 in
theorem znm (v m l h:BitVec 64) (y:BitVec 64) (w:World) :
  Calls Tryz.prog 201 #[N 9,Vl v m l h,U (band y 63#64)] w fun e w'=>e=.returned (.tuple #[U (bshr l (six y)),U (bshr h (six y))])∧Below w.heap.size w w':=by
 have h6:=zvy y
 have h7:=zna y
 go_enter Tryz.func201,Tryz.ntmps201
 go_wp2_with fail
 go_quiet (fail)
 go_wp2_with fail
 go_ret2
 exact ⟨rfl,(by repeat (first | exact Below.refl _ _ | assumption | refine below_drewN ?_ _ | refine Below.drew ?_ | refine Below.alloc ?_ (by first | exact Nat.le_refl _ | (simp;done) | (simp;omega) | omega) _ | refine Below.setCell ?_ (by first | exact Nat.le_refl _ | (simp;done) | (simp;omega) | omega) _ | refine Below.trans ?_ (Below.mono (by assumption) (by first | exact Nat.le_refl _ | (simp;done) | (simp;omega) | omega))))⟩
set_option maxRecDepth 100000 in
set_option maxHeartbeats 1000000 in
theorem zol (v m l h:BitVec 64) (y:BitVec 64) (w:World) :
  Calls Tryz.prog 201 #[N 8,Vl v m l h,U (band y 63#64)] w fun e w'=>e=.returned (.tuple #[U (shlB l h (six y)).1,U (shlB l h (six y)).2])∧Below w.heap.size w w':=by
 have h6:=zvy y
 have h7:=zna y
 have Ha:Hid (shlB l h (six y)=if eqb (bshr (bshl h (six y)) (six y)) h then (bshl l (six y),bshl h (six y)) else (zero,top)):=rfl
 obtain ⟨p,hp⟩:∃ b,eqb (bshr (bshl h (six y)) (six y)) h=b:=⟨_,rfl⟩
 rw [hp] at Ha
 cases p
 ·go_enter Tryz.func201,Tryz.ntmps201
  go_wp2_with fail
  go_ret2
  rw [Ha.out]
  exact ⟨rfl,(by repeat (first | exact Below.refl _ _ | assumption | refine below_drewN ?_ _ | refine Below.drew ?_ | refine Below.alloc ?_ (by first | exact Nat.le_refl _ | (simp;done) | (simp;omega) | omega) _ | refine Below.setCell ?_ (by first | exact Nat.le_refl _ | (simp;done) | (simp;omega) | omega) _ | refine Below.trans ?_ (Below.mono (by assumption) (by first | exact Nat.le_refl _ | (simp;done) | (simp;omega) | omega))))⟩
 ·go_enter Tryz.func201,Tryz.ntmps201
  go_wp2_with fail
  go_quiet (fail)
  go_wp2_with fail
  go_ret2
  rw [Ha.out]
  exact ⟨rfl,(by repeat (first | exact Below.refl _ _ | assumption | refine below_drewN ?_ _ | refine Below.drew ?_ | refine Below.alloc ?_ (by first | exact Nat.le_refl _ | (simp;done) | (simp;omega) | omega) _ | refine Below.setCell ?_ (by first | exact Nat.le_refl _ | (simp;done) | (simp;omega) | omega) _ | refine Below.trans ?_ (Below.mono (by assumption) (by first | exact Nat.le_refl _ | (simp;done) | (simp;omega) | omega))))⟩
set_option maxRecDepth 100000 in
set_option maxHeartbeats 1000000 in
theorem yadi {op:Int} (hop:Hid (2≤op∧op≤7)) (v m l h v' m' l' h':BitVec 64) (w:World) :
  Calls Tryz.prog 183 #[N op,Vl v m l h,Vl v' m' l' h'] w fun e w'=>e=.returned (.tuple #[U (zce op l h l' h').1,U (zce op l h l' h').2])∧Below w.heap.size w w':=by
 rcases zjm hop.out with rfl | rfl | rfl | rfl | rfl | rfl
 ·clear hop
  go_enter Tryz.func183,Tryz.ntmps183
  go_wp2_with fail
  refine (zrl v m l h v' m' l' h' _).mono ?_
  rintro e w1 ⟨rfl,hb1⟩
  have hK:=(((Kp.start w).add4 _ _ _ _ _).add4 _ _ _ _ _).keep hb1
  go_wp2_with fail
  go_ret2
  exact ⟨rfl,hK.bel⟩
 ·clear hop
  go_enter Tryz.func183,Tryz.ntmps183
  go_wp2_with fail
  refine (zrx v m l h v' m' l' h' _).mono ?_
  rintro e w1 ⟨rfl,hb1⟩
  have hK:=(((Kp.start w).add4 _ _ _ _ _).add4 _ _ _ _ _).keep hb1
  go_wp2_with fail
  go_ret2
  exact ⟨rfl,hK.bel⟩
 ·clear hop
  go_enter Tryz.func183,Tryz.ntmps183
  go_wp2_with fail
  refine (zsr v m l h v' m' l' h' _).mono ?_
  rintro e w1 ⟨rfl,hb1⟩
  have hK:=(((Kp.start w).add4 _ _ _ _ _).add4 _ _ _ _ _).keep hb1
  go_wp2_with fail
  go_ret2
  exact ⟨rfl,hK.bel⟩
 ·clear hop
  have Hb:Hid (zce 5 l h l' h'=(zero,bmin h h')):=rfl
  rw [Hb.out]
  by_cases h1:nv h' < nv h
  ·have e1:Hid (bmin h h'=h'):=if_pos h1
   rw [e1.out]
   go_enter Tryz.func183,Tryz.ntmps183
   go_wp2_with fail
   first | (go_quiet (fail);go_wp2_with fail) | skip
   go_ret2
   exact ⟨rfl,(by repeat (first | exact Below.refl _ _ | assumption | refine below_drewN ?_ _ | refine Below.drew ?_ | refine Below.alloc ?_ (by first | exact Nat.le_refl _ | (simp;done) | (simp;omega) | omega) _ | refine Below.setCell ?_ (by first | exact Nat.le_refl _ | (simp;done) | (simp;omega) | omega) _ | refine Below.trans ?_ (Below.mono (by assumption) (by first | exact Nat.le_refl _ | (simp;done) | (simp;omega) | omega))))⟩
  ·have e1:Hid (bmin h h'=h):=if_neg h1
   have h1':nv h≤nv h':=by omega
   clear h1
   rw [e1.out]
   go_enter Tryz.func183,Tryz.ntmps183
   go_wp2_with fail
   first | (go_quiet (fail);go_wp2_with fail) | skip
   go_ret2
   exact ⟨rfl,(by repeat (first | exact Below.refl _ _ | assumption | refine below_drewN ?_ _ | refine Below.drew ?_ | refine Below.alloc ?_ (by first | exact Nat.le_refl _ | (simp;done) | (simp;omega) | omega) _ | refine Below.setCell ?_ (by first | exact Nat.le_refl _ | (simp;done) | (simp;omega) | omega) _ | refine Below.trans ?_ (Below.mono (by assumption) (by first | exact Nat.le_refl _ | (simp;done) | (simp;omega) | omega))))⟩
 ·clear hop
  have Hb:Hid (zce 6 l h l' h'=(bmax l l',top)):=rfl
  rw [Hb.out]
  by_cases h1:nv l<nv l'
  ·have e1:Hid (bmax l l'=l'):=if_pos h1
   rw [e1.out]
   go_enter Tryz.func183,Tryz.ntmps183
   go_wp2_with fail
   go_ret2
   exact ⟨rfl,(by repeat (first | exact Below.refl _ _ | assumption | refine below_drewN ?_ _ | refine Below.drew ?_ | refine Below.alloc ?_ (by first | exact Nat.le_refl _ | (simp;done) | (simp;omega) | omega) _ | refine Below.setCell ?_ (by first | exact Nat.le_refl _ | (simp;done) | (simp;omega) | omega) _ | refine Below.trans ?_ (Below.mono (by assumption) (by first | exact Nat.le_refl _ | (simp;done) | (simp;omega) | omega))))⟩
  ·have e1:Hid (bmax l l'=l):=if_neg h1
   have h1':nv l'≤nv l:=by omega
   clear h1
   rw [e1.out]
   go_enter Tryz.func183,Tryz.ntmps183
   go_wp2_with fail
   go_ret2
   exact ⟨rfl,(by repeat (first | exact Below.refl _ _ | assumption | refine below_drewN ?_ _ | refine Below.drew ?_ | refine Below.alloc ?_ (by first | exact Nat.le_refl _ | (simp;done) | (simp;omega) | omega) _ | refine Below.setCell ?_ (by first | exact Nat.le_refl _ | (simp;done) | (simp;omega) | omega) _ | refine Below.trans ?_ (Below.mono (by assumption) (by first | exact Nat.le_refl _ | (simp;done) | (simp;omega) | omega))))⟩
 ·clear hop
  go_enter Tryz.func183,Tryz.ntmps183
  go_wp2_with fail
  go_ret2
  exact ⟨rfl,(by repeat (first | exact Below.refl _ _ | assumption | refine below_drewN ?_ _ | refine Below.drew ?_ | refine Below.alloc ?_ (by first | exact Nat.le_refl _ | (simp;done) | (simp;omega) | omega) _ | refine Below.setCell ?_ (by first | exact Nat.le_refl _ | (simp;done) | (simp;omega) | omega) _ | refine Below.trans ?_ (Below.mono (by assumption) (by first | exact Nat.le_refl _ | (simp;done) | (simp;omega) | omega))))⟩
end
section
attribute [local go_sem] zdb w_or zdd za3 zb4 zbd zc9 zc4 zda zbw zby zcz zb0 zdc zcn zc0 zb1 zbx zb2 zbz za1
set_option maxRecDepth 100000 in
set_option maxHeartbeats 1000000 in
theorem zzg {v m l g v' m' l' g':BitVec 64} (ha:Hid (eqb l' g'=false)) (w:World) :
  Calls Tryz.prog 181 #[N 8,Vl v m l g,Vl v' m' l' g'] w fun e w'=>e=.returned (Vl zero top zero top)∧Below w.heap.size w w':=by
 go_enter Tryz.func181,Tryz.ntmps181
 go_wp2_with fail
 refine (zd6 ha.out _).mono ?_
 rintro e w1 ⟨rfl,hb1⟩
 have hK:=((((Kp.start w).add4 _ _ _ _ _).add4 _ _ _ _ _).add4 _ _ _ _ _).keep hb1
 simp only [World.size_alloc] at hK
 obtain ⟨r0,r1,r2,r3,r4,r5,r6,r7,r8⟩:=hK.box.head.four
 obtain ⟨b0,b1,b2,b3,b4,b5,b6,b7,b8⟩:=hK.box.tail.head.four
 obtain ⟨a0,a1,a2,a3,a4,a5,a6,a7,a8⟩:=hK.box.tail.tail.head.four
 go_wp2_with fail
 exact bodyPost_ret (v:=Vl zero top zero top) (by simp [results,Tryz.results181,go_sem,za4,zmf,r0,r1,r2,r3]) rfl ⟨rfl,(hK.set4 0 rfl).bel⟩
set_option maxRecDepth 100000 in
set_option maxHeartbeats 1000000 in
theorem zya {v m l g v' m' l' g':BitVec 64} (ha:Hid (eqb l' g'=false)) (w:World) :
  Calls Tryz.prog 181 #[N 9,Vl v m l g,Vl v' m' l' g'] w fun e w'=>e=.returned (Vl zero top zero g)∧Below w.heap.size w w':=by
 go_enter Tryz.func181,Tryz.ntmps181
 go_wp2_with fail
 refine (zd6 ha.out _).mono ?_
 rintro e w1 ⟨rfl,hb1⟩
 have hK:=((((Kp.start w).add4 _ _ _ _ _).add4 _ _ _ _ _).add4 _ _ _ _ _).keep hb1
 simp only [World.size_alloc] at hK
 obtain ⟨r0,r1,r2,r3,r4,r5,r6,r7,r8⟩:=hK.box.head.four
 obtain ⟨b0,b1,b2,b3,b4,b5,b6,b7,b8⟩:=hK.box.tail.head.four
 obtain ⟨a0,a1,a2,a3,a4,a5,a6,a7,a8⟩:=hK.box.tail.tail.head.four
 go_wp2_with fail
 exact bodyPost_ret (v:=Vl zero top zero g) (by simp [results,Tryz.results181,go_sem,za4,zmf,r0,r1,r2,r3]) rfl ⟨rfl,(hK.set4 0 rfl).bel⟩
set_option maxRecDepth 100000 in
set_option maxHeartbeats 1000000 in
theorem yafo {v m l h v' m' l' h':BitVec 64} (hr:Hid (eqb (band v m) zero=true)) (ha:Hid (eqb l' h'=true)) (w:World) :
  Calls Tryz.prog 181 #[N 8,Vl v m l h,Vl v' m' l' h'] w fun e w'=>e=.returned (Vl (bshl v (six l')) (bshl m (six l')) (shlB l h (six l')).1 (shlB l h (six l')).2)∧Below w.heap.size w w':=by
 have h6:=zvy l'
 have h7:=zna l'
 have HS:Hid (∀ w,Calls Tryz.prog 200 #[N 8,Bt v m,N (six l')] w fun e w'=>e=.returned (.tuple #[Bt (bshl v (six l')) (bshl m (six l')),N 0])∧Below w.heap.size w w'):=fun w=>yaoi hr h7 w
 have HB:Hid (∀ w,Calls Tryz.prog 201 #[N 8,Vl v m l h,U (band l' 63#64)] w fun e w'=>e=.returned (.tuple #[U (shlB l h (six l')).1,U (shlB l h (six l')).2])∧Below w.heap.size w w'):=fun w=>zol v m l h l' w
 generalize shlB l h (six l')=S at HB ⊢
 obtain ⟨lo,hi⟩:=S
 generalize bshl v (six l')=sv at HS ⊢
 generalize bshl m (six l')=sm at HS ⊢
 go_enter Tryz.func181,Tryz.ntmps181
 go_wp2_with fail
 refine (zd6 ha.out _).mono ?_
 rintro e w1 ⟨rfl,hb1⟩
 have hK:=((((Kp.start w).add4 _ _ _ _ _).add4 _ _ _ _ _).add4 _ _ _ _ _).keep hb1
 simp only [World.size_alloc] at hK
 obtain ⟨r0,r1,r2,r3,r4,r5,r6,r7,r8⟩:=hK.box.head.four
 obtain ⟨b0,b1,b2,b3,b4,b5,b6,b7,b8⟩:=hK.box.tail.head.four
 obtain ⟨a0,a1,a2,a3,a4,a5,a6,a7,a8⟩:=hK.box.tail.tail.head.four
 go_wp2_with fail
 refine (HS.out _).mono ?_
 rintro e w2 ⟨rfl,hb2⟩
 have hK2:=hK.keep hb2
 clear r0 r1 r2 r3 r4 r5 r6 r7 r8 b0 b1 b2 b3 b4 b5 b6 b7 b8 a0 a1 a2 a3 a4 a5 a6 a7 a8
 obtain ⟨r0,r1,r2,r3,r4,r5,r6,r7,r8⟩:=hK2.box.head.four
 obtain ⟨b0,b1,b2,b3,b4,b5,b6,b7,b8⟩:=hK2.box.tail.head.four
 obtain ⟨a0,a1,a2,a3,a4,a5,a6,a7,a8⟩:=hK2.box.tail.tail.head.four
 go_wp2_with fail
 refine (HB.out _).mono ?_
 rintro e w3 ⟨rfl,hb3⟩
 have hK3:=(hK2.add2 _ _ _).keep hb3
 clear r0 r1 r2 r3 r4 r5 r6 r7 r8 b0 b1 b2 b3 b4 b5 b6 b7 b8 a0 a1 a2 a3 a4 a5 a6 a7 a8
 obtain ⟨s0,s1,s2,s3,s4⟩:=hK3.box.head.two
 obtain ⟨r0,r1,r2,r3,r4,r5,r6,r7,r8⟩:=hK3.box.tail.head.four
 obtain ⟨b0,b1,b2,b3,b4,b5,b6,b7,b8⟩:=hK3.box.tail.tail.head.four
 obtain ⟨a0,a1,a2,a3,a4,a5,a6,a7,a8⟩:=hK3.box.tail.tail.tail.head.four
 go_wp2_with fail
 exact bodyPost_ret (v:=Vl sv sm lo hi) (by simp [results,Tryz.results181,go_sem,r0,r1,r2,r3]) rfl ⟨rfl,(hK3.set4 1 rfl).bel⟩
set_option maxRecDepth 100000 in
set_option maxHeartbeats 1000000 in
theorem yada {v m l h v' m' l' h':BitVec 64} (hr:Hid (eqb (band v m) zero=true)) (ha:Hid (eqb l' h'=true)) (w:World) :
  Calls Tryz.prog 181 #[N 9,Vl v m l h,Vl v' m' l' h'] w fun e w'=>e=.returned (Vl (bshr v (six l')) (bshr m (six l')) (bshr l (six l')) (bshr h (six l')))∧Below w.heap.size w w':=by
 have h6:=zvy l'
 have h7:=zna l'
 have HS:Hid (∀ w,Calls Tryz.prog 200 #[N 9,Bt v m,N (six l')] w fun e w'=>e=.returned (.tuple #[Bt (bshr v (six l')) (bshr m (six l')),N 0])∧Below w.heap.size w w'):=fun w=>yadt hr h7 w
 have HB:Hid (∀ w,Calls Tryz.prog 201 #[N 9,Vl v m l h,U (band l' 63#64)] w fun e w'=>e=.returned (.tuple #[U (bshr l (six l')),U (bshr h (six l'))])∧Below w.heap.size w w'):=fun w=>znm v m l h l' w
 generalize bshr l (six l')=lo at HB ⊢
 generalize bshr h (six l')=hi at HB ⊢
 generalize bshr v (six l')=sv at HS ⊢
 generalize bshr m (six l')=sm at HS ⊢
 go_enter Tryz.func181,Tryz.ntmps181
 go_wp2_with fail
 refine (zd6 ha.out _).mono ?_
 rintro e w1 ⟨rfl,hb1⟩
 have hK:=((((Kp.start w).add4 _ _ _ _ _).add4 _ _ _ _ _).add4 _ _ _ _ _).keep hb1
 simp only [World.size_alloc] at hK
 obtain ⟨r0,r1,r2,r3,r4,r5,r6,r7,r8⟩:=hK.box.head.four
 obtain ⟨b0,b1,b2,b3,b4,b5,b6,b7,b8⟩:=hK.box.tail.head.four
 obtain ⟨a0,a1,a2,a3,a4,a5,a6,a7,a8⟩:=hK.box.tail.tail.head.four
 go_wp2_with fail
 refine (HS.out _).mono ?_
 rintro e w2 ⟨rfl,hb2⟩
 have hK2:=hK.keep hb2
 clear r0 r1 r2 r3 r4 r5 r6 r7 r8 b0 b1 b2 b3 b4 b5 b6 b7 b8 a0 a1 a2 a3 a4 a5 a6 a7 a8
 obtain ⟨r0,r1,r2,r3,r4,r5,r6,r7,r8⟩:=hK2.box.head.four
 obtain ⟨b0,b1,b2,b3,b4,b5,b6,b7,b8⟩:=hK2.box.tail.head.four
 obtain ⟨a0,a1,a2,a3,a4,a5,a6,a7,a8⟩:=hK2.box.tail.tail.head.four
 go_wp2_with fail
 refine (HB.out _).mono ?_
 rintro e w3 ⟨rfl,hb3⟩
 have hK3:=(hK2.add2 _ _ _).keep hb3
 clear r0 r1 r2 r3 r4 r5 r6 r7 r8 b0 b1 b2 b3 b4 b5 b6 b7 b8 a0 a1 a2 a3 a4 a5 a6 a7 a8
 obtain ⟨s0,s1,s2,s3,s4⟩:=hK3.box.head.two
 obtain ⟨r0,r1,r2,r3,r4,r5,r6,r7,r8⟩:=hK3.box.tail.head.four
 obtain ⟨b0,b1,b2,b3,b4,b5,b6,b7,b8⟩:=hK3.box.tail.tail.head.four
 obtain ⟨a0,a1,a2,a3,a4,a5,a6,a7,a8⟩:=hK3.box.tail.tail.tail.head.four
 go_wp2_with fail
 exact bodyPost_ret (v:=Vl sv sm lo hi) (by simp [results,Tryz.results181,go_sem,r0,r1,r2,r3]) rfl ⟨rfl,(hK3.set4 1 rfl).bel⟩
end
section
attribute [local go_sem] zdb w_or zdd za3 zb4 zbd zc9 zc4 zda zbw zby zcz zb0 zdc zcn zc0 zb1 zbx zb2 zbz za1
def rk (op:Int) (v m l h v' m' l' h':BitVec 64):BitVec 64×BitVec 64×BitVec 64×BitVec 64 :=
 if op=8 then (if eqb l' h' then (bshl v (six l'),bshl m (six l'),(shlB l h (six l')).1,(shlB l h (six l')).2) else (zero,top,zero,top))
 else if op=9 then (if eqb l' h' then (bshr v (six l'),bshr m (six l'),bshr l (six l'),bshr h (six l')) else (zero,top,zero,h))
 else ((twoP op v m v' m').1,(twoP op v m v' m').2,(zce op l h l' h').1,(zce op l h l' h').2)
theorem yan6 {op:Int} (hop:op=8∨op=9) {v m l h:BitVec 64} (v' m' l' h':BitVec 64) (hr:Hid (eqb (band v m) zero=true)) (w:World) :
  Calls Tryz.prog 181 #[N op,Vl v m l h,Vl v' m' l' h'] w fun e w'=>e=.returned (Vl (rk op v m l h v' m' l' h').1 (rk op v m l h v' m' l' h').2.1 (rk op v m l h v' m' l' h').2.2.1 (rk op v m l h v' m' l' h').2.2.2)∧Below w.heap.size w w':=by
 rcases hop with rfl | rfl
 ·cases ha:eqb l' h'
  ·have e:rk 8 v m l h v' m' l' h'=(zero,top,zero,top):=by unfold rk;rw [if_pos rfl,ha];rfl
   rw [e];exact zzg ha w
  ·have e:rk 8 v m l h v' m' l' h'=(bshl v (six l'),bshl m (six l'),(shlB l h (six l')).1,(shlB l h (six l')).2):=by unfold rk;rw [if_pos rfl,ha];rfl
   rw [e];exact yafo hr ha w
 ·cases ha:eqb l' h'
  ·have e:rk 9 v m l h v' m' l' h'=(zero,top,zero,h):=by unfold rk;rw [if_neg (by decide),if_pos rfl,ha];rfl
   rw [e];exact zya ha w
  ·have e:rk 9 v m l h v' m' l' h'=(bshr v (six l'),bshr m (six l'),bshr l (six l'),bshr h (six l')):=by unfold rk;rw [if_neg (by decide),if_pos rfl,ha];rfl
   rw [e];exact yada hr ha w
set_option maxRecDepth 100000 in
set_option maxHeartbeats 1000000 in
theorem zkx {op:Int} (hop:op=8∨op=9) {v m l g:BitVec 64} (v' m' l' g':BitVec 64) (hr:Hid (eqb (band v m) zero=true)) (w:World) :
  Calls Tryz.prog 155 #[N op,Vl v m l g,Vl v' m' l' g'] w fun e w'=>e=.returned (.tuple #[Vl (rk op v m l g v' m' l' g').1 (rk op v m l g v' m' l' g').2.1 (rk op v m l g v' m' l' g').2.2.1 (rk op v m l g v' m' l' g').2.2.2,N 0])∧Below w.heap.size w w':=by
 have HS:Hid (∀ w,Calls Tryz.prog 181 #[N op,Vl v m l g,Vl v' m' l' g'] w fun e w'=>e=.returned (Vl (rk op v m l g v' m' l' g').1 (rk op v m l g v' m' l' g').2.1 (rk op v m l g v' m' l' g').2.2.1 (rk op v m l g v' m' l' g').2.2.2)∧Below w.heap.size w w'):=fun w=>yan6 hop v' m' l' g' hr w
 generalize rk op v m l g v' m' l' g'=S at HS ⊢
 obtain ⟨sa,sb,sc,sd⟩:=S
 rcases hop with rfl | rfl
 all_goals
  go_enter Tryz.func155,Tryz.ntmps155
  go_wp2_with fail
  refine (HS.out _).mono ?_
  rintro e w1 ⟨rfl,hb1⟩
  have hK:=((((Kp.start w).add4 _ _ _ _ _).add4 _ _ _ _ _).add4 _ _ _ _ _).keep hb1
  simp only [World.size_alloc] at hK
  obtain ⟨r0,r1,r2,r3,r4,r5,r6,r7,r8⟩:=hK.box.head.four
  obtain ⟨b0,b1,b2,b3,b4,b5,b6,b7,b8⟩:=hK.box.tail.head.four
  obtain ⟨a0,a1,a2,a3,a4,a5,a6,a7,a8⟩:=hK.box.tail.tail.head.four
  go_wp2_with fail
  exact bodyPost_ret (v:=.tuple #[Vl sa sb sc sd,N 0]) (by simp [results,Tryz.results155,go_sem,r0,r1,r2,r3]) rfl ⟨rfl,(hK.set4 0 rfl).bel⟩
set_option maxRecDepth 100000 in
set_option maxHeartbeats 1000000 in
theorem zqg {op:Int} (hop:Hid (2≤op∧op≤7)) {v m l g v' m' l' g':BitVec 64} (hr:Hid ((eqb (band v m) zero&&eqb (band v' m') zero)=true)) (w:World) :
  Calls Tryz.prog 155 #[N op,Vl v m l g,Vl v' m' l' g'] w fun e w'=>e=.returned (.tuple #[Vl (rk op v m l g v' m' l' g').1 (rk op v m l g v' m' l' g').2.1 (rk op v m l g v' m' l' g').2.2.1 (rk op v m l g v' m' l' g').2.2.2,N 0])∧Below w.heap.size w w':=by
 have h8:(op==8)=false:=by have:=hop.out;simp;omega
 have h9:(op==9)=false:=by have:=hop.out;simp;omega
 have Hk:Hid (rk op v m l g v' m' l' g'=((twoP op v m v' m').1,(twoP op v m v' m').2,(zce op l g l' g').1,(zce op l g l' g').2)):=by
  show _=_
  unfold rk;rw [if_neg (by have:=hop.out;omega),if_neg (by have:=hop.out;omega)]
 rw [Hk.out]
 have HT:Hid (∀ w,Calls Tryz.prog 182 #[N op,Bt v m,Bt v' m'] w fun e w'=>e=.returned (.tuple #[Bt (twoP op v m v' m').1 (twoP op v m v' m').2,N 0])∧Below w.heap.size w w'):=fun w=>two_ok hr hop.out w
 have HB:Hid (∀ w,Calls Tryz.prog 183 #[N op,Vl v m l g,Vl v' m' l' g'] w fun e w'=>e=.returned (.tuple #[U (zce op l g l' g').1,U (zce op l g l' g').2])∧Below w.heap.size w w'):=fun w=>yadi hop v m l g v' m' l' g' w
 clear Hk
 generalize twoP op v m v' m'=T at HT ⊢
 generalize zce op l g l' g'=B at HB ⊢
 obtain ⟨ta,tb⟩:=T
 obtain ⟨ba,bb⟩:=B
 go_enter Tryz.func155,Tryz.ntmps155
 go_wp2_with fail
 refine (HT.out _).mono ?_
 rintro e w1 ⟨rfl,hb1⟩
 have hK:=((((Kp.start w).add4 _ _ _ _ _).add4 _ _ _ _ _).add4 _ _ _ _ _).keep hb1
 simp only [World.size_alloc] at hK
 obtain ⟨r0,r1,r2,r3,r4,r5,r6,r7,r8⟩:=hK.box.head.four
 obtain ⟨b0,b1,b2,b3,b4,b5,b6,b7,b8⟩:=hK.box.tail.head.four
 obtain ⟨a0,a1,a2,a3,a4,a5,a6,a7,a8⟩:=hK.box.tail.tail.head.four
 go_wp2_with fail
 refine (HB.out _).mono ?_
 rintro e w2 ⟨rfl,hb2⟩
 have hK2:=(hK.add2 _ _ _).keep hb2
 clear r0 r1 r2 r3 r4 r5 r6 r7 r8 b0 b1 b2 b3 b4 b5 b6 b7 b8 a0 a1 a2 a3 a4 a5 a6 a7 a8
 obtain ⟨k0,k1,k2,k3,k4⟩:=hK2.box.head.two
 obtain ⟨r0,r1,r2,r3,r4,r5,r6,r7,r8⟩:=hK2.box.tail.head.four
 obtain ⟨b0,b1,b2,b3,b4,b5,b6,b7,b8⟩:=hK2.box.tail.tail.head.four
 obtain ⟨a0,a1,a2,a3,a4,a5,a6,a7,a8⟩:=hK2.box.tail.tail.tail.head.four
 go_wp2_with fail
 exact bodyPost_ret (v:=.tuple #[Vl ta tb ba bb,N 0]) (by simp [results,Tryz.results155,go_sem,r0,r1,r2,r3]) rfl ⟨rfl,(hK2.set4 1 rfl).bel⟩
end
section
attribute [local go_sem] zdb w_or zdd za3 zb4 zbd zc9 zc4 zda zbw zby zcz zb0 zdc zcn zc0 zb1 zbx zb2 zbz za1
set_option maxRecDepth 100000 in
set_option maxHeartbeats 1000000 in
theorem zka {v m l g v' m' l' g':BitVec 64} {r1 r2:Bool} (h1:Hid (valB v m l g=r1)) (h2:Hid (valB v' m' l' g'=r2)) {b c:Nat} {w:World} (hbw:b<w.heap.size)
  (c0:w.cell? ⟨b,0,none⟩=some (U v)) (c1:w.cell? ⟨b,1,none⟩=some (U m)) (c2:w.cell? ⟨b,2,none⟩=some (U l)) (c3:w.cell? ⟨b,3,none⟩=some (U g))
  (c4:w.cell? ⟨b,4,none⟩=some (U v')) (c5:w.cell? ⟨b,5,none⟩=some (U m')) (c6:w.cell? ⟨b,6,none⟩=some (U l')) (c7:w.cell? ⟨b,7,none⟩=some (U g')) :
  Calls Tryz.prog 154 #[.slice (some ⟨b,0,none⟩) 2 c] w fun e w'=>e=.returned (N (er (r1&&r2)))∧Below w.heap.size w w':=by
 go_enter Tryz.func154,Tryz.ntmps154
 go_wp2_with fail
 refine wp_loop_rounds 3 ?_
 rw [rounds_succ]
 go_wp2_with fail
 refine (yaa8 h1.out _).mono ?_
 rintro e w1 ⟨rfl,hb1⟩
 obtain ⟨hc1,hf1,hs1⟩:=bk (b+1) hb1 (by simp;omega)
 cases r1
 ·rw [er_f]
  go_wp2_with fail
  go_ret
  exact ⟨rfl,(by repeat (first | exact Below.refl _ _ | assumption | refine below_drewN ?_ _ | refine Below.drew ?_ | refine Below.alloc ?_ (by first | exact Nat.le_refl _ | (simp;done) | (simp;omega) | omega) _ | refine Below.setCell ?_ (by first | exact Nat.le_refl _ | (simp;done) | (simp;omega) | omega) _ | refine Below.trans ?_ (Below.mono (by assumption) (by first | exact Nat.le_refl _ | (simp;done) | (simp;omega) | omega))))⟩
 ·rw [er_t]
  go_wp2_with fail
  rw [rounds_succ]
  go_wp2_with fail
  refine (yaa8 h2.out _).mono ?_
  rintro e w2 ⟨rfl,hb2⟩
  have hz1:w.heap.size≤w1.heap.size:=Nat.le_trans (by simp) hb1.size
  cases r2
  ·rw [er_f]
   go_wp2_with fail
   go_ret
   exact ⟨rfl,(by repeat (first | exact Below.refl _ _ | assumption | refine below_drewN ?_ _ | refine Below.drew ?_ | refine Below.alloc ?_ (by first | exact Nat.le_refl _ | (simp;done) | (simp;omega) | omega) _ | refine Below.setCell ?_ (by first | exact Nat.le_refl _ | (simp;done) | (simp;omega) | omega) _ | refine Below.trans ?_ (Below.mono (by assumption) (by first | exact Nat.le_refl _ | (simp;done) | (simp;omega) | omega))))⟩
  ·rw [er_t]
   go_wp2_with fail
   rw [rounds_succ]
   go_wp2_with fail
   go_ret
   exact ⟨rfl,(by repeat (first | exact Below.refl _ _ | assumption | refine below_drewN ?_ _ | refine Below.drew ?_ | refine Below.alloc ?_ (by first | exact Nat.le_refl _ | (simp;done) | (simp;omega) | omega) _ | refine Below.setCell ?_ (by first | exact Nat.le_refl _ | (simp;done) | (simp;omega) | omega) _ | refine Below.trans ?_ (Below.mono (by assumption) (by first | exact Nat.le_refl _ | (simp;done) | (simp;omega) | omega))))⟩
theorem znp {v m l g v' m' l' g':BitVec 64} (hr:(valB v m l g&&valB v' m' l' g')=true):(eqb (band v m) zero&&eqb (band v' m') zero)=true:=by
 rw [Bool.and_eq_true] at hr
 rw [(zea _ _).2 (zbf hr.1).1,(zea _ _).2 (zbf hr.2).1];rfl
set_option maxRecDepth 100000 in
set_option maxHeartbeats 1000000 in
theorem zs6 {op:Int}  {v m l g v' m' l' g':BitVec 64} (hr:Hid ((valB v m l g&&valB v' m' l' g')=true)) (hop:Hid (2≤op∧op≤9)) (hrr:Hid (eqb (band (rk op v m l g v' m' l' g').1 (rk op v m l g v' m' l' g').2.1) zero=true)) (ho:Hid (zc7 (rk op v m l g v' m' l' g').1 (rk op v m l g v' m' l' g').2.1 (rk op v m l g v' m' l' g').2.2.1 (rk op v m l g v' m' l' g').2.2.2=false)) (w:World) :
  Calls Tryz.prog 108 #[N op,Vl v m l g,Vl v' m' l' g'] w fun e w'=>e=.returned (.tuple #[V0,N 0])∧Below w.heap.size w w':=by
 obtain ⟨z1,H1⟩:∃ b,Hid (valB v m l g=b):=⟨_,rfl⟩
 obtain ⟨z2,H2⟩:∃ b,Hid (valB v' m' l' g'=b):=⟨_,rfl⟩
 have hb:=znp hr.out
 have hb':=hb
 rw [Bool.and_eq_true] at hb'
 have HR:Hid (∀ w,Calls Tryz.prog 155 #[N op,Vl v m l g,Vl v' m' l' g'] w fun e w'=>e=.returned (.tuple #[Vl (rk op v m l g v' m' l' g').1 (rk op v m l g v' m' l' g').2.1 (rk op v m l g v' m' l' g').2.2.1 (rk op v m l g v' m' l' g').2.2.2,N 0])∧Below w.heap.size w w'):=fun w=>by
  by_cases h:op=8∨op=9
  ·exact zkx h v' m' l' g' hb'.1 w
  ·exact zqg (hid (by have:=hop.out;omega)) hb w
 clear hb hb' hop
 generalize rk op v m l g v' m' l' g'=S at HR hrr ho ⊢
 obtain ⟨sa,sb,sc,sd⟩:=S
 dsimp only at HR hrr ho ⊢
 have HN:Hid (∀ w,Calls Tryz.prog 156 #[Vl sa sb sc sd] w fun e w'=>e=.returned (.tuple #[V0,.bool false,N 0])∧Below w.heap.size w w'):=fun w=>zte hrr ho w
 rw [H1.out,H2.out] at hr
 go_enter Tryz.func108,Tryz.ntmps108
 go_wp2_with fail
 refine (zka H1 H2 (by simp) (by simp [go_sem]) (by simp [go_sem]) (by simp [go_sem]) (by simp [go_sem]) (by simp [go_sem]) (by simp [go_sem]) (by simp [go_sem]) (by simp [go_sem])).mono ?_
 rw [hr.out,er_t]
 rintro e w1 ⟨rfl,hb1⟩
 have hK:=(((((Kp.start w).add4 _ _ _ _ _).add4 _ _ _ _ _).add4 _ _ _ _ _).keep ((Below.refl _ _).alloc (Nat.le_refl _) _)).keep hb1
 simp only [World.size_alloc] at hK
 obtain ⟨r0,r1,r2,r3,r4,r5,r6,r7,r8⟩:=hK.box.head.four
 obtain ⟨b0,b1,b2,b3,b4,b5,b6,b7,b8⟩:=hK.box.tail.head.four
 obtain ⟨a0,a1,a2,a3,a4,a5,a6,a7,a8⟩:=hK.box.tail.tail.head.four
 go_wp2_with fail
 refine (HR.out _).mono ?_
 rintro e w2 ⟨rfl,hb2⟩
 have hK2:=hK.keep hb2
 clear r0 r1 r2 r3 r4 r5 r6 r7 r8 b0 b1 b2 b3 b4 b5 b6 b7 b8 a0 a1 a2 a3 a4 a5 a6 a7 a8
 obtain ⟨r0,r1,r2,r3,r4,r5,r6,r7,r8⟩:=hK2.box.head.four
 obtain ⟨b0,b1,b2,b3,b4,b5,b6,b7,b8⟩:=hK2.box.tail.head.four
 obtain ⟨a0,a1,a2,a3,a4,a5,a6,a7,a8⟩:=hK2.box.tail.tail.head.four
 go_wp2_with fail
 refine (HN.out _).mono ?_
 rintro e w3 ⟨rfl,hb3⟩
 have hK3:=(hK2.add4 _ _ _ _ _).keep hb3
 clear r0 r1 r2 r3 r4 r5 r6 r7 r8 b0 b1 b2 b3 b4 b5 b6 b7 b8 a0 a1 a2 a3 a4 a5 a6 a7 a8
 obtain ⟨k0,k1,k2,k3,k4,k5,k6,k7,k8⟩:=hK3.box.head.four
 obtain ⟨r0,r1,r2,r3,r4,r5,r6,r7,r8⟩:=hK3.box.tail.head.four
 obtain ⟨b0,b1,b2,b3,b4,b5,b6,b7,b8⟩:=hK3.box.tail.tail.head.four
 obtain ⟨a0,a1,a2,a3,a4,a5,a6,a7,a8⟩:=hK3.box.tail.tail.tail.head.four
 go_wp2_with fail
 exact bodyPost_ret (v:=.tuple #[V0,N 0]) (by simp [results,Tryz.results108,go_sem,za4,r0,r1,r2,r3,r8]) rfl ⟨rfl,((hK3.set4 1 rfl).add4 _ _ _ _ _).bel⟩
set_option maxRecDepth 100000 in
set_option maxHeartbeats 1000000 in
theorem zw7 {op:Int}  {v m l g v' m' l' g':BitVec 64} (hr:Hid ((valB v m l g&&valB v' m' l' g')=true)) (hop:Hid (2≤op∧op≤9)) (hrr:Hid (eqb (band (rk op v m l g v' m' l' g').1 (rk op v m l g v' m' l' g').2.1) zero=true)) (ho:Hid (zc7 (rk op v m l g v' m' l' g').1 (rk op v m l g v' m' l' g').2.1 (rk op v m l g v' m' l' g').2.2.1 (rk op v m l g v' m' l' g').2.2.2=true)) (w:World) :
  Calls Tryz.prog 108 #[N op,Vl v m l g,Vl v' m' l' g'] w fun e w'=>e=.returned (.tuple #[Vl (nV (rk op v m l g v' m' l' g').1 (rk op v m l g v' m' l' g').2.1 (rk op v m l g v' m' l' g').2.2.1 (rk op v m l g v' m' l' g').2.2.2) (nM (rk op v m l g v' m' l' g').2.1 (nLo (rk op v m l g v' m' l' g').1 (rk op v m l g v' m' l' g').2.1 (rk op v m l g v' m' l' g').2.2.1) (nHi (rk op v m l g v' m' l' g').1 (rk op v m l g v' m' l' g').2.1 (rk op v m l g v' m' l' g').2.2.2)) (nLo (rk op v m l g v' m' l' g').1 (rk op v m l g v' m' l' g').2.1 (rk op v m l g v' m' l' g').2.2.1) (nHi (rk op v m l g v' m' l' g').1 (rk op v m l g v' m' l' g').2.1 (rk op v m l g v' m' l' g').2.2.2),N 0])∧Below w.heap.size w w':=by
 obtain ⟨z1,H1⟩:∃ b,Hid (valB v m l g=b):=⟨_,rfl⟩
 obtain ⟨z2,H2⟩:∃ b,Hid (valB v' m' l' g'=b):=⟨_,rfl⟩
 have hb:=znp hr.out
 have hb':=hb
 rw [Bool.and_eq_true] at hb'
 have HR:Hid (∀ w,Calls Tryz.prog 155 #[N op,Vl v m l g,Vl v' m' l' g'] w fun e w'=>e=.returned (.tuple #[Vl (rk op v m l g v' m' l' g').1 (rk op v m l g v' m' l' g').2.1 (rk op v m l g v' m' l' g').2.2.1 (rk op v m l g v' m' l' g').2.2.2,N 0])∧Below w.heap.size w w'):=fun w=>by
  by_cases h:op=8∨op=9
  ·exact zkx h v' m' l' g' hb'.1 w
  ·exact zqg (hid (by have:=hop.out;omega)) hb w
 clear hb hb' hop
 generalize rk op v m l g v' m' l' g'=S at HR hrr ho ⊢
 obtain ⟨sa,sb,sc,sd⟩:=S
 dsimp only at HR hrr ho ⊢
 have HN:Hid (∀ w,Calls Tryz.prog 156 #[Vl sa sb sc sd] w fun e w'=>e=.returned (.tuple #[Vl (nV sa sb sc sd) (nM sb (nLo sa sb sc) (nHi sa sb sd)) (nLo sa sb sc) (nHi sa sb sd),.bool true,N 0])∧Below w.heap.size w w'):=fun w=>zsv hrr ho w
 generalize nV sa sb sc sd=na at HN ⊢
 generalize nM sb (nLo sa sb sc) (nHi sa sb sd)=nb at HN ⊢
 generalize nLo sa sb sc=nc at HN ⊢
 generalize nHi sa sb sd=nd at HN ⊢
 rw [H1.out,H2.out] at hr
 go_enter Tryz.func108,Tryz.ntmps108
 go_wp2_with fail
 refine (zka H1 H2 (by simp) (by simp [go_sem]) (by simp [go_sem]) (by simp [go_sem]) (by simp [go_sem]) (by simp [go_sem]) (by simp [go_sem]) (by simp [go_sem]) (by simp [go_sem])).mono ?_
 rw [hr.out,er_t]
 rintro e w1 ⟨rfl,hb1⟩
 have hK:=(((((Kp.start w).add4 _ _ _ _ _).add4 _ _ _ _ _).add4 _ _ _ _ _).keep ((Below.refl _ _).alloc (Nat.le_refl _) _)).keep hb1
 simp only [World.size_alloc] at hK
 obtain ⟨r0,r1,r2,r3,r4,r5,r6,r7,r8⟩:=hK.box.head.four
 obtain ⟨b0,b1,b2,b3,b4,b5,b6,b7,b8⟩:=hK.box.tail.head.four
 obtain ⟨a0,a1,a2,a3,a4,a5,a6,a7,a8⟩:=hK.box.tail.tail.head.four
 go_wp2_with fail
 refine (HR.out _).mono ?_
 rintro e w2 ⟨rfl,hb2⟩
 have hK2:=hK.keep hb2
 clear r0 r1 r2 r3 r4 r5 r6 r7 r8 b0 b1 b2 b3 b4 b5 b6 b7 b8 a0 a1 a2 a3 a4 a5 a6 a7 a8
 obtain ⟨r0,r1,r2,r3,r4,r5,r6,r7,r8⟩:=hK2.box.head.four
 obtain ⟨b0,b1,b2,b3,b4,b5,b6,b7,b8⟩:=hK2.box.tail.head.four
 obtain ⟨a0,a1,a2,a3,a4,a5,a6,a7,a8⟩:=hK2.box.tail.tail.head.four
 go_wp2_with fail
 refine (HN.out _).mono ?_
 rintro e w3 ⟨rfl,hb3⟩
 have hK3:=(hK2.add4 _ _ _ _ _).keep hb3
 clear r0 r1 r2 r3 r4 r5 r6 r7 r8 b0 b1 b2 b3 b4 b5 b6 b7 b8 a0 a1 a2 a3 a4 a5 a6 a7 a8
 obtain ⟨k0,k1,k2,k3,k4,k5,k6,k7,k8⟩:=hK3.box.head.four
 obtain ⟨r0,r1,r2,r3,r4,r5,r6,r7,r8⟩:=hK3.box.tail.head.four
 obtain ⟨b0,b1,b2,b3,b4,b5,b6,b7,b8⟩:=hK3.box.tail.tail.head.four
 obtain ⟨a0,a1,a2,a3,a4,a5,a6,a7,a8⟩:=hK3.box.tail.tail.tail.head.four
 go_wp2_with fail
 exact bodyPost_ret (v:=.tuple #[Vl na nb nc nd,N 0]) (by simp [results,Tryz.results108,go_sem,r0,r1,r2,r3,r8]) rfl ⟨rfl,((hK3.set4 1 rfl).add4 _ _ _ _ _).bel⟩
end
section
attribute [local go_sem] zdb w_or zdd za3 zb4 zbd zc9 zc4 zda zbw zby zcz zb0 zdc zcn zc0 zb1 zbx zb2 zbz za1
set_option maxRecDepth 100000 in
set_option maxHeartbeats 1000000 in
theorem zmm (v m l g lo hi:BitVec 64) (w:World) :
  Calls Tryz.prog 152 #[Vl v m l g,U lo,U hi] w fun e w'=>e=.returned (Vl v m (bmax l lo) (bmin g hi))∧Below w.heap.size w w':=by
 by_cases h1:nv l<nv lo <;> by_cases h2:nv hi<nv g
 ·have e1:Hid (bmax l lo=lo):=if_pos h1
  have e2:Hid (bmin g hi=hi):=if_pos h2
  rw [e1.out,e2.out]
  go_enter Tryz.func152,Tryz.ntmps152
  go_wp2_with fail
  exact bodyPost_ret (v:=Vl v m lo hi) (by simp [results,Tryz.results152,go_sem]) rfl ⟨rfl,(by repeat (first | exact Below.refl _ _ | assumption | refine below_drewN ?_ _ | refine Below.drew ?_ | refine Below.alloc ?_ (by first | exact Nat.le_refl _ | (simp;done) | (simp;omega) | omega) _ | refine Below.setCell ?_ (by first | exact Nat.le_refl _ | (simp;done) | (simp;omega) | omega) _ | refine Below.trans ?_ (Below.mono (by assumption) (by first | exact Nat.le_refl _ | (simp;done) | (simp;omega) | omega))))⟩
 ·have e1:Hid (bmax l lo=lo):=if_pos h1
  have e2:Hid (bmin g hi=g):=if_neg h2
  have h2':nv g≤nv hi:=by omega
  clear h2
  rw [e1.out,e2.out]
  go_enter Tryz.func152,Tryz.ntmps152
  go_wp2_with fail
  exact bodyPost_ret (v:=Vl v m lo g) (by simp [results,Tryz.results152,go_sem]) rfl ⟨rfl,(by repeat (first | exact Below.refl _ _ | assumption | refine below_drewN ?_ _ | refine Below.drew ?_ | refine Below.alloc ?_ (by first | exact Nat.le_refl _ | (simp;done) | (simp;omega) | omega) _ | refine Below.setCell ?_ (by first | exact Nat.le_refl _ | (simp;done) | (simp;omega) | omega) _ | refine Below.trans ?_ (Below.mono (by assumption) (by first | exact Nat.le_refl _ | (simp;done) | (simp;omega) | omega))))⟩
 ·have e1:Hid (bmax l lo=l):=if_neg h1
  have e2:Hid (bmin g hi=hi):=if_pos h2
  have h1':nv lo≤nv l:=by omega
  clear h1
  rw [e1.out,e2.out]
  go_enter Tryz.func152,Tryz.ntmps152
  go_wp2_with fail
  exact bodyPost_ret (v:=Vl v m l hi) (by simp [results,Tryz.results152,go_sem]) rfl ⟨rfl,(by repeat (first | exact Below.refl _ _ | assumption | refine below_drewN ?_ _ | refine Below.drew ?_ | refine Below.alloc ?_ (by first | exact Nat.le_refl _ | (simp;done) | (simp;omega) | omega) _ | refine Below.setCell ?_ (by first | exact Nat.le_refl _ | (simp;done) | (simp;omega) | omega) _ | refine Below.trans ?_ (Below.mono (by assumption) (by first | exact Nat.le_refl _ | (simp;done) | (simp;omega) | omega))))⟩
 ·have e1:Hid (bmax l lo=l):=if_neg h1
  have e2:Hid (bmin g hi=g):=if_neg h2
  have h1':nv lo≤nv l:=by omega
  have h2':nv g≤nv hi:=by omega
  clear h1 h2
  rw [e1.out,e2.out]
  go_enter Tryz.func152,Tryz.ntmps152
  go_wp2_with fail
  exact bodyPost_ret (v:=Vl v m l g) (by simp [results,Tryz.results152,go_sem]) rfl ⟨rfl,(by repeat (first | exact Below.refl _ _ | assumption | refine below_drewN ?_ _ | refine Below.drew ?_ | refine Below.alloc ?_ (by first | exact Nat.le_refl _ | (simp;done) | (simp;omega) | omega) _ | refine Below.setCell ?_ (by first | exact Nat.le_refl _ | (simp;done) | (simp;omega) | omega) _ | refine Below.trans ?_ (Below.mono (by assumption) (by first | exact Nat.le_refl _ | (simp;done) | (simp;omega) | omega))))⟩
def woL (l l' h':BitVec 64):BitVec 64:=if eqb l' h'&&eqb l l' then badd l one else l
def woH (l h l' h':BitVec 64):BitVec 64:=if eqb l' h'&&(!eqb l l'&&eqb h l') then bsub h one else h
set_option maxRecDepth 100000 in
set_option maxHeartbeats 1000000 in
theorem yafy (v m l g v' m' l' g':BitVec 64) (w:World) :
  Calls Tryz.prog 148 #[Vl v m l g,Vl v' m' l' g'] w fun e w'=>e=.returned (Vl v m (woL l l' g') (woH l g l' g'))∧Below w.heap.size w w':=by
 have H1:Hid (woL l l' g'=if eqb l' g'&&eqb l l' then badd l one else l):=rfl
 have H2:Hid (woH l g l' g'=if eqb l' g'&&(!eqb l l'&&eqb g l') then bsub g one else g):=rfl
 obtain ⟨z1,ha⟩:∃ b,Hid (eqb l' g'=b):=⟨_,rfl⟩
 obtain ⟨z2,hb⟩:∃ b,eqb l l'=b:=⟨_,rfl⟩
 obtain ⟨z3,hc⟩:∃ b,eqb g l'=b:=⟨_,rfl⟩
 rw [ha.out,hb] at H1
 rw [ha.out,hb,hc] at H2
 cases z1
 ·rw [H1.out,H2.out]
  go_enter Tryz.func148,Tryz.ntmps148
  go_wp2_with fail
  refine (zd6 ha.out _).mono ?_
  rintro e w1 ⟨rfl,hb1⟩
  have hK:=((((Kp.start w).add4 _ _ _ _ _).add4 _ _ _ _ _).add4 _ _ _ _ _).keep hb1
  simp only [World.size_alloc] at hK
  obtain ⟨r0,r1,r2,r3,r4,r5,r6,r7,r8⟩:=hK.box.head.four
  obtain ⟨b0,b1,b2,b3,b4,b5,b6,b7,b8⟩:=hK.box.tail.head.four
  obtain ⟨a0,a1,a2,a3,a4,a5,a6,a7,a8⟩:=hK.box.tail.tail.head.four
  go_wp2_with fail
  exact bodyPost_ret (v:=Vl v m l g) (by simp [results,Tryz.results148,go_sem,r0,r1,r2,r3]) rfl ⟨rfl,(hK.set4 0 rfl).bel⟩
 ·cases z2
  ·cases z3
   ·rw [H1.out,H2.out]
    go_enter Tryz.func148,Tryz.ntmps148
    go_wp2_with fail
    refine (zd6 ha.out _).mono ?_
    rintro e w1 ⟨rfl,hb1⟩
    have hK:=((((Kp.start w).add4 _ _ _ _ _).add4 _ _ _ _ _).add4 _ _ _ _ _).keep hb1
    simp only [World.size_alloc] at hK
    obtain ⟨r0,r1,r2,r3,r4,r5,r6,r7,r8⟩:=hK.box.head.four
    obtain ⟨b0,b1,b2,b3,b4,b5,b6,b7,b8⟩:=hK.box.tail.head.four
    obtain ⟨a0,a1,a2,a3,a4,a5,a6,a7,a8⟩:=hK.box.tail.tail.head.four
    go_wp2_with fail
    exact bodyPost_ret (v:=Vl v m l g) (by simp [results,Tryz.results148,go_sem,r0,r1,r2,r3]) rfl ⟨rfl,(hK.set4 0 rfl).bel⟩
   ·rw [H1.out,H2.out]
    go_enter Tryz.func148,Tryz.ntmps148
    go_wp2_with fail
    refine (zd6 ha.out _).mono ?_
    rintro e w1 ⟨rfl,hb1⟩
    have hK:=((((Kp.start w).add4 _ _ _ _ _).add4 _ _ _ _ _).add4 _ _ _ _ _).keep hb1
    simp only [World.size_alloc] at hK
    obtain ⟨r0,r1,r2,r3,r4,r5,r6,r7,r8⟩:=hK.box.head.four
    obtain ⟨b0,b1,b2,b3,b4,b5,b6,b7,b8⟩:=hK.box.tail.head.four
    obtain ⟨a0,a1,a2,a3,a4,a5,a6,a7,a8⟩:=hK.box.tail.tail.head.four
    go_wp2_with fail
    refine bodyPost_ret (v:=Vl v m l (bsub g one)) (by simp [results,Tryz.results148,go_sem,r0,r1,r2,r3]) rfl ⟨rfl,?_⟩
    exact ((((hK.bel.setCell (by dsimp only;omega) _).setCell (by dsimp only;omega) _).setCell (by dsimp only;omega) _).setCell (by dsimp only;omega) _).setCell (by dsimp only;omega) _
  ·rw [H1.out,H2.out]
   go_enter Tryz.func148,Tryz.ntmps148
   go_wp2_with fail
   refine (zd6 ha.out _).mono ?_
   rintro e w1 ⟨rfl,hb1⟩
   have hK:=((((Kp.start w).add4 _ _ _ _ _).add4 _ _ _ _ _).add4 _ _ _ _ _).keep hb1
   simp only [World.size_alloc] at hK
   obtain ⟨r0,r1,r2,r3,r4,r5,r6,r7,r8⟩:=hK.box.head.four
   obtain ⟨b0,b1,b2,b3,b4,b5,b6,b7,b8⟩:=hK.box.tail.head.four
   obtain ⟨a0,a1,a2,a3,a4,a5,a6,a7,a8⟩:=hK.box.tail.tail.head.four
   go_wp2_with fail
   refine bodyPost_ret (v:=Vl v m (badd l one) g) (by simp [results,Tryz.results148,go_sem,r0,r1,r2,r3]) rfl ⟨rfl,?_⟩
   exact ((((hK.bel.setCell (by dsimp only;omega) _).setCell (by dsimp only;omega) _).setCell (by dsimp only;omega) _).setCell (by dsimp only;omega) _).setCell (by dsimp only;omega) _
end
end Go.Proofs.YtkigmocchaikgabGreatDoor
namespace Go.Proofs.YtkigmocchaikgabGreatDoor
theorem znf {v m l h x:BitVec 64} (hx:hasV v m l h x=true):valB v m l h=true∧RtB v m∧hasB v m x=true∧nv l≤nv x∧nv x≤nv h:=by
 unfold hasV at hx
 simp only [Bool.and_eq_true,decide_eq_true_eq] at hx
 exact ⟨hx.1,(zbf hx.1).1,hx.2.1,hx.2.2.1,hx.2.2.2⟩
theorem zty {v m l h x:BitVec 64} (h1:hasB v m x=true) (h2:nv l≤nv x) (h3:nv x≤nv h):rawV v m l h x=true:=by
 unfold rawV;rw [h1];simp only [Bool.true_and,Bool.and_eq_true,decide_eq_true_eq];exact ⟨h2,h3⟩
theorem zr3 (x:BitVec 64):RtB zero top∧hasB zero top x=true:=by
 have hr:RtB zero top:=zoj top
 refine ⟨hr,(za0 _ _ _).2 ⟨hr,fun j hj=>?_⟩⟩
 rw [zqn _ hj,zbb];cases bit x j <;> rfl
theorem yacq {op:Int} (hop:2≤op∧op≤9) {v m l h v' m' l' h' x y:BitVec 64} (hx:hasV v m l h x=true) (hy:hasV v' m' l' h' y=true) :
  RtB (rk op v m l h v' m' l' h').1 (rk op v m l h v' m' l' h').2.1∧rawV (rk op v m l h v' m' l' h').1 (rk op v m l h v' m' l' h').2.1 (rk op v m l h v' m' l' h').2.2.1 (rk op v m l h v' m' l' h').2.2.2 (numN op x y)=true:=by
 obtain ⟨_,r1,b1,p1,p2⟩:=znf hx
 obtain ⟨_,r2,b2,q1,q2⟩:=znf hy
 by_cases h8:op=8
 ·subst h8
  have hn:numN 8 x y=bshl x (six y):=by unfold numN;rw [if_neg (by decide),if_neg (by decide),if_pos rfl]
  rw [hn]
  cases ha:eqb l' h'
  ·have e:rk 8 v m l h v' m' l' h'=(zero,top,zero,top):=by unfold rk;rw [if_pos rfl,ha];rfl
   rw [e]
   exact ⟨(zr3 zero).1,zty (zr3 _).2 (ends _).1 (ends _).2⟩
  ·have e:rk 8 v m l h v' m' l' h'=(bshl v (six l'),bshl m (six l'),(shlB l h (six l')).1,(shlB l h (six l')).2):=by unfold rk;rw [if_pos rfl,ha];rfl
   have hl:y=l':=by
    have:=(zdm _ _).1 ha
    rw [← this] at q2
    exact zk8 _ _ (by omega)
   rw [e,hl]
   exact ⟨yaj8 r1 _,zty (yai0 b1 _) (zph _ p1 p2).1 (zph _ p1 p2).2⟩
 ·by_cases h9:op=9
  ·subst h9
   have hn:numN 9 x y=bshr x (six y):=by unfold numN;rw [if_neg (by decide),if_neg (by decide),if_neg (by decide)]
   rw [hn]
   cases ha:eqb l' h'
   ·have e:rk 9 v m l h v' m' l' h'=(zero,top,zero,h):=by unfold rk;rw [if_neg (by decide),if_pos rfl,ha];rfl
    rw [e]
    exact ⟨(zr3 zero).1,zty (zr3 _).2 (ends _).1 (Int.le_trans (yazs _ _) p2)⟩
   ·have e:rk 9 v m l h v' m' l' h'=(bshr v (six l'),bshr m (six l'),bshr l (six l'),bshr h (six l')):=by unfold rk;rw [if_neg (by decide),if_pos rfl,ha];rfl
    have hl:y=l':=by
     have:=(zdm _ _).1 ha
     rw [← this] at q2
     exact zk8 _ _ (by omega)
    rw [e,hl]
    have hs:=yag6 b1 (six l')
    exact ⟨((za0 _ _ _).1 hs).1,zty hs (zqb _ p1 p2).1 (zqb _ p1 p2).2⟩
  ·have h27:2≤op∧op≤7:=by omega
   have hn:numN op x y=numB op x y:=by unfold numN;rw [if_neg (by omega),if_pos h27]
   have e:rk op v m l h v' m' l' h'=((twoP op v m v' m').1,(twoP op v m v' m').2,(zce op l h l' h').1,(zce op l h l' h').2):=by
    unfold rk;rw [if_neg h8,if_neg h9]
   rw [hn,e]
   exact ⟨yaq0 h27,zty (yaiv h27 b1 b2) (zky h27 p1 p2 q1 q2).1 (zky h27 p1 p2 q1 q2).2⟩
end Go.Proofs.YtkigmocchaikgabGreatDoor
namespace Go.Proofs.YtkigmocchaikgabGreatDoor
open Go.RowKit
section
attribute [local go_sem] zdb w_or zdd za3 zb4 zbd zc9 zc4 zda zbw zby zcz zb0 zdc zcn zc0 zb1 zbx zb2 zbz za1
abbrev PT (b:Nat):Value:=.pointer (some ⟨b,0,none⟩)
def lv (p:Bool) (a:Value):Value:=if p then a else V0
set_option maxRecDepth 100000 in
set_option maxHeartbeats 4000000 in
theorem zy8 {p1 p2:Value} {v m l g v' m' l' g' a b c d a' b' c' d' x y z t x' y' z' t':BitVec 64} {may i1 i2:Bool} {e1 e2:Int} (hr:Hid ((valB v m l g&&valB v' m' l' g')=true)) (w:World)
  (HR:Hid (∀ w',Below w.heap.size w w'→Calls Tryz.prog 149 #[p1,p2] w' fun e w''=>e=.returned (.tuple #[Vl a b c d,Vl a' b' c' d',.bool may])∧Below w'.heap.size w' w''))
  (N1:Hid (∀ w,Calls Tryz.prog 156 #[Vl a b c d] w fun e w'=>e=.returned (.tuple #[Vl x y z t,.bool i1,N e1])∧Below w.heap.size w w'))
  (N2:Hid (∀ w,Calls Tryz.prog 156 #[Vl a' b' c' d'] w fun e w'=>e=.returned (.tuple #[Vl x' y' z' t',.bool i2,N e2])∧Below w.heap.size w w')) :
  Calls Tryz.prog 145 #[Vl v m l g,Vl v' m' l' g',.func (.func 149) #[] #[p1,p2]] w fun e w'=>e=.returned (.tuple #[lv (may&&(i1&&i2)) (Vl x y z t),lv (may&&(i1&&i2)) (Vl x' y' z' t'),.bool (may&&(i1&&i2)),N 0])∧Below w.heap.size w w':=by
 obtain ⟨z1,H1⟩:∃ b,Hid (valB v m l g=b):=⟨_,rfl⟩
 obtain ⟨z2,H2⟩:∃ b,Hid (valB v' m' l' g'=b):=⟨_,rfl⟩
 rw [H1.out,H2.out] at hr
 obtain ⟨q,hq⟩:∃ q,Hid (q=(may&&(i1&&i2))):=⟨_,rfl⟩
 rw [← hq.out]
 go_enter Tryz.func145,Tryz.ntmps145
 go_wp2_with fail
 refine (zka H1 H2 (by simp) (by simp [go_sem]) (by simp [go_sem]) (by simp [go_sem]) (by simp [go_sem]) (by simp [go_sem]) (by simp [go_sem]) (by simp [go_sem]) (by simp [go_sem])).mono ?_
 rw [hr.out,er_t]
 rintro e w1 ⟨rfl,hb1⟩
 have hK:=((((((Kp.start w).add4 _ _ _ _ _).add4 _ _ _ _ _).add4 _ _ _ _ _).add4 _ _ _ _ _).keep ((Below.refl _ _).alloc (Nat.le_refl _) _)).keep hb1
 simp only [World.size_alloc] at hK
 clear hb1
 go_wp2_with fail
 refine (HR.out _ hK.bel).mono ?_
 rintro e w2 ⟨rfl,hb2⟩
 have hK2:=hK.keep hb2
 have hK3:=(hK2.set4 (x:=U a) (y:=U b) (z:=U c) (t:=U d) 3 rfl).set4 (x:=U a') (y:=U b') (z:=U c') (t:=U d') 2 rfl
 obtain ⟨s0,s1,s2,s3,s4,s5,s6,s7,s8⟩:=hK2.box.head.four
 obtain ⟨r0,r1,r2,r3,r4,r5,r6,r7,r8⟩:=hK2.box.tail.head.four
 obtain ⟨b0,b1,b2,b3,b4,b5,b6,b7,b8⟩:=hK2.box.tail.tail.head.four
 obtain ⟨a0,a1,a2,a3,a4,a5,a6,a7,a8⟩:=hK2.box.tail.tail.tail.head.four
 clear hb2 hK
 go_wp2_with fail
 refine (N1.out _).mono ?_
 rintro e w3 ⟨rfl,hb3⟩
 have hK4:=hK3.keep hb3
 have hK5:=hK4.set4 (x:=U x) (y:=U y) (z:=U z) (t:=U t) 3 rfl
 clear s0 s1 s2 s3 s4 s5 s6 s7 s8 r0 r1 r2 r3 r4 r5 r6 r7 r8 b0 b1 b2 b3 b4 b5 b6 b7 b8 a0 a1 a2 a3 a4 a5 a6 a7 a8
 obtain ⟨s0,s1,s2,s3,s4,s5,s6,s7,s8⟩:=hK4.box.head.four
 obtain ⟨r0,r1,r2,r3,r4,r5,r6,r7,r8⟩:=hK4.box.tail.head.four
 obtain ⟨b0,b1,b2,b3,b4,b5,b6,b7,b8⟩:=hK4.box.tail.tail.head.four
 obtain ⟨a0,a1,a2,a3,a4,a5,a6,a7,a8⟩:=hK4.box.tail.tail.tail.head.four
 clear hb3 hK2 hK3
 go_wp2_with fail
 refine (N2.out _).mono ?_
 rintro e w4 ⟨rfl,hb4⟩
 have hK6:=hK5.keep hb4
 have hK7:=hK6.set4 (x:=U x') (y:=U y') (z:=U z') (t:=U t') 2 rfl
 clear s0 s1 s2 s3 s4 s5 s6 s7 s8 r0 r1 r2 r3 r4 r5 r6 r7 r8 b0 b1 b2 b3 b4 b5 b6 b7 b8 a0 a1 a2 a3 a4 a5 a6 a7 a8
 obtain ⟨s0,s1,s2,s3,s4,s5,s6,s7,s8⟩:=hK6.box.head.four
 obtain ⟨r0,r1,r2,r3,r4,r5,r6,r7,r8⟩:=hK6.box.tail.head.four
 obtain ⟨b0,b1,b2,b3,b4,b5,b6,b7,b8⟩:=hK6.box.tail.tail.head.four
 obtain ⟨a0,a1,a2,a3,a4,a5,a6,a7,a8⟩:=hK6.box.tail.tail.tail.head.four
 clear hb4 hK4 hK5
 go_upto_region 7 with fail
 clear s0 s1 s2 s3 s4 s5 s6 s7 s8 r0 r1 r2 r3 r4 r5 r6 r7 r8 b0 b1 b2 b3 b4 b5 b6 b7 b8 a0 a1 a2 a3 a4 a5 a6 a7 a8
 clear hK6
 go_cut [52] (fun u wc=>u=.bool (!q)∧Kp w wc [(w.heap.size+1+1+1,[.int .u64 0,.int .u64 0,.int .u64 0,.int .u64 0]),(w.heap.size+1+1,[.int .u64 0,.int .u64 0,.int .u64 0,.int .u64 0]),(w.heap.size+1,[U x',U y',U z',U t']),(w.heap.size,[U x,U y,U z,U t])])
 case first =>
  cases may
  ·go_wp2_with fail
   go_meet
   case rel=>exact ⟨by rw [hq.out];rfl,hK7⟩
  ·cases i1
   ·go_wp2_with fail
    go_meet
    case rel=>exact ⟨by rw [hq.out];rfl,hK7⟩
   ·cases i2
    all_goals
     go_wp2_with fail
     go_meet
     case rel=>exact ⟨by rw [hq.out];rfl,hK7⟩
 case rest =>
  clear hK7 hq
  obtain ⟨rfl,hK8⟩:=hcut
  obtain ⟨s0,s1,s2,s3,s4,s5,s6,s7,s8⟩:=hK8.box.head.four
  obtain ⟨r0,r1,r2,r3,r4,r5,r6,r7,r8⟩:=hK8.box.tail.head.four
  obtain ⟨b0,b1,b2,b3,b4,b5,b6,b7,b8⟩:=hK8.box.tail.tail.head.four
  obtain ⟨a0,a1,a2,a3,a4,a5,a6,a7,a8⟩:=hK8.box.tail.tail.tail.head.four
  cases q
  ·go_wp2_with fail
   exact bodyPost_ret (v:=.tuple #[V0,V0,.bool false,N 0]) (by simp [results,Tryz.results145,go_sem,za4,s0,s1,s2,s3,r0,r1,r2,r3]) rfl ⟨rfl,((hK8.set4 1 rfl).set4 0 rfl).bel⟩
  ·go_wp2_with fail
   go_region
   all_goals
    go_wp2_with fail
    exact bodyPost_ret (v:=.tuple #[Vl x y z t,Vl x' y' z' t',.bool true,N 0]) (by simp [results,Tryz.results145,go_sem,s0,s1,s2,s3,r0,r1,r2,r3]) rfl ⟨rfl,Below.drew ((hK8.set4 1 rfl).set4 0 rfl).bel⟩
set_option maxRecDepth 100000 in
set_option maxHeartbeats 4000000 in
theorem zx5 {p1 p2:Value} {v m l g v' m' l' g' a b c d a' b' c' d' x y z t x' y' z' t':BitVec 64} {may i1 i2:Bool} {e1 e2:Int} (hr:Hid ((valB v m l g&&valB v' m' l' g')=true)) (w:World)
  (HR:Hid (∀ w',Below w.heap.size w w'→Calls Tryz.prog 146 #[p1,p2] w' fun e w''=>e=.returned (.tuple #[Vl a b c d,Vl a' b' c' d',.bool may])∧Below w'.heap.size w' w''))
  (N1:Hid (∀ w,Calls Tryz.prog 156 #[Vl a b c d] w fun e w'=>e=.returned (.tuple #[Vl x y z t,.bool i1,N e1])∧Below w.heap.size w w'))
  (N2:Hid (∀ w,Calls Tryz.prog 156 #[Vl a' b' c' d'] w fun e w'=>e=.returned (.tuple #[Vl x' y' z' t',.bool i2,N e2])∧Below w.heap.size w w')) :
  Calls Tryz.prog 145 #[Vl v m l g,Vl v' m' l' g',.func (.func 146) #[] #[p1,p2]] w fun e w'=>e=.returned (.tuple #[lv (may&&(i1&&i2)) (Vl x y z t),lv (may&&(i1&&i2)) (Vl x' y' z' t'),.bool (may&&(i1&&i2)),N 0])∧Below w.heap.size w w':=by
 obtain ⟨z1,H1⟩:∃ b,Hid (valB v m l g=b):=⟨_,rfl⟩
 obtain ⟨z2,H2⟩:∃ b,Hid (valB v' m' l' g'=b):=⟨_,rfl⟩
 rw [H1.out,H2.out] at hr
 obtain ⟨q,hq⟩:∃ q,Hid (q=(may&&(i1&&i2))):=⟨_,rfl⟩
 rw [← hq.out]
 go_enter Tryz.func145,Tryz.ntmps145
 go_wp2_with fail
 refine (zka H1 H2 (by simp) (by simp [go_sem]) (by simp [go_sem]) (by simp [go_sem]) (by simp [go_sem]) (by simp [go_sem]) (by simp [go_sem]) (by simp [go_sem]) (by simp [go_sem])).mono ?_
 rw [hr.out,er_t]
 rintro e w1 ⟨rfl,hb1⟩
 have hK:=((((((Kp.start w).add4 _ _ _ _ _).add4 _ _ _ _ _).add4 _ _ _ _ _).add4 _ _ _ _ _).keep ((Below.refl _ _).alloc (Nat.le_refl _) _)).keep hb1
 simp only [World.size_alloc] at hK
 clear hb1
 go_wp2_with fail
 refine (HR.out _ hK.bel).mono ?_
 rintro e w2 ⟨rfl,hb2⟩
 have hK2:=hK.keep hb2
 have hK3:=(hK2.set4 (x:=U a) (y:=U b) (z:=U c) (t:=U d) 3 rfl).set4 (x:=U a') (y:=U b') (z:=U c') (t:=U d') 2 rfl
 obtain ⟨s0,s1,s2,s3,s4,s5,s6,s7,s8⟩:=hK2.box.head.four
 obtain ⟨r0,r1,r2,r3,r4,r5,r6,r7,r8⟩:=hK2.box.tail.head.four
 obtain ⟨b0,b1,b2,b3,b4,b5,b6,b7,b8⟩:=hK2.box.tail.tail.head.four
 obtain ⟨a0,a1,a2,a3,a4,a5,a6,a7,a8⟩:=hK2.box.tail.tail.tail.head.four
 clear hb2 hK
 go_wp2_with fail
 refine (N1.out _).mono ?_
 rintro e w3 ⟨rfl,hb3⟩
 have hK4:=hK3.keep hb3
 have hK5:=hK4.set4 (x:=U x) (y:=U y) (z:=U z) (t:=U t) 3 rfl
 clear s0 s1 s2 s3 s4 s5 s6 s7 s8 r0 r1 r2 r3 r4 r5 r6 r7 r8 b0 b1 b2 b3 b4 b5 b6 b7 b8 a0 a1 a2 a3 a4 a5 a6 a7 a8
 obtain ⟨s0,s1,s2,s3,s4,s5,s6,s7,s8⟩:=hK4.box.head.four
 obtain ⟨r0,r1,r2,r3,r4,r5,r6,r7,r8⟩:=hK4.box.tail.head.four
 obtain ⟨b0,b1,b2,b3,b4,b5,b6,b7,b8⟩:=hK4.box.tail.tail.head.four
 obtain ⟨a0,a1,a2,a3,a4,a5,a6,a7,a8⟩:=hK4.box.tail.tail.tail.head.four
 clear hb3 hK2 hK3
 go_wp2_with fail
 refine (N2.out _).mono ?_
 rintro e w4 ⟨rfl,hb4⟩
 have hK6:=hK5.keep hb4
 have hK7:=hK6.set4 (x:=U x') (y:=U y') (z:=U z') (t:=U t') 2 rfl
 clear s0 s1 s2 s3 s4 s5 s6 s7 s8 r0 r1 r2 r3 r4 r5 r6 r7 r8 b0 b1 b2 b3 b4 b5 b6 b7 b8 a0 a1 a2 a3 a4 a5 a6 a7 a8
 obtain ⟨s0,s1,s2,s3,s4,s5,s6,s7,s8⟩:=hK6.box.head.four
 obtain ⟨r0,r1,r2,r3,r4,r5,r6,r7,r8⟩:=hK6.box.tail.head.four
 obtain ⟨b0,b1,b2,b3,b4,b5,b6,b7,b8⟩:=hK6.box.tail.tail.head.four
 obtain ⟨a0,a1,a2,a3,a4,a5,a6,a7,a8⟩:=hK6.box.tail.tail.tail.head.four
 clear hb4 hK4 hK5
 go_upto_region 7 with fail
 clear s0 s1 s2 s3 s4 s5 s6 s7 s8 r0 r1 r2 r3 r4 r5 r6 r7 r8 b0 b1 b2 b3 b4 b5 b6 b7 b8 a0 a1 a2 a3 a4 a5 a6 a7 a8
 clear hK6
 go_cut [52] (fun u wc=>u=.bool (!q)∧Kp w wc [(w.heap.size+1+1+1,[.int .u64 0,.int .u64 0,.int .u64 0,.int .u64 0]),(w.heap.size+1+1,[.int .u64 0,.int .u64 0,.int .u64 0,.int .u64 0]),(w.heap.size+1,[U x',U y',U z',U t']),(w.heap.size,[U x,U y,U z,U t])])
 case first =>
  cases may
  ·go_wp2_with fail
   go_meet
   case rel=>exact ⟨by rw [hq.out];rfl,hK7⟩
  ·cases i1
   ·go_wp2_with fail
    go_meet
    case rel=>exact ⟨by rw [hq.out];rfl,hK7⟩
   ·cases i2
    all_goals
     go_wp2_with fail
     go_meet
     case rel=>exact ⟨by rw [hq.out];rfl,hK7⟩
 case rest =>
  clear hK7 hq
  obtain ⟨rfl,hK8⟩:=hcut
  obtain ⟨s0,s1,s2,s3,s4,s5,s6,s7,s8⟩:=hK8.box.head.four
  obtain ⟨r0,r1,r2,r3,r4,r5,r6,r7,r8⟩:=hK8.box.tail.head.four
  obtain ⟨b0,b1,b2,b3,b4,b5,b6,b7,b8⟩:=hK8.box.tail.tail.head.four
  obtain ⟨a0,a1,a2,a3,a4,a5,a6,a7,a8⟩:=hK8.box.tail.tail.tail.head.four
  cases q
  ·go_wp2_with fail
   exact bodyPost_ret (v:=.tuple #[V0,V0,.bool false,N 0]) (by simp [results,Tryz.results145,go_sem,za4,s0,s1,s2,s3,r0,r1,r2,r3]) rfl ⟨rfl,((hK8.set4 1 rfl).set4 0 rfl).bel⟩
  ·go_wp2_with fail
   go_region
   all_goals
    go_wp2_with fail
    exact bodyPost_ret (v:=.tuple #[Vl x y z t,Vl x' y' z' t',.bool true,N 0]) (by simp [results,Tryz.results145,go_sem,s0,s1,s2,s3,r0,r1,r2,r3]) rfl ⟨rfl,Below.drew ((hK8.set4 1 rfl).set4 0 rfl).bel⟩
set_option maxRecDepth 100000 in
set_option maxHeartbeats 4000000 in
theorem yac7 {p1 p2:Value} {v m l g v' m' l' g' a b c d a' b' c' d' x y z t x' y' z' t':BitVec 64} {may i1 i2:Bool} {e1 e2:Int} (hr:Hid ((valB v m l g&&valB v' m' l' g')=true)) (w:World)
  (HR:Hid (∀ w',Below w.heap.size w w'→Calls Tryz.prog 153 #[p1,p2] w' fun e w''=>e=.returned (.tuple #[Vl a b c d,Vl a' b' c' d',.bool may])∧Below w'.heap.size w' w''))
  (N1:Hid (∀ w,Calls Tryz.prog 156 #[Vl a b c d] w fun e w'=>e=.returned (.tuple #[Vl x y z t,.bool i1,N e1])∧Below w.heap.size w w'))
  (N2:Hid (∀ w,Calls Tryz.prog 156 #[Vl a' b' c' d'] w fun e w'=>e=.returned (.tuple #[Vl x' y' z' t',.bool i2,N e2])∧Below w.heap.size w w')) :
  Calls Tryz.prog 145 #[Vl v m l g,Vl v' m' l' g',.func (.func 153) #[] #[p1,p2]] w fun e w'=>e=.returned (.tuple #[lv (may&&(i1&&i2)) (Vl x y z t),lv (may&&(i1&&i2)) (Vl x' y' z' t'),.bool (may&&(i1&&i2)),N 0])∧Below w.heap.size w w':=by
 obtain ⟨z1,H1⟩:∃ b,Hid (valB v m l g=b):=⟨_,rfl⟩
 obtain ⟨z2,H2⟩:∃ b,Hid (valB v' m' l' g'=b):=⟨_,rfl⟩
 rw [H1.out,H2.out] at hr
 obtain ⟨q,hq⟩:∃ q,Hid (q=(may&&(i1&&i2))):=⟨_,rfl⟩
 rw [← hq.out]
 go_enter Tryz.func145,Tryz.ntmps145
 go_wp2_with fail
 refine (zka H1 H2 (by simp) (by simp [go_sem]) (by simp [go_sem]) (by simp [go_sem]) (by simp [go_sem]) (by simp [go_sem]) (by simp [go_sem]) (by simp [go_sem]) (by simp [go_sem])).mono ?_
 rw [hr.out,er_t]
 rintro e w1 ⟨rfl,hb1⟩
 have hK:=((((((Kp.start w).add4 _ _ _ _ _).add4 _ _ _ _ _).add4 _ _ _ _ _).add4 _ _ _ _ _).keep ((Below.refl _ _).alloc (Nat.le_refl _) _)).keep hb1
 simp only [World.size_alloc] at hK
 clear hb1
 go_wp2_with fail
 refine (HR.out _ hK.bel).mono ?_
 rintro e w2 ⟨rfl,hb2⟩
 have hK2:=hK.keep hb2
 have hK3:=(hK2.set4 (x:=U a) (y:=U b) (z:=U c) (t:=U d) 3 rfl).set4 (x:=U a') (y:=U b') (z:=U c') (t:=U d') 2 rfl
 obtain ⟨s0,s1,s2,s3,s4,s5,s6,s7,s8⟩:=hK2.box.head.four
 obtain ⟨r0,r1,r2,r3,r4,r5,r6,r7,r8⟩:=hK2.box.tail.head.four
 obtain ⟨b0,b1,b2,b3,b4,b5,b6,b7,b8⟩:=hK2.box.tail.tail.head.four
 obtain ⟨a0,a1,a2,a3,a4,a5,a6,a7,a8⟩:=hK2.box.tail.tail.tail.head.four
 clear hb2 hK
 go_wp2_with fail
 refine (N1.out _).mono ?_
 rintro e w3 ⟨rfl,hb3⟩
 have hK4:=hK3.keep hb3
 have hK5:=hK4.set4 (x:=U x) (y:=U y) (z:=U z) (t:=U t) 3 rfl
 clear s0 s1 s2 s3 s4 s5 s6 s7 s8 r0 r1 r2 r3 r4 r5 r6 r7 r8 b0 b1 b2 b3 b4 b5 b6 b7 b8 a0 a1 a2 a3 a4 a5 a6 a7 a8
 obtain ⟨s0,s1,s2,s3,s4,s5,s6,s7,s8⟩:=hK4.box.head.four
 obtain ⟨r0,r1,r2,r3,r4,r5,r6,r7,r8⟩:=hK4.box.tail.head.four
 obtain ⟨b0,b1,b2,b3,b4,b5,b6,b7,b8⟩:=hK4.box.tail.tail.head.four
 obtain ⟨a0,a1,a2,a3,a4,a5,a6,a7,a8⟩:=hK4.box.tail.tail.tail.head.four
 clear hb3 hK2 hK3
 go_wp2_with fail
 refine (N2.out _).mono ?_
 rintro e w4 ⟨rfl,hb4⟩
 have hK6:=hK5.keep hb4
 have hK7:=hK6.set4 (x:=U x') (y:=U y') (z:=U z') (t:=U t') 2 rfl
 clear s0 s1 s2 s3 s4 s5 s6 s7 s8 r0 r1 r2 r3 r4 r5 r6 r7 r8 b0 b1 b2 b3 b4 b5 b6 b7 b8 a0 a1 a2 a3 a4 a5 a6 a7 a8
 obtain ⟨s0,s1,s2,s3,s4,s5,s6,s7,s8⟩:=hK6.box.head.four
 obtain ⟨r0,r1,r2,r3,r4,r5,r6,r7,r8⟩:=hK6.box.tail.head.four
 obtain ⟨b0,b1,b2,b3,b4,b5,b6,b7,b8⟩:=hK6.box.tail.tail.head.four
 obtain ⟨a0,a1,a2,a3,a4,a5,a6,a7,a8⟩:=hK6.box.tail.tail.tail.head.four
 clear hb4 hK4 hK5
 go_upto_region 7 with fail
 clear s0 s1 s2 s3 s4 s5 s6 s7 s8 r0 r1 r2 r3 r4 r5 r6 r7 r8 b0 b1 b2 b3 b4 b5 b6 b7 b8 a0 a1 a2 a3 a4 a5 a6 a7 a8
 clear hK6
 go_cut [52] (fun u wc=>u=.bool (!q)∧Kp w wc [(w.heap.size+1+1+1,[.int .u64 0,.int .u64 0,.int .u64 0,.int .u64 0]),(w.heap.size+1+1,[.int .u64 0,.int .u64 0,.int .u64 0,.int .u64 0]),(w.heap.size+1,[U x',U y',U z',U t']),(w.heap.size,[U x,U y,U z,U t])])
 case first =>
  cases may
  ·go_wp2_with fail
   go_meet
   case rel=>exact ⟨by rw [hq.out];rfl,hK7⟩
  ·cases i1
   ·go_wp2_with fail
    go_meet
    case rel=>exact ⟨by rw [hq.out];rfl,hK7⟩
   ·cases i2
    all_goals
     go_wp2_with fail
     go_meet
     case rel=>exact ⟨by rw [hq.out];rfl,hK7⟩
 case rest =>
  clear hK7 hq
  obtain ⟨rfl,hK8⟩:=hcut
  obtain ⟨s0,s1,s2,s3,s4,s5,s6,s7,s8⟩:=hK8.box.head.four
  obtain ⟨r0,r1,r2,r3,r4,r5,r6,r7,r8⟩:=hK8.box.tail.head.four
  obtain ⟨b0,b1,b2,b3,b4,b5,b6,b7,b8⟩:=hK8.box.tail.tail.head.four
  obtain ⟨a0,a1,a2,a3,a4,a5,a6,a7,a8⟩:=hK8.box.tail.tail.tail.head.four
  cases q
  ·go_wp2_with fail
   exact bodyPost_ret (v:=.tuple #[V0,V0,.bool false,N 0]) (by simp [results,Tryz.results145,go_sem,za4,s0,s1,s2,s3,r0,r1,r2,r3]) rfl ⟨rfl,((hK8.set4 1 rfl).set4 0 rfl).bel⟩
  ·go_wp2_with fail
   go_region
   all_goals
    go_wp2_with fail
    exact bodyPost_ret (v:=.tuple #[Vl x y z t,Vl x' y' z' t',.bool true,N 0]) (by simp [results,Tryz.results145,go_sem,s0,s1,s2,s3,r0,r1,r2,r3]) rfl ⟨rfl,Below.drew ((hK8.set4 1 rfl).set4 0 rfl).bel⟩
set_option maxRecDepth 100000 in
set_option maxHeartbeats 4000000 in
theorem zqx {p1 p2:Value} {v m l g v' m' l' g' a b c d a' b' c' d' x y z t x' y' z' t':BitVec 64} {may i1 i2:Bool} {e1 e2:Int} (hr:Hid ((valB v m l g&&valB v' m' l' g')=true)) (w:World)
  (HR:Hid (∀ w',Below w.heap.size w w'→Calls Tryz.prog 151 #[p1,p2] w' fun e w''=>e=.returned (.tuple #[Vl a b c d,Vl a' b' c' d',.bool may])∧Below w'.heap.size w' w''))
  (N1:Hid (∀ w,Calls Tryz.prog 156 #[Vl a b c d] w fun e w'=>e=.returned (.tuple #[Vl x y z t,.bool i1,N e1])∧Below w.heap.size w w'))
  (N2:Hid (∀ w,Calls Tryz.prog 156 #[Vl a' b' c' d'] w fun e w'=>e=.returned (.tuple #[Vl x' y' z' t',.bool i2,N e2])∧Below w.heap.size w w')) :
  Calls Tryz.prog 145 #[Vl v m l g,Vl v' m' l' g',.func (.func 151) #[] #[p1,p2]] w fun e w'=>e=.returned (.tuple #[lv (may&&(i1&&i2)) (Vl x y z t),lv (may&&(i1&&i2)) (Vl x' y' z' t'),.bool (may&&(i1&&i2)),N 0])∧Below w.heap.size w w':=by
 obtain ⟨z1,H1⟩:∃ b,Hid (valB v m l g=b):=⟨_,rfl⟩
 obtain ⟨z2,H2⟩:∃ b,Hid (valB v' m' l' g'=b):=⟨_,rfl⟩
 rw [H1.out,H2.out] at hr
 obtain ⟨q,hq⟩:∃ q,Hid (q=(may&&(i1&&i2))):=⟨_,rfl⟩
 rw [← hq.out]
 go_enter Tryz.func145,Tryz.ntmps145
 go_wp2_with fail
 refine (zka H1 H2 (by simp) (by simp [go_sem]) (by simp [go_sem]) (by simp [go_sem]) (by simp [go_sem]) (by simp [go_sem]) (by simp [go_sem]) (by simp [go_sem]) (by simp [go_sem])).mono ?_
 rw [hr.out,er_t]
 rintro e w1 ⟨rfl,hb1⟩
 have hK:=((((((Kp.start w).add4 _ _ _ _ _).add4 _ _ _ _ _).add4 _ _ _ _ _).add4 _ _ _ _ _).keep ((Below.refl _ _).alloc (Nat.le_refl _) _)).keep hb1
 simp only [World.size_alloc] at hK
 clear hb1
 go_wp2_with fail
 refine (HR.out _ hK.bel).mono ?_
 rintro e w2 ⟨rfl,hb2⟩
 have hK2:=hK.keep hb2
 have hK3:=(hK2.set4 (x:=U a) (y:=U b) (z:=U c) (t:=U d) 3 rfl).set4 (x:=U a') (y:=U b') (z:=U c') (t:=U d') 2 rfl
 obtain ⟨s0,s1,s2,s3,s4,s5,s6,s7,s8⟩:=hK2.box.head.four
 obtain ⟨r0,r1,r2,r3,r4,r5,r6,r7,r8⟩:=hK2.box.tail.head.four
 obtain ⟨b0,b1,b2,b3,b4,b5,b6,b7,b8⟩:=hK2.box.tail.tail.head.four
 obtain ⟨a0,a1,a2,a3,a4,a5,a6,a7,a8⟩:=hK2.box.tail.tail.tail.head.four
 clear hb2 hK
 go_wp2_with fail
 refine (N1.out _).mono ?_
 rintro e w3 ⟨rfl,hb3⟩
 have hK4:=hK3.keep hb3
 have hK5:=hK4.set4 (x:=U x) (y:=U y) (z:=U z) (t:=U t) 3 rfl
 clear s0 s1 s2 s3 s4 s5 s6 s7 s8 r0 r1 r2 r3 r4 r5 r6 r7 r8 b0 b1 b2 b3 b4 b5 b6 b7 b8 a0 a1 a2 a3 a4 a5 a6 a7 a8
 obtain ⟨s0,s1,s2,s3,s4,s5,s6,s7,s8⟩:=hK4.box.head.four
 obtain ⟨r0,r1,r2,r3,r4,r5,r6,r7,r8⟩:=hK4.box.tail.head.four
 obtain ⟨b0,b1,b2,b3,b4,b5,b6,b7,b8⟩:=hK4.box.tail.tail.head.four
 obtain ⟨a0,a1,a2,a3,a4,a5,a6,a7,a8⟩:=hK4.box.tail.tail.tail.head.four
 clear hb3 hK2 hK3
 go_wp2_with fail
 refine (N2.out _).mono ?_
 rintro e w4 ⟨rfl,hb4⟩
 have hK6:=hK5.keep hb4
 have hK7:=hK6.set4 (x:=U x') (y:=U y') (z:=U z') (t:=U t') 2 rfl
 clear s0 s1 s2 s3 s4 s5 s6 s7 s8 r0 r1 r2 r3 r4 r5 r6 r7 r8 b0 b1 b2 b3 b4 b5 b6 b7 b8 a0 a1 a2 a3 a4 a5 a6 a7 a8
 obtain ⟨s0,s1,s2,s3,s4,s5,s6,s7,s8⟩:=hK6.box.head.four
 obtain ⟨r0,r1,r2,r3,r4,r5,r6,r7,r8⟩:=hK6.box.tail.head.four
 obtain ⟨b0,b1,b2,b3,b4,b5,b6,b7,b8⟩:=hK6.box.tail.tail.head.four
 obtain ⟨a0,a1,a2,a3,a4,a5,a6,a7,a8⟩:=hK6.box.tail.tail.tail.head.four
 clear hb4 hK4 hK5
 go_upto_region 7 with fail
 clear s0 s1 s2 s3 s4 s5 s6 s7 s8 r0 r1 r2 r3 r4 r5 r6 r7 r8 b0 b1 b2 b3 b4 b5 b6 b7 b8 a0 a1 a2 a3 a4 a5 a6 a7 a8
 clear hK6
 go_cut [52] (fun u wc=>u=.bool (!q)∧Kp w wc [(w.heap.size+1+1+1,[.int .u64 0,.int .u64 0,.int .u64 0,.int .u64 0]),(w.heap.size+1+1,[.int .u64 0,.int .u64 0,.int .u64 0,.int .u64 0]),(w.heap.size+1,[U x',U y',U z',U t']),(w.heap.size,[U x,U y,U z,U t])])
 case first =>
  cases may
  ·go_wp2_with fail
   go_meet
   case rel=>exact ⟨by rw [hq.out];rfl,hK7⟩
  ·cases i1
   ·go_wp2_with fail
    go_meet
    case rel=>exact ⟨by rw [hq.out];rfl,hK7⟩
   ·cases i2
    all_goals
     go_wp2_with fail
     go_meet
     case rel=>exact ⟨by rw [hq.out];rfl,hK7⟩
 case rest =>
  clear hK7 hq
  obtain ⟨rfl,hK8⟩:=hcut
  obtain ⟨s0,s1,s2,s3,s4,s5,s6,s7,s8⟩:=hK8.box.head.four
  obtain ⟨r0,r1,r2,r3,r4,r5,r6,r7,r8⟩:=hK8.box.tail.head.four
  obtain ⟨b0,b1,b2,b3,b4,b5,b6,b7,b8⟩:=hK8.box.tail.tail.head.four
  obtain ⟨a0,a1,a2,a3,a4,a5,a6,a7,a8⟩:=hK8.box.tail.tail.tail.head.four
  cases q
  ·go_wp2_with fail
   exact bodyPost_ret (v:=.tuple #[V0,V0,.bool false,N 0]) (by simp [results,Tryz.results145,go_sem,za4,s0,s1,s2,s3,r0,r1,r2,r3]) rfl ⟨rfl,((hK8.set4 1 rfl).set4 0 rfl).bel⟩
  ·go_wp2_with fail
   go_region
   all_goals
    go_wp2_with fail
    exact bodyPost_ret (v:=.tuple #[Vl x y z t,Vl x' y' z' t',.bool true,N 0]) (by simp [results,Tryz.results145,go_sem,s0,s1,s2,s3,r0,r1,r2,r3]) rfl ⟨rfl,Below.drew ((hK8.set4 1 rfl).set4 0 rfl).bel⟩
end
section
attribute [local go_sem] zdb w_or zdd za3 zb4 zbd zc9 zc4 zda zbw zby zcz zb0 zdc zcn zc0 zb1 zbx zb2 zbz za1
theorem Kp.drop' {w0 w:World} {p:Nat×List Value} {L:List (Nat×List Value)} (h:Kp w0 w (p::L)):Kp w0 w L:=⟨h.bel,h.box.tail,fun q hq=>h.lo q (List.mem_cons_of_mem _ hq)⟩
theorem Kp.other1 {w0 w:World} {L:List (Nat×List Value)} (h:Kp w0 w L) {b i:Nat} (v:Value) (hlo:w0.heap.size≤b) (hne:∀ p,p∈L→p.1≠b):Kp w0 (w.setCell ⟨b,i,none⟩ v) L :=
 ⟨h.bel.setCell hlo v,h.box.other hne,h.lo⟩
theorem Kp.other4 {w0 w:World} {L:List (Nat×List Value)} (h:Kp w0 w L) {b:Nat} (x y z t:Value) (hlo:w0.heap.size≤b) (hne:∀ p,p∈L→p.1≠b) :
  Kp w0 ((((w.setCell ⟨b,0,none⟩ x).setCell ⟨b,1,none⟩ y).setCell ⟨b,2,none⟩ z).setCell ⟨b,3,none⟩ t) L :=
 (((h.other1 x hlo hne).other1 y hlo hne).other1 z hlo hne).other1 t hlo hne
end
section
attribute [local go_sem] zdb w_or zdd za3 zb4 zbd zc9 zc4 zda zbw zby zcz zb0 zdc zcn zc0 zb1 zbx zb2 zbz za1
def Cap (w:World) (b1 b2:Nat) (v m l g v' m' l' g':BitVec 64):Prop :=
 b1<w.heap.size∧b2<w.heap.size∧w.cell? ⟨b1,0,none⟩=some (U v)∧w.cell? ⟨b1,1,none⟩=some (U m)∧w.cell? ⟨b1,2,none⟩=some (U l)∧w.cell? ⟨b1,3,none⟩=some (U g)
 ∧ w.cell? ⟨b2,0,none⟩=some (U v')∧w.cell? ⟨b2,1,none⟩=some (U m')∧w.cell? ⟨b2,2,none⟩=some (U l')∧w.cell? ⟨b2,3,none⟩=some (U g')
theorem Cap.keep {w w':World} {b1 b2:Nat} {v m l g v' m' l' g':BitVec 64} (h:Cap w b1 b2 v m l g v' m' l' g') (hb:Below w.heap.size w w'):Cap w' b1 b2 v m l g v' m' l' g':=by
 obtain ⟨s1,s2,a0,a1,a2,a3,c0,c1,c2,c3⟩:=h
 exact ⟨Nat.lt_of_lt_of_le s1 hb.size,Nat.lt_of_lt_of_le s2 hb.size,(hb.cell (p:=⟨b1,0,none⟩) s1).trans a0,(hb.cell (p:=⟨b1,1,none⟩) s1).trans a1,(hb.cell (p:=⟨b1,2,none⟩) s1).trans a2,(hb.cell (p:=⟨b1,3,none⟩) s1).trans a3,
  (hb.cell (p:=⟨b2,0,none⟩) s2).trans c0,(hb.cell (p:=⟨b2,1,none⟩) s2).trans c1,(hb.cell (p:=⟨b2,2,none⟩) s2).trans c2,(hb.cell (p:=⟨b2,3,none⟩) s2).trans c3⟩
set_option maxRecDepth 100000 in
set_option maxHeartbeats 4000000 in
theorem zvz {b1 b2:Nat} {v m l g v' m' l' g' kv km lo hi:BitVec 64} {may:Bool} {w:World} (hc:Hid (Cap w b1 b2 v m l g v' m' l' g'))
  (HM:Hid (∀ w,Calls Tryz.prog 150 #[Bt v m,Bt v' m'] w fun e w'=>e=.returned (.tuple #[Bt kv km,.bool may,N 0])∧Below w.heap.size w w'))
  (m1:Hid (bmax l l'=lo)) (m2:Hid (bmin g g'=hi)) :
  Calls Tryz.prog 149 #[PT b1,PT b2] w fun e w'=>e=.returned (.tuple #[Vl kv km lo hi,Vl kv km lo hi,.bool may])∧Below w.heap.size w w':=by
 have e1:(if nv l<nv l' then nv l' else nv l)=nv lo:=by rw [← m1.out];unfold bmax;split <;> rfl
 have e2:(if nv g' < nv g then nv g' else nv g)=nv hi:=by rw [← m2.out];unfold bmin;split <;> rfl
 obtain ⟨s1,s2,a0,a1,a2,a3,c0,c1,c2,c3⟩:=hc.out
 go_enter Tryz.func149,Tryz.ntmps149
 go_wp2_with fail
 refine (HM.out _).mono ?_
 rintro e w1 ⟨rfl,hb1⟩
 have hK:=(((Kp.start w).add4 _ _ _ _ _).add4 _ _ _ _ _).keep hb1
 simp only [World.size_alloc] at hK
 have hcc:=hc.out.keep hK.bel
 clear s1 s2 a0 a1 a2 a3 c0 c1 c2 c3
 obtain ⟨s1,s2,a0,a1,a2,a3,c0,c1,c2,c3⟩:=hcc
 obtain ⟨t0,t1,t2,t3,t4,t5,t6,t7,t8⟩:=hK.box.head.four
 obtain ⟨r0,r1,r2,r3,r4,r5,r6,r7,r8⟩:=hK.box.tail.head.four
 go_wp2_with fail
 have hK2:=(hK.add2 (U kv) (U km) 47).add4 (U kv) (U km) (U lo) (U hi) 49
 simp only [World.size_alloc] at hK2
 have n1:w.heap.size≠w1.heap.size+1:=by omega
 have n2:w1.heap.size+1≠w.heap.size:=by omega
 have n3:w.heap.size≠w1.heap.size:=by omega
 have n4:w1.heap.size≠w.heap.size:=by omega
 have n5:w.heap.size+1≠w1.heap.size:=by omega
 have n6:w1.heap.size≠w.heap.size+1:=by omega
 clear t0 t1 t2 t3 t4 t5 t6 t7 t8 r0 r1 r2 r3 r4 r5 r6 r7 r8
 obtain ⟨k0,k1,k2,k3,k4,k5,k6,k7,k8⟩:=hK2.box.head.four
 obtain ⟨t0,t1,t2,t3,t4,t5,t6,t7,t8⟩:=hK2.box.tail.tail.head.four
 obtain ⟨r0,r1,r2,r3,r4,r5,r6,r7,r8⟩:=hK2.box.tail.tail.tail.head.four
 go_region
 all_goals
  go_wp2_with fail
  refine bodyPost_ret (v:=.tuple #[Vl kv km lo hi,Vl kv km lo hi,.bool may]) ?_ rfl ⟨rfl,?_⟩
  ·simp [results,Tryz.results149,go_sem,t0,t1,t2,t3,r0,r1,r2,r3]
  ·exact Below.drew ((hK2.set4 3 rfl).set4 2 rfl).bel
set_option maxRecDepth 100000 in
set_option maxHeartbeats 4000000 in
theorem zyq {b1 b2:Nat} {v m l g v' m' l' g':BitVec 64} {w:World} (hc:Hid (Cap w b1 b2 v m l g v' m' l' g')) :
  Calls Tryz.prog 151 #[PT b1,PT b2] w fun e w'=>e=.returned (.tuple #[Vl v m (bmax l l') (bmin g g),Vl v' m' (bmax l' l') (bmin g' g),.bool true])∧Below w.heap.size w w':=by
 obtain ⟨s1,s2,a0,a1,a2,a3,c0,c1,c2,c3⟩:=hc.out
 have hK0:=((Kp.start w).add4 (.int .u64 0) (.int .u64 0) (.int .u64 0) (.int .u64 0) 49).add4 (.int .u64 0) (.int .u64 0) (.int .u64 0) (.int .u64 0) 49
 simp only [World.size_alloc] at hK0
 go_enter Tryz.func151,Tryz.ntmps151
 go_wp2_with fail
 have hS0:Kp w _ []:=(hK0).drop'.drop'.keep (Below.drew (Below.refl _ _))
 have hR0:=(hK0).keep (Below.drew (Below.refl _ _))
 have HS:Hid (∀ w',Kp w w' []→Kp w w' []∧w'.cell? ⟨b1,0,none⟩=some (U v)∧w'.cell? ⟨b1,1,none⟩=some (U m)∧w'.cell? ⟨b1,2,none⟩=some (U l)∧w'.cell? ⟨b1,3,none⟩=some (U g)∧w'.cell? ⟨b2,0,none⟩=some (U v')∧w'.cell? ⟨b2,1,none⟩=some (U m')∧w'.cell? ⟨b2,2,none⟩=some (U l')∧w'.cell? ⟨b2,3,none⟩=some (U g')):=by
  intro w' hk
  obtain ⟨_,_,d0,d1,d2,d3,f0,f1,f2,f3⟩:=hc.out.keep hk.bel
  exact ⟨hk,d0,d1,d2,d3,f0,f1,f2,f3⟩
 go_region_held3 (fun w'=>Kp w w' []∧w'.cell? ⟨b1,0,none⟩=some (U v)∧w'.cell? ⟨b1,1,none⟩=some (U m)∧w'.cell? ⟨b1,2,none⟩=some (U l)∧w'.cell? ⟨b1,3,none⟩=some (U g)∧w'.cell? ⟨b2,0,none⟩=some (U v')∧w'.cell? ⟨b2,1,none⟩=some (U m')∧w'.cell? ⟨b2,2,none⟩=some (U l')∧w'.cell? ⟨b2,3,none⟩=some (U g'))
  ((refine HS.out _ ?_;repeat (first | refine Kp.other4 ?_ _ _ _ _ (by first | exact Nat.le_refl _ | omega) (by simp) | exact hS0 | refine Kp.keep ?_ (by assumption) | refine Kp.keep ?_ (Below.drew (Below.refl _ _)))))
  (first
   | (go_at_call 152;refine (zmm _ _ _ _ _ _ _).mono ?_;rintro e wk ⟨rfl,hb⟩;first | (have hR2:=hR1.keep hb;obtain ⟨t0,t1,t2,t3,t4,t5,t6,t7,t8⟩:=hR2.box.head.four;obtain ⟨r0,r1,r2,r3,r4,r5,r6,r7,r8⟩:=hR2.box.tail.head.four) | (have hR1:=hR0.keep hb)))
 all_goals
  go_wp2_with fail
  refine bodyPost_ret (v:=.tuple #[Vl v m (bmax l l') (bmin g g),Vl v' m' (bmax l' l') (bmin g' g),.bool true]) ?_ rfl ⟨rfl,?_⟩
  ·simp [results,Tryz.results151,go_sem,t0,t1,t2,t3,r0,r1,r2,r3]
  ·exact ((hR2.set4 1 rfl).set4 0 rfl).bel
end
section
attribute [local go_sem] zdb w_or zdd za3 zb4 zbd zc9 zc4 zda zbw zby zcz zb0 zdc zcn zc0 zb1 zbx zb2 zbz za1
theorem yavt (x:BitVec 64):(nv x==18446744073709551615)=eqb x top:=by rw [← zmf];exact zcn x top
attribute [local go_sem] yavt
set_option maxRecDepth 100000 in
set_option maxHeartbeats 4000000 in
theorem yam6 {b1 b2:Nat} {v m l g v' m' l' g':BitVec 64} {w:World} (hc:Hid (Cap w b1 b2 v' m' l' g' v m l g)) (hn:Hid ((eqb g' zero||eqb l top)=true)) :
  Calls Tryz.prog 153 #[PT b1,PT b2] w fun e w'=>e=.returned (.tuple #[Vl v m l g,Vl v' m' l' g',.bool false])∧Below w.heap.size w w':=by
 obtain ⟨s1,s2,a0,a1,a2,a3,c0,c1,c2,c3⟩:=hc.out
 have hK0:=((Kp.start w).add4 (.int .u64 0) (.int .u64 0) (.int .u64 0) (.int .u64 0) 49).add4 (.int .u64 0) (.int .u64 0) (.int .u64 0) (.int .u64 0) 49
 simp only [World.size_alloc] at hK0
 obtain ⟨t0,t1,t2,t3,t4,t5,t6,t7,t8⟩:=hK0.box.head.four
 obtain ⟨r0,r1,r2,r3,r4,r5,r6,r7,r8⟩:=hK0.box.tail.head.four
 have n1:b1≠w.heap.size:=by omega
 have n2:b2≠w.heap.size:=by omega
 have n3:w.heap.size≠b1:=by omega
 have n4:w.heap.size≠b2:=by omega
 have n5:b1≠w.heap.size+1:=by omega
 have n6:b2≠w.heap.size+1:=by omega
 have n7:w.heap.size+1≠b1:=by omega
 have n8:w.heap.size+1≠b2:=by omega
 cases z1:eqb g' zero
 ·have z2:eqb l top=true:=by have:=hn.out;rw [z1] at this;simpa using this
  go_enter Tryz.func153,Tryz.ntmps153
  go_wp2_with fail
  go_region
  all_goals
   go_wp2_with fail
   refine bodyPost_ret (v:=.tuple #[Vl v m l g,Vl v' m' l' g',.bool false]) ?_ rfl ⟨rfl,?_⟩
   ·simp [results,Tryz.results153,go_sem]
   ·exact (by repeat (first | exact Below.refl _ _ | assumption | refine below_drewN ?_ _ | refine Below.drew ?_ | refine Below.alloc ?_ (by first | exact Nat.le_refl _ | (simp;done) | (simp;omega) | omega) _ | refine Below.setCell ?_ (by first | exact Nat.le_refl _ | (simp;done) | (simp;omega) | omega) _ | refine Below.trans ?_ (Below.mono (by assumption) (by first | exact Nat.le_refl _ | (simp;done) | (simp;omega) | omega))))
 ·go_enter Tryz.func153,Tryz.ntmps153
  go_wp2_with fail
  go_region
  all_goals
   go_wp2_with fail
   refine bodyPost_ret (v:=.tuple #[Vl v m l g,Vl v' m' l' g',.bool false]) ?_ rfl ⟨rfl,?_⟩
   ·simp [results,Tryz.results153,go_sem]
   ·exact (by repeat (first | exact Below.refl _ _ | assumption | refine below_drewN ?_ _ | refine Below.drew ?_ | refine Below.alloc ?_ (by first | exact Nat.le_refl _ | (simp;done) | (simp;omega) | omega) _ | refine Below.setCell ?_ (by first | exact Nat.le_refl _ | (simp;done) | (simp;omega) | omega) _ | refine Below.trans ?_ (Below.mono (by assumption) (by first | exact Nat.le_refl _ | (simp;done) | (simp;omega) | omega))))
set_option maxRecDepth 100000 in
set_option maxHeartbeats 4000000 in
theorem yaho {b1 b2:Nat} {v m l g v' m' l' g':BitVec 64} {w:World} (hc:Hid (Cap w b1 b2 v' m' l' g' v m l g)) (z1:eqb g' zero=false) (z2:eqb l top=false) :
  Calls Tryz.prog 153 #[PT b1,PT b2] w fun e w'=>e=.returned (.tuple #[Vl v m (bmax l l) (bmin g (bsub g' one)),Vl v' m' (bmax l' (badd l one)) (bmin g' g'),.bool true])∧Below w.heap.size w w':=by
 obtain ⟨s1,s2,a0,a1,a2,a3,c0,c1,c2,c3⟩:=hc.out
 have hK0:=((Kp.start w).add4 (.int .u64 0) (.int .u64 0) (.int .u64 0) (.int .u64 0) 49).add4 (.int .u64 0) (.int .u64 0) (.int .u64 0) (.int .u64 0) 49
 simp only [World.size_alloc] at hK0
 go_enter Tryz.func153,Tryz.ntmps153
 go_wp2_with fail
 go_quiet (fail)
 go_wp2_with fail
 have hS0:Kp w _ []:=(hK0.drew nq).drop'.drop'.keep (Below.drew (Below.refl _ _))
 have hR0:=(hK0.drew nq).keep (Below.drew (Below.refl _ _))
 have HS:Hid (∀ w',Kp w w' []→Kp w w' []∧w'.cell? ⟨b1,0,none⟩=some (U v')∧w'.cell? ⟨b1,1,none⟩=some (U m')∧w'.cell? ⟨b1,2,none⟩=some (U l')∧w'.cell? ⟨b1,3,none⟩=some (U g')∧w'.cell? ⟨b2,0,none⟩=some (U v)∧w'.cell? ⟨b2,1,none⟩=some (U m)∧w'.cell? ⟨b2,2,none⟩=some (U l)∧w'.cell? ⟨b2,3,none⟩=some (U g)):=by
  intro w' hk
  obtain ⟨_,_,d0,d1,d2,d3,f0,f1,f2,f3⟩:=hc.out.keep hk.bel
  exact ⟨hk,d0,d1,d2,d3,f0,f1,f2,f3⟩
 go_region_held3 (fun w'=>Kp w w' []∧w'.cell? ⟨b1,0,none⟩=some (U v')∧w'.cell? ⟨b1,1,none⟩=some (U m')∧w'.cell? ⟨b1,2,none⟩=some (U l')∧w'.cell? ⟨b1,3,none⟩=some (U g')∧w'.cell? ⟨b2,0,none⟩=some (U v)∧w'.cell? ⟨b2,1,none⟩=some (U m)∧w'.cell? ⟨b2,2,none⟩=some (U l)∧w'.cell? ⟨b2,3,none⟩=some (U g))
  ((refine HS.out _ ?_;repeat (first | refine Kp.other4 ?_ _ _ _ _ (by first | exact Nat.le_refl _ | omega) (by simp) | exact hS0 | refine Kp.keep ?_ (by assumption) | refine Kp.keep ?_ (Below.drew (Below.refl _ _)))))
  (first
   | (go_at_call 152;refine (zmm _ _ _ _ _ _ _).mono ?_;rintro e wk ⟨rfl,hb⟩;first | (have hR2:=hR1.keep hb;obtain ⟨t0,t1,t2,t3,t4,t5,t6,t7,t8⟩:=hR2.box.head.four;obtain ⟨r0,r1,r2,r3,r4,r5,r6,r7,r8⟩:=hR2.box.tail.head.four) | (have hR1:=hR0.keep hb)))
 all_goals
  go_wp2_with fail
  refine bodyPost_ret (v:=.tuple #[Vl v m (bmax l l) (bmin g (bsub g' one)),Vl v' m' (bmax l' (badd l one)) (bmin g' g'),.bool true]) ?_ rfl ⟨rfl,?_⟩
  ·simp [results,Tryz.results153,go_sem,t0,t1,t2,t3,r0,r1,r2,r3]
  ·exact ((hR2.set4 1 rfl).set4 0 rfl).bel
set_option maxRecDepth 100000 in
set_option maxHeartbeats 4000000 in
theorem yale {b1 b2:Nat} {v m l g v' m' l' g':BitVec 64} {w:World} {q:Bool} (hc:Hid (Cap w b1 b2 v m l g v' m' l' g')) (hq:Hid (q=(eqb l g&&(eqb l' g'&&eqb l l')))) :
  Calls Tryz.prog 146 #[PT b1,PT b2] w fun e w'=>e=.returned (.tuple #[Vl v m (woL l l' g') (woH l g l' g'),Vl v' m' (woL l' l g) (woH l' g' l g),.bool (!q)])∧Below w.heap.size w w':=by
 obtain ⟨s1,s2,a0,a1,a2,a3,c0,c1,c2,c3⟩:=hc.out
 obtain ⟨y1,Y1⟩:∃ b,Hid (eqb l g=b):=⟨_,rfl⟩
 obtain ⟨y2,Y2⟩:∃ b,Hid (eqb l' g'=b):=⟨_,rfl⟩
 obtain ⟨y3,Y3⟩:∃ b,eqb l l'=b:=⟨_,rfl⟩
 rw [Y1.out,Y2.out,Y3] at hq
 have hK0:=((Kp.start w).add4 (.int .u64 0) (.int .u64 0) (.int .u64 0) (.int .u64 0) 49).add4 (.int .u64 0) (.int .u64 0) (.int .u64 0) (.int .u64 0) 49
 simp only [World.size_alloc] at hK0
 go_enter Tryz.func146,Tryz.ntmps146
 go_upto_region 1 with fail
 go_cut [5] (fun u wc=>u=.bool q∧Kp w wc [(w.heap.size+1,[.int .u64 0,.int .u64 0,.int .u64 0,.int .u64 0]),(w.heap.size,[.int .u64 0,.int .u64 0,.int .u64 0,.int .u64 0])])
 case first =>
  go_wp2_with fail
  refine (zd6 Y1.out _).mono ?_
  rintro e w1 ⟨rfl,hb1⟩
  have hK1:=hK0.keep hb1
  clear s1 s2 a0 a1 a2 a3 c0 c1 c2 c3
  obtain ⟨s1,s2,a0,a1,a2,a3,c0,c1,c2,c3⟩:=hc.out.keep hK1.bel
  cases y1
  ·go_wp2_with fail
   go_meet
   case rel=>exact ⟨by rw [hq.out];rfl,hK1⟩
  ·go_wp2_with fail
   refine (zd6 Y2.out _).mono ?_
   rintro e w2 ⟨rfl,hb2⟩
   have hK2:=hK1.keep hb2
   clear s1 s2 a0 a1 a2 a3 c0 c1 c2 c3
   obtain ⟨s1,s2,a0,a1,a2,a3,c0,c1,c2,c3⟩:=hc.out.keep hK2.bel
   cases y2
   ·go_wp2_with fail
    go_meet
    case rel=>exact ⟨by rw [hq.out];rfl,hK2⟩
   ·cases y3
    all_goals
     go_wp2_with fail
     go_meet
     case rel=>exact ⟨by rw [hq.out];rfl,hK2⟩
 case rest =>
  clear hK0 hq Y1 Y2 Y3 s1 s2 a0 a1 a2 a3 c0 c1 c2 c3
  obtain ⟨rfl,hK0⟩:=hcut
  obtain ⟨s1,s2,a0,a1,a2,a3,c0,c1,c2,c3⟩:=hc.out.keep hK0.bel
  go_wp2_with fail
  have hS0:Kp w _ []:=(hK0).drop'.drop'.keep (Below.drew (Below.refl _ _))
  have hR0:=(hK0).keep (Below.drew (Below.refl _ _))
  have HS:Hid (∀ w',Kp w w' []→Kp w w' []∧w'.cell? ⟨b1,0,none⟩=some (U v)∧w'.cell? ⟨b1,1,none⟩=some (U m)∧w'.cell? ⟨b1,2,none⟩=some (U l)∧w'.cell? ⟨b1,3,none⟩=some (U g)∧w'.cell? ⟨b2,0,none⟩=some (U v')∧w'.cell? ⟨b2,1,none⟩=some (U m')∧w'.cell? ⟨b2,2,none⟩=some (U l')∧w'.cell? ⟨b2,3,none⟩=some (U g')):=by
   intro w' hk
   obtain ⟨_,_,d0,d1,d2,d3,f0,f1,f2,f3⟩:=hc.out.keep hk.bel
   exact ⟨hk,d0,d1,d2,d3,f0,f1,f2,f3⟩
  go_region_held3 (fun w'=>Kp w w' []∧w'.cell? ⟨b1,0,none⟩=some (U v)∧w'.cell? ⟨b1,1,none⟩=some (U m)∧w'.cell? ⟨b1,2,none⟩=some (U l)∧w'.cell? ⟨b1,3,none⟩=some (U g)∧w'.cell? ⟨b2,0,none⟩=some (U v')∧w'.cell? ⟨b2,1,none⟩=some (U m')∧w'.cell? ⟨b2,2,none⟩=some (U l')∧w'.cell? ⟨b2,3,none⟩=some (U g'))
   ((refine HS.out _ ?_;repeat (first | refine Kp.other4 ?_ _ _ _ _ (by first | exact Nat.le_refl _ | omega) (by simp) | exact hS0 | refine Kp.keep ?_ (by assumption) | refine Kp.keep ?_ (Below.drew (Below.refl _ _)))))
   (first
    | (go_at_call 148;refine (yafy _ _ _ _ _ _ _ _ _).mono ?_;rintro e wk ⟨rfl,hb⟩;first | (have hR2:=hR1.keep hb;obtain ⟨t0,t1,t2,t3,t4,t5,t6,t7,t8⟩:=hR2.box.head.four;obtain ⟨r0,r1,r2,r3,r4,r5,r6,r7,r8⟩:=hR2.box.tail.head.four) | (have hR1:=hR0.keep hb)))
  all_goals
   go_wp2_with fail
   refine bodyPost_ret (v:=.tuple #[Vl v m (woL l l' g') (woH l g l' g'),Vl v' m' (woL l' l g) (woH l' g' l g),.bool (!q)]) ?_ rfl ⟨rfl,?_⟩
   ·simp [results,Tryz.results146,go_sem,t0,t1,t2,t3,r0,r1,r2,r3]
   ·exact ((hR2.set4 1 rfl).set4 0 rfl).bel
end
section
attribute [local go_sem] zdb w_or zdd za3 zb4 zbd zc9 zc4 zda zbw zby zcz zb0 zdc zcn zc0 zb1 zbx zb2 zbz za1
set_option maxRecDepth 100000 in
set_option maxHeartbeats 4000000 in
theorem zgq {v m l g v' m' l' g' a b c d a' b' c' d' x y z t x' y' z' t':BitVec 64} {may i1 i2:Bool} {e1 e2:Int} (hr:Hid ((valB v m l g&&valB v' m' l' g')=true)) (w:World)
  (HR:Hid (∀ (B:Nat) w',Cap w' B (B+1) v m l g v' m' l' g'→Calls Tryz.prog 149 #[PT B,PT (B+1)] w' fun e w''=>e=.returned (.tuple #[Vl a b c d,Vl a' b' c' d',.bool may])∧Below w'.heap.size w' w''))
  (N1:Hid (∀ w,Calls Tryz.prog 156 #[Vl a b c d] w fun e w'=>e=.returned (.tuple #[Vl x y z t,.bool i1,N e1])∧Below w.heap.size w w'))
  (N2:Hid (∀ w,Calls Tryz.prog 156 #[Vl a' b' c' d'] w fun e w'=>e=.returned (.tuple #[Vl x' y' z' t',.bool i2,N e2])∧Below w.heap.size w w')) :
  Calls Tryz.prog 104 #[Vl v m l g,Vl v' m' l' g'] w fun e w'=>e=.returned (.tuple #[lv (may&&(i1&&i2)) (Vl x y z t),lv (may&&(i1&&i2)) (Vl x' y' z' t'),.bool (may&&(i1&&i2)),N 0])∧Below w.heap.size w w':=by
 have hK0:=((((Kp.start w).add4 (U v) (U m) (U l) (U g) 49).add4 (U v') (U m') (U l') (U g') 49).add4 (.int .u64 0) (.int .u64 0) (.int .u64 0) (.int .u64 0) 49).add4 (.int .u64 0) (.int .u64 0) (.int .u64 0) (.int .u64 0) 49
 simp only [World.size_alloc] at hK0
 have HC:Hid (∀ w',Below ((((w.alloc (.cells #[U v,U m,U l,U g] 49)).alloc (.cells #[U v',U m',U l',U g'] 49)).alloc (.cells #[.int .u64 0,.int .u64 0,.int .u64 0,.int .u64 0] 49)).alloc (.cells #[.int .u64 0,.int .u64 0,.int .u64 0,.int .u64 0] 49)).heap.size ((((w.alloc (.cells #[U v,U m,U l,U g] 49)).alloc (.cells #[U v',U m',U l',U g'] 49)).alloc (.cells #[.int .u64 0,.int .u64 0,.int .u64 0,.int .u64 0] 49)).alloc (.cells #[.int .u64 0,.int .u64 0,.int .u64 0,.int .u64 0] 49)) w'→Cap w' w.heap.size (w.heap.size+1) v m l g v' m' l' g'):=by
  intro w' hb
  have hk:=hK0.keep hb
  obtain ⟨b0,b1,b2,b3,_,_,_,_,b8⟩:=hk.box.tail.tail.head.four
  obtain ⟨a0,a1,a2,a3,_,_,_,_,a8⟩:=hk.box.tail.tail.tail.head.four
  exact ⟨a8,b8,a0,a1,a2,a3,b0,b1,b2,b3⟩
 obtain ⟨q,hq⟩:∃ q,Hid (q=(may&&(i1&&i2))):=⟨_,rfl⟩
 have HL:Hid (Calls Tryz.prog 145 #[Vl v m l g,Vl v' m' l' g',.func (.func 149) #[] #[PT w.heap.size,PT (w.heap.size+1)]] ((((w.alloc (.cells #[U v,U m,U l,U g] 49)).alloc (.cells #[U v',U m',U l',U g'] 49)).alloc (.cells #[.int .u64 0,.int .u64 0,.int .u64 0,.int .u64 0] 49)).alloc (.cells #[.int .u64 0,.int .u64 0,.int .u64 0,.int .u64 0] 49)) fun e w'=>e=.returned (.tuple #[lv q (Vl x y z t),lv q (Vl x' y' z' t'),.bool q,N 0])∧Below ((((w.alloc (.cells #[U v,U m,U l,U g] 49)).alloc (.cells #[U v',U m',U l',U g'] 49)).alloc (.cells #[.int .u64 0,.int .u64 0,.int .u64 0,.int .u64 0] 49)).alloc (.cells #[.int .u64 0,.int .u64 0,.int .u64 0,.int .u64 0] 49)).heap.size ((((w.alloc (.cells #[U v,U m,U l,U g] 49)).alloc (.cells #[U v',U m',U l',U g'] 49)).alloc (.cells #[.int .u64 0,.int .u64 0,.int .u64 0,.int .u64 0] 49)).alloc (.cells #[.int .u64 0,.int .u64 0,.int .u64 0,.int .u64 0] 49)) w'):=by
  show Calls _ _ _ _ _
  rw [hq.out]
  exact zy8 hr _ (hid (fun w' hb=>HR.out w.heap.size w' (HC.out w' hb))) N1 N2
 rw [← hq.out]
 clear hq N1 N2 HR HC hr
 go_enter Tryz.func104,Tryz.ntmps104
 go_wp2_with fail
 refine HL.out.mono ?_
 rintro e w1 ⟨rfl,hb1⟩
 have hK:=hK0.keep hb1
 clear HL
 obtain ⟨s0,s1,s2,s3,s4,s5,s6,s7,s8⟩:=hK.box.head.four
 obtain ⟨r0,r1,r2,r3,r4,r5,r6,r7,r8⟩:=hK.box.tail.head.four
 obtain ⟨b0,b1,b2,b3,b4,b5,b6,b7,b8⟩:=hK.box.tail.tail.head.four
 obtain ⟨a0,a1,a2,a3,a4,a5,a6,a7,a8⟩:=hK.box.tail.tail.tail.head.four
 cases q
 ·have e0:∀ a,lv false a=V0:=fun a=>rfl
  simp only [e0]
  go_wp2_with fail
  exact bodyPost_ret (v:=.tuple #[V0,V0,.bool false,N 0]) (by simp [results,Tryz.results104,go_sem,s0,s1,s2,s3,r0,r1,r2,r3]) rfl ⟨rfl,((hK.set4 1 rfl).set4 0 rfl).bel⟩
 ·have e0:∀ a,lv true a=a:=fun a=>rfl
  simp only [e0]
  go_wp2_with fail
  exact bodyPost_ret (v:=.tuple #[Vl x y z t,Vl x' y' z' t',.bool true,N 0]) (by simp [results,Tryz.results104,go_sem,s0,s1,s2,s3,r0,r1,r2,r3]) rfl ⟨rfl,((hK.set4 1 rfl).set4 0 rfl).bel⟩
set_option maxRecDepth 100000 in
set_option maxHeartbeats 4000000 in
theorem zmx {v m l g v' m' l' g' a b c d a' b' c' d' x y z t x' y' z' t':BitVec 64} {may i1 i2:Bool} {e1 e2:Int} (hr:Hid ((valB v m l g&&valB v' m' l' g')=true)) (w:World)
  (HR:Hid (∀ (B:Nat) w',Cap w' B (B+1) v m l g v' m' l' g'→Calls Tryz.prog 146 #[PT B,PT (B+1)] w' fun e w''=>e=.returned (.tuple #[Vl a b c d,Vl a' b' c' d',.bool may])∧Below w'.heap.size w' w''))
  (N1:Hid (∀ w,Calls Tryz.prog 156 #[Vl a b c d] w fun e w'=>e=.returned (.tuple #[Vl x y z t,.bool i1,N e1])∧Below w.heap.size w w'))
  (N2:Hid (∀ w,Calls Tryz.prog 156 #[Vl a' b' c' d'] w fun e w'=>e=.returned (.tuple #[Vl x' y' z' t',.bool i2,N e2])∧Below w.heap.size w w')) :
  Calls Tryz.prog 103 #[Vl v m l g,Vl v' m' l' g'] w fun e w'=>e=.returned (.tuple #[lv (may&&(i1&&i2)) (Vl x y z t),lv (may&&(i1&&i2)) (Vl x' y' z' t'),.bool (may&&(i1&&i2)),N 0])∧Below w.heap.size w w':=by
 have hK0:=((((Kp.start w).add4 (U v) (U m) (U l) (U g) 49).add4 (U v') (U m') (U l') (U g') 49).add4 (.int .u64 0) (.int .u64 0) (.int .u64 0) (.int .u64 0) 49).add4 (.int .u64 0) (.int .u64 0) (.int .u64 0) (.int .u64 0) 49
 simp only [World.size_alloc] at hK0
 have HC:Hid (∀ w',Below ((((w.alloc (.cells #[U v,U m,U l,U g] 49)).alloc (.cells #[U v',U m',U l',U g'] 49)).alloc (.cells #[.int .u64 0,.int .u64 0,.int .u64 0,.int .u64 0] 49)).alloc (.cells #[.int .u64 0,.int .u64 0,.int .u64 0,.int .u64 0] 49)).heap.size ((((w.alloc (.cells #[U v,U m,U l,U g] 49)).alloc (.cells #[U v',U m',U l',U g'] 49)).alloc (.cells #[.int .u64 0,.int .u64 0,.int .u64 0,.int .u64 0] 49)).alloc (.cells #[.int .u64 0,.int .u64 0,.int .u64 0,.int .u64 0] 49)) w'→Cap w' w.heap.size (w.heap.size+1) v m l g v' m' l' g'):=by
  intro w' hb
  have hk:=hK0.keep hb
  obtain ⟨b0,b1,b2,b3,_,_,_,_,b8⟩:=hk.box.tail.tail.head.four
  obtain ⟨a0,a1,a2,a3,_,_,_,_,a8⟩:=hk.box.tail.tail.tail.head.four
  exact ⟨a8,b8,a0,a1,a2,a3,b0,b1,b2,b3⟩
 obtain ⟨q,hq⟩:∃ q,Hid (q=(may&&(i1&&i2))):=⟨_,rfl⟩
 have HL:Hid (Calls Tryz.prog 145 #[Vl v m l g,Vl v' m' l' g',.func (.func 146) #[] #[PT w.heap.size,PT (w.heap.size+1)]] ((((w.alloc (.cells #[U v,U m,U l,U g] 49)).alloc (.cells #[U v',U m',U l',U g'] 49)).alloc (.cells #[.int .u64 0,.int .u64 0,.int .u64 0,.int .u64 0] 49)).alloc (.cells #[.int .u64 0,.int .u64 0,.int .u64 0,.int .u64 0] 49)) fun e w'=>e=.returned (.tuple #[lv q (Vl x y z t),lv q (Vl x' y' z' t'),.bool q,N 0])∧Below ((((w.alloc (.cells #[U v,U m,U l,U g] 49)).alloc (.cells #[U v',U m',U l',U g'] 49)).alloc (.cells #[.int .u64 0,.int .u64 0,.int .u64 0,.int .u64 0] 49)).alloc (.cells #[.int .u64 0,.int .u64 0,.int .u64 0,.int .u64 0] 49)).heap.size ((((w.alloc (.cells #[U v,U m,U l,U g] 49)).alloc (.cells #[U v',U m',U l',U g'] 49)).alloc (.cells #[.int .u64 0,.int .u64 0,.int .u64 0,.int .u64 0] 49)).alloc (.cells #[.int .u64 0,.int .u64 0,.int .u64 0,.int .u64 0] 49)) w'):=by
  show Calls _ _ _ _ _
  rw [hq.out]
  exact zx5 hr _ (hid (fun w' hb=>HR.out w.heap.size w' (HC.out w' hb))) N1 N2
 rw [← hq.out]
 clear hq N1 N2 HR HC hr
 go_enter Tryz.func103,Tryz.ntmps103
 go_wp2_with fail
 refine HL.out.mono ?_
 rintro e w1 ⟨rfl,hb1⟩
 have hK:=hK0.keep hb1
 clear HL
 obtain ⟨s0,s1,s2,s3,s4,s5,s6,s7,s8⟩:=hK.box.head.four
 obtain ⟨r0,r1,r2,r3,r4,r5,r6,r7,r8⟩:=hK.box.tail.head.four
 obtain ⟨b0,b1,b2,b3,b4,b5,b6,b7,b8⟩:=hK.box.tail.tail.head.four
 obtain ⟨a0,a1,a2,a3,a4,a5,a6,a7,a8⟩:=hK.box.tail.tail.tail.head.four
 cases q
 ·have e0:∀ a,lv false a=V0:=fun a=>rfl
  simp only [e0]
  go_wp2_with fail
  exact bodyPost_ret (v:=.tuple #[V0,V0,.bool false,N 0]) (by simp [results,Tryz.results103,go_sem,s0,s1,s2,s3,r0,r1,r2,r3]) rfl ⟨rfl,((hK.set4 1 rfl).set4 0 rfl).bel⟩
 ·have e0:∀ a,lv true a=a:=fun a=>rfl
  simp only [e0]
  go_wp2_with fail
  exact bodyPost_ret (v:=.tuple #[Vl x y z t,Vl x' y' z' t',.bool true,N 0]) (by simp [results,Tryz.results103,go_sem,s0,s1,s2,s3,r0,r1,r2,r3]) rfl ⟨rfl,((hK.set4 1 rfl).set4 0 rfl).bel⟩
set_option maxRecDepth 100000 in
set_option maxHeartbeats 4000000 in
theorem zh5 {v m l g v' m' l' g' a b c d a' b' c' d' x y z t x' y' z' t':BitVec 64} {may i1 i2:Bool} {e1 e2:Int} (hr:Hid ((valB v m l g&&valB v' m' l' g')=true)) (w:World)
  (HR:Hid (∀ (B:Nat) w',Cap w' (B+1) B v' m' l' g' v m l g→Calls Tryz.prog 153 #[PT (B+1),PT B] w' fun e w''=>e=.returned (.tuple #[Vl a b c d,Vl a' b' c' d',.bool may])∧Below w'.heap.size w' w''))
  (N1:Hid (∀ w,Calls Tryz.prog 156 #[Vl a b c d] w fun e w'=>e=.returned (.tuple #[Vl x y z t,.bool i1,N e1])∧Below w.heap.size w w'))
  (N2:Hid (∀ w,Calls Tryz.prog 156 #[Vl a' b' c' d'] w fun e w'=>e=.returned (.tuple #[Vl x' y' z' t',.bool i2,N e2])∧Below w.heap.size w w')) :
  Calls Tryz.prog 106 #[Vl v m l g,Vl v' m' l' g'] w fun e w'=>e=.returned (.tuple #[lv (may&&(i1&&i2)) (Vl x y z t),lv (may&&(i1&&i2)) (Vl x' y' z' t'),.bool (may&&(i1&&i2)),N 0])∧Below w.heap.size w w':=by
 have hK0:=((((Kp.start w).add4 (U v) (U m) (U l) (U g) 49).add4 (U v') (U m') (U l') (U g') 49).add4 (.int .u64 0) (.int .u64 0) (.int .u64 0) (.int .u64 0) 49).add4 (.int .u64 0) (.int .u64 0) (.int .u64 0) (.int .u64 0) 49
 simp only [World.size_alloc] at hK0
 have HC:Hid (∀ w',Below ((((w.alloc (.cells #[U v,U m,U l,U g] 49)).alloc (.cells #[U v',U m',U l',U g'] 49)).alloc (.cells #[.int .u64 0,.int .u64 0,.int .u64 0,.int .u64 0] 49)).alloc (.cells #[.int .u64 0,.int .u64 0,.int .u64 0,.int .u64 0] 49)).heap.size ((((w.alloc (.cells #[U v,U m,U l,U g] 49)).alloc (.cells #[U v',U m',U l',U g'] 49)).alloc (.cells #[.int .u64 0,.int .u64 0,.int .u64 0,.int .u64 0] 49)).alloc (.cells #[.int .u64 0,.int .u64 0,.int .u64 0,.int .u64 0] 49)) w'→Cap w' (w.heap.size+1) w.heap.size v' m' l' g' v m l g):=by
  intro w' hb
  have hk:=hK0.keep hb
  obtain ⟨b0,b1,b2,b3,_,_,_,_,b8⟩:=hk.box.tail.tail.head.four
  obtain ⟨a0,a1,a2,a3,_,_,_,_,a8⟩:=hk.box.tail.tail.tail.head.four
  exact ⟨b8,a8,b0,b1,b2,b3,a0,a1,a2,a3⟩
 obtain ⟨q,hq⟩:∃ q,Hid (q=(may&&(i1&&i2))):=⟨_,rfl⟩
 have HL:Hid (Calls Tryz.prog 145 #[Vl v m l g,Vl v' m' l' g',.func (.func 153) #[] #[PT (w.heap.size+1),PT w.heap.size]] ((((w.alloc (.cells #[U v,U m,U l,U g] 49)).alloc (.cells #[U v',U m',U l',U g'] 49)).alloc (.cells #[.int .u64 0,.int .u64 0,.int .u64 0,.int .u64 0] 49)).alloc (.cells #[.int .u64 0,.int .u64 0,.int .u64 0,.int .u64 0] 49)) fun e w'=>e=.returned (.tuple #[lv q (Vl x y z t),lv q (Vl x' y' z' t'),.bool q,N 0])∧Below ((((w.alloc (.cells #[U v,U m,U l,U g] 49)).alloc (.cells #[U v',U m',U l',U g'] 49)).alloc (.cells #[.int .u64 0,.int .u64 0,.int .u64 0,.int .u64 0] 49)).alloc (.cells #[.int .u64 0,.int .u64 0,.int .u64 0,.int .u64 0] 49)).heap.size ((((w.alloc (.cells #[U v,U m,U l,U g] 49)).alloc (.cells #[U v',U m',U l',U g'] 49)).alloc (.cells #[.int .u64 0,.int .u64 0,.int .u64 0,.int .u64 0] 49)).alloc (.cells #[.int .u64 0,.int .u64 0,.int .u64 0,.int .u64 0] 49)) w'):=by
  show Calls _ _ _ _ _
  rw [hq.out]
  exact yac7 hr _ (hid (fun w' hb=>HR.out w.heap.size w' (HC.out w' hb))) N1 N2
 rw [← hq.out]
 clear hq N1 N2 HR HC hr
 go_enter Tryz.func106,Tryz.ntmps106
 go_wp2_with fail
 refine HL.out.mono ?_
 rintro e w1 ⟨rfl,hb1⟩
 have hK:=hK0.keep hb1
 clear HL
 obtain ⟨s0,s1,s2,s3,s4,s5,s6,s7,s8⟩:=hK.box.head.four
 obtain ⟨r0,r1,r2,r3,r4,r5,r6,r7,r8⟩:=hK.box.tail.head.four
 obtain ⟨b0,b1,b2,b3,b4,b5,b6,b7,b8⟩:=hK.box.tail.tail.head.four
 obtain ⟨a0,a1,a2,a3,a4,a5,a6,a7,a8⟩:=hK.box.tail.tail.tail.head.four
 cases q
 ·have e0:∀ a,lv false a=V0:=fun a=>rfl
  simp only [e0]
  go_wp2_with fail
  exact bodyPost_ret (v:=.tuple #[V0,V0,.bool false,N 0]) (by simp [results,Tryz.results106,go_sem,s0,s1,s2,s3,r0,r1,r2,r3]) rfl ⟨rfl,((hK.set4 1 rfl).set4 0 rfl).bel⟩
 ·have e0:∀ a,lv true a=a:=fun a=>rfl
  simp only [e0]
  go_wp2_with fail
  exact bodyPost_ret (v:=.tuple #[Vl x y z t,Vl x' y' z' t',.bool true,N 0]) (by simp [results,Tryz.results106,go_sem,s0,s1,s2,s3,r0,r1,r2,r3]) rfl ⟨rfl,((hK.set4 1 rfl).set4 0 rfl).bel⟩
set_option maxRecDepth 100000 in
set_option maxHeartbeats 4000000 in
theorem zjp {v m l g v' m' l' g' a b c d a' b' c' d' x y z t x' y' z' t':BitVec 64} {may i1 i2:Bool} {e1 e2:Int} (hr:Hid ((valB v m l g&&valB v' m' l' g')=true)) (w:World)
  (HR:Hid (∀ (B:Nat) w',Cap w' B (B+1) v m l g v' m' l' g'→Calls Tryz.prog 151 #[PT B,PT (B+1)] w' fun e w''=>e=.returned (.tuple #[Vl a b c d,Vl a' b' c' d',.bool may])∧Below w'.heap.size w' w''))
  (N1:Hid (∀ w,Calls Tryz.prog 156 #[Vl a b c d] w fun e w'=>e=.returned (.tuple #[Vl x y z t,.bool i1,N e1])∧Below w.heap.size w w'))
  (N2:Hid (∀ w,Calls Tryz.prog 156 #[Vl a' b' c' d'] w fun e w'=>e=.returned (.tuple #[Vl x' y' z' t',.bool i2,N e2])∧Below w.heap.size w w')) :
  Calls Tryz.prog 105 #[Vl v m l g,Vl v' m' l' g'] w fun e w'=>e=.returned (.tuple #[lv (may&&(i1&&i2)) (Vl x y z t),lv (may&&(i1&&i2)) (Vl x' y' z' t'),.bool (may&&(i1&&i2)),N 0])∧Below w.heap.size w w':=by
 have hK0:=((((Kp.start w).add4 (U v) (U m) (U l) (U g) 49).add4 (U v') (U m') (U l') (U g') 49).add4 (.int .u64 0) (.int .u64 0) (.int .u64 0) (.int .u64 0) 49).add4 (.int .u64 0) (.int .u64 0) (.int .u64 0) (.int .u64 0) 49
 simp only [World.size_alloc] at hK0
 have HC:Hid (∀ w',Below ((((w.alloc (.cells #[U v,U m,U l,U g] 49)).alloc (.cells #[U v',U m',U l',U g'] 49)).alloc (.cells #[.int .u64 0,.int .u64 0,.int .u64 0,.int .u64 0] 49)).alloc (.cells #[.int .u64 0,.int .u64 0,.int .u64 0,.int .u64 0] 49)).heap.size ((((w.alloc (.cells #[U v,U m,U l,U g] 49)).alloc (.cells #[U v',U m',U l',U g'] 49)).alloc (.cells #[.int .u64 0,.int .u64 0,.int .u64 0,.int .u64 0] 49)).alloc (.cells #[.int .u64 0,.int .u64 0,.int .u64 0,.int .u64 0] 49)) w'→Cap w' w.heap.size (w.heap.size+1) v m l g v' m' l' g'):=by
  intro w' hb
  have hk:=hK0.keep hb
  obtain ⟨b0,b1,b2,b3,_,_,_,_,b8⟩:=hk.box.tail.tail.head.four
  obtain ⟨a0,a1,a2,a3,_,_,_,_,a8⟩:=hk.box.tail.tail.tail.head.four
  exact ⟨a8,b8,a0,a1,a2,a3,b0,b1,b2,b3⟩
 obtain ⟨q,hq⟩:∃ q,Hid (q=(may&&(i1&&i2))):=⟨_,rfl⟩
 have HL:Hid (Calls Tryz.prog 145 #[Vl v m l g,Vl v' m' l' g',.func (.func 151) #[] #[PT w.heap.size,PT (w.heap.size+1)]] ((((w.alloc (.cells #[U v,U m,U l,U g] 49)).alloc (.cells #[U v',U m',U l',U g'] 49)).alloc (.cells #[.int .u64 0,.int .u64 0,.int .u64 0,.int .u64 0] 49)).alloc (.cells #[.int .u64 0,.int .u64 0,.int .u64 0,.int .u64 0] 49)) fun e w'=>e=.returned (.tuple #[lv q (Vl x y z t),lv q (Vl x' y' z' t'),.bool q,N 0])∧Below ((((w.alloc (.cells #[U v,U m,U l,U g] 49)).alloc (.cells #[U v',U m',U l',U g'] 49)).alloc (.cells #[.int .u64 0,.int .u64 0,.int .u64 0,.int .u64 0] 49)).alloc (.cells #[.int .u64 0,.int .u64 0,.int .u64 0,.int .u64 0] 49)).heap.size ((((w.alloc (.cells #[U v,U m,U l,U g] 49)).alloc (.cells #[U v',U m',U l',U g'] 49)).alloc (.cells #[.int .u64 0,.int .u64 0,.int .u64 0,.int .u64 0] 49)).alloc (.cells #[.int .u64 0,.int .u64 0,.int .u64 0,.int .u64 0] 49)) w'):=by
  show Calls _ _ _ _ _
  rw [hq.out]
  exact zqx hr _ (hid (fun w' hb=>HR.out w.heap.size w' (HC.out w' hb))) N1 N2
 rw [← hq.out]
 clear hq N1 N2 HR HC hr
 go_enter Tryz.func105,Tryz.ntmps105
 go_wp2_with fail
 refine HL.out.mono ?_
 rintro e w1 ⟨rfl,hb1⟩
 have hK:=hK0.keep hb1
 clear HL
 obtain ⟨s0,s1,s2,s3,s4,s5,s6,s7,s8⟩:=hK.box.head.four
 obtain ⟨r0,r1,r2,r3,r4,r5,r6,r7,r8⟩:=hK.box.tail.head.four
 obtain ⟨b0,b1,b2,b3,b4,b5,b6,b7,b8⟩:=hK.box.tail.tail.head.four
 obtain ⟨a0,a1,a2,a3,a4,a5,a6,a7,a8⟩:=hK.box.tail.tail.tail.head.four
 cases q
 ·have e0:∀ a,lv false a=V0:=fun a=>rfl
  simp only [e0]
  go_wp2_with fail
  exact bodyPost_ret (v:=.tuple #[V0,V0,.bool false,N 0]) (by simp [results,Tryz.results105,go_sem,s0,s1,s2,s3,r0,r1,r2,r3]) rfl ⟨rfl,((hK.set4 1 rfl).set4 0 rfl).bel⟩
 ·have e0:∀ a,lv true a=a:=fun a=>rfl
  simp only [e0]
  go_wp2_with fail
  exact bodyPost_ret (v:=.tuple #[Vl x y z t,Vl x' y' z' t',.bool true,N 0]) (by simp [results,Tryz.results105,go_sem,s0,s1,s2,s3,r0,r1,r2,r3]) rfl ⟨rfl,((hK.set4 1 rfl).set4 0 rfl).bel⟩
end
section
attribute [local go_sem] zdb w_or zdd za3 zb4 zbd zc9 zc4 zda zbw zby zcz zb0 zdc zcn zc0 zb1 zbx zb2 zbz za1
def bi (b:Bool):Int:=if b then 1 else 0
def bo (op:Int) (x y c:Bool):Bool×Bool :=
 if op=2 then ((x ^^ y) ^^ c,(x&&y)||(c&&(x||y)))
 else if op=3 then ((x ^^ y) ^^ c,(!x&&y)||(c&&(!x||y)))
 else if op=5 then (x&&y,false)
 else if op=6 then (x||y,false)
 else (x ^^ y,false)
theorem yau4 {op:Int} (h2:op≠2) (h3:op≠3) (h5:op≠5) (h6:op≠6) (x y c:Bool):bo op x y c=(x ^^ y,false):=by
 unfold bo;rw [if_neg h2,if_neg h3,if_neg h5,if_neg h6]
set_option maxHeartbeats 4000000 in
theorem yala (op:Int) (x y c:Bool) (w:World) :
  Calls Tryz.prog 189 #[N op,N (bi x),N (bi y),N (bi c)] w fun e w'=>e=.returned (.tuple #[N (bi (bo op x y c).1),N (bi (bo op x y c).2)])∧w=w':=by
 by_cases hop:op=2∨op=3∨op=5∨op=6
 ·generalize h1:bi (bo op x y c).1=r1
  generalize h2:bi (bo op x y c).2=r2
  have H1:Hid (bi (bo op x y c).1=r1):=h1
  have H2:Hid (bi (bo op x y c).2=r2):=h2
  clear h1 h2
  rcases hop with rfl | rfl | rfl | rfl <;> cases x <;> cases y <;> cases c
  all_goals
   simp only [bi,if_true,if_false,Bool.false_eq_true]
   go_enter Tryz.func189,Tryz.ntmps189
   go_wp2_with fail
   go_ret2
   rw [← H1.out,← H2.out]
   exact ⟨rfl,rfl⟩
 ·have h2:op≠2:=by omega
  have h3:op≠3:=by omega
  have h5:op≠5:=by omega
  have h6:op≠6:=by omega
  generalize g1:bi (bo op x y c).1=r1
  generalize g2:bi (bo op x y c).2=r2
  rw [yau4 h2 h3 h5 h6] at g1 g2
  have H1:Hid (bi (x ^^ y)=r1):=g1
  have H2:Hid (bi false=r2):=g2
  clear g1 g2
  have e2:(op==2)=false:=by simpa using h2
  have e3:(op==3)=false:=by simpa using h3
  have e5:(op==5)=false:=by simpa using h5
  have e6:(op==6)=false:=by simpa using h6
  clear h2 h3 h5 h6 hop
  cases x <;> cases y <;> cases c
  all_goals
   simp only [bi,if_true,if_false,Bool.false_eq_true]
   go_enter Tryz.func189,Tryz.ntmps189
   go_wp2_with fail
   go_ret2
   rw [← H1.out,← H2.out]
   exact ⟨rfl,rfl⟩
end
theorem Kp.set1 {w0 w:World} {b i:Nat} {v u:Value} {vs:List Value} {L:List (Nat×List Value)} (k:Nat) (h:Kp w0 w L) (e:L[k]?=some (b,vs)) (hi:vs[i]?=some u) :
  Kp w0 (w.setCell ⟨b,i,none⟩ v) (L.set k (b,vs.set i v)):=by
 have hlo:w0.heap.size≤b:=h.lo _ (List.mem_of_getElem? e)
 refine ⟨h.bel.setCell hlo v,Boxes.setOne k h.box e hi,fun p hp=>?_⟩
 rcases List.mem_or_eq_of_mem_set hp with h1 | h1
 ·exact h.lo p h1
 ·rw [h1];exact hlo
def kx (k:Nat):Bool:=k % 2==1
def ky (k:Nat):Bool:=k / 2 % 2==1
def kc (k:Nat):Bool:=k / 4==1
def alw (z o u p c0 c1:Bool) (k:Nat):Bool:=(if kx k then o else z)&&(if ky k then p else u)&&(if kc k then c1 else c0)
def put1 (q:Bool×Bool) (b:Bool):Bool×Bool:=if b then (q.1,true) else (true,q.2)
def inn (op:Int) (z o u p c0 c1:Bool):Nat→(Bool×Bool)×(Bool×Bool)
 | 0=>((false,false),(false,false))
 | k+1=>if alw z o u p c0 c1 k then (put1 (inn op z o u p c0 c1 k).1 (bo op (kx k) (ky k) (kc k)).1,put1 (inn op z o u p c0 c1 k).2 (bo op (kx k) (ky k) (kc k)).2) else inn op z o u p c0 c1 k
theorem zcp {op:Int} {z o u p c0 c1:Bool} {k:Nat} {s:(Bool×Bool)×(Bool×Bool)} (h:inn op z o u p c0 c1 k=s) (ha:alw z o u p c0 c1 k=false):inn op z o u p c0 c1 (k+1)=s:=by
 simp only [inn];rw [if_neg (by rw [ha];decide),h]
theorem zg6 {op:Int} {z o u p c0 c1:Bool} {k:Nat} {s:(Bool×Bool)×(Bool×Bool)} {b1 b2 x y c:Bool} (h:inn op z o u p c0 c1 k=s) (ha:alw z o u p c0 c1 k=true)
  (hx:kx k=x) (hy:ky k=y) (hc:kc k=c) (hb:bo op x y c=(b1,b2)):inn op z o u p c0 c1 (k+1)=(put1 s.1 b1,put1 s.2 b2):=by
 simp only [inn];rw [if_pos ha,h,hx,hy,hc,hb]
def twoC (op:Int) (av am bv bm:BitVec 64):Nat→Bool×Bool
 | 0=>(true,false)
 | i+1=>(inn op (mz av i) (mo av am i) (mz bv i) (mo bv bm i) (twoC op av am bv bm i).1 (twoC op av am bv bm i).2 8).2
def twoR (op:Int) (av am bv bm:BitVec 64) (i:Nat):Bool×Bool :=
 (inn op (mz av i) (mo av am i) (mz bv i) (mo bv bm i) (twoC op av am bv bm i).1 (twoC op av am bv bm i).2 8).1
def twoV (op:Int) (av am bv bm:BitVec 64) (k:Nat):BitVec 64:=acc (fun j=>(twoR op av am bv bm j).2&&!(twoR op av am bv bm j).1) k
def twoM (op:Int) (av am bv bm:BitVec 64) (k:Nat):BitVec 64:=acc (fun j=>(twoR op av am bv bm j).2&&(twoR op av am bv bm j).1) k
theorem yah5 (op:Int) (av am bv bm:BitVec 64) (k:Nat):putV (twoV op av am bv bm k) k (twoR op av am bv bm k).1 (twoR op av am bv bm k).2=twoV op av am bv bm (k+1):=zlq (fun j=>(twoR op av am bv bm j).1) (fun j=>(twoR op av am bv bm j).2) k
theorem yalz (op:Int) (av am bv bm:BitVec 64) (k:Nat):putM (twoM op av am bv bm k) k (twoR op av am bv bm k).1 (twoR op av am bv bm k).2=twoM op av am bv bm (k+1):=zlo (fun j=>(twoR op av am bv bm j).1) (fun j=>(twoR op av am bv bm j).2) k
theorem ze9 {op:Int} {x y c b1 b2:Bool} (h:Hid (bo op x y c=(b1,b2))) (w:World) :
  Calls Tryz.prog 189 #[N op,N (bi x),N (bi y),N (bi c)] w fun e w'=>e=.returned (.tuple #[N (bi b1),N (bi b2)])∧w=w':=by
 have:=yala op x y c w
 rw [h.out] at this
 exact this
theorem zuk (op:Int) (x y c:Bool):∃ b1 b2,Hid (bo op x y c=(b1,b2)):=⟨_,_,rfl⟩
end Go.Proofs.YtkigmocchaikgabGreatDoor
