import Derived.Test.YtkigmocchaikgabGreatDoorDj3
import Derived.Laws.MathBits
import Derived.Laws.StructEq
import Derived.Deep.RegionWith
import Derived.Deep.CutBlock
import Derived.Deep.DeepCutAuto
import Derived.Test.YtkigmocchaikgabGreatDoorDj1
import Derived.Test.YtkigmocchaikgabGreatDoorDj2
import Derived.Test.YtkigmocchaikgabGreatDoorProg
import Derived.Test.YtkigmocchaikgabGreatDoorShelf
import Derived.WalkKit
import Derived.WalkSpells
import Derived.WalkLawsBesides
import Derived.Handy
import Derived.Below
import Derived.Lib.ParseIntBCases
import Derived.Lib.ItoaMem
import Derived.Lib.AppendIntMem
import Derived.Lib.Walk
import Derived.BigCall
import Derived.BigGuard
import Derived.Lib.ItoaLen
import Derived.Maps.Own
import Derived.StringKeys
import Derived.Maps.OwnOps
import Derived.Maps.OwnSet
import Derived.Maps.RangeWalk
import Derived.Shelf.Strings.Builder1
import Derived.Lib.FrozenHead
import Derived.Lib.OthersKept
/- The contracts of the reference's ShiftBits, SpanBits, InsideBits, BitsHave. -/
namespace Go.Proofs.YtkigmocchaikgabGreatDoor
open Go.RowKit
section
attribute [local go_sem] zc9 w_or zdf za3 zbx zbc zda zcy zdb zbw zb4 zc3 zby zdc zcn zcz zb1 zb3 zb2 zb0 za1
set_option maxHeartbeats 600000 in
theorem zf6 (up:Bool) (op:Int) (hop:op=if up then 8 else 9) (v m:BitVec 64) (n:Nat) (hn:n<64) (w:World) :
  Calls Tryz.prog 125 #[N op,Bt v m,N n] w fun e w'=>e=.returned (Bt (shV up v m n 64) (shM up v m n 64))∧Below w.heap.size w w':=by
 have hop9:(op==9)=!up:=by cases up <;> simp [hop]
 clear hop
 go_enter Tryz.func125,Tryz.ntmps125
 go_wp2
 go_loopw [8] (fun i wr=>∃ k:Nat,k≤64∧i=N k
   ∧ Below (w.heap.size+1+1) ((w.alloc (.cells #[U v,U m] 47)).alloc (.cells #[.int .u64 0,.int .u64 0] 47)) wr
   ∧ wr.cell? ⟨w.heap.size+1+1,0,none⟩=some (U (shV up v m n k))∧wr.cell? ⟨w.heap.size+1+1,1,none⟩=some (U (shM up v m n k))
   ∧ (∀ o,wr.frozen? ⟨w.heap.size+1+1,o,none⟩=false)
   ∧ w.heap.size+1+1+1≤wr.heap.size) (fun i _=>64 - (intOf i).toNat)
 case atStart =>
  exact ⟨0,by omega,rfl,(by repeat (first | exact Below.refl _ _ | assumption | refine below_drewN ?_ _ | refine Below.drew ?_ | refine Below.alloc ?_ (by first | exact Nat.le_refl _ | (simp;done) | (simp;omega) | omega) _ | refine Below.setCell ?_ (by first | exact Nat.le_refl _ | (simp;done) | (simp;omega) | omega) _ | refine Below.trans ?_ (Below.mono (by assumption) (by first | exact Nat.le_refl _ | (simp;done) | (simp;omega) | omega)))),by simp [shV,acc,za4,go_sem],by simp [shM,acc,za4,go_sem],by simp [go_sem],by simp⟩
 case round =>
  obtain ⟨k,hk,rfl,hbel,ho0,ho1,hfo,hsz⟩:=hrel
  obtain ⟨hc,hf⟩:=bl hbel
  by_cases hlt:k<64
  ·cases up
   ·by_cases hin:k+n<64
    ·obtain ⟨z1,o1,H1,H2⟩:=zg0 v m (k+n)
     have hs:=yaoh false v m n k (k+n) (by simp [zea]) hin
     have Hz:Hid (z1=shz false v n k):=H1.out.trans hs.1
     have Ho:Hid (o1=sho false v m n k):=H2.out.trans hs.2
     clear hs
     go_wp2_with fail
     refine (zp5 (by omega) _).mono ?_
     rintro e w0 ⟨rfl,rfl⟩
     go_wp2_with fail
     rw [show (k:Int)+(n:Int)=((k+n:Nat):Int) from by omega]
     refine (zbj hin H1 H2 _).mono ?_
     rintro e w1 ⟨rfl,hb1⟩
     obtain ⟨hc1,hf1,hs1⟩:=bk _ hb1 hsz
     go_wp2_with fail
     refine (zf5 _ _ k hlt _ _ _).mono ?_
     rintro e w3 ⟨rfl,hb3⟩
     obtain ⟨hc3,hf3,hs3⟩:=bk _ hb3 hs1
     go_wp2_with fail
     exact ⟨⟨k+1,by omega,by go_num,zeh hbel (hb1.trans (hb3.mono hb1.size)) hsz ho0 ho1 hfo
      (by rw [← zli,← Hz.out,← Ho.out]) (by rw [← zln,← Hz.out,← Ho.out])⟩,by simp [intOf];omega⟩
    ·have hs:=yaca false v m n k (by simp [zea];omega)
     have Hz:Hid (true=shz false v n k):=hs.1
     have Ho:Hid (false=sho false v m n k):=hs.2
     clear hs
     go_wp2_with fail
     refine (zum (by omega) _).mono ?_
     rintro e w0 ⟨rfl,rfl⟩
     go_wp2_with fail
     refine (zf5 _ _ k hlt _ _ _).mono ?_
     rintro e w3 ⟨rfl,hb3⟩
     obtain ⟨hc3,hf3,hs3⟩:=bk _ hb3 hsz
     go_wp2_with fail
     exact ⟨⟨k+1,by omega,by go_num,zeh hbel hb3 hsz ho0 ho1 hfo
      (by rw [← zli,← Hz.out,← Ho.out]) (by rw [← zln,← Hz.out,← Ho.out])⟩,by simp [intOf];omega⟩
   ·by_cases hin:n≤k
    ·obtain ⟨z1,o1,H1,H2⟩:=zg0 v m (k - n)
     have hs:=yaoh true v m n k (k - n) (by simp [zea];omega) (by omega)
     have Hz:Hid (z1=shz true v n k):=H1.out.trans hs.1
     have Ho:Hid (o1=sho true v m n k):=H2.out.trans hs.2
     clear hs
     go_wp2_with fail
     refine (zp5 (by omega) _).mono ?_
     rintro e w0 ⟨rfl,rfl⟩
     go_wp2_with fail
     rw [show (k:Int) - (n:Int)=((k - n:Nat):Int) from by omega]
     refine (zbj (by omega) H1 H2 _).mono ?_
     rintro e w1 ⟨rfl,hb1⟩
     obtain ⟨hc1,hf1,hs1⟩:=bk _ hb1 hsz
     go_wp2_with fail
     refine (zf5 _ _ k hlt _ _ _).mono ?_
     rintro e w3 ⟨rfl,hb3⟩
     obtain ⟨hc3,hf3,hs3⟩:=bk _ hb3 hs1
     go_wp2_with fail
     exact ⟨⟨k+1,by omega,by go_num,zeh hbel (hb1.trans (hb3.mono hb1.size)) hsz ho0 ho1 hfo
      (by rw [← zli,← Hz.out,← Ho.out]) (by rw [← zln,← Hz.out,← Ho.out])⟩,by simp [intOf];omega⟩
    ·have hs:=yaca true v m n k (by simp [zea];omega)
     have Hz:Hid (true=shz true v n k):=hs.1
     have Ho:Hid (false=sho true v m n k):=hs.2
     clear hs
     go_wp2_with fail
     refine (zum (by omega) _).mono ?_
     rintro e w0 ⟨rfl,rfl⟩
     go_wp2_with fail
     refine (zf5 _ _ k hlt _ _ _).mono ?_
     rintro e w3 ⟨rfl,hb3⟩
     obtain ⟨hc3,hf3,hs3⟩:=bk _ hb3 hsz
     go_wp2_with fail
     exact ⟨⟨k+1,by omega,by go_num,zeh hbel hb3 hsz ho0 ho1 hfo
      (by rw [← zli,← Hz.out,← Ho.out]) (by rw [← zln,← Hz.out,← Ho.out])⟩,by simp [intOf];omega⟩
  ·have hk64:k=64:=by omega
   subst hk64
   go_wp2_with fail
   exact bodyPost_ret (v:=Bt (shV up v m n 64) (shM up v m n 64)) (by simp [results,Tryz.results125,go_sem,hc]) rfl ⟨rfl,(by repeat (first | exact Below.refl _ _ | assumption | refine below_drewN ?_ _ | refine Below.drew ?_ | refine Below.alloc ?_ (by first | exact Nat.le_refl _ | (simp;done) | (simp;omega) | omega) _ | refine Below.setCell ?_ (by first | exact Nat.le_refl _ | (simp;done) | (simp;omega) | omega) _ | refine Below.trans ?_ (Below.mono (by assumption) (by first | exact Nat.le_refl _ | (simp;done) | (simp;omega) | omega))))⟩
set_option maxHeartbeats 600000 in
theorem zuq (l h:BitVec 64) (w:World) :
  Calls Tryz.prog 170 #[U l,U h] w fun e w'=>e=.returned (Bt (zzs l h 64) (zx8 l h 64))∧Below w.heap.size w w':=by
 go_enter Tryz.func170,Tryz.ntmps170
 go_wp2
 go_loopw [6,7] (fun s i wr=>∃ (c:Nat) (t:Int),c≤64∧s=.bool (zgp l h c)∧i=N t∧t=63 - c
   ∧ Below (w.heap.size+1) (w.alloc (.cells #[.int .u64 0,.int .u64 0] 47)) wr
   ∧ wr.cell? ⟨w.heap.size+1,0,none⟩=some (U (zzs l h c))∧wr.cell? ⟨w.heap.size+1,1,none⟩=some (U (zx8 l h c))
   ∧ (∀ o,wr.frozen? ⟨w.heap.size+1,o,none⟩=false)
   ∧ w.heap.size+1+1≤wr.heap.size) (fun _ i _=>(intOf i+1).toNat)
 case atStart =>
  exact ⟨0,63,by omega,rfl,rfl,by omega,(by repeat (first | exact Below.refl _ _ | assumption | refine below_drewN ?_ _ | refine Below.drew ?_ | refine Below.alloc ?_ (by first | exact Nat.le_refl _ | (simp;done) | (simp;omega) | omega) _ | refine Below.setCell ?_ (by first | exact Nat.le_refl _ | (simp;done) | (simp;omega) | omega) _ | refine Below.trans ?_ (Below.mono (by assumption) (by first | exact Nat.le_refl _ | (simp;done) | (simp;omega) | omega)))),by simp [zzs,accd,za4,go_sem],by simp [zx8,accd,za4,go_sem],by simp [go_sem],by simp⟩
 case round =>
  obtain ⟨c,t,hc,rfl,rfl,ht,hbel,ho0,ho1,hfo,hsz⟩:=hrel
  obtain ⟨hcc,hf⟩:=bl hbel
  by_cases hlt:c<64
  ·obtain ⟨i,rfl⟩:=Int.eq_ofNat_of_zero_le (show 0≤t by omega)
   have hi:i=63 - c:=by omega
   have hi64:i<64:=by omega
   have hi0:(0:Int)≤(i:Int):=by omega
   have Hi:Hid (i=63 - c):=hi
   have hstep:=yatd l h c i hi hlt
   have hl:=yals l i
   have hh:=yals h i
   obtain ⟨s,hs⟩:∃ s,s=zgp l h c:=⟨_,rfl⟩
   obtain ⟨bl,hbl⟩:∃ b,b=bit l i:=⟨_,rfl⟩
   obtain ⟨bh,hbh⟩:∃ b,b=bit h i:=⟨_,rfl⟩
   rw [← hbl,← hbh,← hs] at hstep
   rw [← hbl] at hl
   rw [← hbh] at hh
   rw [← hs]
   clear hi ht hs hbl hbh
   have H1:Hid _:=hstep.1
   have H2:Hid _:=hstep.2.1
   have H3:Hid _:=hstep.2.2
   clear hstep
   have q1:=yaw9
   have q2:=yayv
   have q3:=yay0
   have q4:=yaxq
   cases s <;> cases bl <;> cases bh
   all_goals
    simp only [if_true,if_false,Bool.false_eq_true] at hl hh
    go_wp2_with fail
    go_quiet (fail)
    go_wp2_with fail
    refine (zf5 _ _ i hi64 _ _ _).mono ?_
    rintro e w3 ⟨rfl,hb3⟩
    have hb3':Below wr.heap.size wr w3:=(below_drewN (Below.refl _ wr) _).trans hb3
    obtain ⟨hc3,hf3,hs3⟩:=bk _ hb3' hsz
    clear hb3
    go_wp2_with fail
    exact ⟨⟨c+1,_,by omega,by rw [H1.out];rfl,rfl,by have:=Hi.out;omega,zeh hbel hb3' hsz ho0 ho1 hfo
     (by rw [← yadz l h c i Hi.out,H2.out,H3.out];rfl) (by rw [← yafr l h c i Hi.out,H2.out,H3.out];rfl)⟩,by simp [intOf]⟩
  ·have ec:c=64:=by omega
   subst ec
   have ht':t=-1:=by omega
   subst ht'
   go_wp2_with fail
   exact bodyPost_ret (v:=Bt (zzs l h 64) (zx8 l h 64)) (by simp [results,Tryz.results170,go_sem,hcc]) rfl ⟨rfl,(by repeat (first | exact Below.refl _ _ | assumption | refine below_drewN ?_ _ | refine Below.drew ?_ | refine Below.alloc ?_ (by first | exact Nat.le_refl _ | (simp;done) | (simp;omega) | omega) _ | refine Below.setCell ?_ (by first | exact Nat.le_refl _ | (simp;done) | (simp;omega) | omega) _ | refine Below.trans ?_ (Below.mono (by assumption) (by first | exact Nat.le_refl _ | (simp;done) | (simp;omega) | omega))))⟩
end
section
attribute [local go_sem] zc9 w_or zdf za3 zbx zbc zda zcy zdb zbw zb4 zc3 zby zdc zcn zcz zb1 zb3 zb2 zb0 za1
set_option maxHeartbeats 400000 in
theorem yaob {n:Nat} {v m:BitVec 64} (hr:Hid (eqb (band v m) zero=true)) (hn:n<64) (w:World) :
  Calls Tryz.prog 200 #[N 8,Bt v m,N n] w fun e w'=>e=.returned (.tuple #[Bt (bshl v n) (bshl m n),N 0])∧Below w.heap.size w w':=by
 go_enter Tryz.func200,Tryz.ntmps200
 go_wp2_with fail
 refine (zjo hr (by simp) (by simp [go_sem]) (by simp [go_sem])).mono ?_
 rintro e w1 ⟨rfl,hb1⟩
 obtain ⟨hc1,hf1,hs1⟩:=bk (w.heap.size+1+1) hb1 (by simp)
 first | rw [er_t] | rw [er_f]
 go_wp2_with fail
 refine (yaq0 _ _ n hn _).mono ?_
 rintro e w2 ⟨rfl,hb2⟩
 obtain ⟨hc2,hf2,hs2⟩:=bk _ hb2 hs1
 go_wp2_with fail
 exact bodyPost_ret (v:=.tuple #[Bt (bshl v n) (bshl m n),N 0]) (by simp [results,Tryz.results200,go_sem,hc1,hc2]) rfl ⟨rfl,(by repeat (first | exact Below.refl _ _ | assumption | refine below_drewN ?_ _ | refine Below.drew ?_ | refine Below.alloc ?_ (by first | exact Nat.le_refl _ | (simp;done) | (simp;omega) | omega) _ | refine Below.setCell ?_ (by first | exact Nat.le_refl _ | (simp;done) | (simp;omega) | omega) _ | refine Below.trans ?_ (Below.mono (by assumption) (by first | exact Nat.le_refl _ | (simp;done) | (simp;omega) | omega))))⟩
set_option maxHeartbeats 400000 in
theorem yaff {n:Nat} {v m:BitVec 64} (hr:Hid (eqb (band v m) zero=true)) (hn:n<64) (w:World) :
  Calls Tryz.prog 200 #[N 9,Bt v m,N n] w fun e w'=>e=.returned (.tuple #[Bt (bshr v n) (bshr m n),N 0])∧Below w.heap.size w w':=by
 go_enter Tryz.func200,Tryz.ntmps200
 go_wp2_with fail
 refine (zjo hr (by simp) (by simp [go_sem]) (by simp [go_sem])).mono ?_
 rintro e w1 ⟨rfl,hb1⟩
 obtain ⟨hc1,hf1,hs1⟩:=bk (w.heap.size+1+1) hb1 (by simp)
 first | rw [er_t] | rw [er_f]
 go_wp2_with fail
 exact bodyPost_ret (v:=.tuple #[Bt (bshr v n) (bshr m n),N 0]) (by simp [results,Tryz.results200,go_sem,hc1]) rfl ⟨rfl,(by repeat (first | exact Below.refl _ _ | assumption | refine below_drewN ?_ _ | refine Below.drew ?_ | refine Below.alloc ?_ (by first | exact Nat.le_refl _ | (simp;done) | (simp;omega) | omega) _ | refine Below.setCell ?_ (by first | exact Nat.le_refl _ | (simp;done) | (simp;omega) | omega) _ | refine Below.trans ?_ (Below.mono (by assumption) (by first | exact Nat.le_refl _ | (simp;done) | (simp;omega) | omega))))⟩
end
section
attribute [local go_sem] zc9 w_or zdf za3 zbx zbc zda zcy zdb zbw zb4 zc3 zby zdc zcn zcz zb1 zb3 zb2 zb0 za1
end
theorem hid {p:Prop} (h:p):Hid p:=h
section
attribute [local go_sem] zc9 w_or zdf za3 zbx zbc zda zcy zdb zbw zb4 zc3 zby zdc zcn zcz zb1 zb3 zb2 zb0 za1
set_option maxHeartbeats 1000000 in
theorem zk3 (v m l h:BitVec 64) (w:World) :
  Calls Tryz.prog 98 #[Vl v m l h] w fun e w'=>e=.returned (N (er (valB v m l h)))∧Below w.heap.size w w':=by
 have Hv:Hid (valB v m l h=(hasB v m l&&(hasB v m h&&(decide (nv l≤nv h)&&insB v m (spV l h) (sM l h))))):=rfl
 obtain ⟨b1,H1⟩:∃ b,Hid (hasB v m l=b):=⟨_,rfl⟩
 obtain ⟨b2,H2⟩:∃ b,Hid (hasB v m h=b):=⟨_,rfl⟩
 obtain ⟨b3,H3⟩:∃ b,Hid (insB v m (spV l h) (sM l h)=b):=⟨_,rfl⟩
 rw [H1.out,H2.out,H3.out] at Hv
 go_enter Tryz.func98,Tryz.ntmps98
 go_wp2_with fail
 refine (hasC H1.out _).mono ?_
 rintro e w1 ⟨rfl,hb1⟩
 have hK:=((Kp.start w).add4 _ _ _ _ _).keep hb1
 obtain ⟨a0,a1,a2,a3,a4,a5,a6,a7,a8⟩:=hK.box.head.four
 cases b1
 ·go_wp2_with fail
  go_ret
  rw [Hv.out]
  exact ⟨rfl,hK.bel⟩
 ·go_wp2_with fail
  refine (hasC H2.out _).mono ?_
  rintro e w2 ⟨rfl,hb2⟩
  have hK2:=hK.keep hb2
  clear a0 a1 a2 a3 a4 a5 a6 a7 a8
  obtain ⟨a0,a1,a2,a3,a4,a5,a6,a7,a8⟩:=hK2.box.head.four
  cases b2
  ·go_wp2_with fail
   go_ret
   rw [Hv.out]
   exact ⟨rfl,hK2.bel⟩
  ·by_cases hle:nv l≤nv h
   ·have Hd:Hid (decide (nv l≤nv h)=true):=decide_eq_true hle
    have HS:Hid (∀ w,Calls Tryz.prog 142 #[U l,U h] w fun e w'=>e=.returned (.tuple #[Bt (spV l h) (sM l h),N 0])∧Below w.heap.size w w'):=fun w=>yako hle w
    rw [Hd.out] at Hv
    clear hle Hd
    generalize spV l h=sv at HS H3
    generalize sM l h=sm at HS H3
    go_wp2_with fail
    refine (HS.out _).mono ?_
    rintro e w3 ⟨rfl,hb3⟩
    have hK3:=hK2.keep hb3
    clear a0 a1 a2 a3 a4 a5 a6 a7 a8
    obtain ⟨a0,a1,a2,a3,a4,a5,a6,a7,a8⟩:=hK3.box.head.four
    go_wp2_with fail
    refine (insC H3.out _).mono ?_
    rintro e w4 ⟨rfl,hb4⟩
    have hK4:=(hK3.add2 _ _ _).keep hb4
    cases b3
    all_goals
     go_wp2_with fail
     go_ret
     rw [Hv.out]
     exact ⟨rfl,hK4.bel⟩
   ·have Hd:Hid (decide (nv l≤nv h)=false):=decide_eq_false hle
    have HS:Hid (∀ w,Calls Tryz.prog 142 #[U l,U h] w fun e w'=>e=.returned (.tuple #[Bt zero zero,N 3])∧Below w.heap.size w w'):=fun w=>yash (by omega) w
    rw [Hd.out] at Hv
    clear hle Hd
    go_wp2_with fail
    refine (HS.out _).mono ?_
    rintro e w3 ⟨rfl,hb3⟩
    have hK3:=hK2.keep hb3
    go_wp2_with fail
    go_ret
    rw [Hv.out]
    exact ⟨rfl,(hK3.add2 _ _ _).bel⟩
set_option maxHeartbeats 1000000 in
theorem ztj {v m l h:BitVec 64} (hr:Hid (eqb (band v m) zero=true)) (ho:Hid (zc7 v m l h=false)) (w:World) :
  Calls Tryz.prog 126 #[Vl v m l h] w fun e w'=>e=.returned (.tuple #[V0,.bool false])∧Below w.heap.size w w':=by
 have hrt:=(zef v m).1 hr.out
 have hs:=zqa hrt l
 have hg:=zqb hrt h
 have HL:Hid (∀ w,Calls Tryz.prog 168 #[Bt v m,U l] w fun e w'=>e=.returned (.tuple #[U (zcq v m l 64).1,.bool (zcq v m l 64).2])∧Below w.heap.size w w'):=fun w=>zkq v m l w
 have HG:Hid (∀ w,Calls Tryz.prog 169 #[Bt v m,U h] w fun e w'=>e=.returned (.tuple #[U (zcr v m h 64).1,.bool (zcr v m h 64).2])∧Below w.heap.size w w'):=fun w=>zkr v m h w
 have Ho:Hid (((zcq v m l 64).2&&((zcr v m h 64).2&&decide (nv (zcq v m l 64).1≤nv (zcr v m h 64).1)))=false):=by
  have:=ho.out
  unfold zc7 nLo nHi at this
  show _=false
  rw [hs.1,hg.1]
  cases e1:(zbr v m l).2
  ·rfl
  ·cases e2:(zcg v m h).2
   ·rfl
   ·rw [hs.2 e1,hg.2 e2]
    rw [e1,e2] at this
    exact this
 clear ho hs hg hrt hr
 generalize zcq v m l 64=L at HL Ho
 generalize zcr v m h 64=G at HG Ho
 obtain ⟨lo,lb⟩:=L
 obtain ⟨hi,gb⟩:=G
 go_enter Tryz.func126,Tryz.ntmps126
 go_wp2_with fail
 refine (HL.out _).mono ?_
 rintro e w2 ⟨rfl,hb2⟩
 have hK2:=(((Kp.start w).add4 _ _ _ _ _).add4 _ _ _ _ _).keep hb2
 simp only [World.size_alloc] at hK2
 obtain ⟨r0,r1,r2,r3,r4,r5,r6,r7,r8⟩:=hK2.box.head.four
 obtain ⟨a0,a1,a2,a3,a4,a5,a6,a7,a8⟩:=hK2.box.tail.head.four
 go_wp2_with fail
 refine (HG.out _).mono ?_
 rintro e w3 ⟨rfl,hb3⟩
 have hK3:=hK2.keep hb3
 clear r0 r1 r2 r3 r4 r5 r6 r7 r8 a0 a1 a2 a3 a4 a5 a6 a7 a8
 obtain ⟨r0,r1,r2,r3,r4,r5,r6,r7,r8⟩:=hK3.box.head.four
 obtain ⟨a0,a1,a2,a3,a4,a5,a6,a7,a8⟩:=hK3.box.tail.head.four
 cases lb
 ·go_wp2_with fail
  exact bodyPost_ret (v:=.tuple #[V0,.bool false]) (by simp [results,Tryz.results126,go_sem,za4,r0,r1,r2,r3]) rfl ⟨rfl,(hK3.set4 0 rfl).bel⟩
 ·cases gb
  ·go_wp2_with fail
   exact bodyPost_ret (v:=.tuple #[V0,.bool false]) (by simp [results,Tryz.results126,go_sem,za4,r0,r1,r2,r3]) rfl ⟨rfl,(hK3.set4 0 rfl).bel⟩
  ·have hlt:nv hi<nv lo:=by
    have:=Ho.out
    simp only [Bool.true_and,decide_eq_false_iff_not] at this
    omega
   clear Ho
   go_wp2_with fail
   exact bodyPost_ret (v:=.tuple #[V0,.bool false]) (by simp [results,Tryz.results126,go_sem,za4,r0,r1,r2,r3]) rfl ⟨rfl,(hK3.set4 0 rfl).bel⟩
set_option maxRecDepth 100000 in
set_option maxHeartbeats 8000000 in
theorem zxj {v m l h:BitVec 64} (hr:Hid (eqb (band v m) zero=true)) (ho:Hid (zc7 v m l h=true)) (w:World) :
  Calls Tryz.prog 126 #[Vl v m l h] w fun e w'=>e=.returned (.tuple #[Vl (nV v m l h) (nM m (nLo v m l) (nHi v m h)) (nLo v m l) (nHi v m h),.bool true])∧Below w.heap.size w w':=by
 have hrt:=(zef v m).1 hr.out
 have hfa:=zes hrt ho.out
 have ho':=ho.out
 unfold zc7 at ho'
 simp only [Bool.and_eq_true] at ho'
 have hs:=zqa hrt l
 have hg:=zqb hrt h
 have HL:Hid (∀ w,Calls Tryz.prog 168 #[Bt v m,U l] w fun e w'=>e=.returned (.tuple #[U (nLo v m l),.bool true])∧Below w.heap.size w w'):=fun w=>by
  have:=zkq v m l w;rw [hs.1,hs.2 ho'.1,ho'.1] at this;exact this
 have HG:Hid (∀ w,Calls Tryz.prog 169 #[Bt v m,U h] w fun e w'=>e=.returned (.tuple #[U (nHi v m h),.bool true])∧Below w.heap.size w w'):=fun w=>by
  have:=zkr v m h w;rw [hg.1,hg.2 ho'.2.1,ho'.2.1] at this;exact this
 have HS:Hid (∀ w,Calls Tryz.prog 170 #[U (nLo v m l),U (nHi v m h)] w fun e w'=>e=.returned (Bt (spV (nLo v m l) (nHi v m h)) (sM (nLo v m l) (nHi v m h)))∧Below w.heap.size w w'):=fun w=>by
  have hh:=zuq (nLo v m l) (nHi v m h) w
  rw [(yalq _ _).1,(yalq _ _).2] at hh
  exact hh
 have HM:Hid (∀ w,Calls Tryz.prog 129 #[Bt v m,Bt (spV (nLo v m l) (nHi v m h)) (sM (nLo v m l) (nHi v m h))] w fun e w'=>e=.returned (.tuple #[Bt (nV v m l h) (nM m (nLo v m l) (nHi v m h)),.bool true])∧Below w.heap.size w w'):=fun w=>by
  obtain ⟨h1,h2,h3⟩:=yaj5 (zjz hrt (zex (nLo v m l) (nHi v m h))).out (znl hrt hfa.1 (Int.le_refl _) hfa.2.2.1)
  have h:=zoh v m _ _ h1 w
  rw [h2,h3] at h
  exact h
 have hle:=hfa.2.2.1
 clear hfa ho' ho hrt hs hg hr
 generalize nV v m l h=rv at HM ⊢
 generalize nM m (nLo v m l) (nHi v m h)=rm at HM ⊢
 generalize spV (nLo v m l) (nHi v m h)=sv at HM HS
 generalize sM (nLo v m l) (nHi v m h)=sm at HM HS
 generalize nLo v m l=lo at HL HS hle ⊢
 generalize nHi v m h=hi at HG HS hle ⊢
 go_enter Tryz.func126,Tryz.ntmps126
 go_wp2_with fail
 refine (HL.out _).mono ?_
 rintro e w2 ⟨rfl,hb2⟩
 have hK2:=(((Kp.start w).add4 _ _ _ _ _).add4 _ _ _ _ _).keep hb2
 simp only [World.size_alloc] at hK2
 obtain ⟨r0,r1,r2,r3,r4,r5,r6,r7,r8⟩:=hK2.box.head.four
 obtain ⟨a0,a1,a2,a3,a4,a5,a6,a7,a8⟩:=hK2.box.tail.head.four
 go_wp2_with fail
 refine (HG.out _).mono ?_
 rintro e w3 ⟨rfl,hb3⟩
 have hK3:=hK2.keep hb3
 clear r0 r1 r2 r3 r4 r5 r6 r7 r8 a0 a1 a2 a3 a4 a5 a6 a7 a8
 obtain ⟨r0,r1,r2,r3,r4,r5,r6,r7,r8⟩:=hK3.box.head.four
 obtain ⟨a0,a1,a2,a3,a4,a5,a6,a7,a8⟩:=hK3.box.tail.head.four
 go_wp2_with fail
 go_cut [8,9] (fun p f wc=>∃ b,p=.pointer (some ⟨b,0,none⟩)∧f=.bool true∧Kp w wc [(b,[U rv,U rm]),(w.heap.size+1,[.int .u64 0,.int .u64 0,.int .u64 0,.int .u64 0]),(w.heap.size,[U v,U m,U l,U h])])
 case first =>
  go_region_with (first
    | (go_at_call 170;refine (HS.out _).mono ?_;rintro e w4 ⟨rfl,hb4⟩;clear r0 r1 r2 r3 r4 r5 r6 r7 a0 a1 a2 a3 a4 a5 a6 a7;first | (have hK4:=(hK3.keep (Below.drew (Below.refl _ _))).keep hb4;obtain ⟨r0,r1,r2,r3,r4,r5,r6,r7,r8⟩:=hK4.box.head.four;obtain ⟨a0,a1,a2,a3,a4,a5,a6,a7,a8⟩:=hK4.box.tail.head.four) | (have hK4:=((hK3.keep (Below.drew (Below.refl _ _))).add2 _ _ _).keep hb4;rw [show w3.drew.heap.size=w3.heap.size from rfl] at hK4;obtain ⟨q0,q1,q2,q3,q4⟩:=hK4.box.head.two;obtain ⟨r0,r1,r2,r3,r4,r5,r6,r7,r8⟩:=hK4.box.tail.head.four;obtain ⟨a0,a1,a2,a3,a4,a5,a6,a7,a8⟩:=hK4.box.tail.tail.head.four))
    | (go_at_call 129;refine (HM.out _).mono ?_;rintro e w5 ⟨rfl,hb5⟩;clear r0 r1 r2 r3 r4 r5 r6 r7 a0 a1 a2 a3 a4 a5 a6 a7;first | (have hK5:=hK4.keep hb5;obtain ⟨q0,q1,q2,q3,q4⟩:=hK5.box.head.two;obtain ⟨r0,r1,r2,r3,r4,r5,r6,r7,r8⟩:=hK5.box.tail.head.four;obtain ⟨a0,a1,a2,a3,a4,a5,a6,a7,a8⟩:=hK5.box.tail.tail.head.four) | (have hK5:=hK4.keep hb5;obtain ⟨r0,r1,r2,r3,r4,r5,r6,r7,r8⟩:=hK5.box.head.four;obtain ⟨a0,a1,a2,a3,a4,a5,a6,a7,a8⟩:=hK5.box.tail.head.four) | (have hK5:=(hK4.add2 _ _ _).keep hb5;obtain ⟨q0,q1,q2,q3,q4⟩:=hK5.box.head.two;obtain ⟨r0,r1,r2,r3,r4,r5,r6,r7,r8⟩:=hK5.box.tail.head.four;obtain ⟨a0,a1,a2,a3,a4,a5,a6,a7,a8⟩:=hK5.box.tail.tail.head.four)))
  all_goals
   go_wp2_with fail
   go_meet
   case rel=>first | exact ⟨_,rfl,rfl,hK5.add2 _ _ _⟩ | exact ⟨_,rfl,rfl,hK5.set2 0 rfl⟩
 case rest =>
  clear r0 r1 r2 r3 r4 r5 r6 r7 r8 a0 a1 a2 a3 a4 a5 a6 a7 a8
  obtain ⟨b,rfl,rfl,hK6⟩:=hcut
  obtain ⟨q0,q1,q2,q3,q4⟩:=hK6.box.head.two
  obtain ⟨r0,r1,r2,r3,r4,r5,r6,r7,r8⟩:=hK6.box.tail.head.four
  obtain ⟨a0,a1,a2,a3,a4,a5,a6,a7,a8⟩:=hK6.box.tail.tail.head.four
  have hne:w.heap.size+1<b:=hK6.box.2.1 _ (List.Mem.head _)
  go_wp2_with fail
  exact bodyPost_ret (v:=.tuple #[Vl rv rm lo hi,.bool true]) (by simp [results,Tryz.results126,go_sem,r0,r1,r2,r3]) rfl ⟨rfl,(hK6.set4 1 rfl).bel⟩
end
section
attribute [local go_sem] zc9 w_or zdf za3 zbx zbc zda zcy zdb zbw zb4 zc3 zby zdc zcn zcz zb1 zb3 zb2 zb0 za1
attribute [local go_sem] zjn
theorem yabv {v m l h:BitVec 64} {b:Bool} (hv:valB v m l h=b) (w:World) :
  Calls Tryz.prog 98 #[Vl v m l h] w fun e w'=>e=.returned (N (er b))∧Below w.heap.size w w':=hv ▸ zk3 v m l h w
set_option maxHeartbeats 1000000 in
theorem yait (x:BitVec 64) (w:World) :
  Calls Tryz.prog 144 #[U x] w fun e w'=>e=.returned (Vl x zero x x)∧Below w.heap.size w w':=by
 go_enter Tryz.func144,Tryz.ntmps144
 go_wp2_with fail
 exact bodyPost_ret (v:=Vl x zero x x) (by simp [results,Tryz.results144,go_sem,za4]) rfl ⟨rfl,(by repeat (first | exact Below.refl _ _ | assumption | refine below_drewN ?_ _ | refine Below.drew ?_ | refine Below.alloc ?_ (by first | exact Nat.le_refl _ | (simp;done) | (simp;omega) | omega) _ | refine Below.setCell ?_ (by first | exact Nat.le_refl _ | (simp;done) | (simp;omega) | omega) _ | refine Below.trans ?_ (Below.mono (by assumption) (by first | exact Nat.le_refl _ | (simp;done) | (simp;omega) | omega))))⟩
set_option maxHeartbeats 1000000 in
theorem zwj (x:BitVec 64) (w:World) :
  Calls Tryz.prog 74 #[U x] w fun e w'=>e=.returned (Vl x zero x x)∧Below w.heap.size w w':=by
 go_enter Tryz.func74,Tryz.ntmps74
 go_wp2_with fail
 exact bodyPost_ret (v:=Vl x zero x x) (by simp [results,Tryz.results74,go_sem,za4]) rfl ⟨rfl,(by repeat (first | exact Below.refl _ _ | assumption | refine below_drewN ?_ _ | refine Below.drew ?_ | refine Below.alloc ?_ (by first | exact Nat.le_refl _ | (simp;done) | (simp;omega) | omega) _ | refine Below.setCell ?_ (by first | exact Nat.le_refl _ | (simp;done) | (simp;omega) | omega) _ | refine Below.trans ?_ (Below.mono (by assumption) (by first | exact Nat.le_refl _ | (simp;done) | (simp;omega) | omega))))⟩
set_option maxHeartbeats 1000000 in
theorem yadu (w:World) :
  Calls Tryz.prog 54 #[] w fun e w'=>e=.returned (Vl zero top zero top)∧Below w.heap.size w w':=by
 go_enter Tryz.func54,Tryz.ntmps54
 go_wp2_with fail
 exact bodyPost_ret (v:=Vl zero top zero top) (by simp [results,Tryz.results54,go_sem,za4,znb]) rfl ⟨rfl,(by repeat (first | exact Below.refl _ _ | assumption | refine below_drewN ?_ _ | refine Below.drew ?_ | refine Below.alloc ?_ (by first | exact Nat.le_refl _ | (simp;done) | (simp;omega) | omega) _ | refine Below.setCell ?_ (by first | exact Nat.le_refl _ | (simp;done) | (simp;omega) | omega) _ | refine Below.trans ?_ (Below.mono (by assumption) (by first | exact Nat.le_refl _ | (simp;done) | (simp;omega) | omega))))⟩
set_option maxHeartbeats 1000000 in
theorem zq2 (w:World) :
  Calls Tryz.prog 73 #[] w fun e w'=>e=.returned (Vl zero top zero top)∧Below w.heap.size w w':=by
 go_enter Tryz.func73,Tryz.ntmps73
 go_wp2_with fail
 exact bodyPost_ret (v:=Vl zero top zero top) (by simp [results,Tryz.results73,go_sem,za4,znb]) rfl ⟨rfl,(by repeat (first | exact Below.refl _ _ | assumption | refine below_drewN ?_ _ | refine Below.drew ?_ | refine Below.alloc ?_ (by first | exact Nat.le_refl _ | (simp;done) | (simp;omega) | omega) _ | refine Below.setCell ?_ (by first | exact Nat.le_refl _ | (simp;done) | (simp;omega) | omega) _ | refine Below.trans ?_ (Below.mono (by assumption) (by first | exact Nat.le_refl _ | (simp;done) | (simp;omega) | omega))))⟩
end
section
attribute [local go_sem] zc9 w_or zdf za3 zbx zbc zda zcy zdb zbw zb4 zc3 zby zdc zcn zcz zb1 zb3 zb2 zb0 za1
end
section
attribute [local go_sem] zc9 w_or zdf za3 zbx zbc zda zcy zdb zbw zb4 zc3 zby zdc zcn zcz zb1 zb3 zb2 zb0 za1
set_option maxHeartbeats 2000000 in
theorem zxg {v m l h v' m' l' h':BitVec 64} (hr:Hid ((valB v m l h&&valB v' m' l' h')=true)) (w:World) :
  Calls Tryz.prog 109 #[Vl v m l h,Vl v' m' l' h'] w fun e w'=>e=.returned (.tuple #[Vl (nV (jV v m v' m') (jM v m v' m') (bmin l l') (bmax h h')) (nM (jM v m v' m') (nLo (jV v m v' m') (jM v m v' m') (bmin l l')) (nHi (jV v m v' m') (jM v m v' m') (bmax h h'))) (nLo (jV v m v' m') (jM v m v' m') (bmin l l')) (nHi (jV v m v' m') (jM v m v' m') (bmax h h')),N 0])∧Below w.heap.size w w':=by
 have hr':=hr.out
 rw [Bool.and_eq_true] at hr'
 have H1:Hid (valB v m l h=true):=hr'.1
 have H2:Hid (valB v' m' l' h'=true):=hr'.2
 have hf:=zkb hr'.1 hr'.2
 have ha:=(zbf hr'.1).1
 have hb:=(zbf hr'.2).1
 have HJ:Hid (∀ w,Calls Tryz.prog 157 #[Bt v m,Bt v' m'] w fun e w'=>e=.returned (.tuple #[Bt (jV v m v' m') (jM v m v' m'),N 0])∧Below w.heap.size w w'):=fun w=>join_ok (zjz ha hb) w
 have HN:Hid (∀ w,Calls Tryz.prog 156 #[Vl (jV v m v' m') (jM v m v' m') (bmin l l') (bmax h h')] w fun e w'=>e=.returned (.tuple #[Vl (nV (jV v m v' m') (jM v m v' m') (bmin l l') (bmax h h')) (nM (jM v m v' m') (nLo (jV v m v' m') (jM v m v' m') (bmin l l')) (nHi (jV v m v' m') (jM v m v' m') (bmax h h'))) (nLo (jV v m v' m') (jM v m v' m') (bmin l l')) (nHi (jV v m v' m') (jM v m v' m') (bmax h h')),.bool true,N 0])∧Below w.heap.size w w'):=fun w =>
  zq1 ((zef _ _).2 (zjw v m v' m')) hf.1 w
 clear hf ha hb hr hr'
 generalize nV (jV v m v' m') (jM v m v' m') (bmin l l') (bmax h h')=rv at HN ⊢
 generalize nM (jM v m v' m') (nLo (jV v m v' m') (jM v m v' m') (bmin l l')) (nHi (jV v m v' m') (jM v m v' m') (bmax h h'))=rm at HN ⊢
 generalize nLo (jV v m v' m') (jM v m v' m') (bmin l l')=lo at HN ⊢
 generalize nHi (jV v m v' m') (jM v m v' m') (bmax h h')=hi at HN ⊢
 generalize jV v m v' m'=jv at HN HJ
 generalize jM v m v' m'=jm at HN HJ
 go_enter Tryz.func109,Tryz.ntmps109
 go_wp2_with fail
 refine (yabv H1.out _).mono ?_
 rintro e w1 ⟨rfl,hb1⟩
 have hK:=((((Kp.start w).add4 _ _ _ _ _).add4 _ _ _ _ _).add4 _ _ _ _ _).keep hb1
 simp only [World.size_alloc] at hK
 obtain ⟨r0,r1,r2,r3,r4,r5,r6,r7,r8⟩:=hK.box.head.four
 obtain ⟨b0,b1,b2,b3,b4,b5,b6,b7,b8⟩:=hK.box.tail.head.four
 obtain ⟨a0,a1,a2,a3,a4,a5,a6,a7,a8⟩:=hK.box.tail.tail.head.four
 rw [er_t]
 go_wp2_with fail
 refine (yabv H2.out _).mono ?_
 rintro e w2 ⟨rfl,hb2⟩
 have hK2:=hK.keep hb2
 clear r0 r1 r2 r3 r4 r5 r6 r7 r8 b0 b1 b2 b3 b4 b5 b6 b7 b8 a0 a1 a2 a3 a4 a5 a6 a7 a8
 obtain ⟨r0,r1,r2,r3,r4,r5,r6,r7,r8⟩:=hK2.box.head.four
 obtain ⟨b0,b1,b2,b3,b4,b5,b6,b7,b8⟩:=hK2.box.tail.head.four
 obtain ⟨a0,a1,a2,a3,a4,a5,a6,a7,a8⟩:=hK2.box.tail.tail.head.four
 rw [er_t]
 go_wp2_with fail
 refine (HJ.out _).mono ?_
 rintro e w3 ⟨rfl,hb3⟩
 have hK3:=hK2.keep hb3
 clear r0 r1 r2 r3 r4 r5 r6 r7 r8 b0 b1 b2 b3 b4 b5 b6 b7 b8 a0 a1 a2 a3 a4 a5 a6 a7 a8
 obtain ⟨r0,r1,r2,r3,r4,r5,r6,r7,r8⟩:=hK3.box.head.four
 obtain ⟨b0,b1,b2,b3,b4,b5,b6,b7,b8⟩:=hK3.box.tail.head.four
 obtain ⟨a0,a1,a2,a3,a4,a5,a6,a7,a8⟩:=hK3.box.tail.tail.head.four
 by_cases h1:nv l' < nv l <;> by_cases h2:nv h<nv h'
 ·have e1:bmin l l'=l':=if_pos h1
  have e2:bmax h h'=h':=if_pos h2
  rw [e1,e2] at HN
  clear e1 e2
  go_wp2_with fail
  refine (HN.out _).mono ?_
  rintro e w4 ⟨rfl,hb4⟩
  have hK4:=(hK3.add2 _ _ _).keep hb4
  clear r0 r1 r2 r3 r4 r5 r6 r7 r8 b0 b1 b2 b3 b4 b5 b6 b7 b8 a0 a1 a2 a3 a4 a5 a6 a7 a8
  obtain ⟨j0,j1,j2,j3,j4⟩:=hK4.box.head.two
  obtain ⟨r0,r1,r2,r3,r4,r5,r6,r7,r8⟩:=hK4.box.tail.head.four
  obtain ⟨b0,b1,b2,b3,b4,b5,b6,b7,b8⟩:=hK4.box.tail.tail.head.four
  obtain ⟨a0,a1,a2,a3,a4,a5,a6,a7,a8⟩:=hK4.box.tail.tail.tail.head.four
  go_wp2_with fail
  exact bodyPost_ret (v:=.tuple #[Vl rv rm lo hi,N 0]) (by simp [results,Tryz.results109,go_sem,r0,r1,r2,r3,r8]) rfl ⟨rfl,((hK4.set4 1 rfl).add4 _ _ _ _ _).bel⟩
 ·have e1:bmin l l'=l':=if_pos h1
  have e2:bmax h h'=h:=if_neg h2
  rw [e1,e2] at HN
  clear e1 e2
  have h2':nv h'≤nv h:=by omega
  clear h2
  go_wp2_with fail
  refine (HN.out _).mono ?_
  rintro e w4 ⟨rfl,hb4⟩
  have hK4:=(hK3.add2 _ _ _).keep hb4
  clear r0 r1 r2 r3 r4 r5 r6 r7 r8 b0 b1 b2 b3 b4 b5 b6 b7 b8 a0 a1 a2 a3 a4 a5 a6 a7 a8
  obtain ⟨j0,j1,j2,j3,j4⟩:=hK4.box.head.two
  obtain ⟨r0,r1,r2,r3,r4,r5,r6,r7,r8⟩:=hK4.box.tail.head.four
  obtain ⟨b0,b1,b2,b3,b4,b5,b6,b7,b8⟩:=hK4.box.tail.tail.head.four
  obtain ⟨a0,a1,a2,a3,a4,a5,a6,a7,a8⟩:=hK4.box.tail.tail.tail.head.four
  go_wp2_with fail
  exact bodyPost_ret (v:=.tuple #[Vl rv rm lo hi,N 0]) (by simp [results,Tryz.results109,go_sem,r0,r1,r2,r3,r8]) rfl ⟨rfl,((hK4.set4 1 rfl).add4 _ _ _ _ _).bel⟩
 ·have e1:bmin l l'=l:=if_neg h1
  have e2:bmax h h'=h':=if_pos h2
  rw [e1,e2] at HN
  clear e1 e2
  have h1':nv l≤nv l':=by omega
  clear h1
  go_wp2_with fail
  refine (HN.out _).mono ?_
  rintro e w4 ⟨rfl,hb4⟩
  have hK4:=(hK3.add2 _ _ _).keep hb4
  clear r0 r1 r2 r3 r4 r5 r6 r7 r8 b0 b1 b2 b3 b4 b5 b6 b7 b8 a0 a1 a2 a3 a4 a5 a6 a7 a8
  obtain ⟨j0,j1,j2,j3,j4⟩:=hK4.box.head.two
  obtain ⟨r0,r1,r2,r3,r4,r5,r6,r7,r8⟩:=hK4.box.tail.head.four
  obtain ⟨b0,b1,b2,b3,b4,b5,b6,b7,b8⟩:=hK4.box.tail.tail.head.four
  obtain ⟨a0,a1,a2,a3,a4,a5,a6,a7,a8⟩:=hK4.box.tail.tail.tail.head.four
  go_wp2_with fail
  exact bodyPost_ret (v:=.tuple #[Vl rv rm lo hi,N 0]) (by simp [results,Tryz.results109,go_sem,r0,r1,r2,r3,r8]) rfl ⟨rfl,((hK4.set4 1 rfl).add4 _ _ _ _ _).bel⟩
 ·have e1:bmin l l'=l:=if_neg h1
  have e2:bmax h h'=h:=if_neg h2
  rw [e1,e2] at HN
  clear e1 e2
  have h1':nv l≤nv l':=by omega
  clear h1
  have h2':nv h'≤nv h:=by omega
  clear h2
  go_wp2_with fail
  refine (HN.out _).mono ?_
  rintro e w4 ⟨rfl,hb4⟩
  have hK4:=(hK3.add2 _ _ _).keep hb4
  clear r0 r1 r2 r3 r4 r5 r6 r7 r8 b0 b1 b2 b3 b4 b5 b6 b7 b8 a0 a1 a2 a3 a4 a5 a6 a7 a8
  obtain ⟨j0,j1,j2,j3,j4⟩:=hK4.box.head.two
  obtain ⟨r0,r1,r2,r3,r4,r5,r6,r7,r8⟩:=hK4.box.tail.head.four
  obtain ⟨b0,b1,b2,b3,b4,b5,b6,b7,b8⟩:=hK4.box.tail.tail.head.four
  obtain ⟨a0,a1,a2,a3,a4,a5,a6,a7,a8⟩:=hK4.box.tail.tail.tail.head.four
  go_wp2_with fail
  exact bodyPost_ret (v:=.tuple #[Vl rv rm lo hi,N 0]) (by simp [results,Tryz.results109,go_sem,r0,r1,r2,r3,r8]) rfl ⟨rfl,((hK4.set4 1 rfl).add4 _ _ _ _ _).bel⟩
end
section
attribute [local go_sem] zc9 w_or zdf za3 zbx zbc zda zcy zdb zbw zb4 zc3 zby zdc zcn zcz zb1 zb3 zb2 zb0 za1
set_option maxHeartbeats 400000 in
theorem yaia (v m l h:BitVec 64) (w:World) :
  Calls Tryz.prog 147 #[Vl v m l h] w fun e w'=>e=.returned (.bool (eqb l h))∧Below w.heap.size w w':=by
 go_enter Tryz.func147,Tryz.ntmps147
 go_wp2_with fail
 go_ret
 exact ⟨rfl,(by repeat (first | exact Below.refl _ _ | assumption | refine below_drewN ?_ _ | refine Below.drew ?_ | refine Below.alloc ?_ (by first | exact Nat.le_refl _ | (simp;done) | (simp;omega) | omega) _ | refine Below.setCell ?_ (by first | exact Nat.le_refl _ | (simp;done) | (simp;omega) | omega) _ | refine Below.trans ?_ (Below.mono (by assumption) (by first | exact Nat.le_refl _ | (simp;done) | (simp;omega) | omega))))⟩
theorem zd8 {v m l h:BitVec 64} {b:Bool} (hb:eqb l h=b) (w:World) :
  Calls Tryz.prog 147 #[Vl v m l h] w fun e w'=>e=.returned (.bool b)∧Below w.heap.size w w':=hb ▸ yaia v m l h w
set_option maxRecDepth 100000 in
set_option maxHeartbeats 1000000 in
theorem zoa (v m l h:BitVec 64) (y:BitVec 64) (w:World) :
  Calls Tryz.prog 201 #[N 9,Vl v m l h,U (band y 63#64)] w fun e w'=>e=.returned (.tuple #[U (bshr l (six y)),U (bshr h (six y))])∧Below w.heap.size w w':=by
 have h6:=zud y
 have h7:=zn5 y
 go_enter Tryz.func201,Tryz.ntmps201
 go_wp2_with fail
 go_quiet (fail)
 go_wp2_with fail
 go_ret2
 exact ⟨rfl,(by repeat (first | exact Below.refl _ _ | assumption | refine below_drewN ?_ _ | refine Below.drew ?_ | refine Below.alloc ?_ (by first | exact Nat.le_refl _ | (simp;done) | (simp;omega) | omega) _ | refine Below.setCell ?_ (by first | exact Nat.le_refl _ | (simp;done) | (simp;omega) | omega) _ | refine Below.trans ?_ (Below.mono (by assumption) (by first | exact Nat.le_refl _ | (simp;done) | (simp;omega) | omega))))⟩
set_option maxRecDepth 100000 in
set_option maxHeartbeats 1000000 in
theorem zl2 (v m l h:BitVec 64) (y:BitVec 64) (w:World) :
  Calls Tryz.prog 201 #[N 8,Vl v m l h,U (band y 63#64)] w fun e w'=>e=.returned (.tuple #[U (shlB l h (six y)).1,U (shlB l h (six y)).2])∧Below w.heap.size w w':=by
 have h6:=zud y
 have h7:=zn5 y
 have Ha:Hid (shlB l h (six y)=if eqb (bshr (bshl h (six y)) (six y)) h then (bshl l (six y),bshl h (six y)) else (zero,top)):=rfl
 obtain ⟨p,hp⟩:∃ b,eqb (bshr (bshl h (six y)) (six y)) h=b:=⟨_,rfl⟩
 rw [hp] at Ha
 cases p
 ·go_enter Tryz.func201,Tryz.ntmps201
  go_wp2_with fail
  go_ret2
  rw [Ha.out]
  exact ⟨rfl,(by repeat (first | exact Below.refl _ _ | assumption | refine below_drewN ?_ _ | refine Below.drew ?_ | refine Below.alloc ?_ (by first | exact Nat.le_refl _ | (simp;done) | (simp;omega) | omega) _ | refine Below.setCell ?_ (by first | exact Nat.le_refl _ | (simp;done) | (simp;omega) | omega) _ | refine Below.trans ?_ (Below.mono (by assumption) (by first | exact Nat.le_refl _ | (simp;done) | (simp;omega) | omega))))⟩
 ·go_enter Tryz.func201,Tryz.ntmps201
  go_wp2_with fail
  go_quiet (fail)
  go_wp2_with fail
  go_ret2
  rw [Ha.out]
  exact ⟨rfl,(by repeat (first | exact Below.refl _ _ | assumption | refine below_drewN ?_ _ | refine Below.drew ?_ | refine Below.alloc ?_ (by first | exact Nat.le_refl _ | (simp;done) | (simp;omega) | omega) _ | refine Below.setCell ?_ (by first | exact Nat.le_refl _ | (simp;done) | (simp;omega) | omega) _ | refine Below.trans ?_ (Below.mono (by assumption) (by first | exact Nat.le_refl _ | (simp;done) | (simp;omega) | omega))))⟩
set_option maxRecDepth 100000 in
set_option maxHeartbeats 1000000 in
theorem yafc {op:Int} (hop:Hid (2≤op∧op≤7)) (v m l h v' m' l' h':BitVec 64) (w:World) :
  Calls Tryz.prog 183 #[N op,Vl v m l h,Vl v' m' l' h'] w fun e w'=>e=.returned (.tuple #[U (zcd op l h l' h').1,U (zcd op l h l' h').2])∧Below w.heap.size w w':=by
 rcases zji hop.out with rfl | rfl | rfl | rfl | rfl | rfl
 ·clear hop
  go_enter Tryz.func183,Tryz.ntmps183
  go_wp2_with fail
  refine (zr8 v m l h v' m' l' h' _).mono ?_
  rintro e w1 ⟨rfl,hb1⟩
  have hK:=(((Kp.start w).add4 _ _ _ _ _).add4 _ _ _ _ _).keep hb1
  go_wp2_with fail
  go_ret2
  exact ⟨rfl,hK.bel⟩
 ·clear hop
  go_enter Tryz.func183,Tryz.ntmps183
  go_wp2_with fail
  refine (zsv v m l h v' m' l' h' _).mono ?_
  rintro e w1 ⟨rfl,hb1⟩
  have hK:=(((Kp.start w).add4 _ _ _ _ _).add4 _ _ _ _ _).keep hb1
  go_wp2_with fail
  go_ret2
  exact ⟨rfl,hK.bel⟩
 ·clear hop
  go_enter Tryz.func183,Tryz.ntmps183
  go_wp2_with fail
  refine (zsw v m l h v' m' l' h' _).mono ?_
  rintro e w1 ⟨rfl,hb1⟩
  have hK:=(((Kp.start w).add4 _ _ _ _ _).add4 _ _ _ _ _).keep hb1
  go_wp2_with fail
  go_ret2
  exact ⟨rfl,hK.bel⟩
 ·clear hop
  have Hb:Hid (zcd 5 l h l' h'=(zero,bmin h h')):=rfl
  rw [Hb.out]
  by_cases h1:nv h' < nv h
  ·have e1:Hid (bmin h h'=h'):=if_pos h1
   rw [e1.out]
   go_enter Tryz.func183,Tryz.ntmps183
   go_wp2_with fail
   first | (go_quiet (fail);go_wp2_with fail) | skip
   go_ret2
   exact ⟨rfl,(by repeat (first | exact Below.refl _ _ | assumption | refine below_drewN ?_ _ | refine Below.drew ?_ | refine Below.alloc ?_ (by first | exact Nat.le_refl _ | (simp;done) | (simp;omega) | omega) _ | refine Below.setCell ?_ (by first | exact Nat.le_refl _ | (simp;done) | (simp;omega) | omega) _ | refine Below.trans ?_ (Below.mono (by assumption) (by first | exact Nat.le_refl _ | (simp;done) | (simp;omega) | omega))))⟩
  ·have e1:Hid (bmin h h'=h):=if_neg h1
   have h1':nv h≤nv h':=by omega
   clear h1
   rw [e1.out]
   go_enter Tryz.func183,Tryz.ntmps183
   go_wp2_with fail
   first | (go_quiet (fail);go_wp2_with fail) | skip
   go_ret2
   exact ⟨rfl,(by repeat (first | exact Below.refl _ _ | assumption | refine below_drewN ?_ _ | refine Below.drew ?_ | refine Below.alloc ?_ (by first | exact Nat.le_refl _ | (simp;done) | (simp;omega) | omega) _ | refine Below.setCell ?_ (by first | exact Nat.le_refl _ | (simp;done) | (simp;omega) | omega) _ | refine Below.trans ?_ (Below.mono (by assumption) (by first | exact Nat.le_refl _ | (simp;done) | (simp;omega) | omega))))⟩
 ·clear hop
  have Hb:Hid (zcd 6 l h l' h'=(bmax l l',top)):=rfl
  rw [Hb.out]
  by_cases h1:nv l<nv l'
  ·have e1:Hid (bmax l l'=l'):=if_pos h1
   rw [e1.out]
   go_enter Tryz.func183,Tryz.ntmps183
   go_wp2_with fail
   go_ret2
   exact ⟨rfl,(by repeat (first | exact Below.refl _ _ | assumption | refine below_drewN ?_ _ | refine Below.drew ?_ | refine Below.alloc ?_ (by first | exact Nat.le_refl _ | (simp;done) | (simp;omega) | omega) _ | refine Below.setCell ?_ (by first | exact Nat.le_refl _ | (simp;done) | (simp;omega) | omega) _ | refine Below.trans ?_ (Below.mono (by assumption) (by first | exact Nat.le_refl _ | (simp;done) | (simp;omega) | omega))))⟩
  ·have e1:Hid (bmax l l'=l):=if_neg h1
   have h1':nv l'≤nv l:=by omega
   clear h1
   rw [e1.out]
   go_enter Tryz.func183,Tryz.ntmps183
   go_wp2_with fail
   go_ret2
   exact ⟨rfl,(by repeat (first | exact Below.refl _ _ | assumption | refine below_drewN ?_ _ | refine Below.drew ?_ | refine Below.alloc ?_ (by first | exact Nat.le_refl _ | (simp;done) | (simp;omega) | omega) _ | refine Below.setCell ?_ (by first | exact Nat.le_refl _ | (simp;done) | (simp;omega) | omega) _ | refine Below.trans ?_ (Below.mono (by assumption) (by first | exact Nat.le_refl _ | (simp;done) | (simp;omega) | omega))))⟩
 ·clear hop
  go_enter Tryz.func183,Tryz.ntmps183
  go_wp2_with fail
  go_ret2
  exact ⟨rfl,(by repeat (first | exact Below.refl _ _ | assumption | refine below_drewN ?_ _ | refine Below.drew ?_ | refine Below.alloc ?_ (by first | exact Nat.le_refl _ | (simp;done) | (simp;omega) | omega) _ | refine Below.setCell ?_ (by first | exact Nat.le_refl _ | (simp;done) | (simp;omega) | omega) _ | refine Below.trans ?_ (Below.mono (by assumption) (by first | exact Nat.le_refl _ | (simp;done) | (simp;omega) | omega))))⟩
end
section
attribute [local go_sem] zc9 w_or zdf za3 zbx zbc zda zcy zdb zbw zb4 zc3 zby zdc zcn zcz zb1 zb3 zb2 zb0 za1
set_option maxRecDepth 100000 in
set_option maxHeartbeats 1000000 in
theorem zyv {v m l g v' m' l' g':BitVec 64} (ha:Hid (eqb l' g'=false)) (w:World) :
  Calls Tryz.prog 181 #[N 8,Vl v m l g,Vl v' m' l' g'] w fun e w'=>e=.returned (Vl zero top zero top)∧Below w.heap.size w w':=by
 go_enter Tryz.func181,Tryz.ntmps181
 go_wp2_with fail
 refine (zd8 ha.out _).mono ?_
 rintro e w1 ⟨rfl,hb1⟩
 have hK:=((((Kp.start w).add4 _ _ _ _ _).add4 _ _ _ _ _).add4 _ _ _ _ _).keep hb1
 simp only [World.size_alloc] at hK
 obtain ⟨r0,r1,r2,r3,r4,r5,r6,r7,r8⟩:=hK.box.head.four
 obtain ⟨b0,b1,b2,b3,b4,b5,b6,b7,b8⟩:=hK.box.tail.head.four
 obtain ⟨a0,a1,a2,a3,a4,a5,a6,a7,a8⟩:=hK.box.tail.tail.head.four
 go_wp2_with fail
 exact bodyPost_ret (v:=Vl zero top zero top) (by simp [results,Tryz.results181,go_sem,za4,znb,r0,r1,r2,r3]) rfl ⟨rfl,(hK.set4 0 rfl).bel⟩
set_option maxRecDepth 100000 in
set_option maxHeartbeats 1000000 in
theorem zwz {v m l g v' m' l' g':BitVec 64} (ha:Hid (eqb l' g'=false)) (w:World) :
  Calls Tryz.prog 181 #[N 9,Vl v m l g,Vl v' m' l' g'] w fun e w'=>e=.returned (Vl zero top zero g)∧Below w.heap.size w w':=by
 go_enter Tryz.func181,Tryz.ntmps181
 go_wp2_with fail
 refine (zd8 ha.out _).mono ?_
 rintro e w1 ⟨rfl,hb1⟩
 have hK:=((((Kp.start w).add4 _ _ _ _ _).add4 _ _ _ _ _).add4 _ _ _ _ _).keep hb1
 simp only [World.size_alloc] at hK
 obtain ⟨r0,r1,r2,r3,r4,r5,r6,r7,r8⟩:=hK.box.head.four
 obtain ⟨b0,b1,b2,b3,b4,b5,b6,b7,b8⟩:=hK.box.tail.head.four
 obtain ⟨a0,a1,a2,a3,a4,a5,a6,a7,a8⟩:=hK.box.tail.tail.head.four
 go_wp2_with fail
 exact bodyPost_ret (v:=Vl zero top zero g) (by simp [results,Tryz.results181,go_sem,za4,znb,r0,r1,r2,r3]) rfl ⟨rfl,(hK.set4 0 rfl).bel⟩
set_option maxRecDepth 100000 in
set_option maxHeartbeats 1000000 in
theorem yaf6 {v m l h v' m' l' h':BitVec 64} (hr:Hid (eqb (band v m) zero=true)) (ha:Hid (eqb l' h'=true)) (w:World) :
  Calls Tryz.prog 181 #[N 8,Vl v m l h,Vl v' m' l' h'] w fun e w'=>e=.returned (Vl (bshl v (six l')) (bshl m (six l')) (shlB l h (six l')).1 (shlB l h (six l')).2)∧Below w.heap.size w w':=by
 have h6:=zud l'
 have h7:=zn5 l'
 have HS:Hid (∀ w,Calls Tryz.prog 200 #[N 8,Bt v m,N (six l')] w fun e w'=>e=.returned (.tuple #[Bt (bshl v (six l')) (bshl m (six l')),N 0])∧Below w.heap.size w w'):=fun w=>yaob hr h7 w
 have HB:Hid (∀ w,Calls Tryz.prog 201 #[N 8,Vl v m l h,U (band l' 63#64)] w fun e w'=>e=.returned (.tuple #[U (shlB l h (six l')).1,U (shlB l h (six l')).2])∧Below w.heap.size w w'):=fun w=>zl2 v m l h l' w
 generalize shlB l h (six l')=S at HB ⊢
 obtain ⟨lo,hi⟩:=S
 generalize bshl v (six l')=sv at HS ⊢
 generalize bshl m (six l')=sm at HS ⊢
 go_enter Tryz.func181,Tryz.ntmps181
 go_wp2_with fail
 refine (zd8 ha.out _).mono ?_
 rintro e w1 ⟨rfl,hb1⟩
 have hK:=((((Kp.start w).add4 _ _ _ _ _).add4 _ _ _ _ _).add4 _ _ _ _ _).keep hb1
 simp only [World.size_alloc] at hK
 obtain ⟨r0,r1,r2,r3,r4,r5,r6,r7,r8⟩:=hK.box.head.four
 obtain ⟨b0,b1,b2,b3,b4,b5,b6,b7,b8⟩:=hK.box.tail.head.four
 obtain ⟨a0,a1,a2,a3,a4,a5,a6,a7,a8⟩:=hK.box.tail.tail.head.four
 go_wp2_with fail
 refine (HS.out _).mono ?_
 rintro e w2 ⟨rfl,hb2⟩
 have hK2:=hK.keep hb2
 clear r0 r1 r2 r3 r4 r5 r6 r7 r8 b0 b1 b2 b3 b4 b5 b6 b7 b8 a0 a1 a2 a3 a4 a5 a6 a7 a8
 obtain ⟨r0,r1,r2,r3,r4,r5,r6,r7,r8⟩:=hK2.box.head.four
 obtain ⟨b0,b1,b2,b3,b4,b5,b6,b7,b8⟩:=hK2.box.tail.head.four
 obtain ⟨a0,a1,a2,a3,a4,a5,a6,a7,a8⟩:=hK2.box.tail.tail.head.four
 go_wp2_with fail
 refine (HB.out _).mono ?_
 rintro e w3 ⟨rfl,hb3⟩
 have hK3:=(hK2.add2 _ _ _).keep hb3
 clear r0 r1 r2 r3 r4 r5 r6 r7 r8 b0 b1 b2 b3 b4 b5 b6 b7 b8 a0 a1 a2 a3 a4 a5 a6 a7 a8
 obtain ⟨s0,s1,s2,s3,s4⟩:=hK3.box.head.two
 obtain ⟨r0,r1,r2,r3,r4,r5,r6,r7,r8⟩:=hK3.box.tail.head.four
 obtain ⟨b0,b1,b2,b3,b4,b5,b6,b7,b8⟩:=hK3.box.tail.tail.head.four
 obtain ⟨a0,a1,a2,a3,a4,a5,a6,a7,a8⟩:=hK3.box.tail.tail.tail.head.four
 go_wp2_with fail
 exact bodyPost_ret (v:=Vl sv sm lo hi) (by simp [results,Tryz.results181,go_sem,r0,r1,r2,r3]) rfl ⟨rfl,(hK3.set4 1 rfl).bel⟩
set_option maxRecDepth 100000 in
set_option maxHeartbeats 1000000 in
theorem yaep {v m l h v' m' l' h':BitVec 64} (hr:Hid (eqb (band v m) zero=true)) (ha:Hid (eqb l' h'=true)) (w:World) :
  Calls Tryz.prog 181 #[N 9,Vl v m l h,Vl v' m' l' h'] w fun e w'=>e=.returned (Vl (bshr v (six l')) (bshr m (six l')) (bshr l (six l')) (bshr h (six l')))∧Below w.heap.size w w':=by
 have h6:=zud l'
 have h7:=zn5 l'
 have HS:Hid (∀ w,Calls Tryz.prog 200 #[N 9,Bt v m,N (six l')] w fun e w'=>e=.returned (.tuple #[Bt (bshr v (six l')) (bshr m (six l')),N 0])∧Below w.heap.size w w'):=fun w=>yaff hr h7 w
 have HB:Hid (∀ w,Calls Tryz.prog 201 #[N 9,Vl v m l h,U (band l' 63#64)] w fun e w'=>e=.returned (.tuple #[U (bshr l (six l')),U (bshr h (six l'))])∧Below w.heap.size w w'):=fun w=>zoa v m l h l' w
 generalize bshr l (six l')=lo at HB ⊢
 generalize bshr h (six l')=hi at HB ⊢
 generalize bshr v (six l')=sv at HS ⊢
 generalize bshr m (six l')=sm at HS ⊢
 go_enter Tryz.func181,Tryz.ntmps181
 go_wp2_with fail
 refine (zd8 ha.out _).mono ?_
 rintro e w1 ⟨rfl,hb1⟩
 have hK:=((((Kp.start w).add4 _ _ _ _ _).add4 _ _ _ _ _).add4 _ _ _ _ _).keep hb1
 simp only [World.size_alloc] at hK
 obtain ⟨r0,r1,r2,r3,r4,r5,r6,r7,r8⟩:=hK.box.head.four
 obtain ⟨b0,b1,b2,b3,b4,b5,b6,b7,b8⟩:=hK.box.tail.head.four
 obtain ⟨a0,a1,a2,a3,a4,a5,a6,a7,a8⟩:=hK.box.tail.tail.head.four
 go_wp2_with fail
 refine (HS.out _).mono ?_
 rintro e w2 ⟨rfl,hb2⟩
 have hK2:=hK.keep hb2
 clear r0 r1 r2 r3 r4 r5 r6 r7 r8 b0 b1 b2 b3 b4 b5 b6 b7 b8 a0 a1 a2 a3 a4 a5 a6 a7 a8
 obtain ⟨r0,r1,r2,r3,r4,r5,r6,r7,r8⟩:=hK2.box.head.four
 obtain ⟨b0,b1,b2,b3,b4,b5,b6,b7,b8⟩:=hK2.box.tail.head.four
 obtain ⟨a0,a1,a2,a3,a4,a5,a6,a7,a8⟩:=hK2.box.tail.tail.head.four
 go_wp2_with fail
 refine (HB.out _).mono ?_
 rintro e w3 ⟨rfl,hb3⟩
 have hK3:=(hK2.add2 _ _ _).keep hb3
 clear r0 r1 r2 r3 r4 r5 r6 r7 r8 b0 b1 b2 b3 b4 b5 b6 b7 b8 a0 a1 a2 a3 a4 a5 a6 a7 a8
 obtain ⟨s0,s1,s2,s3,s4⟩:=hK3.box.head.two
 obtain ⟨r0,r1,r2,r3,r4,r5,r6,r7,r8⟩:=hK3.box.tail.head.four
 obtain ⟨b0,b1,b2,b3,b4,b5,b6,b7,b8⟩:=hK3.box.tail.tail.head.four
 obtain ⟨a0,a1,a2,a3,a4,a5,a6,a7,a8⟩:=hK3.box.tail.tail.tail.head.four
 go_wp2_with fail
 exact bodyPost_ret (v:=Vl sv sm lo hi) (by simp [results,Tryz.results181,go_sem,r0,r1,r2,r3]) rfl ⟨rfl,(hK3.set4 1 rfl).bel⟩
end
section
attribute [local go_sem] zc9 w_or zdf za3 zbx zbc zda zcy zdb zbw zb4 zc3 zby zdc zcn zcz zb1 zb3 zb2 zb0 za1
def rk (op:Int) (v m l h v' m' l' h':BitVec 64):BitVec 64×BitVec 64×BitVec 64×BitVec 64 :=
 if op=8 then (if eqb l' h' then (bshl v (six l'),bshl m (six l'),(shlB l h (six l')).1,(shlB l h (six l')).2) else (zero,top,zero,top))
 else if op=9 then (if eqb l' h' then (bshr v (six l'),bshr m (six l'),bshr l (six l'),bshr h (six l')) else (zero,top,zero,h))
 else ((twoP op v m v' m').1,(twoP op v m v' m').2,(zcd op l h l' h').1,(zcd op l h l' h').2)
theorem yam6 {op:Int} (hop:op=8∨op=9) {v m l h:BitVec 64} (v' m' l' h':BitVec 64) (hr:Hid (eqb (band v m) zero=true)) (w:World) :
  Calls Tryz.prog 181 #[N op,Vl v m l h,Vl v' m' l' h'] w fun e w'=>e=.returned (Vl (rk op v m l h v' m' l' h').1 (rk op v m l h v' m' l' h').2.1 (rk op v m l h v' m' l' h').2.2.1 (rk op v m l h v' m' l' h').2.2.2)∧Below w.heap.size w w':=by
 rcases hop with rfl | rfl
 ·cases ha:eqb l' h'
  ·have e:rk 8 v m l h v' m' l' h'=(zero,top,zero,top):=by unfold rk;rw [if_pos rfl,ha];rfl
   rw [e];exact zyv ha w
  ·have e:rk 8 v m l h v' m' l' h'=(bshl v (six l'),bshl m (six l'),(shlB l h (six l')).1,(shlB l h (six l')).2):=by unfold rk;rw [if_pos rfl,ha];rfl
   rw [e];exact yaf6 hr ha w
 ·cases ha:eqb l' h'
  ·have e:rk 9 v m l h v' m' l' h'=(zero,top,zero,h):=by unfold rk;rw [if_neg (by decide),if_pos rfl,ha];rfl
   rw [e];exact zwz ha w
  ·have e:rk 9 v m l h v' m' l' h'=(bshr v (six l'),bshr m (six l'),bshr l (six l'),bshr h (six l')):=by unfold rk;rw [if_neg (by decide),if_pos rfl,ha];rfl
   rw [e];exact yaep hr ha w
set_option maxRecDepth 100000 in
set_option maxHeartbeats 1000000 in
theorem zk0 {op:Int} (hop:op=8∨op=9) {v m l g:BitVec 64} (v' m' l' g':BitVec 64) (hr:Hid (eqb (band v m) zero=true)) (w:World) :
  Calls Tryz.prog 155 #[N op,Vl v m l g,Vl v' m' l' g'] w fun e w'=>e=.returned (.tuple #[Vl (rk op v m l g v' m' l' g').1 (rk op v m l g v' m' l' g').2.1 (rk op v m l g v' m' l' g').2.2.1 (rk op v m l g v' m' l' g').2.2.2,N 0])∧Below w.heap.size w w':=by
 have HS:Hid (∀ w,Calls Tryz.prog 181 #[N op,Vl v m l g,Vl v' m' l' g'] w fun e w'=>e=.returned (Vl (rk op v m l g v' m' l' g').1 (rk op v m l g v' m' l' g').2.1 (rk op v m l g v' m' l' g').2.2.1 (rk op v m l g v' m' l' g').2.2.2)∧Below w.heap.size w w'):=fun w=>yam6 hop v' m' l' g' hr w
 generalize rk op v m l g v' m' l' g'=S at HS ⊢
 obtain ⟨sa,sb,sc,sd⟩:=S
 rcases hop with rfl | rfl
 all_goals
  go_enter Tryz.func155,Tryz.ntmps155
  go_wp2_with fail
  refine (HS.out _).mono ?_
  rintro e w1 ⟨rfl,hb1⟩
  have hK:=((((Kp.start w).add4 _ _ _ _ _).add4 _ _ _ _ _).add4 _ _ _ _ _).keep hb1
  simp only [World.size_alloc] at hK
  obtain ⟨r0,r1,r2,r3,r4,r5,r6,r7,r8⟩:=hK.box.head.four
  obtain ⟨b0,b1,b2,b3,b4,b5,b6,b7,b8⟩:=hK.box.tail.head.four
  obtain ⟨a0,a1,a2,a3,a4,a5,a6,a7,a8⟩:=hK.box.tail.tail.head.four
  go_wp2_with fail
  exact bodyPost_ret (v:=.tuple #[Vl sa sb sc sd,N 0]) (by simp [results,Tryz.results155,go_sem,r0,r1,r2,r3]) rfl ⟨rfl,(hK.set4 0 rfl).bel⟩
set_option maxRecDepth 100000 in
set_option maxHeartbeats 1000000 in
theorem zqg {op:Int} (hop:Hid (2≤op∧op≤7)) {v m l g v' m' l' g':BitVec 64} (hr:Hid ((eqb (band v m) zero&&eqb (band v' m') zero)=true)) (w:World) :
  Calls Tryz.prog 155 #[N op,Vl v m l g,Vl v' m' l' g'] w fun e w'=>e=.returned (.tuple #[Vl (rk op v m l g v' m' l' g').1 (rk op v m l g v' m' l' g').2.1 (rk op v m l g v' m' l' g').2.2.1 (rk op v m l g v' m' l' g').2.2.2,N 0])∧Below w.heap.size w w':=by
 have h8:(op==8)=false:=by have:=hop.out;simp;omega
 have h9:(op==9)=false:=by have:=hop.out;simp;omega
 have Hk:Hid (rk op v m l g v' m' l' g'=((twoP op v m v' m').1,(twoP op v m v' m').2,(zcd op l g l' g').1,(zcd op l g l' g').2)):=by
  show _=_
  unfold rk;rw [if_neg (by have:=hop.out;omega),if_neg (by have:=hop.out;omega)]
 rw [Hk.out]
 have HT:Hid (∀ w,Calls Tryz.prog 182 #[N op,Bt v m,Bt v' m'] w fun e w'=>e=.returned (.tuple #[Bt (twoP op v m v' m').1 (twoP op v m v' m').2,N 0])∧Below w.heap.size w w'):=fun w=>two_ok hr hop.out w
 have HB:Hid (∀ w,Calls Tryz.prog 183 #[N op,Vl v m l g,Vl v' m' l' g'] w fun e w'=>e=.returned (.tuple #[U (zcd op l g l' g').1,U (zcd op l g l' g').2])∧Below w.heap.size w w'):=fun w=>yafc hop v m l g v' m' l' g' w
 clear Hk
 generalize twoP op v m v' m'=T at HT ⊢
 generalize zcd op l g l' g'=B at HB ⊢
 obtain ⟨ta,tb⟩:=T
 obtain ⟨ba,bb⟩:=B
 go_enter Tryz.func155,Tryz.ntmps155
 go_wp2_with fail
 refine (HT.out _).mono ?_
 rintro e w1 ⟨rfl,hb1⟩
 have hK:=((((Kp.start w).add4 _ _ _ _ _).add4 _ _ _ _ _).add4 _ _ _ _ _).keep hb1
 simp only [World.size_alloc] at hK
 obtain ⟨r0,r1,r2,r3,r4,r5,r6,r7,r8⟩:=hK.box.head.four
 obtain ⟨b0,b1,b2,b3,b4,b5,b6,b7,b8⟩:=hK.box.tail.head.four
 obtain ⟨a0,a1,a2,a3,a4,a5,a6,a7,a8⟩:=hK.box.tail.tail.head.four
 go_wp2_with fail
 refine (HB.out _).mono ?_
 rintro e w2 ⟨rfl,hb2⟩
 have hK2:=(hK.add2 _ _ _).keep hb2
 clear r0 r1 r2 r3 r4 r5 r6 r7 r8 b0 b1 b2 b3 b4 b5 b6 b7 b8 a0 a1 a2 a3 a4 a5 a6 a7 a8
 obtain ⟨k0,k1,k2,k3,k4⟩:=hK2.box.head.two
 obtain ⟨r0,r1,r2,r3,r4,r5,r6,r7,r8⟩:=hK2.box.tail.head.four
 obtain ⟨b0,b1,b2,b3,b4,b5,b6,b7,b8⟩:=hK2.box.tail.tail.head.four
 obtain ⟨a0,a1,a2,a3,a4,a5,a6,a7,a8⟩:=hK2.box.tail.tail.tail.head.four
 go_wp2_with fail
 exact bodyPost_ret (v:=.tuple #[Vl ta tb ba bb,N 0]) (by simp [results,Tryz.results155,go_sem,r0,r1,r2,r3]) rfl ⟨rfl,(hK2.set4 1 rfl).bel⟩
end
section
attribute [local go_sem] zc9 w_or zdf za3 zbx zbc zda zcy zdb zbw zb4 zc3 zby zdc zcn zcz zb1 zb3 zb2 zb0 za1
set_option maxRecDepth 100000 in
set_option maxHeartbeats 1000000 in
theorem zj8 {v m l g v' m' l' g':BitVec 64} {r1 r2:Bool} (h1:Hid (valB v m l g=r1)) (h2:Hid (valB v' m' l' g'=r2)) {b c:Nat} {w:World} (hbw:b<w.heap.size)
  (c0:w.cell? ⟨b,0,none⟩=some (U v)) (c1:w.cell? ⟨b,1,none⟩=some (U m)) (c2:w.cell? ⟨b,2,none⟩=some (U l)) (c3:w.cell? ⟨b,3,none⟩=some (U g))
  (c4:w.cell? ⟨b,4,none⟩=some (U v')) (c5:w.cell? ⟨b,5,none⟩=some (U m')) (c6:w.cell? ⟨b,6,none⟩=some (U l')) (c7:w.cell? ⟨b,7,none⟩=some (U g')) :
  Calls Tryz.prog 154 #[.slice (some ⟨b,0,none⟩) 2 c] w fun e w'=>e=.returned (N (er (r1&&r2)))∧Below w.heap.size w w':=by
 go_enter Tryz.func154,Tryz.ntmps154
 go_wp2_with fail
 refine wp_loop_rounds 3 ?_
 rw [rounds_succ]
 go_wp2_with fail
 refine (yabv h1.out _).mono ?_
 rintro e w1 ⟨rfl,hb1⟩
 obtain ⟨hc1,hf1,hs1⟩:=bk (b+1) hb1 (by simp;omega)
 cases r1
 ·rw [er_f]
  go_wp2_with fail
  go_ret
  exact ⟨rfl,(by repeat (first | exact Below.refl _ _ | assumption | refine below_drewN ?_ _ | refine Below.drew ?_ | refine Below.alloc ?_ (by first | exact Nat.le_refl _ | (simp;done) | (simp;omega) | omega) _ | refine Below.setCell ?_ (by first | exact Nat.le_refl _ | (simp;done) | (simp;omega) | omega) _ | refine Below.trans ?_ (Below.mono (by assumption) (by first | exact Nat.le_refl _ | (simp;done) | (simp;omega) | omega))))⟩
 ·rw [er_t]
  go_wp2_with fail
  rw [rounds_succ]
  go_wp2_with fail
  refine (yabv h2.out _).mono ?_
  rintro e w2 ⟨rfl,hb2⟩
  have hz1:w.heap.size≤w1.heap.size:=Nat.le_trans (by simp) hb1.size
  cases r2
  ·rw [er_f]
   go_wp2_with fail
   go_ret
   exact ⟨rfl,(by repeat (first | exact Below.refl _ _ | assumption | refine below_drewN ?_ _ | refine Below.drew ?_ | refine Below.alloc ?_ (by first | exact Nat.le_refl _ | (simp;done) | (simp;omega) | omega) _ | refine Below.setCell ?_ (by first | exact Nat.le_refl _ | (simp;done) | (simp;omega) | omega) _ | refine Below.trans ?_ (Below.mono (by assumption) (by first | exact Nat.le_refl _ | (simp;done) | (simp;omega) | omega))))⟩
  ·rw [er_t]
   go_wp2_with fail
   rw [rounds_succ]
   go_wp2_with fail
   go_ret
   exact ⟨rfl,(by repeat (first | exact Below.refl _ _ | assumption | refine below_drewN ?_ _ | refine Below.drew ?_ | refine Below.alloc ?_ (by first | exact Nat.le_refl _ | (simp;done) | (simp;omega) | omega) _ | refine Below.setCell ?_ (by first | exact Nat.le_refl _ | (simp;done) | (simp;omega) | omega) _ | refine Below.trans ?_ (Below.mono (by assumption) (by first | exact Nat.le_refl _ | (simp;done) | (simp;omega) | omega))))⟩
theorem zmc {v m l g v' m' l' g':BitVec 64} (hr:(valB v m l g&&valB v' m' l' g')=true):(eqb (band v m) zero&&eqb (band v' m') zero)=true:=by
 rw [Bool.and_eq_true] at hr
 rw [(zef _ _).2 (zbf hr.1).1,(zef _ _).2 (zbf hr.2).1];rfl
set_option maxRecDepth 100000 in
set_option maxHeartbeats 1000000 in
theorem zuj {op:Int}  {v m l g v' m' l' g':BitVec 64} (hr:Hid ((valB v m l g&&valB v' m' l' g')=true)) (hop:Hid (2≤op∧op≤9)) (hrr:Hid (eqb (band (rk op v m l g v' m' l' g').1 (rk op v m l g v' m' l' g').2.1) zero=true)) (ho:Hid (zc7 (rk op v m l g v' m' l' g').1 (rk op v m l g v' m' l' g').2.1 (rk op v m l g v' m' l' g').2.2.1 (rk op v m l g v' m' l' g').2.2.2=false)) (w:World) :
  Calls Tryz.prog 108 #[N op,Vl v m l g,Vl v' m' l' g'] w fun e w'=>e=.returned (.tuple #[V0,N 0])∧Below w.heap.size w w':=by
 obtain ⟨z1,H1⟩:∃ b,Hid (valB v m l g=b):=⟨_,rfl⟩
 obtain ⟨z2,H2⟩:∃ b,Hid (valB v' m' l' g'=b):=⟨_,rfl⟩
 have hb:=zmc hr.out
 have hb':=hb
 rw [Bool.and_eq_true] at hb'
 have HR:Hid (∀ w,Calls Tryz.prog 155 #[N op,Vl v m l g,Vl v' m' l' g'] w fun e w'=>e=.returned (.tuple #[Vl (rk op v m l g v' m' l' g').1 (rk op v m l g v' m' l' g').2.1 (rk op v m l g v' m' l' g').2.2.1 (rk op v m l g v' m' l' g').2.2.2,N 0])∧Below w.heap.size w w'):=fun w=>by
  by_cases h:op=8∨op=9
  ·exact zk0 h v' m' l' g' hb'.1 w
  ·exact zqg (hid (by have:=hop.out;omega)) hb w
 clear hb hb' hop
 generalize rk op v m l g v' m' l' g'=S at HR hrr ho ⊢
 obtain ⟨sa,sb,sc,sd⟩:=S
 dsimp only at HR hrr ho ⊢
 have HN:Hid (∀ w,Calls Tryz.prog 156 #[Vl sa sb sc sd] w fun e w'=>e=.returned (.tuple #[V0,.bool false,N 0])∧Below w.heap.size w w'):=fun w=>zte hrr ho w
 rw [H1.out,H2.out] at hr
 go_enter Tryz.func108,Tryz.ntmps108
 go_wp2_with fail
 refine (zj8 H1 H2 (by simp) (by simp [go_sem]) (by simp [go_sem]) (by simp [go_sem]) (by simp [go_sem]) (by simp [go_sem]) (by simp [go_sem]) (by simp [go_sem]) (by simp [go_sem])).mono ?_
 rw [hr.out,er_t]
 rintro e w1 ⟨rfl,hb1⟩
 have hK:=(((((Kp.start w).add4 _ _ _ _ _).add4 _ _ _ _ _).add4 _ _ _ _ _).keep ((Below.refl _ _).alloc (Nat.le_refl _) _)).keep hb1
 simp only [World.size_alloc] at hK
 obtain ⟨r0,r1,r2,r3,r4,r5,r6,r7,r8⟩:=hK.box.head.four
 obtain ⟨b0,b1,b2,b3,b4,b5,b6,b7,b8⟩:=hK.box.tail.head.four
 obtain ⟨a0,a1,a2,a3,a4,a5,a6,a7,a8⟩:=hK.box.tail.tail.head.four
 go_wp2_with fail
 refine (HR.out _).mono ?_
 rintro e w2 ⟨rfl,hb2⟩
 have hK2:=hK.keep hb2
 clear r0 r1 r2 r3 r4 r5 r6 r7 r8 b0 b1 b2 b3 b4 b5 b6 b7 b8 a0 a1 a2 a3 a4 a5 a6 a7 a8
 obtain ⟨r0,r1,r2,r3,r4,r5,r6,r7,r8⟩:=hK2.box.head.four
 obtain ⟨b0,b1,b2,b3,b4,b5,b6,b7,b8⟩:=hK2.box.tail.head.four
 obtain ⟨a0,a1,a2,a3,a4,a5,a6,a7,a8⟩:=hK2.box.tail.tail.head.four
 go_wp2_with fail
 refine (HN.out _).mono ?_
 rintro e w3 ⟨rfl,hb3⟩
 have hK3:=(hK2.add4 _ _ _ _ _).keep hb3
 clear r0 r1 r2 r3 r4 r5 r6 r7 r8 b0 b1 b2 b3 b4 b5 b6 b7 b8 a0 a1 a2 a3 a4 a5 a6 a7 a8
 obtain ⟨k0,k1,k2,k3,k4,k5,k6,k7,k8⟩:=hK3.box.head.four
 obtain ⟨r0,r1,r2,r3,r4,r5,r6,r7,r8⟩:=hK3.box.tail.head.four
 obtain ⟨b0,b1,b2,b3,b4,b5,b6,b7,b8⟩:=hK3.box.tail.tail.head.four
 obtain ⟨a0,a1,a2,a3,a4,a5,a6,a7,a8⟩:=hK3.box.tail.tail.tail.head.four
 go_wp2_with fail
 exact bodyPost_ret (v:=.tuple #[V0,N 0]) (by simp [results,Tryz.results108,go_sem,za4,r0,r1,r2,r3,r8]) rfl ⟨rfl,((hK3.set4 1 rfl).add4 _ _ _ _ _).bel⟩
set_option maxRecDepth 100000 in
set_option maxHeartbeats 1000000 in
theorem zyg {op:Int}  {v m l g v' m' l' g':BitVec 64} (hr:Hid ((valB v m l g&&valB v' m' l' g')=true)) (hop:Hid (2≤op∧op≤9)) (hrr:Hid (eqb (band (rk op v m l g v' m' l' g').1 (rk op v m l g v' m' l' g').2.1) zero=true)) (ho:Hid (zc7 (rk op v m l g v' m' l' g').1 (rk op v m l g v' m' l' g').2.1 (rk op v m l g v' m' l' g').2.2.1 (rk op v m l g v' m' l' g').2.2.2=true)) (w:World) :
  Calls Tryz.prog 108 #[N op,Vl v m l g,Vl v' m' l' g'] w fun e w'=>e=.returned (.tuple #[Vl (nV (rk op v m l g v' m' l' g').1 (rk op v m l g v' m' l' g').2.1 (rk op v m l g v' m' l' g').2.2.1 (rk op v m l g v' m' l' g').2.2.2) (nM (rk op v m l g v' m' l' g').2.1 (nLo (rk op v m l g v' m' l' g').1 (rk op v m l g v' m' l' g').2.1 (rk op v m l g v' m' l' g').2.2.1) (nHi (rk op v m l g v' m' l' g').1 (rk op v m l g v' m' l' g').2.1 (rk op v m l g v' m' l' g').2.2.2)) (nLo (rk op v m l g v' m' l' g').1 (rk op v m l g v' m' l' g').2.1 (rk op v m l g v' m' l' g').2.2.1) (nHi (rk op v m l g v' m' l' g').1 (rk op v m l g v' m' l' g').2.1 (rk op v m l g v' m' l' g').2.2.2),N 0])∧Below w.heap.size w w':=by
 obtain ⟨z1,H1⟩:∃ b,Hid (valB v m l g=b):=⟨_,rfl⟩
 obtain ⟨z2,H2⟩:∃ b,Hid (valB v' m' l' g'=b):=⟨_,rfl⟩
 have hb:=zmc hr.out
 have hb':=hb
 rw [Bool.and_eq_true] at hb'
 have HR:Hid (∀ w,Calls Tryz.prog 155 #[N op,Vl v m l g,Vl v' m' l' g'] w fun e w'=>e=.returned (.tuple #[Vl (rk op v m l g v' m' l' g').1 (rk op v m l g v' m' l' g').2.1 (rk op v m l g v' m' l' g').2.2.1 (rk op v m l g v' m' l' g').2.2.2,N 0])∧Below w.heap.size w w'):=fun w=>by
  by_cases h:op=8∨op=9
  ·exact zk0 h v' m' l' g' hb'.1 w
  ·exact zqg (hid (by have:=hop.out;omega)) hb w
 clear hb hb' hop
 generalize rk op v m l g v' m' l' g'=S at HR hrr ho ⊢
 obtain ⟨sa,sb,sc,sd⟩:=S
 dsimp only at HR hrr ho ⊢
 have HN:Hid (∀ w,Calls Tryz.prog 156 #[Vl sa sb sc sd] w fun e w'=>e=.returned (.tuple #[Vl (nV sa sb sc sd) (nM sb (nLo sa sb sc) (nHi sa sb sd)) (nLo sa sb sc) (nHi sa sb sd),.bool true,N 0])∧Below w.heap.size w w'):=fun w=>zq1 hrr ho w
 generalize nV sa sb sc sd=na at HN ⊢
 generalize nM sb (nLo sa sb sc) (nHi sa sb sd)=nb at HN ⊢
 generalize nLo sa sb sc=nc at HN ⊢
 generalize nHi sa sb sd=nd at HN ⊢
 rw [H1.out,H2.out] at hr
 go_enter Tryz.func108,Tryz.ntmps108
 go_wp2_with fail
 refine (zj8 H1 H2 (by simp) (by simp [go_sem]) (by simp [go_sem]) (by simp [go_sem]) (by simp [go_sem]) (by simp [go_sem]) (by simp [go_sem]) (by simp [go_sem]) (by simp [go_sem])).mono ?_
 rw [hr.out,er_t]
 rintro e w1 ⟨rfl,hb1⟩
 have hK:=(((((Kp.start w).add4 _ _ _ _ _).add4 _ _ _ _ _).add4 _ _ _ _ _).keep ((Below.refl _ _).alloc (Nat.le_refl _) _)).keep hb1
 simp only [World.size_alloc] at hK
 obtain ⟨r0,r1,r2,r3,r4,r5,r6,r7,r8⟩:=hK.box.head.four
 obtain ⟨b0,b1,b2,b3,b4,b5,b6,b7,b8⟩:=hK.box.tail.head.four
 obtain ⟨a0,a1,a2,a3,a4,a5,a6,a7,a8⟩:=hK.box.tail.tail.head.four
 go_wp2_with fail
 refine (HR.out _).mono ?_
 rintro e w2 ⟨rfl,hb2⟩
 have hK2:=hK.keep hb2
 clear r0 r1 r2 r3 r4 r5 r6 r7 r8 b0 b1 b2 b3 b4 b5 b6 b7 b8 a0 a1 a2 a3 a4 a5 a6 a7 a8
 obtain ⟨r0,r1,r2,r3,r4,r5,r6,r7,r8⟩:=hK2.box.head.four
 obtain ⟨b0,b1,b2,b3,b4,b5,b6,b7,b8⟩:=hK2.box.tail.head.four
 obtain ⟨a0,a1,a2,a3,a4,a5,a6,a7,a8⟩:=hK2.box.tail.tail.head.four
 go_wp2_with fail
 refine (HN.out _).mono ?_
 rintro e w3 ⟨rfl,hb3⟩
 have hK3:=(hK2.add4 _ _ _ _ _).keep hb3
 clear r0 r1 r2 r3 r4 r5 r6 r7 r8 b0 b1 b2 b3 b4 b5 b6 b7 b8 a0 a1 a2 a3 a4 a5 a6 a7 a8
 obtain ⟨k0,k1,k2,k3,k4,k5,k6,k7,k8⟩:=hK3.box.head.four
 obtain ⟨r0,r1,r2,r3,r4,r5,r6,r7,r8⟩:=hK3.box.tail.head.four
 obtain ⟨b0,b1,b2,b3,b4,b5,b6,b7,b8⟩:=hK3.box.tail.tail.head.four
 obtain ⟨a0,a1,a2,a3,a4,a5,a6,a7,a8⟩:=hK3.box.tail.tail.tail.head.four
 go_wp2_with fail
 exact bodyPost_ret (v:=.tuple #[Vl na nb nc nd,N 0]) (by simp [results,Tryz.results108,go_sem,r0,r1,r2,r3,r8]) rfl ⟨rfl,((hK3.set4 1 rfl).add4 _ _ _ _ _).bel⟩
end
section
attribute [local go_sem] zc9 w_or zdf za3 zbx zbc zda zcy zdb zbw zb4 zc3 zby zdc zcn zcz zb1 zb3 zb2 zb0 za1
set_option maxRecDepth 100000 in
set_option maxHeartbeats 1000000 in
theorem zms (v m l g lo hi:BitVec 64) (w:World) :
  Calls Tryz.prog 152 #[Vl v m l g,U lo,U hi] w fun e w'=>e=.returned (Vl v m (bmax l lo) (bmin g hi))∧Below w.heap.size w w':=by
 by_cases h1:nv l<nv lo <;> by_cases h2:nv hi<nv g
 ·have e1:Hid (bmax l lo=lo):=if_pos h1
  have e2:Hid (bmin g hi=hi):=if_pos h2
  rw [e1.out,e2.out]
  go_enter Tryz.func152,Tryz.ntmps152
  go_wp2_with fail
  exact bodyPost_ret (v:=Vl v m lo hi) (by simp [results,Tryz.results152,go_sem]) rfl ⟨rfl,(by repeat (first | exact Below.refl _ _ | assumption | refine below_drewN ?_ _ | refine Below.drew ?_ | refine Below.alloc ?_ (by first | exact Nat.le_refl _ | (simp;done) | (simp;omega) | omega) _ | refine Below.setCell ?_ (by first | exact Nat.le_refl _ | (simp;done) | (simp;omega) | omega) _ | refine Below.trans ?_ (Below.mono (by assumption) (by first | exact Nat.le_refl _ | (simp;done) | (simp;omega) | omega))))⟩
 ·have e1:Hid (bmax l lo=lo):=if_pos h1
  have e2:Hid (bmin g hi=g):=if_neg h2
  have h2':nv g≤nv hi:=by omega
  clear h2
  rw [e1.out,e2.out]
  go_enter Tryz.func152,Tryz.ntmps152
  go_wp2_with fail
  exact bodyPost_ret (v:=Vl v m lo g) (by simp [results,Tryz.results152,go_sem]) rfl ⟨rfl,(by repeat (first | exact Below.refl _ _ | assumption | refine below_drewN ?_ _ | refine Below.drew ?_ | refine Below.alloc ?_ (by first | exact Nat.le_refl _ | (simp;done) | (simp;omega) | omega) _ | refine Below.setCell ?_ (by first | exact Nat.le_refl _ | (simp;done) | (simp;omega) | omega) _ | refine Below.trans ?_ (Below.mono (by assumption) (by first | exact Nat.le_refl _ | (simp;done) | (simp;omega) | omega))))⟩
 ·have e1:Hid (bmax l lo=l):=if_neg h1
  have e2:Hid (bmin g hi=hi):=if_pos h2
  have h1':nv lo≤nv l:=by omega
  clear h1
  rw [e1.out,e2.out]
  go_enter Tryz.func152,Tryz.ntmps152
  go_wp2_with fail
  exact bodyPost_ret (v:=Vl v m l hi) (by simp [results,Tryz.results152,go_sem]) rfl ⟨rfl,(by repeat (first | exact Below.refl _ _ | assumption | refine below_drewN ?_ _ | refine Below.drew ?_ | refine Below.alloc ?_ (by first | exact Nat.le_refl _ | (simp;done) | (simp;omega) | omega) _ | refine Below.setCell ?_ (by first | exact Nat.le_refl _ | (simp;done) | (simp;omega) | omega) _ | refine Below.trans ?_ (Below.mono (by assumption) (by first | exact Nat.le_refl _ | (simp;done) | (simp;omega) | omega))))⟩
 ·have e1:Hid (bmax l lo=l):=if_neg h1
  have e2:Hid (bmin g hi=g):=if_neg h2
  have h1':nv lo≤nv l:=by omega
  have h2':nv g≤nv hi:=by omega
  clear h1 h2
  rw [e1.out,e2.out]
  go_enter Tryz.func152,Tryz.ntmps152
  go_wp2_with fail
  exact bodyPost_ret (v:=Vl v m l g) (by simp [results,Tryz.results152,go_sem]) rfl ⟨rfl,(by repeat (first | exact Below.refl _ _ | assumption | refine below_drewN ?_ _ | refine Below.drew ?_ | refine Below.alloc ?_ (by first | exact Nat.le_refl _ | (simp;done) | (simp;omega) | omega) _ | refine Below.setCell ?_ (by first | exact Nat.le_refl _ | (simp;done) | (simp;omega) | omega) _ | refine Below.trans ?_ (Below.mono (by assumption) (by first | exact Nat.le_refl _ | (simp;done) | (simp;omega) | omega))))⟩
def woL (l l' h':BitVec 64):BitVec 64:=if eqb l' h'&&eqb l l' then badd l one else l
def woH (l h l' h':BitVec 64):BitVec 64:=if eqb l' h'&&(!eqb l l'&&eqb h l') then bsub h one else h
set_option maxRecDepth 100000 in
set_option maxHeartbeats 1000000 in
theorem yae7 (v m l g v' m' l' g':BitVec 64) (w:World) :
  Calls Tryz.prog 148 #[Vl v m l g,Vl v' m' l' g'] w fun e w'=>e=.returned (Vl v m (woL l l' g') (woH l g l' g'))∧Below w.heap.size w w':=by
 have H1:Hid (woL l l' g'=if eqb l' g'&&eqb l l' then badd l one else l):=rfl
 have H2:Hid (woH l g l' g'=if eqb l' g'&&(!eqb l l'&&eqb g l') then bsub g one else g):=rfl
 obtain ⟨z1,ha⟩:∃ b,Hid (eqb l' g'=b):=⟨_,rfl⟩
 obtain ⟨z2,hb⟩:∃ b,eqb l l'=b:=⟨_,rfl⟩
 obtain ⟨z3,hc⟩:∃ b,eqb g l'=b:=⟨_,rfl⟩
 rw [ha.out,hb] at H1
 rw [ha.out,hb,hc] at H2
 cases z1
 ·rw [H1.out,H2.out]
  go_enter Tryz.func148,Tryz.ntmps148
  go_wp2_with fail
  refine (zd8 ha.out _).mono ?_
  rintro e w1 ⟨rfl,hb1⟩
  have hK:=((((Kp.start w).add4 _ _ _ _ _).add4 _ _ _ _ _).add4 _ _ _ _ _).keep hb1
  simp only [World.size_alloc] at hK
  obtain ⟨r0,r1,r2,r3,r4,r5,r6,r7,r8⟩:=hK.box.head.four
  obtain ⟨b0,b1,b2,b3,b4,b5,b6,b7,b8⟩:=hK.box.tail.head.four
  obtain ⟨a0,a1,a2,a3,a4,a5,a6,a7,a8⟩:=hK.box.tail.tail.head.four
  go_wp2_with fail
  exact bodyPost_ret (v:=Vl v m l g) (by simp [results,Tryz.results148,go_sem,r0,r1,r2,r3]) rfl ⟨rfl,(hK.set4 0 rfl).bel⟩
 ·cases z2
  ·cases z3
   ·rw [H1.out,H2.out]
    go_enter Tryz.func148,Tryz.ntmps148
    go_wp2_with fail
    refine (zd8 ha.out _).mono ?_
    rintro e w1 ⟨rfl,hb1⟩
    have hK:=((((Kp.start w).add4 _ _ _ _ _).add4 _ _ _ _ _).add4 _ _ _ _ _).keep hb1
    simp only [World.size_alloc] at hK
    obtain ⟨r0,r1,r2,r3,r4,r5,r6,r7,r8⟩:=hK.box.head.four
    obtain ⟨b0,b1,b2,b3,b4,b5,b6,b7,b8⟩:=hK.box.tail.head.four
    obtain ⟨a0,a1,a2,a3,a4,a5,a6,a7,a8⟩:=hK.box.tail.tail.head.four
    go_wp2_with fail
    exact bodyPost_ret (v:=Vl v m l g) (by simp [results,Tryz.results148,go_sem,r0,r1,r2,r3]) rfl ⟨rfl,(hK.set4 0 rfl).bel⟩
   ·rw [H1.out,H2.out]
    go_enter Tryz.func148,Tryz.ntmps148
    go_wp2_with fail
    refine (zd8 ha.out _).mono ?_
    rintro e w1 ⟨rfl,hb1⟩
    have hK:=((((Kp.start w).add4 _ _ _ _ _).add4 _ _ _ _ _).add4 _ _ _ _ _).keep hb1
    simp only [World.size_alloc] at hK
    obtain ⟨r0,r1,r2,r3,r4,r5,r6,r7,r8⟩:=hK.box.head.four
    obtain ⟨b0,b1,b2,b3,b4,b5,b6,b7,b8⟩:=hK.box.tail.head.four
    obtain ⟨a0,a1,a2,a3,a4,a5,a6,a7,a8⟩:=hK.box.tail.tail.head.four
    go_wp2_with fail
    refine bodyPost_ret (v:=Vl v m l (bsub g one)) (by simp [results,Tryz.results148,go_sem,r0,r1,r2,r3]) rfl ⟨rfl,?_⟩
    exact ((((hK.bel.setCell (by dsimp only;omega) _).setCell (by dsimp only;omega) _).setCell (by dsimp only;omega) _).setCell (by dsimp only;omega) _).setCell (by dsimp only;omega) _
  ·rw [H1.out,H2.out]
   go_enter Tryz.func148,Tryz.ntmps148
   go_wp2_with fail
   refine (zd8 ha.out _).mono ?_
   rintro e w1 ⟨rfl,hb1⟩
   have hK:=((((Kp.start w).add4 _ _ _ _ _).add4 _ _ _ _ _).add4 _ _ _ _ _).keep hb1
   simp only [World.size_alloc] at hK
   obtain ⟨r0,r1,r2,r3,r4,r5,r6,r7,r8⟩:=hK.box.head.four
   obtain ⟨b0,b1,b2,b3,b4,b5,b6,b7,b8⟩:=hK.box.tail.head.four
   obtain ⟨a0,a1,a2,a3,a4,a5,a6,a7,a8⟩:=hK.box.tail.tail.head.four
   go_wp2_with fail
   refine bodyPost_ret (v:=Vl v m (badd l one) g) (by simp [results,Tryz.results148,go_sem,r0,r1,r2,r3]) rfl ⟨rfl,?_⟩
   exact ((((hK.bel.setCell (by dsimp only;omega) _).setCell (by dsimp only;omega) _).setCell (by dsimp only;omega) _).setCell (by dsimp only;omega) _).setCell (by dsimp only;omega) _
end
end Go.Proofs.YtkigmocchaikgabGreatDoor
namespace Go.Proofs.YtkigmocchaikgabGreatDoor
theorem zng {v m l h x:BitVec 64} (hx:hasV v m l h x=true):valB v m l h=true∧RtB v m∧hasB v m x=true∧nv l≤nv x∧nv x≤nv h:=by
 unfold hasV at hx
 simp only [Bool.and_eq_true,decide_eq_true_eq] at hx
 exact ⟨hx.1,(zbf hx.1).1,hx.2.1,hx.2.2.1,hx.2.2.2⟩
theorem ztn {v m l h x:BitVec 64} (h1:hasB v m x=true) (h2:nv l≤nv x) (h3:nv x≤nv h):rawV v m l h x=true:=by
 unfold rawV;rw [h1];simp only [Bool.true_and,Bool.and_eq_true,decide_eq_true_eq];exact ⟨h2,h3⟩
theorem zrd (x:BitVec 64):RtB zero top∧hasB zero top x=true:=by
 have hr:RtB zero top:=zn1 top
 refine ⟨hr,(za0 _ _ _).2 ⟨hr,fun j hj=>?_⟩⟩
 rw [zrv _ hj,zbb];cases bit x j <;> rfl
theorem yab7 {op:Int} (hop:2≤op∧op≤9) {v m l h v' m' l' h' x y:BitVec 64} (hx:hasV v m l h x=true) (hy:hasV v' m' l' h' y=true) :
  RtB (rk op v m l h v' m' l' h').1 (rk op v m l h v' m' l' h').2.1∧rawV (rk op v m l h v' m' l' h').1 (rk op v m l h v' m' l' h').2.1 (rk op v m l h v' m' l' h').2.2.1 (rk op v m l h v' m' l' h').2.2.2 (numN op x y)=true:=by
 obtain ⟨_,r1,b1,p1,p2⟩:=zng hx
 obtain ⟨_,r2,b2,q1,q2⟩:=zng hy
 by_cases h8:op=8
 ·subst h8
  have hn:numN 8 x y=bshl x (six y):=by unfold numN;rw [if_neg (by decide),if_neg (by decide),if_pos rfl]
  rw [hn]
  cases ha:eqb l' h'
  ·have e:rk 8 v m l h v' m' l' h'=(zero,top,zero,top):=by unfold rk;rw [if_pos rfl,ha];rfl
   rw [e]
   exact ⟨(zrd zero).1,ztn (zrd _).2 (ends _).1 (ends _).2⟩
  ·have e:rk 8 v m l h v' m' l' h'=(bshl v (six l'),bshl m (six l'),(shlB l h (six l')).1,(shlB l h (six l')).2):=by unfold rk;rw [if_pos rfl,ha];rfl
   have hl:y=l':=by
    have:=(zdl _ _).1 ha
    rw [← this] at q2
    exact zlc _ _ (by omega)
   rw [e,hl]
   exact ⟨yalk r1 _,ztn (yaku b1 _) (zpm _ p1 p2).1 (zpm _ p1 p2).2⟩
 ·by_cases h9:op=9
  ·subst h9
   have hn:numN 9 x y=bshr x (six y):=by unfold numN;rw [if_neg (by decide),if_neg (by decide),if_neg (by decide)]
   rw [hn]
   cases ha:eqb l' h'
   ·have e:rk 9 v m l h v' m' l' h'=(zero,top,zero,h):=by unfold rk;rw [if_neg (by decide),if_pos rfl,ha];rfl
    rw [e]
    exact ⟨(zrd zero).1,ztn (zrd _).2 (ends _).1 (Int.le_trans (yazg _ _) p2)⟩
   ·have e:rk 9 v m l h v' m' l' h'=(bshr v (six l'),bshr m (six l'),bshr l (six l'),bshr h (six l')):=by unfold rk;rw [if_neg (by decide),if_pos rfl,ha];rfl
    have hl:y=l':=by
     have:=(zdl _ _).1 ha
     rw [← this] at q2
     exact zlc _ _ (by omega)
    rw [e,hl]
    have hs:=yai0 b1 (six l')
    exact ⟨((za0 _ _ _).1 hs).1,ztn hs (zpl _ p1 p2).1 (zpl _ p1 p2).2⟩
  ·have h27:2≤op∧op≤7:=by omega
   have hn:numN op x y=numB op x y:=by unfold numN;rw [if_neg (by omega),if_pos h27]
   have e:rk op v m l h v' m' l' h'=((twoP op v m v' m').1,(twoP op v m v' m').2,(zcd op l h l' h').1,(zcd op l h l' h').2):=by
    unfold rk;rw [if_neg h8,if_neg h9]
   rw [hn,e]
   exact ⟨yaqh h27,ztn (yahi h27 b1 b2) (zk6 h27 p1 p2 q1 q2).1 (zk6 h27 p1 p2 q1 q2).2⟩
structure V4 where
 v:BitVec 64
 m:BitVec 64
 l:BitVec 64
 h:BitVec 64
theorem V4.ext' {a b:V4} (h1:a.v=b.v) (h2:a.m=b.m) (h3:a.l=b.l) (h4:a.h=b.h):a=b:=by cases a;cases b;simp_all
def V4.cs (a:V4):List AC:=[.u a.v,.u a.m,.u a.l,.u a.h]
def V4.z:V4:=⟨zero,zero,zero,zero⟩
def V4.rt (a:V4):Bool:=eqb (band a.v a.m) zero
def V4.ok (a:V4):Bool:=valB a.v a.m a.l a.h
def V4.nok (a:V4):Bool:=zc7 a.v a.m a.l a.h
def V4.nrm (a:V4):V4:=⟨nV a.v a.m a.l a.h,nM a.m (nLo a.v a.m a.l) (nHi a.v a.m a.h),nLo a.v a.m a.l,nHi a.v a.m a.h⟩
def V4.norm (a:V4):V4:=if a.nok then a.nrm else V4.z
def V4.has (a:V4) (x:BitVec 64):Bool:=hasV a.v a.m a.l a.h x
def V4.of (x:BitVec 64):V4:=⟨x,zero,x,x⟩
def V4.any:V4:=⟨zero,top,zero,top⟩
def V4.alone (a:V4):Bool:=eqb a.l a.h
def V4.rawJoin (a b:V4):V4:=⟨jV a.v a.m b.v b.m,jM a.v a.m b.v b.m,bmin a.l b.l,bmax a.h b.h⟩
def V4.join (a b:V4):V4:=(a.rawJoin b).nrm
def V4.raw2 (op:Int) (a b:V4):V4 :=
 ⟨(rk op a.v a.m a.l a.h b.v b.m b.l b.h).1,(rk op a.v a.m a.l a.h b.v b.m b.l b.h).2.1,(rk op a.v a.m a.l a.h b.v b.m b.l b.h).2.2.1,(rk op a.v a.m a.l a.h b.v b.m b.l b.h).2.2.2⟩
def V4.two (op:Int) (a b:V4):V4:=(V4.raw2 op a b).norm
def lvV (p:Bool) (a:V4):V4:=if p then a else V4.z
def zgy (may:Bool) (x y:V4):V4×V4×Bool:=(lvV (may&&(x.nok&&y.nok)) x.nrm,lvV (may&&(x.nok&&y.nok)) y.nrm,may&&(x.nok&&y.nok))
def V4.meets (a b:V4):Bool:=eqb (bandn (bxor a.v b.v) (bor a.m b.m)) zero
def V4.rawEqual (a b:V4):V4:=⟨bor a.v b.v,band a.m b.m,bmax a.l b.l,bmin a.h b.h⟩
def V4.equal (a b:V4):V4×V4×Bool:=if a.meets b then zgy true (a.rawEqual b) (a.rawEqual b) else (V4.z,V4.z,false)
def V4.without (a b:V4):V4:=⟨a.v,a.m,woL a.l b.l b.h,woH a.l a.h b.l b.h⟩
def V4.other (a b:V4):V4×V4×Bool:=zgy (!(a.alone&&(b.alone&&eqb a.l b.l))) (a.without b) (b.without a)
def V4.less (a b:V4):V4×V4×Bool :=
 if eqb b.h zero||eqb a.l top then (V4.z,V4.z,false)
 else zgy true ⟨a.v,a.m,a.l,bmin a.h (bsub b.h one)⟩ ⟨b.v,b.m,bmax b.l (badd a.l one),b.h⟩
def V4.notLess (a b:V4):V4×V4×Bool:=zgy true ⟨a.v,a.m,bmax a.l b.l,a.h⟩ ⟨b.v,b.m,b.l,bmin b.h a.h⟩
def zm1 (n:Int):BitVec 64:=if n=8 then top else if n=4 then 4294967295#64 else if n=2 then 65535#64 else 255#64
def V4.bytes (n:Int):V4:=⟨zero,zm1 n,zero,zm1 n⟩
theorem zva (x:BitVec 64):bmax x x=x:=by unfold bmax;split <;> rfl
theorem ztu (x:BitVec 64):bmin x x=x:=by unfold bmin;split <;> rfl
structure St where
 live:Bool
 s:V6 Bool
 r:V6 V4
def St.cs (t:St):List AC:=[.b t.live,.b t.s.x0,.b t.s.x1,.b t.s.x2,.b t.s.x3,.b t.s.x4,.b t.s.x5,
 .u t.r.x0.v,.u t.r.x0.m,.u t.r.x0.l,.u t.r.x0.h,.u t.r.x1.v,.u t.r.x1.m,.u t.r.x1.l,.u t.r.x1.h,.u t.r.x2.v,.u t.r.x2.m,.u t.r.x2.l,.u t.r.x2.h,
 .u t.r.x3.v,.u t.r.x3.m,.u t.r.x3.l,.u t.r.x3.h,.u t.r.x4.v,.u t.r.x4.m,.u t.r.x4.l,.u t.r.x4.h,.u t.r.x5.v,.u t.r.x5.m,.u t.r.x5.l,.u t.r.x5.h]
def St.z:St:=⟨false,no6,V6.rep V4.z⟩
def St.e:St:=⟨true,no6,V6.rep V4.z⟩
def badR (t:St) (j:Nat):Bool:=bif t.s.get j then !(t.r.get j).ok else !eqCs (t.r.get j).cs V4.z.cs
def St.ok (t:St):Bool:=(t.live||eqCs t.cs St.z.cs)&&!zcv (badR t) 6
def St.wth (t:St) (d:Nat) (a:V4):St:=⟨t.live,t.s.set d true,t.r.set d a⟩
def beginS:St:=St.e.wth 1 V4.any
def yavm (t:St) (m:Mach) (j:Nat):Bool:=t.s.get j&&!(m.s.get j&&(t.r.get j).has (m.r.get j))
def St.has (t:St) (m:Mach):Bool:=t.ok&&(t.live&&(decide (yakv m=0)&&(decide (m.fin=0)&&!zcv (yavm t m) 6)))
def zhz (t u:St) (j:Nat) (b:St):St:=if t.s.get j&&u.s.get j then b.wth j ((t.r.get j).join (u.r.get j)) else b
def zc6 (t u:St):Nat→St→St
 | 0,b=>b
 | n+1,b=>zc6 t u n (zhz t u (5 - n) b)
def St.join (t u:St):St:=if t.live then (if u.live then zc6 t u 6 St.e else t) else u
def zhb:Ins:=⟨15,0,0,0#64,0⟩
def zft (i:Ins):Bool:=zcl i&&(inB i 65&&zbd i)
def srcV (i:Ins) (t:St):V4:=if i.s=-1 then V4.of i.im else t.r.get i.s.toNat
def farS (i:Ins) (a:V4):Bool:=decide (nv (bsub 64#64 i.im)<nv (V4.two 2 a (V4.of (BitVec.ofInt 64 i.of))).h)
def zek (i:Ins) (t:St):Int :=
 if lacks (zaw i) t.s then 1
 else if i.op=10 then (if farS i (t.r.get i.s.toNat) then 2 else 0)
 else if i.op=11 then (if farS i (t.r.get i.d.toNat) then 2 else 0)
 else 0
def zeo (i:Ins) (t:St) (x:V4×V4×Bool):St :=
 if x.2.2 then (if i.s=-1 then t.wth i.d.toNat x.1 else (t.wth i.d.toNat x.1).wth i.s.toNat x.2.1) else St.z
def goS (i:Ins) (t:St):St×St :=
 if i.op=10 then (t.wth i.d.toNat (V4.bytes (nv i.im)),St.z)
 else if i.op=11 then (t,St.z)
 else if i.op=12 then (St.z,t)
 else if i.op=13 then (zeo i t ((t.r.get i.d.toNat).other (srcV i t)),zeo i t ((t.r.get i.d.toNat).equal (srcV i t)))
 else if i.op=14 then (zeo i t ((t.r.get i.d.toNat).notLess (srcV i t)),zeo i t ((t.r.get i.d.toNat).less (srcV i t)))
 else if i.op=15 then (St.z,St.z)
 else if i.op=1 then (t.wth i.d.toNat (srcV i t),St.z)
 else (t.wth i.d.toNat (V4.two i.op (t.r.get i.d.toNat) (srcV i t)),St.z)
def zag (i:Ins) (t:St):St×St×Int :=
 if t.live then (if zek i t=0 then ((goS i t).1,(goS i t).2,0) else (St.z,St.z,zek i t)) else (St.z,St.z,0)
def yaex (i:Ins) (t:St):Int:=if zft i&&t.ok then 0 else 1
def zor (i:Ins) (t:St):St×St×Int:=if zft i&&t.ok then zag i t else (St.z,St.z,0)
theorem yaj4 (t:St):t.cs.length=31:=rfl
theorem yamd {t:St} {r:Int} (h:regB r=true):List.take 4 (List.drop (7+r.toNat*4) t.cs)=(t.r.get r.toNat).cs :=
 zb8 (P:=fun r=>List.take 4 (List.drop (7+r.toNat*4) t.cs)=(t.r.get r.toNat).cs) h rfl rfl rfl rfl rfl rfl
theorem zry {t:St} {r:Int} (h:regB r=true):t.cs.set (1+r.toNat*1) (.b true)=(St.mk t.live (t.s.set r.toNat true) t.r).cs :=
 zb8 (P:=fun r=>t.cs.set (1+r.toNat*1) (.b true)=(St.mk t.live (t.s.set r.toNat true) t.r).cs) h rfl rfl rfl rfl rfl rfl
theorem zss {t:St} {r:Int} (a:V4) (h:regB r=true):splice t.cs (7+r.toNat*4) a.cs=(St.mk t.live t.s (t.r.set r.toNat a)).cs :=
 zb8 (P:=fun r=>splice t.cs (7+r.toNat*4) a.cs=(St.mk t.live t.s (t.r.set r.toNat a)).cs) h rfl rfl rfl rfl rfl rfl
structure Rep where
 trap:Int
 pos:Int
 sts:List St
def scell (l:List St):List AC:=l.flatMap St.cs
def stAt (S:List St) (k:Nat):St:=S.getD k St.z
def addS (S:List St) (k:Nat) (t:St):List St:=if t.live then S.set k ((stAt S k).join t) else S
def verL (L:List Ins):Nat→Nat→List St→Rep
 | 0,_,S=>⟨0,0,S⟩
 | n+1,k,S=>if (zag (elt L k) (stAt S k)).2.2=0 then verL L n (k+1) (addS (addS S (k+1) (zag (elt L k) (stAt S k)).1) (k+1+(elt L k).of.toNat) (zag (elt L k) (stAt S k)).2.1)
  else ⟨(zag (elt L k) (stAt S k)).2.2,k,S.take (k+1)⟩
def zey (n:Nat):List St:=(List.replicate n St.z).set 0 beginS
def zar (L:List Ins):Rep:=verL L L.length 0 (zey L.length)
def onI:Ins:=⟨12,0,0,0#64,0⟩
def zak (i:Ins):Bool:=i.op==13||i.op==14
def zfi (i:Ins) (t:St):Ins :=
 if t.live then
  (if decide (i.op≤9)&&((zag i t).1.r.get i.d.toNat).alone then ⟨1,i.d,-1,((zag i t).1.r.get i.d.toNat).l,0⟩
  else if zak i&&!(zag i t).2.1.live then onI
  else if zak i&&!(zag i t).1.live then ⟨12,0,0,0#64,i.of⟩
  else i)
 else onI
def zch (S:List St):List Ins→Nat→List Ins
 | [],_=>[]
 | [i],_=>[i]
 | i::j::l,k=>zfi i (stAt S k)::zch S (j::l) (k+1)
def zei (L:List Ins):List Ins:=if (zar L).trap=0 then zch (zar L).sts L 0 else L
def orS (a b:V6 Bool):V6 Bool:=⟨a.x0||b.x0,a.x1||b.x1,a.x2||b.x2,a.x3||b.x3,a.x4||b.x4,a.x5||b.x5⟩
def lvAt (A:List (V6 Bool)) (k:Nat):V6 Bool:=A.getD k no6
def yady (i:Ins) (A:List (V6 Bool)):V6 Bool :=
 if i.op=15 then no6 else if i.op=12 then lvAt A i.of.toNat else if zak i then orS (lvAt A 0) (lvAt A i.of.toNat) else lvAt A 0
def zeb (i:Ins) (b:V6 Bool):Ins:=if decide (i.op≤10)&&!b.get i.d.toNat then onI else i
def zfg (i:Ins) (b:V6 Bool):V6 Bool:=orS (zaw i) (if i.op≤10 then b.set i.d.toNat false else b)
def ridR:List Ins→List Ins×List (V6 Bool)
 | []=>([],[])
 | i::l=>(zeb i (yady i (ridR l).2)::(ridR l).1,zfg (zeb i (yady i (ridR l).2)) (yady i (ridR l).2)::(ridR l).2)
def ze4 (L:List Ins):List Ins:=if (zar L).trap=0 then (ridR L).1 else L
def rcell (A:List (V6 Bool)):List AC:=A.flatMap bcs
def fL:List Ins:=[⟨1,2,-1,5#64,0⟩,⟨5,1,-1,3#64,0⟩,⟨14,1,2,0#64,1⟩,⟨1,1,-1,9#64,0⟩,⟨1,0,2,0#64,0⟩,⟨15,0,0,0#64,0⟩]
def fF:List Ins:=[⟨1,2,-1,5#64,0⟩,⟨5,1,-1,3#64,0⟩,⟨12,0,0,0#64,1⟩,onI,⟨1,0,-1,5#64,0⟩,⟨15,0,0,0#64,0⟩]
def fD:List Ins:=[onI,onI,⟨12,0,0,0#64,1⟩,onI,⟨1,0,-1,5#64,0⟩,⟨15,0,0,0#64,0⟩]
end Go.Proofs.YtkigmocchaikgabGreatDoor
namespace Go.Proofs.YtkigmocchaikgabGreatDoor
open Go.RowKit
section
variable {t u1 u2:ByteArray} {L L2 L3:List Ins} {p q c n:Nat} {tp pp e:Int} {S2:List St} {w:World} {β:Bs}
theorem yawx (c0:Ok 7 [.c (.s t)] (.tu [.c zco,.c (.i 1)])) :
  Ok 4 [.c (.s t)] (.tu [.c (.s (ByteArray.mk #[])),.c (.i 1)]) :=
 zaf [true] ([]) [] Tryz.func4 rfl rfl rfl rfl (by kernel_rfl) rfl (zab c0 zae)
theorem yaxf (h:(tp != 0&&(decide (5+ByteArray.size u1≤9223372036854775807)&&(decide (ByteArray.size (ByteArray.mk #[OfNat.ofNat 116,OfNat.ofNat 114,OfNat.ofNat 97,OfNat.ofNat 112,OfNat.ofNat 32]++u1)+1≤9223372036854775807)&&(decide (ByteArray.size (ByteArray.mk #[OfNat.ofNat 116,OfNat.ofNat 114,OfNat.ofNat 97,OfNat.ofNat 112,OfNat.ofNat 32]++u1++ByteArray.mk #[OfNat.ofNat 32])+ByteArray.size u2≤9223372036854775807)&&(decide (ByteArray.size (ByteArray.mk #[OfNat.ofNat 116,OfNat.ofNat 114,OfNat.ofNat 97,OfNat.ofNat 112,OfNat.ofNat 32]++u1++ByteArray.mk #[OfNat.ofNat 32]++u2)+1≤9223372036854775807)&&true)))))=true) (c0:CO 7 [.c (.s t)] [] (Eff.mk (.tu [.c (.sx 3 p),.c (.i 0)]) [] (some (3,Ent.mk false (pcell L) 0)))) (c1:CO 8 [.c (.sx 3 p)] [(3,Ent.mk false (pcell L) 0)] (Eff.mk (.tu [.ag [.i tp,.i pp,.sx 12 q],.c (.i 0)]) [] (some (12,Ent.mk true (scell S2) 31)))) (c2:Ok 9 [.c (.i tp)] (.c (.s u1))) (c3:Ok 9 [.c (.i pp)] (.c (.s u2))) :
  Ok 4 [.c (.s t)] (.tu [.c (.s (ByteArray.mk #[OfNat.ofNat 116,OfNat.ofNat 114,OfNat.ofNat 97,OfNat.ofNat 112,OfNat.ofNat 32]++u1++ByteArray.mk #[OfNat.ofNat 32]++u2++ByteArray.mk #[OfNat.ofNat 10])),.c (.i 0)]) :=
 zaf [false,false,true] ([]) [] Tryz.func4 rfl rfl rfl rfl (by kernel_rfl) h (zab c0 (zab c1 (zab c2 (zab c3 zae))))
theorem yawl (h:(decide (5+ByteArray.size u1≤9223372036854775807)&&true)=true) (c0:CO 7 [.c (.s t)] [] (Eff.mk (.tu [.c (.sx 3 p),.c (.i 0)]) [] (some (3,Ent.mk false (pcell L) 0)))) (c1:CO 8 [.c (.sx 3 p)] [(3,Ent.mk false (pcell L) 0)] (Eff.mk (.tu [.ag [.i 0,.i 0,.sl 12 0 p p],.c (.i 0)]) [] (some (12,Ent.mk true (scell S2) 0)))) (c2:CO 10 [.c (.sx 3 p)] [(3,Ent.mk false (pcell L) 0)] (pe (.tu [.c (.s u1),.c (.i 0)]))) :
  Ok 4 [.c (.s t)] (.tu [.c (.s (ByteArray.mk #[OfNat.ofNat 115,OfNat.ofNat 97,OfNat.ofNat 102,OfNat.ofNat 101,OfNat.ofNat 10]++u1)),.c (.i 0)]) :=
 zaf [false,false,false,false] ([]) [] Tryz.func4 rfl rfl rfl rfl (by kernel_rfl) h (zab c0 (zab c1 (zab c2 zae)))
theorem yazz (c0:CO 25 [.c (.sl 0 0 p c)] [(0,Ent.mk false (pcell L) 0)] (Eff.mk (.tu [.c (.sx 4 p),.c (.i 0)]) [] (some (4,Ent.mk true (pcell L2) 0)))) (c1:CO 26 [.c (.sx 4 p)] [(4,Ent.mk true (pcell L2) 0)] (Eff.mk (.tu [.c (.sx 13 p),.c (.i 0)]) [] (some (13,Ent.mk true (pcell L3) 0)))) (c2:CO 18 [.c (.sx 13 p)] [(13,Ent.mk true (pcell L3) 0)] (pe (.tu [.c (.s u1),.c (.i 0)]))) :
  BO 10 Tryz.f10 (cx w β n []) [.c (.sl 0 0 p c)] [(0,Ent.mk false (pcell L) 0)] 1 (REff w β ⟨.tu [.c (.s u1),.c (.i 0)],[],none⟩) :=
 zah [] none [false,false] ([]) [] Tryz.func10 (zat rfl n) (by kernel_rfl) rfl (zab c0 (zab c1 (zab c2 zae)))
theorem yazk (c0:Ok 11 [.c (.s t)] (.tu [.c zco,.c (.b false)])) :
  Ok 5 [.c (.s t)] (.tu [.c (.s (ByteArray.mk #[])),.c (.i 1)]) :=
 zaf [true] ([]) [] Tryz.func5 rfl rfl rfl rfl (by kernel_rfl) rfl (zab c0 zae)
theorem yaw6 (h:(tp != 0&&(decide (5+ByteArray.size u1≤9223372036854775807)&&(decide (ByteArray.size (ByteArray.mk #[OfNat.ofNat 116,OfNat.ofNat 114,OfNat.ofNat 97,OfNat.ofNat 112,OfNat.ofNat 32]++u1)+1≤9223372036854775807)&&(decide (ByteArray.size (ByteArray.mk #[OfNat.ofNat 116,OfNat.ofNat 114,OfNat.ofNat 97,OfNat.ofNat 112,OfNat.ofNat 32]++u1++ByteArray.mk #[OfNat.ofNat 32])+ByteArray.size u2≤9223372036854775807)&&(decide (ByteArray.size (ByteArray.mk #[OfNat.ofNat 116,OfNat.ofNat 114,OfNat.ofNat 97,OfNat.ofNat 112,OfNat.ofNat 32]++u1++ByteArray.mk #[OfNat.ofNat 32]++u2)+1≤9223372036854775807)&&true)))))=true) (c0:CO 11 [.c (.s t)] [] (Eff.mk (.tu [.c (.sx 3 p),.c (.b true)]) [] (some (3,Ent.mk true (pcell L) 5)))) (c1:CO 12 [.c (.sx 3 p)] [(3,Ent.mk true (pcell L) 5)] (Eff.mk (.ag [.i tp,.i pp,.sl 12 0 q p]) [] (some (12,Ent.mk true (scell S2) 0)))) (c2:Ok 13 [.c (.u (BitVec.ofInt 64 tp))] (.c (.s u1))) (c3:Ok 13 [.c (.u (BitVec.ofInt 64 pp))] (.c (.s u2))) :
  Ok 5 [.c (.s t)] (.tu [.c (.s (ByteArray.mk #[OfNat.ofNat 116,OfNat.ofNat 114,OfNat.ofNat 97,OfNat.ofNat 112,OfNat.ofNat 32]++u1++ByteArray.mk #[OfNat.ofNat 32]++u2++ByteArray.mk #[OfNat.ofNat 10])),.c (.i 0)]) :=
 zaf [false,true] ([]) [] Tryz.func5 rfl rfl rfl rfl (by kernel_rfl) h (zab c0 (zab c1 (zab c2 (zab c3 zae))))
theorem yawg (h:(decide (5+ByteArray.size u1≤9223372036854775807)&&true)=true) (c0:CO 11 [.c (.s t)] [] (Eff.mk (.tu [.c (.sx 3 p),.c (.b true)]) [] (some (3,Ent.mk true (pcell L) 5)))) (c1:CO 12 [.c (.sx 3 p)] [(3,Ent.mk true (pcell L) 5)] (Eff.mk (.ag [.i 0,.i 0,.sl 12 0 p p]) [] (some (12,Ent.mk true (scell S2) 0)))) (c2:CO 16 [.c (.sx 3 p)] [(3,Ent.mk true (pcell L) 5)] (Eff.mk (.c (.sx 19 p)) [] (some (19,Ent.mk true (pcell L2) 0)))) (c3:CO 15 [.c (.sx 19 p)] [(19,Ent.mk true (pcell L2) 0)] (Eff.mk (.c (.sx 20 p)) [] (some (20,Ent.mk true (pcell L3) 0)))) (c4:CO 14 [.c (.sx 20 p)] [(20,Ent.mk true (pcell L3) 0)] (pe (.c (.s u1)))) :
  Ok 5 [.c (.s t)] (.tu [.c (.s (ByteArray.mk #[OfNat.ofNat 115,OfNat.ofNat 97,OfNat.ofNat 102,OfNat.ofNat 101,OfNat.ofNat 10]++u1)),.c (.i 0)]) :=
 zaf [false,false] ([]) [] Tryz.func5 rfl rfl rfl rfl (by kernel_rfl) h (zab c0 (zab c1 (zab c2 (zab c3 (zab c4 zae)))))
theorem yaz6 (h:(ByteArray.toList u1==ByteArray.toList (ByteArray.mk #[OfNat.ofNat 115,OfNat.ofNat 97,OfNat.ofNat 102,OfNat.ofNat 101,OfNat.ofNat 10,OfNat.ofNat 106,OfNat.ofNat 117,OfNat.ofNat 109,OfNat.ofNat 112,OfNat.ofNat 32,OfNat.ofNat 48,OfNat.ofNat 10,OfNat.ofNat 106,OfNat.ofNat 117,OfNat.ofNat 109,OfNat.ofNat 112,OfNat.ofNat 32,OfNat.ofNat 48,OfNat.ofNat 10,OfNat.ofNat 106,OfNat.ofNat 117,OfNat.ofNat 109,OfNat.ofNat 112,OfNat.ofNat 32,OfNat.ofNat 49,OfNat.ofNat 10,OfNat.ofNat 106,OfNat.ofNat 117,OfNat.ofNat 109,OfNat.ofNat 112,OfNat.ofNat 32,OfNat.ofNat 48,OfNat.ofNat 10,OfNat.ofNat 109,OfNat.ofNat 111,OfNat.ofNat 118,OfNat.ofNat 32,OfNat.ofNat 114,OfNat.ofNat 48,OfNat.ofNat 32,OfNat.ofNat 53,OfNat.ofNat 10,OfNat.ofNat 101,OfNat.ofNat 120,OfNat.ofNat 105,OfNat.ofNat 116,OfNat.ofNat 10])&&true)=true) (c0:Ok 4 [.c (.s (ByteArray.mk #[OfNat.ofNat 109,OfNat.ofNat 111,OfNat.ofNat 118,OfNat.ofNat 32,OfNat.ofNat 114,OfNat.ofNat 50,OfNat.ofNat 32,OfNat.ofNat 53,OfNat.ofNat 10,OfNat.ofNat 97,OfNat.ofNat 110,OfNat.ofNat 100,OfNat.ofNat 32,OfNat.ofNat 114,OfNat.ofNat 49,OfNat.ofNat 32,OfNat.ofNat 51,OfNat.ofNat 10,OfNat.ofNat 105,OfNat.ofNat 102,OfNat.ofNat 108,OfNat.ofNat 116,OfNat.ofNat 32,OfNat.ofNat 114,OfNat.ofNat 49,OfNat.ofNat 32,OfNat.ofNat 114,OfNat.ofNat 50,OfNat.ofNat 32,OfNat.ofNat 49,OfNat.ofNat 10,OfNat.ofNat 109,OfNat.ofNat 111,OfNat.ofNat 118,OfNat.ofNat 32,OfNat.ofNat 114,OfNat.ofNat 49,OfNat.ofNat 32,OfNat.ofNat 57,OfNat.ofNat 10,OfNat.ofNat 109,OfNat.ofNat 111,OfNat.ofNat 118,OfNat.ofNat 32,OfNat.ofNat 114,OfNat.ofNat 48,OfNat.ofNat 32,OfNat.ofNat 114,OfNat.ofNat 50,OfNat.ofNat 10,OfNat.ofNat 101,OfNat.ofNat 120,OfNat.ofNat 105,OfNat.ofNat 116,OfNat.ofNat 10]))] (.tu [.c (.s u1),.c (.i 0)])) (c1:Ok 4 [.c (.s (ByteArray.mk #[OfNat.ofNat 108,OfNat.ofNat 111,OfNat.ofNat 97,OfNat.ofNat 100,OfNat.ofNat 32,OfNat.ofNat 49,OfNat.ofNat 32,OfNat.ofNat 114,OfNat.ofNat 48,OfNat.ofNat 32,OfNat.ofNat 114,OfNat.ofNat 49,OfNat.ofNat 32,OfNat.ofNat 48,OfNat.ofNat 10,OfNat.ofNat 101,OfNat.ofNat 120,OfNat.ofNat 105,OfNat.ofNat 116,OfNat.ofNat 10]))] (.tu [.c (.s u2),.c (.i 0)])) :
  Ok 6 [] (.c (.b (ByteArray.toList u2==ByteArray.toList (ByteArray.mk #[OfNat.ofNat 116,OfNat.ofNat 114,OfNat.ofNat 97,OfNat.ofNat 112,OfNat.ofNat 32,OfNat.ofNat 50,OfNat.ofNat 32,OfNat.ofNat 48,OfNat.ofNat 10])))) :=
 zaf [true,true,true] ([]) [] Tryz.func6 rfl rfl rfl rfl (by kernel_rfl) h (zab c0 (zab c1 zae))
theorem yavq (h:(ByteArray.toList u1==ByteArray.toList u1&&true)=true) (c0:Ok 4 [.c (.s t)] (.tu [.c (.s u1),.c (.i e)])) (c1:Ok 5 [.c (.s t)] (.tu [.c (.s u1),.c (.i e)])) (c2:Ok 6 [] (.c (.b true))) :
  Ok 3 [.c (.s t)] (.c (.b (e==e))) :=
 zaf [true,true] ([]) [] Tryz.func3 rfl rfl rfl rfl (by kernel_rfl) h (zab c0 (zab c1 (zab c2 zae)))
end
section
abbrev vaRK (t:ByteArray) (x:BitVec 64) (j:Nat):Kn:=⟨[(0,.c (.s t)),(3,.c (.u x)),(4,.c (.i (j:Int)))],[],0⟩
variable {x:BitVec 64} {u t:ByteArray} {V:AV} {C:Cx} {R:Ending→World→Prop} {j n:Nat} {w:World} {β:Bs} {n1:Int} {i:Ins}
theorem ybad (h:(decide (nv x<10)&&true)=true) :
  Ok 13 [.c (.u x)] (.c (.s (zl6 (((splice (rows 1 [.y 0#8]) 0 [.y (BitVec.setWidth 8 (badd (48#64) (x % 10#64)))]).drop 0).take 1)))) :=
 zaf [true] ([]) [] Tryz.func13 rfl rfl rfl rfl (by kernel_rfl) h zae
theorem ybae (h:(!decide (nv x<10)&&(decide (ByteArray.size u+ByteArray.size (zl6 (((splice (rows 1 [.y 0#8]) 0 [.y (BitVec.setWidth 8 (badd (48#64) (x % 10#64)))]).drop 0).take 1))≤9223372036854775807)&&true))=true) (c0:Ok 13 [.c (.u (x / 10#64))] (.c (.s u))) :
  Ok 13 [.c (.u x)] (.c (.s (u++zl6 (((splice (rows 1 [.y 0#8]) 0 [.y (BitVec.setWidth 8 (badd (48#64) (x % 10#64)))]).drop 0).take 1)))) :=
 zaf [false] ([]) [] Tryz.func13 rfl rfl rfl rfl (by kernel_rfl) h (zab c0 zae)
theorem yaxs
  (l0:(decide (nv x<10))=true→(AV.c (.s (zl6 (((splice (rows 1 [.y 0#8]) 0 [.y (BitVec.setWidth 8 (badd (48#64) (x % 10#64)))]).drop 0).take 1)))=V))
  (l1:(decide (nv x<10))=false→(decide (ByteArray.size u+ByteArray.size (zl6 (((splice (rows 1 [.y 0#8]) 0 [.y (BitVec.setWidth 8 (badd (48#64) (x % 10#64)))]).drop 0).take 1))≤9223372036854775807))=true∧(Ok 13 [.c (.u (x / 10#64))] (.c (.s u)))∧(AV.c (.s (u++zl6 (((splice (rows 1 [.y 0#8]) 0 [.y (BitVec.setWidth 8 (badd (48#64) (x % 10#64)))]).drop 0).take 1)))=V)) :
  Ok 13 [.c (.u x)] V :=
 (tf (decide (nv x<10))).elim (fun h0=>(match l0 h0 with | e=>zam (ybad (zaa h0 rfl)) e)) (fun h0=>(match l1 h0 with | ⟨o0,c0,e⟩=>zam (ybae (zaa (zad h0) (zaa o0 rfl)) c0) e))
theorem yapz (hF:∀ k,C.F k→k<0) (z:AR 69 Tryz.f69 C 0 ⟨[(0,.c (.s t)),(3,.c (.u 0#64)),(4,.c (.i 0))],[],0⟩ R) :
  BO 69 Tryz.f69 C [.c (.s t)] [] 0 R :=
 zai [] ([true]) [] Tryz.func69 (by kernel_rfl) rfl zae (zc8 rfl) hF z
theorem yayj (h:(decide ((j:Int)<(↑(ByteArray.size t):Int))&&(decide ((j:Int)<20)&&(decide ((j:Int).toNat<ByteArray.size t)&&true)))=true) (c0:pe (.c (.i (IntKind.i64.wrap ((j:Int)+1))))=pe (.c (.i (↑(j+1):Int)))) (hF:∀ k,C.F k→k<0) (z:AR 69 Tryz.f69 C 0 (vaRK t (badd (bmul (10#64) x) (BitVec.setWidth 64 (zee t (j:Int).toNat - 48#8))) (j+1)) R) :
  AR 69 Tryz.f69 C 0 (vaRK t x j) R :=
 zai [true,true] ([true]) [(4,1)] Tryz.func69 (by kernel_rfl) h (zac c0 zae) (zc8 rfl) hF z
theorem yawj (h:(!decide ((j:Int)<(↑(ByteArray.size t):Int))&&true)=true) :
  AR 69 Tryz.f69 (cx w β n []) 0 (vaRK t x j) (REff w β ⟨.c (.u x),[],none⟩) :=
 zah [] none [false,false] ([true]) [] Tryz.func69 (zat rfl n) (by kernel_rfl) h zae
theorem yaym (h:(decide ((j:Int)<(↑(ByteArray.size t):Int))&&(!decide ((j:Int)<20)&&true))=true) :
  AR 69 Tryz.f69 (cx w β n []) 0 (vaRK t x j) (REff w β ⟨.c (.u x),[],none⟩) :=
 zah [] none [true,false] ([true]) [] Tryz.func69 (zat rfl n) (by kernel_rfl) h zae
theorem ybal (h:(decide (4<(↑(ByteArray.size t):Int))&&true)=true) :
  Ok 70 [.c (.s t)] (.c (.i 0)) :=
 zaf [true] ([]) [] Tryz.func70 rfl rfl rfl rfl (by kernel_rfl) h zae
theorem ybah (h:(!decide (4<(↑(ByteArray.size t):Int))&&(decide (0<(↑(ByteArray.size t):Int))&&(decide (0<ByteArray.size t)&&(zee t 0==45#8&&(decide (1≤(↑(ByteArray.size t):Int))&&decide ((↑(ByteArray.size t):Int)≤(↑(ByteArray.size t):Int))&&true)))))=true) (c0:Ok 69 [.c (.s (ByteArray.extract t 1 ((↑(ByteArray.size t):Int)).toNat))] (.c (.u x))) :
  Ok 70 [.c (.s t)] (.c (.i (IntKind.i64.wrap (0 - IntKind.i64.wrap (nv x))))) :=
 zaf [false,true,true] ([]) [] Tryz.func70 rfl rfl rfl rfl (by kernel_rfl) h (zab c0 zae)
theorem yba2 (h:(!decide (4<(↑(ByteArray.size t):Int))&&(decide (0<(↑(ByteArray.size t):Int))&&(decide (0<ByteArray.size t)&&(!zee t 0==45#8&&true))))=true) (c0:Ok 69 [.c (.s t)] (.c (.u x))) :
  Ok 70 [.c (.s t)] (.c (.i (IntKind.i64.wrap (nv x)))) :=
 zaf [false,true,false] ([]) [] Tryz.func70 rfl rfl rfl rfl (by kernel_rfl) h (zab c0 zae)
theorem ybaz (h:(!decide (4<(↑(ByteArray.size t):Int))&&(!decide (0<(↑(ByteArray.size t):Int))&&true))=true) (c0:Ok 69 [.c (.s t)] (.c (.u x))) :
  Ok 70 [.c (.s t)] (.c (.i (IntKind.i64.wrap (nv x)))) :=
 zaf [false,false,false] ([]) [] Tryz.func70 rfl rfl rfl rfl (by kernel_rfl) h (zab c0 zae)
theorem yba6 (h:(decide ((↑(ByteArray.size t):Int)<2)&&true)=true) :
  Ok 68 [.c (.s t)] (.c (.i 0)) :=
 zaf [true] ([]) [] Tryz.func68 rfl rfl rfl rfl (by kernel_rfl) h zae
theorem ybaw (h:(!decide ((↑(ByteArray.size t):Int)<2)&&(decide (1≤(↑(ByteArray.size t):Int))&&decide ((↑(ByteArray.size t):Int)≤(↑(ByteArray.size t):Int))&&true))=true) (c0:Ok 70 [.c (.s (ByteArray.extract t 1 ((↑(ByteArray.size t):Int)).toNat))] (.c (.i n1))) :
  Ok 68 [.c (.s t)] (.c (.i n1)) :=
 zaf [false] ([]) [] Tryz.func68 rfl rfl rfl rfl (by kernel_rfl) h (zab c0 zae)
theorem ybaf (h:(decide (n1<0)&&(decide (1+ByteArray.size u≤9223372036854775807)&&true))=true) (c0:Ok 13 [.c (.u (BitVec.ofInt 64 (IntKind.i64.wrap (0 - n1))))] (.c (.s u))) :
  Ok 87 [.c (.i n1)] (.c (.s (ByteArray.mk #[OfNat.ofNat 45]++u))) :=
 zaf [true] ([]) [] Tryz.func87 rfl rfl rfl rfl (by kernel_rfl) h (zab c0 zae)
theorem ybak (h:(!decide (n1<0)&&true)=true) (c0:Ok 13 [.c (.u (BitVec.ofInt 64 n1))] (.c (.s u))) :
  Ok 87 [.c (.i n1)] (.c (.s u)) :=
 zaf [false] ([]) [] Tryz.func87 rfl rfl rfl rfl (by kernel_rfl) h (zab c0 zae)
theorem yawb
  (l0:(decide (n1<0))=true→(decide (1+ByteArray.size u≤9223372036854775807))=true∧(Ok 13 [.c (.u (BitVec.ofInt 64 (IntKind.i64.wrap (0 - n1))))] (.c (.s u)))∧(AV.c (.s (ByteArray.mk #[OfNat.ofNat 45]++u))=V))
  (l1:(decide (n1<0))=false→(Ok 13 [.c (.u (BitVec.ofInt 64 n1))] (.c (.s u)))∧(AV.c (.s u)=V)) :
  Ok 87 [.c (.i n1)] V :=
 (tf (decide (n1<0))).elim (fun h0=>(match l0 h0 with | ⟨o0,c0,e⟩=>zam (ybaf (zaa h0 (zaa o0 rfl)) c0) e)) (fun h0=>(match l1 h0 with | ⟨c0,e⟩=>zam (ybak (zaa (zad h0) rfl) c0) e))
theorem ybay (h:(decide (1+ByteArray.size u≤9223372036854775807)&&true)=true) (c0:Ok 13 [.c (.u (BitVec.ofInt 64 n1))] (.c (.s u))) :
  Ok 85 [.c (.i n1)] (.c (.s (ByteArray.mk #[OfNat.ofNat 114]++u))) :=
 zaf [] ([]) [] Tryz.func85 rfl rfl rfl rfl (by kernel_rfl) h (zab c0 zae)
theorem ybam (h:(i.s==-1&&true)=true) (c0:Ok 13 [.c (.u i.im)] (.c (.s u))) :
  Ok 86 [.ag i.cs] (.c (.s u)) :=
 zaf [true] ([]) [] Tryz.func86 rfl rfl rfl rfl (by kernel_rfl) h (zab c0 zae)
theorem ybar (h:(!i.s==-1&&true)=true) (c0:Ok 85 [.c (.i i.s)] (.c (.s u))) :
  Ok 86 [.ag i.cs] (.c (.s u)) :=
 zaf [false] ([]) [] Tryz.func86 rfl rfl rfl rfl (by kernel_rfl) h (zab c0 zae)
end
section
abbrev yahy (t:ByteArray) (c:BitVec 8) (q p j:Nat):Kn:=⟨[(0,.c (.s t)),(1,.c (.y c)),(2,.c (.i (q:Int))),(7,.c zco),(8,.c (.i (p:Int))),(9,.c (.i (j:Int)))],[],51⟩
abbrev zoz (t:ByteArray) (c:BitVec 8) (q p j r:Nat) (A:List AC):Kn:=⟨[(0,.c (.s t)),(1,.c (.y c)),(2,.c (.i (q:Int))),(7,.c (.sx 50 r)),(8,.c (.i (p:Int))),(9,.c (.i (j:Int)))],[(50,Ent.mk true A 1)],51⟩
variable {t:ByteArray} {c:BitVec 8} {q p j r n:Nat} {C:Cx} {R:Ending→World→Prop} {A:List AC} {w:World} {β:Bs}
theorem yapi (hF:∀ k,C.F k→k<51) (z:AR 27 Tryz.f27 C 0 ⟨[(0,.c (.s t)),(1,.c (.y c)),(2,.c (.i (q:Int))),(7,.c zco),(8,.c (.i 0)),(9,.c (.i 0))],[],51⟩ R) :
  BO 27 Tryz.f27 C [.c (.s t),.c (.y c),.c (.i (q:Int))] [] 0 R :=
 zai [] ([true]) [] Tryz.func27 (by kernel_rfl) rfl zae (zc8 rfl) hF z
theorem yavf (h:(decide ((j:Int)≤(↑(ByteArray.size t):Int))&&(decide (0<(q:Int))&&(!(j:Int)==(↑(ByteArray.size t):Int)&&(decide ((j:Int).toNat<ByteArray.size t)&&(!zee t (j:Int).toNat==c&&true)))))=true) (c0:pe (.c (.i (IntKind.i64.wrap ((j:Int)+1))))=pe (.c (.i (↑(j+1):Int)))) (hF:∀ k,C.F k→k<51) (z:AR 27 Tryz.f27 C 0 (yahy t c q p (j+1)) R) :
  AR 27 Tryz.f27 C 0 (yahy t c q p j) R :=
 zai [true,true,false,false] ([true]) [(5,1)] Tryz.func27 (by kernel_rfl) h (zac c0 zae) (zc8 rfl) hF z
theorem yar0 (h:(decide ((j:Int)≤(↑(ByteArray.size t):Int))&&(decide (0<(q:Int))&&((j:Int)==(↑(ByteArray.size t):Int)&&(decide ((p:Int)≤(j:Int))&&decide ((j:Int)≤(↑(ByteArray.size t):Int))&&true))))=true) (c0:Eff.mk (.c (.sx 78 1)) [] (some (51+10+11+6,Ent.mk true [.s (ByteArray.extract t ((p:Int)).toNat ((j:Int)).toNat)] 1))=Eff.mk (.c (.sx 78 1)) [] (some (78,Ent.mk true [.s (ByteArray.extract t p j)] 1))) (c1:pe (.c (.i (IntKind.i64.wrap ((j:Int)+1))))=pe (.c (.i (↑(j+1):Int)))) (c2:pe (.c (.i (IntKind.i64.wrap ((j:Int)+1))))=pe (.c (.i (↑(j+1):Int)))) (lo:Kn.Low ⟨[(0,.c (.s t)),(1,.c (.y c)),(2,.c (.i (q:Int))),(7,.c (.sx 78 1)),(8,.c (.i (↑(j+1):Int))),(9,.c (.i (↑(j+1):Int)))],[(78,Ent.mk true [.s (ByteArray.extract t p j)] 1)],79⟩) (hF:∀ k,C.F k→k<79) (z:AR 27 Tryz.f27 C 0 ⟨[(0,.c (.s t)),(1,.c (.y c)),(2,.c (.i (q:Int))),(7,.c (.sx 78 1)),(8,.c (.i (↑(j+1):Int))),(9,.c (.i (↑(j+1):Int)))],[(78,Ent.mk true [.s (ByteArray.extract t p j)] 1)],79⟩ R) :
  AR 27 Tryz.f27 C 0 (yahy t c q p j) R :=
 zai [true,true,true,true] ([true]) [(7,6),(8,1),(5,1)] Tryz.func27 (by kernel_rfl) h (zac c0 (zac c1 (zac c2 zae))) lo hF z
theorem yasv (h:(decide ((j:Int)≤(↑(ByteArray.size t):Int))&&(decide (0<(q:Int))&&(!(j:Int)==(↑(ByteArray.size t):Int)&&(decide ((j:Int).toNat<ByteArray.size t)&&(zee t (j:Int).toNat==c&&(decide ((p:Int)≤(j:Int))&&decide ((j:Int)≤(↑(ByteArray.size t):Int))&&true))))))=true) (c0:Eff.mk (.c (.sx 78 1)) [] (some (51+10+11+6,Ent.mk true [.s (ByteArray.extract t ((p:Int)).toNat ((j:Int)).toNat)] 1))=Eff.mk (.c (.sx 78 1)) [] (some (78,Ent.mk true [.s (ByteArray.extract t p j)] 1))) (c1:pe (.c (.i (IntKind.i64.wrap ((j:Int)+1))))=pe (.c (.i (↑(j+1):Int)))) (c2:pe (.c (.i (IntKind.i64.wrap ((j:Int)+1))))=pe (.c (.i (↑(j+1):Int)))) (lo:Kn.Low ⟨[(0,.c (.s t)),(1,.c (.y c)),(2,.c (.i (q:Int))),(7,.c (.sx 78 1)),(8,.c (.i (↑(j+1):Int))),(9,.c (.i (↑(j+1):Int)))],[(78,Ent.mk true [.s (ByteArray.extract t p j)] 1)],79⟩) (hF:∀ k,C.F k→k<79) (z:AR 27 Tryz.f27 C 0 ⟨[(0,.c (.s t)),(1,.c (.y c)),(2,.c (.i (q:Int))),(7,.c (.sx 78 1)),(8,.c (.i (↑(j+1):Int))),(9,.c (.i (↑(j+1):Int)))],[(78,Ent.mk true [.s (ByteArray.extract t p j)] 1)],79⟩ R) :
  AR 27 Tryz.f27 C 0 (yahy t c q p j) R :=
 zai [true,true,false,true] ([true]) [(7,6),(8,1),(5,1)] Tryz.func27 (by kernel_rfl) h (zac c0 (zac c1 (zac c2 zae))) lo hF z
theorem yaru (h:(decide ((j:Int)≤(↑(ByteArray.size t):Int))&&(decide ((r:Int)<(q:Int))&&(!(j:Int)==(↑(ByteArray.size t):Int)&&(decide ((j:Int).toNat<ByteArray.size t)&&(!zee t (j:Int).toNat==c&&true)))))=true) (c0:pe (.c (.i (IntKind.i64.wrap ((j:Int)+1))))=pe (.c (.i (↑(j+1):Int)))) (lo:Kn.Low (zoz t c q p (j+1) r A)) (hF:∀ k,C.F k→k<51) (z:AR 27 Tryz.f27 C 0 (zoz t c q p (j+1) r A) R) :
  AR 27 Tryz.f27 C 0 (zoz t c q p j r A) R :=
 zai [true,true,false,false] ([true]) [(5,1)] Tryz.func27 (by kernel_rfl) h (zac c0 zae) lo hF z
theorem yau5 (h:(decide ((j:Int)≤(↑(ByteArray.size t):Int))&&(decide ((r:Int)<(q:Int))&&((j:Int)==(↑(ByteArray.size t):Int)&&(decide ((p:Int)≤(j:Int))&&decide ((j:Int)≤(↑(ByteArray.size t):Int))&&(Nat.beq (r*1) A.length&&decide (r+1≤137438953472)&&Nat.blt 0 r&&true)))))=true) (c0:Eff.mk (.c (.sx 78 (r+1))) [(50,[])] (some (51+10+11+6,Ent.mk true (A++((splice (rows 1 [.s (ByteArray.mk #[])]) 0 [.s (ByteArray.extract t ((p:Int)).toNat ((j:Int)).toNat)]).drop 0).take 1) 1))=Eff.mk (.c (.sx 78 (r+1))) [(50,[])] (some (78,Ent.mk true (A++[.s (ByteArray.extract t p j)]) 1))) (c1:pe (.c (.i (IntKind.i64.wrap ((j:Int)+1))))=pe (.c (.i (↑(j+1):Int)))) (c2:pe (.c (.i (IntKind.i64.wrap ((j:Int)+1))))=pe (.c (.i (↑(j+1):Int)))) (lo:Kn.Low ⟨[(0,.c (.s t)),(1,.c (.y c)),(2,.c (.i (q:Int))),(7,.c (.sx 78 (r+1))),(8,.c (.i (↑(j+1):Int))),(9,.c (.i (↑(j+1):Int)))],[(78,Ent.mk true (A++[.s (ByteArray.extract t p j)]) 1)],79⟩) (hF:∀ k,C.F k→k<79) (z:AR 27 Tryz.f27 C 0 ⟨[(0,.c (.s t)),(1,.c (.y c)),(2,.c (.i (q:Int))),(7,.c (.sx 78 (r+1))),(8,.c (.i (↑(j+1):Int))),(9,.c (.i (↑(j+1):Int)))],[(78,Ent.mk true (A++[.s (ByteArray.extract t p j)]) 1)],79⟩ R) :
  AR 27 Tryz.f27 C 0 (zoz t c q p j r A) R :=
 zai [true,true,true,true] ([true]) [(7,6),(8,1),(5,1)] Tryz.func27 (by kernel_rfl) h (zac c0 (zac c1 (zac c2 zae))) lo hF z
theorem yarb (h:(decide ((j:Int)≤(↑(ByteArray.size t):Int))&&(decide ((r:Int)<(q:Int))&&(!(j:Int)==(↑(ByteArray.size t):Int)&&(decide ((j:Int).toNat<ByteArray.size t)&&(zee t (j:Int).toNat==c&&(decide ((p:Int)≤(j:Int))&&decide ((j:Int)≤(↑(ByteArray.size t):Int))&&(Nat.beq (r*1) A.length&&decide (r+1≤137438953472)&&Nat.blt 0 r&&true)))))))=true) (c0:Eff.mk (.c (.sx 78 (r+1))) [(50,[])] (some (51+10+11+6,Ent.mk true (A++((splice (rows 1 [.s (ByteArray.mk #[])]) 0 [.s (ByteArray.extract t ((p:Int)).toNat ((j:Int)).toNat)]).drop 0).take 1) 1))=Eff.mk (.c (.sx 78 (r+1))) [(50,[])] (some (78,Ent.mk true (A++[.s (ByteArray.extract t p j)]) 1))) (c1:pe (.c (.i (IntKind.i64.wrap ((j:Int)+1))))=pe (.c (.i (↑(j+1):Int)))) (c2:pe (.c (.i (IntKind.i64.wrap ((j:Int)+1))))=pe (.c (.i (↑(j+1):Int)))) (lo:Kn.Low ⟨[(0,.c (.s t)),(1,.c (.y c)),(2,.c (.i (q:Int))),(7,.c (.sx 78 (r+1))),(8,.c (.i (↑(j+1):Int))),(9,.c (.i (↑(j+1):Int)))],[(78,Ent.mk true (A++[.s (ByteArray.extract t p j)]) 1)],79⟩) (hF:∀ k,C.F k→k<79) (z:AR 27 Tryz.f27 C 0 ⟨[(0,.c (.s t)),(1,.c (.y c)),(2,.c (.i (q:Int))),(7,.c (.sx 78 (r+1))),(8,.c (.i (↑(j+1):Int))),(9,.c (.i (↑(j+1):Int)))],[(78,Ent.mk true (A++[.s (ByteArray.extract t p j)]) 1)],79⟩ R) :
  AR 27 Tryz.f27 C 0 (zoz t c q p j r A) R :=
 zai [true,true,false,true] ([true]) [(7,6),(8,1),(5,1)] Tryz.func27 (by kernel_rfl) h (zac c0 (zac c1 (zac c2 zae))) lo hF z
theorem yaul (h:(!decide ((j:Int)≤(↑(ByteArray.size t):Int))&&true)=true) (hk:EKeys n [] (some 50) ⟨.c (.sx 50 r),[],some (50,Ent.mk true A 1)⟩) :
  AR 27 Tryz.f27 (cx w β n []) 0 (zoz t c q p j r A) (REff w β ⟨.c (.sx 50 r),[],some (50,Ent.mk true A 1)⟩) :=
 zah [] (some 50) [false,false] ([true]) [] Tryz.func27 hk (by kernel_rfl) h zae
theorem yatt (h:(decide ((j:Int)≤(↑(ByteArray.size t):Int))&&(!decide ((r:Int)<(q:Int))&&true))=true) (hk:EKeys n [] (some 50) ⟨.c (.sx 50 r),[],some (50,Ent.mk true A 1)⟩) :
  AR 27 Tryz.f27 (cx w β n []) 0 (zoz t c q p j r A) (REff w β ⟨.c (.sx 50 r),[],some (50,Ent.mk true A 1)⟩) :=
 zah [] (some 50) [true,false] ([true]) [] Tryz.func27 hk (by kernel_rfl) h zae
end
def Done (w:World) (v:Option Value) (e:Ending) (w':World):Prop :=
 (match v with | some v=>e=.returned v | none=>e=.panicked [{ v:=.iface 22 (.int .i64 1),recovered:=false }])∧Below w.heap.size w w'
theorem zi7 (w:World):Calls Tryz.prog 90 #[.bool true] w fun e w'=>e=.returned (.tuple #[])∧w'=w:=by
 go_enter Tryz.func90,Tryz.ntmps90
 go_wp2
 exact bodyPost_end (v:=.tuple #[]) (by simp [results,Tryz.results90]) rfl ⟨rfl,rfl⟩
theorem zit (w:World):Calls Tryz.prog 90 #[.bool false] w fun e w'=>e=.panicked [{ v:=.iface 22 (.int .i64 1),recovered:=false }]∧w'=w:=by
 go_enter Tryz.func90,Tryz.ntmps90
 go_wp2
 exact ⟨rfl,rfl,rfl⟩
def sgnB (s:ByteArray):Option Int:=match Lib.atoiAll s.data.toList with | .ok n=>some n | _=>none
def zu3 (s:ByteArray):Option Nat:=match Lib.parseUintB 64 s.data.toList with | .ok n=>some n | _=>none
theorem zf9 {s:ByteArray} (hs:s.size≤4096) {w:World} (hg:Gw w):Calls Tryz.prog 138 #[.string s] w (Done w ((sgnB s).map (Value.int .i64))):=by
 obtain ⟨t1,p1,h1⟩:=hg.syn
 obtain ⟨t2,p2,h2⟩:=hg.rng
 unfold sgnB
 cases h:Lib.atoiAll s.data.toList with
 | ok n =>
  go_enter Tryz.func138,Tryz.ntmps138
  go_wp2_with (first
   | (go_at_call 178;refine (Tryz.strconv_Atoi_ok s (by omega) n h _).mono ?_;rintro e w1 ⟨rfl,hw1⟩)
   | (go_at_call 90;refine (zi7 _).mono ?_;rintro e w2 ⟨rfl,rfl⟩))
  go_ret
  refine ⟨rfl,?_⟩
  rcases hw1 with rfl | ⟨t,rfl⟩
  ·exact Below.refl _ _
  ·exact Lib.bytesWorld_below _ _ _
 | «syntax» =>
  go_enter Tryz.func138,Tryz.ntmps138
  go_wp2_with (first
   | (go_at_call 178;refine (Tryz.strconv_Atoi_syntax s (by omega) h _ _ h1 (Or.inr ⟨_,_,rfl⟩)).mono ?_;rintro e w1 ⟨N,rfl,hN,hb,hbel⟩)
   | (go_at_call 90;refine (zit _).mono ?_;rintro e w2 ⟨rfl,rfl⟩))
  exact ⟨rfl,rfl,hbel⟩
 | range =>
  go_enter Tryz.func138,Tryz.ntmps138
  go_wp2_with (first
   | (go_at_call 178;refine (Tryz.strconv_Atoi_range s (by omega) h _ _ h2 (Or.inr ⟨_,_,rfl⟩)).mono ?_;rintro e w1 ⟨N,rfl,hN,hb,hbel⟩)
   | (go_at_call 90;refine (zit _).mono ?_;rintro e w2 ⟨rfl,rfl⟩))
  exact ⟨rfl,rfl,hbel⟩
theorem zgd {s:ByteArray} (hs:s.size≤4096) {w:World} (hg:Gw w):Calls Tryz.prog 137 #[.string s] w (Done w ((zu3 s).map fun n=>Value.int .u64 (n:Int))):=by
 obtain ⟨t1,p1,h1⟩:=hg.syn
 obtain ⟨t2,p2,h2⟩:=hg.rng
 unfold zu3
 cases h:Lib.parseUintB 64 s.data.toList with
 | ok n =>
  go_enter Tryz.func137,Tryz.ntmps137
  go_wp2_with (first
   | (go_at_call 177;refine (Tryz.strconv_ParseUint_10_at64_ok s (by omega) n h _).mono ?_;rintro e w1 ⟨rfl,hw1⟩)
   | (go_at_call 90;refine (zi7 _).mono ?_;rintro e w2 ⟨rfl,rfl⟩))
  go_ret
  refine ⟨rfl,?_⟩
  rcases hw1 with rfl | rfl
  ·exact Below.refl _ _
  ·exact Lib.bytesWorld_below _ _ _
 | «syntax» =>
  go_enter Tryz.func137,Tryz.ntmps137
  go_wp2_with (first
   | (go_at_call 177;refine (Tryz.strconv_ParseUint_10_at64_syntax s (by omega) h _ _ h1 (Or.inr ⟨_,_,rfl⟩)).mono ?_;rintro e w1 ⟨N,rfl,hN,hb,hbel⟩)
   | (go_at_call 90;refine (zit _).mono ?_;rintro e w2 ⟨rfl,rfl⟩))
  exact ⟨rfl,rfl,hbel⟩
 | range =>
  go_enter Tryz.func137,Tryz.ntmps137
  go_wp2_with (first
   | (go_at_call 177;refine (Tryz.strconv_ParseUint_10_at64_range s (by omega) h _ _ h2 (Or.inr ⟨_,_,rfl⟩)).mono ?_;rintro e w1 ⟨N,rfl,hN,hb,hbel⟩)
   | (go_at_call 90;refine (zit _).mono ?_;rintro e w2 ⟨rfl,rfl⟩))
  exact ⟨rfl,rfl,hbel⟩
def regW (s:ByteArray):Option Int:=if Lib.hasPrefix s.data.toList [114] then sgnB ⟨(Lib.trimPrefix s.data.toList [114]).toArray⟩ else none
theorem zhw {s:ByteArray} (hs:s.size≤4096) {w:World} (hg:Gw w):Calls Tryz.prog 135 #[.string s] w (Done w ((regW s).map (Value.int .i64))):=by
 have hl:(ByteArray.mk (Lib.trimPrefix s.data.toList [114]).toArray).size≤4096:=by
  have h1:(ByteArray.mk (Lib.trimPrefix s.data.toList [114]).toArray).size=(Lib.trimPrefix s.data.toList [114]).length:=by simp [ByteArray.size]
  rw [h1]
  have:=Lib.size_eq s
  unfold Lib.trimPrefix
  split
  ·rw [List.length_drop];omega
  ·omega
 have hr:=zf9 hl hg
 unfold regW
 cases h:Lib.hasPrefix s.data.toList [114] with
 | true =>
  rw [if_pos rfl]
  generalize sgnB ⟨(Lib.trimPrefix s.data.toList [114]).toArray⟩=v at *
  cases v with
  | some v =>
   go_enter Tryz.func135,Tryz.ntmps135
   go_wp2_with (first
    | (go_at_call 175;refine (Tryz.strings_CutPrefix _ _ _).mono ?_;rintro e w1 ⟨rfl,rfl⟩;rw [h])
    | (go_at_call 90;refine (zi7 _).mono ?_;rintro e w2 ⟨rfl,rfl⟩)
    | (go_at_call 138;refine hr.mono ?_;rintro e w3 ⟨rfl,hb⟩))
   go_ret
   exact ⟨rfl,hb⟩
  | none =>
   go_enter Tryz.func135,Tryz.ntmps135
   go_wp2_with (first
    | (go_at_call 175;refine (Tryz.strings_CutPrefix _ _ _).mono ?_;rintro e w1 ⟨rfl,rfl⟩;rw [h])
    | (go_at_call 90;refine (zi7 _).mono ?_;rintro e w2 ⟨rfl,rfl⟩)
    | (go_at_call 138;refine hr.mono ?_;rintro e w3 ⟨rfl,hb⟩))
   exact ⟨rfl,rfl,hb⟩
 | false =>
  rw [if_neg (by decide)]
  go_enter Tryz.func135,Tryz.ntmps135
  go_wp2_with (first
   | (go_at_call 175;refine (Tryz.strings_CutPrefix _ _ _).mono ?_;rintro e w1 ⟨rfl,rfl⟩;rw [h])
   | (go_at_call 90;refine (zit _).mono ?_;rintro e w2 ⟨rfl,rfl⟩))
  exact ⟨rfl,rfl,Below.refl _ _⟩
theorem zzo {f:Nat} {A:Array Value} {V:Value} {args:List AV} {v:AV} (h:∀ w,Gw w→Calls Tryz.prog f A w (Done w (some V))) (hA:∀ β,(args.map (AV.g β)).toArray=A) (hV:∀ β,v.g β=V) (hv:v.ks=[]):Ok f args v :=
 zd3 hA hV hv fun w hw=>(h w hw).mono fun _ _ h=>h
theorem zow {s:ByteArray} {n:Int} (hs:s.size≤4096) (h:sgnB s=some n):Ok 138 [.c (.s s)] (.c (.i n)) :=
 zzo (fun w hw=>by have:=zf9 hs hw;rw [h] at this;exact this) (fun _=>rfl) (fun _=>rfl) rfl
theorem zic {s:ByteArray} {n:Int} (hs:s.size≤4096) (h:regW s=some n):Ok 135 [.c (.s s)] (.c (.i n)) :=
 zzo (fun w hw=>by have:=zhw hs hw;rw [h] at this;exact this) (fun _=>rfl) (fun _=>rfl) rfl
abbrev Ins.v (i:Ins):Value:=.agg #[.int .i64 i.op,.int .i64 i.d,.int .i64 i.s,.int .u64 (nv i.im),.int .i64 i.of]
def numW (s:ByteArray):Option (BitVec 64):=(zu3 s).map (BitVec.ofNat 64)
theorem yaih (s:ByteArray):(zu3 s).map (fun n=>Value.int .u64 (n:Int))=(numW s).map fun x=>Value.int .u64 (nv x):=by
 unfold numW zu3
 cases h:Lib.parseUintB 64 s.data.toList with
 | ok n =>
  have:=Lib.parseUintB_le h
  show some (Value.int .u64 (n:Int))=some (Value.int .u64 (nv (BitVec.ofNat 64 n)))
  have e:nv (BitVec.ofNat 64 n)=(n:Int):=by
   show ((BitVec.ofNat 64 n).toNat:Int)=_
   rw [BitVec.toNat_ofNat];omega
  rw [e]
 | «syntax»=>rfl
 | range=>rfl
def setW (i:Ins) (p:Int) (s:ByteArray):Option Ins :=
 if p=0 then (regW s).map fun n=>{ i with d:=n }
 else if p=1∨p=2∧Lib.hasPrefix s.data.toList [114]=true then (regW s).map fun n=>{ i with s:=n }
 else if p=2 then (numW s).map fun x=>{ i with s:=-1,im:=x }
 else if p=3 then (numW s).map fun x=>{ i with im:=x }
 else if p=4 then (sgnB s).map fun n=>{ i with of:=n }
 else some i
theorem zh2 {s:ByteArray} {x:BitVec 64} (hs:s.size≤4096) (h:numW s=some x):Ok 137 [.c (.s s)] (.c (.u x)) :=
 zzo (fun w hw=>by have:=zgd hs hw;rw [yaih,h] at this;exact this) (fun _=>rfl) (fun _=>rfl) rfl
end Go.Proofs.YtkigmocchaikgabGreatDoor
namespace Go.Proofs.YtkigmocchaikgabGreatDoor
open Go.Shelf Go.RowKit Go.Sort Go.Lib
theorem zwr (w:World) (T:TypeId) (nd:Nat) (hs:nd≤24):Holds (fun (b:UInt8)=>Value.int .u8 (b.toNat:Int)) (w.alloc (.cells zeros24 T)) w.heap.size 0 (Array.replicate nd (0:UInt8)):=fun j hj=>by
 have hj':j<nd:=by simpa using hj
 refine ⟨?_,World.frozen?_alloc_new _ _ _ _⟩
 rw [World.cell?_alloc_new,zeros24_at _ (by omega),getElem!_pos _ j hj]
 simp
theorem fin0 (w:World) (o:Obj) (dk:Array UInt8) (k:Nat):∃ os,(putRow (fun (b:UInt8)=>Value.int .u8 (b.toNat:Int)) (w.alloc o) w.heap.size 0 dk).drewN k=grow (w.drewN k) os:=by
 rw [alloc_eq_grow]
 obtain ⟨os',_,e⟩:=putRow_grow_new (fun (b:UInt8)=>Value.int .u8 (b.toNat:Int)) w #[o] w.heap.size 0 dk (Nat.le_refl _)
 exact ⟨os',by rw [e];rfl⟩
set_option maxHeartbeats 1600000 in
set_option maxRecDepth 100000 in
theorem yasd {u:Nat} (hu64:u<18446744073709551616) {w:World} (hg:Gw w):Calls Tryz.prog 140 #[.int .u64 u,.int .i64 10] w fun e w'=>e=.returned (.string ⟨(Lib.decDigits u).toArray⟩)∧Below w.heap.size w w':=by
 by_cases hs:u<100
 ·have hw:IntKind.i64.wrap (u:Int)=(u:Int):=by rw [IntKind.wrap_i64];omega
  go_enter Tryz.func140,Tryz.ntmps140
  go_wp2_with (go_at_call 110;refine (Tryz.internal_strconv_small u hs _).mono ?_;rintro e w' ⟨rfl,rfl⟩)
  go_ret
  exact ⟨rfl,Below.refl _ _⟩
 ·have hu1:1≤u:=by omega
  have hnd20:Lib.nDigits u≤20:=by have:=Lib.numDigits_eq u hu1 hu64;split at this <;> omega
  have hal:Tryz.prog.arrayLen 140=24:=by kernel_rfl
  have hsl:∀ W,(Instr.sliceAt 140 (.pointer (some ⟨w.heap.size,0,none⟩)) none (some (.int .i64 (Lib.nDigits u:Int))) none).run Tryz.prog W=.ok (.slice (some ⟨w.heap.size,0,none⟩) (Lib.nDigits u) 24) W:=fun W=>by
   rw [run_sliceAt_array_h W 140 ⟨w.heap.size,0,none⟩ (by kernel_rfl) .i64 (Lib.nDigits u:Int) (by omega) (by rw [hal];omega),hal]
   have hz:(sizeOf (Tryz.prog.elem 140)).run Tryz.prog W=.ok 1 W:=by kernel_rfl
   rw [hz]
   simp [slicedAt,Result.andThen,Lib.add_plain]
  have hH0:=zwr w 140 (Lib.nDigits u) (by omega)
  have hfmt:=Tryz.internal_strconv_formatBase10 w.heap.size 0 24 u (Array.replicate (Lib.nDigits u) 0) (w.alloc (.cells Lib.zeros24 140)) hH0 (by rw [Array.size_replicate];exact Lib.lt_pow_nDigits u) hu64 (by rw [Array.size_replicate];omega)
  rw [Array.size_replicate] at hfmt
  have HH0:=Lib.hid hH0
  clear hH0 hal
  go_enter Tryz.func140,Tryz.ntmps140
  go_wp2_with (first
   | (go_at_call 111;refine (Tryz.internal_strconv_numDigits u hu1 hu64 _ (Lib.tabIs_alloc hg.tab _)).mono ?_;rintro e w' ⟨rfl,rfl⟩))
  go_at_call 112
  refine hfmt.mono ?_
  rintro e w' ⟨rfl,k,v',dk,rfl,hF⟩
  have hcv:(convert 67 9 (.slice (some ⟨w.heap.size,0,none⟩) (Lib.nDigits u) 24)).run Tryz.prog ((putRow (fun (b:UInt8)=>Value.int .u8 (b.toNat:Int)) (w.alloc (.cells Lib.zeros24 140)) w.heap.size 0 dk).drewN k)=.ok (.string ⟨(Lib.decDigits u).toArray⟩) ((putRow (fun (b:UInt8)=>Value.int .u8 (b.toNat:Int)) (w.alloc (.cells Lib.zeros24 140)) w.heap.size 0 dk).drewN k):=by
   have h:=run_convert_bytes_back (P:=Tryz.prog) ((putRow (fun (b:UInt8)=>Value.int .u8 (b.toNat:Int)) (w.alloc (.cells Lib.zeros24 140)) w.heap.size 0 dk).drewN k) 67 9 5 ⟨w.heap.size,0,none⟩ 24 (Lib.decDigits u) Tryz.underlying67 Tryz.underlying5 Tryz.underlying9 (fun j hj=>by
    rw [Lib.row_is_numeral hF j hj,Lib.add_plain,World.cell?_drewN]
    exact cell?_putRow (fun (b:UInt8)=>Value.int .u8 (b.toNat:Int)) _ w.heap.size 0 _ dk HH0.out (by rw [hF.size,Array.size_replicate]) j (by rw [hF.size];rw [Lib.decDigits_length] at hj;exact hj))
   rw [Lib.decDigits_length] at h
   exact h
  go_wp2
  go_ret
  obtain ⟨os,eo⟩:=fin0 w (.cells Lib.zeros24 140) dk k
  refine ⟨rfl,?_⟩
  rw [eo]
  exact below_grow _ w (Nat.le_refl _) k os
theorem yagn (x:BitVec 64):Ok 93 [.c (.u x),.c (.i 10)] (.c (.s ⟨(Lib.decDigits x.toNat).toArray⟩)):=by
 refine zd3 (A:=#[.int .u64 (x.toNat:Int),.int .i64 10]) (fun _=>rfl) (fun _=>rfl) rfl fun w hw=>?_
 go_enter Tryz.func93,Tryz.ntmps93
 go_wp2_with (go_at_call 140;refine (yasd (u:=x.toNat) (by have:=x.isLt;omega) hw).mono ?_;rintro e w' ⟨rfl,hb⟩)
 go_ret
 exact ⟨rfl,hb⟩
theorem zki (n:Int) (h0:-9223372036854775808≤n) (h1:n≤9223372036854775807):Ok 9 [.c (.i n)] (.c (.s ⟨(Lib.itoa n).toArray⟩)) :=
 zd3 (A:=#[.int .i64 n]) (fun _=>rfl) (fun _=>rfl) rfl fun w hw=>(Tryz.strconv_Itoa n h0 h1 w hw.tab).mono fun e w' ⟨he,k,os,hw'⟩=>⟨he,by rw [hw'];exact below_grow _ w (Nat.le_refl _) k os⟩
theorem zui (s p:ByteArray):Ok 136 [.c (.s s),.c (.s p)] (.c (.b (Lib.hasPrefix s.data.toList p.data.toList))) :=
 zd3 (A:=#[.string s,.string p]) (fun _=>rfl) (fun _=>rfl) rfl fun w _=>(Tryz.strings_HasPrefix s p w).mono fun e w' ⟨he,hw'⟩=>⟨he,by rw [hw'];exact Below.refl _ _⟩
end Go.Proofs.YtkigmocchaikgabGreatDoor
namespace Go.Proofs.YtkigmocchaikgabGreatDoor
open Go.RowKit
section
variable {i:Ins} {t:ByteArray} {n1 op:Int} {x:BitVec 64} {w:World} {β:Bs} {n:Nat}
theorem yav3 (c0:Ok 135 [.c (.s t)] (.c (.i n1))) :
  Ok 91 [.ag i.cs,.c (.i 0),.c (.s t)] (.ag [.i i.op,.i n1,.i i.s,.u i.im,.i i.of]) :=
 zaf [true] ([]) [] Tryz.func91 rfl rfl rfl rfl (by kernel_rfl) rfl (zab c0 zae)
theorem yazr (c0:Ok 135 [.c (.s t)] (.c (.i n1))) :
  Ok 91 [.ag i.cs,.c (.i 1),.c (.s t)] (.ag [.i i.op,.i i.d,.i n1,.u i.im,.i i.of]) :=
 zaf [false,true,true] ([]) [] Tryz.func91 rfl rfl rfl rfl (by kernel_rfl) rfl (zab c0 zae)
theorem yar4 (c0:Ok 136 [.c (.s t),.c (.s (ByteArray.mk #[OfNat.ofNat 114]))] (.c (.b true))) (c1:Ok 135 [.c (.s t)] (.c (.i n1))) :
  Ok 91 [.ag i.cs,.c (.i 2),.c (.s t)] (.ag [.i i.op,.i i.d,.i n1,.u i.im,.i i.of]) :=
 zaf [false,false,true,true] ([]) [] Tryz.func91 rfl rfl rfl rfl (by kernel_rfl) rfl (zab c0 (zab c1 zae))
theorem yauk (c0:Ok 136 [.c (.s t),.c (.s (ByteArray.mk #[OfNat.ofNat 114]))] (.c (.b false))) (c1:Ok 137 [.c (.s t)] (.c (.u x))) :
  Ok 91 [.ag i.cs,.c (.i 2),.c (.s t)] (.ag [.i i.op,.i i.d,.i (-1),.u x,.i i.of]) :=
 zaf [false,false,true,false,true] ([]) [] Tryz.func91 rfl rfl rfl rfl (by kernel_rfl) rfl (zab c0 (zab c1 zae))
theorem yavz (c0:Ok 137 [.c (.s t)] (.c (.u x))) :
  Ok 91 [.ag i.cs,.c (.i 3),.c (.s t)] (.ag [.i i.op,.i i.d,.i i.s,.u x,.i i.of]) :=
 zaf [false,false,false,false,false,true] ([]) [] Tryz.func91 rfl rfl rfl rfl (by kernel_rfl) rfl (zab c0 zae)
theorem yaz0 (c0:Ok 138 [.c (.s t)] (.c (.i n1))) :
  Ok 91 [.ag i.cs,.c (.i 4),.c (.s t)] (.ag [.i i.op,.i i.d,.i i.s,.u i.im,.i n1]) :=
 zaf [false,false,false,false,false,false,true] ([]) [] Tryz.func91 rfl rfl rfl rfl (by kernel_rfl) rfl (zab c0 zae)
theorem yaya (h:(decide (1+ByteArray.size t≤9223372036854775807)&&true)=true) (c0:Ok 9 [.c (.i i.d)] (.c (.s t))) :
  Ok 49 [.c (.i 0),.ag i.cs] (.c (.s (ByteArray.mk #[OfNat.ofNat 114]++t))) :=
 zaf [true] ([]) [] Tryz.func49 rfl rfl rfl rfl (by kernel_rfl) h (zab c0 zae)
theorem yav1 (h:(decide (1+ByteArray.size t≤9223372036854775807)&&true)=true) (c0:Ok 9 [.c (.i i.s)] (.c (.s t))) :
  Ok 49 [.c (.i 1),.ag i.cs] (.c (.s (ByteArray.mk #[OfNat.ofNat 114]++t))) :=
 zaf [false,true,true] ([]) [] Tryz.func49 rfl rfl rfl rfl (by kernel_rfl) h (zab c0 zae)
theorem yar6 (h:(i.s != -1&&(decide (1+ByteArray.size t≤9223372036854775807)&&true))=true) (c0:Ok 9 [.c (.i i.s)] (.c (.s t))) :
  Ok 49 [.c (.i 2),.ag i.cs] (.c (.s (ByteArray.mk #[OfNat.ofNat 114]++t))) :=
 zaf [false,false,true,true] ([]) [] Tryz.func49 rfl rfl rfl rfl (by kernel_rfl) h (zab c0 zae)
theorem yatl (h:(!i.s != -1&&true)=true) (c0:Ok 93 [.c (.u i.im),.c (.i 10)] (.c (.s t))) :
  Ok 49 [.c (.i 2),.ag i.cs] (.c (.s t)) :=
 zaf [false,false,true,false,false] ([]) [] Tryz.func49 rfl rfl rfl rfl (by kernel_rfl) h (zab c0 zae)
theorem yaye (c0:Ok 93 [.c (.u i.im),.c (.i 10)] (.c (.s t))) :
  Ok 49 [.c (.i 3),.ag i.cs] (.c (.s t)) :=
 zaf [false,false,false,false,false] ([]) [] Tryz.func49 rfl rfl rfl rfl (by kernel_rfl) rfl (zab c0 zae)
theorem yav0 (c0:Ok 9 [.c (.i i.of)] (.c (.s t))) :
  Ok 49 [.c (.i 4),.ag i.cs] (.c (.s t)) :=
 zaf [false,false,false,false,true] ([]) [] Tryz.func49 rfl rfl rfl rfl (by kernel_rfl) rfl (zab c0 zae)
end
end Go.Proofs.YtkigmocchaikgabGreatDoor
namespace Go.Proofs.YtkigmocchaikgabGreatDoor
open Go.Shelf Go.RowKit Go.Sort Go.Lib
theorem za2 (w:World) (o:Obj):Below w.heap.size w (w.alloc o):=by
 rw [alloc_eq_grow]
 exact below_grow _ w (Nat.le_refl _) 0 #[o]
theorem zap {w w':World} {o:Obj} (h:Below (w.alloc o).heap.size (w.alloc o) w'):Below w.heap.size w w':=(za2 w o).trans (h.mono (za2 w o).size)
theorem zdi {w:World} (h:Gw w) (o:Obj):Gw (w.alloc o):=h.below (za2 w o) h.size'
def za7 (i:Ins) (p:Int):List UInt8 :=
 if p=0 then 114::Lib.itoa i.d
 else if p=1∨p=2∧i.s≠-1 then 114::Lib.itoa i.s
 else if p=4 then Lib.itoa i.of
 else Lib.decDigits i.im.toNat
def plc (p:Int):Prop:=p=0∨p=1∨p=2∨p=3∨p=4
theorem zuf {i i':Ins} {p:Int} {s:ByteArray} (hp:plc p) (hs:s.size≤4096) (h:setW i p s=some i'):Ok 91 [.ag i.cs,.c (.i p),.c (.s s)] (.ag i'.cs):=by
 rcases hp with rfl | rfl | rfl | rfl | rfl
 ·simp only [setW,if_pos,Option.map_eq_some_iff] at h
  obtain ⟨n,hn,rfl⟩:=h
  exact yav3 (zic hs hn)
 ·simp only [setW,true_or,if_pos,Option.map_eq_some_iff,if_neg (show ¬ (1:Int)=0 by decide)] at h
  obtain ⟨n,hn,rfl⟩:=h
  exact yazr (zic hs hn)
 ·have hP:=zui s ⟨#[114]⟩
  cases hc:Lib.hasPrefix s.data.toList [114] with
  | true =>
   simp [setW,hc] at h
   obtain ⟨n,hn,rfl⟩:=h
   exact yar4 (by rw [← hc];exact hP) (zic hs hn)
  | false =>
   simp [setW,hc] at h
   obtain ⟨n,hn,rfl⟩:=h
   exact yauk (by rw [← hc];exact hP) (zh2 hs hn)
 ·simp [setW] at h
  obtain ⟨n,hn,rfl⟩:=h
  exact yavz (zh2 hs hn)
 ·simp [setW] at h
  obtain ⟨n,hn,rfl⟩:=h
  exact yaz0 (zow hs hn)
theorem yaim {i:Ins} {p:Int} (hp:plc p) (hd:-9223372036854775808≤i.d∧i.d≤9223372036854775807) (hs:-9223372036854775808≤i.s∧i.s≤9223372036854775807) (ho:-9223372036854775808≤i.of∧i.of≤9223372036854775807):Ok 49 [.c (.i p),.ag i.cs] (.c (.s ⟨(za7 i p).toArray⟩)):=by
 have len:∀ n:Int,-9223372036854775808≤n∧n≤9223372036854775807→(decide (1+ByteArray.size ⟨(Lib.itoa n).toArray⟩≤9223372036854775807)&&true)=true:=fun n h=>by
  have:=Lib.itoa_length_le n h.1 h.2
  have e:ByteArray.size ⟨(Lib.itoa n).toArray⟩=(Lib.itoa n).length:=by simp [ByteArray.size]
  rw [e,Bool.and_true]
  exact decide_eq_true (by omega)
 have cat:∀ l:List UInt8,ByteArray.mk #[114]++ByteArray.mk l.toArray=⟨(114::l).toArray⟩:=fun l=>by
  apply ByteArray.ext
  simp
 rcases hp with rfl | rfl | rfl | rfl | rfl
 ·have:=yaya (i:=i) (len i.d hd) (zki i.d hd.1 hd.2)
  rw [cat] at this
  exact this
 ·have:=yav1 (i:=i) (len i.s hs) (zki i.s hs.1 hs.2)
  rw [cat] at this
  exact this
 ·by_cases h:i.s=-1
  ·have:=yatl (i:=i) (by simp [h]) (yagn i.im)
   simpa [za7,h] using this
  ·have:=yar6 (i:=i) (by rw [len _ hs];simp [h]) (zki i.s hs.1 hs.2)
   rw [cat] at this
   simpa [za7,h] using this
 ·exact yaye (yagn i.im)
 ·exact yav0 (zki i.of ho.1 ho.2)
set_option maxHeartbeats 1600000 in
theorem zzm {i:Ins} {p:Int} {s:ByteArray} (hp:plc p) (hs:s.size≤4096) (h:setW i p s=none) {w:World} (hg:Gw w):Calls Tryz.prog 91 #[i.v,.int .i64 p,.string s] w (Done w none):=by
 rcases hp with rfl | rfl | rfl | rfl | rfl
 ·simp only [setW,if_pos,Option.map_eq_none_iff] at h
  go_enter Tryz.func91,Tryz.ntmps91
  go_wp2_with (go_at_call 135;refine (zhw hs (by exact zdi (zdi hg _) _)).mono ?_;rw [h];rintro e w1 ⟨rfl,hb⟩)
  exact ⟨rfl,rfl,zap (zap hb)⟩
 ·simp only [setW,true_or,if_pos,Option.map_eq_none_iff,if_neg (show ¬ (1:Int)=0 by decide)] at h
  go_enter Tryz.func91,Tryz.ntmps91
  go_wp2_with (go_at_call 135;refine (zhw hs (by exact zdi (zdi hg _) _)).mono ?_;rw [h];rintro e w1 ⟨rfl,hb⟩)
  exact ⟨rfl,rfl,zap (zap hb)⟩
 ·cases hc:Lib.hasPrefix s.data.toList [114] with
  | true =>
   simp [setW,hc] at h
   go_enter Tryz.func91,Tryz.ntmps91
   go_wp2_with (first
    | (go_at_call 136;refine (Tryz.strings_HasPrefix _ _ _).mono ?_;rintro e w' ⟨rfl,rfl⟩;rw [hc])
    | (go_at_call 135;refine (zhw hs (by exact zdi (zdi hg _) _)).mono ?_;rw [h];rintro e w1 ⟨rfl,hb⟩))
   exact ⟨rfl,rfl,zap (zap hb)⟩
  | false =>
   simp [setW,hc] at h
   go_enter Tryz.func91,Tryz.ntmps91
   go_wp2_with (first
    | (go_at_call 136;refine (Tryz.strings_HasPrefix _ _ _).mono ?_;rintro e w' ⟨rfl,rfl⟩;rw [hc])
    | (go_at_call 137;refine (zgd hs (by exact zdi (zdi hg _) _)).mono ?_;rw [yaih,h];rintro e w1 ⟨rfl,hb⟩))
   exact ⟨rfl,rfl,zap (zap hb)⟩
 ·simp [setW] at h
  go_enter Tryz.func91,Tryz.ntmps91
  go_wp2_with (go_at_call 137;refine (zgd hs (by exact zdi (zdi hg _) _)).mono ?_;rw [yaih,h];rintro e w1 ⟨rfl,hb⟩)
  exact ⟨rfl,rfl,zap (zap hb)⟩
 ·simp [setW] at h
  go_enter Tryz.func91,Tryz.ntmps91
  go_wp2_with (go_at_call 138;refine (zf9 hs (by exact zdi (zdi hg _) _)).mono ?_;rw [h];rintro e w1 ⟨rfl,hb⟩)
  exact ⟨rfl,rfl,zap (zap hb)⟩
theorem zie {i:Ins} {p:Int} {s:ByteArray} (hp:plc p) (hs:s.size≤4096) {w:World} (hg:Gw w):Calls Tryz.prog 91 #[i.v,.int .i64 p,.string s] w (Done w ((setW i p s).map Ins.v)):=by
 cases h:setW i p s with
 | none=>exact zzm hp hs h hg
 | some i'=>exact zim (fun _=>(0,0,0)) rfl (fun _=>rfl) (zuf hp hs h) w hg
end Go.Proofs.YtkigmocchaikgabGreatDoor
namespace Go.Proofs.YtkigmocchaikgabGreatDoor
open Go.Shelf Go.RowKit Go.Sort Go.Lib Go.Maps
def oNames:List (List UInt8):=[[109,111,118],[97,100,100],[115,117,98],[109,117,108],[97,110,100],[111,114],[120,111,114],[115,104,108],[115,104,114],[108,111,97,100],[115,116,111,114,101],[106,117,109,112],[105,102,101,113],[105,102,108,116],[101,120,105,116]]
abbrev yauu (w:World) (b:Nat) (D:DataW Unit):Prop:=w.ownsMap Tryz.prog 9 (plainElem Tryz.prog 3) b 15 D
theorem law:Keyed Tryz.prog 9:=string_keyed Tryz.underlying9
theorem yavj (w:World):(zeroValue 3).run Tryz.prog w=.ok (.int .i64 0) w:=by kernel_rfl
def yaxe:Nat→List (List UInt8)→DataW Unit→DataW Unit
 | _,[],D=>D
 | n,k::ks,D=>yaxe (n+1) ks (D.put (.string k) (.lit (.int .i64 n)))
def opsD:DataW Unit:=yaxe 1 oNames (.map [])
theorem upd {w:World} {b n:Nat} {D:DataW Unit} (h:w.ownsMap Tryz.prog 9 (plainElem Tryz.prog 3) b n D) (hn:n≤15) (k:Array UInt8) (hk:k.size≤100) (v:Int) (hv:(Lit.int .i64 v).wf=true) :
  ∃ w',(Instr.mapUpdate 76 (.map (some b)) (.string ⟨k⟩) (.int .i64 v)).run Tryz.prog w=.ok () w'∧w'.ownsMap Tryz.prog 9 (plainElem Tryz.prog 3) b (n+1) (D.put (.string k.toList) (.lit (.int .i64 v)))∧w.grownBy w' (some b):=by
 have:=h.update law Tryz.underlying76 (by unfold maxLen;omega) (key:=.string ⟨k⟩) (val:=.int .i64 v) (Go.WideMaps.keyOf_string_mk Tryz.underlying9 (by unfold maxLen;show k.size≤_;omega)) (plainElem_int Tryz.underlying3 hv)
 exact this
set_option maxHeartbeats 1600000 in
theorem zld (w:World):Calls Tryz.prog 41 #[] w fun e w'=>e=.returned (.map (some w.heap.size))∧yauu w' w.heap.size opsD∧Below w.heap.size w w':=by
 have m0:=World.ownsMap_made (H:=Unit) w Tryz.prog 9 (plainElem Tryz.prog 3)
 have hmm:=@run_makeMap Tryz.prog
 obtain ⟨w1,r1,m1,g1⟩:=upd m0 (by decide) #[109,111,118] (by decide) 1 (by decide)
 obtain ⟨w2,r2,m2,g2⟩:=upd m1 (by decide) #[97,100,100] (by decide) 2 (by decide)
 obtain ⟨w3,r3,m3,g3⟩:=upd m2 (by decide) #[115,117,98] (by decide) 3 (by decide)
 obtain ⟨w4,r4,m4,g4⟩:=upd m3 (by decide) #[109,117,108] (by decide) 4 (by decide)
 obtain ⟨w5,r5,m5,g5⟩:=upd m4 (by decide) #[97,110,100] (by decide) 5 (by decide)
 obtain ⟨w6,r6,m6,g6⟩:=upd m5 (by decide) #[111,114] (by decide) 6 (by decide)
 obtain ⟨w7,r7,m7,g7⟩:=upd m6 (by decide) #[120,111,114] (by decide) 7 (by decide)
 obtain ⟨w8,r8,m8,g8⟩:=upd m7 (by decide) #[115,104,108] (by decide) 8 (by decide)
 obtain ⟨w9,r9,m9,g9⟩:=upd m8 (by decide) #[115,104,114] (by decide) 9 (by decide)
 obtain ⟨w10,r10,m10,g10⟩:=upd m9 (by decide) #[108,111,97,100] (by decide) 10 (by decide)
 obtain ⟨w11,r11,m11,g11⟩:=upd m10 (by decide) #[115,116,111,114,101] (by decide) 11 (by decide)
 obtain ⟨w12,r12,m12,g12⟩:=upd m11 (by decide) #[106,117,109,112] (by decide) 12 (by decide)
 obtain ⟨w13,r13,m13,g13⟩:=upd m12 (by decide) #[105,102,101,113] (by decide) 13 (by decide)
 obtain ⟨w14,r14,m14,g14⟩:=upd m13 (by decide) #[105,102,108,116] (by decide) 14 (by decide)
 obtain ⟨w15,r15,m15,g15⟩:=upd m14 (by decide) #[101,120,105,116] (by decide) 15 (by decide)
 go_enter Tryz.func41,Tryz.ntmps41
 go_wp2
 go_ret
 have g:(w.alloc (.map #[] 0)).grownBy w15 (some w.heap.size):=g1.trans (g2.trans (g3.trans (g4.trans (g5.trans (g6.trans (g7.trans (g8.trans (g9.trans (g10.trans (g11.trans (g12.trans (g13.trans (g14.trans (g15))))))))))))))
 exact ⟨rfl,m15,((Below.refl _ _).alloc (Nat.le_refl _) _).grown g (by simp) (fun j hj=>by cases hj;exact Nat.le_refl _)⟩
def nmL (j:Nat):List UInt8:=oNames.getD j []
def nmV (left:Lit→Bool):Nat→Value
 | 0=>.string ⟨#[]⟩
 | j+1=>.string (if left (.string (nmL j)) then ⟨#[]⟩ else ⟨(nmL j).toArray⟩)
def zgn (left:Lit→Bool):Array Value:=Array.ofFn (n:=16) fun j=>nmV left j.val
def oOrd:List Nat:=[1,4,14,12,13,11,9,0,3,5,7,8,10,2,6]
def oEnt (k:Nat):Lit×DataW Unit:=(.string (nmL k),.lit (.int .i64 ((k:Int)+1)))
theorem yai4:opsD=.map (oOrd.map oEnt):=by kernel_rfl
def zjx (s:List UInt8):Option Nat:=oOrd.find? fun k=>nmL k==s
theorem yaas (s:List UInt8):(oOrd.map oEnt).find? (fun p=>p.1.sameKey (.string s))=(zjx s).map oEnt:=by
 rw [List.find?_map];rfl
theorem yab8 (s:List UInt8) (zd:DataW Unit):opsD.atKey (.string s) zd=match zjx s with | some k=>.lit (.int .i64 ((k:Int)+1)) | none=>zd:=by
 rw [yai4]
 unfold DataW.atKey
 simp only
 rw [yaas]
 cases zjx s <;> rfl
theorem zrx (s:List UInt8):Maps.has opsD (.string s)=(zjx s).isSome:=by
 rw [yai4]
 show (oOrd.map oEnt).any (fun p=>p.1.sameKey (.string s))=_
 have:(oOrd.map oEnt).any (fun p=>p.1.sameKey (.string s))=((oOrd.map oEnt).find? (fun p=>p.1.sameKey (.string s))).isSome:=by
  rw [Bool.eq_iff_iff,List.find?_isSome,List.any_eq_true]
 rw [this,yaas]
 cases zjx s <;> rfl
theorem zhn {s:List UInt8} {k:Nat} (h:zjx s=some k):k<15∧s=nmL k:=by
 have h1:=List.mem_of_find?_eq_some h
 have h2:=List.find?_some h
 refine ⟨?_,(eq_of_beq h2).symm⟩
 have:∀ k∈oOrd,k<15:=by decide
 exact this k h1
theorem zlp:∀ k,k<15→zjx (nmL k)=some k:=by decide
theorem yau1 (s:List UInt8) (c:Int) (h:∀ zd:DataW Unit,opsD.atKey (.string s) zd=.lit (.int .i64 c)):∃ k,k<15∧s=nmL k∧c=(k:Int)+1:=by
 have h0:=h (.lit (.int .i64 (c+1)))
 rw [yab8] at h0
 cases hf:zjx s with
 | none=>rw [hf] at h0;simp at h0;omega
 | some k =>
  rw [hf] at h0
  obtain ⟨a,b⟩:=zhn hf
  exact ⟨k,a,b,by simp at h0;exact h0.symm⟩
theorem zrk (left:Lit→Bool):(zgn left).size=16:=by simp [zgn]
theorem yaph:zgn (Maps.has opsD)=Array.replicate 16 (.string ⟨#[]⟩):=by
 have:∀ j,j<15→Maps.has opsD (.string (nmL j))=true:=fun j hj=>by rw [zrx,zlp j hj];rfl
 apply Array.ext
 ·simp [zgn]
 ·intro j h1 h2
  have hj:j<16:=by simpa [zgn] using h1
  simp only [zgn,Array.getElem_ofFn,Array.getElem_replicate]
  cases j with
  | zero=>rfl
  | succ j=>simp [nmV,this j (by omega)]
theorem yavg (left:Lit→Bool) (k:Nat) (hk:k<15):(zgn left).setIfInBounds (k+1) (.string ⟨(nmL k).toArray⟩)=zgn (fun z=>left z&&!z.sameKey (.string (nmL k))):=by
 apply Array.ext
 ·simp [zgn]
 ·intro j h1 h2
  have hj:j<16:=by simpa [zgn] using h2
  rw [Array.getElem_setIfInBounds (by rw [zrk];exact hj)]
  simp only [zgn,Array.getElem_ofFn]
  cases j with
  | zero=>simp [nmV]
  | succ j =>
   by_cases e:j=k
   ·subst e
    simp [nmV,Lit.sameKey]
   ·have hne:(nmL j==nmL k)=false:=by
     have:∀ j,j<15→∀ k,k<15→j≠k→(nmL j==nmL k)=false:=by decide
     exact this j (by omega) k hk e
    rw [if_neg (by omega)]
    simp only [nmV,Lit.sameKey,hne,Bool.not_false,Bool.and_true]
theorem yav5 (left:Lit→Bool) (j:Nat) (h:j<16):(zgn left)[j]?=some (nmV left j):=by
 rw [Array.getElem?_eq_getElem (by rw [zrk];exact h)]
 simp [zgn]
theorem zi6 (w:World) (a:Addr) (u:Value):w.grownBy (w.setCell a u) (some a.block) :=
 ⟨rfl,rfl,rfl,by simp [World.setCell],fun k _ hk=>Below.heap_setCell _ _ _ _ (fun e=>hk (by rw [e]))⟩
theorem yab4:(Tryz.prog.info? 84).map (·.size)=some 16:=by kernel_rfl
theorem zfb {B g:Nat} {w w':World} (h:Below B w w') (hg:B≤g) (A:Array Value):Below B w (w'.setRow g A) :=
 h.trans ⟨rfl,rfl,rfl,by simp [World.setRow],fun k hk=>setRow_other _ _ _ _ (by omega)⟩
theorem zbs (w:World) (o:Obj):(w.alloc o).heap[w.heap.size]?=some o:=by
 show (w.heap.push o)[w.heap.size]?=_
 simp
theorem yaon (w:World) (a b:Obj):((w.alloc a).alloc b).heap.size=w.heap.size+1+1:=by simp
theorem yayn:∀ key kl,keyOf Tryz.prog 9 key=some kl→∃ x,key=Value.string x:=fun key kl h=>by
 obtain ⟨s,rfl,_⟩:=Go.WideMaps.string_of_keyOf Tryz.underlying9 h
 exact ⟨s,rfl⟩
theorem yba4:∀ v (y:DataW Unit×List MemPlace),plainElem Tryz.prog 3 v=some y→∃ c,v=Value.int .i64 c:=fun v y h=>by
 obtain ⟨c,rfl,_⟩:=plainElem_int_inv Tryz.underlying3 h
 exact ⟨c,rfl⟩
set_option maxHeartbeats 400000 in
set_option maxRecDepth 100000 in
theorem zwn (w:World):Calls Tryz.prog 45 #[] w fun e w'=>e=.returned (.agg (zgn fun _=>false))∧Below w.heap.size w w':=by
 go_enter Tryz.func45,Tryz.ntmps45
 go_wp2_with (first
  | (go_at_call 41;refine (zld _).mono ?_;rintro e w1 ⟨rfl,hm,hb⟩;rw [yaon] at hm)
  | (at_range;refine wpList_range_own _ rfl _ 76 rfl 9 3 law Tryz.underlying76 _ (w.heap.size+1+1) 15 opsD rfl hm ?_;intro w0 hrg0 hg0 hs0)
  | go_in)
 go_frame
 have hr:w.heap.size+1+1<w1.heap.size:=hm.lt
 generalize hrr:w1.heap.size=r at *
 go_loopw [2] (fun _ wr=>∃ (left:Lit→Bool) (cnt:Nat),wr.ranges Tryz.prog 9 (plainElem Tryz.prog 3) (w.heap.size+1+1) r 15 opsD left cnt∧wr.heap[w.heap.size]?=some (.cells (Array.replicate 16 (.string ⟨#[]⟩)) 84 (0,0))∧wr.heap[w.heap.size+1]?=some (.cells (zgn left) 84 (0,0))∧Below w.heap.size w wr)
  (fun _ wr=>wr.rangeLeft (w.heap.size+1+1) r)
 case atStart =>
  refine ⟨_,_,hrg0,?_,?_,?_⟩
  ·rw [hg0.block _ (by omega) (by simp),hb.block _ (by simp;omega),Below.heap_alloc _ _ _ (by simp),zbs]
   rfl
  ·rw [hg0.block _ (by omega) (by simp),hb.block _ (by simp),yaph]
   have e:∀ o o':Obj,((w.alloc o).alloc o').heap[w.heap.size+1]?=some o':=fun o o'=>by have:=zbs (w.alloc o) o';simpa using this
   rw [e]
   rfl
  ·exact (zap (zap hb)).trans ⟨hg0.os,hg0.tape,hg0.output,hg0.size,fun k hk=>hg0.block k (by omega) (by simp)⟩
 case round =>
  obtain ⟨left,cnt,hrg,hB,hN,hbel⟩:=hrel
  go_wp2_with (first
   | (at_next;refine wpList_next_ranges _ rfl _ rfl 9 law (plainElem Tryz.prog 3) Value.string (Value.int .i64) yayn yba4 (w.heap.size+1+1) r 15 _ _ _ rfl hrg ?_ ?_)
   | go_in)
  ·intro _ hl0
   obtain ⟨A,hA,hA1,hA2⟩:∃ A,A=zgn (fun _=>false)∧A.size=16∧A.all (·.oneCell')=true:=⟨_,rfl,zrk _,by kernel_rfl⟩
   have hN':wr.heap[w.heap.size+1]?=some (.cells A 84 (0,0)):=by rw [hA,hN,show left=fun _=>false from funext hl0]
   have hB2:=setRow_heap wr w.heap.size _ A _ _ hB
   go_wp2_with (first
    | (refine wpList_load_row rfl 84 _ rfl (w.heap.size+1) rfl _ A _ _ hN' Tryz.underlying84 rfl (by rw [hA1];exact yab4) ?_)
    | (refine wpList_store_row rfl 84 _ _ rfl w.heap.size A rfl rfl _ _ hB (by rw [hA1];exact yab4) (by simp [hA1]) hA2 ?_)
    | go_in)
   refine bodyPost_ret (results_cell_row (d:=.array 16 9) rfl _ _ w.heap.size _ A _ rfl hB2 Tryz.underlying84 rfl (by rw [hA1];exact yab4)) rfl ?_
   exact ⟨by rw [hA],zfb hbel (Nat.le_refl _) A⟩
  ·intro x c kl y yp w2 cnt2 hkx hlx hvx hat hrg2 hlt hg2 hs2 hen
   obtain ⟨x',ex,rfl,-⟩:=Go.WideMaps.string_of_keyOf Tryz.underlying9 hkx
   cases ex
   obtain ⟨c',ec,hy,-⟩:=plainElem_int_inv Tryz.underlying3 hvx
   cases ec
   cases hy
   obtain ⟨k,hk,hx,rfl⟩:=yau1 _ _ hat
   obtain ⟨x⟩:=x
   obtain rfl:x=(nmL k).toArray:=by rw [← hx]
   have hlt2:w.heap.size+1+1<wr.heap.size:=hrg.owns.lt
   have hN2:w2.heap[w.heap.size+1]?=some (.cells (zgn left) 84 (0,0)):=by rw [← hN];exact hg2.block _ (by omega) (fun e=>by cases e;omega)
   have hB2:w2.heap[w.heap.size]?=some (.cells (Array.replicate 16 (.string ⟨#[]⟩)) 84 (0,0)):=by rw [← hB];exact hg2.block _ (by omega) (fun e=>by cases e;omega)
   have hc2:w2.cell? ⟨w.heap.size+1,k+1,none⟩=some (nmV left (k+1)):=by rw [cell_of_row _ _ _ _ _ _ hN2];exact yav5 left (k+1) (by omega)
   have hf2:w2.frozen? ⟨w.heap.size+1,k+1,none⟩=false:=frozen_of_row _ _ _ _ _ hN2
   have hN3:=heap_setCell_same w2 _ (k+1) _ _ (.string ⟨(nmL k).toArray⟩) hN2
   rw [yavg left k hk] at hN3
   have hbel2:Below w.heap.size w w2:=hbel.grown hg2 hbel.size (fun j hj=>by cases hj;omega)
   have HN:=Lib.hid hN3
   have HB:=Lib.hid hB2
   have HR:=Lib.hid hbel2
   clear hN hB hN2 hB2 hN3 hbel2
   go_wp2
   go_roundw
   case rel=>exact ⟨_,cnt2,hrg2.kept (zi6 _ _ _) (by simp) (by simp;omega),by rw [heap_setCell_other _ _ _ _ (by simp)];exact HB.out,HN.out,HR.out.setCell (by simp) _⟩
   case measure =>
    rw [(hrg2.kept (zi6 _ _ _) (by simp) (by simp;omega)).left_eq,hrg.left_eq];exact hlt
end Go.Proofs.YtkigmocchaikgabGreatDoor
namespace Go.Proofs.YtkigmocchaikgabGreatDoor
open Go.Shelf Go.RowKit Go.Sort Go.Lib
abbrev TB:TypeId:=83
abbrev T8:TypeId:=5
abbrev Bld (B b:Nat) (l:List UInt8) (w:World):Prop:=IsBuilderF TB T8 B b (byteCells l) w
abbrev Aside (b:Nat) (w w':World):Prop:=OthersKept T8 (some b) w w'
theorem yazi:(Tryz.prog.info? TB).map (·.size)=some 2:=by kernel_rfl
theorem yaz9:liesAt Tryz.prog Tryz.prog.depth TB (2 / Tryz.prog.cellsOf TB) 0 TB 1=true:=by kernel_rfl
theorem yazn:(Tryz.prog.info? T8).map (fun i=>(i.zero,i.size,i.bytes))=some (some (.int .u8 0),1,1):=by kernel_rfl
set_option maxHeartbeats 1000000 in
set_option maxRecDepth 100000 in
theorem zx5 (b:Nat) (w:World) (h0:w.cell? ⟨b,0,none⟩=some (.pointer (some ⟨b,0,none⟩))) :
  Calls Tryz.prog 92 #[.pointer (some ⟨b,0,none⟩)] w fun e w'=>e=.returned (.tuple #[])∧w'=w:=by
 obtain ⟨j,hj,_⟩:=Option.map_eq_some_iff.1 yazi
 go_enter Tryz.func92,Tryz.ntmps92
 go_wp2
 rw [run_neq_ptr_same w _ Tryz.underlying81 hj]
 go_wp2
 go_end0
 exact ⟨rfl,rfl⟩
set_option maxHeartbeats 1000000 in
set_option maxRecDepth 100000 in
theorem zvv (b:Nat) (w:World) (h0:w.cell? ⟨b,0,none⟩=some (.pointer none)) (hsh:w.shape? b=some (TB,2)) (hfz:w.frozen? ⟨b,0,none⟩=false) :
  Calls Tryz.prog 92 #[.pointer (some ⟨b,0,none⟩)] w fun e w'=>e=.returned (.tuple #[])∧w'=w.setCell ⟨b,0,none⟩ (.pointer (some ⟨b,0,none⟩)):=by
 obtain ⟨j,hj,hjs⟩:=Option.map_eq_some_iff.1 yazi
 go_enter Tryz.func92,Tryz.ntmps92
 go_wp2
 rw [run_to_unsafe w ⟨b,0,none⟩ Tryz.underlying81 Tryz.underlying165 hj (by rw [hjs];decide) hsh (Nat.zero_lt_succ 1)]
 simp only [Result.andThen]
 rw [Oper.upon_value]
 go_wp2
 rw [run_callFunc_extern Tryz.func139 (by kernel_rfl) (by kernel_rfl) (by kernel_rfl) (e:=Extern.AbiNoEscape.same) (by kernel_rfl)]
 rw [run_noEscape]
 simp only [Result.andThen]
 rw [Oper.upon_value]
 go_wp2
 rw [run_from_unsafe w ⟨b,0,none⟩ Tryz.underlying165 Tryz.underlying81 hj hsh yaz9]
 simp only [Result.andThen]
 rw [Oper.upon_value]
 go_wp2
 go_end0
 exact ⟨rfl,rfl⟩
theorem zv0 {B b:Nat} {l:List UInt8} {w:World} (h:Bld B b l w) :
  Calls Tryz.prog 92 #[.pointer (some ⟨b,0,none⟩)] w fun e w'=>e=.returned (.tuple #[])∧BuilderAtF TB T8 B b (.pointer (some ⟨b,0,none⟩)) (byteCells l) w'∧Below B w w'∧Aside b w w':=by
 rcases h with h | h
 ·refine (zvv b w h.cell0 h.shape h.frozen0).mono ?_
  rintro e w' ⟨rfl,rfl⟩
  exact ⟨rfl,h.used _,(Below.refl B w).setCell (p:=⟨b,0,none⟩) h.1 _,(OthersKept.refl T8 (some b) w).setCell ⟨b,0,none⟩ rfl _⟩
 ·refine (zx5 b w h.cell0).mono ?_
  rintro e w' ⟨rfl,rfl⟩
  exact ⟨rfl,h,Below.refl B _,OthersKept.refl _ _ _⟩
theorem zzu {w:World} {B n:Nat} {v:Value} {xs:List Value} (h:w.ownsRowF B T8 1 v n xs):∃ a n c,v=.slice a n c:=by
 rcases h.2 with ⟨hv,_⟩ | ⟨g,cap,cur,fz,hv,_⟩
 ·exact ⟨_,_,_,hv⟩
 ·exact ⟨_,_,_,hv⟩
theorem zug {w:World} {B n:Nat} {v:Value} {xs:List Value} (h:w.ownsRowF B T8 1 v n xs):∀ g,v.ownBlock=some g→∃ c fz,w.heap[g]?=some (.cells c T8 fz):=by
 intro g hg
 rcases h.2 with ⟨rfl,_⟩ | ⟨g',cap,cur,fz,rfl,_,hh,_⟩
 ·simp [Value.ownBlock] at hg
 ·simp only [Value.ownBlock,Option.some.injEq] at hg
  subst hg
  exact ⟨_,_,hh⟩
set_option maxHeartbeats 2000000 in
set_option maxRecDepth 100000 in
theorem zh1 {B b:Nat} {l:List UInt8} {w:World} (h:Bld B b l w) (s:ByteArray) (hlen:l.length+s.size≤140737488355328) (hBw:B≤w.heap.size) :
  Calls Tryz.prog 46 #[.pointer (some ⟨b,0,none⟩),.string s] w fun e w'=>e=.returned (.tuple #[.int .i64 s.size,.nilIface])∧Bld B b (l++s.data.toList) w'∧Below B w w'∧Aside b w w':=by
 obtain ⟨i0,hi,hz0,hz1,hz2⟩:=info_parts yazn
 go_enter Tryz.func46,Tryz.ntmps46
 go_wp2_with (go_at_call 92;refine (zv0 h).mono ?_)
 rintro e w1 ⟨rfl,⟨hB,v,hbk,hown,hne⟩,hb1,ho1⟩
 have c0:w1.cell? ⟨b,0,none⟩=some (.pointer (some ⟨b,0,none⟩)):=by rw [cell_of_heap hbk];rfl
 have c1:w1.cell? ⟨b,1,none⟩=some v:=by rw [cell_of_heap hbk];rfl
 have hbl:(byteCells l).length=l.length:=by simp [byteCells]
 go_wp2_with (at_builtin;refine wpList_append_own_stringF _ rfl _ _ 67 9 rfl B T8 i0 Tryz.underlying67 Tryz.underlying9 hi hz0 hz1 hz2 _ _ _ rfl hown s rfl ?c3 ?c4 ?c5 ?_)
 case c3=>unfold maxLen;omega
 case c4=>omega
 case c5=>have:=hb1.size;omega
 intro v' w2 hown' hgrow _
 have hlt:b<w1.heap.size:=(Array.getElem?_eq_some_iff.1 hbk).1
 have hb2:w2.heap[b]?=some (.cells #[.pointer (some ⟨b,0,none⟩),v] TB (0,0)):=by
  rw [hgrow.block b hlt (fun e=>hne e.symm)]
  exact hbk
 have d0:w2.cell? ⟨b,0,none⟩=some (.pointer (some ⟨b,0,none⟩)):=by rw [cell_of_heap hb2];rfl
 have d1:w2.cell? ⟨b,1,none⟩=some v:=by rw [cell_of_heap hb2];rfl
 have f1:w2.frozen? ⟨b,1,none⟩=false:=frozen_of_heap hb2 1
 obtain ⟨ao,n',cap,rfl⟩:=zzu hown'
 go_wp2
 go_ret2
 refine ⟨rfl,?_,?_,?_⟩
 ·right
  rw [byteCells_append]
  exact BuilderAtF.put hB hb2 (bs':=byteCells l++strCells s) (by rw [List.length_append,strCells_length,hbl];exact hown') (by decide)
 ·exact (hb1.grown hgrow (by have:=hb1.size;omega) (fun k hk=>(hown.lt k hk).1)).setCell (p:=⟨b,1,none⟩) hB _
 ·exact (ho1.grown hgrow (zug hown)).setCell ⟨b,1,none⟩ rfl _
set_option maxHeartbeats 2000000 in
set_option maxRecDepth 100000 in
theorem zlb {B b:Nat} {l:List UInt8} {w:World} (h:Bld B b l w) (c:UInt8) (hlen:l.length+1≤140737488355328) (hBw:B≤w.heap.size) :
  Calls Tryz.prog 48 #[.pointer (some ⟨b,0,none⟩),.int .u8 c.toNat] w fun e w'=>e=.returned .nilIface∧Bld B b (l++[c]) w'∧Below B w w'∧Aside b w w':=by
 obtain ⟨i0,hi,hz0,hz1,hz2⟩:=info_parts yazn
 go_enter Tryz.func48,Tryz.ntmps48
 go_wp2_with (go_at_call 92;refine (zv0 h).mono ?_)
 rintro e w1 ⟨rfl,⟨hB,v,hbk,hown,hne⟩,hb1,ho1⟩
 have c0:w1.cell? ⟨b,0,none⟩=some (.pointer (some ⟨b,0,none⟩)):=by rw [cell_of_heap hbk];rfl
 have c1:w1.cell? ⟨b,1,none⟩=some v:=by rw [cell_of_heap hbk];rfl
 have hbl:(byteCells l).length=l.length:=by simp [byteCells]
 have hlt:b<w1.heap.size:=(Array.getElem?_eq_some_iff.1 hbk).1
 go_wp2_with (at_builtin;refine wpList_append_ownF _ rfl _ _ 67 rfl B T8 i0 (.int .u8 0) 1 1 Tryz.underlying67 hi hz0 hz1 hz2 rfl (by decide) _ _ _ rfl (hown.alloc _) ⟨w1.heap.size,0,none⟩ 1 1 [.int .u8 c.toNat] rfl rfl ?c1 ?c2 ?c3 ?c4 ?c5 ?_)
 case c1=>exact cell_one_new _ _ _
 case c2=>exact ints_oneCell .u8 [(c.toNat:Int)]
 case c3=>unfold maxLen;omega
 case c4=>omega
 case c5=>have:=hb1.size;simp;omega
 intro v' w2 hown' hgrow _
 have hb2:w2.heap[b]?=some (.cells #[.pointer (some ⟨b,0,none⟩),v] TB (0,0)):=by
  rw [hgrow.block b (by simp;omega) (fun e=>hne e.symm),Below.heap_alloc _ _ _ hlt]
  exact hbk
 have d0:w2.cell? ⟨b,0,none⟩=some (.pointer (some ⟨b,0,none⟩)):=by rw [cell_of_heap hb2];rfl
 have d1:w2.cell? ⟨b,1,none⟩=some v:=by rw [cell_of_heap hb2];rfl
 have f1:w2.frozen? ⟨b,1,none⟩=false:=frozen_of_heap hb2 1
 obtain ⟨ao,n',cap,rfl⟩:=zzu hown'
 go_wp2
 go_ret
 refine ⟨rfl,?_,?_,?_⟩
 ·right
  rw [byteCells_append]
  exact BuilderAtF.put hB hb2 (bs':=byteCells l++[.int .u8 c.toNat]) (by rw [List.length_append,hbl];exact hown') (by decide)
 ·exact ((hb1.alloc (by have:=hb1.size;omega) _).grown hgrow (by have:=hb1.size;simp;omega) (fun k hk=>(hown.lt k hk).1)).setCell (p:=⟨b,1,none⟩) hB _
 ·exact ((ho1.alloc _).grown hgrow (zug (hown.alloc _))).setCell ⟨b,1,none⟩ rfl _
def plcs (op:Int):List Int:=if op=10 then [3,0,1,4] else if op=11 then [3,0,4,1] else if op=12 then [4] else if op=13∨op=14 then [0,2,4] else if op=15 then [] else [0,2]
abbrev T47:TypeId:=92
def PlAt (op:Int) (a:Option Addr) (g:Nat) (w:World):Prop:=plcs op≠[]→a=some ⟨g,0,none⟩∧w.heap[g]?=some (.cells ((plcs op).map (Value.int .i64)).toArray T47 (0,0))
theorem zf0 (op:Int) (w:World):Calls Tryz.prog 47 #[.int .i64 op] w fun e w'=>∃ a,e=.returned (.slice a (plcs op).length (plcs op).length)∧PlAt op a w.heap.size w'∧Below w.heap.size w w':=by
 by_cases h10:op=10
 ·subst h10
  go_enter Tryz.func47,Tryz.ntmps47
  go_wp2
  go_ret
  exact ⟨_,rfl,fun _=>⟨rfl,zbs _ _⟩,za2 _ _⟩
 by_cases h11:op=11
 ·subst h11
  go_enter Tryz.func47,Tryz.ntmps47
  go_wp2
  go_ret
  exact ⟨_,rfl,fun _=>⟨rfl,zbs _ _⟩,za2 _ _⟩
 by_cases h12:op=12
 ·subst h12
  go_enter Tryz.func47,Tryz.ntmps47
  go_wp2
  go_ret
  exact ⟨_,rfl,fun _=>⟨rfl,zbs _ _⟩,za2 _ _⟩
 by_cases h13:op=13
 ·subst h13
  go_enter Tryz.func47,Tryz.ntmps47
  go_wp2
  go_ret
  exact ⟨_,rfl,fun _=>⟨rfl,zbs _ _⟩,za2 _ _⟩
 by_cases h14:op=14
 ·subst h14
  go_enter Tryz.func47,Tryz.ntmps47
  go_wp2
  go_ret
  exact ⟨_,rfl,fun _=>⟨rfl,zbs _ _⟩,za2 _ _⟩
 by_cases h15:op=15
 ·subst h15
  go_enter Tryz.func47,Tryz.ntmps47
  go_wp2
  go_ret
  exact ⟨_,rfl,fun h=>absurd rfl h,Below.refl _ _⟩
 have e:plcs op=[0,2]:=by simp [plcs,h10,h11,h12,h13,h14,h15]
 unfold PlAt
 rw [e]
 go_enter Tryz.func47,Tryz.ntmps47
 go_wp2
 go_ret
 exact ⟨_,rfl,fun _=>⟨rfl,zbs _ _⟩,za2 _ _⟩
end Go.Proofs.YtkigmocchaikgabGreatDoor
