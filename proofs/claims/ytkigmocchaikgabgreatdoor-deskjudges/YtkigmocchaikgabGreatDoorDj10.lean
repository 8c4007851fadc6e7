import Derived.Test.YtkigmocchaikgabGreatDoorDj5
import Derived.OrdersIn
import Derived.RangeFuncWrites
import Derived.RangeFuncLeaves
import Derived.TacticsIn
import Derived.Test.YtkigmocchaikgabGreatDoorProg
import Derived.Test.YtkigmocchaikgabGreatDoorDj9
import Derived.Test.YtkigmocchaikgabGreatDoorDj3
import Derived.Test.YtkigmocchaikgabGreatDoorDj7
/- Parts of a body that are walked inside a fence, in a round of a range over a function too. -/
namespace Go.Proofs.YtkigmocchaikgabGreatDoor
open Go.RowKit
abbrev FW (ro:Option Nat):Fence:={ Fence.wide with round:=ro }
def zm8 (ops:Array Oper):Bool:=ops.toList.all fun o=>match o.op with
 | .defer _=>false
 | _=>true
theorem zpd {ops:Array Oper} (h:zm8 ops=true) {i:Nat} {o:Oper} (ho:ops[i]?=some o):∀ c,o.op≠.defer c:=by
 intro c hc
 have hm:o∈ops.toList:=by
  obtain ⟨hi,rfl⟩:=Array.getElem?_eq_some_iff.1 ho
  simp
 have:=List.all_eq_true.1 h o hm
 rw [hc] at this
 cases this
theorem yaxp {ro:Option Nat} {ρ:Operand→Value} {o:Oper} (h:∀ c,o.op≠.defer c):Oper.semAt ro ρ o=execOp ρ o:=by
 cases ro with
 | none=>rfl
 | some l=>exact Oper.semAt_some l ρ o h
theorem yaoh {ro:Option Nat} {n:Nat} {P:Program} {f:FuncId} {args:Array Value} {w:World} {R:Ending→World→Prop} (h:Calls P f args w R):CallsIn (FW ro) n P f args w R:=(callsIn_wide (n:=n)).2 h
theorem yaru {ro:Option Nat} {n:Nat} {P:Program} {o:Oper} {a:Act} {next:Act→World→Prop} {Q:Exit→Act→World→Prop} {r:Result Next} (h:o.upon P a next Q r):o.uponIn (FW ro) n P a next Q r:=by
 unfold Oper.upon at h
 split at h
 ·exact h
 ·exact h
 ·exact h
 ·exact ⟨fun h=>(by cases h),yaoh h⟩
 ·exact ⟨fun h=>(by cases h),fun c cs _=>let ⟨v,w',r,s⟩:=h c cs;⟨v,w',r,stepsIn_wide.2 s⟩⟩
 ·exact h
 ·exact h.elim
theorem yawt {ro:Option Nat} {n:Nat} {P:Program} {o:Oper} {a:Act} {w:World} {next:Act→World→Prop} {Q:Exit→Act→World→Prop} (hd:∀ c,o.op≠.defer c) (h:o.wp P a w next Q):o.wpIn (FW ro) n P a w next Q:=by
 refine ⟨fun _ _=>trivial,?_⟩
 rw [yaxp hd]
 exact yaru h
theorem yabd {ro:Option Nat} {n:Nat} {P:Program} {ops:Array Oper} {Q:Exit→Act→World→Prop} (hd:zm8 ops=true) (hq:¬ LetsOut Q):∀ (l:List Nat) (a:Act) (w:World),wpOps P ops Q l a w→wpOpsIn (FW ro) n P ops Q l a w
 | [],_,_,h=>h
 | i::l,a,w,h=>by
  simp only [wpOps] at h
  simp only [wpOpsIn]
  cases ho:ops[i]? with
  | none=>rw [ho] at h;exact yabd hd hq l a w h
  | some o =>
   rw [ho] at h
   simp only at h ⊢
   by_cases hw:Region.wanted o (yielded ops a.tmps)=true
   ·rw [if_pos hw] at h ⊢
    rcases h with h | h
    ·exact yawt (zpd hd ho) (Oper.wp_mono (fun a w=>yabd hd hq l a w) h)
    ·exact (hq h.2).elim
   ·rw [if_neg hw] at h ⊢
    exact ⟨fun _ _=>trivial,yabd hd hq l _ w h⟩
theorem yacd {ro:Option Nat} {n:Nat} {P:Program} {md:Region.Mode} {ops:Array Oper} {Q:Exit→Act→World→Prop} (hd:zm8 ops=true) (hq:¬ LetsOut Q):∀ (m:Nat) (listed:Array Bool) (a:Act) (w:World),wpAny P md ops Q m listed a w→wpAnyIn (FW ro) n P md ops Q m listed a w
 | 0,_,_,_,h=>h
 | m+1,listed,a,w,h=>by
  refine ⟨h.1,fun i hi=>?_⟩
  have h:=h.2 i hi
  unfold wpOp at h
  unfold wpOpIn
  cases ho:ops[i]? with
  | none=>rw [ho] at h;exact yacd hd hq m _ a w h
  | some o =>
   rw [ho] at h
   simp only at h ⊢
   by_cases hw:Region.wanted o (yielded ops a.tmps)=true
   ·rw [if_pos hw] at h ⊢
    rcases h with h | h
    ·exact yawt (zpd hd ho) (Oper.wp_mono (fun a w=>yacd hd hq m _ a w) h)
    ·exact (hq h.2).elim
   ·rw [if_neg hw] at h ⊢
    exact ⟨fun _ _=>trivial,yacd hd hq m _ _ w h⟩
theorem yanl {P:Program} {N base:Nat} {rs:List Nat} {ops:Array Oper} {σ:Kn} {hs:List Eff} {ds:List Bool} {r:Drw} {Q:Exit→Act→World→Prop} {C:Cx} {β:Bs} {a:Act} {w:World}
  (h:zkq P N base rs ops 0 ops.toList σ hs ds=some r) (hok:allB r.ok=true) (hcr:∀ q,q∈r.cr→ObOK P q) (hB:Region.lexB .any ops=true) (hA:zd7 0 ops.toList r.E=true) (hr:Rel C N β (fun k=>k<base) σ a w)
  (hQ:∀ β' a' w',Rel C N β' (fun k=>k<base+ops.size) r.σ a' w'→Q .normal a' w'):wpAny P .any ops Q ops.size (Array.replicate ops.size false) a { w with drawn:=w.drawn+1 }:=by
 obtain ⟨hlen,hspec⟩:=zin h hok hcr
 have hsz:r.E.length=ops.size:=by simpa using hlen
 let E:Nat→Kn×Eff:=fun i=>r.E.getD i (σ,⟨zqh,[],none⟩)
 have hget:∀ i o,ops[i]?=some o→r.E[i]?=some (E i):=by
  intro i o ho
  have hi:i<ops.size:=by
   rcases Nat.lt_or_ge i ops.size with h3 | h3
   ·exact h3
   ·simp [Array.getElem?_eq_none h3] at ho
  simp only [E,List.getD_eq_getElem?_getD,List.getElem?_eq_getElem (show i<r.E.length by omega),Option.getD_some]
 have hlist:∀ i o,ops[i]?=some o→ops.toList[i]?=some o:=fun i o ho=>by rw [Array.getElem?_toList];exact ho
 have hE:∀ i o,ops[i]?=some o→(∃ σ',(E i).1=foot ops o σ')∧yaio P N ops o (E i).1 (E i).2∧∀ j cs,(E i).2.nw=some (j,cs)→j=base+i:=by
  intro i o ho
  obtain ⟨o',σ',h1,h2,h3,h4⟩:=hspec i _ (hget i o ho)
  rw [hlist i o ho] at h1
  injection h1 with h1
  subst h1
  exact ⟨⟨σ',h2⟩,h3,fun j cs hn=>by rw [h4 j cs hn];omega⟩
 simp only [Region.lexB,Bool.and_eq_true] at hB
 have hr':Rel C N β (zoi base (Array.replicate ops.size false)) σ a { w with drawn:=w.drawn+1 }:=by
  have h1:=hr.mono (S':=zoi base (Array.replicate ops.size false)) fun k hk=>Or.inl hk
  exact ⟨h1.size,h1.defers,h1.tmp,fun k e he=>⟨(h1.blk k e he).1,⟨(h1.blk k e he).2.1.lt,(h1.blk k e he).2.1.cell,(h1.blk k e he).2.1.free,(h1.blk k e he).2.1.room⟩,(h1.blk k e he).2.2⟩,h1.inj,⟨h1.frame.os,h1.frame.tape,h1.frame.output,h1.frame.size,h1.frame.block⟩,h1.fix,⟨h1.gd.now.keep (Nat.le_refl _) (fun _ _=>rfl),h1.gd.x,h1.gd.size⟩⟩
 have hany:=zx9 (P:=P) (N:=N) (base:=base) (ops:=ops) (E:=E) (fun i o ho=>(hE i o ho).1)
  (fun i j oi oj hi hj hlt=>by
   have:=zgg hA i j _ _ (hget i oi hi) (hget j oj hj) hlt
   simp only [Nat.zero_add] at this
   exact this)
  ops.toList 0 (Array.replicate ops.size false) σ hs ds r (by simp) (by simpa using hB.2) h
  (fun m x hx=>by simp only [Nat.zero_add,E,List.getD_eq_getElem?_getD,hx,Option.getD_some]) (fun j hj=>by omega) (fun j _ hj=>by simp [hj])
 have hEn:∀ i j cs,(E i).2.nw=some (j,cs)→j=base+i:=by
  intro i j cs hn
  rcases Nat.lt_or_ge i ops.size with h3 | h3
  ·exact (hE i ops[i] (by simp [h3])).2.2 j cs hn
  ·simp only [E,List.getD_eq_getElem?_getD,List.getElem?_eq_none (show r.E.length≤i by omega),Option.getD_none] at hn
   cases hn
 have:=AAny.sound (P:=P) (Q:=Q) (C:=C) (fun i o ho=>(hE i o ho).2.1) hEn ops.toList.length (Array.replicate ops.size false) σ β a _ (by simp) hany hr' hQ
 simpa using this
def yan2 (C:Cx) (N:Nat) (σ:Kn) (e:Exit) (a:Act) (w:World):Prop:=e=.normal∧∃ β,Rel C N β (fun k=>k < σ.n) σ a w
theorem zo1 {C:Cx} {N:Nat} {σ:Kn}:¬ LetsOut (yan2 C N σ):=fun ⟨_,_,h,_⟩=>by cases h
theorem yadc {P:Program} {N id:Nat} {rs:List Nat} {ops:Array Oper} {dr:Bool} {σ:Kn} {hs:List Eff} {ds:List Bool} {q:Seq} (h:zmn P N rs ops dr σ hs ds=some q) (hok:allB q.ok=true) (hcr:∀ c,c∈q.cr→ObOK P c) (hd:zm8 ops=true)
  {C:Cx} {β:Bs} {a:Act} {w:World} {ro:Option Nat} {n:Nat} (hr:Rel C N β (fun k=>k < σ.n) σ a w):(Code.region id ops dr).wpIn (FW ro) n P (yan2 C N q.σ) a w:=by
 unfold zmn at h
 cases dr with
 | false =>
  simp only at h
  split at h
  ·rename_i r hrr
   injection h with h;subst h
   refine wpIn_region (yabd hd zo1 _ _ _ ?_)
   have:=zgt (P:=P) (N:=N) (base:=σ.n) (rs:=rs) (ops:=ops) (Q:=yan2 C N { r.σ with n:=σ.n+ops.size }) ops.toList 0 σ hs ds r β a w (by simp) hrr hok hcr (by simpa using hr)
    (fun β' a' w' hr'=>⟨rfl,β',by simpa using hr'.setn (σ.n+ops.size)⟩)
   simpa [List.range_eq_range'] using this
  ·cases h
 | true =>
  simp only at h
  split at h
  ·rename_i r hrr
   cases hc:(Region.lexB .any ops&&zd7 0 ops.toList r.E&&P.follows .mixedOrders) with
   | false=>rw [hc] at h;cases h
   | true =>
    rw [hc] at h
    simp only [cond_true,Option.some.injEq] at h
    subst h
    simp only [Bool.and_eq_true] at hc
    exact wpIn_region_any hc.2 (yacd hd zo1 _ _ _ _ (yanl hrr hok hcr hc.1.1 hc.1.2 hr (fun β' a' w' hr'=>⟨rfl,β',hr'.setn _⟩)))
  ·cases h
def quiet:Code→Bool
 | .skip=>true
 | .seq x y=>quiet x&&quiet y
 | .block _ c=>quiet c
 | .cond _ x y=>quiet x&&quiet y
 | .region _ ops _=>zm8 ops
 | _=>false
structure Left (P:Program) (fn:Func) (N:Nat) (rw:List (Nat×Nat)) (C:Cx) (k:List Item) (st:List Bool) (out:Out) (e:Exit) (a:Act) (w:World):Prop where
 e:e=.normal
 go:∃ β σ m hs ds r,Rel C N β (fun k=>k < σ.n) σ a w∧runT P fn N rw m k σ hs ds st=some r∧r.out=out∧allB r.ok=true∧∀ c,c∈r.cr→ObOK P c
theorem zsw {P:Program} {fn:Func} {N:Nat} {rw:List (Nat×Nat)} {C:Cx} {ro:Option Nat} {n:Nat} {st:List Bool}:∀ (c:Code) (k:List Item) (m:Nat) (σ:Kn) (hs:List Eff) (ds:List Bool) (r:Run) (β:Bs) (a:Act) (w:World),quiet c=true →
  runT P fn N rw m (.code c::k) σ hs ds st=some r→allB r.ok=true→(∀ c,c∈r.cr→ObOK P c)→Rel C N β (fun k=>k < σ.n) σ a w→c.wpIn (FW ro) n P (Left P fn N rw C k st r.out) a w:=by
 intro c
 induction c with
 | skip =>
  intro k m σ hs ds r β a w _ h hok hcr hr
  cases m with
  | zero=>cases h
  | succ m=>exact wpIn_skip ⟨rfl,β,σ,m,hs,ds,r,hr,h,rfl,hok,hcr⟩
 | seq x y ihx ihy =>
  intro k m σ hs ds r β a w hq h hok hcr hr
  simp only [quiet,Bool.and_eq_true] at hq
  cases m with
  | zero=>cases h
  | succ m =>
   refine wpIn_seq (wpIn_mono (ihx _ m σ hs ds r β a w hq.1 h hok hcr hr) fun e a' w' hl=>?_)
   obtain ⟨rfl,β',σ',m',hs',ds',r',hr',h',ho',hok',hcr'⟩:=hl
   show y.wpIn _ _ _ _ _ _
   rw [← ho']
   exact ihy _ m' σ' hs' ds' r' β' a' w' hq.2 h' hok' hcr' hr'
 | block id c ih =>
  intro k m σ hs ds r β a w hq h hok hcr hr
  cases m with
  | zero=>cases h
  | succ m =>
   refine wpIn_block (wpIn_mono (ih _ m σ hs ds r β a w hq h hok hcr hr) fun e a' w' hl=>?_)
   obtain ⟨rfl,β',σ',m',hs',ds',r',hr',h',ho',hok',hcr'⟩:=hl
   cases m' with
   | zero=>cases h'
   | succ m'=>exact ⟨rfl,β',σ',m',hs',ds',r',hr',h',ho',hok',hcr'⟩
 | cond t x y ihx ihy =>
  intro k m σ hs ds r β a w hq h hok hcr hr
  simp only [quiet,Bool.and_eq_true] at hq
  cases m with
  | zero=>cases h
  | succ m =>
   unfold runT at h
   simp only at h
   split at h
   ·rename_i b d ds' hx
    split at h
    ·rename_i q hq'
     injection h with h;subst h
     simp only [Run.and,List.cons_append,List.nil_append,allB,Bool.and_eq_true,zr9] at hok
     have hx':a.eval _=.bool b:=(hr.ev hx).1
     refine wpIn_cond hx' ?_
     have hc:∀ c,c∈q.cr→ObOK P c:=fun c hc=>hcr c (by simp [Run.and,hc])
     rw [hok.1]
     cases d with
     | true=>exact ihx _ m σ hs ds' q β a w hq.1 hq' hok.2 hc hr
     | false=>exact ihy _ m σ hs ds' q β a w hq.2 hq' hok.2 hc hr
    ·cases h
   ·cases h
 | region id ops dr =>
  intro k m σ hs ds r β a w hq h hok hcr hr
  cases m with
  | zero=>cases h
  | succ m =>
   unfold runT at h
   simp only at h
   split at h
   ·rename_i q hq'
    split at h
    ·rename_i r' hr'
     injection h with h;subst h
     simp only [Run.and,ziq,Bool.and_eq_true] at hok
     refine wpIn_mono (yadc hq' hok.1 (fun c hc=>hcr c (by simp [Run.and,hc])) hq hr) fun e a' w' hl=>?_
     obtain ⟨rfl,β',h'⟩:=hl
     exact ⟨rfl,β',q.σ,m,q.hs,q.ds,r',h',hr',rfl,hok.2,fun c hc=>hcr c (by simp [Run.and,hc])⟩
    ·cases h
   ·cases h
 | _=>intro k m σ hs ds r β a w hq;cases hq
def znk (P:Program) (C:Cx) (N:Nat) (todo:List Item) (σ σ':Kn):Prop :=
 match todo with
 | .code c::_=>∀ (ro:Option Nat) (n:Nat) (β:Bs) (a:Act) (w:World),Rel C N β (fun k=>k < σ.n) σ a w→c.wpIn (FW ro) n P (yan2 C N σ') a w
 | _=>False
theorem Rel.weaken {C:Cx} {N:Nat} {β:Bs} {σ σ':Kn} {a:Act} {w:World} (hr:Rel C N β (fun k=>k < σ.n) σ a w) (hle:Le σ' σ) (hlow:σ'.Low) (hF:∀ k,C.F k→k < σ'.n):Rel C N β (fun k=>k < σ'.n) σ' a w :=
 ⟨hr.size,hr.defers,fun t v hv=>⟨(hr.tmp t v (hle.t t v hv)).1,hlow.t t v hv⟩,fun k e he=>⟨(hlow.h k e he).1,(hr.blk k e (hle.h k e he)).2.1,(hlow.h k e he).2,(hr.blk k e (hle.h k e he)).2.2.2⟩,fun k e k' e' he he'=>hr.inj k e k' e' (hle.h k e he) (hle.h k' e' he'),hr.frame,fun k hk=>⟨hF k hk,(hr.fix k hk).2⟩,hr.gd⟩
theorem zqv {P:Program} {f:FuncId} {fn:Func} {N:Nat} {C:Cx} {todo:List Item} {σ:Kn} {ok:Bool} {cr:List Ob} (σ':Kn) (m:Nat) (hs:List Eff) (ds st:List Bool) (rw:List (Nat×Nat)) (_hf:P.funcs[f]?=some fn)
  (h:yaf7 (σ'.T.map (·.1)) (σ'.H.map (·.1)) (runT P fn N rw m todo σ hs ds st)=some ([.code .skip,.inLoop .skip],σ'.T.map (fun x=>some x.2),σ'.H.map (fun x=>some x.2),ok,cr)) (hok:ok=true) (hcr:∀ c,c∈cr→ObOK P c) (hlow:σ'.Low) (hF:∀ k,C.F k→k < σ'.n)
  (hq:(match todo with
   | [.code c,.inLoop _]=>quiet c
   | _=>false)=true) (hst:st=[true]):znk P C N todo σ σ':=by
 obtain ⟨σ1,oks,h1,ho,h2,h3⟩:=zki h
 subst hst
 split at hq
 ·rename_i _ c X _
  intro ro n β a w hr
  refine wpIn_mono (zsw c _ m σ hs ds _ β a w hq h1 (ho.trans hok) hcr hr) fun e a' w' hl=>?_
  obtain ⟨rfl,β',σ2,m',hs',ds',r',hr',h',ho',_,_⟩:=hl
  refine ⟨rfl,β',?_⟩
  cases m' with
  | zero=>cases h'
  | succ m' =>
   unfold runT at h'
   simp only at h'
   split at h'
   ·injection h' with h'
    subst h'
    injection ho' with ho'
    injection ho' with _ ho'
    subst ho'
    exact hr'.weaken ⟨zhf h2,zhf h3⟩ hlow hF
   ·cases h'
 ·cases hq
def yaqu (P:Program) (C:Cx) (N:Nat) (todo:List Item) (σ σ':Kn):Prop :=
 match todo with
 | [.code (.seq x (.seq y z)),.inLoop _]=>∀ (ro:Option Nat) (n:Nat) (d:Code) (Q:Exit→Act→World→Prop),(∀ (β:Bs) (a:Act) (w:World),Rel C N β (fun k=>k < σ'.n) σ' a w→d.wpIn (FW ro) n P Q a w) →
   ∀ (β:Bs) (a:Act) (w:World),Rel C N β (fun k=>k < σ.n) σ a w→(Code.seq x (.seq y (.seq z d))).wpIn (FW ro) n P Q a w
 | _=>False
theorem yaon {P:Program} {f:FuncId} {fn:Func} {N:Nat} {C:Cx} {todo:List Item} {σ:Kn} {ok:Bool} {cr:List Ob} (σ':Kn) (m:Nat) (hs:List Eff) (ds st:List Bool) (rw:List (Nat×Nat)) (_hf:P.funcs[f]?=some fn)
  (h:yaf7 (σ'.T.map (·.1)) (σ'.H.map (·.1)) (runT P fn N rw m todo σ hs ds st)=some ([.code .skip,.inLoop .skip],σ'.T.map (fun x=>some x.2),σ'.H.map (fun x=>some x.2),ok,cr)) (hok:ok=true) (hcr:∀ c,c∈cr→ObOK P c) (hlow:σ'.Low) (hF:∀ k,C.F k→k < σ'.n)
  (hq:(match todo with
   | [.code (.seq x (.seq y z)),.inLoop _]=>quiet x&&(quiet y&&quiet z)
   | _=>false)=true) (hst:st=[true]):yaqu P C N todo σ σ':=by
 obtain ⟨σ1,oks,h1,ho,h2,h3⟩:=zki h
 subst hst
 split at hq
 ·rename_i _ x y z X _
  intro ro n d Q hd β a w hr
  simp only [Bool.and_eq_true] at hq
  cases m with
  | zero=>cases h1
  | succ m =>
   refine wpIn_seq (wpIn_mono (zsw x _ m σ hs ds _ β a w hq.1 h1 (ho.trans hok) hcr hr) fun e a' w' hl=>?_)
   obtain ⟨rfl,β',σ2,m',hs',ds',r',hr',h',ho',hok',hcr'⟩:=hl
   cases m' with
   | zero=>cases h'
   | succ m' =>
    refine wpIn_seq (wpIn_mono (zsw y _ m' σ2 hs' ds' r' β' a' w' hq.2.1 h' hok' hcr' hr') fun e a' w' hl=>?_)
    obtain ⟨rfl,β',σ2,m',hs',ds',r',hr',h',ho2,hok',hcr'⟩:=hl
    refine wpIn_seq (wpIn_mono (zsw z _ m' σ2 hs' ds' r' β' a' w' hq.2.2 h' hok' hcr' hr') fun e a' w' hl=>?_)
    obtain ⟨rfl,β',σ2,m',hs',ds',r',hr',h',ho3,_,_⟩:=hl
    refine hd β' a' w' ?_
    cases m' with
    | zero=>cases h'
    | succ m' =>
     unfold runT at h'
     simp only at h'
     split at h'
     ·injection h' with h'
      subst h'
      have ho4:=ho3.trans (ho2.trans ho')
      injection ho4 with ho4
      injection ho4 with _ ho4
      subst ho4
      exact hr'.weaken ⟨zhf h2,zhf h3⟩ hlow hF
     ·cases h'
 ·cases hq
def yaox (fn:Func):Code :=
 match zdn fn with
 | .seq x (.seq y (.seq z _))=>.seq x (.seq y z)
 | c=>c
def yaee (fn:Func):Code :=
 match zdn fn with
 | .seq _ (.seq _ (.seq _ (.block _ (.rangeFunc _ _ _ c))))=>c
 | c=>c
section
variable {L:List Ins} {p r x:Nat} {C:Cx} {A:List (V6 Bool)} {b a1:V6 Bool}
theorem yamu (h:(decide ((p:Int)≤(p:Int))&&decide ((p:Int)≤1099511627776)&&true&&true)=true) (c0:Eff.mk (.c (.sl 4 0 (p:Int).toNat (p:Int).toNat)) [] (some (1+1+2,Ent.mk true (rows (p:Int).toNat [.b false,.b false,.b false,.b false,.b false,.b false]) 0))=Eff.mk (.c (.sl 4 0 p p)) [] (some (4,Ent.mk true (rcell (List.replicate p no6)) 0))) (c1:CO 118 [.c (.i (p:Int))] [] (Eff.mk (.c (.f 163 [9])) [] (some (9,Ent.mk true [.i (p:Int)] 0)))) (lo:Kn.Low ⟨[(1,.c (.w 1)),(2,.c (.w 5)),(10,.c (.f 163 [9]))],[(0,Ent.mk true (pcell L) 5),(1,Ent.mk true [.sx 0 p] 0),(4,Ent.mk true (rcell (List.replicate p no6)) 0),(5,Ent.mk true [.sl 4 0 p p] 0),(9,Ent.mk true [.i (p:Int)] 0)],10⟩) (hF:∀ k,C.F k→k<10) :
  yaqu Tryz.prog C Tryz.f65.ntmps ([Item.code (yaox Tryz.f65),Item.inLoop Code.skip]) (Kn.start [.c (.sx 0 p)] [(0,Ent.mk true (pcell L) 5)] 1) ⟨[(1,.c (.w 1)),(2,.c (.w 5)),(10,.c (.f 163 [9]))],[(0,Ent.mk true (pcell L) 5),(1,Ent.mk true [.sx 0 p] 0),(4,Ent.mk true (rcell (List.replicate p no6)) 0),(5,Ent.mk true [.sl 4 0 p p] 0),(9,Ent.mk true [.i (p:Int)] 0)],10⟩ :=
 yaon ⟨[(1,.c (.w 1)),(2,.c (.w 5)),(10,.c (.f 163 [9]))],[(0,Ent.mk true (pcell L) 5),(1,Ent.mk true [.sx 0 p] 0),(4,Ent.mk true (rcell (List.replicate p no6)) 0),(5,Ent.mk true [.sl 4 0 p p] 0),(9,Ent.mk true [.i (p:Int)] 0)],10⟩ 2000 [Eff.mk (.c (.sl 4 0 p p)) [] (some (4,Ent.mk true (rcell (List.replicate p no6)) 0)),Eff.mk (.c (.f 163 [9])) [] (some (9,Ent.mk true [.i (p:Int)] 0))] [] ([true]) [(1,2)] Tryz.func65 (by kernel_rfl) h (zac c0 (zab c1 zae)) lo hF rfl rfl
theorem yawy (h:(decide ((x:Int)<(p:Int))&&(Nat.ble ((x:Int).toNat*5+5) (pcell L).length&&(decide ((x:Int)≤(p:Int))&&decide ((p:Int)≤(p:Int))&&decide ((p:Int)≤(p:Int))&&decide ((x:Int)<(p:Int))&&(decide ((x:Int)<(p:Int))&&(Nat.ble ((x:Int).toNat*5+5) (pcell L).length&&(decide ((elt L x).op≤10)&&(decide ((x:Int)<(p:Int))&&(AC.isI ((pcell L)[(x:Int).toNat*5+1]?.getD (.b false))&&Nat.blt ((x:Int).toNat*5+1) (pcell L).length&&(decide (0≤(elt L x).d)&&decide ((elt L x).d<6)&&(AC.isB ((bcs b)[((elt L x).d).toNat*1]?.getD (.b false))&&Nat.blt (((elt L x).d).toNat*1) (bcs b).length&&(!b.get ((elt L x).d).toNat&&(decide ((x:Int)<(p:Int))&&(Nat.ble ((x:Int).toNat*5+5) (pcell L).length&&true&&(decide ((x:Int)<(p:Int))&&(Nat.ble ((x:Int).toNat*5+5) (pcell (L.set x onI)).length&&(decide ((x:Int)<(p:Int))&&(Nat.ble (0+(x:Int).toNat*6+(bcs a1).length) (rcell A).length&&true&&true)))))))))))))))))=true) (c0:pe (.ag (((pcell L).drop ((x:Int).toNat*5)).take 5))=pe (.ag (elt L x).cs)) (c1:pe (.c (.sl 4 (0+(x:Int).toNat*6) (((p:Int)).toNat - (x:Int).toNat) (((p:Int)).toNat - (x:Int).toNat)))=pe (.c (.sl 4 (x*6) (p - x) (p - x)))) (c2:CO 119 [.ag (elt L x).cs,.c (.sl 4 (x*6) (p - x) (p - x))] [(4,Ent.mk true (rcell A) 0)] (pe (.ag (bcs b)))) (c3:pe (.ag (((pcell L).drop ((x:Int).toNat*5)).take 5))=pe (.ag (elt L x).cs)) (c4:Ok 120 [.ag (elt L x).cs] (.c (.b (decide ((elt L x).op≤10))))) (c5:pe (.c (.i (AC.asI ((pcell L)[(x:Int).toNat*5+1]?.getD (.b false)))))=pe (.c (.i (elt L x).d))) (c6:pe (.c (.b (AC.asB ((bcs b)[((elt L x).d).toNat*1]?.getD (.b false)))))=pe (.c (.b (b.get ((elt L x).d).toNat)))) (c7:Ok 115 [] (.ag onI.cs)) (c8:we 0 (splice (pcell L) ((x:Int).toNat*5) onI.cs)=we 0 (pcell (L.set x onI))) (c9:pe (.ag (((pcell (L.set x onI)).drop ((x:Int).toNat*5)).take 5))=pe (.ag onI.cs)) (c10:Ok 121 [.ag onI.cs,.ag (bcs b)] (.ag (bcs a1))) (c11:we 4 (splice (rcell A) (0+(x:Int).toNat*6) (bcs a1))=we 4 (rcell (A.set x a1))) (lo:Kn.Low ⟨[(1,.c (.w 1)),(2,.c (.w 5))],[(0,Ent.mk true (pcell (L.set x onI)) 0),(1,Ent.mk true [.sx 0 p] 0),(4,Ent.mk true (rcell (A.set x a1)) 0),(5,Ent.mk true [.sl 4 0 p p] 0)],10⟩) (hF:∀ k,C.F k→k<10) :
  znk Tryz.prog C Tryz.f65.ntmps ([Item.code (yaee Tryz.f65),Item.inLoop Code.skip]) (Kn.mk [(1,.c (.w 1)),(2,.c (.w 5)),(3,.c (.i (x:Int)))] [(0,Ent.mk true (pcell L) r),(1,Ent.mk true [.sx 0 p] 0),(4,Ent.mk true (rcell A) 0),(5,Ent.mk true [.sl 4 0 p p] 0)] 10) ⟨[(1,.c (.w 1)),(2,.c (.w 5))],[(0,Ent.mk true (pcell (L.set x onI)) 0),(1,Ent.mk true [.sx 0 p] 0),(4,Ent.mk true (rcell (A.set x a1)) 0),(5,Ent.mk true [.sl 4 0 p p] 0)],10⟩ :=
 zqv ⟨[(1,.c (.w 1)),(2,.c (.w 5))],[(0,Ent.mk true (pcell (L.set x onI)) 0),(1,Ent.mk true [.sx 0 p] 0),(4,Ent.mk true (rcell (A.set x a1)) 0),(5,Ent.mk true [.sl 4 0 p p] 0)],10⟩ 2000 [pe (.ag (elt L x).cs),pe (.c (.sl 4 (x*6) (p - x) (p - x))),pe (.ag (bcs b)),pe (.ag (elt L x).cs),pe (.c (.b (decide ((elt L x).op≤10)))),pe (.c (.i (elt L x).d)),pe (.c (.b (b.get ((elt L x).d).toNat))),pe (.ag onI.cs),we 0 (pcell (L.set x onI)),pe (.ag onI.cs),pe (.ag (bcs a1)),we 4 (rcell (A.set x a1))] [true,true] ([true]) [(4,3),(4,6),(5,3),(5,10),(5,12),(6,4),(7,5),(7,9)] Tryz.func65 (by kernel_rfl) h (zac c0 (zac c1 (zab c2 (zac c3 (zab c4 (zac c5 (zac c6 (zab c7 (zac c8 (zac c9 (zab c10 (zac c11 zae)))))))))))) lo hF rfl rfl
theorem yazm (h:(decide ((x:Int)<(p:Int))&&(Nat.ble ((x:Int).toNat*5+5) (pcell L).length&&(decide ((x:Int)≤(p:Int))&&decide ((p:Int)≤(p:Int))&&decide ((p:Int)≤(p:Int))&&decide ((x:Int)<(p:Int))&&(decide ((x:Int)<(p:Int))&&(Nat.ble ((x:Int).toNat*5+5) (pcell L).length&&(decide ((elt L x).op≤10)&&(decide ((x:Int)<(p:Int))&&(AC.isI ((pcell L)[(x:Int).toNat*5+1]?.getD (.b false))&&Nat.blt ((x:Int).toNat*5+1) (pcell L).length&&(decide (0≤(elt L x).d)&&decide ((elt L x).d<6)&&(AC.isB ((bcs b)[((elt L x).d).toNat*1]?.getD (.b false))&&Nat.blt (((elt L x).d).toNat*1) (bcs b).length&&(!!b.get ((elt L x).d).toNat&&(decide ((x:Int)<(p:Int))&&(Nat.ble ((x:Int).toNat*5+5) (pcell L).length&&(decide ((x:Int)<(p:Int))&&(Nat.ble (0+(x:Int).toNat*6+(bcs a1).length) (rcell A).length&&true&&true)))))))))))))))=true) (c0:pe (.ag (((pcell L).drop ((x:Int).toNat*5)).take 5))=pe (.ag (elt L x).cs)) (c1:pe (.c (.sl 4 (0+(x:Int).toNat*6) (((p:Int)).toNat - (x:Int).toNat) (((p:Int)).toNat - (x:Int).toNat)))=pe (.c (.sl 4 (x*6) (p - x) (p - x)))) (c2:CO 119 [.ag (elt L x).cs,.c (.sl 4 (x*6) (p - x) (p - x))] [(4,Ent.mk true (rcell A) 0)] (pe (.ag (bcs b)))) (c3:pe (.ag (((pcell L).drop ((x:Int).toNat*5)).take 5))=pe (.ag (elt L x).cs)) (c4:Ok 120 [.ag (elt L x).cs] (.c (.b (decide ((elt L x).op≤10))))) (c5:pe (.c (.i (AC.asI ((pcell L)[(x:Int).toNat*5+1]?.getD (.b false)))))=pe (.c (.i (elt L x).d))) (c6:pe (.c (.b (AC.asB ((bcs b)[((elt L x).d).toNat*1]?.getD (.b false)))))=pe (.c (.b (b.get ((elt L x).d).toNat)))) (c7:pe (.ag (((pcell L).drop ((x:Int).toNat*5)).take 5))=pe (.ag (elt L x).cs)) (c8:Ok 121 [.ag (elt L x).cs,.ag (bcs b)] (.ag (bcs a1))) (c9:we 4 (splice (rcell A) (0+(x:Int).toNat*6) (bcs a1))=we 4 (rcell (A.set x a1))) (lo:Kn.Low ⟨[(1,.c (.w 1)),(2,.c (.w 5))],[(0,Ent.mk true (pcell L) r),(1,Ent.mk true [.sx 0 p] 0),(4,Ent.mk true (rcell (A.set x a1)) 0),(5,Ent.mk true [.sl 4 0 p p] 0)],10⟩) (hF:∀ k,C.F k→k<10) :
  znk Tryz.prog C Tryz.f65.ntmps ([Item.code (yaee Tryz.f65),Item.inLoop Code.skip]) (Kn.mk [(1,.c (.w 1)),(2,.c (.w 5)),(3,.c (.i (x:Int)))] [(0,Ent.mk true (pcell L) r),(1,Ent.mk true [.sx 0 p] 0),(4,Ent.mk true (rcell A) 0),(5,Ent.mk true [.sl 4 0 p p] 0)] 10) ⟨[(1,.c (.w 1)),(2,.c (.w 5))],[(0,Ent.mk true (pcell L) r),(1,Ent.mk true [.sx 0 p] 0),(4,Ent.mk true (rcell (A.set x a1)) 0),(5,Ent.mk true [.sl 4 0 p p] 0)],10⟩ :=
 zqv ⟨[(1,.c (.w 1)),(2,.c (.w 5))],[(0,Ent.mk true (pcell L) r),(1,Ent.mk true [.sx 0 p] 0),(4,Ent.mk true (rcell (A.set x a1)) 0),(5,Ent.mk true [.sl 4 0 p p] 0)],10⟩ 2000 [pe (.ag (elt L x).cs),pe (.c (.sl 4 (x*6) (p - x) (p - x))),pe (.ag (bcs b)),pe (.ag (elt L x).cs),pe (.c (.b (decide ((elt L x).op≤10)))),pe (.c (.i (elt L x).d)),pe (.c (.b (b.get ((elt L x).d).toNat))),pe (.ag (elt L x).cs),pe (.ag (bcs a1)),we 4 (rcell (A.set x a1))] [true,false] ([true]) [(4,3),(4,6),(5,3),(5,10),(5,12),(6,4),(7,5),(7,9)] Tryz.func65 (by kernel_rfl) h (zac c0 (zac c1 (zab c2 (zac c3 (zab c4 (zac c5 (zac c6 (zac c7 (zab c8 (zac c9 zae)))))))))) lo hF rfl rfl
theorem yaw2 (h:(decide ((x:Int)<(p:Int))&&(Nat.ble ((x:Int).toNat*5+5) (pcell L).length&&(decide ((x:Int)≤(p:Int))&&decide ((p:Int)≤(p:Int))&&decide ((p:Int)≤(p:Int))&&decide ((x:Int)<(p:Int))&&(decide ((x:Int)<(p:Int))&&(Nat.ble ((x:Int).toNat*5+5) (pcell L).length&&(!decide ((elt L x).op≤10)&&(decide ((x:Int)<(p:Int))&&(Nat.ble ((x:Int).toNat*5+5) (pcell L).length&&(decide ((x:Int)<(p:Int))&&(Nat.ble (0+(x:Int).toNat*6+(bcs a1).length) (rcell A).length&&true&&true))))))))))=true) (c0:pe (.ag (((pcell L).drop ((x:Int).toNat*5)).take 5))=pe (.ag (elt L x).cs)) (c1:pe (.c (.sl 4 (0+(x:Int).toNat*6) (((p:Int)).toNat - (x:Int).toNat) (((p:Int)).toNat - (x:Int).toNat)))=pe (.c (.sl 4 (x*6) (p - x) (p - x)))) (c2:CO 119 [.ag (elt L x).cs,.c (.sl 4 (x*6) (p - x) (p - x))] [(4,Ent.mk true (rcell A) 0)] (pe (.ag (bcs b)))) (c3:pe (.ag (((pcell L).drop ((x:Int).toNat*5)).take 5))=pe (.ag (elt L x).cs)) (c4:Ok 120 [.ag (elt L x).cs] (.c (.b (decide ((elt L x).op≤10))))) (c5:pe (.ag (((pcell L).drop ((x:Int).toNat*5)).take 5))=pe (.ag (elt L x).cs)) (c6:Ok 121 [.ag (elt L x).cs,.ag (bcs b)] (.ag (bcs a1))) (c7:we 4 (splice (rcell A) (0+(x:Int).toNat*6) (bcs a1))=we 4 (rcell (A.set x a1))) (lo:Kn.Low ⟨[(1,.c (.w 1)),(2,.c (.w 5))],[(0,Ent.mk true (pcell L) r),(1,Ent.mk true [.sx 0 p] 0),(4,Ent.mk true (rcell (A.set x a1)) 0),(5,Ent.mk true [.sl 4 0 p p] 0)],10⟩) (hF:∀ k,C.F k→k<10) :
  znk Tryz.prog C Tryz.f65.ntmps ([Item.code (yaee Tryz.f65),Item.inLoop Code.skip]) (Kn.mk [(1,.c (.w 1)),(2,.c (.w 5)),(3,.c (.i (x:Int)))] [(0,Ent.mk true (pcell L) r),(1,Ent.mk true [.sx 0 p] 0),(4,Ent.mk true (rcell A) 0),(5,Ent.mk true [.sl 4 0 p p] 0)] 10) ⟨[(1,.c (.w 1)),(2,.c (.w 5))],[(0,Ent.mk true (pcell L) r),(1,Ent.mk true [.sx 0 p] 0),(4,Ent.mk true (rcell (A.set x a1)) 0),(5,Ent.mk true [.sl 4 0 p p] 0)],10⟩ :=
 zqv ⟨[(1,.c (.w 1)),(2,.c (.w 5))],[(0,Ent.mk true (pcell L) r),(1,Ent.mk true [.sx 0 p] 0),(4,Ent.mk true (rcell (A.set x a1)) 0),(5,Ent.mk true [.sl 4 0 p p] 0)],10⟩ 2000 [pe (.ag (elt L x).cs),pe (.c (.sl 4 (x*6) (p - x) (p - x))),pe (.ag (bcs b)),pe (.ag (elt L x).cs),pe (.c (.b (decide ((elt L x).op≤10)))),pe (.ag (elt L x).cs),pe (.ag (bcs a1)),we 4 (rcell (A.set x a1))] [false,false] ([true]) [(4,3),(4,6),(5,3),(5,10),(5,12),(6,4),(7,5),(7,9)] Tryz.func65 (by kernel_rfl) h (zac c0 (zac c1 (zab c2 (zac c3 (zab c4 (zac c5 (zab c6 (zac c7 zae)))))))) lo hF rfl rfl
end
abbrev rdH (L:List Ins) (A:List (V6 Bool)) (p r:Nat):List (Nat×Ent):=[(0,⟨true,pcell L,r⟩),(1,⟨true,[.sx 0 p],0⟩),(4,⟨true,rcell A,0⟩),(5,⟨true,[.sl 4 0 p p],0⟩)]
abbrev rdKn (L:List Ins) (A:List (V6 Bool)) (p r x:Nat):Kn:=⟨[(1,.c (.w 1)),(2,.c (.w 5)),(3,.c (.i (x:Int)))],rdH L A p r,10⟩
abbrev yasw (L:List Ins) (A:List (V6 Bool)) (p r:Nat):Kn:=⟨[(1,.c (.w 1)),(2,.c (.w 5))],rdH L A p r,10⟩
theorem zhp {L:List Ins} {A:List (V6 Bool)} {p r k:Nat} {e:Ent} (h:look (rdH L A p r) k=some e):(k=0∧e=⟨true,pcell L,r⟩)∨(k=1∧e=⟨true,[.sx 0 p],0⟩)∨(k=4∧e=⟨true,rcell A,0⟩)∨(k=5∧e=⟨true,[.sl 4 0 p p],0⟩):=by
 rw [zav] at h
 split at h
 ·rename_i hk;injection h with h;exact Or.inl ⟨hk,h.symm⟩
 ·rw [zav] at h
  split at h
  ·rename_i hk;injection h with h;exact Or.inr (Or.inl ⟨hk,h.symm⟩)
  ·rw [zav] at h
   split at h
   ·rename_i hk;injection h with h;exact Or.inr (Or.inr (Or.inl ⟨hk,h.symm⟩))
   ·exact Or.inr (Or.inr (Or.inr (zbg h)))
theorem zj1 {L:List Ins} {A:List (V6 Bool)} {p r k:Nat} {e:Ent} (h:look (rdH L A p r) k=some e):k<10∧∀ c,c∈e.cells→∀ j,j∈c.ks→j<10:=by
 rcases zhp h with ⟨rfl,rfl⟩ | ⟨rfl,rfl⟩ | ⟨rfl,rfl⟩ | ⟨rfl,rfl⟩
 ·exact ⟨by decide,fun c hc j hj=>(zeu (zaj L) hc hj).elim⟩
 ·refine ⟨by decide,fun c hc j hj=>?_⟩
  rw [List.mem_singleton.1 hc] at hj
  rw [List.mem_singleton.1 hj];decide
 ·exact ⟨by decide,fun c hc j hj=>(zeu (ze6 A) hc hj).elim⟩
 ·refine ⟨by decide,fun c hc j hj=>?_⟩
  rw [List.mem_singleton.1 hc] at hj
  rw [List.mem_singleton.1 hj];decide
theorem yar6 {T:List (Nat×AV)} {n:Nat} (h:(T.flatMap fun x=>x.2.ks).all (fun k=>Nat.blt k n)=true) (t:Nat) (v:AV) (hv:look T t=some v) (k:Nat) (hk:k∈v.ks):k<n:=by
 have h1:k∈T.flatMap fun x=>x.2.ks:=List.mem_flatMap.2 ⟨(t,v),zdq hv,hk⟩
 have h2:=List.all_eq_true.1 h k h1
 simpa using h2
theorem yaje (L:List Ins) (A:List (V6 Bool)) (p r:Nat):Kn.Low (yasw L A p r):=⟨yar6 rfl,fun _ _ h=>zj1 h⟩
theorem zuj {i:Ins} {A:List (V6 Bool)} {x c:Nat} (hx:x<A.length) (hA:A.length≤64) (hr:Right i ((A.length - 1 - x:Nat):Int)) (hl:i.op=15∨x+1<A.length) :
  CallOK Tryz.prog ⟨119,[.ag i.cs,.c (.sl 4 (x*6) (A.length - x) c)],[(4,⟨true,rcell A,0⟩)],⟨.ag (bcs (zcj i A x)),[],none⟩⟩:=by
 refine CallOK.more (H:=[(4,⟨false,rcell A,0⟩)]) ?_ ⟨fun j en hj=>?_⟩
 ·refine ((zsn (c:=c) hx hA hr hl).ren (swp 0 4) (zbm 0 4)).congr ?_
  unfold CallRec.ren Eff.ren renH
  simp only [List.map_cons,List.map_nil,Option.map_none,Ent.ren,zck _ (ze6 _)]
  rfl
 ·obtain ⟨rfl,rfl⟩:=zbg hj
  exact ⟨⟨true,rcell A,0⟩,rfl,rfl,fun h=>(by cases h),Or.inl rfl⟩
theorem yaci {L:List Ins} {x:Nat} (h:x<L.length):L.set x (elt L x)=L:=by
 unfold elt
 rw [List.getD_eq_getElem?_getD,List.getElem?_eq_getElem h]
 exact List.set_getElem_self h
theorem yamy {n r x:Nat} {s:List Ins×List (V6 Bool)} (h:DOk n s) (hn:n≤64) (hx:x<n) {C:Cx} (hF:∀ k,C.F k→k<10) :
  ∃ r',znk Tryz.prog C Tryz.f65.ntmps [Item.code (yaee Tryz.f65),Item.inLoop Code.skip] (rdKn s.1 s.2 n r x) (yasw (zsz s x).1 (zsz s x).2 n r'):=by
 obtain ⟨L,A⟩:=s
 have h1:L.length=n:=h.l1
 have h2:A.length=n:=h.l2
 have hr:Right (elt L x) ((n - 1 - x:Nat):Int):=h.right x hx
 have hl:(elt L x).op=15∨x+1<n:=h.last x hx
 have hd:Right (zec (elt L x) (zcj (elt L x) A x)) ((n - 1 - x:Nat):Int):=by
  have:=(h.step hx).right x hx
  change Right (elt (L.set x _) x) _ at this
  rwa [znd (by omega),if_pos rfl] at this
 have cB:=zuj (i:=elt L x) (A:=A) (x:=x) (c:=n - x) (by omega) (by omega) (by rw [h2];exact hr) (by rw [h2];exact hl)
 rw [h2] at cB
 have cA:=zv1 hd (zcj (elt L x) A x)
 show ∃ r',znk _ _ _ _ _ (yasw (L.set x (zec (elt L x) (zcj (elt L x) A x))) (A.set x (zfh (zec (elt L x) (zcj (elt L x) A x)) (zcj (elt L x) A x))) n r')
 generalize zcj (elt L x) A x=b at *
 have d0:decide ((x:Int)<(n:Int))=true:=decide_eq_true (by omega)
 have d1:∀ M:List Ins,M.length=n→Nat.ble (Int.toNat (x:Int)*5+5) (pcell M).length=true:=fun M hM=>by rw [zat,hM,Nat.ble_eq];omega
 have d2:(decide ((x:Int)≤(n:Int))&&decide ((n:Int)≤(n:Int))&&decide ((n:Int)≤(n:Int))&&decide ((x:Int)<(n:Int)))=true:=by simp;omega
 have d3:∀ u:V6 Bool,(Nat.ble (0+Int.toNat (x:Int)*6+List.length (bcs u)) (rcell A).length&&true&&true)=true:=fun u=>by
  rw [show List.length (bcs u)=6 from rfl,zfk,Bool.and_true,Bool.and_true,Nat.ble_eq];omega
 have e0:∀ M:List Ins,M.length=n→Eff.mk (AV.ag (List.take 5 (List.drop (Int.toNat (x:Int)*5) (pcell M)))) [] none=Eff.mk (AV.ag (elt M x).cs) [] none:=fun M hM=>by rw [Int.toNat_natCast,zet (by omega)]
 have e1:Eff.mk (AV.c (AC.sl 4 (0+Int.toNat (x:Int)*6) (Int.toNat (n:Int) - Int.toNat (x:Int)) (Int.toNat (n:Int) - Int.toNat (x:Int)))) [] none=Eff.mk (AV.c (AC.sl 4 (x*6) (n - x) (n - x))) [] none:=by
  rw [Int.toNat_natCast,Int.toNat_natCast,Nat.zero_add]
 have e2:∀ u:V6 Bool,Eff.mk (AV.raw undef) [(4,splice (rcell A) (0+Int.toNat (x:Int)*6) (bcs u))] none=Eff.mk (AV.raw undef) [(4,rcell (A.set x u))] none:=fun u=>by rw [Nat.zero_add,Int.toNat_natCast,zts u (by omega)]
 have cS:=zx0 (elt L x)
 have hI:(elt L x).op≤10→(AC.isI (Option.getD (pcell L)[Int.toNat (x:Int)*5+1]? (AC.b false))&&Nat.blt (Int.toNat (x:Int)*5+1) (pcell L).length)=true∧Eff.mk (AV.c (AC.i (AC.asI (Option.getD (pcell L)[Int.toNat (x:Int)*5+1]? (AC.b false))))) [] none=Eff.mk (AV.c (AC.i (elt L x).d)) [] none:=fun _=>by
  have:(pcell L)[Int.toNat (x:Int)*5+1]?=some (AC.i (elt L x).d):=by
   have:=zet (L:=L) (k:=x) (by omega)
   have h3:=congrArg (fun l=>l[1]?) this
   simp only [List.getElem?_take,List.getElem?_drop] at h3
   rw [if_pos (by decide)] at h3
   rw [Int.toNat_natCast]
   exact h3
  rw [this]
  refine ⟨?_,rfl⟩
  rw [Bool.and_eq_true]
  refine ⟨rfl,?_⟩
  rw [zat,h1,Nat.blt_eq];omega
 by_cases ho:(elt L x).op≤10
 ·have hB:=yab7 hr ho
  obtain ⟨g1,g2⟩:=hI ho
  cases hg:b.get (elt L x).d.toNat with
  | false =>
   have eD:zec (elt L x) b=onI:=by unfold zec;rw [hg,decide_eq_true ho];rfl
   rw [eD] at cA ⊢
   have hs:elt (L.set x onI) x=onI:=by rw [znd (by omega),if_pos rfl]
   refine ⟨0,yawy (b:=b) (a1:=zfh onI b) (zaa d0 (zaa (d1 L h1) (zaa d2 (zaa d0 (zaa (d1 L h1) (zaa (decide_eq_true ho) (zaa d0 (zaa g1 (zaa hB (zaa (zl4 b hB) (zaa (by rw [hg];rfl) (zaa d0 (zaa (by rw [d1 L h1];rfl) (zaa d0 (zaa (d1 _ (by rw [List.length_set];exact h1)) (zaa d0 (d3 _))))))))))))))))) (e0 L h1) e1 cB (e0 L h1) cS g2 (zzj b hB) yaz4 (by rw [Int.toNat_natCast];exact congrArg (fun l=>Eff.mk (AV.raw undef) [(0,l)] none) (zjg (L:=L) onI (by omega))) ((e0 _ (by rw [List.length_set];exact h1)).trans (by rw [hs])) cA (e2 _) (yaje _ _ _ _) hF⟩
  | true =>
   have eD:zec (elt L x) b=elt L x:=by unfold zec;rw [hg,if_neg (by simp)]
   rw [eD] at cA ⊢
   rw [yaci (by omega)]
   exact ⟨r,yazm (b:=b) (a1:=zfh (elt L x) b) (zaa d0 (zaa (d1 L h1) (zaa d2 (zaa d0 (zaa (d1 L h1) (zaa (decide_eq_true ho) (zaa d0 (zaa g1 (zaa hB (zaa (zl4 b hB) (zaa (by rw [hg];rfl) (zaa d0 (zaa (d1 L h1) (zaa d0 (d3 _))))))))))))))) (e0 L h1) e1 cB (e0 L h1) cS g2 (zzj b hB) (e0 L h1) cA (e2 _) (yaje _ _ _ _) hF⟩
 ·have eD:zec (elt L x) b=elt L x:=by unfold zec;rw [decide_eq_false ho,if_neg (by simp)]
  rw [eD] at cA ⊢
  rw [yaci (by omega)]
  exact ⟨r,yaw2 (b:=b) (a1:=zfh (elt L x) b) (zaa d0 (zaa (d1 L h1) (zaa d2 (zaa d0 (zaa (d1 L h1) (zaa (by rw [decide_eq_false ho];rfl) (zaa d0 (zaa (d1 L h1) (zaa d0 (d3 _)))))))))) (e0 L h1) e1 cB (e0 L h1) cS (e0 L h1) cA (e2 _) (yaje _ _ _ _) hF⟩
end Go.Proofs.YtkigmocchaikgabGreatDoor
namespace Go.Proofs.YtkigmocchaikgabGreatDoor
open Go.RowKit Go.Shelf
def asR (fn:Func):Code :=
 match zdn fn with
 | .seq _ (.seq _ (.seq _ (.block _ (.rangeFunc _ _ c _))))=>c
 | c=>c
theorem yals {l m:Nat} {t:Array Value} {v:Value} {W:World} {K:Act→World→Prop} (h11:t[11]?=some v) (hK:K { tmps:=t.setIfInBounds 3 v,defers:=[] } W):(asR Tryz.f65).wpIn (FW (some l)) m Tryz.prog (Exit.then K (fun _ _ _=>False)) { tmps:=t,defers:=[] } W:=by
 have e:asR Tryz.f65=Code.region 3 #[{ dst:=some 3,op:=.assign (.tmp 11),type:=3,pos := "dead.go:16",after:=#[],guard:=none }] false:=by kernel_rfl
 rw [e]
 refine wpIn_region ?_
 simp [wpOpsIn,Oper.wpIn,Oper.uponIn,Region.wanted,Oper.semAt,execOp,go_sem,Act.put]
 rw [h11]
 exact hK
structure RI (β:Bs) (L:List Ins) (w1:World) (pre:List (Upto L.length)) (W:World):Prop where
 blk:∃ r,∀ k e,look (rdH (runD L (pre.map (·.1))).1 (runD L (pre.map (·.1))).2 L.length r) k=some e→Blk β W k e
 fr:Fr (fun B=>∃ k,k∈[0,1,4,5]∧B=(β k).1) w1 W
 gw:Gw W
theorem zv2 {L:List Ins} {A:List (V6 Bool)} {p r k:Nat} {e:Ent} (h:look (rdH L A p r) k=some e):k∈[0,1,4,5]:=by
 rcases zhp h with ⟨rfl,rfl⟩ | ⟨rfl,rfl⟩ | ⟨rfl,rfl⟩ | ⟨rfl,rfl⟩ <;> decide
theorem RI.below {β:Bs} {L:List Ins} {w1 W W':World} {pre:List (Upto L.length)} (h:RI β L w1 pre W) (hlt:∀ k,k∈[0,1,4,5]→(β k).1<w1.heap.size) (hb:Below w1.heap.size W W') (hng:ng≤w1.heap.size):RI β L w1 pre W':=by
 obtain ⟨r,hr⟩:=h.blk
 refine ⟨⟨r,fun k e he=>(hr k e he).congr rfl hb.size (hb.block _ (hlt k (zv2 he))) fun _ _ _ _=>rfl⟩,⟨hb.os.trans h.fr.os,hb.tape.trans h.fr.tape,hb.output.trans h.fr.output,Nat.le_trans h.fr.size hb.size,fun k hk hx=>(hb.block k hk).trans (h.fr.block k hk hx)⟩,h.gw.keep hb.size fun b hlt'=>hb.block b (Nat.lt_of_lt_of_le hlt' hng)⟩
theorem yapx {β:Bs} {a:Act} {x t:Nat} {v:AV} (h1:a.tmps[1]?=some ((AV.c (AC.w 1)).g β)) (h2:a.tmps[2]?=some ((AV.c (AC.w 5)).g β)) (h3:a.tmps[3]?=some (.int .i64 (x:Int))) (h:look [(1,AV.c (.w 1)),(2,.c (.w 5)),(3,.c (.i (x:Int)))] t=some v):a.tmps[t]?=some (v.g β):=by
 rw [zav] at h
 split at h
 ·rename_i hk;injection h with h;subst h;rw [hk];exact h1
 ·rw [zav] at h
  split at h
  ·rename_i hk;injection h with h;subst h;rw [hk];exact h2
  ·rw [zav] at h
   split at h
   ·rename_i hk;injection h with h;subst h;rw [hk];exact h3
   ·cases h
theorem RI.round {β:Bs} {L:List Ins} (hP:RightP L) {w1:World} {pre:List (Upto L.length)} {x:Upto L.length} {W:World} (h:RI β L w1 pre W) {a:Act} (hsz:a.tmps.size=Tryz.f65.ntmps) (hd:a.defers=[]) (h1:a.tmps[1]?=some ((AV.c (AC.w 1)).g β)) (h2:a.tmps[2]?=some ((AV.c (AC.w 5)).g β)) (h3:a.tmps[3]?=some (.int .i64 (x.1:Int)))
  (hlt:∀ k,k∈[0,1,4,5]→(β k).1<w1.heap.size) (hinj:∀ i j,i∈[0,1,4,5]→j∈[0,1,4,5]→i≠j→(β i).1≠(β j).1) (hng:∀ k,k∈[0,1,4,5]→ng≤(β k).1) (l m:Nat) :
  (yaee Tryz.f65).wpIn (FW (some l)) m Tryz.prog (ownPostG w1.heap.size (fun _ _=>True) (RI β L w1) (fun _ _ _=>False) (pre++[x]) W) a W:=by
 obtain ⟨r,hr⟩:=h.blk
 have hs:=yaiq hP (pre.map (·.1)) (fun y hy=>by obtain ⟨z,_,rfl⟩:=List.mem_map.1 hy;exact z.2)
 obtain ⟨r',hp⟩:=yamy (r:=r) hs hP.le x.2 (C:=cx W β 10 [0,1,4,5]) (fun k hk=>hk)
 unfold znk at hp
 simp only at hp
 have hrel:Rel (cx W β 10 [0,1,4,5]) Tryz.f65.ntmps β (fun k=>k<10) (rdKn (runD L (pre.map (·.1))).1 (runD L (pre.map (·.1))).2 L.length r x.1) a W :=
  ⟨hsz,hd,fun t v hv=>⟨yapx h1 h2 h3 hv,yar6 rfl t v hv⟩,fun k e he=>⟨(zj1 he).1,hr k e he,(zj1 he).2,fun _=>Or.inr ⟨⟨k,zv2 he,rfl⟩,hng k (zv2 he)⟩⟩,fun k e k' e' he he' hne _ _ _=>hinj k k' (zv2 he) (zv2 he') hne,Fr.refl _ _,fun k hk=>⟨hk,rfl⟩,h.gw,fun _ hb=>hb.2,h.gw.size⟩
 refine wpIn_mono (hp (some l) m β a W hrel) fun e a' W' hl=>?_
 obtain ⟨rfl,β',h'⟩:=hl
 have hfix:∀ k,k<10→β' k=β k:=fun k hk=>(h'.fix k hk).2
 refine ⟨⟨h'.frame.size,fun k o hB hk _=>?_⟩,trivial,⟨⟨r',fun k e he=>?_⟩,h.fr.trans (h'.frame.mono fun _ hB=>hB.1),h'.gd.now⟩⟩
 ·refine (h'.frame.block k (Array.getElem?_eq_some_iff.1 hk).1 ?_).trans hk
  rintro ⟨⟨j,hj,rfl⟩,_⟩
  have:=hlt j hj
  omega
 ·rw [List.map_append,List.map_cons,List.map_nil,zmy] at he
  exact (h'.blk k e he).2.1.congr (hfix k (zj1 he).1).symm (Nat.le_refl _) rfl fun c hc j hj=>(hfix j ((zj1 he).2 c hc j hj)).symm
theorem yay2 {L:List Ins} (hP:RightP L):CallOK Tryz.prog ⟨65,[.c (.sx 0 L.length)],[(0,⟨true,pcell L,5⟩)],⟨.tu [],[(0,pcell (ridR L).1)],none⟩⟩:=by
 have hpos:=hP.pos
 have hle:=hP.le
 refine ⟨⟨fun k hk=>(nomatch hk),fun k cs hm c hc j hj=>?_,fun _ _ h=>(nomatch h)⟩,fun k cs hm=>?_,fun β w hgw hgx hB hI=>?_⟩
 ·have:=List.mem_singleton.1 hm;injection this with _ h2;subst h2
  exact (zeu (zaj _) hc hj).elim
 ·have:=List.mem_singleton.1 hm;injection this with h1 _;subst h1
  exact ⟨⟨true,pcell L,5⟩,rfl,rfl,zlm hpos⟩
 have hrel:=zta (N:=Tryz.f65.ntmps) (args:=[.c (.sx 0 L.length)]) (zui (b:=true) (r:=5) (cs:=pcell L) rfl (zaj L)) (Nat.le_of_ble_eq_true rfl) hB hI (fun B=>(∃ k,k∈[0]∧B=(β k).1)∧ng≤B) (fun k e he hw=>by have:=hgx k e he hw;obtain ⟨rfl,_⟩:=zbg he;exact ⟨⟨0,by simp,rfl⟩,this⟩) hgw fun _ hb=>hb.2
 refine (callsIn_wide (n:=4)).1 (callsIn_of_wp_marks (c:=zdn Tryz.f65) Tryz.func65 rfl trivial ?_ rfl)
 have hb:zdn Tryz.f65=.seq (match yaox Tryz.f65 with | .seq x _=>x | c=>c) (.seq (match yaox Tryz.f65 with | .seq _ (.seq y _)=>y | c=>c) (.seq (match yaox Tryz.f65 with | .seq _ (.seq _ z)=>z | c=>c) (.block 0 (.rangeFunc (.tmp 10) #[11] (asR Tryz.f65) (yaee Tryz.f65))))):=by kernel_rfl
 rw [hb]
 have cF:CallOK Tryz.prog ⟨118,[.c (.i (L.length:Int))],[],⟨.c (.f 163 [9]),[],some (9,⟨true,[.i (L.length:Int)],0⟩)⟩⟩ :=
  ((zsh (L.length:Int)).ren (swp 0 9) (zbm 0 9)).congr rfl
 have hlow:Kn.Low ⟨[(1,AV.c (AC.w 1)),(2,AV.c (AC.w 5)),(10,AV.c (AC.f 163 [9]))],[(0,Ent.mk true (pcell L) 5),(1,Ent.mk true [AC.sx 0 L.length] 0),(4,Ent.mk true (rcell (List.replicate L.length no6)) 0),(5,Ent.mk true [AC.sl 4 0 L.length L.length] 0),(9,Ent.mk true [AC.i (L.length:Int)] 0)],10⟩:=by
  refine ⟨yar6 rfl,fun k e he=>?_⟩
  by_cases h9:k=9
  ·subst h9
   injection he with he;subst he
   refine ⟨show 9<10 by decide,fun c hc j hj=>?_⟩
   rw [List.mem_singleton.1 hc] at hj;cases hj
  ·refine zj1 (L:=L) (A:=List.replicate L.length no6) (p:=L.length) (r:=5) (e:=e) ?_
   simp only [zav] at he ⊢
   rw [if_neg h9] at he
   exact he
 have hhead:=yamu (L:=L) (p:=L.length) (C:=cx w β 1 [0]) (by simp;omega) (by rw [Int.toNat_natCast,← zpk];rfl) cF hlow (fun k hk=>Nat.lt_of_lt_of_le hk (by decide))
 refine hhead none 4 _ _ (fun β1 a w1 hr1=>?_) β _ w hrel
 have lift:∀ {k:Nat} {e:Ent},look (rdH L (List.replicate L.length no6) L.length 5) k=some e→look [(0,Ent.mk true (pcell L) 5),(1,Ent.mk true [AC.sx 0 L.length] 0),(4,Ent.mk true (rcell (List.replicate L.length no6)) 0),(5,Ent.mk true [AC.sl 4 0 L.length L.length] 0),(9,Ent.mk true [AC.i (L.length:Int)] 0)] k=some e:=fun {k e} he=>by
  rcases zhp he with ⟨rfl,rfl⟩ | ⟨rfl,rfl⟩ | ⟨rfl,rfl⟩ | ⟨rfl,rfl⟩ <;> rfl
 have cne:∀ {k:Nat} {e:Ent},look (rdH L (List.replicate L.length no6) L.length 5) k=some e→e.cells≠[]:=fun {k e} he=>by
  rcases zhp he with ⟨rfl,rfl⟩ | ⟨rfl,rfl⟩ | ⟨rfl,rfl⟩ | ⟨rfl,rfl⟩
  ·exact zlm hpos
  ·exact List.cons_ne_nil _ _
  ·intro h0
   have:=congrArg List.length h0
   simp only [zfk,List.length_replicate,List.length_nil] at this
   omega
  ·exact List.cons_ne_nil _ _
 have hk:∀ k e,look (rdH L (List.replicate L.length no6) L.length 5) k=some e→Blk β1 w1 k e∧(w.heap.size≤(β1 k).1∨(β1 k).1=(β 0).1):=fun k e he=>by
  have hx:=hr1.blk k e (lift he)
  refine ⟨hx.2.1,?_⟩
  rcases hx.2.2.2 (by rcases zhp he with ⟨rfl,rfl⟩ | ⟨rfl,rfl⟩ | ⟨rfl,rfl⟩ | ⟨rfl,rfl⟩ <;> rfl) with h | ⟨⟨j,hj,h⟩,_⟩
  ·exact Or.inl h
  ·rw [List.mem_singleton.1 hj] at h;exact Or.inr h
 have hkk:∀ k,k∈[0,1,4,5]→∃ e,look (rdH L (List.replicate L.length no6) L.length 5) k=some e:=fun k hk=>by
  simp only [List.mem_cons,List.not_mem_nil,or_false] at hk
  rcases hk with rfl | rfl | rfl | rfl <;> exact ⟨_,rfl⟩
 have hlt:∀ k,k∈[0,1,4,5]→(β1 k).1<w1.heap.size:=fun k h=>by
  obtain ⟨e,he⟩:=hkk k h
  exact (hk k e he).1.lt
 have hinj:∀ i j,i∈[0,1,4,5]→j∈[0,1,4,5]→i≠j→(β1 i).1≠(β1 j).1:=fun i j hi hj hne=>by
  obtain ⟨e,he⟩:=hkk i hi
  obtain ⟨e',he'⟩:=hkk j hj
  refine hr1.inj i e j e' (lift he) (lift he') hne ?_ (cne he) (cne he')
  rcases zhp he with ⟨rfl,rfl⟩ | ⟨rfl,rfl⟩ | ⟨rfl,rfl⟩ | ⟨rfl,rfl⟩ <;> rfl
 have hng:∀ k,k∈[0,1,4,5]→ng≤(β1 k).1:=fun k h=>by
  obtain ⟨e,he⟩:=hkk k h
  rcases (hk k e he).2 with h1 | h1
  ·exact Nat.le_trans hgw.size h1
  ·rw [h1];exact hgx 0 _ rfl rfl
 have h9:=hr1.blk 9 _ rfl
 have t1:=(hr1.tmp 1 _ rfl).1
 have t2:=(hr1.tmp 2 _ rfl).1
 have h48:a.tmps.size=48:=hr1.size
 refine wpIn_block (wpIn_rangeFunc_ownG (F:=Fence.wide) (n:=4) (α:=Upto L.length) rfl (by decide) (gf:=163) (lb:=#[.pointer (some (ptr β1 9 0))]) ((hr1.ev (x:=.tmp 10) rfl).1) trivial (enters_of Tryz.func163 (by kernel_rfl) rfl) (ztr hpos hle 3 (ptr β1 9 0) (by decide) w1 h9.2.1.lt (h9.2.1.cell 0 _ rfl)) (fun _ _=>trivial) (fun _ _ _ _ _ _ _ _=>trivial) (Below.refl _ _) (fun _=>rfl) (RI β1 L w1) (fun _ _ _=>False) ?own (fun _ _ _ _ _ h _ _=>h) ?h0 (fun x=>⟨(a.tmps.setIfInBounds 11 (.int .i64 (x.1:Int))).setIfInBounds 3 (.int .i64 (x.1:Int)),[]⟩) ?assign ?body ?done ?stop)
 case own=>exact fun s W W' row hs hg hr=>hs.below hlt ((Below.refl _ W).grown hg hs.fr.size (fun k e=>(hr k e).1)) hr1.gd.now.size
 case h0=>exact ⟨⟨5,fun k e he=>(hk k e he).1⟩,Fr.refl _ _,hr1.gd.now⟩
 case assign =>
  intro l x W K hK
  have e:Array.foldl (fun t (x:Tmp×Value)=>match x with | (p,v)=>t.setIfInBounds p v) a.tmps (#[11].zip (encN x))=a.tmps.setIfInBounds 11 (.int .i64 (x.1:Int)):=by simp [encN]
  have:=yals (l:=l) (m:=2) (t:=a.tmps.setIfInBounds 11 (.int .i64 (x.1:Int))) (v:=.int .i64 (x.1:Int)) (W:=W) (K:=K) (by simp [h48]) hK
  rw [← e] at this
  exact this
 case body =>
  intro l pre x W hI hlen
  refine RI.round hP hI ?_ rfl ?_ ?_ ?_ hlt hinj hng l 2
  ·simp [h48]
  ·simp;exact t1
  ·simp;exact t2
  ·simp [h48]
 case done =>
  rintro D xs W hD rfl hI hK
  show LeavesInM Fence.wide 4 Tryz.prog Tryz.f65 a.tmps _ (_::a.defers) .returning W
  rw [hr1.defers]
  refine ⟨by simp,.inl ⟨_,_,rfl,run_takeDeferred hK,?_⟩⟩
  refine ⟨_,results_none rfl _ _ _,?_⟩
  have hw1:=hr1.frame.size
  have hW:=hI.fr.size
  have hne:∀ k,k<w1.heap.size→(W.putObj D (.deferred none)).heap[k]?=W.heap[k]?:=fun k hk=>World.putObj_heap_other (by omega)
  have hps:(W.putObj D (.deferred none)).heap.size=W.heap.size:=by simp [World.putObj]
  have b0:β1 0=β 0:=(hr1.fix 0 (show 0<1 by decide)).2
  refine ⟨β,rfl,⟨hI.fr.os.trans hr1.frame.os,hI.fr.tape.trans hr1.frame.tape,hI.fr.output.trans hr1.frame.output,by rw [hps];exact Nat.le_trans hw1 hW,fun k hkw hx=>?_⟩,fun k cs hm=>?_,rfl⟩
  ·have hx0:¬ k=(β 0).1:=fun e=>hx ⟨0,_,List.mem_singleton.2 rfl,e⟩
   refine (hne k (Nat.lt_of_lt_of_le hkw hw1)).trans ((hI.fr.block k (Nat.lt_of_lt_of_le hkw hw1) ?_).trans (hr1.frame.block k hkw ?_))
   ·rintro ⟨j,hj,rfl⟩
    obtain ⟨e,he⟩:=hkk j hj
    rcases (hk j e he).2 with h | h
    ·change w.heap.size≤_ at h
     exact absurd hkw (by change ¬ _<w.heap.size;omega)
    ·exact hx0 h
   ·rintro ⟨⟨j,hj,rfl⟩,_⟩
    rw [List.mem_singleton.1 hj] at hx0
    exact hx0 rfl
  ·have:=List.mem_singleton.1 hm
   injection this with h1 h2
   subst h1 h2
   obtain ⟨r,hr⟩:=hI.blk
   have hb:=hr 0 _ rfl
   have hm:(down L.length hpos L.length).map (·.1)=(List.range L.length).map fun j=>L.length - 1 - j:=by
    unfold down
    rw [List.map_map];rfl
   rw [hm,yaaj] at hb
   have hb':=hb.congr (β':=β) (w':=W.putObj D (.deferred none)) b0.symm (by rw [hps];exact Nat.le_refl _) (hne _ (hlt 0 (by decide))) fun c hc j hj=>(zeu (zaj _) hc hj).elim
   exact ⟨hb'.lt,hb'.cell,hb'.free,fun h=>absurd rfl h⟩
 case stop =>
  rintro D c pre W _ _ h _
  exact h.elim
end Go.Proofs.YtkigmocchaikgabGreatDoor
namespace Go.Proofs.YtkigmocchaikgabGreatDoor
open Go.RowKit
section
variable {L:List Ins} {c n q:Nat} {s s1:ByteArray} {x y:BitVec 64} {r1:Outc} {e f tr p n1:Int} {w:World} {β:Bs} {S:List St}
end
def zic (K n:Nat) (L:List Ins):Eff:=⟨.tu [.c (.sx K n),.c (.i 0)],[],some (K,⟨true,pcell L,0⟩)⟩
theorem zlz (ρ:Nat→Nat) (K n:Nat) (L:List Ins):(zic K n L).ren ρ=zic (ρ K) n L:=by
 unfold zic Eff.ren
 simp only [Option.map_some,Ent.ren,zck ρ (zaj L)]
 rfl
theorem zli {L:List Ins} {c:Nat} (hP:RightP L):CallOK Tryz.prog ⟨114,[.c (.sl 0 0 L.length c)],pH L,⟨.c (.sx 14 L.length),[],some (14,⟨true,pcell L,5⟩)⟩⟩:=by
 refine ((yak6 (c:=c) hP.pos hP.le).ren (swp 6 14) (zbm 6 14)).congr ?_
 unfold CallRec.ren Eff.ren renH
 simp only [List.map_cons,List.map_nil,Option.map_some,Ent.ren,zck _ (zaj _)]
 rfl
theorem yaqe {f n:Nat} {L M:List Ins} {S:List St} (h:CallOK Tryz.prog ⟨f,[.c (.sx 0 n),.c (.sl 1 0 n n)],[(0,⟨true,pcell L,5⟩),(1,⟨false,scell S,0⟩)],⟨.tu [],[(0,pcell M)],none⟩⟩) :
  CallOK Tryz.prog ⟨f,[.c (.sx 14 n),.c (.sl 4 0 n n)],[(14,⟨true,pcell L,5⟩),(4,⟨true,scell S,0⟩)],⟨.tu [],[(14,pcell M)],none⟩⟩:=by
 refine CallOK.more (H:=[(14,⟨true,pcell L,5⟩),(4,⟨false,scell S,0⟩)]) ?_ ⟨fun j en hj=>?_⟩
 ·refine ((h.ren (swp 1 4) (zbm 1 4)).ren (swp 0 14) (zbm 0 14)).congr ?_
  unfold CallRec.ren Eff.ren renH
  simp only [List.map_cons,List.map_nil,Option.map_none,Ent.ren,zck _ (zaj _),zck _ (za8 _)]
  rfl
 ·rw [zav] at hj
  split at hj
  ·rename_i hk;injection hj with hj;subst hj hk
   exact ⟨⟨true,pcell L,5⟩,rfl,rfl,fun h=>h,Or.inr rfl⟩
  ·obtain ⟨rfl,rfl⟩:=zbg hj
   exact ⟨⟨true,scell S,0⟩,rfl,rfl,fun h=>(by cases h),Or.inl rfl⟩
theorem yamo {L:List Ins} {S:List St} (hP:RightP L):CallOK Tryz.prog ⟨64,[.c (.sx 0 L.length),.c (.sl 1 0 L.length L.length)],[(0,⟨true,pcell L,5⟩),(1,⟨false,scell S,0⟩)],⟨.tu [],[(0,pcell (ridR L).1)],none⟩⟩ :=
 yaqx Tryz.func64 rfl rfl rfl (zaj L) (za8 S) (zlm hP.pos) rfl (zaj _) fun _ _ hk=>yba4 (yay2 hP) hk
theorem yadg {L:List Ins} {c:Nat} (hL:zan L=0) (h0:(zar L).trap=0):CallOK Tryz.prog ⟨61,[.c (.sl 0 0 L.length c),.c (.f 62 [])],pH L,zic 14 L.length (zel L)⟩:=by
 have hP:=zbu hL
 have hout:=zhn hP
 have e:zel L=zci (zar L).sts L 0:=by unfold zel;rw [if_pos h0]
 rw [e]
 exact zcu Tryz.func61 rfl rfl rfl (zaj L) (by decide) rfl (zaj _) fun _ _ hk=>yamp (zjz hL h0 (by decide)) (zli hP) (yaqe (yaos hP (hout.none h0).2 hout.ok)) hk
theorem yaf6 {L:List Ins} {c:Nat} (hL:zan L=0) (h0:(zar L).trap=0):CallOK Tryz.prog ⟨61,[.c (.sl 0 0 L.length c),.c (.f 64 [])],pH L,zic 14 L.length (ze3 L)⟩:=by
 have hP:=zbu hL
 have e:ze3 L=(ridR L).1:=by unfold ze3;rw [if_pos h0]
 rw [e]
 exact zcu Tryz.func61 rfl rfl rfl (zaj L) (by decide) rfl (zaj _) fun _ _ hk=>yan7 (zjz hL h0 (by decide)) (zli hP) (yaqe (yamo hP)) hk
theorem toK {f a:Nat} {L M:List Ins} {n c:Nat} (h:CallOK Tryz.prog ⟨f,[.c (.sl 0 0 n c)],pH L,zic a n M⟩) (ha:a≠0) {K:Nat} (hK:K≠0):CallOK Tryz.prog ⟨f,[.c (.sl 0 0 n c)],pH L,zic K n M⟩:=by
 have h2:=h.ren (swp a K) (zbm a K)
 have e0:swp a K 0=0:=zfu (Ne.symm ha) (Ne.symm hK)
 unfold CallRec.ren at h2
 simp only [zlz,zek,zqa e0] at h2
 refine h2.congr ?_
 show CallRec.mk _ [AV.c (AC.sl 0 0 n c)] _ _=CallRec.mk _ [AV.c (AC.sl (swp a K 0) 0 n c)] _ _
 rw [e0]
theorem toK2 {f g a:Nat} {L M:List Ins} {n c:Nat} (h:CallOK Tryz.prog ⟨f,[.c (.sl 0 0 n c),.c (.f g [])],pH L,zic a n M⟩) (ha:a≠0) {K:Nat} (hK:K≠0):CallOK Tryz.prog ⟨f,[.c (.sl 0 0 n c),.c (.f g [])],pH L,zic K n M⟩:=by
 have h2:=h.ren (swp a K) (zbm a K)
 have e0:swp a K 0=0:=zfu (Ne.symm ha) (Ne.symm hK)
 unfold CallRec.ren at h2
 simp only [zlz,zek,zqa e0] at h2
 refine h2.congr ?_
 show CallRec.mk _ [AV.c (AC.sl 0 0 n c),AV.c (AC.f g [])] _ _=CallRec.mk _ [AV.c (AC.sl (swp a K 0) 0 n c),AV.c (AC.f g [])] _ _
 rw [e0]
theorem yaus {L:List Ins} {c:Nat} (hL:zan L=0) (h0:(zar L).trap=0) {K:Nat} (hK:K≠0):CallOK Tryz.prog ⟨25,[.c (.sl 0 0 L.length c)],pH L,zic K L.length (zel L)⟩ :=
 toK (a:=4) (zcu Tryz.func25 rfl rfl rfl (zaj L) (by decide) rfl (zaj _) fun _ _ hk=>yaqm (toK2 (yadg hL h0) (by decide) (by decide)) hk) (by decide) hK
theorem yavh {L:List Ins} {c:Nat} (hL:zan L=0) (h0:(zar L).trap=0) {K:Nat} (hK:K≠0):CallOK Tryz.prog ⟨26,[.c (.sl 0 0 L.length c)],pH L,zic K L.length (ze3 L)⟩ :=
 toK (a:=4) (zcu Tryz.func26 rfl rfl rfl (zaj L) (by decide) rfl (zaj _) fun _ _ hk=>yaqc (toK2 (yaf6 hL h0) (by decide) (by decide)) hk) (by decide) hK
theorem yaul:(zar fL).trap=0:=by kernel_rfl
theorem yars:zel fL=fF:=by kernel_rfl
theorem yas9:ze3 fF=fD:=by kernel_rfl
theorem zux (L:List Ins):(zel L).length=L.length:=by
 unfold zel
 split
 ·exact (zgf _ L 0).1
 ·rfl
theorem zu0 (L:List Ins):(ze3 L).length=L.length:=by
 unfold ze3
 split
 ·exact (znh L).1
 ·rfl
theorem yal3 {L:List Ins} {c:Nat} (hL:zan L=0) {K:Nat} (hK:K≠0):CallOK Tryz.prog ⟨25,[.c (.sl 0 0 L.length c)],pH L,zic K L.length (zel L)⟩:=by
 by_cases h0:(zar L).trap=0
 ·exact yaus hL h0 hK
 ·have hP:=zbu hL
  have e:zel L=L:=by unfold zel;rw [if_neg h0]
  rw [e]
  have ch:CallOK Tryz.prog ⟨61,[.c (.sl 0 0 L.length c),.c (.f 62 [])],pH L,zic 14 L.length L⟩:=zjd (r:=5) (zcu Tryz.func61 rfl rfl rfl (zaj L) (by decide) rfl (zaj _) fun _ _ hk=>yan5 (zaa (by simpa using h0) rfl) (zjq hL h0 (by decide)) (zli hP) hk)
  exact toK (a:=4) (zcu Tryz.func25 rfl rfl rfl (zaj L) (by decide) rfl (zaj _) fun _ _ hk=>yaqm (toK2 ch (by decide) (by decide)) hk) (by decide) hK
theorem yapf {L:List Ins} {c:Nat} (hL:zan L=0) {K:Nat} (hK:K≠0):CallOK Tryz.prog ⟨26,[.c (.sl 0 0 L.length c)],pH L,zic K L.length (ze3 L)⟩:=by
 by_cases h0:(zar L).trap=0
 ·exact yavh hL h0 hK
 ·have hP:=zbu hL
  have e:ze3 L=L:=by unfold ze3;rw [if_neg h0]
  rw [e]
  have ch:CallOK Tryz.prog ⟨61,[.c (.sl 0 0 L.length c),.c (.f 64 [])],pH L,zic 14 L.length L⟩:=zjd (r:=5) (zcu Tryz.func61 rfl rfl rfl (zaj L) (by decide) rfl (zaj _) fun _ _ hk=>yaoe (zaa (by simpa using h0) rfl) (zjq hL h0 (by decide)) (zli hP) hk)
  exact toK (a:=4) (zcu Tryz.func26 rfl rfl rfl (zaj L) (by decide) rfl (zaj _) fun _ _ hk=>yaqc (toK2 ch (by decide) (by decide)) hk) (by decide) hK
end Go.Proofs.YtkigmocchaikgabGreatDoor
