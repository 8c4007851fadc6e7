import Derived.Test.YtkigmocchaikgabGreatDoorProg
import Derived.WalkKit
import Derived.Below
import Derived.Lib.LaidTab
import Derived.Shelf.Strconv.Itoa1
import Derived.Test.YtkigmocchaikgabGreatDoorDj1
import Derived.BigQuiet
import Derived.Laws.IdiomCopy
import Derived.Laws.Cover3
import Derived.DeepKeys
/- What every call may rely on of the library's variables: what they hold. -/
namespace Go.Proofs.YtkigmocchaikgabGreatDoor
open Go.RowKit
def ng:Nat:=8
structure Gw (w:World):Prop where
 most:∃ m,w.cell? ⟨1,0,none⟩=some (.int .i64 m)
 syn:∃ t p,w.cell? ⟨6,0,none⟩=some (.iface t p)
 rng:∃ t p,w.cell? ⟨7,0,none⟩=some (.iface t p)
 tab:Lib.TabIs Tryz.prog w "internal/strconv.uint64pow10" .u64 Lib.pow10Tab
 size':8≤w.heap.size
theorem Gw.size {w:World} (h:Gw w):ng≤w.heap.size:=h.size'
theorem yaj3 {P:Program} {w w':World} {n:String} {g:Nat} (hg:P.globalNamed n=some g) (h:w'.heap[g]?=w.heap[g]?):w'.var? P n=w.var? P n:=by
 simp [World.var?,hg,h]
theorem Gw.keep {w w':World} (h:Gw w) (hs:w.heap.size≤w'.heap.size) (hb:∀ b,b<ng→w'.heap[b]?=w.heap[b]?):Gw w':=by
 obtain ⟨m,hm⟩:=h.most
 obtain ⟨t1,p1,h1⟩:=h.syn
 obtain ⟨t2,p2,h2⟩:=h.rng
 refine ⟨⟨m,?_⟩,⟨t1,p1,?_⟩,⟨t2,p2,?_⟩,?_,Nat.le_trans h.size' hs⟩
 ·rw [World.cell?_of_block (w:=w) (a:=⟨1,0,none⟩) (hb 1 (by decide))];exact hm
 ·rw [World.cell?_of_block (w:=w) (a:=⟨6,0,none⟩) (hb 6 (by decide))];exact h1
 ·rw [World.cell?_of_block (w:=w) (a:=⟨7,0,none⟩) (hb 7 (by decide))];exact h2
 ·have:=h.tab
  unfold Lib.TabIs at this ⊢
  rw [← this]
  exact yaj3 (g:=0) (by kernel_rfl) (hb 0 (by decide))
theorem Gw.below {w w':World} {B:Nat} (h:Gw w) (hb:Below B w w') (hB:8≤B):Gw w':=h.keep hb.size fun b hlt=>hb.block b (Nat.lt_of_lt_of_le hlt hB)
abbrev AC:=Sum (Sum (BitVec 64) Int) (Sum (Sum Bool ByteArray) (Sum (Sum Nat (Nat×Nat)) (Sum (BitVec 8) (Sum (Nat×Nat×Nat×Nat) (Sum (Nat×List Nat) (Sum (Nat×Nat) {x:Value // x.oneCell'=true}))))))
abbrev AC.u (x:BitVec 64):AC:=(Sum.inl (Sum.inl x))
abbrev AC.i (n:Int):AC:=(Sum.inl (Sum.inr n))
abbrev AC.b (x:Bool):AC:=(Sum.inr (Sum.inl (Sum.inl x)))
abbrev AC.s (x:ByteArray):AC:=(Sum.inr (Sum.inl (Sum.inr x)))
abbrev AC.w (k:Nat):AC:=(Sum.inr (Sum.inr (Sum.inl (Sum.inl k))))
abbrev AC.p (k o:Nat):AC:=(Sum.inr (Sum.inr (Sum.inl (Sum.inr (k,o)))))
abbrev AC.y (x:BitVec 8):AC:=(Sum.inr (Sum.inr (Sum.inr (Sum.inl x))))
abbrev AC.sl (k o n c:Nat):AC:=(Sum.inr (Sum.inr (Sum.inr (Sum.inr (Sum.inl (k,o,n,c))))))
abbrev AC.f (g:Nat) (cap:List Nat):AC:=(Sum.inr (Sum.inr (Sum.inr (Sum.inr (Sum.inr (Sum.inl (g,cap)))))))
abbrev AC.sx (k n:Nat):AC:=(Sum.inr (Sum.inr (Sum.inr (Sum.inr (Sum.inr (Sum.inr (Sum.inl (k,n))))))))
abbrev AC.v (x:Value) (h:x.oneCell'=true):AC:=(Sum.inr (Sum.inr (Sum.inr (Sum.inr (Sum.inr (Sum.inr (Sum.inr ⟨x,h⟩)))))))
abbrev AT:=Sum AC (List AC)
abbrev AT.c (x:AC):AT:=(Sum.inl x)
abbrev AT.ag (l:List AC):AT:=(Sum.inr l)
abbrev AV:=Sum AC (Sum (List AC) (Sum (List AT) Value))
abbrev AV.c (x:AC):AV:=(Sum.inl x)
abbrev AV.ag (l:List AC):AV:=(Sum.inr (Sum.inl l))
abbrev AV.tu (l:List AT):AV:=(Sum.inr (Sum.inr (Sum.inl l)))
abbrev AV.raw (x:Value):AV:=(Sum.inr (Sum.inr (Sum.inr x)))
abbrev Bs:=Nat→Nat×Nat×Nat
def ptr (β:Bs) (k o:Nat):Addr:=⟨(β k).1,(β k).2.1+o,none⟩
def AC.g (β:Bs):AC→Value
 | (Sum.inl (Sum.inl x))=>.int .u64 (nv x)
 | (Sum.inl (Sum.inr n))=>.int .i64 n
 | (Sum.inr (Sum.inl (Sum.inl x)))=>.bool x
 | (Sum.inr (Sum.inl (Sum.inr x)))=>.string x
 | (Sum.inr (Sum.inr (Sum.inl (Sum.inl k))))=>.pointer (some (ptr β k 0))
 | (Sum.inr (Sum.inr (Sum.inl (Sum.inr (k,o)))))=>.pointer (some (ptr β k o))
 | (Sum.inr (Sum.inr (Sum.inr (Sum.inl x))))=>.int .u8 (x.toNat:Int)
 | (Sum.inr (Sum.inr (Sum.inr (Sum.inr (Sum.inl (k,o,n,c))))))=>.slice (some (ptr β k o)) n c
 | (Sum.inr (Sum.inr (Sum.inr (Sum.inr (Sum.inr (Sum.inl (g,cap)))))))=>.func (.func g) #[] (cap.map fun k=>Value.pointer (some (ptr β k 0))).toArray
 | (Sum.inr (Sum.inr (Sum.inr (Sum.inr (Sum.inr (Sum.inr (Sum.inl (k,n))))))))=>.slice (some (ptr β k 0)) n (β k).2.2
 | (Sum.inr (Sum.inr (Sum.inr (Sum.inr (Sum.inr (Sum.inr (Sum.inr ⟨x,_⟩)))))))=>x
def AT.g (β:Bs):AT→Value
 | (Sum.inl x)=>AC.g β x
 | (Sum.inr l)=>.agg (l.map (AC.g β)).toArray
def AV.g (β:Bs):AV→Value
 | (Sum.inl x)=>AC.g β x
 | (Sum.inr (Sum.inl l))=>.agg (l.map (AC.g β)).toArray
 | (Sum.inr (Sum.inr (Sum.inl l)))=>.tuple (l.map (AT.g β)).toArray
 | (Sum.inr (Sum.inr (Sum.inr x)))=>x
def AC.ks:AC→List Nat
 | (Sum.inr (Sum.inr (Sum.inl (Sum.inl k))))=>[k]
 | (Sum.inr (Sum.inr (Sum.inl (Sum.inr (k,_)))))=>[k]
 | (Sum.inr (Sum.inr (Sum.inr (Sum.inr (Sum.inl (k,_,_,_))))))=>[k]
 | (Sum.inr (Sum.inr (Sum.inr (Sum.inr (Sum.inr (Sum.inl (_,cap)))))))=>cap
 | (Sum.inr (Sum.inr (Sum.inr (Sum.inr (Sum.inr (Sum.inr (Sum.inl (k,_))))))))=>[k]
 | _=>[]
def AT.ks:AT→List Nat
 | (Sum.inl x)=>AC.ks x
 | (Sum.inr l)=>l.flatMap AC.ks
def AV.ks:AV→List Nat
 | (Sum.inl x)=>AC.ks x
 | (Sum.inr (Sum.inl l))=>l.flatMap AC.ks
 | (Sum.inr (Sum.inr (Sum.inl l)))=>l.flatMap AT.ks
 | _=>[]
theorem AC.tells {P:AC→Prop} (x:AC) (u:∀ x,P (.u x)) (i:∀ n,P (.i n)) (b:∀ x,P (.b x)) (s:∀ x,P (.s x)) (w:∀ k,P (.w k)) (p:∀ k o,P (.p k o)) (y:∀ x,P (.y x)) (sl:∀ k o n c,P (.sl k o n c)) (f:∀ g cap,P (.f g cap)) (sx:∀ k n,P (.sx k n)) (v:∀ x h,P (.v x h)):P x :=
 match x with
 | (Sum.inl (Sum.inl x))=>u x
 | (Sum.inl (Sum.inr x))=>i x
 | (Sum.inr (Sum.inl (Sum.inl x)))=>b x
 | (Sum.inr (Sum.inl (Sum.inr x)))=>s x
 | (Sum.inr (Sum.inr (Sum.inl (Sum.inl x))))=>w x
 | (Sum.inr (Sum.inr (Sum.inl (Sum.inr (k,o)))))=>p k o
 | (Sum.inr (Sum.inr (Sum.inr (Sum.inl x))))=>y x
 | (Sum.inr (Sum.inr (Sum.inr (Sum.inr (Sum.inl (k,o,n,c))))))=>sl k o n c
 | (Sum.inr (Sum.inr (Sum.inr (Sum.inr (Sum.inr (Sum.inl (g,c)))))))=>f g c
 | (Sum.inr (Sum.inr (Sum.inr (Sum.inr (Sum.inr (Sum.inr (Sum.inl (k,n))))))))=>sx k n
 | (Sum.inr (Sum.inr (Sum.inr (Sum.inr (Sum.inr (Sum.inr (Sum.inr ⟨x,h⟩)))))))=>v x h
theorem AT.tells {P:AT→Prop} (x:AT) (c:∀ x,P (.c x)) (ag:∀ l,P (.ag l)):P x :=
 match x with
 | (Sum.inl x)=>c x
 | (Sum.inr l)=>ag l
theorem AV.tells {P:AV→Prop} (x:AV) (c:∀ x,P (.c x)) (ag:∀ l,P (.ag l)) (tu:∀ l,P (.tu l)) (raw:∀ x,P (.raw x)):P x :=
 match x with
 | (Sum.inl x)=>c x
 | (Sum.inr (Sum.inl l))=>ag l
 | (Sum.inr (Sum.inr (Sum.inl l)))=>tu l
 | (Sum.inr (Sum.inr (Sum.inr x)))=>raw x
theorem AC.one (β:Bs) (x:AC):(AC.g β x).oneCell'=true:=by
 unfold AC.g
 split <;> first | rfl | (rename_i h;exact h)
def look {α:Type}:List (Nat×α)→Nat→Option α
 | [],_=>none
 | (j,x)::l,i=>cond (Nat.beq i j) (some x) (look l i)
theorem zav {α:Type} (j:Nat) (x:α) (l:List (Nat×α)) (i:Nat):look ((j,x)::l) i=if i=j then some x else look l i:=by
 show cond (Nat.beq i j) (some x) (look l i)=_
 by_cases h:i=j
 ·subst h;simp
 ·have:Nat.beq i j=false:=by
   cases hb:Nat.beq i j with
   | false=>rfl
   | true=>exact absurd (Nat.eq_of_beq_eq_true hb) h
  simp [this,h]
structure Ent where
 wr:Bool
 cells:List AC
 room:Nat
structure Kn where
 T:List (Nat×AV)
 H:List (Nat×Ent)
 n:Nat
structure Fr (X:Nat→Prop) (w0 w:World):Prop where
 os:w.os=w0.os
 tape:w.tape=w0.tape
 output:w.output=w0.output
 size:w0.heap.size≤w.heap.size
 block:∀ k,k<w0.heap.size→¬ X k→w.heap[k]?=w0.heap[k]?
theorem Fr.refl (X:Nat→Prop) (w:World):Fr X w w:=⟨rfl,rfl,rfl,Nat.le_refl _,fun _ _ _=>rfl⟩
theorem Fr.trans {X:Nat→Prop} {a b c:World} (h:Fr X a b) (k:Fr X b c):Fr X a c :=
 ⟨k.os.trans h.os,k.tape.trans h.tape,k.output.trans h.output,Nat.le_trans h.size k.size,fun i hi hx=>(k.block i (Nat.lt_of_lt_of_le hi h.size) hx).trans (h.block i hi hx)⟩
theorem Fr.mono {X Y:Nat→Prop} {a b:World} (h:Fr X a b) (hxy:∀ k,X k→Y k):Fr Y a b:=⟨h.os,h.tape,h.output,h.size,fun i hi hx=>h.block i hi fun k=>hx (hxy i k)⟩
theorem Fr.drew (X:Nat→Prop) (w:World):Fr X w w.drew:=⟨rfl,rfl,rfl,Nat.le_refl _,fun _ _ _=>rfl⟩
theorem Fr.below {w w':World} (h:Fr (fun _=>False) w w'):Below w.heap.size w w':=⟨h.os,h.tape,h.output,h.size,fun k hk=>h.block k hk id⟩
theorem Fr.of_below {X:Nat→Prop} {w w':World} (h:Below w.heap.size w w'):Fr X w w':=⟨h.os,h.tape,h.output,h.size,fun k hk _=>h.block k hk⟩
structure Blk (β:Bs) (w:World) (k:Nat) (e:Ent):Prop where
 lt:(β k).1<w.heap.size
 cell:∀ j c,e.cells[j]?=some c→w.cell? (ptr β k j)=some (AC.g β c)
 free:e.wr=true→∀ j,j<e.cells.length→w.frozen? (ptr β k j)=false
 room:e.room≠0→e.cells≠[]→e.cells.length≤(β k).2.2*e.room∧∀ j,j<(β k).2.2*e.room→(∃ v,w.cell? (ptr β k j)=some v)∧w.frozen? (ptr β k j)=false
structure Cx where
 w0:World
 X:Nat→Prop
 β0:Bs
 F:Nat→Prop
structure Good (C:Cx) (w:World):Prop where
 now:Gw w
 x:∀ b,C.X b→ng≤b
 size:ng≤C.w0.heap.size
structure Rel (C:Cx) (N:Nat) (β:Bs) (S:Nat→Prop) (σ:Kn) (a:Act) (w:World):Prop where
 size:a.tmps.size=N
 defers:a.defers=[]
 tmp:∀ t v,look σ.T t=some v→a.tmps[t]?=some (AV.g β v)∧∀ k,k∈AV.ks v→S k
 blk:∀ k e,look σ.H k=some e→S k∧Blk β w k e∧(∀ c,c∈e.cells→∀ j,j∈AC.ks c→S j)∧(e.wr=true→C.w0.heap.size≤(β k).1∨C.X (β k).1)
 inj:∀ k e k' e',look σ.H k=some e→look σ.H k'=some e'→k≠k'→e.wr=true→e.cells≠[]→e'.cells≠[]→(β k).1≠(β k').1
 frame:Fr C.X C.w0 w
 fix:∀ k,C.F k→S k∧β k=C.β0 k
 gd:Good C w
theorem AC.g_congr {β β':Bs} (x:AC) (h:∀ k,k∈AC.ks x→β' k=β k):AC.g β' x=AC.g β x:=by
 cases x using AC.tells with
 | u=>rfl
 | i=>rfl
 | b=>rfl
 | s=>rfl
 | w k=>simp only [AC.g,ptr,h k (by simp [AC.ks])]
 | p k o=>simp only [AC.g,ptr,h k (by simp [AC.ks])]
 | y=>rfl
 | sl k o n c=>simp only [AC.g,ptr,h k (by simp [AC.ks])]
 | f g cap =>
  refine congrArg (fun l:List Value=>Value.func (.func g) #[] l.toArray) (List.map_congr_left fun k hk=>?_)
  simp only [ptr,h k (by simpa [AC.ks] using hk)]
 | sx k n=>simp only [AC.g,ptr,h k (by simp [AC.ks])]
 | v=>rfl
theorem znu {β β':Bs} {l:List AC} (h:∀ k,k∈l.flatMap AC.ks→β' k=β k):l.map (AC.g β')=l.map (AC.g β) :=
 List.map_congr_left fun c hc=>AC.g_congr c fun k hk=>h k (List.mem_flatMap.2 ⟨c,hc,hk⟩)
theorem AT.g_congr {β β':Bs} (x:AT) (h:∀ k,k∈AT.ks x→β' k=β k):AT.g β' x=AT.g β x:=by
 unfold AT.g
 split
 ·exact AC.g_congr _ h
 ·rw [znu h]
theorem AV.g_congr {β β':Bs} (x:AV) (h:∀ k,k∈AV.ks x→β' k=β k):AV.g β' x=AV.g β x:=by
 unfold AV.g
 split
 ·exact AC.g_congr _ h
 ·rw [znu h]
 ·rename_i l
  refine congrArg (fun l:List Value=>Value.tuple l.toArray) (List.map_congr_left fun c hc=>AT.g_congr c fun k hk=>h k (List.mem_flatMap.2 ⟨c,hc,hk⟩))
 ·rfl
structure Eff where
 v:AV
 wr:List (Nat×List AC)
 nw:Option (Nat×Ent)
def bset (β:Bs) (k:Nat) (x:Nat×Nat×Nat):Bs:=fun j=>if j=k then x else β j
def ext (S:Nat→Prop):Option (Nat×Ent)→Nat→Prop
 | none=>S
 | some (k,_)=>fun j=>S j∨j=k
def yati (wr:List (Nat×List AC)) (β β':Bs) (w w':World):Option (Nat×Ent)→Prop
 | none=>β'=β
 | some (k,e)=>∃ b o c,(w.heap.size≤b∨∃ k0,wr=[(k0,[])]∧b=(β k0).1)∧b<w'.heap.size∧β'=bset β k (b,o,c)∧Blk β' w' k e
structure Up (e:Eff) (β β':Bs) (w w':World):Prop where
 frame:Fr (fun B=>∃ k cs,(k,cs)∈e.wr∧B=(β k).1) w w'
 wr:∀ k cs,(k,cs)∈e.wr→Blk β' w' k ⟨true,cs,0⟩
 nw:yati e.wr β β' w w' e.nw
def WrOk (e:Eff) (H:List (Nat×Ent)):Prop:=∀ k cs,(k,cs)∈e.wr→∃ en,look H k=some en∧en.wr=true∧en.cells≠[]
structure Eff.Keys (e:Eff) (S:Nat→Prop):Prop where
 v:∀ k,k∈AV.ks e.v→ext S e.nw k
 wr:∀ k cs,(k,cs)∈e.wr→∀ c,c∈cs→∀ j,j∈AC.ks c→S j
 nw:∀ k en,e.nw=some (k,en)→∀ c,c∈en.cells→∀ j,j∈AC.ks c→ext S e.nw j
def putT (T:List (Nat×AV)):Option Tmp→AV→List (Nat×AV)
 | none,_=>T
 | some t,v=>(t,v)::T
def newH:Option (Nat×Ent)→List (Nat×Ent)→List (Nat×Ent)
 | none,H=>H
 | some (k,e),H=>(k,e)::H
def Kn.upd (σ:Kn) (dst:Option Tmp) (e:Eff):Kn :=
 { T:=putT σ.T dst e.v,H:=newH e.nw (e.wr.map (fun x=>(x.1,Ent.mk true x.2 0))++σ.H),n:=σ.n }
theorem yagy (l:List (Nat×List AC)) (H:List (Nat×Ent)) (k:Nat) :
  (∃ cs,(k,cs)∈l∧look (l.map (fun x=>(x.1,Ent.mk true x.2 0))++H) k=some ⟨true,cs,0⟩)∨((∀ cs,(k,cs)∉l)∧look (l.map (fun x=>(x.1,Ent.mk true x.2 0))++H) k=look H k):=by
 induction l with
 | nil=>exact Or.inr ⟨fun _ h=>by simp at h,rfl⟩
 | cons x l ih =>
  obtain ⟨j,cs⟩:=x
  simp only [List.map_cons,List.cons_append,zav]
  by_cases h:k=j
  ·subst h;exact Or.inl ⟨cs,by simp,by simp⟩
  ·rcases ih with ⟨c,hc,e⟩ | ⟨hn,e⟩
   ·exact Or.inl ⟨c,by simp [hc],by simp [h,e]⟩
   ·exact Or.inr ⟨fun c hc=>by rcases List.mem_cons.1 hc with h1 | h1;exact h (by injection h1);exact hn c h1,by simp [h,e]⟩
theorem Blk.congr {β β':Bs} {w w':World} {k:Nat} {e:Ent} (h:Blk β w k e) (hb:β' k=β k) (hsz:w.heap.size≤w'.heap.size) (hh:w'.heap[(β k).1]?=w.heap[(β k).1]?)
  (hc:∀ c,c∈e.cells→∀ j,j∈AC.ks c→β' j=β j):Blk β' w' k e:=by
 have hp:∀ j,ptr β' k j=ptr β k j:=fun j=>by simp only [ptr,hb]
 refine ⟨by rw [hb];exact Nat.lt_of_lt_of_le h.lt hsz,fun j c hj=>?_,fun hw j hj=>?_,fun hr hn=>?_⟩
 ·rw [hp,World.cell?_of_block (w:=w) (a:=ptr β k j) hh,h.cell j c hj,AC.g_congr c fun k' hk'=>hc c (List.mem_of_getElem? hj) k' hk']
 ·rw [hp,World.frozen?_of_block (w:=w) (a:=ptr β k j) hh];exact h.free hw j hj
 ·rw [hb]
  obtain ⟨h1,h2⟩:=h.room hr hn
  refine ⟨h1,fun j hj=>?_⟩
  rw [hp,World.cell?_of_block (w:=w) (a:=ptr β k j) hh,World.frozen?_of_block (w:=w) (a:=ptr β k j) hh]
  exact h2 j hj
theorem Blk.nil {β:Bs} {w:World} {k:Nat} {t:Bool} {r:Nat} (h:(β k).1<w.heap.size):Blk β w k ⟨t,[],r⟩ :=
 ⟨h,fun _ _ hj=>by simp at hj,fun _ _ hj=>absurd hj (Nat.not_lt_zero _),fun _ hn=>absurd rfl hn⟩
theorem Rel.upd {C:Cx} {N:Nat} {β β':Bs} {S:Nat→Prop} {σ:Kn} {a:Act} {w w':World} {dst:Option Tmp} {e:Eff}
  (h:Rel C N β S σ a w) (hu:Up e β β' w w') (hk:e.Keys S) (hwr:WrOk e σ.H) (hnw:∀ k en,e.nw=some (k,en)→¬ S k) (hd:∀ t,dst=some t→t<N) :
  Rel C N β' (ext S e.nw) (σ.upd dst e) (a.put dst (AV.g β' e.v)) w':=by
 have hβ:∀ k,S k→β' k=β k:=by
  intro k hS
  have:=hu.nw
  cases hn:e.nw with
  | none=>rw [hn] at this;exact congrFun this k
  | some x =>
   obtain ⟨k',en⟩:=x
   rw [hn] at this
   obtain ⟨b,o,c,_,_,hb,_⟩:=this
   rw [hb]
   unfold bset
   rw [if_neg]
   intro e'
   subst e'
   exact hnw _ _ hn hS
 have hS':∀ k,S k→ext S e.nw k:=by
  intro k hS
  cases hn:e.nw with
  | none=>exact hS
  | some x=>obtain ⟨k',en⟩:=x;exact Or.inl hS
 -- a known block stays, if it is not written
 have hold:∀ k ent,look σ.H k=some ent→(∀ cs,(k,cs)∉e.wr)→Blk β' w' k ent:=by
  intro k ent hl hn
  obtain ⟨hS,hB,hc,_⟩:=h.blk k ent hl
  by_cases hz:ent.cells=[]
  ·obtain ⟨t,cs,r⟩:=ent
   simp only at hz
   subst hz
   exact Blk.nil (by rw [hβ k hS];exact Nat.lt_of_lt_of_le hB.lt hu.frame.size)
  refine hB.congr (hβ k hS) hu.frame.size (hu.frame.block _ hB.lt ?_) fun c hcc j hj=>hβ j (hc c hcc j hj)
  rintro ⟨k',cs,hm,he⟩
  obtain ⟨en',hl',hw',hz'⟩:=hwr k' cs hm
  by_cases hkk:k'=k
  ·subst hkk;exact hn cs hm
  ·exact h.inj k' _ k ent hl' hl hkk hw' hz' hz he.symm
 have hlook:∀ k ent,look (σ.upd dst e).H k=some ent→(e.nw=some (k,ent))∨((∀ cs,e.nw≠some (k,cs))∧((∃ cs,(k,cs)∈e.wr∧ent=⟨true,cs,0⟩)∨((∀ cs,(k,cs)∉e.wr)∧look σ.H k=some ent))):=by
  intro k ent hl
  simp only [Kn.upd] at hl
  have key:look (e.wr.map (fun x=>(x.1,Ent.mk true x.2 0))++σ.H) k=some ent→((∃ cs,(k,cs)∈e.wr∧ent=⟨true,cs,0⟩)∨((∀ cs,(k,cs)∉e.wr)∧look σ.H k=some ent)):=by
   intro hl
   rcases yagy e.wr σ.H k with ⟨cs,hm,he⟩ | ⟨hn,he⟩
   ·rw [he] at hl;injection hl with hl;exact Or.inl ⟨cs,hm,hl.symm⟩
   ·rw [he] at hl;exact Or.inr ⟨hn,hl⟩
  cases hn:e.nw with
  | none=>rw [hn] at hl;exact Or.inr ⟨fun _=>by simp,key hl⟩
  | some x =>
   obtain ⟨k',cs⟩:=x
   rw [hn] at hl
   simp only [newH,zav] at hl
   by_cases hkk:k=k'
   ·subst hkk;simp at hl;exact Or.inl (by rw [hl])
   ·simp [hkk] at hl;exact Or.inr ⟨fun c hc=>by simp at hc;exact hkk hc.1.symm,key hl⟩
 have hb1:∀ k ent,look (σ.upd dst e).H k=some ent→(∀ cs,e.nw≠some (k,cs))→S k∧(β' k).1<w.heap.size∧∃ ent',look σ.H k=some ent'∧(ent.wr=true→ent'.wr=true)∧(ent.cells≠[]→ent'.cells≠[])∧∀ k0,e.wr=[(k0,[])]→ent.cells≠[]→k≠k0:=by
  intro k ent hl hn
  rcases hlook k ent hl with h1 | ⟨_,⟨cs,hm,he⟩ | ⟨hm,ho⟩⟩
  ·exact absurd h1 (hn ent)
  ·obtain ⟨en,hl',hw',hz'⟩:=hwr k cs hm
   obtain ⟨hS,hB,_⟩:=h.blk k _ hl'
   refine ⟨hS,by rw [hβ k hS];exact hB.lt,_,hl',fun _=>hw',fun _=>hz',fun k0 h0 hz e'=>?_⟩
   rw [h0] at hm
   simp at hm
   rw [he,hm.2] at hz
   exact hz rfl
  ·obtain ⟨hS,hB,_⟩:=h.blk k _ ho
   exact ⟨hS,by rw [hβ k hS];exact hB.lt,_,ho,id,id,fun k0 h0 hz e'=>hm [] (by rw [h0,e'];simp)⟩
 have hgd:Good C w':=by
  refine ⟨h.gd.now.keep hu.frame.size fun b hb=>hu.frame.block b (Nat.lt_of_lt_of_le hb h.gd.now.size) ?_,h.gd.x,h.gd.size⟩
  rintro ⟨k,cs,hm,rfl⟩
  obtain ⟨en,hl,hw,_⟩:=hwr k cs hm
  rcases (h.blk k en hl).2.2.2 hw with h1 | h1
  ·exact absurd (Nat.le_trans h.gd.size h1) (Nat.not_le.2 hb)
  ·exact absurd (h.gd.x _ h1) (Nat.not_le.2 hb)
 refine ⟨?_,?_,?_,?_,?_,?_,fun k hF=>⟨hS' k (h.fix k hF).1,(hβ k (h.fix k hF).1).trans (h.fix k hF).2⟩,hgd⟩
 ·cases dst with
  | none=>exact h.size
  | some t=>simp [Act.put,h.size]
 ·cases dst with
  | none=>exact h.defers
  | some t=>exact h.defers
 ·intro t v hl
  have old:look σ.T t=some v→a.tmps[t]?=some (AV.g β' v)∧∀ k,k∈AV.ks v→ext S e.nw k:=by
   intro hl
   obtain ⟨h1,h2⟩:=h.tmp t v hl
   exact ⟨by rw [h1,AV.g_congr v fun k hk=>hβ k (h2 k hk)],fun k hk=>hS' k (h2 k hk)⟩
  cases dst with
  | none=>exact old hl
  | some t' =>
   simp only [Kn.upd,putT,zav] at hl
   by_cases ht:t=t'
   ·subst ht
    simp at hl
    subst hl
    have:=hd t rfl
    rw [← h.size] at this
    exact ⟨by simp [Act.put,this],hk.v⟩
   ·simp [ht] at hl
    have:=old hl
    refine ⟨?_,this.2⟩
    simp only [Act.put]
    rw [Array.getElem?_setIfInBounds_ne (fun e=>ht e.symm)]
    exact this.1
 ·intro k ent hl
  rcases hlook k ent hl with hn | ⟨hn,⟨cs,hm,he⟩ | ⟨hn2,ho⟩⟩
  ·have:=hu.nw
   rw [hn] at this
   obtain ⟨b,o,c,hb1,hb2,hb3,hb4⟩:=this
   refine ⟨by rw [hn];exact Or.inr rfl,hb4,hk.nw k ent hn,fun _=>?_⟩
   have hbk:(β' k).1=b:=by rw [hb3];simp [bset]
   rw [hbk]
   rcases hb1 with hb1 | ⟨k0,h0,rfl⟩
   ·exact Or.inl (Nat.le_trans h.frame.size hb1)
   ·obtain ⟨en,hl',hw',_⟩:=hwr k0 [] (by rw [h0];simp)
    exact (h.blk k0 _ hl').2.2.2 hw'
  ·subst he
   obtain ⟨en,hl',hw',_⟩:=hwr k cs hm
   obtain ⟨hS,hB,_,hx⟩:=h.blk k _ hl'
   exact ⟨hS' k hS,hu.wr k cs hm,fun c hc j hj=>hS' j (hk.wr k cs hm c hc j hj),fun _=>by rw [hβ k hS];exact hx hw'⟩
  ·obtain ⟨hS,hB,hc,hx⟩:=h.blk k _ ho
   exact ⟨hS' k hS,hold k ent ho hn2,fun c hcc j hj=>hS' j (hc c hcc j hj),fun hw=>by rw [hβ k hS];exact hx hw⟩
 ·-- the new block is none of the others
  have hnew:∀ k en k' ent',e.nw=some (k,en)→look (σ.upd dst e).H k'=some ent'→k≠k'→ent'.cells≠[]→(β' k).1≠(β' k').1:=by
   intro k en k' ent' hn hl' hne hz'
   have:=hu.nw
   rw [hn] at this
   obtain ⟨b,o,c,hb1',hb2,hb3,hb4⟩:=this
   have hbk:(β' k).1=b:=by rw [hb3];simp [bset]
   obtain ⟨hS',hlt',ent1,hl1,hw1,hz1,hmv⟩:=hb1 k' ent' hl' (fun cs' h'=>by rw [hn] at h';injection h' with h';injection h' with h';exact hne h')
   rcases hb1' with hb1' | ⟨k0,h0,hb0⟩
   ·omega
   ·obtain ⟨en0,hl0,hw0,hz0⟩:=hwr k0 [] (by rw [h0];simp)
    rw [hbk,hb0,hβ k' hS']
    exact h.inj k0 en0 k' ent1 hl0 hl1 (fun e'=>hmv k0 h0 hz' e'.symm) hw0 hz0 (hz1 hz')
  intro k ent k' ent' hl hl' hne hw hz hz'
  by_cases hk1:∃ cs,e.nw=some (k,cs)
  ·obtain ⟨cs,hn⟩:=hk1
   exact hnew k cs k' ent' hn hl' hne hz'
  ·by_cases hk2:∃ cs,e.nw=some (k',cs)
   ·obtain ⟨cs,hn⟩:=hk2
    exact fun e'=>hnew k' cs k ent hn hl (fun e=>hne e.symm) hz e'.symm
   ·obtain ⟨hS1,hlt1,en1,hle1,hw1,hz1,_⟩:=hb1 k ent hl (fun cs h'=>hk1 ⟨cs,h'⟩)
    obtain ⟨hS2,hlt2,en2,hle2,hw2,hz2,_⟩:=hb1 k' ent' hl' (fun cs h'=>hk2 ⟨cs,h'⟩)
    rw [hβ k hS1,hβ k' hS2]
    exact h.inj k en1 k' en2 hle1 hle2 hne (hw1 hw) (hz1 hz) (hz2 hz')
 ·refine ⟨hu.frame.os.trans h.frame.os,hu.frame.tape.trans h.frame.tape,hu.frame.output.trans h.frame.output,Nat.le_trans h.frame.size hu.frame.size,fun B hB hX=>?_⟩
  refine (hu.frame.block B (Nat.lt_of_lt_of_le hB h.frame.size) ?_).trans (h.frame.block B hB hX)
  rintro ⟨k,cs,hm,he⟩
  obtain ⟨en,hl',hw',_⟩:=hwr k cs hm
  obtain ⟨_,_,_,hx⟩:=h.blk k _ hl'
  rcases hx hw' with h1 | h1
  ·omega
  ·rw [← he] at h1;exact hX h1
def isAg:TypeDesc→Bool
 | .struct _=>true
 | .array _ _=>true
 | _=>false
def acOf (x:Value):Option AC :=
 match x with
 | .bool t=>some (.b t)
 | .int .u64 n=>if 0≤n∧n≤18446744073709551615 then some (.u (BitVec.ofNat 64 n.toNat)) else none
 | .int .i64 n=>some (.i n)
 | .int .u8 n=>if 0≤n∧n≤255 then some (.y (BitVec.ofNat 8 n.toNat)) else none
 | .string t=>some (.s t)
 | x=>if h:x.oneCell'=true then some (.v x h) else none
def yano:List Value→Option (List AC)
 | []=>some []
 | x::l=>match acOf x,yano l with
  | some c,some r=>some (c::r)
  | _,_=>none
def avOf (x:Value):Option AV :=
 match x with
 | .agg cs=>match yano cs.toList with
  | some l=>some (.ag l)
  | none=>none
 | .tuple t=>some (.raw (.tuple t))
 | x=>match acOf x with
  | some c=>some (.c c)
  | none=>none
def Kn.ev (σ:Kn):Operand→Option AV
 | .tmp t=>look σ.T t
 | .const v=>avOf v
 | .global _=>none
 | .func g=>some (.c (.f g []))
def AV.cells:AV→Option (List AC)
 | (Sum.inl x)=>some [x]
 | (Sum.inr (Sum.inl l))=>some l
 | _=>none
def AC.asB:AC→Bool | (Sum.inr (Sum.inl (Sum.inl x)))=>x | _=>false
def AC.asU:AC→BitVec 64 | (Sum.inl (Sum.inl x))=>x | _=>0#64
def AC.asI:AC→Int | (Sum.inl (Sum.inr x))=>x | _=>0
def AC.asY:AC→BitVec 8 | (Sum.inr (Sum.inr (Sum.inr (Sum.inl x))))=>x | _=>0#8
def AC.asS:AC→ByteArray | (Sum.inr (Sum.inl (Sum.inr x)))=>x | _=>ByteArray.mk #[]
def AC.isB:AC→Bool | (Sum.inr (Sum.inl (Sum.inl _)))=>true | _=>false
def AC.isU:AC→Bool | (Sum.inl (Sum.inl _))=>true | _=>false
def AC.isI:AC→Bool | (Sum.inl (Sum.inr _))=>true | _=>false
def AC.isY:AC→Bool | (Sum.inr (Sum.inr (Sum.inr (Sum.inl _))))=>true | _=>false
def AC.isS:AC→Bool | (Sum.inr (Sum.inl (Sum.inr _)))=>true | _=>false
def norm (d:TypeDesc) (c:AC):AC :=
 match d with
 | .bool=>.b (AC.asB c)
 | .int .u64=>.u (AC.asU c)
 | .int .i64=>.i (AC.asI c)
 | .int .u8=>.y (AC.asY c)
 | .string=>.s (AC.asS c)
 | _=>c
def zcw (d:TypeDesc) (c:AC):Bool :=
 match d with
 | .bool=>AC.isB c
 | .int .u64=>AC.isU c
 | .int .i64=>AC.isI c
 | .int .u8=>AC.isY c
 | .string=>AC.isS c
 | _=>true
theorem zwz {d:TypeDesc} {c:AC} (h:zcw d c=true):norm d c=c:=by
 unfold zcw at h
 unfold norm
 split at h <;> first
  | (cases c using AC.tells <;> first | rfl | (simp [AC.isB,AC.isU,AC.isI,AC.isY,AC.isS] at h))
  | rfl
def zy0 (P:Program) (T:TypeId) (cs:List AC) (o:Nat):Option (AV×Bool) :=
 match P.underlying T,P.info? T with
 | some d,some i =>
  bif isAg d then some (.ag ((cs.drop o).take i.size),Nat.ble (o+i.size) cs.length)
  else some (.c (norm d (cs.getD o (.b false))),zcw d (cs.getD o (.b false))&&Nat.blt o cs.length)
 | _,_=>none
def yaja (P:Program) (T:TypeId) (cs:List AC):Option (AV×Bool) :=
 match P.underlying T,P.info? T with
 | some d,some i =>
  bif isAg d then some (.ag cs,Nat.beq cs.length i.size)
  else some (.c (norm d (cs.getD 0 (.b false))),zcw d (cs.getD 0 (.b false))&&Nat.blt 0 cs.length)
 | _,_=>none
def yaff (P:Program) (T:TypeId) (σ:Kn) (a:AV):Option (AV×Bool) :=
 match a with
 | (Sum.inl (Sum.inr (Sum.inr (Sum.inl (Sum.inl k)))))=>match look σ.H k with
  | some e=>yaja P T e.cells
  | none=>none
 | (Sum.inl (Sum.inr (Sum.inr (Sum.inl (Sum.inr (k,o))))))=>match look σ.H k with
  | some e=>zy0 P T e.cells o
  | none=>none
 | _=>none
def splice (cs:List AC) (o:Nat) (l:List AC):List AC :=
 match l with
 | [c]=>cs.set o c
 | l=>cs.take o++(l++cs.drop (o+l.length))
def yab1 (P:Program) (T:TypeId) (σ:Kn) (a x:AV):Option (Nat×List AC×Bool) :=
 match AV.cells x,P.info? T with
 | some l,some i=>match a with
  | (Sum.inl (Sum.inr (Sum.inr (Sum.inl (Sum.inl k)))))=>match look σ.H k with
   | some e=>bif e.wr then some (k,l,Nat.beq l.length i.size&&Nat.beq e.cells.length l.length&&Nat.blt 0 l.length) else none
   | none=>none
  | (Sum.inl (Sum.inr (Sum.inr (Sum.inl (Sum.inr (k,o))))))=>match look σ.H k with
   | some e=>bif e.wr then some (k,splice e.cells o l,Nat.beq l.length i.size&&Nat.ble (o+l.length) e.cells.length&&Nat.blt 0 l.length) else none
   | none=>none
  | _=>none
 | _,_=>none
def zz5 (P:Program) (T:TypeId) (f:Nat) (a:AV):Option AV :=
 match P.underlying T with
 | some (.struct fs)=>match fs[f]? with
  | some fd=>match P.info? fd.type with
   | some i=>bif Nat.beq i.size 0 then none else match a with
    | (Sum.inl (Sum.inr (Sum.inr (Sum.inl (Sum.inl k)))))=>some (.c (.p k fd.offset))
    | (Sum.inl (Sum.inr (Sum.inr (Sum.inl (Sum.inr (k,o))))))=>some (.c (.p k (o+fd.offset)))
    | _=>none
   | none=>none
  | none=>none
 | _=>none
def AV.int?:AV→Option Int
 | (Sum.inl (Sum.inl (Sum.inr n)))=>some n
 | (Sum.inl (Sum.inl (Sum.inl x)))=>some (nv x)
 | (Sum.inl (Sum.inr (Sum.inr (Sum.inr (Sum.inl x)))))=>some (x.toNat:Int)
 | _=>none
def zlx (P:Program) (T:TypeId) (a ix:AV):Option (AV×Bool) :=
 match AV.int? ix with
 | some n=>match P.underlying T with
  | some (.array len el)=>match P.info? el with
   | some i=>match a with
    | (Sum.inl (Sum.inr (Sum.inr (Sum.inl (Sum.inl k)))))=>some (.c (.p k (n.toNat*i.size)),decide (0≤n)&&decide (n<len))
    | (Sum.inl (Sum.inr (Sum.inr (Sum.inl (Sum.inr (k,o))))))=>some (.c (.p k (o+n.toNat*i.size)),decide (0≤n)&&decide (n<len))
    | _=>none
   | none=>none
  | some (.slice el)=>match P.info? el with
   | some i=>match a with
    | (Sum.inl (Sum.inr (Sum.inr (Sum.inr (Sum.inr (Sum.inl (k,o,len,_)))))))=>some (.c (.p k (o+n.toNat*i.size)),decide (0≤n)&&decide (n<len))
    | (Sum.inl (Sum.inr (Sum.inr (Sum.inr (Sum.inr (Sum.inr (Sum.inr (Sum.inl (k,len)))))))))=>some (.c (.p k (n.toNat*i.size)),decide (0≤n)&&decide (n<len))
    | _=>none
   | none=>none
  | _=>none
 | none=>none
def zeg (s:ByteArray) (n:Nat):BitVec 8:=(s.data.getD n 0).toBitVec
def yahu (P:Program) (T:TypeId) (a ix:AV):Option (AV×Bool) :=
 match AV.int? ix with
 | some n=>match P.underlying T,a with
  | some (.array len el),(Sum.inr (Sum.inl cs))=>match P.info? el with
   | some i=>match zy0 P el cs (n.toNat*i.size) with
    | some (v,ok)=>some (v,ok&&(decide (0≤n)&&decide (n<len)))
    | none=>none
   | none=>none
  | some .string,(Sum.inl (Sum.inr (Sum.inl (Sum.inr t))))=>some (.c (.y (zeg t n.toNat)),decide (0≤n)&&decide (n.toNat<t.size))
  | _,_=>none
 | none=>none
def zrm (P:Program) (T:TypeId) (f:Nat) (a:AV):Option (AV×Bool) :=
 match P.underlying T,a with
 | some (.struct fs),(Sum.inr (Sum.inl cs))=>match fs[f]? with
  | some fd=>zy0 P fd.type cs fd.offset
  | none=>none
 | _,_=>none
def zxa (place:Nat→Option (Nat×Nat)) (cs:List AC):List (Nat×AV)→Option (List AC×Bool)
 | []=>some (cs,true)
 | (i,v)::r=>match place i,AV.cells v with
  | some (o,n),some l=>match zxa place (splice cs o l) r with
   | some (cs',ok)=>some (cs',ok&&(Nat.beq l.length n&&Nat.ble (o+l.length) cs.length))
   | none=>none
  | _,_=>none
def zrf (P:Program):List Field→Option (List (Nat×Nat))
 | []=>some []
 | f::r=>match P.info? f.type,zrf P r with
  | some i,some l=>some ((f.offset,i.size)::l)
  | _,_=>none
def zim (σ:Kn):List (Nat×Operand)→Option (List (Nat×AV))
 | []=>some []
 | (i,x)::r=>match σ.ev x,zim σ r with
  | some v,some l=>some ((i,v)::l)
  | _,_=>none
def yah9 (P:Program) (T:TypeId) (ps:List (Nat×AV)):Option (AV×Bool) :=
 match P.info? T with
 | some ti=>match ti.zero with
  | some z=>match avOf z with
   | some zv=>match AV.cells zv,P.underlying T with
    | some cs,some (.struct fs)=>match zrf P fs.toList with
     | some pl=>match zxa (fun i=>pl[i]?) cs ps with
      | some (l,ok)=>some (.ag l,ok)
      | none=>none
     | none=>none
    | some cs,some (.array _ el)=>match P.info? el with
     | some i=>match zxa (fun j=>some (j*i.size,i.size)) cs ps with
      | some (l,ok)=>some (.ag l,ok)
      | none=>none
     | none=>none
    | _,_=>none
   | none=>none
  | none=>none
 | none=>none
def eqC:AC→AC→Bool
 | (Sum.inr (Sum.inl (Sum.inl x))),(Sum.inr (Sum.inl (Sum.inl y)))=>x==y
 | (Sum.inl (Sum.inl x)),(Sum.inl (Sum.inl y))=>eqb x y
 | (Sum.inl (Sum.inr x)),(Sum.inl (Sum.inr y))=>x==y
 | (Sum.inr (Sum.inr (Sum.inr (Sum.inl x)))),(Sum.inr (Sum.inr (Sum.inr (Sum.inl y))))=>x==y
 | (Sum.inr (Sum.inl (Sum.inr x))),(Sum.inr (Sum.inl (Sum.inr y)))=>x.toList==y.toList
 | _,_=>false
def eqCs:List AC→List AC→Bool
 | [],[]=>true
 | x::l,y::r=>eqC x y&&eqCs l r
 | _,_=>false
def yas7 (op:BinOp) (x y:Int):Option AC :=
 match op with
 | .add=>some (.i (IntKind.i64.wrap (x+y)))
 | .sub=>some (.i (IntKind.i64.wrap (x - y)))
 | .mul=>some (.i (IntKind.i64.wrap (x*y)))
 | .eql=>some (.b (x==y))
 | .neq=>some (.b (x != y))
 | .lss=>some (.b (decide (x<y)))
 | .leq=>some (.b (decide (x≤y)))
 | .gtr=>some (.b (decide (y<x)))
 | .geq=>some (.b (decide (y≤x)))
 | _=>none
def yas0 (op:BinOp) (x y:BitVec 64):Option AC :=
 match op with
 | .add=>some (.u (badd x y))
 | .sub=>some (.u (bsub x y))
 | .mul=>some (.u (bmul x y))
 | .and=>some (.u (band x y))
 | .or=>some (.u (bor x y))
 | .xor=>some (.u (bxor x y))
 | .andNot=>some (.u (bandn x y))
 | .eql=>some (.b (eqb x y))
 | .neq=>some (.b (!eqb x y))
 | .lss=>some (.b (decide (nv x<nv y)))
 | .leq=>some (.b (decide (nv x≤nv y)))
 | .gtr=>some (.b (decide (nv y<nv x)))
 | .geq=>some (.b (decide (nv y≤nv x)))
 | _=>none
def u8Op (op:BinOp) (x y:BitVec 8):Option AC :=
 match op with
 | .add=>some (.y (x+y))
 | .sub=>some (.y (x - y))
 | .eql=>some (.b (x==y))
 | .neq=>some (.b (!(x==y)))
 | .lss=>some (.b (decide (x.toNat<y.toNat)))
 | .leq=>some (.b (decide (x.toNat≤y.toNat)))
 | .gtr=>some (.b (decide (y.toNat<x.toNat)))
 | .geq=>some (.b (decide (y.toNat≤x.toNat)))
 | _=>none
def yatj (op:BinOp) (x y:ByteArray):Option (AC×Bool) :=
 match op with
 | .add=>some (.s (x++y),decide (x.size+y.size≤9223372036854775807))
 | .eql=>some (.b (x.toList==y.toList),true)
 | .neq=>some (.b (!(x.toList==y.toList)),true)
 | _=>none
def zxu (op:BinOp) (x:BitVec 64) (n:Int):Option (AC×Bool) :=
 match op with
 | .shl=>some (.u (bshl x n.toNat),decide (0≤n)&&decide (n≤64))
 | .shr=>some (.u (bshr x n.toNat),decide (0≤n)&&decide (n≤64))
 | _=>none
def yask (op:BinOp) (x y:BitVec 64):Option AC :=
 match op with
 | .quo=>some (.u (x / y))
 | .rem=>some (.u (x % y))
 | _=>none
def yav1:BinOp→Bool
 | .quo=>true
 | .rem=>true
 | _=>false
def yahj:BinOp→Bool
 | .shl=>true
 | .shr=>true
 | _=>false
def yab2 (rec:TypeId→Option (List TypeDesc)) (P:Program):List Field→Nat→Option (List TypeDesc)
 | [],_=>some []
 | f::fs,o=>bif f.name == "_" || !Nat.beq f.offset o then none else match rec f.type,P.info? f.type with
  | some ds,some i=>bif Nat.beq i.size ds.length then (match yab2 rec P fs (o+i.size) with
   | some r=>some (ds++r)
   | none=>none) else none
  | _,_=>none
def leafs (P:Program):Nat→TypeId→Option (List TypeDesc)
 | 0,_=>none
 | m+1,T=>match P.underlying T with
  | some .bool=>some [.bool]
  | some (.int .u64)=>some [.int .u64]
  | some (.int .i64)=>some [.int .i64]
  | some (.int .u8)=>some [.int .u8]
  | some .string=>some [.string]
  | some (.struct fs)=>bif P.stoodInHeld T then none else yab2 (leafs P m) P fs.toList 0
  | some (.array len el)=>match leafs P m el,P.info? el with
   | some ds,some i=>bif Nat.beq i.size ds.length then some (List.replicate len ds).flatten else none
   | _,_=>none
  | _=>none
def typed:List TypeDesc→List AC→Bool
 | [],[]=>true
 | d::ds,c::cs=>zcw d c&&typed ds cs
 | _,_=>false
def yat4 (P:Program) (op:BinOp) (T:TypeId) (l r:List AC):Option (AV×Bool) :=
 match leafs P 8 T,P.underlying T,P.info? T with
 | some ds,some d,some i=>bif P.eqGuardType P.depth T||!isAg d then none else match op with
  | .eql=>some (.c (.b (eqCs l r)),typed ds l&&typed ds r&&Nat.beq i.size ds.length)
  | .neq=>some (.c (.b (!eqCs l r)),typed ds l&&typed ds r&&Nat.beq i.size ds.length)
  | _=>none
 | _,_,_=>none
def eBin (op:BinOp) (x y:AV):Option (AV×Bool) :=
 bif yahj op then
  match x,AV.int? y with
  | (Sum.inl (Sum.inl (Sum.inl a))),some n=>match zxu op a n with
   | some (c,ok)=>some (.c c,ok)
   | none=>none
  | _,_=>none
 else match x,y with
  | (Sum.inl (Sum.inl (Sum.inr a))),(Sum.inl (Sum.inl (Sum.inr d)))=>match yas7 op a d with
   | some c=>some (.c c,true)
   | none=>none
  | (Sum.inl (Sum.inl (Sum.inl a))),(Sum.inl (Sum.inl (Sum.inl d)))=>bif yav1 op then match yask op a d with
    | some c=>some (.c c,!eqb d zero)
    | none=>none
   else match yas0 op a d with
    | some c=>some (.c c,true)
    | none=>none
  | (Sum.inl (Sum.inr (Sum.inr (Sum.inr (Sum.inl a))))),(Sum.inl (Sum.inr (Sum.inr (Sum.inr (Sum.inl d)))))=>match u8Op op a d with
   | some c=>some (.c c,true)
   | none=>none
  | (Sum.inl (Sum.inr (Sum.inl (Sum.inr a)))),(Sum.inl (Sum.inr (Sum.inl (Sum.inr d))))=>match yatj op a d with
   | some (c,ok)=>some (.c c,ok)
   | none=>none
  | _,_=>none
def AV.nilSlice:AV→Option Bool
 | (Sum.inl (Sum.inr (Sum.inr (Sum.inr (Sum.inr (Sum.inl (_,_,_,_)))))))=>some false
 | (Sum.inl (Sum.inr (Sum.inr (Sum.inr (Sum.inr (Sum.inr (Sum.inr (Sum.inl (_,_)))))))))=>some false
 | (Sum.inl (Sum.inr (Sum.inr (Sum.inr (Sum.inr (Sum.inr (Sum.inr (Sum.inr ⟨(.slice none 0 0),_⟩))))))))=>some true
 | _=>none
def eNil (P:Program) (op:BinOp) (T:TypeId) (x y:AV):Option Bool :=
 match op,P.underlying T,AV.nilSlice x,AV.nilSlice y with
 | .eql,some (.slice _),some b,some true=>some b
 | _,_,_,_=>none
def yat2 (P:Program) (op:BinOp) (T:TypeId) (x y:AV):Option (AV×Bool) :=
 match eNil P op T x y with
 | some b=>some (.c (.b b),true)
 | none=>eBin op x y
def eUn (op:UnOp) (x:AV):Option AV :=
 match op,x with
 | .not,(Sum.inl (Sum.inr (Sum.inl (Sum.inl t))))=>some (.c (.b (!t)))
 | .neg,(Sum.inl (Sum.inl (Sum.inr n)))=>some (.c (.i (IntKind.i64.wrap (0 - n))))
 | .xor,(Sum.inl (Sum.inl (Sum.inl t)))=>some (.c (.u (bnot t)))
 | _,_=>none
def yatm (P:Program) (D:TypeId) (x:AV):Option AV :=
 match P.underlying D,x with
 | some (.int .u64),(Sum.inl (Sum.inl (Sum.inr n)))=>some (.c (.u (BitVec.ofInt 64 n)))
 | some (.int .u64),(Sum.inl (Sum.inl (Sum.inl t)))=>some (.c (.u t))
 | some (.int .u64),(Sum.inl (Sum.inr (Sum.inr (Sum.inr (Sum.inl t)))))=>some (.c (.u (t.setWidth 64)))
 | some (.int .i64),(Sum.inl (Sum.inl (Sum.inr n)))=>some (.c (.i (IntKind.i64.wrap n)))
 | some (.int .i64),(Sum.inl (Sum.inl (Sum.inl t)))=>some (.c (.i (IntKind.i64.wrap (nv t))))
 | some (.int .i64),(Sum.inl (Sum.inr (Sum.inr (Sum.inr (Sum.inl t)))))=>some (.c (.i (t.toNat:Int)))
 | some (.int .u8),(Sum.inl (Sum.inl (Sum.inl t)))=>some (.c (.y (t.setWidth 8)))
 | some (.int .u8),(Sum.inl (Sum.inl (Sum.inr n)))=>some (.c (.y (BitVec.ofInt 8 n)))
 | some (.int .u8),(Sum.inl (Sum.inr (Sum.inr (Sum.inr (Sum.inl t)))))=>some (.c (.y t))
 | _,_=>none
def zse (x:AV) (i:Nat):Option AV :=
 match x with
 | (Sum.inr (Sum.inr (Sum.inl l)))=>match l[i]? with
  | some (Sum.inl c)=>some (.c c)
  | some (Sum.inr l)=>some (.ag l)
  | _=>none
 | _=>none
def zi7 (σ:Kn):List Operand→Option (List AV)
 | []=>some []
 | x::r=>match σ.ev x,zi7 σ r with
  | some v,some l=>some (v::l)
  | _,_=>none
def zpb:List AV→Option (List Nat)
 | []=>some []
 | (Sum.inl (Sum.inr (Sum.inr (Sum.inl (Sum.inl k)))))::r=>match zpb r with
  | some l=>some (k::l)
  | none=>none
 | _::_=>none
structure CallRec where
 f:Nat
 args:List AV
 H:List (Nat×Ent)
 e:Eff
def ze2 (l:List AV):List Nat:=l.flatMap AV.ks
def zvj (H:List (Nat×Ent)):List Nat→List (Nat×Ent)
 | []=>[]
 | k::r=>match look H k with
  | some e=>(k,e)::zvj H r
  | none=>zvj H r
def zjo (P:Program) (f:Nat):Bool :=
 match P.funcs[f]? with
 | some fn=>fn.body.isSome&&!(fn.name == "runtime.NumGoroutine")
 | none=>false
def zqw (P:Program) (bi:Builtin) (ts:Array TypeId) (l:List AV):Option AV :=
 match bi,l with
 | .min,[(Sum.inl (Sum.inl (Sum.inl x))),(Sum.inl (Sum.inl (Sum.inl y)))]=>some (.c (.u (bmin x y)))
 | .max,[(Sum.inl (Sum.inl (Sum.inl x))),(Sum.inl (Sum.inl (Sum.inl y)))]=>some (.c (.u (bmax x y)))
 | .min,[(Sum.inl (Sum.inl (Sum.inr x))),(Sum.inl (Sum.inl (Sum.inr y)))]=>some (.c (.i (if y<x then y else x)))
 | .max,[(Sum.inl (Sum.inl (Sum.inr x))),(Sum.inl (Sum.inl (Sum.inr y)))]=>some (.c (.i (if x<y then y else x)))
 | .len,[(Sum.inl (Sum.inr (Sum.inr (Sum.inr (Sum.inr (Sum.inl (_,_,n,_)))))))]=>match ts.toList with
  | [t]=>match P.underlying t with
   | some (.slice _)=>some (.c (.i n))
   | _=>none
  | _=>none
 | .len,[(Sum.inl (Sum.inr (Sum.inr (Sum.inr (Sum.inr (Sum.inr (Sum.inr (Sum.inl (_,n)))))))))]=>match ts.toList with
  | [t]=>match P.underlying t with
   | some (.slice _)=>some (.c (.i n))
   | _=>none
  | _=>none
 | .len,[(Sum.inl (Sum.inr (Sum.inr (Sum.inr (Sum.inr (Sum.inr (Sum.inr (Sum.inr ⟨(.slice none n _),_⟩))))))))]=>match ts.toList with
  | [t]=>match P.underlying t with
   | some (.slice _)=>some (.c (.i n))
   | _=>none
  | _=>none
 | .len,[(Sum.inl (Sum.inr (Sum.inl (Sum.inr t))))]=>match ts.toList with
  | [ty]=>match P.underlying ty with
   | some .string=>some (.c (.i t.size))
   | _=>none
  | _=>none
 | _,_=>none
abbrev Ob:=Sum CallRec (Eff×Eff)
structure Res where
 e:Eff
 ok:Bool
 cr:List Ob
 hs:List Eff
def pv (hs:List Eff) (v:AV) (ok:Bool):Option Res:=some ⟨⟨v,[],none⟩,ok,[],hs⟩
def pv1 (hs:List Eff):Option AV→Option Res
 | some v=>pv hs v true
 | none=>none
def pv2 (hs:List Eff):Option (AV×Bool)→Option Res
 | some (v,ok)=>pv hs v ok
 | none=>none
def zqh:AV:=.raw undef
def zk7 (k:Nat) (e:Eff):Bool :=
 match e.nw with
 | none=>true
 | some (j,_)=>Nat.beq j k
def yanj (P:Program) (k:Nat) (σ:Kn) (hs:List Eff) (f:Nat) (args:List AV) (caps:List Nat):Option Res :=
 match hs with
 | e::hs=>bif zjo P f&&zk7 k e then some ⟨e,true,[.inl ⟨f,args++caps.map (fun k=>.c (.w k)),zvj σ.H (ze2 args++caps),e⟩],hs⟩ else none
 | []=>none
def rows (n:Nat) (z:List AC):List AC:=(List.replicate n z).flatten
def yalv (i:TypeInfo):Option (List AC) :=
 match i.zero with
 | some z=>match avOf z with
  | some zv=>match AV.cells zv with
   | some cs=>bif Nat.beq cs.length i.size then some cs else none
   | none=>none
  | none=>none
 | none=>none
def zgb (P:Program) (k:Nat) (T:TypeId) (len:Nat) (ps:List (Nat×AV)) (hs:List Eff):Option Res :=
 match P.underlying T with
 | some (.slice el)=>match P.info? el with
  | some i=>match yalv i with
   | some z=>match zxa (fun j=>some (j*i.size,i.size)) (rows len z) ps with
    | some (l,ok)=>some ⟨⟨.c (.sl k 0 len len),[],some (k,⟨true,l,0⟩)⟩,ok&&Nat.ble (len*i.size) 16777216,[],hs⟩
    | none=>none
   | none=>none
  | none=>none
 | _=>none
def zhu (P:Program) (k:Nat) (T:TypeId) (l c:AV) (hs:List Eff):Option Res :=
 match P.underlying T,AV.int? l,AV.int? c with
 | some (.slice el),some n,some m=>match P.info? el with
  | some i=>match yalv i with
   | some z=>some ⟨⟨.c (.sl k 0 n.toNat m.toNat),[],some (k,⟨true,rows m.toNat z,0⟩)⟩,decide (0≤n)&&decide (n≤m)&&decide (m≤1099511627776)&&Nat.ble i.bytes 256,[],hs⟩
   | none=>none
  | none=>none
 | _,_,_=>none
def zup (σ:Kn):Option Operand→Option (Option Int)
 | none=>some none
 | some x=>match σ.ev x with
  | some v=>match AV.int? v with
   | some n=>some (some n)
   | none=>none
  | none=>none
def yaie (P:Program) (T:TypeId) (x:AV) (lo hi mx:Option Int):Option (AV×Bool) :=
 match P.underlying T,x with
 | some .string,(Sum.inl (Sum.inr (Sum.inl (Sum.inr t))))=>match mx with
  | none=>some (.c (.s (t.extract (lo.getD 0).toNat (hi.getD t.size).toNat)),decide (0≤lo.getD 0)&&decide (lo.getD 0≤hi.getD t.size)&&decide (hi.getD t.size≤t.size))
  | some _=>none
 | some (.slice el),(Sum.inl (Sum.inr (Sum.inr (Sum.inr (Sum.inr (Sum.inl (k,o,n,c)))))))=>match P.info? el with
  | some i=>bif hi.isNone&&mx.isSome then none else match lo with
   | none=>some (.c (.sl k o (hi.getD n).toNat (mx.getD c).toNat),decide (0≤hi.getD n)&&decide (hi.getD n≤mx.getD c)&&decide (mx.getD c≤c))
   | some l=>some (.c (.sl k (o+l.toNat*i.size) ((hi.getD n).toNat - l.toNat) ((mx.getD c).toNat - l.toNat)),decide (0≤l)&&decide (l≤hi.getD n)&&decide (hi.getD n≤mx.getD c)&&decide (mx.getD c≤c)&&decide (l<mx.getD c))
  | none=>none
 | _,_=>none
def AV.row?:AV→Option (Nat×Nat×Nat)
 | (Sum.inl (Sum.inr (Sum.inr (Sum.inr (Sum.inr (Sum.inl (k,o,n,_)))))))=>some (k,o,n)
 | (Sum.inl (Sum.inr (Sum.inr (Sum.inr (Sum.inr (Sum.inr (Sum.inr (Sum.inl (k,n)))))))))=>some (k,0,n)
 | _=>none
def yajt (σ:Kn) (size:Nat) (v:AV):Option (Nat×List AC×Bool) :=
 match v with
 | (Sum.inl (Sum.inr (Sum.inr (Sum.inr (Sum.inr (Sum.inl (k,o,n,_)))))))=>match look σ.H k with
  | some e=>some (n,(e.cells.drop o).take (n*size),Nat.ble (o+n*size) e.cells.length)
  | none=>none
 | (Sum.inl (Sum.inr (Sum.inr (Sum.inr (Sum.inr (Sum.inr (Sum.inr (Sum.inl (k,n)))))))))=>match look σ.H k with
  | some e=>some (n,e.cells,Nat.beq (n*size) e.cells.length)
  | none=>none
 | _=>none
def znc (P:Program) (σ:Kn) (k:Nat) (ts:Array TypeId) (s x:AV) (hs:List Eff):Option Res :=
 match ts.toList with
 | [tS,tX]=>bif Nat.beq tS tX then match P.underlying tS with
  | some (.slice el)=>match P.info? el with
   | some i=>match yalv i,yajt σ i.size x with
    | some _,some (m,new,ok')=>bif Nat.ble i.bytes 512&&Nat.blt 0 i.size then match s with
      | (Sum.inl (Sum.inr (Sum.inr (Sum.inr (Sum.inr (Sum.inr (Sum.inr (Sum.inr ⟨(.slice none n c),_⟩))))))))=>some ⟨⟨.c (.sx k m),[],some (k,⟨true,new,i.size⟩)⟩,ok'&&(Nat.beq n 0&&Nat.beq c 0&&decide (m≤137438953472)&&Nat.blt 0 m),[],hs⟩
      | (Sum.inl (Sum.inr (Sum.inr (Sum.inr (Sum.inr (Sum.inl (j,o,n,c)))))))=>match yajt σ i.size (.c (.sl j o n c)) with
       | some (_,old,ok)=>some ⟨⟨.c (.sx k (n+m)),[],some (k,⟨true,old++new,i.size⟩)⟩,ok'&&(ok&&decide (n+m≤137438953472)&&decide (c<n+m)),[],hs⟩
       | none=>none
      | (Sum.inl (Sum.inr (Sum.inr (Sum.inr (Sum.inr (Sum.inr (Sum.inr (Sum.inl (j,n)))))))))=>match look σ.H j with
       | some e=>bif e.wr&&Nat.beq e.room i.size then some ⟨⟨.c (.sx k (n+m)),[(j,[])],some (k,⟨true,e.cells++new,i.size⟩)⟩,ok'&&(Nat.beq (n*i.size) e.cells.length&&decide (n+m≤137438953472)&&Nat.blt 0 n),[],hs⟩ else none
       | none=>none
      | _=>none
     else none
    | _,_=>none
   | none=>none
  | _=>none
  else none
 | _=>none
def zmu (cs:List AC):ByteArray:=⟨(cs.map (fun c=>UInt8.ofBitVec (AC.asY c))).toArray⟩
def yavl (P:Program) (σ:Kn) (T D:TypeId) (x:AV):Option (AV×Bool) :=
 match P.underlying T,P.underlying D with
 | some (.slice el),some .string=>match P.underlying el,yajt σ 1 x with
  | some (.int .u8),some (_,l,ok)=>some (.c (.s (zmu l)),ok&&l.all AC.isY)
  | _,_=>none
 | _,_=>none
def eOp (P:Program) (k:Nat) (σ:Kn) (hs:List Eff) (o:Op):Option Res :=
 match o with
 | .move x=>pv1 hs (σ.ev x)
 | .assign x=>pv1 hs (σ.ev x)
 | .pick c x y=>match σ.ev c with
  | some (Sum.inl (Sum.inr (Sum.inl (Sum.inl t))))=>match t with
   | true=>pv1 hs (σ.ev x)
   | false=>pv1 hs (σ.ev y)
  | _=>none
 | .alloc T=>match P.info? T with
  | some i=>match i.zero with
   | some z=>match avOf z with
    | some zv=>match AV.cells zv with
     | some cs=>some ⟨⟨.c (.w k),[],some (k,⟨true,cs,0⟩)⟩,true,[],hs⟩
     | none=>none
    | none=>none
   | none=>none
  | none=>none
 | .box _ x=>match σ.ev x with
  | some v=>match AV.cells v with
   | some cs=>some ⟨⟨.c (.w k),[],some (k,⟨true,cs,0⟩)⟩,true,[],hs⟩
   | none=>none
  | none=>none
 | .build T ps=>match zim σ ps.toList with
  | some l=>pv2 hs (yah9 P T l)
  | none=>none
 | .load T x=>match σ.ev x with
  | some a=>pv2 hs (yaff P T σ a)
  | none=>none
 | .store T x y=>match σ.ev x,σ.ev y with
  | some a,some v=>match yab1 P T σ a v with
   | some (k,l,ok)=>some ⟨⟨zqh,[(k,l)],none⟩,ok,[],hs⟩
   | none=>none
  | _,_=>none
 | .fieldAddr T x f=>match σ.ev x with
  | some a=>pv1 hs (zz5 P T f a)
  | none=>none
 | .field T x f=>match σ.ev x with
  | some a=>pv2 hs (zrm P T f a)
  | none=>none
 | .indexAddr T x ix=>match σ.ev x,σ.ev ix with
  | some a,some n=>pv2 hs (zlx P T a n)
  | _,_=>none
 | .index T x ix=>match σ.ev x,σ.ev ix with
  | some a,some n=>pv2 hs (yahu P T a n)
  | _,_=>none
 | .binOp op T x y _=>match σ.ev x,σ.ev y with
  | some (Sum.inl (Sum.inr (Sum.inl (Sum.inl a)))),some (Sum.inl (Sum.inr (Sum.inl (Sum.inl d))))=>match op,P.underlying T with
   | .eql,some .bool=>pv hs (.c (.b (a==d))) true
   | .neq,some .bool=>pv hs (.c (.b (!(a==d)))) true
   | _,_=>none
  | some (Sum.inr (Sum.inl l)),some (Sum.inr (Sum.inl r))=>pv2 hs (yat4 P op T l r)
  | some a,some d=>pv2 hs (yat2 P op T a d)
  | _,_=>none
 | .unOp op _ x=>match σ.ev x with
  | some a=>pv1 hs (eUn op a)
  | none=>none
 | .convert T D x=>match P.underlying T,σ.ev x with
  | some (.slice _),some a=>pv2 hs (yavl P σ T D a)
  | some _,some a=>pv1 hs (yatm P D a)
  | _,_=>none
 | .buildSlice T len ps=>match zim σ ps.toList with
  | some l=>zgb P k T len l hs
  | none=>none
 | .makeSlice T l c=>match σ.ev l,σ.ev c with
  | some n,some m=>zhu P k T n m hs
  | _,_=>none
 | .slice T x lo hi mx=>match σ.ev x,zup σ lo,zup σ hi,zup σ mx with
  | some a,some l,some h,some m=>pv2 hs (yaie P T a l h m)
  | _,_,_,_=>none
 | .extract x i=>match σ.ev x with
  | some a=>pv1 hs (zse a i)
  | none=>none
 | .makeFunc (.func g) first caps=>match first.toList,zi7 σ caps.toList with
  | [],some l=>match zpb l with
   | some ks=>pv hs (.c (.f g ks)) true
   | none=>none
  | _,_=>none
 | .call c=>match zi7 σ c.args.toList with
  | some args=>match c.callee with
   | .builtin .append=>match args with
    | [s,x]=>znc P σ k c.argTypes s x hs
    | _=>none
   | .builtin bi=>pv1 hs (zqw P bi c.argTypes args)
   | .value x=>match σ.ev x with
    | some (Sum.inl (Sum.inr (Sum.inr (Sum.inr (Sum.inr (Sum.inr (Sum.inl (g,caps))))))))=>yanj P k σ hs g args caps
    | _=>none
   | _=>none
  | none=>none
 | _=>none
theorem zal {P:Program} {T:TypeId} {d:TypeDesc} (h:P.underlying T=some d) (w:World):(underlying T).run P w=.ok d w:=by
 simp [underlying,h,go_sem]
theorem zi9 {P:Program} {T:TypeId} {i:TypeInfo} (h:P.info? T=some i) (w:World):(typeInfo T).run P w=.ok i w:=by
 simp [typeInfo,h,go_sem]
theorem zbq {P:Program} {T:TypeId} {i:TypeInfo} (h:P.info? T=some i) (w:World):(Go.sizeOf T).run P w=.ok i.size w:=by
 simp [Go.sizeOf,zi9 h,go_sem]
theorem zdo {P:Program} {T:TypeId} {d:TypeDesc} (h:P.underlying T=some d) (w:World):(isAgg T).run P w=.ok (isAg d) w:=by
 cases d <;> simp [isAgg,zal h,go_sem,isAg]
theorem zhb {P:Program} {T:TypeId} {i:TypeInfo} {z:Value} (h:P.info? T=some i) (hz:i.zero=some z) (w:World):(zeroValue T).run P w=.ok z w:=by
 simp [zeroValue,zi9 h,hz,go_sem]
theorem yaq3 {x:Value} {c:AC} (h:acOf x=some c):(∀ β,c.g β=x)∧c.ks=[]:=by
 unfold acOf at h
 split at h
 ·injection h with h;subst h;exact ⟨fun _=>rfl,rfl⟩
 ·split at h
  ·rename_i n hn
   injection h with h;subst h
   refine ⟨fun _=>?_,rfl⟩
   simp only [AC.g,nv,BitVec.toNat_ofNat]
   congr 1
   omega
  ·cases h
 ·injection h with h;subst h;exact ⟨fun _=>rfl,rfl⟩
 ·split at h
  ·rename_i n hn
   injection h with h;subst h
   refine ⟨fun _=>?_,rfl⟩
   simp only [AC.g,BitVec.toNat_ofNat]
   congr 1
   omega
  ·cases h
 ·injection h with h;subst h;exact ⟨fun _=>rfl,rfl⟩
 ·split at h
  ·injection h with h;subst h;exact ⟨fun _=>rfl,rfl⟩
  ·cases h
theorem yaj6:∀ {l:List Value} {r:List AC},yano l=some r→(∀ β,r.map (AC.g β)=l)∧∀ c,c∈r→c.ks=[]
 | [],r,h=>by injection h with h;subst h;exact ⟨fun _=>rfl,fun _ h=>by cases h⟩
 | x::l,r,h=>by
  unfold yano at h
  split at h
  ·rename_i c r' h1 h2
   injection h with h;subst h
   obtain ⟨i1,i2⟩:=yaj6 h2
   obtain ⟨j1,j2⟩:=yaq3 h1
   refine ⟨fun β=>by simp [j1 β,i1 β],fun c hc=>?_⟩
   rcases List.mem_cons.1 hc with h | h
   ·rw [h];exact j2
   ·exact i2 c h
  ·cases h
theorem yao8 {l:List AC} (h:∀ c,c∈l→c.ks=[]):l.flatMap AC.ks=[]:=by
 induction l with
 | nil=>rfl
 | cons c l ih=>rw [List.flatMap_cons,h c (by simp),ih fun c hc=>h c (by simp [hc])];rfl
theorem zz7 {x:Value} {v:AV} (h:avOf x=some v):(∀ β,v.g β=x)∧v.ks=[]:=by
 unfold avOf at h
 split at h
 ·split at h
  ·rename_i l hl
   injection h with h;subst h
   obtain ⟨i1,i2⟩:=yaj6 hl
   exact ⟨fun β=>by simp [AV.g,i1 β],yao8 i2⟩
  ·cases h
 ·injection h with h;subst h;exact ⟨fun _=>rfl,rfl⟩
 ·split at h
  ·rename_i c hc
   injection h with h;subst h
   obtain ⟨j1,j2⟩:=yaq3 hc
   exact ⟨fun β=>j1 β,j2⟩
  ·cases h
theorem Rel.ev {C:Cx} {N:Nat} {β:Bs} {S:Nat→Prop} {σ:Kn} {a:Act} {w:World} (h:Rel C N β S σ a w) {x:Operand} {v:AV} (hx:σ.ev x=some v) :
  a.eval x=v.g β∧∀ k,k∈v.ks→S k:=by
 cases x with
 | tmp t =>
  obtain ⟨h1,h2⟩:=h.tmp t v hx
  exact ⟨by simp [Act.eval,Array.getD_eq_getD_getElem?,h1],h2⟩
 | const c =>
  obtain ⟨h1,h2⟩:=zz7 (show avOf c=some v from hx)
  exact ⟨(h1 β).symm,fun k hk=>by rw [h2] at hk;cases hk⟩
 | global g=>cases hx
 | func g =>
  have:v=.c (.f g []):=by simp only [Kn.ev,Option.some.injEq] at hx;exact hx.symm
  subst this
  exact ⟨rfl,fun k hk=>by cases hk⟩
theorem zg3 {v:AV} {l:List AC} (h:v.cells=some l) (β:Bs):(v.g β).cells=(l.map (AC.g β)).toArray∧∀ k,k∈l.flatMap AC.ks→k∈v.ks:=by
 cases v using AV.tells with
 | c x =>
  injection h with h;subst h
  refine ⟨?_,fun k hk=>by simpa [AV.ks] using hk⟩
  have:=AC.one β x
  show (x.g β).cells=#[x.g β]
  generalize x.g β=y at this
  cases y <;> first | rfl | (simp [Value.oneCell'] at this)
 | ag r=>injection h with h;subst h;exact ⟨rfl,fun k hk=>hk⟩
 | tu _=>cases h
 | raw _=>cases h
def zdf (P:Program) (o:Oper) (φ:Kn) (e:Eff):Prop :=
 WrOk e φ.H ∧
 ∀ C N β S a w,Rel C N β S φ a w→(∀ k cs,e.nw=some (k,cs)→¬ S k) →
  e.Keys S∧o.wp P a w (fun a' w'=>∃ β',Up e β β' w w'∧a'=a.put o.dst (e.v.g β')) (fun _ _ _=>False)
theorem ztv {v:AV} {S:Nat→Prop} (h:∀ k,k∈v.ks→S k):Eff.Keys ⟨v,[],none⟩ S :=
 ⟨h,fun _ _ hm=>(nomatch hm),fun _ _ hm=>(nomatch hm)⟩
theorem Up.pure (v:AV) (β:Bs) (w:World):Up ⟨v,[],none⟩ β β w w:=⟨Fr.refl _ _,fun _ _ hm=>(nomatch hm),rfl⟩
theorem za6 {P:Program} {o:Oper} {φ:Kn} {v:AV}
  (h:∀ C N β S a w,Rel C N β S φ a w→(∀ k,k∈v.ks→S k)∧(execOp a.eval o).run P w=.ok (.value (v.g β)) w):zdf P o φ ⟨v,[],none⟩ :=
 ⟨fun _ _ hm=>(nomatch hm),fun C N β S a w hr _=>by
  obtain ⟨hk,hrun⟩:=h C N β S a w hr
  refine ⟨ztv hk,?_⟩
  unfold Oper.wp
  rw [hrun]
  exact ⟨β,Up.pure v β w,rfl⟩⟩
section
variable {P:Program}
theorem yadn {o:Oper} {φ:Kn} {x:Operand} {v:AV} (ho:o.op=.move x) (h:φ.ev x=some v):zdf P o φ ⟨v,[],none⟩ :=
 za6 fun C N β S a w hr=>by
  obtain ⟨h1,h2⟩:=hr.ev h
  generalize a.eval=ρ at h1
  exact ⟨h2,by simp [execOp,ho,h1,go_sem]⟩
theorem zwl {o:Oper} {φ:Kn} {x:Operand} {v:AV} (ho:o.op=.assign x) (h:φ.ev x=some v):zdf P o φ ⟨v,[],none⟩ :=
 za6 fun C N β S a w hr=>by
  obtain ⟨h1,h2⟩:=hr.ev h
  generalize a.eval=ρ at h1
  exact ⟨h2,by simp [execOp,ho,h1,go_sem]⟩
theorem zqm {o:Oper} {φ:Kn} {c x y:Operand} {t:Bool} {v:AV} (ho:o.op=.pick c x y) (hc:φ.ev c=some (.c (.b t))) (h:φ.ev (if t then x else y)=some v):zdf P o φ ⟨v,[],none⟩ :=
 za6 fun C N β S a w hr=>by
  obtain ⟨h1,h2⟩:=hr.ev h
  obtain ⟨h3,_⟩:=hr.ev hc
  refine ⟨h2,?_⟩
  have h3':a.eval c=.bool t:=h3
  generalize a.eval=ρ at *
  cases t
  ·simp at h1;simp [execOp,ho,h3',h1,go_sem,asBool]
  ·simp at h1;simp [execOp,ho,h3',h1,go_sem,asBool]
theorem yaq9 {v:AV} {β:Bs} {w w1:World} {k r c:Nat} {cs:List AC} {T:TypeId} {all:Array Value} (hw:Fr (fun _=>False) w w1) (hall:∀ (j:Nat) (c:AC),cs[j]?=some c→all[j]?=some (c.g β))
  (hr:r≠0→cs.length≤c*r∧c*r≤all.size) (hk:∀ c,c∈cs→∀ j,j∈c.ks→j≠k) :
  Up ⟨v,[],some (k,⟨true,cs,r⟩)⟩ β (bset β k (w1.heap.size,0,c)) w (w1.alloc (.cells all T)):=by
 refine ⟨⟨hw.os,hw.tape,hw.output,by have:=hw.size;simp;omega,fun B hB _=>(Below.heap_alloc _ _ _ (Nat.lt_of_lt_of_le hB hw.size)).trans (hw.block B hB id)⟩,fun _ _ hm=>absurd hm List.not_mem_nil,⟨w1.heap.size,0,c,Or.inl hw.size,by simp,rfl,?_⟩⟩
 have hb:bset β k (w1.heap.size,0,c) k=(w1.heap.size,0,c):=by simp [bset]
 have hp:∀ j,ptr (bset β k (w1.heap.size,0,c)) k j=⟨w1.heap.size,j,none⟩:=fun j=>by simp [ptr,hb]
 refine ⟨by rw [hb];simp,fun j c hj=>?_,fun _ j hj=>?_,fun hr0 _=>?_⟩
 ·rw [hp,World.cell?_alloc_at _ _ _ _ rfl]
  refine (hall j c hj).trans (congrArg some ?_)
  exact (c.g_congr fun k' hk'=>by unfold bset;rw [if_neg (hk c (List.mem_of_getElem? hj) k' hk')]).symm
 ·rw [hp,World.frozen?_alloc_at _ _ _ _ rfl]
 ·rw [hb]
  obtain ⟨h1,h2⟩:=hr hr0
  refine ⟨h1,fun j hj=>⟨?_,?_⟩⟩
  ·rw [hp,World.cell?_alloc_at _ _ _ _ rfl]
   have:j<all.size:=Nat.lt_of_lt_of_le hj h2
   exact ⟨all[j],by simp [this]⟩
  ·rw [hp,World.frozen?_alloc_at _ _ _ _ rfl]
theorem yap4 {v:AV} {β:Bs} {w:World} {k:Nat} {cs:List AC} {T:TypeId} (hk:∀ c,c∈cs→∀ j,j∈c.ks→j≠k) :
  Up ⟨v,[],some (k,⟨true,cs,0⟩)⟩ β (bset β k (w.heap.size,0,0)) w (w.alloc (.cells (cs.map (AC.g β)).toArray T)) :=
 yaq9 (Fr.refl _ _) (fun j c hj=>by simp [hj]) (fun h=>absurd rfl h) hk
theorem zth {o:Oper} {φ:Kn} {k:Nat} {cs:List AC}
  (h:∀ C N β S a w,Rel C N β S φ a w→(∀ c,c∈cs→∀ j,j∈c.ks→S j)∧∃ T,(execOp a.eval o).run P w=.ok (.value (.pointer (some ⟨w.heap.size,0,none⟩))) (w.alloc (.cells (cs.map (AC.g β)).toArray T))) :
  zdf P o φ ⟨.c (.w k),[],some (k,⟨true,cs,0⟩)⟩ :=
 ⟨fun _ _ hm=>(nomatch hm),fun C N β S a w hr hn=>by
  obtain ⟨hk,T,hrun⟩:=h C N β S a w hr
  have hnk:=hn k _ rfl
  refine ⟨⟨fun j hj=>?_,fun _ _ hm=>(nomatch hm),fun k' cs' he c hc j hj=>?_⟩,?_⟩
  ·simp [AV.ks,AC.ks] at hj;exact Or.inr hj
  ·simp at he;rw [← he.2] at hc;exact Or.inl (hk c hc j hj)
  ·unfold Oper.wp
   rw [hrun]
   refine ⟨_,yap4 (T:=T) fun c hc j hj e=>hnk (e ▸ hk c hc j hj),?_⟩
   simp [AV.g,AC.g,ptr,bset]⟩
theorem zdy {l:List AC} {c:AC} {j:Nat} (hc:c∈l) (hj:j∈c.ks):j∈l.flatMap AC.ks:=List.mem_flatMap.2 ⟨c,hc,hj⟩
theorem zyg {o:Oper} {φ:Kn} {k:Nat} {T:TypeId} {i:TypeInfo} {z:Value} {zv:AV} {cs:List AC} (ho:o.op=.alloc T) (hi:P.info? T=some i) (hz:i.zero=some z) (hv:avOf z=some zv) (hc:zv.cells=some cs) :
  zdf P o φ ⟨.c (.w k),[],some (k,⟨true,cs,0⟩)⟩ :=
 zth fun C N β S a w hr=>by
  obtain ⟨h1,h2⟩:=zz7 hv
  obtain ⟨h3,h4⟩:=zg3 hc β
  refine ⟨fun c hcc j hj=>(by have:=h4 j (zdy hcc hj);rw [h2] at this;cases this),T,?_⟩
  rw [h1] at h3
  generalize a.eval=ρ at *
  simp [execOp,ho,Instr.alloc,zhb hi hz,go_sem]
  exact congrArg (fun c=>w.alloc (.cells c T)) h3
theorem yaj1 {o:Oper} {φ:Kn} {k:Nat} {T:TypeId} {x:Operand} {v:AV} {cs:List AC} (ho:o.op=.box T x) (hx:φ.ev x=some v) (hc:v.cells=some cs) :
  zdf P o φ ⟨.c (.w k),[],some (k,⟨true,cs,0⟩)⟩ :=
 zth fun C N β S a w hr=>by
  obtain ⟨h1,h2⟩:=hr.ev hx
  obtain ⟨h3,h4⟩:=zg3 hc β
  refine ⟨fun c hcc j hj=>h2 j (h4 j (zdy hcc hj)),T,?_⟩
  generalize a.eval=ρ at *
  simp [execOp,ho,Instr.box,h1,go_sem]
  exact congrArg (fun c=>w.alloc (.cells c T)) h3
theorem zgd (β:Bs) (k o n:Nat):(ptr β k o).add n=ptr β k (o+n):=by
 unfold Addr.add ptr
 split
 ·rename_i h;subst h;rfl
 ·simp [Nat.add_assoc]
def AV.ptr?:AV→Option (Nat×Nat)
 | (Sum.inl (Sum.inr (Sum.inr (Sum.inl (Sum.inl k)))))=>some (k,0)
 | (Sum.inl (Sum.inr (Sum.inr (Sum.inl (Sum.inr (k,o))))))=>some (k,o)
 | _=>none
theorem yaiy {v:AV} {k o:Nat} (h:v.ptr?=some (k,o)) (β:Bs):v.g β=.pointer (some (ptr β k o))∧v.ks=[k]:=by
 unfold AV.ptr? at h
 split at h
 ·simp at h;obtain ⟨rfl,rfl⟩:=h;exact ⟨rfl,rfl⟩
 ·simp at h;obtain ⟨rfl,rfl⟩:=h;exact ⟨rfl,rfl⟩
 ·cases h
theorem zwy {T:TypeId} {f:Nat} {x v:AV} (h:zz5 P T f x=some v) :
  ∃ fs fd i k o,P.underlying T=some (.struct fs)∧fs[f]?=some fd∧P.info? fd.type=some i∧i.size≠0∧x.ptr?=some (k,o)∧v=.c (.p k (o+fd.offset)):=by
 unfold zz5 at h
 split at h
 ·rename_i fs hu
  split at h
  ·rename_i fd hf
   split at h
   ·rename_i i hi
    cases hb:Nat.beq i.size 0 with
    | true=>simp [hb] at h
    | false =>
     have hne:i.size≠0:=fun e=>by rw [e] at hb;cases hb
     simp only [hb,cond_false] at h
     split at h
     ·simp at h;subst h;exact ⟨fs,fd,i,_,0,hu,hf,hi,hne,rfl,by simp⟩
     ·simp at h;subst h;exact ⟨fs,fd,i,_,_,hu,hf,hi,hne,rfl,rfl⟩
     ·cases h
   ·cases h
  ·cases h
 ·cases h
theorem zob {o:Oper} {φ:Kn} {T:TypeId} {x:Operand} {f:Nat} {xv v:AV} (ho:o.op=.fieldAddr T x f) (hx:φ.ev x=some xv) (h:zz5 P T f xv=some v):zdf P o φ ⟨v,[],none⟩ :=
 za6 fun C N β S a w hr=>by
  obtain ⟨h1,h2⟩:=hr.ev hx
  obtain ⟨fs,fd,i,k,off,hu,hf,hi,hne,hp,rfl⟩:=zwy h
  obtain ⟨g1,g2⟩:=yaiy hp β
  rw [g1] at h1
  rw [g2] at h2
  refine ⟨fun j hj=>h2 j hj,?_⟩
  generalize a.eval=ρ at *
  have hs:=zbq hi w
  have hu':=zal hu w
  simp [execOp,ho,h1,Instr.fieldAt,hu',hf,Instr.sureAddr,fieldPlace,hs,hne,zgd,AV.g,AC.g,Sem.run_bind]
theorem zpv {v:AV} {n:Int} (h:v.int?=some n) (β:Bs):∃ kd,v.g β=.int kd n:=by
 unfold AV.int? at h
 split at h
 ·simp at h;subst h;exact ⟨_,rfl⟩
 ·simp at h;subst h;exact ⟨_,rfl⟩
 ·simp at h;subst h;exact ⟨_,rfl⟩
 ·cases h
theorem yayj {v:AV} {k o n:Nat} (h:v.row?=some (k,o,n)) (β:Bs):(∃ c,v.g β=.slice (some (ptr β k o)) n c)∧v.ks=[k]:=by
 unfold AV.row? at h
 split at h
 ·simp at h;obtain ⟨rfl,rfl,rfl⟩:=h;exact ⟨⟨_,rfl⟩,rfl⟩
 ·simp at h;obtain ⟨rfl,rfl,rfl⟩:=h;exact ⟨⟨_,rfl⟩,rfl⟩
 ·cases h
theorem zrn {T:TypeId} {x ix v:AV} {ok:Bool} (h:zlx P T x ix=some (v,ok)) (hok:ok=true) :
  ∃ n len el i k o,ix.int?=some n∧P.info? el=some i∧0≤n∧n<(len:Nat)∧v=.c (.p k (o+n.toNat*i.size)) ∧
   ((P.underlying T=some (.array len el)∧x.ptr?=some (k,o))∨(P.underlying T=some (.slice el)∧x.row?=some (k,o,len))):=by
 unfold zlx at h
 split at h
 ·rename_i n hn
  split at h
  ·rename_i len el hu
   split at h
   ·rename_i i hi
    split at h
    ·simp at h;obtain ⟨rfl,rfl⟩:=h
     simp at hok
     exact ⟨n,len,el,i,_,0,hn,hi,hok.1,hok.2,by simp,Or.inl ⟨hu,rfl⟩⟩
    ·simp at h;obtain ⟨rfl,rfl⟩:=h
     simp at hok
     exact ⟨n,len,el,i,_,_,hn,hi,hok.1,hok.2,rfl,Or.inl ⟨hu,rfl⟩⟩
    ·cases h
   ·cases h
  ·rename_i el hu
   split at h
   ·rename_i i hi
    split at h
    ·simp at h;obtain ⟨rfl,rfl⟩:=h
     simp at hok
     exact ⟨n,_,el,i,_,_,hn,hi,hok.1,hok.2,rfl,Or.inr ⟨hu,rfl⟩⟩
    ·simp at h;obtain ⟨rfl,rfl⟩:=h
     simp at hok
     exact ⟨n,_,el,i,_,0,hn,hi,hok.1,hok.2,by simp,Or.inr ⟨hu,rfl⟩⟩
    ·cases h
   ·cases h
  ·cases h
 ·cases h
theorem zmr {o:Oper} {φ:Kn} {T:TypeId} {x y:Operand} {xv yv v:AV} {ok:Bool} (ho:o.op=.indexAddr T x y) (hx:φ.ev x=some xv) (hy:φ.ev y=some yv) (h:zlx P T xv yv=some (v,ok)) (hok:ok=true):zdf P o φ ⟨v,[],none⟩ :=
 za6 fun C N β S a w hr=>by
  obtain ⟨h1,h2⟩:=hr.ev hx
  obtain ⟨h3,_⟩:=hr.ev hy
  obtain ⟨n,len,el,i,k,off,hn,hi,hn0,hn1,rfl,hc⟩:=zrn h hok
  obtain ⟨kd,hg⟩:=zpv hn β
  rw [hg] at h3
  have hs:=zbq hi w
  rcases hc with ⟨hu,hp⟩ | ⟨hu,hp⟩
  ·obtain ⟨g1,g2⟩:=yaiy hp β
   rw [g1] at h1
   rw [g2] at h2
   refine ⟨fun j hj=>h2 j hj,?_⟩
   generalize a.eval=ρ at *
   have hu':=zal hu w
   simp [execOp,ho,h1,h3,Instr.indexAt,hu',asIntOf,Instr.sureAddr,hs,hn0,hn1,zgd,AV.g,AC.g,Sem.run_bind]
  ·obtain ⟨⟨c,g1⟩,g2⟩:=yayj hp β
   rw [g2] at h2
   refine ⟨fun j hj=>h2 j hj,?_⟩
   have h1':a.eval x=.slice (some (ptr β k off)) len c:=h1.trans g1
   clear h1
   generalize a.eval=ρ at *
   have hu':=zal hu w
   simp [execOp,ho,h1',h3,Instr.indexAt,hu',asIntOf,hs,hn0,hn1,zgd,AV.g,AC.g,Sem.run_bind]
theorem zz6 {β:Bs} {w:World} {k o:Nat} {e:Ent} (hb:Blk β w k e) (ho:Nat.blt o e.cells.length=true) (d:AC):e.cells[o]?=some (e.cells.getD o d)∧w.cell? (ptr β k o)=some ((e.cells.getD o d).g β):=by
 have ho':o<e.cells.length:=by simpa using ho
 have h1:e.cells[o]?=some (e.cells.getD o d):=by
  rw [List.getD_eq_getElem?_getD,List.getElem?_eq_getElem ho'];rfl
 exact ⟨h1,hb.cell o _ h1⟩
theorem zmb {β:Bs} {w:World} {k o n:Nat} {e:Ent} (hb:Blk β w k e) (ho:o+n≤e.cells.length) :
  (loadCells (ptr β k o) n).run P w=.ok (((e.cells.drop o).take n).map (AC.g β)).toArray w:=by
 have hl:(((e.cells.drop o).take n).map (AC.g β)).length=n:=by simp;omega
 have:=run_loadCells_list (P:=P) w (ptr β k o) (((e.cells.drop o).take n).map (AC.g β)) (by
  intro j v hj
  rw [List.getElem?_map] at hj
  cases hc:((e.cells.drop o).take n)[j]? with
  | none=>rw [hc] at hj;cases hj
  | some c =>
   rw [hc] at hj
   simp at hj
   subst hj
   rw [zgd]
   refine hb.cell (o+j) c ?_
   rw [List.getElem?_take] at hc
   split at hc
   ·rw [List.getElem?_drop] at hc;exact hc
   ·cases hc)
 rwa [hl] at this
theorem zpn {T:TypeId} {k o:Nat} {e:Ent} {v:AV} {ok:Bool} {β:Bs} {w:World} (h:zy0 P T e.cells o=some (v,ok)) (hok:ok=true) (hb:Blk β w k e) :
  (loadVar T (ptr β k o)).run P w=.ok (v.g β) w∧∀ j,j∈v.ks→∃ c,c∈e.cells∧j∈c.ks:=by
 unfold zy0 at h
 split at h
 ·rename_i d i hu hi
  cases ha:isAg d with
  | true =>
   simp only [ha,cond_true,Option.some.injEq,Prod.mk.injEq] at h
   obtain ⟨rfl,rfl⟩:=h
   have:=zmb (P:=P) hb (Nat.le_of_ble_eq_true hok)
   refine ⟨by simp [loadVar,zdo hu,ha,zbq hi,this,AV.g,Sem.run_bind],fun j hj=>?_⟩
   obtain ⟨c,hc,hj⟩:=List.mem_flatMap.1 hj
   exact ⟨c,List.mem_of_mem_drop (List.mem_of_mem_take hc),hj⟩
  | false =>
   simp only [ha,cond_false,Option.some.injEq,Prod.mk.injEq] at h
   obtain ⟨rfl,rfl⟩:=h
   rw [Bool.and_eq_true] at hok
   obtain ⟨h1,h2⟩:=zz6 hb hok.2 (.b false)
   rw [zwz hok.1]
   refine ⟨by simp [loadVar,zdo hu,ha,load,h2,AV.g,Sem.run_bind,Sem.run],fun j hj=>⟨_,List.mem_of_getElem? h1,hj⟩⟩
 ·cases h
theorem zl8 {T:TypeId} {k:Nat} {e:Ent} {v:AV} {ok:Bool} {β:Bs} {w:World} (h:yaja P T e.cells=some (v,ok)) (hok:ok=true) (hb:Blk β w k e) :
  (loadVar T (ptr β k 0)).run P w=.ok (v.g β) w∧∀ j,j∈v.ks→∃ c,c∈e.cells∧j∈c.ks:=by
 unfold yaja at h
 split at h
 ·rename_i d i hu hi
  cases ha:isAg d with
  | true =>
   simp only [ha,cond_true,Option.some.injEq,Prod.mk.injEq] at h
   obtain ⟨rfl,rfl⟩:=h
   have hl:=Nat.eq_of_beq_eq_true hok
   have:=zmb (P:=P) (o:=0) (n:=i.size) hb (by omega)
   rw [List.drop_zero,List.take_of_length_le (by omega)] at this
   refine ⟨by simp [loadVar,zdo hu,ha,zbq hi,this,AV.g,Sem.run_bind],fun j hj=>?_⟩
   obtain ⟨c,hc,hj⟩:=List.mem_flatMap.1 hj
   exact ⟨c,hc,hj⟩
  | false =>
   simp only [ha,cond_false,Option.some.injEq,Prod.mk.injEq] at h
   obtain ⟨rfl,rfl⟩:=h
   rw [Bool.and_eq_true] at hok
   obtain ⟨h1,h2⟩:=zz6 hb hok.2 (.b false)
   rw [zwz hok.1]
   refine ⟨by simp [loadVar,zdo hu,ha,load,h2,AV.g,Sem.run_bind,Sem.run],fun j hj=>⟨_,List.mem_of_getElem? h1,hj⟩⟩
 ·cases h
theorem yacz {o:Oper} {φ:Kn} {T:TypeId} {x:Operand} {xv v:AV} {ok:Bool} (ho:o.op=.load T x) (hx:φ.ev x=some xv) (h:yaff P T φ xv=some (v,ok)) (hok:ok=true):zdf P o φ ⟨v,[],none⟩ :=
 za6 fun C N β S a w hr=>by
  obtain ⟨h1,h2⟩:=hr.ev hx
  unfold yaff at h
  split at h
  ·rename_i k
   split at h
   ·rename_i e hl
    obtain ⟨_,hb,hk,_⟩:=hr.blk k e hl
    obtain ⟨g1,g2⟩:=zl8 h hok hb
    have h1':a.eval x=.pointer (some (ptr β k 0)):=h1
    refine ⟨fun j hj=>(by obtain ⟨c,hc,hj⟩:=g2 j hj;exact hk c hc j hj),?_⟩
    clear h1
    generalize a.eval=ρ at *
    simp [execOp,ho,h1',Instr.loadAt,Instr.sureAddr,g1]
   ·cases h
  ·rename_i k off
   split at h
   ·rename_i e hl
    obtain ⟨_,hb,hk,_⟩:=hr.blk k e hl
    obtain ⟨g1,g2⟩:=zpn h hok hb
    have h1':a.eval x=.pointer (some (ptr β k off)):=h1
    refine ⟨fun j hj=>(by obtain ⟨c,hc,hj⟩:=g2 j hj;exact hk c hc j hj),?_⟩
    clear h1
    generalize a.eval=ρ at *
    simp [execOp,ho,h1',Instr.loadAt,Instr.sureAddr,g1]
   ·cases h
  ·cases h
theorem zzw {T:TypeId} {cs:List AC} {off:Nat} {v:AV} {ok:Bool} (β:Bs) (w:World) (h:zy0 P T cs off=some (v,ok)) (hok:ok=true) :
  (part T (cs.map (AC.g β)).toArray off).run P w=.ok (v.g β) w∧∀ j,j∈v.ks→j∈cs.flatMap AC.ks:=by
 unfold zy0 at h
 split at h
 ·rename_i d i hu hi
  cases ha:isAg d with
  | true =>
   simp only [ha,cond_true,Option.some.injEq,Prod.mk.injEq] at h
   obtain ⟨rfl,rfl⟩:=h
   refine ⟨?_,fun j hj=>?_⟩
   ·simp [part,zdo hu,ha,zbq hi,AV.g,Sem.run_bind]
   ·obtain ⟨c,hc,hj⟩:=List.mem_flatMap.1 hj
    exact zdy (List.mem_of_mem_drop (List.mem_of_mem_take hc)) hj
  | false =>
   simp only [ha,cond_false,Option.some.injEq,Prod.mk.injEq] at h
   obtain ⟨rfl,rfl⟩:=h
   rw [Bool.and_eq_true] at hok
   have ho':off<cs.length:=by simpa using hok.2
   have h1:cs[off]?=some (cs.getD off (.b false)):=by
    rw [List.getD_eq_getElem?_getD,List.getElem?_eq_getElem ho'];rfl
   rw [zwz hok.1]
   refine ⟨?_,fun j hj=>zdy (List.mem_of_getElem? h1) hj⟩
   have h2:(cs.map (AC.g β)).toArray[off]?=some ((cs.getD off (.b false)).g β):=by rw [List.getElem?_toArray,List.getElem?_map,h1];rfl
   simp [part,zdo hu,ha,h2,AV.g,Sem.run_bind]
 ·cases h
theorem zxd {o:Oper} {φ:Kn} {T:TypeId} {x:Operand} {f:Nat} {xv v:AV} {ok:Bool} (ho:o.op=.field T x f) (hx:φ.ev x=some xv) (h:zrm P T f xv=some (v,ok)) (hok:ok=true):zdf P o φ ⟨v,[],none⟩ :=
 za6 fun C N β S a w hr=>by
  obtain ⟨h1,h2⟩:=hr.ev hx
  unfold zrm at h
  split at h
  ·rename_i fs cs hu
   split at h
   ·rename_i fd hf
    obtain ⟨g1,g2⟩:=zzw β w h hok
    refine ⟨fun j hj=>h2 j (g2 j hj),?_⟩
    have h1':a.eval x=.agg (cs.map (AC.g β)).toArray:=h1
    clear h1
    generalize a.eval=ρ at *
    have hu':=zal hu w
    simp [execOp,ho,h1',Instr.field,hu',hf,asAgg,Sem.run_bind]
    rw [g1]
    simp
   ·cases h
  ·cases h
theorem zx8 {o:Oper} {φ:Kn} {T:TypeId} {x y:Operand} {xv yv v:AV} {ok:Bool} (ho:o.op=.index T x y) (hx:φ.ev x=some xv) (hy:φ.ev y=some yv) (h:yahu P T xv yv=some (v,ok)) (hok:ok=true):zdf P o φ ⟨v,[],none⟩ :=
 za6 fun C N β S a w hr=>by
  obtain ⟨h1,h2⟩:=hr.ev hx
  obtain ⟨h3,_⟩:=hr.ev hy
  unfold yahu at h
  split at h
  ·rename_i n hn
   obtain ⟨kd,hg⟩:=zpv hn β
   rw [hg] at h3
   split at h
   ·rename_i len el cs hu
    split at h
    ·rename_i i hi
     split at h
     ·rename_i v' ok' hp
      simp only [Option.some.injEq,Prod.mk.injEq] at h
      obtain ⟨rfl,rfl⟩:=h
      simp only [Bool.and_eq_true,decide_eq_true_eq] at hok
      obtain ⟨g1,g2⟩:=zzw β w hp hok.1
      refine ⟨fun j hj=>h2 j (g2 j hj),?_⟩
      have h1':a.eval x=.agg (cs.map (AC.g β)).toArray:=h1
      clear h1
      generalize a.eval=ρ at *
      have hu':=zal hu w
      have hs:=zbq hi w
      simp [execOp,ho,h1',h3,Instr.index,hu',asIntOf,hs,hok.2.1,hok.2.2,Sem.run_bind]
      rw [g1]
      simp
     ·cases h
    ·cases h
   ·rename_i t hu
    simp only [Option.some.injEq,Prod.mk.injEq] at h
    obtain ⟨rfl,rfl⟩:=h
    simp only [Bool.and_eq_true,decide_eq_true_eq] at hok
    refine ⟨fun j hj=>(nomatch hj),?_⟩
    have h1':a.eval x=.string t:=h1
    clear h1
    generalize a.eval=ρ at *
    have hu':=zal hu w
    have hb:t[n.toNat]?=some (t.data.getD n.toNat 0):=by
     have hlt:n.toNat<t.data.size:=hok.2
     show (if h:n.toNat<t.size then some (t[n.toNat]'h) else none)=_
     rw [dif_pos hok.2,Array.getD_eq_getD_getElem?,Array.getElem?_eq_getElem hlt]
     rfl
    simp [execOp,ho,h1',h3,Instr.index,hu',asIntOf,hok.1,hb,Sem.run_bind,AV.g,AC.g,zeg]
   ·cases h
  ·cases h
end
theorem zjh {cs:List AC} {o:Nat} {l:List AC} (h:o+l.length≤cs.length):splice cs o l=cs.take o++(l++cs.drop (o+l.length)):=by
 unfold splice
 split
 ·rename_i c
  have:o<cs.length:=by simp at h;omega
  rw [List.set_eq_take_append_cons_drop,if_pos this]
  simp
 ·rfl
theorem yacx {cs:List AC} {o:Nat} {l:List AC} (h:o+l.length≤cs.length):(splice cs o l).length=cs.length:=by
 rw [zjh h];simp;omega
theorem zpe {cs:List AC} {o:Nat} {l:List AC} (h:o+l.length≤cs.length) (j:Nat) :
  (splice cs o l)[j]?=if o≤j∧j<o+l.length then l[j - o]? else cs[j]?:=by
 rw [zjh h]
 have ho:(cs.take o).length=o:=by simp;omega
 by_cases h1:j<o
 ·rw [List.getElem?_append_left (by omega),List.getElem?_take,if_pos h1,if_neg (by omega)]
 ·rw [List.getElem?_append_right (by omega),ho]
  by_cases h2:j<o+l.length
  ·rw [List.getElem?_append_left (by omega),if_pos ⟨by omega,h2⟩]
  ·rw [List.getElem?_append_right (by omega),List.getElem?_drop,if_neg (by omega)]
   congr 1;omega
theorem zqk {cs:List AC} {o:Nat} {l:List AC} (h:o+l.length≤cs.length) {c:AC} (hc:c∈splice cs o l):c∈l∨c∈cs:=by
 rw [zjh h] at hc
 simp only [List.mem_append] at hc
 rcases hc with h1 | h1 | h1
 ·exact Or.inr (List.mem_of_mem_take h1)
 ·exact Or.inl h1
 ·exact Or.inr (List.mem_of_mem_drop h1)
theorem zgc (b:Nat):∀ (vs:List Value) (o:Nat) (w:World) (k:Nat),k≠b→(w.setCells b o vs).heap[k]?=w.heap[k]?
 | [],_,_,_,_=>rfl
 | v::r,o,w,k,h=>by rw [World.setCells,zgc b r (o+1) _ k h,Below.heap_setCell _ _ _ _ (by simpa using h)]
theorem za9 (b:Nat):∀ (vs:List Value) (o:Nat) (w:World),(w.setCells b o vs).os=w.os∧(w.setCells b o vs).tape=w.tape∧(w.setCells b o vs).output=w.output∧(w.setCells b o vs).heap.size=w.heap.size
 | [],_,_=>⟨rfl,rfl,rfl,rfl⟩
 | v::r,o,w=>by
  obtain ⟨h1,h2,h3,h4⟩:=za9 b r (o+1) (w.setCell ⟨b,o,none⟩ v)
  rw [World.setCells]
  exact ⟨h1,h2,h3,by rw [h4];simp⟩
theorem yalf {β:Bs} {w:World} {k o:Nat} {cs l:List AC} {rm:Nat} (hb:Blk β w k ⟨true,cs,rm⟩) (ho:o+l.length≤cs.length) :
  Blk β (w.setCells (β k).1 ((β k).2.1+o) (l.map (AC.g β))) k ⟨true,splice cs o l,0⟩:=by
 have hsome:∀ j,j<cs.length→(w.cell? (ptr β k j)).isSome=true:=fun j hj=>by
  rw [hb.cell j cs[j] (List.getElem?_eq_getElem hj)];rfl
 refine ⟨by rw [(za9 _ _ _ _).2.2.2];exact hb.lt,fun j c hj=>?_,fun _ j hj=>?_,fun h=>absurd rfl h⟩
 ·simp only [zpe ho] at hj
  split at hj
  ·rename_i hr
   have h1:=World.cell?_setCells_in (β k).1 (l.map (AC.g β)) ((β k).2.1+o) w (fun i hi=>by
    have:=hsome (o+i) (by simp at hi;omega)
    rwa [ptr,← Nat.add_assoc] at this) (j - o) (by simp;omega)
   have e:ptr β k j=⟨(β k).1,(β k).2.1+o+(j - o),none⟩:=by unfold ptr;congr 1;omega
   rw [e,h1]
   have h2:l[j - o]?=some (l[j - o]'(by omega)):=List.getElem?_eq_getElem (by omega)
   rw [h2] at hj
   injection hj with hj
   simp [hj]
  ·rename_i hr
   rw [World.cell?_setCells_out (β k).1 (l.map (AC.g β)) ((β k).2.1+o) w (ptr β k j) (fun _ _=>by simp only [ptr,List.length_map];omega)]
   exact hb.cell j c hj
 ·rw [World.frozen?_setCells]
  exact hb.free rfl j (by simp only [yacx ho] at hj;exact hj)
theorem zsl {P:Program} {T:TypeId} {i:TypeInfo} (hi:P.info? T=some i) {β:Bs} {w:World} {k o:Nat} {cs l:List AC} {x:Value} {rm:Nat} (hx:x.cells=(l.map (AC.g β)).toArray) (hl:l.length=i.size) (hb:Blk β w k ⟨true,cs,rm⟩) (ho:o+l.length≤cs.length) :
  (storeVar T (ptr β k o) x).run P w=.ok () (w.setCells (β k).1 ((β k).2.1+o) (l.map (AC.g β))):=by
 have hst:=run_storeCells_cells (P:=P) (β k).1 ((β k).2.1+o) (l.map (AC.g β)) 0 w (fun j hj=>by
   have hj':o+j<cs.length:=by simp at hj;omega
   have:=hb.cell (o+j) cs[o+j] (List.getElem?_eq_getElem hj')
   rw [ptr,← Nat.add_assoc] at this
   simp only [Nat.add_zero]
   rw [this];rfl)
  (fun j hj=>by
   have hj':o+j<cs.length:=by simp at hj;omega
   have:=hb.free rfl (o+j) hj'
   rw [ptr,← Nat.add_assoc] at this
   simpa using this)
  (fun v hv=>by
   obtain ⟨c,_,rfl⟩:=List.mem_map.1 hv
   exact c.one β)
 simp only [Nat.add_zero] at hst
 have hsz:(l.map (AC.g β)).toArray.size=i.size:=by simp [hl]
 simp only [storeVar,Sem.run_bind,zbq hi,Result.andThen_ok,hx]
 rw [if_neg (by rw [hsz];simp)]
 exact hst
theorem zys {P:Program} {T:TypeId} {φ:Kn} {x y:AV} {k:Nat} {l:List AC} {ok:Bool} (h:yab1 P T φ x y=some (k,l,ok)) (hok:ok=true) :
  ∃ i o cs r rm,P.info? T=some i∧y.cells=some r∧x.ptr?=some (k,o)∧look φ.H k=some ⟨true,cs,rm⟩∧r.length=i.size∧o+r.length≤cs.length∧l=splice cs o r∧0<r.length:=by
 unfold yab1 at h
 split at h
 ·rename_i r i hr hi
  split at h
  ·split at h
   ·rename_i e hl
    cases hw:e.wr with
    | false=>simp [hw] at h
    | true =>
     simp only [hw,cond_true,Option.some.injEq,Prod.mk.injEq] at h
     obtain ⟨rfl,rfl,rfl⟩:=h
     rw [Bool.and_eq_true,Bool.and_eq_true] at hok
     have h1:=Nat.eq_of_beq_eq_true hok.1.1
     have h2:=Nat.eq_of_beq_eq_true hok.1.2
     refine ⟨i,0,e.cells,r,e.room,hi,hr,rfl,?_,h1,by omega,?_,by simpa using hok.2⟩
     ·rw [hl];cases e;simp at hw;subst hw;rfl
     ·rw [zjh (by omega)];simp [List.drop_eq_nil_of_le (show e.cells.length≤r.length by omega)]
   ·cases h
  ·split at h
   ·rename_i e hl
    cases hw:e.wr with
    | false=>simp [hw] at h
    | true =>
     simp only [hw,cond_true,Option.some.injEq,Prod.mk.injEq] at h
     obtain ⟨rfl,rfl,rfl⟩:=h
     rw [Bool.and_eq_true,Bool.and_eq_true] at hok
     refine ⟨i,_,e.cells,r,e.room,hi,hr,rfl,?_,Nat.eq_of_beq_eq_true hok.1.1,Nat.le_of_ble_eq_true hok.1.2,rfl,by simpa using hok.2⟩
     rw [hl];cases e;simp at hw;subst hw;rfl
   ·cases h
  ·cases h
 ·cases h
section
variable {P:Program}
theorem zw6 {o:Oper} {φ:Kn} {T:TypeId} {x y:Operand} {xv yv:AV} {k:Nat} {l:List AC} {ok:Bool} (ho:o.op=.store T x y) (hx:φ.ev x=some xv) (hy:φ.ev y=some yv) (h:yab1 P T φ xv yv=some (k,l,ok)) (hok:ok=true) :
  zdf P o φ ⟨zqh,[(k,l)],none⟩:=by
 obtain ⟨i,off,cs,r,rm,hi,hr,hp,hl,hlen,hle,rfl,hpos⟩:=zys h hok
 refine ⟨fun k' cs' hm=>?_,fun C N β S a w hrel _=>?_⟩
 ·simp at hm;obtain ⟨rfl,rfl⟩:=hm;exact ⟨_,hl,rfl,fun e=>by have e2:cs.length=0:=congrArg List.length (show cs=[] from e);omega⟩
 ·obtain ⟨h1,h2⟩:=hrel.ev hx
  obtain ⟨h3,h4⟩:=hrel.ev hy
  obtain ⟨g1,g2⟩:=yaiy hp β
  obtain ⟨_,hb,hk,_⟩:=hrel.blk k _ hl
  obtain ⟨c1,c2⟩:=zg3 hr β
  refine ⟨⟨fun j hj=>(nomatch hj),fun k' cs' hm c hc j hj=>?_,fun _ _ hm=>(nomatch hm)⟩,?_⟩
  ·simp at hm;obtain ⟨rfl,rfl⟩:=hm
   rcases zqk hle hc with h5 | h5
   ·exact h4 j (c2 j (zdy h5 hj))
   ·exact hk c h5 j hj
  ·have hrun:=zsl hi c1 hlen hb hle
   rw [g1] at h1
   have hex:(execOp a.eval o).run P w=.ok .skip (w.setCells (β k).1 ((β k).2.1+off) (r.map (AC.g β))):=by
    generalize a.eval=ρ at *
    simp [execOp,ho,h1,h3,Instr.storeAt,Instr.sureAddr,hrun]
   unfold Oper.wp
   rw [hex]
   refine ⟨β,⟨⟨?_,?_,?_,?_,fun B hB hX=>?_⟩,fun k' cs' hm=>?_,rfl⟩,rfl⟩
   ·exact (za9 _ _ _ _).1
   ·exact (za9 _ _ _ _).2.1
   ·exact (za9 _ _ _ _).2.2.1
   ·rw [(za9 _ _ _ _).2.2.2];exact Nat.le_refl _
   ·exact zgc _ _ _ _ _ fun e=>hX ⟨k,splice cs off r,List.mem_singleton.2 rfl,e⟩
   ·simp at hm;obtain ⟨rfl,rfl⟩:=hm
    exact yalf hb hle
theorem zmj {φ:Kn} {C:Cx} {N:Nat} {β:Bs} {S:Nat→Prop} {a:Act} {w:World} (hr:Rel C N β S φ a w):∀ {ps:List (Nat×Operand)} {l:List (Nat×AV)},zim φ ps=some l →
  ps.map (fun x=>(x.1,a.eval x.2))=l.map (fun x=>(x.1,x.2.g β))∧∀ x,x∈l→∀ k,k∈x.2.ks→S k
 | [],l,h=>by injection h with h;subst h;exact ⟨rfl,fun _ h=>nomatch h⟩
 | (i,x)::ps,l,h=>by
  unfold zim at h
  split at h
  ·rename_i v r hx hps
   injection h with h;subst h
   obtain ⟨i1,i2⟩:=zmj hr hps
   obtain ⟨j1,j2⟩:=hr.ev hx
   refine ⟨by simp only [List.map_cons,i1,j1],fun y hy=>?_⟩
   rcases List.mem_cons.1 hy with h | h
   ·rw [h];exact j2
   ·exact i2 y h
  ·cases h
theorem zwd (off:Nat):∀ (l:List Value) (t:Nat) (A:Array Value),off+t+l.length≤A.size →
  ((l.zipIdx t).foldl (fun (cs:Array Value) x=>cs.setIfInBounds (off+x.2) x.1) A).size=A.size ∧
  ∀ j,((l.zipIdx t).foldl (fun (cs:Array Value) x=>cs.setIfInBounds (off+x.2) x.1) A)[j]?=if off+t≤j∧j<off+t+l.length then l[j - (off+t)]? else A[j]?
 | [],t,A,_=>⟨rfl,fun j=>by simp;intro h1 h2;omega⟩
 | v::l,t,A,h=>by
  simp only [List.zipIdx_cons,List.foldl_cons]
  obtain ⟨h1,h2⟩:=zwd off l (t+1) (A.setIfInBounds (off+t) v) (by simp at h ⊢;omega)
  refine ⟨by rw [h1];simp,fun j=>?_⟩
  rw [h2]
  simp only [List.length_cons] at h ⊢
  by_cases e:j=off+t
  ·subst e
   rw [if_neg (by omega),if_pos ⟨Nat.le_refl _,by omega⟩]
   simp [show off+t<A.size by omega]
  ·by_cases h3:off+(t+1)≤j∧j<off+(t+1)+l.length
   ·rw [if_pos h3,if_pos ⟨by omega,by omega⟩]
    rw [show j - (off+t)=j - (off+(t+1))+1 by omega,List.getElem?_cons_succ]
   ·rw [if_neg h3,if_neg (by omega),Array.getElem?_setIfInBounds_ne (fun h=>e h.symm)]
theorem zxb (β:Bs) {cs l:List AC} {off:Nat} (h:off+l.length≤cs.length) :
  Array.foldl (fun (cs:Array Value) (x:Value×Nat)=>match x with | (c,j)=>cs.setIfInBounds (off+j) c) (cs.map (AC.g β)).toArray (l.map (AC.g β)).toArray.zipIdx=((splice cs off l).map (AC.g β)).toArray:=by
 rw [← Array.foldl_toList,Array.toList_zipIdx]
 obtain ⟨h1,h2⟩:=zwd off (l.map (AC.g β)) 0 (cs.map (AC.g β)).toArray (by simp;omega)
 simp only [Nat.add_zero,List.length_map] at h1 h2
 apply Array.ext_getElem?
 intro j
 refine (h2 j).trans ?_
 rw [List.getElem?_toArray,List.getElem?_toArray,List.getElem?_map,List.getElem?_map,List.getElem?_map,zpe h]
 split <;> rfl
theorem zry {place:Nat→Option (Nat×Nat)} (β:Bs):∀ {ps:List (Nat×AV)} {cs r:List AC} {ok:Bool},zxa place cs ps=some (r,ok)→ok=true →
  Instr.fill place (cs.map (AC.g β)).toArray (ps.map (fun x=>(x.1,x.2.g β)))=some (r.map (AC.g β)).toArray∧∀ c,c∈r→c∈cs∨∃ x,x∈ps∧∀ j,j∈c.ks→j∈x.2.ks
 | [],cs,r,ok,h,_=>by
  simp only [zxa,Option.some.injEq,Prod.mk.injEq] at h
  obtain ⟨rfl,_⟩:=h
  exact ⟨rfl,fun c hc=>Or.inl hc⟩
 | (i,v)::ps,cs,r,ok,h,hok=>by
  unfold zxa at h
  split at h
  ·rename_i o n l hp hv
   split at h
   ·rename_i cs' ok' hf
    simp only [Option.some.injEq,Prod.mk.injEq] at h
    obtain ⟨rfl,rfl⟩:=h
    simp only [Bool.and_eq_true] at hok
    have hn:=Nat.eq_of_beq_eq_true hok.2.1
    have hle:=Nat.le_of_ble_eq_true hok.2.2
    obtain ⟨c1,c2⟩:=zg3 hv β
    obtain ⟨i1,i2⟩:=zry β hf hok.1
    refine ⟨?_,fun c hc=>?_⟩
    ·simp only [List.map_cons,Instr.fill,hp,c1]
     rw [if_neg (by simp [hn];omega),zxb β hle]
     exact i1
    ·rcases i2 c hc with h1 | ⟨x,hx,h1⟩
     ·rcases zqk hle h1 with h2 | h2
      ·exact Or.inr ⟨(i,v),by simp,fun j hj=>c2 j (zdy h2 hj)⟩
      ·exact Or.inl h2
     ·exact Or.inr ⟨x,by simp [hx],h1⟩
   ·cases h
  ·cases h
theorem zn0 (w:World):∀ {fs:List Field} {pl:List (Nat×Nat)},zrf P fs=some pl →
  (fs.mapM fun f=>do let __do_lift ← Go.sizeOf f.type;pure (f.offset,__do_lift):Sem (List (Nat×Nat))).run P w=.ok pl w
 | [],pl,h=>by injection h with h;subst h;simp
 | f::fs,pl,h=>by
  unfold zrf at h
  split at h
  ·rename_i i l hi hl
   injection h with h;subst h
   have:=zn0 w hl
   simp only [List.mapM_cons,Sem.run_bind,zbq hi,Result.andThen_ok,Sem.run_pure,this]
  ·cases h
theorem zws {o:Oper} {φ:Kn} {T:TypeId} {ps:Array (Nat×Operand)} {l:List (Nat×AV)} {v:AV} {ok:Bool} (ho:o.op=.build T ps) (hl:zim φ ps.toList=some l) (h:yah9 P T l=some (v,ok)) (hok:ok=true):zdf P o φ ⟨v,[],none⟩ :=
 za6 fun C N β S a w hr=>by
  obtain ⟨p1,p2⟩:=zmj hr hl
  have p1':(ps.map (fun x=>(x.1,a.eval x.2))).toList=l.map (fun x=>(x.1,x.2.g β)):=by rw [Array.toList_map];exact p1
  unfold yah9 at h
  split at h
  ·rename_i ti hti
   split at h
   ·rename_i z hz
    split at h
    ·rename_i zv hzv
     obtain ⟨z1,z2⟩:=zz7 hzv
     split at h
     ·rename_i cs fs hcs hu
      obtain ⟨c1,c2⟩:=zg3 hcs β
      rw [z1] at c1
      have hcs0:∀ c,c∈cs→∀ j,j∈c.ks→False:=fun c hc j hj=>by have:=c2 j (zdy hc hj);rw [z2] at this;cases this
      split at h
      ·rename_i pl hpl
       split at h
       ·rename_i r ok' hf
        simp only [Option.some.injEq,Prod.mk.injEq] at h
        obtain ⟨rfl,rfl⟩:=h
        obtain ⟨f1,f2⟩:=zry β hf hok
        refine ⟨fun j hj=>?_,?_⟩
        ·obtain ⟨c,hc,hj⟩:=List.mem_flatMap.1 hj
         rcases f2 c hc with h1 | ⟨x,hx,h1⟩
         ·exact (hcs0 c h1 j hj).elim
         ·exact p2 x hx j (h1 j hj)
        ·generalize a.eval=ρ at *
         have hs:=zn0 (P:=P) w hpl
         have hm:(Array.mapM (fun f:Field=>do let __do_lift ← Go.sizeOf f.type;pure (f.offset,__do_lift):Field→Sem (Nat×Nat)) fs).run P w=.ok pl.toArray w:=by
          rw [Array.mapM_eq_mapM_toList,Sem.run_map,hs];rfl
         have hx:(Instr.build T (ps.map (fun x=>(x.1,ρ x.2)))).run P w=.ok (.agg (r.map (AC.g β)).toArray) w:=by
          simp only [Instr.build,Sem.run_bind,zhb hti hz,Result.andThen_ok,zal hu,hm,p1',c1,List.getElem?_toArray,f1,Sem.run_pure]
         simp only [execOp,ho,Sem.run_bind]
         refine (congrArg (fun r=>Result.andThen r _) hx).trans ?_
         simp [AV.g]
       ·cases h
      ·cases h
     ·rename_i cs len el hcs hu
      obtain ⟨c1,c2⟩:=zg3 hcs β
      rw [z1] at c1
      have hcs0:∀ c,c∈cs→∀ j,j∈c.ks→False:=fun c hc j hj=>by have:=c2 j (zdy hc hj);rw [z2] at this;cases this
      split at h
      ·rename_i i hi
       split at h
       ·rename_i r ok' hf
        simp only [Option.some.injEq,Prod.mk.injEq] at h
        obtain ⟨rfl,rfl⟩:=h
        obtain ⟨f1,f2⟩:=zry β hf hok
        refine ⟨fun j hj=>?_,?_⟩
        ·obtain ⟨c,hc,hj⟩:=List.mem_flatMap.1 hj
         rcases f2 c hc with h1 | ⟨x,hx,h1⟩
         ·exact (hcs0 c h1 j hj).elim
         ·exact p2 x hx j (h1 j hj)
        ·generalize a.eval=ρ at *
         have hx:(Instr.build T (ps.map (fun x=>(x.1,ρ x.2)))).run P w=.ok (.agg (r.map (AC.g β)).toArray) w:=by
          simp only [Instr.build,Sem.run_bind,zhb hti hz,Result.andThen_ok,zal hu,zbq hi,p1',c1,f1,Sem.run_pure]
         simp only [execOp,ho,Sem.run_bind]
         refine (congrArg (fun r=>Result.andThen r _) hx).trans ?_
         simp [AV.g]
       ·cases h
      ·cases h
     ·cases h
    ·cases h
   ·cases h
  ·cases h
end
section
variable {P:Program}
theorem zfe {o:Oper} {op:BinOp} {T T':TypeId} {x y:Operand} {ρ:Operand→Value} {X Y V:Value} (ho:o.op=.binOp op T x y T') (hx:ρ x=X) (hy:ρ y=Y) (w:World)
  (hg:(eqGuard op T x y X Y).run P w=.ok () w) (hb:(binOp op T X Y).run P w=.ok V w):(execOp ρ o).run P w=.ok (.value V) w:=by
 simp only [execOp,ho,hx,hy,Sem.run_bind,hg,hb,Result.andThen_ok,Sem.run_pure]
theorem zha (op:BinOp) (T:TypeId) (x y:Operand) (k k':IntKind) (m n:Int) (w:World):(eqGuard op T x y (.int k m) (.int k' n)).run P w=.ok () w:=by
 unfold eqGuard;split <;> simp
theorem yaei (op:BinOp) (T:TypeId) (x y:Operand) (m n:Bool) (w:World):(eqGuard op T x y (.bool m) (.bool n)).run P w=.ok () w:=by
 unfold eqGuard;split <;> simp
theorem yajq (op:BinOp) (T:TypeId) (x y:Operand) (m n:ByteArray) (w:World):(eqGuard op T x y (.string m) (.string n)).run P w=.ok () w:=by
 unfold eqGuard;split <;> simp
theorem yab8 (x y:BitVec 64) (w:World):(Op.intBits .and .u64 (nv x) (nv y)).run P w=.ok (.int .u64 (nv (band x y))) w∧(Op.intBits .or .u64 (nv x) (nv y)).run P w=.ok (.int .u64 (nv (bor x y))) w ∧
  (Op.intBits .xor .u64 (nv x) (nv y)).run P w=.ok (.int .u64 (nv (bxor x y))) w∧(Op.intBits .andNot .u64 (nv x) (nv y)).run P w=.ok (.int .u64 (nv (bandn x y))) w:=by
 refine ⟨?_,?_,?_,?_⟩
 ·show Result.ok (Value.int .u64 (IntKind.u64.wrap (nv (BitVec.ofInt 64 (nv x) &&& BitVec.ofInt 64 (nv y))))) w=_
  rw [zbi,zbi,za1];rfl
 ·show Result.ok (Value.int .u64 (IntKind.u64.wrap (nv (BitVec.ofInt 64 (nv x) ||| BitVec.ofInt 64 (nv y))))) w=_
  rw [zbi,zbi,za1];rfl
 ·show Result.ok (Value.int .u64 (IntKind.u64.wrap (nv (BitVec.ofInt 64 (nv x) ^^^ BitVec.ofInt 64 (nv y))))) w=_
  rw [zbi,zbi,za1];rfl
 ·show Result.ok (Value.int .u64 (IntKind.u64.wrap (nv (BitVec.ofInt 64 (nv x) &&& ~~~ BitVec.ofInt 64 (nv y))))) w=_
  rw [zbi,zbi,za1];rfl
theorem yah2 {op:BinOp} {m n:Int} {c:AC} (h:yas7 op m n=some c) (T:TypeId) (β:Bs) (w:World):(binOp op T (.int .i64 m) (.int .i64 n)).run P w=.ok (c.g β) w∧c.ks=[]:=by
 unfold yas7 at h
 split at h
 all_goals first
  | (injection h with h;subst h;exact ⟨rfl,rfl⟩)
  | cases h
theorem yags {op:BinOp} {x y:BitVec 64} {c:AC} (h:yas0 op x y=some c) (T:TypeId) (β:Bs) (w:World):(binOp op T (.int .u64 (nv x)) (.int .u64 (nv y))).run P w=.ok (c.g β) w∧c.ks=[]:=by
 obtain ⟨b1,b2,b3,b4⟩:=yab8 (P:=P) x y w
 unfold yas0 at h
 split at h
 ·injection h with h;subst h;exact ⟨(by show Result.ok (Value.int .u64 (IntKind.u64.wrap (nv x+nv y))) w=_;rw [zc9];rfl),rfl⟩
 ·injection h with h;subst h;exact ⟨(by show Result.ok (Value.int .u64 (IntKind.u64.wrap (nv x - nv y))) w=_;rw [zc4];rfl),rfl⟩
 ·injection h with h;subst h;exact ⟨(by show Result.ok (Value.int .u64 (IntKind.u64.wrap (nv x*nv y))) w=_;rw [zda];rfl),rfl⟩
 ·injection h with h;subst h;exact ⟨b1,rfl⟩
 ·injection h with h;subst h;exact ⟨b2,rfl⟩
 ·injection h with h;subst h;exact ⟨b3,rfl⟩
 ·injection h with h;subst h;exact ⟨b4,rfl⟩
 ·injection h with h;subst h;exact ⟨(by show Result.ok (Value.bool (nv x==nv y)) w=_;rw [zcn];rfl),rfl⟩
 ·injection h with h;subst h;exact ⟨(by show Result.ok (Value.bool (nv x != nv y)) w=_;rw [zc0];rfl),rfl⟩
 ·injection h with h;subst h;exact ⟨rfl,rfl⟩
 ·injection h with h;subst h;exact ⟨rfl,rfl⟩
 ·injection h with h;subst h;exact ⟨rfl,rfl⟩
 ·injection h with h;subst h;exact ⟨rfl,rfl⟩
 ·cases h
theorem yagn (n:Int):IntKind.u8.wrap n=n % 256:=by
 simp [IntKind.wrap,IntKind.bits,IntKind.signed]
theorem yan9 {op:BinOp} {x y:BitVec 8} {c:AC} (h:u8Op op x y=some c) (T:TypeId) (β:Bs) (w:World):(binOp op T (.int .u8 (x.toNat:Int)) (.int .u8 (y.toNat:Int))).run P w=.ok (c.g β) w∧c.ks=[]:=by
 have hx:=x.isLt
 have hy:=y.isLt
 unfold u8Op at h
 split at h
 ·injection h with h;subst h
  refine ⟨?_,rfl⟩
  show Result.ok (Value.int .u8 (IntKind.u8.wrap ((x.toNat:Int)+y.toNat))) w=_
  rw [yagn]
  simp only [AC.g,BitVec.toNat_add]
  congr 2
 ·injection h with h;subst h
  refine ⟨?_,rfl⟩
  show Result.ok (Value.int .u8 (IntKind.u8.wrap ((x.toNat:Int) - y.toNat))) w=_
  rw [yagn]
  simp only [AC.g,BitVec.toNat_sub]
  congr 2
  omega
 ·injection h with h;subst h
  refine ⟨?_,rfl⟩
  show Result.ok (Value.bool ((x.toNat:Int)==y.toNat)) w=_
  simp only [AC.g]
  congr 2
  rw [Bool.eq_iff_iff,beq_iff_eq,beq_iff_eq]
  exact ⟨fun h=>BitVec.eq_of_toNat_eq (by omega),fun h=>by rw [h]⟩
 ·injection h with h;subst h
  refine ⟨?_,rfl⟩
  show Result.ok (Value.bool ((x.toNat:Int) != y.toNat)) w=_
  simp only [AC.g,bne]
  congr 3
  rw [Bool.eq_iff_iff,beq_iff_eq,beq_iff_eq]
  exact ⟨fun h=>BitVec.eq_of_toNat_eq (by omega),fun h=>by rw [h]⟩
 all_goals first
  | (injection h with h;subst h
     refine ⟨?_,rfl⟩
     show Result.ok (Value.bool (decide _)) w=_
     simp only [AC.g]
     congr 2
     rw [decide_eq_decide]
     omega)
  | cases h
theorem yail {op:BinOp} {x y:ByteArray} {c:AC} {ok:Bool} (h:yatj op x y=some (c,ok)) (hok:ok=true) (T:TypeId) (β:Bs) (w:World):(binOp op T (.string x) (.string y)).run P w=.ok (c.g β) w∧c.ks=[]:=by
 unfold yatj at h
 split at h
 ·simp only [Option.some.injEq,Prod.mk.injEq] at h
  obtain ⟨rfl,rfl⟩:=h
  refine ⟨?_,rfl⟩
  show (if ((x.size+y.size:Nat):Int) > IntKind.i64.max then _ else pure (Value.string (x++y)):Sem Value).run P w=_
  rw [if_neg (by simp [IntKind.max,IntKind.bits,IntKind.signed];simp at hok;omega)]
  rfl
 ·simp only [Option.some.injEq,Prod.mk.injEq] at h
  obtain ⟨rfl,rfl⟩:=h
  exact ⟨rfl,rfl⟩
 ·simp only [Option.some.injEq,Prod.mk.injEq] at h
  obtain ⟨rfl,rfl⟩:=h
  exact ⟨rfl,rfl⟩
 ·cases h
theorem zxx {op:BinOp} {x:BitVec 64} {n:Int} {k:IntKind} {c:AC} {ok:Bool} (h:zxu op x n=some (c,ok)) (hok:ok=true) (T:TypeId) (β:Bs) (w:World):(binOp op T (.int .u64 (nv x)) (.int k n)).run P w=.ok (c.g β) w∧c.ks=[]:=by
 unfold zxu at h
 split at h
 ·simp only [Option.some.injEq,Prod.mk.injEq] at h
  obtain ⟨rfl,rfl⟩:=h
  simp only [Bool.and_eq_true,decide_eq_true_eq] at hok
  refine ⟨?_,rfl⟩
  show (Op.shift .shl .u64 (nv x) k n).run P w=_
  have hm:min n.toNat IntKind.u64.bits=n.toNat:=by simp [IntKind.bits];omega
  unfold Op.shift
  rw [if_neg (by omega)]
  simp only [hm,Sem.run_pure,zcz]
  rfl
 ·simp only [Option.some.injEq,Prod.mk.injEq] at h
  obtain ⟨rfl,rfl⟩:=h
  simp only [Bool.and_eq_true,decide_eq_true_eq] at hok
  refine ⟨?_,rfl⟩
  show (Op.shift .shr .u64 (nv x) k n).run P w=_
  have hm:min n.toNat IntKind.u64.bits=n.toNat:=by simp [IntKind.bits];omega
  unfold Op.shift
  rw [if_neg (by omega)]
  have hd:(nv x).fdiv (2 ^ n.toNat)=nv (bshr x n.toNat):=by
   rw [← zdc,Int.fdiv_eq_ediv_of_nonneg]
   exact Int.pow_nonneg (by decide)
  simp only [hm,Sem.run_pure,hd]
  rfl
 ·cases h
theorem yakt {op:BinOp} {x y:BitVec 64} {c:AC} (h:yask op x y=some c) (hy:eqb y zero=false) (T:TypeId) (β:Bs) (w:World):(binOp op T (.int .u64 (nv x)) (.int .u64 (nv y))).run P w=.ok (c.g β) w∧c.ks=[]:=by
 have hy0:y.toNat≠0:=by
  intro e
  have:y=zero:=BitVec.eq_of_toNat_eq (by simpa [zero] using e)
  rw [this] at hy
  cases hy
 have hn:nv y≠0:=by unfold nv;omega
 have hx:=x.isLt
 unfold yask at h
 split at h
 ·injection h with h;subst h
  refine ⟨?_,rfl⟩
  show (Op.intDiv .quo .u64 (nv x) (nv y)).run P w=_
  unfold Op.intDiv
  rw [if_neg hn]
  show Result.ok (Value.int .u64 (IntKind.u64.wrap ((nv x).tdiv (nv y)))) w=_
  have e:(nv x).tdiv (nv y)=nv (x / y):=by
   unfold nv
   rw [BitVec.toNat_udiv,Int.tdiv_eq_ediv_of_nonneg (by omega)]
   exact (Int.natCast_ediv _ _).symm
  rw [e,za1];rfl
 ·injection h with h;subst h
  refine ⟨?_,rfl⟩
  show (Op.intDiv .rem .u64 (nv x) (nv y)).run P w=_
  unfold Op.intDiv
  rw [if_neg hn]
  show Result.ok (Value.int .u64 ((nv x).tmod (nv y))) w=_
  have e:(nv x).tmod (nv y)=nv (x % y):=by
   unfold nv
   rw [BitVec.toNat_umod,Int.tmod_eq_emod_of_nonneg (by omega)]
   exact (Int.natCast_emod _ _).symm
  rw [e];rfl
 ·cases h
theorem yajl {o:Oper} {φ:Kn} {op:BinOp} {T T':TypeId} {x y:Operand} {xv yv v:AV} {ok:Bool} (ho:o.op=.binOp op T x y T') (hx:φ.ev x=some xv) (hy:φ.ev y=some yv) (h:eBin op xv yv=some (v,ok)) (hok:ok=true):zdf P o φ ⟨v,[],none⟩ :=
 za6 fun C N β S a w hr=>by
  obtain ⟨h1,hk1⟩:=hr.ev hx;clear hk1
  obtain ⟨h2,hk2⟩:=hr.ev hy;clear hk2
  unfold eBin at h
  cases hs:yahj op with
  | true =>
   simp only [hs,cond_true] at h
   split at h
   ·rename_i t n hn
    split at h
    ·rename_i c ok' hc
     simp only [Option.some.injEq,Prod.mk.injEq] at h
     obtain ⟨rfl,rfl⟩:=h
     obtain ⟨kd,hg⟩:=zpv hn β
     obtain ⟨r1,r2⟩:=zxx (P:=P) (k:=kd) hc hok T β w
     exact ⟨fun j hj=>(by rw [show (AV.c c).ks=c.ks from rfl,r2] at hj;cases hj),zfe ho h1 (h2.trans hg) w (zha _ _ _ _ _ _ _ _ _) r1⟩
    ·cases h
   ·cases h
  | false =>
   simp only [hs,cond_false] at h
   split at h
   ·split at h
    ·rename_i c hc
     simp only [Option.some.injEq,Prod.mk.injEq] at h
     obtain ⟨rfl,rfl⟩:=h
     obtain ⟨r1,r2⟩:=yah2 (P:=P) hc T β w
     exact ⟨fun j hj=>(by rw [show (AV.c c).ks=c.ks from rfl,r2] at hj;cases hj),zfe ho h1 h2 w (zha _ _ _ _ _ _ _ _ _) r1⟩
    ·cases h
   ·cases hdv:yav1 op with
    | true =>
     simp only [hdv,cond_true] at h
     split at h
     ·rename_i c hc
      simp only [Option.some.injEq,Prod.mk.injEq] at h
      obtain ⟨rfl,rfl⟩:=h
      obtain ⟨r1,r2⟩:=yakt (P:=P) hc (by simpa using hok) T β w
      exact ⟨fun j hj=>(by rw [show (AV.c c).ks=c.ks from rfl,r2] at hj;cases hj),zfe ho h1 h2 w (zha _ _ _ _ _ _ _ _ _) r1⟩
     ·cases h
    | false =>
     simp only [hdv,cond_false] at h
     split at h
     ·rename_i c hc
      simp only [Option.some.injEq,Prod.mk.injEq] at h
      obtain ⟨rfl,rfl⟩:=h
      obtain ⟨r1,r2⟩:=yags (P:=P) hc T β w
      exact ⟨fun j hj=>(by rw [show (AV.c c).ks=c.ks from rfl,r2] at hj;cases hj),zfe ho h1 h2 w (zha _ _ _ _ _ _ _ _ _) r1⟩
     ·cases h
   ·split at h
    ·rename_i c hc
     simp only [Option.some.injEq,Prod.mk.injEq] at h
     obtain ⟨rfl,rfl⟩:=h
     obtain ⟨r1,r2⟩:=yan9 (P:=P) hc T β w
     exact ⟨fun j hj=>(by rw [show (AV.c c).ks=c.ks from rfl,r2] at hj;cases hj),zfe ho h1 h2 w (zha _ _ _ _ _ _ _ _ _) r1⟩
    ·cases h
   ·split at h
    ·rename_i c ok' hc
     simp only [Option.some.injEq,Prod.mk.injEq] at h
     obtain ⟨rfl,rfl⟩:=h
     obtain ⟨r1,r2⟩:=yail (P:=P) hc hok T β w
     exact ⟨fun j hj=>(by rw [show (AV.c c).ks=c.ks from rfl,r2] at hj;cases hj),zfe ho h1 h2 w (yajq _ _ _ _ _ _ _) r1⟩
    ·cases h
   ·cases h
theorem zqf {x:AV} {b:Bool} (h:x.nilSlice=some b) (β:Bs):∃ a n c,x.g β=.slice a n c∧a.isNone=b∧(b=true→n=0∧c=0):=by
 unfold AV.nilSlice at h
 split at h
 ·injection h with h;subst h;exact ⟨_,_,_,rfl,rfl,fun h=>by cases h⟩
 ·injection h with h;subst h;exact ⟨_,_,_,rfl,rfl,fun h=>by cases h⟩
 ·injection h with h;subst h;exact ⟨_,_,_,rfl,rfl,fun _=>⟨rfl,rfl⟩⟩
 ·cases h
theorem zyj (op:BinOp) (T:TypeId) (x y:Operand) (a b:Option Addr) (m n c d:Nat) (w:World):(eqGuard op T x y (.slice a m c) (.slice b n d)).run P w=.ok () w:=by
 unfold eqGuard;split <;> simp
theorem yae2 {o:Oper} {φ:Kn} {op:BinOp} {T T':TypeId} {x y:Operand} {xv yv v:AV} {ok:Bool} (ho:o.op=.binOp op T x y T') (hx:φ.ev x=some xv) (hy:φ.ev y=some yv) (h:yat2 P op T xv yv=some (v,ok)) (hok:ok=true):zdf P o φ ⟨v,[],none⟩:=by
 unfold yat2 at h
 split at h
 ·rename_i b hb
  simp only [Option.some.injEq,Prod.mk.injEq] at h
  obtain ⟨rfl,rfl⟩:=h
  unfold eNil at hb
  split at hb
  ·rename_i e b' hT hn hm
   injection hb with hb;subst hb
   exact za6 fun C N β S a w hr=>by
    obtain ⟨h1,hk1⟩:=hr.ev hx;clear hk1
    obtain ⟨h2,hk2⟩:=hr.ev hy;clear hk2
    obtain ⟨a1,n1,c1,g1,g2,_⟩:=zqf hn β
    obtain ⟨a2,n2,c2,f1,f2,f3⟩:=zqf hm β
    obtain ⟨rfl,rfl⟩:=f3 rfl
    have ha2:a2=none:=by cases a2 with | none=>rfl | some _=>cases f2
    subst ha2
    refine ⟨fun j hj=>(nomatch hj),zfe ho (h1.trans g1) (h2.trans f1) w (zyj _ _ _ _ _ _ _ _ _ _ _) ?_⟩
    have:=run_equal_slice_nil (P:=P) w T e a1 n1 c1 hT
    show ((Op.equal T (.slice a1 n1 c1) (.slice none 0 0) >>= fun r=>pure (Value.bool r)):Sem Value).run P w=_
    rw [Sem.run_bind,this,g2];rfl
  ·cases hb
 ·exact yajl ho hx hy h hok
theorem zji {o:Oper} {φ:Kn} {T T':TypeId} {x y:Operand} {s t:Bool} (neg:Bool) (ho:o.op=.binOp (if neg then .neq else .eql) T x y T') (hx:φ.ev x=some (.c (.b s))) (hy:φ.ev y=some (.c (.b t))) (hT:P.underlying T=some .bool) :
  zdf P o φ ⟨.c (.b (if neg then !(s==t) else s==t)),[],none⟩ :=
 za6 fun C N β S a w hr=>by
  obtain ⟨h1,hk1⟩:=hr.ev hx;clear hk1
  obtain ⟨h2,hk2⟩:=hr.ev hy;clear hk2
  refine ⟨fun j hj=>(nomatch hj),zfe ho h1 h2 w (yaei _ _ _ _ _ _ _) ?_⟩
  have:=run_equal_bool (P:=P) w T s t hT
  cases neg
  ·show ((Op.equal T (.bool s) (.bool t) >>= fun r=>pure (Value.bool r)):Sem Value).run P w=_
   rw [Sem.run_bind,this];rfl
  ·show ((Op.equal T (.bool s) (.bool t) >>= fun r=>pure (Value.bool !r)):Sem Value).run P w=_
   rw [Sem.run_bind,this];rfl
theorem yapk {o:Oper} {φ:Kn} {op:UnOp} {T:TypeId} {x:Operand} {xv v:AV} (ho:o.op=.unOp op T x) (hx:φ.ev x=some xv) (h:eUn op xv=some v):zdf P o φ ⟨v,[],none⟩ :=
 za6 fun C N β S a w hr=>by
  obtain ⟨h1,hk1⟩:=hr.ev hx;clear hk1
  unfold eUn at h
  split at h
  ·injection h with h;subst h
   refine ⟨fun j hj=>(nomatch hj),?_⟩
   rename_i t
   have h1':a.eval x=.bool t:=h1
   clear h1
   generalize a.eval=ρ at *
   simp only [execOp,ho,h1',Sem.run_bind]
   rfl
  ·injection h with h;subst h
   refine ⟨fun j hj=>(nomatch hj),?_⟩
   rename_i n
   have h1':a.eval x=.int .i64 n:=h1
   clear h1
   generalize a.eval=ρ at *
   simp only [execOp,ho,h1',Sem.run_bind]
   rfl
  ·injection h with h;subst h
   refine ⟨fun j hj=>(nomatch hj),?_⟩
   rename_i t
   have h1':a.eval x=.int .u64 (nv t):=h1
   clear h1
   generalize a.eval=ρ at *
   simp only [execOp,ho,h1',Sem.run_bind]
   have hx:=(yab8 (P:=P) top t w).2.2.1
   have e1:(if IntKind.u64.signed=true then (-1:Int) else IntKind.u64.max)=nv top:=by decide
   have e2:bxor top t=bnot t:=by
    unfold bxor top bnot
    exact BitVec.allOnes_xor
   show Result.andThen ((Op.intBits .xor .u64 (if IntKind.u64.signed=true then (-1:Int) else IntKind.u64.max) (nv t)).run P w) _=_
   rw [e1,hx,e2]
   rfl
  ·cases h
theorem yapb {S D:TypeId} {d:TypeDesc} {k k':IntKind} {n:Int} (hS:P.underlying S=some d) (hD:P.underlying D=some (.int k)) (w:World):(convert S D (.int k' n)).run P w=.ok (.int k (k.wrap n)) w:=by
 unfold convert
 simp only [Sem.run_bind,zal hS,zal hD,Result.andThen_ok]
 cases d <;> rfl
theorem yaeu {o:Oper} {φ:Kn} {T D:TypeId} {d:TypeDesc} {x:Operand} {xv v:AV} (ho:o.op=.convert T D x) (hT:P.underlying T=some d) (hx:φ.ev x=some xv) (h:yatm P D xv=some v):zdf P o φ ⟨v,[],none⟩ :=
 za6 fun C N β S a w hr=>by
  obtain ⟨h1,hk1⟩:=hr.ev hx;clear hk1
  have key:∀ (k k':IntKind) (n:Int) (V:Value),P.underlying D=some (.int k)→a.eval x=.int k' n→Value.int k (k.wrap n)=V→(execOp a.eval o).run P w=.ok (.value V) w:=by
   intro k k' n V hD hv hV
   have:=yapb (P:=P) (k':=k') (n:=n) hT hD w
   generalize a.eval=ρ at *
   simp only [execOp,ho,hv,Sem.run_bind,this,Result.andThen_ok,Sem.run_pure,hV]
  unfold yatm at h
  split at h
  ·rename_i n hD
   injection h with h;subst h
   exact ⟨fun j hj=>(nomatch hj),key _ _ _ _ hD h1 (by rw [zft];rfl)⟩
  ·rename_i t hD
   injection h with h;subst h
   exact ⟨fun j hj=>(nomatch hj),key _ _ _ _ hD h1 (by rw [za1];rfl)⟩
  ·rename_i t hD
   injection h with h;subst h
   refine ⟨fun j hj=>(nomatch hj),key _ _ _ _ hD h1 ?_⟩
   have:=t.isLt
   rw [IntKind.wrap_u64]
   refine congrArg (Value.int IntKind.u64) ?_
   simp only [nv,BitVec.toNat_setWidth]
   omega
  ·rename_i n hD
   injection h with h;subst h
   exact ⟨fun j hj=>(nomatch hj),key _ _ _ _ hD h1 rfl⟩
  ·rename_i n hD
   injection h with h;subst h
   exact ⟨fun j hj=>(nomatch hj),key _ _ _ _ hD h1 rfl⟩
  ·rename_i t hD
   injection h with h;subst h
   refine ⟨fun j hj=>(nomatch hj),key _ _ _ _ hD h1 ?_⟩
   have:=t.isLt
   rw [IntKind.wrap_i64]
   refine congrArg (Value.int IntKind.i64) ?_
   omega
  ·rename_i t hD
   injection h with h;subst h
   refine ⟨fun j hj=>(nomatch hj),key _ _ _ _ hD h1 ?_⟩
   rw [yagn]
   refine congrArg (Value.int IntKind.u8) ?_
   simp only [nv,BitVec.toNat_setWidth]
   omega
  ·rename_i n hD
   injection h with h;subst h
   refine ⟨fun j hj=>(nomatch hj),key _ _ _ _ hD h1 ?_⟩
   rw [yagn]
   refine congrArg (Value.int IntKind.u8) ?_
   simp only [BitVec.toNat_ofInt]
   omega
  ·rename_i t hD
   injection h with h;subst h
   refine ⟨fun j hj=>(nomatch hj),key _ _ _ _ hD h1 ?_⟩
   have:=t.isLt
   rw [yagn]
   refine congrArg (Value.int IntKind.u8) ?_
   omega
  ·cases h
theorem zq1 {o:Oper} {φ:Kn} {x:Operand} {i:Nat} {xv v:AV} (ho:o.op=.extract x i) (hx:φ.ev x=some xv) (h:zse xv i=some v):zdf P o φ ⟨v,[],none⟩ :=
 za6 fun C N β S a w hr=>by
  obtain ⟨h1,h2⟩:=hr.ev hx
  unfold zse at h
  split at h
  ·rename_i l
   have hl:∃ u,l[i]?=some u∧AT.g β u=v.g β∧AT.ks u=v.ks:=by
    split at h
    ·rename_i c hc;injection h with h;subst h;exact ⟨_,hc,rfl,rfl⟩
    ·rename_i c hc;injection h with h;subst h;exact ⟨_,hc,rfl,rfl⟩
    ·cases h
   obtain ⟨u,hu,hg,hk⟩:=hl
   refine ⟨fun j hj=>h2 j (List.mem_flatMap.2 ⟨u,List.mem_of_getElem? hu,by rw [hk];exact hj⟩),?_⟩
   have h1':a.eval x=.tuple (l.map (AT.g β)).toArray:=h1
   have hi:(l.map (AT.g β)).toArray[i]?=some (v.g β):=by rw [List.getElem?_toArray,List.getElem?_map,hu];simp [hg]
   clear h1
   generalize a.eval=ρ at *
   simp only [execOp,ho,h1',Sem.run_bind,Instr.extract,hi,Sem.run_pure,Result.andThen_ok]
  ·cases h
theorem zi1 {φ:Kn} {C:Cx} {N:Nat} {β:Bs} {S:Nat→Prop} {a:Act} {w:World} (hr:Rel C N β S φ a w):∀ {ps:List Operand} {l:List AV},zi7 φ ps=some l →
  ps.map a.eval=l.map (AV.g β)∧∀ x,x∈l→∀ k,k∈x.ks→S k
 | [],l,h=>by injection h with h;subst h;exact ⟨rfl,fun _ h=>nomatch h⟩
 | x::ps,l,h=>by
  unfold zi7 at h
  split at h
  ·rename_i v r hx hps
   injection h with h;subst h
   obtain ⟨i1,i2⟩:=zi1 hr hps
   obtain ⟨j1,j2⟩:=hr.ev hx
   refine ⟨by simp only [List.map_cons,i1,j1],fun y hy=>?_⟩
   rcases List.mem_cons.1 hy with h | h
   ·rw [h];exact j2
   ·exact i2 y h
  ·cases h
theorem yacn (β:Bs):∀ {l:List AV} {ks:List Nat},zpb l=some ks→l.map (AV.g β)=ks.map (fun k=>Value.pointer (some (ptr β k 0)))∧∀ k,k∈ks→∃ x,x∈l∧k∈x.ks
 | [],ks,h=>by injection h with h;subst h;exact ⟨rfl,fun _ h=>nomatch h⟩
 | (Sum.inl (Sum.inr (Sum.inr (Sum.inl (Sum.inl k)))))::r,ks,h=>by
  simp only [zpb] at h
  split at h
  ·rename_i l hl
   injection h with h;subst h
   obtain ⟨i1,i2⟩:=yacn β hl
   refine ⟨by simp only [List.map_cons,i1];rfl,fun k' hk'=>?_⟩
   rcases List.mem_cons.1 hk' with h | h
   ·exact ⟨.c (.w k),by simp,by simp [AV.ks,AC.ks,h]⟩
   ·obtain ⟨x,hx,hk⟩:=i2 k' h;exact ⟨x,by simp [hx],hk⟩
  ·cases h
 | .c (.b _)::_,_,h | .c (.u _)::_,_,h | .c (.i _)::_,_,h | .c (.y _)::_,_,h | .c (.s _)::_,_,h | .c (.p _ _)::_,_,h | .c (.sl _ _ _ _)::_,_,h | .c (.f _ _)::_,_,h | .c (.v _ _)::_,_,h
 | (Sum.inr (Sum.inl _))::_,_,h | (Sum.inr (Sum.inr (Sum.inl _)))::_,_,h | (Sum.inr (Sum.inr (Sum.inr _)))::_,_,h=>by simp [zpb] at h
theorem zoq {o:Oper} {φ:Kn} {g:Nat} {first caps:Array Operand} {l:List AV} {ks:List Nat} (ho:o.op=.makeFunc (.func g) first caps) (hf:first.toList=[]) (hl:zi7 φ caps.toList=some l) (hk:zpb l=some ks):zdf P o φ ⟨.c (.f g ks),[],none⟩ :=
 za6 fun C N β S a w hr=>by
  obtain ⟨p1,p2⟩:=zi1 hr hl
  obtain ⟨c1,c2⟩:=yacn β hk
  refine ⟨fun j hj=>(by obtain ⟨x,hx,hj'⟩:=c2 j hj;exact p2 x hx j hj'),?_⟩
  have e1:first=#[]:=by cases first;simp at hf;subst hf;rfl
  have e2:caps.map a.eval=(ks.map (fun k=>Value.pointer (some (ptr β k 0)))).toArray:=by
   apply Array.ext'
   rw [Array.toList_map,p1,c1]
  generalize a.eval=ρ at *
  simp only [execOp,ho,e1,e2,Sem.run_bind,Instr.makeFunc,Sem.run_pure,Result.andThen_ok,Array.map_empty]
  rfl
theorem zkm {t ty el:TypeId} {base:Option Addr} {n c:Nat} (h:P.underlying t=some (.slice el)) (w:World):(Builtin.len_ #[t] ty #[.slice base n c]).run P w=.ok (.int .i64 n) w:=by
 simp only [Builtin.len_]
 show ((underlying t >>= _):Sem Value).run P w=_
 rw [Sem.run_bind,zal h]
 rfl
theorem yac5 {t ty:TypeId} {b:ByteArray} (h:P.underlying t=some .string) (w:World):(Builtin.len_ #[t] ty #[.string b]).run P w=.ok (.int .i64 b.size) w:=by
 simp only [Builtin.len_]
 show ((underlying t >>= _):Sem Value).run P w=_
 rw [Sem.run_bind,zal h]
 rfl
theorem yaqd {ts:Array TypeId} {ty:TypeId} {cs:Array Bool} {args:Array Value} {V:Value} {w:World} (h:(Builtin.min_ ts ty args).run P w=.ok V w):(builtin .min ts ty cs args).run P w=.ok (.value V) w:=by
 simp only [builtin,Sem.run_bind,h,Result.andThen_ok,Sem.run_pure]
theorem yaq8 {ts:Array TypeId} {ty:TypeId} {cs:Array Bool} {args:Array Value} {V:Value} {w:World} (h:(Builtin.max_ ts ty args).run P w=.ok V w):(builtin .max ts ty cs args).run P w=.ok (.value V) w:=by
 simp only [builtin,Sem.run_bind,h,Result.andThen_ok,Sem.run_pure]
theorem yaa4 {ts:Array TypeId} {ty:TypeId} {cs:Array Bool} {args:Array Value} {V:Value} {w:World} (h:(Builtin.len_ ts ty args).run P w=.ok V w):(builtin .len ts ty cs args).run P w=.ok (.value V) w:=by
 simp only [builtin,Sem.run_bind,h,Result.andThen_ok,Sem.run_pure]
theorem zfx {α:Type} {a:Array α} {x:α} (h:a.toList=[x]):a=#[x]:=by cases a;simp at h;subst h;rfl
theorem zrh {o:Oper} {φ:Kn} {c:Call} {bi:Builtin} {l:List AV} {v:AV} (ho:o.op=.call c) (hc:c.callee=.builtin bi) (hl:zi7 φ c.args.toList=some l) (h:zqw P bi c.argTypes l=some v):zdf P o φ ⟨v,[],none⟩ :=
 za6 fun C N β S a w hr=>by
  obtain ⟨p1,p2⟩:=zi1 hr hl
  have e2:c.args.map a.eval=(l.map (AV.g β)).toArray:=by
   apply Array.ext'
   rw [Array.toList_map,p1]
  have key:∀ V,(∀ ty cs,(builtin bi c.argTypes ty cs (l.map (AV.g β)).toArray).run P w=.ok (.value V) w)→(execOp a.eval o).run P w=.ok (.value V) w:=by
   intro V hV
   generalize a.eval=ρ at *
   simp only [execOp,ho,resolve,hc,e2,Sem.run_bind,Sem.run_pure,Result.andThen_ok,invoke]
   exact hV o.type _
  clear p1 p2 e2
  unfold zqw at h
  split at h
  ·injection h with h;subst h
   refine ⟨fun j hj=>(nomatch hj),key _ fun ty cs=>?_⟩
   rename_i x y
   refine yaqd ((run_min_int2 w _ _ _ .u64 _ _).trans ?_)
   simp only [AV.g,AC.g]
   unfold bmin;by_cases hlt:nv y<nv x <;> simp [hlt]
  ·injection h with h;subst h
   refine ⟨fun j hj=>(nomatch hj),key _ fun ty cs=>?_⟩
   rename_i x y
   refine yaq8 ((run_max_int2 w _ _ _ .u64 _ _).trans ?_)
   simp only [AV.g,AC.g]
   unfold bmax;by_cases hlt:nv x<nv y <;> simp [hlt]
  ·injection h with h;subst h
   refine ⟨fun j hj=>(nomatch hj),key _ fun ty cs=>?_⟩
   rename_i x y
   exact yaqd (run_min_int2 w _ _ _ .i64 _ _)
  ·injection h with h;subst h
   refine ⟨fun j hj=>(nomatch hj),key _ fun ty cs=>?_⟩
   rename_i x y
   exact yaq8 (run_max_int2 w _ _ _ .i64 _ _)
  ·split at h
   ·rename_i t ht
    split at h
    ·rename_i el hu
     injection h with h;subst h
     refine ⟨fun j hj=>(nomatch hj),key _ fun ty cs=>?_⟩
     rw [zfx ht]
     exact yaa4 (zkm hu w)
    ·cases h
   ·cases h
  ·split at h
   ·rename_i t ht
    split at h
    ·rename_i el hu
     injection h with h;subst h
     refine ⟨fun j hj=>(nomatch hj),key _ fun ty cs=>?_⟩
     rw [zfx ht]
     exact yaa4 (zkm hu w)
    ·cases h
   ·cases h
  ·split at h
   ·rename_i t ht
    split at h
    ·rename_i el hu
     injection h with h;subst h
     refine ⟨fun j hj=>(nomatch hj),key _ fun ty cs=>?_⟩
     rw [zfx ht]
     exact yaa4 (zkm hu w)
    ·cases h
   ·cases h
  ·split at h
   ·rename_i t ht
    split at h
    ·rename_i hu
     injection h with h;subst h
     refine ⟨fun j hj=>(nomatch hj),key _ fun ty cs=>?_⟩
     rw [zfx ht]
     exact yaa4 (yac5 hu w)
    ·cases h
   ·cases h
  ·cases h
end
theorem zcs:∀ {ds:List TypeDesc} {l:List AC},typed ds l=true→l.length=ds.length
 | [],[],_=>rfl
 | d::ds,c::cs,h=>by simp only [typed,Bool.and_eq_true] at h;simp [zcs h.2]
 | [],_::_,h=>by simp [typed] at h
 | _::_,[],h=>by simp [typed] at h
theorem zef:∀ {ds es:List TypeDesc} {l:List AC},typed (ds++es) l=true→typed ds (l.take ds.length)=true∧typed es (l.drop ds.length)=true
 | [],es,l,h=>⟨by simp [typed],by simpa using h⟩
 | d::ds,es,[],h=>by simp [typed] at h
 | d::ds,es,c::cs,h=>by
  simp only [List.cons_append,typed,Bool.and_eq_true] at h
  obtain ⟨h1,h2⟩:=zef h.2
  exact ⟨by simp [typed,h.1,h1],by simpa using h2⟩
theorem zm9:∀ {l r l' r':List AC},l.length=r.length→eqCs (l++l') (r++r')=(eqCs l r&&eqCs l' r')
 | [],[],l',r',_=>by simp [eqCs]
 | x::l,y::r,l',r',h=>by
  simp only [List.cons_append,eqCs,zm9 (by simpa using h),Bool.and_assoc]
 | [],_::_,_,_,h=>by simp at h
 | _::_,[],_,_,h=>by simp at h
def zu2 (d:TypeDesc) (β:Bs) (l:List AC):Value :=
 if isAg d then .agg (l.map (AC.g β)).toArray else (l.getD 0 (.b false)).g β
section
variable {P:Program}
theorem zhq {T:TypeId} {d:TypeDesc} {i:TypeInfo} (hu:P.underlying T=some d) (hi:P.info? T=some i) (β:Bs) (l:List AC) (o:Nat) (h:o+i.size≤l.length) (h1:isAg d=false→i.size=1) (w:World) :
  (part T (l.map (AC.g β)).toArray o).run P w=.ok (zu2 d β ((l.drop o).take i.size)) w:=by
 unfold zu2
 cases ha:isAg d with
 | true =>
  simp [part,zdo hu,ha,zbq hi,Sem.run_bind]
 | false =>
  have hs:=h1 ha
  rw [hs] at h ⊢
  have h2:(l.map (AC.g β)).toArray[o]?=some ((((l.drop o).take 1).getD 0 (.b false)).g β):=by
   rw [List.getElem?_toArray,List.getElem?_map,List.getElem?_eq_getElem (by omega),List.getD_eq_getElem?_getD,List.getElem?_take,if_pos (by omega),List.getElem?_drop,Nat.add_zero,List.getElem?_eq_getElem (by omega)]
   rfl
  simp only [part,Sem.run_bind,zdo hu,ha,Result.andThen_ok,h2]
  rfl
def EqOk (P:Program) (dd:Nat) (T:TypeId) (ds:List TypeDesc):Prop :=
 ∃ d i,P.underlying T=some d∧P.info? T=some i∧i.size=ds.length∧(isAg d=false→i.size=1) ∧
  ∀ (β:Bs) (l r:List AC) (w:World),typed ds l=true→typed ds r=true→(Op.equalIn dd T (zu2 d β l) (zu2 d β r)).run P w=.ok (eqCs l r) w
theorem zqd (l:List AC) (o n:Nat):l.drop o=(l.drop o).take n++l.drop (o+n):=by
 rw [← List.drop_drop,List.take_append_drop]
theorem zpo {l r:List AC} {o n:Nat} (h:((l.drop o).take n).length=((r.drop o).take n).length) :
  eqCs (l.drop o) (r.drop o)=(eqCs ((l.drop o).take n) ((r.drop o).take n)&&eqCs (l.drop (o+n)) (r.drop (o+n))):=by
 rw [← zm9 h,← zqd,← zqd]
theorem zmq (dd:Nat) (rec:TypeId→Option (List TypeDesc)) (IH:∀ T ds i,rec T=some ds→P.info? T=some i→i.size=ds.length→EqOk P dd T ds) (β:Bs) (l r:List AC):∀ (fs:List Field) (o:Nat) (ds:List TypeDesc) (w:World),
  o≤l.length→o≤r.length→yab2 rec P fs o=some ds→typed ds (l.drop o)=true→typed ds (r.drop o)=true→(Op.eqFields dd (l.map (AC.g β)).toArray (r.map (AC.g β)).toArray fs).run P w=.ok (eqCs (l.drop o) (r.drop o)) w
 | [],o,ds,w,_,_,h,hl,hr=>by
  injection h with h;subst h
  have h1:=zcs hl
  have h2:=zcs hr
  rw [List.length_nil,List.length_eq_zero_iff] at h1 h2
  simp [Op.eqFields,h1,h2,eqCs]
 | f::fs,o,ds,w,hol,hor,h,hl,hr=>by
  unfold yab2 at h
  cases hc:(f.name == "_" || !Nat.beq f.offset o) with
  | true=>simp [hc] at h
  | false =>
   simp only [hc,cond_false] at h
   simp only [Bool.or_eq_false_iff,Bool.not_eq_false'] at hc
   have hoff:=Nat.eq_of_beq_eq_true hc.2
   have hname:f.name ≠ "_" := by simpa using hc.1
   split at h
   ·rename_i d1 i hd1 hi
    cases hb:Nat.beq i.size d1.length with
    | false=>simp [hb] at h
    | true =>
     simp only [hb,cond_true] at h
     have hsz:=Nat.eq_of_beq_eq_true hb
     split at h
     ·rename_i d2 hd2
      injection h with h;subst h
      obtain ⟨l1,l2⟩:=zef hl
      obtain ⟨r1,r2⟩:=zef hr
      obtain ⟨dsc,i',hu,hi',hsz',hone,heq⟩:=IH f.type d1 i hd1 hi hsz
      rw [hi] at hi'
      injection hi' with hi'
      subst hi'
      have ll:=zcs l1
      have rl:=zcs r1
      rw [List.drop_drop,← hsz] at l2 r2
      have hlen:o+i.size≤l.length:=by rw [List.length_take,List.length_drop] at ll;omega
      have hlen':o+i.size≤r.length:=by rw [List.length_take,List.length_drop] at rl;omega
      have ih:=zmq dd rec IH β l r fs (o+i.size) d2 w hlen hlen' hd2 l2 r2
      have p1:=zhq hu hi β l o hlen hone w
      have p2:=zhq hu hi β r o hlen' hone w
      rw [← hsz] at l1 r1 ll rl
      have he:=heq β _ _ w l1 r1
      simp only [Op.eqFields,hname,ne_eq,not_false_eq_true,if_true,hoff,Sem.run_bind,p1,p2,he,Result.andThen_ok]
      rw [zpo (n:=i.size) (by rw [ll,rl])]
      cases hq:eqCs ((l.drop o).take i.size) ((r.drop o).take i.size) with
      | true=>simpa using ih
      | false=>simp
     ·cases h
   ·cases h
theorem zpi (dd:Nat) {el:TypeId} {ds:List TypeDesc} {d:TypeDesc} {i:TypeInfo} (hu:P.underlying el=some d) (hi:P.info? el=some i) (hsz:i.size=ds.length) (hone:isAg d=false→i.size=1)
  (heq:∀ (β:Bs) (l r:List AC) (w:World),typed ds l=true→typed ds r=true→(Op.equalIn dd el (zu2 d β l) (zu2 d β r)).run P w=.ok (eqCs l r) w) (β:Bs) (l r:List AC):∀ (n s:Nat) (w:World),
  s*i.size≤l.length→s*i.size≤r.length→typed (List.replicate n ds).flatten (l.drop (s*i.size))=true→typed (List.replicate n ds).flatten (r.drop (s*i.size))=true →
  (Op.eqItems dd el i.size (l.map (AC.g β)).toArray (r.map (AC.g β)).toArray (List.range' s n)).run P w=.ok (eqCs (l.drop (s*i.size)) (r.drop (s*i.size))) w
 | 0,s,w,_,_,hl,hr=>by
  have h1:=zcs hl
  have h2:=zcs hr
  simp only [List.replicate_zero,List.flatten_nil,List.length_nil,List.length_eq_zero_iff] at h1 h2
  simp [Op.eqItems,h1,h2,eqCs]
 | n+1,s,w,hol,hor,hl,hr=>by
  rw [List.replicate_succ,List.flatten_cons] at hl hr
  obtain ⟨l1,l2⟩:=zef hl
  obtain ⟨r1,r2⟩:=zef hr
  have ll:=zcs l1
  have rl:=zcs r1
  rw [List.drop_drop,← hsz] at l2 r2
  have es:s*i.size+i.size=(s+1)*i.size:=by rw [Nat.add_mul,Nat.one_mul]
  rw [es] at l2 r2
  have hlen:s*i.size+i.size≤l.length:=by rw [List.length_take,List.length_drop] at ll;omega
  have hlen':s*i.size+i.size≤r.length:=by rw [List.length_take,List.length_drop] at rl;omega
  have ih:=zpi dd hu hi hsz hone heq β l r n (s+1) w (by rw [← es];exact hlen) (by rw [← es];exact hlen') l2 r2
  have p1:=zhq hu hi β l _ hlen hone w
  have p2:=zhq hu hi β r _ hlen' hone w
  rw [← hsz] at l1 r1 ll rl
  have he:=heq β _ _ w l1 r1
  rw [List.range'_succ]
  simp only [Op.eqItems,Sem.run_bind,p1,p2,he,Result.andThen_ok]
  rw [zpo (n:=i.size) (by rw [ll,rl]),es]
  cases hq:eqCs ((l.drop (s*i.size)).take i.size) ((r.drop (s*i.size)).take i.size) with
  | true=>simpa using ih
  | false=>simp
theorem ybau (T:TypeId) {i:TypeInfo} (hi:P.info? T=some i):P.cellsOf T=i.size:=by simp [Program.cellsOf,hi]
theorem equal_ok (dd:Nat):∀ (m:Nat) (T:TypeId) (ds:List TypeDesc) (i:TypeInfo),leafs P m T=some ds→P.info? T=some i→i.size=ds.length→EqOk P (dd+m) T ds
 | 0,_,_,_,h,_,_=>by simp [leafs] at h
 | m+1,T,ds,i,h,hi,hsz=>by
  have scal:∀ d,P.underlying T=some d→isAg d=false→ds=[d]→(∀ (β:Bs) (c c':AC) (w:World),zcw d c=true→zcw d c'=true→(Op.equalIn (dd+m+1) T (c.g β) (c'.g β)).run P w=.ok (eqC c c') w)→EqOk P (dd+(m+1)) T ds:=by
   intro d hu ha hds hc
   subst hds
   refine ⟨d,i,hu,hi,hsz,fun _=>hsz,fun β l r w hl hr=>?_⟩
   have h1:=zcs hl
   have h2:=zcs hr
   obtain ⟨c,rfl⟩:=List.length_eq_one_iff.1 h1
   obtain ⟨c',rfl⟩:=List.length_eq_one_iff.1 h2
   simp only [typed,Bool.and_true] at hl hr
   simp only [zu2,ha]
   have:=hc β c c' w hl hr
   simp only [eqCs,Bool.and_true]
   exact this
  unfold leafs at h
  split at h
  ·rename_i hu
   injection h with h
   refine scal _ hu rfl h.symm fun β c c' w hc hc'=>?_
   cases c using AC.tells <;> simp [zcw,AC.isB] at hc
   cases c' using AC.tells <;> simp [zcw,AC.isB] at hc'
   exact run_equalIn_bool w _ T _ _ hu
  ·rename_i hu
   injection h with h
   refine scal _ hu rfl h.symm fun β c c' w hc hc'=>?_
   cases c using AC.tells <;> simp [zcw,AC.isU] at hc
   cases c' using AC.tells <;> simp [zcw,AC.isU] at hc'
   rename_i x y
   have:=run_equalIn_int (P:=P) w (dd+m) T .u64 .u64 (nv x) (nv y) hu
   rw [zcn] at this
   exact this
  ·rename_i hu
   injection h with h
   refine scal _ hu rfl h.symm fun β c c' w hc hc'=>?_
   cases c using AC.tells <;> simp [zcw,AC.isI] at hc
   cases c' using AC.tells <;> simp [zcw,AC.isI] at hc'
   exact run_equalIn_int (P:=P) w (dd+m) T .i64 .i64 _ _ hu
  ·rename_i hu
   injection h with h
   refine scal _ hu rfl h.symm fun β c c' w hc hc'=>?_
   cases c using AC.tells <;> simp [zcw,AC.isY] at hc
   cases c' using AC.tells <;> simp [zcw,AC.isY] at hc'
   rename_i x y
   have:=run_equalIn_int (P:=P) w (dd+m) T .u8 .u8 (x.toNat:Int) (y.toNat:Int) hu
   refine this.trans ?_
   congr 1
   simp only [eqC]
   rw [Bool.eq_iff_iff,beq_iff_eq,beq_iff_eq]
   exact ⟨fun h=>BitVec.eq_of_toNat_eq (by omega),fun h=>by rw [h]⟩
  ·rename_i hu
   injection h with h
   refine scal _ hu rfl h.symm fun β c c' w hc hc'=>?_
   cases c using AC.tells <;> simp [zcw,AC.isS] at hc
   cases c' using AC.tells <;> simp [zcw,AC.isS] at hc'
   exact run_equalIn_string (P:=P) w (dd+m) T _ _ hu
  ·rename_i fs hu
   cases hst:P.stoodInHeld T with
   | true=>simp [hst] at h
   | false =>
    simp only [hst,cond_false] at h
    refine ⟨_,i,hu,hi,hsz,fun h=>(nomatch h),fun β l r w hl hr=>?_⟩
    have hfs:P.fieldsOf T=fs:=by simp [Program.fieldsOf,hu]
    have:=zmq (P:=P) (dd+m) (leafs P m) (fun T' ds' i' h1 h2 h3=>equal_ok dd m T' ds' i' h1 h2 h3) β l r fs.toList 0 ds w (Nat.zero_le _) (Nat.zero_le _) h (by simpa using hl) (by simpa using hr)
    rw [List.drop_zero,List.drop_zero] at this
    show (Op.equalIn (dd+m+1) T (.agg (l.map (AC.g β)).toArray) (.agg (r.map (AC.g β)).toArray)).run P w=_
    rw [run_equalIn_struct w (dd+m) T _ _ (by rw [hfs];exact hu) hst,hfs]
    exact this
  ·rename_i len el hu
   split at h
   ·rename_i d1 i1 hd1 hi1
    cases hb:Nat.beq i1.size d1.length with
    | false=>simp [hb] at h
    | true =>
     simp only [hb,cond_true,Option.some.injEq] at h
     subst h
     have hs1:=Nat.eq_of_beq_eq_true hb
     obtain ⟨d',i',hu',hi',_,hone,heq⟩:=equal_ok dd m el d1 i1 hd1 hi1 hs1
     rw [hi1] at hi'
     injection hi' with hi'
     subst hi'
     refine ⟨_,i,hu,hi,hsz,fun h=>(nomatch h),fun β l r w hl hr=>?_⟩
     have:=zpi (P:=P) (dd+m) hu' hi1 hs1 hone heq β l r len 0 w (by simp) (by simp) (by simpa using hl) (by simpa using hr)
     rw [Nat.zero_mul,List.drop_zero,List.drop_zero,← List.range_eq_range'] at this
     show (Op.equalIn (dd+m+1) T (.agg (l.map (AC.g β)).toArray) (.agg (r.map (AC.g β)).toArray)).run P w=_
     rw [run_equalIn_array w (dd+m) _ _ hu hi1,ybau el hi1]
     exact this
   ·cases h
  ·cases h
theorem yaet {o:Oper} {φ:Kn} {op:BinOp} {T T':TypeId} {x y:Operand} {l r:List AC} {v:AV} {ok:Bool} (ho:o.op=.binOp op T x y T') (hx:φ.ev x=some (.ag l)) (hy:φ.ev y=some (.ag r)) (h:yat4 P op T l r=some (v,ok)) (hok:ok=true):zdf P o φ ⟨v,[],none⟩ :=
 za6 fun C N β S a w hr=>by
  obtain ⟨h1,hk1⟩:=hr.ev hx;clear hk1
  obtain ⟨h2,hk2⟩:=hr.ev hy;clear hk2
  have h1':a.eval x=.agg (l.map (AC.g β)).toArray:=h1
  have h2':a.eval y=.agg (r.map (AC.g β)).toArray:=h2
  clear h1 h2
  unfold yat4 at h
  split at h
  ·rename_i ds d i hds hd hi
   cases hg:(P.eqGuardType P.depth T||!isAg d) with
   | true=>simp [hg] at h
   | false =>
    simp only [hg,cond_false] at h
    simp only [Bool.or_eq_false_iff,Bool.not_eq_false'] at hg
    have hguard:∀ op',(eqGuard op' T x y (.agg (l.map (AC.g β)).toArray) (.agg (r.map (AC.g β)).toArray)).run P w=.ok () w:=by
     intro op'
     have hg1:=hg.1
     cases op' <;> simp [eqGuard,Sem.run_bind,run_program,hg1]
    have heq:ok=true→ok=(typed ds l&&typed ds r&&Nat.beq i.size ds.length)→(Op.equal T (.agg (l.map (AC.g β)).toArray) (.agg (r.map (AC.g β)).toArray)).run P w=.ok (eqCs l r) w:=by
     intro e1 e2
     rw [e1] at e2
     have e2:=e2.symm
     simp only [Bool.and_eq_true] at e2
     obtain ⟨d',i',hu',hi',hsz,hone,heq⟩:=equal_ok (P:=P) 9992 8 T ds i hds hi (Nat.eq_of_beq_eq_true e2.2)
     rw [hd] at hu'
     injection hu' with hu'
     subst hu'
     have:=heq β l r w e2.1.1 e2.1.2
     simp only [zu2,hg.2,if_true] at this
     exact this
    split at h
    ·simp only [Option.some.injEq,Prod.mk.injEq] at h
     obtain ⟨rfl,h⟩:=h
     refine ⟨fun j hj=>(nomatch hj),zfe ho h1' h2' w (hguard _) ?_⟩
     show ((Op.equal T (.agg (l.map (AC.g β)).toArray) (.agg (r.map (AC.g β)).toArray) >>= fun q=>pure (Value.bool q)):Sem Value).run P w=_
     rw [Sem.run_bind,heq hok h.symm];rfl
    ·simp only [Option.some.injEq,Prod.mk.injEq] at h
     obtain ⟨rfl,h⟩:=h
     refine ⟨fun j hj=>(nomatch hj),zfe ho h1' h2' w (hguard _) ?_⟩
     show ((Op.equal T (.agg (l.map (AC.g β)).toArray) (.agg (r.map (AC.g β)).toArray) >>= fun q=>pure (Value.bool !q)):Sem Value).run P w=_
     rw [Sem.run_bind,heq hok h.symm];rfl
    ·cases h
  ·cases h
end
theorem zl6 (n:Nat) (z:List AC):rows (n+1) z=z++rows n z:=by simp [rows,List.replicate_succ]
theorem zga (z:List AC):∀ n,(rows n z).length=n*z.length
 | 0=>by simp [rows]
 | n+1=>by rw [zl6,List.length_append,zga z n,Nat.succ_mul,Nat.add_comm]
theorem yabc (z:List AC):∀ (n j:Nat),j<n*z.length→(rows n z)[j]?=z[j % z.length]?
 | 0,j,h=>by simp at h
 | n+1,j,h=>by
  rw [zl6]
  by_cases hj:j<z.length
  ·rw [List.getElem?_append_left hj,Nat.mod_eq_of_lt hj]
  ·rw [List.getElem?_append_right (by omega),yabc z n _ (by rw [Nat.succ_mul] at h;omega),← Nat.mod_eq_sub_mod (by omega)]
theorem zqq {z:List AC} {c:AC}:∀ {n:Nat},c∈rows n z→c∈z
 | 0,h=>by simp [rows] at h
 | n+1,h=>by
  rw [zl6] at h
  rcases List.mem_append.1 h with h | h
  ·exact h
  ·exact zqq h
theorem zj9 {i:TypeInfo} {z:List AC} (h:yalv i=some z):∃ v,i.zero=some v∧(∀ β:Bs,v.cells=(z.map (AC.g β)).toArray)∧z.length=i.size∧∀ c,c∈z→∀ j,j∈c.ks→False:=by
 unfold yalv at h
 split at h
 ·rename_i v hz
  split at h
  ·rename_i zv hv
   split at h
   ·rename_i cs hc
    cases hb:Nat.beq cs.length i.size with
    | false=>rw [hb] at h;cases h
    | true =>
     rw [hb] at h
     simp only [cond_true,Option.some.injEq] at h
     subst h
     obtain ⟨h1,h2⟩:=zz7 hv
     refine ⟨v,hz,fun β=>?_,Nat.eq_of_beq_eq_true hb,fun c hcc j hj=>?_⟩
     ·have:=(zg3 hc β).1
      rw [h1] at this
      exact this
     ·have:=(zg3 hc (fun _=>(0,0,0))).2 j (zdy hcc hj)
      rw [h2] at this
      cases this
   ·cases h
  ·cases h
 ·cases h
theorem yaby (β:Bs) (z:List AC) (n:Nat) (A:Array Value) (hA:n*z.length≠0→A=(z.map (AC.g β)).toArray) :
  (Array.range (n*z.length)).map (fun i=>A[i % A.size]!)=((rows n z).map (AC.g β)).toArray:=by
 by_cases h0:n*z.length=0
 ·have:(rows n z)=[]:=List.eq_nil_of_length_eq_zero (by rw [zga,h0])
  rw [h0,this];simp
 ·have hA:=hA h0
  subst hA
  have hz:0<z.length:=Nat.pos_of_ne_zero (fun e=>h0 (by rw [e,Nat.mul_zero]))
  apply Array.ext
  ·simp [zga]
  ·intro j h1 h2
   simp only [Array.size_map,Array.size_range] at h1
   have hm:j % z.length<z.length:=Nat.mod_lt _ hz
   have hr:=yabc z n j h1
   rw [List.getElem?_eq_getElem hm,List.getElem?_eq_getElem (by rw [zga];exact h1)] at hr
   injection hr with hr
   simp [hr,hm]
section
variable {P:Program}
theorem zt4 {o:Oper} {φ:Kn} {k n m:Nat} {cs:List AC}
  (h:∀ C N β S a w,Rel C N β S φ a w→(∀ c,c∈cs→∀ j,j∈c.ks→S j)∧∃ T,(execOp a.eval o).run P w=.ok (.value (.slice (some ⟨w.heap.size,0,none⟩) n m)) (w.alloc (.cells (cs.map (AC.g β)).toArray T))) :
  zdf P o φ ⟨.c (.sl k 0 n m),[],some (k,⟨true,cs,0⟩)⟩ :=
 ⟨fun _ _ hm=>(nomatch hm),fun C N β S a w hr hn=>by
  obtain ⟨hk,T,hrun⟩:=h C N β S a w hr
  have hnk:=hn k _ rfl
  refine ⟨⟨fun j hj=>?_,fun _ _ hm=>(nomatch hm),fun k' cs' he c hc j hj=>?_⟩,?_⟩
  ·simp [AV.ks,AC.ks] at hj;exact Or.inr hj
  ·simp at he;rw [← he.2] at hc;exact Or.inl (hk c hc j hj)
  ·unfold Oper.wp
   rw [hrun]
   refine ⟨_,yap4 (T:=T) fun c hc j hj e=>hnk (e ▸ hk c hc j hj),?_⟩
   simp [AV.g,AC.g,ptr,bset]⟩
theorem zhi (el:TypeId) (cs:Array Value) (w:World):(newRow el cs).run P w=.ok ⟨w.heap.size,0,none⟩ (w.alloc (.cells cs el)):=rfl
theorem zlg {o:Oper} {φ:Kn} {k len:Nat} {T:TypeId} {ps:Array (Nat×Operand)} {l:List (Nat×AV)} {hs:List Eff} {r:Res} (ho:o.op=.buildSlice T len ps) (hl:zim φ ps.toList=some l) (h:zgb P k T len l hs=some r) (hok:r.ok=true):zdf P o φ r.e:=by
 unfold zgb at h
 split at h
 ·rename_i el hu
  split at h
  ·rename_i i hi
   split at h
   ·rename_i z hz
    split at h
    ·rename_i cs ok hf
     injection h with h;subst h
     simp only [Bool.and_eq_true] at hok
     obtain ⟨v,hz1,hz2,hz3,hz4⟩:=zj9 hz
     refine zt4 fun C N β S a w hr=>?_
     obtain ⟨p1,p2⟩:=zmj hr hl
     obtain ⟨f1,f2⟩:=zry β hf hok.1
     refine ⟨fun c hc j hj=>?_,el,?_⟩
     ·rcases f2 c hc with h1 | ⟨x,hx,h1⟩
      ·exact (hz4 c (zqq h1) j hj).elim
      ·exact p2 x hx j (h1 j hj)
     ·have hle:¬ (len*i.size > 2 ^ 24):=by have:=Nat.le_of_ble_eq_true hok.2;omega
      have p1':(ps.map (fun x=>(x.1,a.eval x.2))).toList=l.map (fun x=>(x.1,x.2.g β)):=by rw [Array.toList_map];exact p1
      generalize a.eval=ρ at *
      have hrw:=fun (A:Array Value)=>yaby β z len A
      rw [hz3] at hrw
      have hx:(Instr.buildSlice T len (ps.map (fun x=>(x.1,ρ x.2)))).run P w=.ok (.slice (some ⟨w.heap.size,0,none⟩) len len) (w.alloc (.cells (cs.map (AC.g β)).toArray el)):=by
       by_cases h0:len*i.size=0
       ·simp only [Instr.buildSlice,Sem.run_bind,zal hu,zbq hi,Result.andThen_ok,if_neg hle,if_pos h0,p1',hrw #[] (fun h=>absurd h0 h),f1,zhi,Sem.run_pure]
       ·simp only [Instr.buildSlice,Sem.run_bind,zal hu,zbq hi,Result.andThen_ok,if_neg hle,if_neg h0,zhb hi hz1,hz2 β,p1',hrw _ (fun _=>rfl),f1,zhi,Sem.run_pure]
      simp only [execOp,ho,Sem.run_bind]
      refine (congrArg (fun r=>Result.andThen r _) hx).trans ?_
      rfl
    ·cases h
   ·cases h
  ·cases h
 ·cases h
theorem zn5 (n:Nat) (w:World):(askRoom n).run P w=.ok () w:=by
 unfold askRoom
 split <;> rfl
theorem yahk {n:Int} (h0:0≤n) (h1:n≤1099511627776):IntKind.i64.wrap n=n:=by
 rw [IntKind.wrap_i64];omega
theorem zl2 {o:Oper} {φ:Kn} {k:Nat} {T:TypeId} {x y:Operand} {xv yv:AV} {hs:List Eff} {r:Res} (ho:o.op=.makeSlice T x y) (hx:φ.ev x=some xv) (hy:φ.ev y=some yv) (h:zhu P k T xv yv hs=some r) (hok:r.ok=true):zdf P o φ r.e:=by
 unfold zhu at h
 split at h
 ·rename_i el n m hu hn hm
  split at h
  ·rename_i i hi
   split at h
   ·rename_i z hz
    injection h with h;subst h
    simp only [Bool.and_eq_true,decide_eq_true_eq] at hok
    obtain ⟨⟨⟨hn0,hnm⟩,hm1⟩,hby⟩:=hok
    have hby:=Nat.le_of_ble_eq_true hby
    obtain ⟨v,hz1,hz2,hz3,hz4⟩:=zj9 hz
    refine zt4 fun C N β S a w hr=>⟨fun c hc j hj=>(hz4 c (zqq hc) j hj).elim,el,?_⟩
    obtain ⟨h1,_⟩:=hr.ev hx
    obtain ⟨h2,_⟩:=hr.ev hy
    obtain ⟨kd,g1⟩:=zpv hn β
    obtain ⟨kd',g2⟩:=zpv hm β
    rw [g1] at h1
    rw [g2] at h2
    have hw1:=yahk hn0 (by omega:n≤1099511627776)
    have hw2:=yahk (by omega:0≤m) hm1
    have hbig:¬ ((i.bytes:Int)*m > 2 ^ 48):=by
     have:(i.bytes:Int)*m≤256*1099511627776:=Int.mul_le_mul (by omega) hm1 (by omega) (by omega)
     have e:(2:Int) ^ 48=256*1099511627776:=by decide
     omega
    have hc1:(decide (m<0)||decide ((i.bytes:Int)*m > 2 ^ 48)||decide (n<0)||decide (n > m))=false:=by
     simp only [Bool.or_eq_false_iff,decide_eq_false_iff_not]
     exact ⟨⟨⟨by omega,hbig⟩,by omega⟩,by omega⟩
    have hrw:=fun (A:Array Value)=>yaby β z m.toNat A
    rw [hz3] at hrw
    generalize a.eval=ρ at *
    have hx:(Instr.makeSlice T (ρ x) (ρ y)).run P w=.ok (.slice (some ⟨w.heap.size,0,none⟩) n.toNat m.toNat) (w.alloc (.cells ((rows m.toNat z).map (AC.g β)).toArray el)):=by
     rw [h1,h2]
     by_cases h0:m.toNat*i.size=0
     ·simp only [Instr.makeSlice,asInt,asIntOf,Sem.run_bind,zal hu,zbq hi,zi9 hi,Result.andThen_ok,Sem.run_pure,hw1,hw2,hc1,Bool.false_eq_true,if_false,zn5,if_pos h0,hrw #[] (fun h=>absurd h0 h),zhi]
     ·simp only [Instr.makeSlice,asInt,asIntOf,Sem.run_bind,zal hu,zbq hi,zi9 hi,Result.andThen_ok,Sem.run_pure,hw1,hw2,hc1,Bool.false_eq_true,if_false,zn5,if_neg h0,zhb hi hz1,hz2 β,hrw _ (fun _=>rfl),zhi]
    simp only [execOp,ho,Sem.run_bind]
    refine (congrArg (fun r=>Result.andThen r _) hx).trans ?_
    rfl
   ·cases h
  ·cases h
 ·cases h
def yaj2 (v:Option Value):Option Int→Prop
 | none=>v=none
 | some n=>∃ kd,v=some (.int kd n)
theorem zwo {φ:Kn} {C:Cx} {N:Nat} {β:Bs} {S:Nat→Prop} {a:Act} {w:World} (hr:Rel C N β S φ a w) {x:Option Operand} {l:Option Int} (h:zup φ x=some l):yaj2 (x.map a.eval) l:=by
 unfold zup at h
 split at h
 ·injection h with h;subst h;rfl
 ·split at h
  ·rename_i v hv
   split at h
   ·rename_i n hn
    injection h with h;subst h
    obtain ⟨kd,g⟩:=zpv hn β
    exact ⟨kd,by rw [Option.map_some,(hr.ev hv).1,g]⟩
   ·cases h
  ·cases h
theorem zfr {kd:IntKind} {n:Int} {y:Nat} {c:BoundsCode} (h0:0≤n) (h1:n≤y) (w:World):(Instr.sliceBound (.int kd n) y c).run P w=.ok n.toNat w:=by
 simp only [Instr.sliceBound,asIntOf,Sem.run_bind,Sem.run_pure,Result.andThen_ok,if_pos (And.intro h0 h1)]
theorem zkb {t:Bool} {len cap:Nat} {low high max:Option Value} {l h m:Option Int} (hl:yaj2 low l) (hh:yaj2 high h) (hm:yaj2 max m) (h0:0≤l.getD 0) (h1:l.getD 0≤h.getD len) (h2:h.getD len≤m.getD cap) (h3:m.getD cap≤cap) (h4:h=none→m=none) (w:World) :
  (Instr.sliceBounds t len cap low high max).run P w=.ok ((l.getD 0).toNat,(h.getD len).toNat,(m.getD cap).toNat) w:=by
 cases m with
 | none =>
  rw [show max=none from hm] at *
  simp only [Option.getD_none] at *
  cases h with
  | none =>
   rw [show high=none from hh]
   simp only [Option.getD_none] at *
   cases l with
   | none=>rw [show low=none from hl];rfl
   | some l =>
    obtain ⟨kd,rfl⟩:=hl
    simp only [Option.getD_some] at *
    simp only [Instr.sliceBounds,Sem.run_bind,Sem.run_pure,Result.andThen_ok,zfr h0 h1]
    rfl
  | some h =>
   obtain ⟨kd,rfl⟩:=hh
   simp only [Option.getD_some] at *
   have hb:=fun c=>zfr (P:=P) (kd:=kd) (c:=c) (by omega:0≤h) h2 w
   cases l with
   | none =>
    rw [show low=none from hl]
    simp only [Instr.sliceBounds,Sem.run_bind,Sem.run_pure,Result.andThen_ok,hb]
    rfl
   | some l =>
    obtain ⟨kd,rfl⟩:=hl
    simp only [Option.getD_some] at *
    simp only [Instr.sliceBounds,Sem.run_bind,Sem.run_pure,Result.andThen_ok,hb,zfr h0 (by omega:l≤(h.toNat:Int))]
    rfl
 | some m =>
  obtain ⟨kd,rfl⟩:=hm
  simp only [Option.getD_some] at *
  cases h with
  | none=>exact absurd (h4 rfl) (by simp)
  | some h =>
   obtain ⟨kd1,rfl⟩:=hh
   simp only [Option.getD_some] at *
   have hb1:=fun c=>zfr (P:=P) (kd:=kd) (c:=c) (by omega:0≤m) h3 w
   have hb:=fun c=>zfr (P:=P) (kd:=kd1) (c:=c) (by omega:0≤h) (by omega:h≤(m.toNat:Int)) w
   cases l with
   | none =>
    rw [show low=none from hl]
    simp only [Instr.sliceBounds,Sem.run_bind,Sem.run_pure,Result.andThen_ok,hb1,hb]
    rfl
   | some l =>
    obtain ⟨kd,rfl⟩:=hl
    simp only [Option.getD_some] at *
    simp only [Instr.sliceBounds,Sem.run_bind,Sem.run_pure,Result.andThen_ok,hb1,hb,zfr h0 (by omega:l≤(h.toNat:Int))]
theorem zzh {o:Oper} {φ:Kn} {T:TypeId} {x:Operand} {lo hi mx:Option Operand} {xv v:AV} {l h m:Option Int} {ok:Bool} (ho:o.op=.slice T x lo hi mx) (hx:φ.ev x=some xv) (hl:zup φ lo=some l) (hh:zup φ hi=some h) (hm:zup φ mx=some m) (he:yaie P T xv l h m=some (v,ok)) (hok:ok=true) :
  zdf P o φ ⟨v,[],none⟩ :=
 za6 fun C N β S a w hr=>by
  obtain ⟨h1,h2⟩:=hr.ev hx
  have b1:=zwo hr hl
  have b2:=zwo hr hh
  have b3:=zwo hr hm
  clear hl hh hm hx
  unfold yaie at he
  split at he
  ·rename_i t hu
   split at he
   ·simp only [Option.some.injEq,Prod.mk.injEq] at he
    obtain ⟨rfl,rfl⟩:=he
    simp only [Bool.and_eq_true,decide_eq_true_eq] at hok
    refine ⟨fun j hj=>(nomatch hj),?_⟩
    have h1':a.eval x=.string t:=h1
    clear h1
    generalize a.eval=ρ at *
    have hb:=zkb (P:=P) (t:=false) (len:=t.size) (cap:=t.size) b1 b2 (show yaj2 none none from rfl) hok.1.1 hok.1.2 (by simpa using hok.2) (by simp) (fun _=>rfl) w
    have hms:(mx.map ρ).isSome=false:=by rw [show mx.map ρ=none from b3];rfl
    have hx:(Instr.sliceAt T (ρ x) (lo.map ρ) (hi.map ρ) (mx.map ρ)).run P w=.ok (.string (t.extract (l.getD 0).toNat (h.getD t.size).toNat)) w:=by
     simp only [Instr.sliceAt,Instr.slice,Sem.run_bind,zal hu,Result.andThen_ok,h1',hms,Bool.false_eq_true,if_false,hb,Sem.run_pure]
    simp only [execOp,ho,Sem.run_bind]
    refine (congrArg (fun r=>Result.andThen r _) hx).trans ?_
    rfl
   ·cases he
  ·rename_i el k off n c hu
   split at he
   ·rename_i i hi'
    have hne:h=none→m=none:=by
     intro e
     cases m with
     | none=>rfl
     | some m=>rw [e] at he;cases he
    have hcond:(h.isNone&&m.isSome)=false:=by
     cases hc:(h.isNone&&m.isSome) with
     | false=>rfl
     | true=>rw [hc] at he;cases he
    simp only [hcond,cond_false] at he
    split at he
    ·simp only [Option.some.injEq,Prod.mk.injEq] at he
     obtain ⟨rfl,rfl⟩:=he
     simp only [Bool.and_eq_true,decide_eq_true_eq] at hok
     refine ⟨fun j hj=>h2 j hj,?_⟩
     have h1':a.eval x=.slice (some (ptr β k off)) n c:=h1
     clear h1
     generalize a.eval=ρ at *
     have hb:=zkb (P:=P) (t:=true) (len:=n) (cap:=c) b1 b2 b3 (by simp) (by simpa using hok.1.1) hok.1.2 hok.2 hne w
     have hx:(Instr.sliceAt T (ρ x) (lo.map ρ) (hi.map ρ) (mx.map ρ)).run P w=.ok (.slice (some (ptr β k off)) (h.getD n).toNat (m.getD c).toNat) w:=by
      simp only [Instr.sliceAt,Instr.slice,Sem.run_bind,zal hu,Result.andThen_ok,h1',hb,zbq hi',Sem.run_pure]
      simp [zgd]
     simp only [execOp,ho,Sem.run_bind]
     refine (congrArg (fun r=>Result.andThen r _) hx).trans ?_
     rfl
    ·rename_i l
     simp only [Option.some.injEq,Prod.mk.injEq] at he
     obtain ⟨rfl,rfl⟩:=he
     simp only [Bool.and_eq_true,decide_eq_true_eq] at hok
     refine ⟨fun j hj=>h2 j hj,?_⟩
     have h1':a.eval x=.slice (some (ptr β k off)) n c:=h1
     clear h1
     generalize a.eval=ρ at *
     obtain ⟨⟨⟨⟨k0,k1⟩,k2⟩,k3⟩,k4⟩:=hok
     have hb:=zkb (P:=P) (t:=true) (len:=n) (cap:=c) b1 b2 b3 (by simpa using k0) (by simpa using k1) k2 k3 hne w
     have hml:¬ ((m.getD c).toNat=((some l).getD 0).toNat):=by simp only [Option.getD_some];omega
     have hx:(Instr.sliceAt T (ρ x) (lo.map ρ) (hi.map ρ) (mx.map ρ)).run P w=.ok (.slice (some (ptr β k (off+l.toNat*i.size))) ((h.getD n).toNat - l.toNat) ((m.getD c).toNat - l.toNat)) w:=by
      simp only [Instr.sliceAt,Instr.slice,Sem.run_bind,zal hu,Result.andThen_ok,h1',hb,zbq hi',Sem.run_pure,if_neg hml]
      simp [zgd]
     simp only [execOp,ho,Sem.run_bind]
     refine (congrArg (fun r=>Result.andThen r _) hx).trans ?_
     rfl
   ·cases he
  ·cases he
end
end Go.Proofs.YtkigmocchaikgabGreatDoor
