import Derived.Test.YtkigmocchaikgabGreatDoorDj3
import Derived.Test.YtkigmocchaikgabGreatDoorDj2
import Derived.Test.YtkigmocchaikgabGreatDoorProg
/- The steps of all lines: readLines. -/
namespace Go.Proofs.YtkigmocchaikgabGreatDoor
open Go.Shelf Go.RowKit Go.Sort Go.Lib Go.Maps
def zin:List ByteArray→Option (List Ins)
 | []=>some []
 | x::xs=>match zmu x with | some i=>(zin xs).map (i::·) | none=>none
def zif (s:ByteArray):List ByteArray:=zf3 ⟨(trimSuffix s.data.toList [10]).toArray⟩ 10
def accC (l:List Ins):List Value:=l.flatMap fun i=>(icells i).toList
abbrev T22:TypeId:=27
abbrev T4:TypeId:=4
structure Rl (B bl:Nat) (ls:List ByteArray) (w:World) (n:Nat) (acc:List Ins) (v:Value) (wr:World):Prop where
 all:zin ls=(zin (ls.drop n)).map (acc++·)
 len:acc.length=n
 l:wr.heap[B]?=some (.cells #[v] T22 (0,0))
 ok:wr.heap[B+1]?=some (.cells #[.bool false] T4 (0,0))
 lines:wr.heap[bl]?=some (.cells (ls.map Value.string).toArray 9 (0,0))
 map:yas4 wr (B+1+1) opsD
 own:wr.ownsRow (bl+1) T40 5 v n (accC acc)
 bel:Below B w wr
 big:bl+1≤wr.heap.size
 far:B+1+1<bl
theorem yau1:(Tryz.prog.info? T40).map (fun i=>(i.zero,i.size,i.bytes))=some (some (.agg #[.int .i64 0,.int .i64 0,.int .i64 0,.int .u64 0,.int .i64 0]),5,40):=by kernel_rfl
theorem zh8 (i:Ins):∀ u∈(icells i).toList,u.oneCell'=true:=fun u hu=>by
 simp at hu
 rcases hu with rfl | rfl | rfl | rfl | rfl <;> rfl
theorem znq (w:World) (i:Ins):∀ j u,(icells i).toList[j]?=some u→(w.alloc (.cells (icells i) T40 (0,0))).cell? ((⟨w.heap.size,0,none⟩:Addr).add j)=some u:=fun j u h=>by
 rw [Lib.add_plain,cell_of_row _ _ _ _ _ _ (zbs _ _)]
 simpa using h
theorem ziw {w:World} {B n:Nat} {v:Value} {xs:List Value} (h:w.ownsRow B T40 5 v n xs):∃ a n c,v=.slice a n c:=by
 rcases h.2 with ⟨hv,_⟩ | ⟨g,cap,cur,hv,_⟩
 ·exact ⟨_,_,_,hv⟩
 ·exact ⟨_,_,_,hv⟩
theorem zr3 {B bl n:Nat} {ls:List ByteArray} {w wr w5:World} {acc:List Ins} {v:Value} {o:Obj} (h:Rl B bl ls w n acc v wr) (hb:Below wr.drew.heap.size wr.drew w5):(w5.alloc o).ownsRow (bl+1) T40 5 v n (accC acc):=by
 obtain ⟨h1,h2⟩:=h.own
 refine ⟨h1,h2.imp id ?_⟩
 rintro ⟨g,cap,cur,a,b,c,d⟩
 have h3:=(hb.block g (Array.getElem?_eq_some_iff.1 c).1).trans c
 exact ⟨g,cap,cur,a,b,(Below.heap_alloc _ _ _ (Array.getElem?_eq_some_iff.1 h3).1).trans h3,d⟩
theorem znh {B bl n:Nat} {ls:List ByteArray} {w wr w5:World} {acc:List Ins} {v:Value} {o:Obj} (h:Rl B bl ls w n acc v wr) (hb:Below wr.drew.heap.size wr.drew w5):bl+1≤(w5.alloc o).heap.size :=
 Nat.le_trans h.big (Nat.le_trans hb.size (za2 w5 o).size)
theorem yave {w:World} {B n:Nat} {v:Value} {xs:List Value} (h:w.ownsRow B T40 5 v n xs) {k:Nat} (hk:k<B):some k≠v.ownBlock:=by
 rcases h.2 with ⟨rfl,_⟩ | ⟨g,cap,cur,rfl,hg,_⟩
 ·simp [Value.ownBlock]
 ·simp [Value.ownBlock];omega
theorem zm0 {B bl n:Nat} {ls:List ByteArray} {w wr w5 w6:World} {acc:List Ins} {v:Value} {o ob:Obj} {k:Nat} (h:Rl B bl ls w n acc v wr) (hb:Below wr.drew.heap.size wr.drew w5) (hg:(w5.alloc o).grownBy w6 v.ownBlock) (hk:k<bl+1) (ho:wr.heap[k]?=some ob):w6.heap[k]?=some ob:=by
 have h1:w5.heap[k]?=some ob:=(hb.block k (Array.getElem?_eq_some_iff.1 ho).1).trans ho
 have hlt:=(Array.getElem?_eq_some_iff.1 h1).1
 rw [hg.block k (Nat.lt_of_lt_of_le hlt (za2 w5 o).size) (yave h.own hk),Below.heap_alloc _ _ _ hlt]
 exact h1
theorem yagt {B bl n:Nat} {ls:List ByteArray} {w wr w5 w6:World} {acc:List Ins} {v:Value} {o:Obj} (h:Rl B bl ls w n acc v wr) (hb:Below wr.drew.heap.size wr.drew w5) (hg:(w5.alloc o).grownBy w6 v.ownBlock):w6.heap[B]?=some (.cells #[v] T22 (0,0)) :=
 zm0 h hb hg (by have:=h.far;omega) h.l
theorem zyx {B bl n:Nat} {ls:List ByteArray} {w wr w5 w6:World} {acc:List Ins} {v v':Value} {o:Obj} {x:ByteArray} {i:Ins} (h:Rl B bl ls w n acc v wr) (hx:ls[n]?=some x) (hr:zmu x=some i) (hb:Below wr.drew.heap.size wr.drew w5) (hown:w6.ownsRow (bl+1) T40 5 v' (n+1) (accC acc++(icells i).toList)) (hg:(w5.alloc o).grownBy w6 v.ownBlock):Rl B bl ls w (n+1) (acc++[i]) v' (w6.setCell ⟨B,0,none⟩ v'):=by
 have hf:=h.far
 have hbg:=h.big
 have hB5:B≤w5.heap.size:=Nat.le_trans (by show B≤wr.heap.size;omega) hb.size
 have hbw:Below B w w5:=h.bel.drew.trans (hb.mono (by show B≤wr.heap.size;omega))
 have hb6:Below B w w6:=(hbw.alloc hB5 o).grown hg (Nat.le_trans hB5 (za2 w5 o).size) (fun k hk=>by
  rcases h.own.2 with ⟨rfl,_⟩ | ⟨g,cap,cur,rfl,hgb,_⟩
  ·simp [Value.ownBlock] at hk
  ·simp [Value.ownBlock] at hk;omega)
 refine ⟨?_,by simp [h.len],?_,?_,?_,?_,?_,hb6.setCell (Nat.le_refl _) _,?_,hf⟩
 ·rw [h.all,zht hx]
  simp only [zin,hr,Option.map_map]
  congr 1
  funext l
  simp
 ·exact heap_setCell_same w6 B 0 _ _ v' (zm0 h hb hg (by omega) h.l)
 ·rw [heap_setCell_other _ _ _ _ (by simp)];exact zm0 h hb hg (by omega) h.ok
 ·rw [heap_setCell_other _ _ _ _ (by show bl≠B;omega)];exact zm0 h hb hg (by omega) h.lines
 ·obtain ⟨es,ck,hh,rest⟩:=h.map
  exact ⟨es,ck,(heap_setCell_other _ _ _ _ (by show B+1+1≠B;omega)).trans (zm0 h hb hg (by omega) hh),rest⟩
 ·have e:accC (acc++[i])=accC acc++(icells i).toList:=by simp [accC]
  rw [e]
  obtain ⟨h1,h2⟩:=hown
  refine ⟨h1,h2.imp id ?_⟩
  rintro ⟨g,cap,cur,a,b,c,d⟩
  exact ⟨g,cap,cur,a,b,(heap_setCell_other _ _ _ _ (by show g≠B;omega)).trans c,d⟩
 ·have h7:=hg.size
  have h8:=(za2 w5 o).size
  have h9:=hb.size
  have h10:wr.drew.heap.size=wr.heap.size:=rfl
  simp only [World.setCell,Array.size_modify]
  omega
theorem zk8 {P:Program} {fn:Func} {t t':Array Value} {R:Ending→World→Prop} (h:results fn t=results fn t'):∀ (ds:List Deferred) (u:FrameMode) (w:World),Leaves P fn t R ds u w↔Leaves P fn t' R ds u w
 | [],.returning,w=>by simp only [Leaves,h]
 | [],.panicking _,w=>Iff.rfl
 | [],.run,w=>Iff.rfl
 | d::ds,u,w=>by simp only [Leaves,zk8 h ds]
theorem yauo {a:Act} {k:Nat} (h2:k≠2) (h3:k≠3) (v:Value):results Tryz.f17 (a.put (some k) v).tmps=results Tryz.f17 a.tmps:=by
 simp [results,Tryz.results17,Act.put,Array.getElem?_setIfInBounds,h2,h3]
theorem yang {P:Program} {R:Ending→World→Prop} {k:Nat} (h2:k≠2) (h3:k≠3) (v:Value) (c:List PanicEntry) (a:Act) (w:World) (h:Leaves P Tryz.f17 (a.put (some k) v).tmps R (a.put (some k) v).defers (.panicking c) w):Leaves P Tryz.f17 a.tmps R a.defers (.panicking c) w :=
 (zk8 (yauo h2 h3 v) _ _ _).1 h
def Rd (B:Nat) (w:World):Option (List Ins)→Ending→World→Prop
 | none,e,w'=>e=.returned (.tuple #[.slice none 0 0,.bool false])∧Below B w w'
 | some L,e,w'=>(∃ v bl,e=.returned (.tuple #[v,.bool true])∧B≤bl∧w'.ownsRow bl T40 5 v L.length (accC L))∧Below B w w'
theorem caught (pv:Value) {B:Nat} {v bo:Value} {w w5:World} {t:Array Value} (k1:w5.heap[B]?=some (.cells #[v] T22 (0,0))) (k2:w5.heap[B+1]?=some (.cells #[bo] T4 (0,0))) (hb:Below B w w5) (t2:t.getD 2 undef=.pointer (some ⟨B,0,none⟩)) (t3:t.getD 3 undef=.pointer (some ⟨B+1,0,none⟩)) :
  Leaves Tryz.prog Tryz.f17 t (Rd B w none) [] (settle (.panicking [{ v:=pv,recovered:=true }])) ((w5.setCell ⟨B,0,none⟩ (.slice none 0 0)).setCell ⟨B+1,0,none⟩ (.bool false)):=by
 have c1:((w5.setCell ⟨B,0,none⟩ (.slice none 0 0)).setCell ⟨B+1,0,none⟩ (.bool false)).cell? ⟨B,0,none⟩=some (.slice none 0 0):=by
  rw [World.cell?_of_block (heap_setCell_other _ _ _ _ (by simp)),cell_of_row _ _ _ _ _ _ (heap_setCell_same _ _ _ _ _ _ k1)];rfl
 have c2:((w5.setCell ⟨B,0,none⟩ (.slice none 0 0)).setCell ⟨B+1,0,none⟩ (.bool false)).cell? ⟨B+1,0,none⟩=some (.bool false):=by
  rw [cell_of_row _ _ _ _ _ _ (heap_setCell_same _ _ _ _ _ _ ((heap_setCell_other _ _ _ _ (by simp)).trans k2))];rfl
 have t2':t[2]?.getD undef=.pointer (some ⟨B,0,none⟩):=by simpa using t2
 have t3':t[3]?.getD undef=.pointer (some ⟨B+1,0,none⟩):=by simpa using t3
 refine ⟨.tuple #[.slice none 0 0,.bool false],?_,rfl,(hb.setCell (Nat.le_refl _) _).setCell (Nat.le_succ _) _⟩
 generalize (w5.setCell ⟨B,0,none⟩ (.slice none 0 0)).setCell ⟨B+1,0,none⟩ (.bool false)=W at *
 simp [results,Tryz.results17,t2',t3',asAddr,go_sem,c1,c2]
theorem passed {bl:Nat} {ls:List ByteArray} {w wr:World} {acc:List Ins} {v:Value} {t:Array Value} (h:Rl w.heap.size bl ls w ls.length acc v wr) (t2:t.getD 2 undef=.pointer (some ⟨w.heap.size,0,none⟩)) (t3:t.getD 3 undef=.pointer (some ⟨w.heap.size+1,0,none⟩)) :
  Leaves Tryz.prog Tryz.f17 t (Rd w.heap.size w (some acc)) [] (settle .returning) ((wr.setCell ⟨w.heap.size,0,none⟩ v).setCell ⟨w.heap.size+1,0,none⟩ (.bool true)):=by
 have k1:(wr.setCell ⟨w.heap.size,0,none⟩ v).heap[w.heap.size]?=some (.cells #[v] T22 (0,0)):=heap_setCell_same wr _ 0 _ _ v h.l
 have k2:(wr.setCell ⟨w.heap.size,0,none⟩ v).heap[w.heap.size+1]?=some (.cells #[.bool false] T4 (0,0)):=(heap_setCell_other _ _ _ _ (by simp)).trans h.ok
 have c1:((wr.setCell ⟨w.heap.size,0,none⟩ v).setCell ⟨w.heap.size+1,0,none⟩ (.bool true)).cell? ⟨w.heap.size,0,none⟩=some v:=by
  rw [World.cell?_of_block (heap_setCell_other _ _ _ _ (by simp)),cell_of_row _ _ _ _ _ _ k1];rfl
 have c2:((wr.setCell ⟨w.heap.size,0,none⟩ v).setCell ⟨w.heap.size+1,0,none⟩ (.bool true)).cell? ⟨w.heap.size+1,0,none⟩=some (.bool true):=by
  rw [cell_of_row _ _ _ _ _ _ (heap_setCell_same _ _ _ _ _ _ k2)];rfl
 have t2':t[2]?.getD undef=.pointer (some ⟨w.heap.size,0,none⟩):=by simpa using t2
 have t3':t[3]?.getD undef=.pointer (some ⟨w.heap.size+1,0,none⟩):=by simpa using t3
 have hf:=h.far
 have hown:((wr.setCell ⟨w.heap.size,0,none⟩ v).setCell ⟨w.heap.size+1,0,none⟩ (.bool true)).ownsRow (bl+1) T40 5 v acc.length (accC acc):=by
  rw [h.len]
  obtain ⟨h1,h2⟩:=h.own
  refine ⟨h1,h2.imp id ?_⟩
  rintro ⟨g,cap,cur,a,b,c,d⟩
  exact ⟨g,cap,cur,a,b,(heap_setCell_other _ _ _ _ (by show g≠w.heap.size+1;omega)).trans ((heap_setCell_other _ _ _ _ (by show g≠w.heap.size;omega)).trans c),d⟩
 refine ⟨.tuple #[v,.bool true],?_,⟨v,bl+1,rfl,by omega,hown⟩,(h.bel.setCell (Nat.le_refl _) _).setCell (Nat.le_succ _) _⟩
 generalize (wr.setCell ⟨w.heap.size,0,none⟩ v).setCell ⟨w.heap.size+1,0,none⟩ (.bool true)=W at *
 simp [results,Tryz.results17,t2',t3',asAddr,go_sem,c1,c2]
set_option maxHeartbeats 1000000 in
set_option maxRecDepth 100000 in
theorem zuq {s:ByteArray} (hs:s.size≤4096) {w:World} (hg:Gw w) {R:Option (List Ins)} (hR:zin (zif s)=R) :
  Calls Tryz.prog 17 #[.string s] w (Rd w.heap.size w R):=by
 have hmf:∀ (fn:Fn) (first cap:Array Value) (w:World),(Instr.makeFunc fn first cap).run Tryz.prog w=.ok (.func fn first cap) w:=fun _ _ _ _=>rfl
 obtain ⟨mm,hmm⟩:=hg.most
 have htr:∀ W,Calls Tryz.prog 43 #[.string s,.string ⟨#[10]⟩] W fun e w'=>e=.returned (.string ⟨(trimSuffix s.data.toList [10]).toArray⟩)∧w'=W:=fun W=>Tryz.strings_TrimSuffix s ⟨#[10]⟩ W (by omega)
 obtain ⟨ls,hls⟩:∃ ls,ls=zif s:=⟨_,rfl⟩
 have hts:(ByteArray.mk (trimSuffix s.data.toList [10]).toArray).size≤4096:=by
  have h1:(ByteArray.mk (trimSuffix s.data.toList [10]).toArray).size=(trimSuffix s.data.toList [10]).length:=by simp [ByteArray.size]
  rw [h1]
  have h2:s.size=s.data.toList.length:=Lib.size_eq s
  unfold trimSuffix
  split
  ·rw [List.length_take];omega
  ·omega
 have hll:=zl0 ⟨(trimSuffix s.data.toList [10]).toArray⟩ 10
 rw [show zf3 ⟨(trimSuffix s.data.toList [10]).toArray⟩ 10=ls by rw [hls];rfl] at hll
 have hsp:∀ W:World,W.cell? ⟨1,0,none⟩=some (.int .i64 mm)→Calls Tryz.prog 42 #[.string ⟨(trimSuffix s.data.toList [10]).toArray⟩,.string ⟨#[10]⟩] W fun e w'=>e=.returned (.slice (some ⟨W.heap.size,0,none⟩) ls.length ls.length)∧w'=W.alloc (.cells (ls.map Value.string).toArray 9 (0,0)):=fun W hW=>by
  have:=Tryz.strings_Split ⟨(trimSuffix s.data.toList [10]).toArray⟩ ⟨#[10]⟩ mm W (by omega) hW (by show 1≤(#[10]:Array UInt8).size;simp)
  rw [hll,hls];exact this
 have hl4:∀ x∈ls,x.size≤4096:=fun x hx=>by rw [hls] at hx;exact Nat.le_trans (zj9 _ _ _ x hx) hts
 rw [← hls] at hR
 have h1:∀ W,Below w.heap.size w W→W.cell? ⟨1,0,none⟩=some (.int .i64 mm):=fun W h=>by rw [h.cell (p:=⟨1,0,none⟩) (Nat.lt_of_lt_of_le (by show 1<8;omega) hg.size')];exact hmm
 have HL4:=Lib.hid hl4
 have HLL:=Lib.hid hll
 have HR:=Lib.hid hR
 have HG:=Lib.hid hg
 have HTS:=Lib.hid hts
 clear hl4 hll hls hR hmm hts
 go_enter_defers Tryz.func17,Tryz.ntmps17
 go_wp2_with (first
  | (go_at_call 41;refine (zkx _).mono ?_;rintro e w1 ⟨rfl,hm,hb⟩;rw [yaol] at hm)
  | (go_at_call 43;refine (htr _).mono ?_;rintro e w2 ⟨rfl,rfl⟩)
  | (go_at_call 42;refine (hsp _ (h1 _ (zap (zap hb)))).mono ?_;rintro e w3 ⟨rfl,rfl⟩)
  | go_in)
 have hb0:Below w.heap.size w w2:=zap (zap hb)
 have hsz:w.heap.size+1+1<w2.heap.size:=hm.lt
 have h0:Rl w.heap.size w2.heap.size ls w 0 [] (.slice none 0 0) (w2.alloc (.cells (ls.map Value.string).toArray 9 (0,0))):=by
  refine ⟨by simp,rfl,?_,?_,zbs _ _,hm.alloc _,⟨rfl,.inl ⟨rfl,rfl⟩⟩,hb0.trans ((za2 w2 _).mono hb0.size),by simp,hsz⟩
  ·rw [Below.heap_alloc _ _ _ (by omega),hb.block _ (by simp;omega),Below.heap_alloc _ _ _ (by simp),zbs]
  ·rw [Below.heap_alloc _ _ _ (by omega),hb.block _ (by simp)]
   have e:=zbs (w.alloc (.cells #[.slice none 0 0] T22 (0,0))) (.cells #[.bool false] T4 (0,0))
   rw [show (w.alloc (.cells #[.slice none 0 0] T22 (0,0))).heap.size=w.heap.size+1 by simp] at e
   exact e
 clear hm hb hsp htr h1 hg
 generalize hbl:w2.heap.size=bl at *
 go_loopw [13] (fun c wr=>∃ (n:Nat) (acc:List Ins) (v:Value),n≤ls.length∧c=.int .i64 n∧Rl w.heap.size bl ls w n acc v wr) (fun c _=>ls.length - (RowKit.intOf c).toNat)
 case atStart=>exact ⟨0,[],_,by omega,rfl,h0⟩
 case round =>
  obtain ⟨n,acc,v,hn,rfl,hrl⟩:=hrel
  by_cases hlt:n<ls.length
  ·obtain ⟨x,hx⟩:∃ x,ls[n]?=some x:=⟨ls[n],by simp [hlt]⟩
   have hcx:wr.cell? ⟨bl,n,none⟩=some (.string x):=by rw [cell_of_row wr _ n _ _ _ hrl.lines];simp [hx]
   have hcl:wr.cell? ⟨w.heap.size,0,none⟩=some v:=cell_of_row wr _ 0 _ _ _ hrl.l
   have Hx:=Lib.hid hx
   have hxs:x.size≤4096:=HL4.out x (List.mem_of_getElem? hx)
   have HXS:=Lib.hid hxs
   have HLT:=Lib.hid hlt
   have HM:=Lib.hid hrl.map
   have HGw:=Lib.hid (HG.out.below hrl.bel HG.out.size')
   clear hx hxs
   cases hr:zmu x with
   | none =>
    have HRx:=Lib.hid hr
    obtain rfl:R=none:=by rw [← HR.out,hrl.all,zht Hx.out];simp only [zin,hr];rfl
    clear hr
    go_wp2
    clear h0 hn hlt
    refine wp_region_any (by kernel_rfl) ?_
    change wpAny _ _ _ _ _ _ _ (World.drew _)
    refine wpAny_take (i:=1) (v:=?_) rfl (by kernel_rfl) (by kernel_rfl) (by kernel_rfl) (fun c a w h=>yang (by decide) (by decide) _ c a w h) (Or.inl ⟨by rfl,?_⟩) ?_
    rotate_left
    ·intro w';go_simp;try with_reducible rfl
    refine wpAny_take (i:=2) (v:=?_) rfl (by kernel_rfl) (by kernel_rfl) (by kernel_rfl) (fun c a w h=>yang (by decide) (by decide) _ c a w h) (Or.inl ⟨by rfl,?_⟩) ?_
    rotate_left
    ·intro w';go_simp;try with_reducible rfl
    refine wpAny_ready (rs:=[0,3]) (by kernel_rfl) (by simp) (AllReady.cons rfl (fun K hK=>?_) (AllReady.cons rfl (fun K hK=>?_) AllReady.nil))
    ·go_simp
     refine hK _ _ ?_;clear hK K
     refine wpAny_ready (rs:=[3]) (by kernel_rfl) (by simp) (AllReady.cons rfl (fun K hK=>?_) AllReady.nil)
     go_simp
     go_wp2_with (go_at_call 44;refine (zfv HXS.out (bm:=w.heap.size+1+1) (by exact HM.out) (by exact HGw.out.keep (Nat.le_refl _) (fun _ _=>rfl))).mono ?_;rw [HRx.out];rintro e w5 ⟨rfl,hb5⟩)
     refine leaves_cons (f:=40) (args:=#[.pointer (some ⟨w.heap.size,0,none⟩),.pointer (some ⟨w.heap.size+1,0,none⟩)]) (by simp) (by simp [go_sem]) ?_
     have k1:=(hb5.block _ (Array.getElem?_eq_some_iff.1 hrl.l).1).trans hrl.l
     have k2:=(hb5.block _ (Array.getElem?_eq_some_iff.1 hrl.ok).1).trans hrl.ok
     refine (zma w.heap.size (w.heap.size+1) v (.bool false) 22 _ [] w5 (cell_of_row w5 _ 0 _ _ _ k1) (frozen_of_row w5 _ 0 _ _ k1) (cell_of_row w5 _ 0 _ _ _ k2) (frozen_of_row w5 _ 0 _ _ k2) (by omega)).mono ?_
     rintro e u' w'' ⟨rfl,rfl,rfl⟩
     exact caught _ k1 k2 (hrl.bel.drew.trans (hb5.mono hrl.bel.size)) (by rfl) (by rfl)
    ·go_simp
     go_wp2_with (go_at_call 44;refine (zfv HXS.out (bm:=w.heap.size+1+1) (by exact HM.out) (by exact HGw.out.keep (Nat.le_refl _) (fun _ _=>rfl))).mono ?_;rw [HRx.out];rintro e w5 ⟨rfl,hb5⟩)
     refine leaves_cons (f:=40) (args:=#[.pointer (some ⟨w.heap.size,0,none⟩),.pointer (some ⟨w.heap.size+1,0,none⟩)]) (by simp) (by simp [go_sem]) ?_
     have k1:=(hb5.block _ (Array.getElem?_eq_some_iff.1 hrl.l).1).trans hrl.l
     have k2:=(hb5.block _ (Array.getElem?_eq_some_iff.1 hrl.ok).1).trans hrl.ok
     refine (zma w.heap.size (w.heap.size+1) v (.bool false) 22 _ [] w5 (cell_of_row w5 _ 0 _ _ _ k1) (frozen_of_row w5 _ 0 _ _ k1) (cell_of_row w5 _ 0 _ _ _ k2) (frozen_of_row w5 _ 0 _ _ k2) (by omega)).mono ?_
     rintro e u' w'' ⟨rfl,rfl,rfl⟩
     exact caught _ k1 k2 (hrl.bel.drew.trans (hb5.mono hrl.bel.size)) (by rfl) (by rfl)
   | some i =>
    have HRx:=Lib.hid hr
    have hn6:n≤4096:=by have h7:=countB_le ⟨#[10]⟩ (by show 1≤(#[10]:Array UInt8).size;simp) _ ⟨(trimSuffix s.data.toList [10]).toArray⟩ (Nat.le_refl _);have h8:=HTS.out;have h9:=HLL.out;omega
    obtain ⟨i0,hi,hz0,hz1,hz2⟩:=info_parts yau1
    clear hr
    go_wp2
    clear h0 hn hlt
    refine wp_region_any (by kernel_rfl) ?_
    change wpAny _ _ _ _ _ _ _ (World.drew _)
    refine wpAny_take (i:=1) (v:=?_) rfl (by kernel_rfl) (by kernel_rfl) (by kernel_rfl) (fun c a w h=>yang (by decide) (by decide) _ c a w h) (Or.inl ⟨by rfl,?_⟩) ?_
    rotate_left
    ·intro w';go_simp;try with_reducible rfl
    refine wpAny_take (i:=2) (v:=?_) rfl (by kernel_rfl) (by kernel_rfl) (by kernel_rfl) (fun c a w h=>yang (by decide) (by decide) _ c a w h) (Or.inl ⟨by rfl,?_⟩) ?_
    rotate_left
    ·intro w';go_simp;try with_reducible rfl
    refine wpAny_ready (rs:=[0,3]) (by kernel_rfl) (by simp) (AllReady.cons rfl (fun K hK=>?_) (AllReady.cons rfl (fun K hK=>?_) AllReady.nil))
    ·go_simp
     refine hK _ _ ?_;clear hK K
     refine wpAny_ready (rs:=[3]) (by kernel_rfl) (by simp) (AllReady.cons rfl (fun K hK=>?_) AllReady.nil)
     go_simp
     go_wp2_with (go_at_call 44;refine (zfv HXS.out (bm:=w.heap.size+1+1) (by exact HM.out) (by exact HGw.out.keep (Nat.le_refl _) (fun _ _=>rfl))).mono ?_;rw [HRx.out];rintro e w5 ⟨rfl,hb5⟩;have c5:w5.cell? ⟨w.heap.size,0,none⟩=some v:=cell_of_row w5 _ 0 _ _ _ ((hb5.block _ (Array.getElem?_eq_some_iff.1 hrl.l).1).trans hrl.l);have hlt5:w.heap.size<w5.heap.size:=Nat.lt_of_lt_of_le (Array.getElem?_eq_some_iff.1 hrl.l).1 hb5.size)
     refine wpAny_ready (rs:=[4]) (by kernel_rfl) (by simp) (AllReady.cons rfl (fun K hK=>?_) AllReady.nil)
     go_simp
     refine hK _ _ ?_;clear hK K
     refine wpAny_ready (rs:=[5]) (by kernel_rfl) (by simp) (AllReady.cons rfl (fun K hK=>?_) AllReady.nil)
     rw [if_pos (by simp [Region.wanted])]
     refine wp_append_own _ (.tmp 17) (.tmp 21) T22 rfl (bl+1) T40 i0 _ 5 40 Tryz.underlying27 hi hz0 hz1 hz2 rfl (by decide) v n (accC acc) rfl (zr3 hrl hb5) ⟨w5.heap.size,0,none⟩ 1 1 (icells i).toList rfl rfl (znq w5 i) (zh8 i) (by unfold maxLen;omega) (by omega) (znh hrl hb5) ?_
     intro v' w6 hown6 hgr6 _
     obtain ⟨ao,n',cap,rfl⟩:=ziw hown6
     have k6:=yagt hrl hb5 hgr6
     have c6:w6.cell? ⟨w.heap.size,0,none⟩=some v:=cell_of_row w6 _ 0 _ _ _ k6
     have f6:w6.frozen? ⟨w.heap.size,0,none⟩=false:=frozen_of_row w6 _ 0 _ _ k6
     refine hK _ _ ?_;clear hK K
     refine wpAny_ready (rs:=[6]) (by kernel_rfl) (by simp) (AllReady.cons rfl (fun K hK=>?_) AllReady.nil)
     go_simp
     refine hK _ _ ?_;clear hK K
     refine wpAny_done (by kernel_rfl) ?_ _
     have hnx:=zyx hrl Hx.out HRx.out hb5 hown6 hgr6
     go_wp2
     go_roundw
     case rel=>exact ⟨n+1,acc++[i],_,HLT.out,by go_num,hnx⟩
     case measure=>have:=HLT.out;simp [RowKit.intOf];omega
    ·go_simp
     go_wp2_with (go_at_call 44;refine (zfv HXS.out (bm:=w.heap.size+1+1) (by exact HM.out) (by exact HGw.out.keep (Nat.le_refl _) (fun _ _=>rfl))).mono ?_;rw [HRx.out];rintro e w5 ⟨rfl,hb5⟩;have c5:w5.cell? ⟨w.heap.size,0,none⟩=some v:=cell_of_row w5 _ 0 _ _ _ ((hb5.block _ (Array.getElem?_eq_some_iff.1 hrl.l).1).trans hrl.l);have hlt5:w.heap.size<w5.heap.size:=Nat.lt_of_lt_of_le (Array.getElem?_eq_some_iff.1 hrl.l).1 hb5.size)
     refine wpAny_ready (rs:=[0,4]) (by kernel_rfl) (by simp) (AllReady.cons rfl (fun K hK=>?_) (AllReady.cons rfl (fun K hK=>?_) AllReady.nil))
     ·go_simp
      refine hK _ _ ?_;clear hK K
      refine wpAny_ready (rs:=[4]) (by kernel_rfl) (by simp) (AllReady.cons rfl (fun K hK=>?_) AllReady.nil)
      go_simp
      refine hK _ _ ?_;clear hK K
      refine wpAny_ready (rs:=[5]) (by kernel_rfl) (by simp) (AllReady.cons rfl (fun K hK=>?_) AllReady.nil)
      rw [if_pos (by simp [Region.wanted])]
      refine wp_append_own _ (.tmp 17) (.tmp 21) T22 rfl (bl+1) T40 i0 _ 5 40 Tryz.underlying27 hi hz0 hz1 hz2 rfl (by decide) v n (accC acc) rfl (zr3 hrl hb5) ⟨w5.heap.size,0,none⟩ 1 1 (icells i).toList rfl rfl (znq w5 i) (zh8 i) (by unfold maxLen;omega) (by omega) (znh hrl hb5) ?_
      intro v' w6 hown6 hgr6 _
      obtain ⟨ao,n',cap,rfl⟩:=ziw hown6
      have k6:=yagt hrl hb5 hgr6
      have c6:w6.cell? ⟨w.heap.size,0,none⟩=some v:=cell_of_row w6 _ 0 _ _ _ k6
      have f6:w6.frozen? ⟨w.heap.size,0,none⟩=false:=frozen_of_row w6 _ 0 _ _ k6
      refine hK _ _ ?_;clear hK K
      refine wpAny_ready (rs:=[6]) (by kernel_rfl) (by simp) (AllReady.cons rfl (fun K hK=>?_) AllReady.nil)
      go_simp
      refine hK _ _ ?_;clear hK K
      refine wpAny_done (by kernel_rfl) ?_ _
      have hnx:=zyx hrl Hx.out HRx.out hb5 hown6 hgr6
      go_wp2
      go_roundw
      case rel=>exact ⟨n+1,acc++[i],_,HLT.out,by go_num,hnx⟩
      case measure=>have:=HLT.out;simp [RowKit.intOf];omega
     ·go_simp
      refine hK _ _ ?_;clear hK K
      refine wpAny_ready (rs:=[0]) (by kernel_rfl) (by simp) (AllReady.cons rfl (fun K hK=>?_) AllReady.nil)
      go_simp
      refine hK _ _ ?_;clear hK K
      refine wpAny_ready (rs:=[5]) (by kernel_rfl) (by simp) (AllReady.cons rfl (fun K hK=>?_) AllReady.nil)
      rw [if_pos (by simp [Region.wanted])]
      refine wp_append_own _ (.tmp 17) (.tmp 21) T22 rfl (bl+1) T40 i0 _ 5 40 Tryz.underlying27 hi hz0 hz1 hz2 rfl (by decide) v n (accC acc) rfl (zr3 hrl hb5) ⟨w5.heap.size,0,none⟩ 1 1 (icells i).toList rfl rfl (znq w5 i) (zh8 i) (by unfold maxLen;omega) (by omega) (znh hrl hb5) ?_
      intro v' w6 hown6 hgr6 _
      obtain ⟨ao,n',cap,rfl⟩:=ziw hown6
      have k6:=yagt hrl hb5 hgr6
      have c6:w6.cell? ⟨w.heap.size,0,none⟩=some v:=cell_of_row w6 _ 0 _ _ _ k6
      have f6:w6.frozen? ⟨w.heap.size,0,none⟩=false:=frozen_of_row w6 _ 0 _ _ k6
      refine hK _ _ ?_;clear hK K
      refine wpAny_ready (rs:=[6]) (by kernel_rfl) (by simp) (AllReady.cons rfl (fun K hK=>?_) AllReady.nil)
      go_simp
      refine hK _ _ ?_;clear hK K
      refine wpAny_done (by kernel_rfl) ?_ _
      have hnx:=zyx hrl Hx.out HRx.out hb5 hown6 hgr6
      go_wp2
      go_roundw
      case rel=>exact ⟨n+1,acc++[i],_,HLT.out,by go_num,hnx⟩
      case measure=>have:=HLT.out;simp [RowKit.intOf];omega
  ·obtain rfl:n=ls.length:=by omega
   have hR2:R=some acc:=by
    rw [← HR.out,hrl.all,List.drop_length];simp [zin]
   have HR2:=Lib.hid hR2
   have hcl:wr.cell? ⟨w.heap.size,0,none⟩=some v:=cell_of_row wr _ 0 _ _ _ hrl.l
   have hfl:wr.frozen? ⟨w.heap.size,0,none⟩=false:=frozen_of_row wr _ 0 _ _ hrl.l
   have k2:(wr.setCell ⟨w.heap.size,0,none⟩ v).heap[w.heap.size+1]?=some (.cells #[.bool false] T4 (0,0)):=(heap_setCell_other _ _ _ _ (by simp)).trans hrl.ok
   have hco:(wr.setCell ⟨w.heap.size,0,none⟩ v).cell? ⟨w.heap.size+1,0,none⟩=some (.bool false):=cell_of_row _ _ 0 _ _ _ k2
   have hfo:(wr.setCell ⟨w.heap.size,0,none⟩ v).frozen? ⟨w.heap.size+1,0,none⟩=false:=frozen_of_row _ _ 0 _ _ k2
   obtain ⟨ao,n',cap,rfl⟩:=ziw hrl.own
   clear hR2 h0 k2
   go_wp2
   refine leaves_cons (f:=40) (args:=#[.pointer (some ⟨w.heap.size,0,none⟩),.pointer (some ⟨w.heap.size+1,0,none⟩)]) (by simp) (by simp [go_sem]) ?_
   refine (yafl w.heap.size (w.heap.size+1) _).mono ?_
   rintro e u' w'' ⟨rfl,rfl,rfl⟩
   rw [HR2.out]
   exact passed hrl (by rfl) (by rfl)
theorem zp5 (s:ByteArray):∀ (n i:Nat) (r:List UInt8),s.size - i=n→ByteArray.toList.loop s i r=r.reverse++s.data.toList.drop i
 | 0,i,r,h=>by
  unfold ByteArray.toList.loop
  rw [if_neg (by omega),List.drop_eq_nil_of_le (by show s.data.toList.length≤i;simp;have:s.data.size=s.size:=rfl;omega),List.append_nil]
 | n+1,i,r,h=>by
  unfold ByteArray.toList.loop
  rw [if_pos (by omega),zp5 s n (i+1) _ (by omega)]
  have hi:i<s.data.toList.length:=by simp;have:s.data.size=s.size:=rfl;omega
  rw [List.drop_eq_getElem_cons hi,List.reverse_cons,List.append_assoc]
  have:s.get! i=s.data.toList[i]:=by
   have h2:i<s.data.size:=by simpa using hi
   obtain ⟨a⟩:=s
   show a[i]!=_
   rw [getElem!_pos a i h2];simp
  rw [this];rfl
theorem zhn (s:ByteArray):s.toList=s.data.toList:=by
 show ByteArray.toList.loop s 0 []=_
 rw [zp5 s _ 0 [] rfl];simp
def zhz (s:ByteArray):Option (List Ins) :=
 if s.size≤4096 then
  match zin (zif s) with
  | none=>none
  | some L=>if zan L=0∧(⟨(shown L).toArray⟩:ByteArray)=s then some L else none
 else none
def Rr (B:Nat) (w:World):Option (List Ins)→Ending→World→Prop
 | none,e,w'=>e=.returned (.tuple #[.slice none 0 0,.int .i64 1])∧Below B w w'
 | some L,e,w'=>(∃ g c,e=.returned (.tuple #[.slice (some ⟨g,0,none⟩) L.length c,.int .i64 0])∧B≤g∧PAt w' g 0 L)∧Below B w w'
theorem yagi (β:Bs):∀ L:List Ins,accC L=(pcell L).map (AC.g β)
 | []=>rfl
 | i::L=>by
  have:=yagi β L
  show (icells i).toList++accC L=(i.cs++pcell L).map (AC.g β)
  rw [List.map_append,← this]
  rfl
theorem yazh {w:World} {bl:Nat} {v:Value} {L:List Ins} (h:w.ownsRow bl T40 5 v L.length (accC L)) (h0:L≠[]):∃ g c,v=.slice (some ⟨g,0,none⟩) L.length c∧bl≤g∧PAt w g 0 L:=by
 rcases h.2 with ⟨_,h1⟩ | ⟨g,cap,cur,rfl,hb,hc,h1,_,h2,h3⟩
 ·exact absurd (List.length_eq_zero_iff.1 h1) h0
 ·refine ⟨g,cap,rfl,hb,(Array.getElem?_eq_some_iff.1 hc).1,fun j c hj β=>?_⟩
  rw [cell_of_row w g _ _ _ _ hc,Nat.zero_add]
  have h4:(accC L)[j]?=some (AC.g β c):=by rw [yagi β,List.getElem?_map,hj];rfl
  rw [← h3,List.getElem?_take] at h4
  split at h4
  ·simpa using h4
  ·cases h4
theorem zt0:∀ {ls:List ByteArray} {L:List Ins},zin ls=some L→L.length=ls.length
 | [],L,h=>by simp [zin] at h;subst h;rfl
 | x::ls,L,h=>by
  unfold zin at h
  split at h
  ·rw [Option.map_eq_some_iff] at h
   obtain ⟨M,hM,rfl⟩:=h
   simp [zt0 hM]
  ·cases h
theorem yahi {w w':World} {b o:Nat} {L:List Ins} (h:PAt w b o L) (hb:Below w.heap.size w w'):PAt w' b o L :=
 ⟨Nat.lt_of_lt_of_le h.1 hb.size,fun j c hj β=>by rw [hb.cell (p:=⟨b,o+j,none⟩) h.1];exact h.2 j c hj β⟩
set_option maxHeartbeats 1000000 in
theorem yajl (s:ByteArray) {w:World} (hg:Gw w):Calls Tryz.prog 7 #[.string s] w (Rr w.heap.size w (zhz s)):=by
 unfold zhz
 by_cases hs:s.size≤4096
 ·rw [if_pos hs]
  have hrl:=zuq hs hg rfl
  cases hR:zin (zif s) with
  | none =>
   rw [hR] at hrl
   clear hR
   go_enter Tryz.func7,Tryz.ntmps7
   go_wp2_with (first
    | (go_at_call 17;refine hrl.mono ?_;rintro e w1 ⟨rfl,hb1⟩)
    | go_in)
   go_ret2
   exact ⟨rfl,hb1⟩
  | some L =>
   rw [hR] at hrl
   have hne:L≠[]:=fun e=>by
    have h1:=zt0 hR
    have h2:=zl0 ⟨(trimSuffix s.data.toList [10]).toArray⟩ 10
    rw [e] at h1
    have h3:(zif s).length=countB ⟨(trimSuffix s.data.toList [10]).toArray⟩ ⟨#[10]⟩+1:=h2
    simp only [List.length_nil] at h1
    omega
   clear hR
   simp only
   have hrl2:Calls Tryz.prog 17 #[.string s] w fun e w'=>∃ g c,e=.returned (.tuple #[.slice (some ⟨g,0,none⟩) L.length c,.bool true])∧w.heap.size≤g∧PAt w' g 0 L∧Below w.heap.size w w':=hrl.mono fun e w' ⟨⟨v,bl,he,hbl,ho⟩,hb⟩=>by
    obtain ⟨g,c,rfl,hg,hp⟩:=yazh ho hne
    exact ⟨g,c,he,Nat.le_trans hbl hg,hp,hb⟩
   clear hrl
   by_cases he:zan L=0
   ·obtain ⟨h64,hF⟩:=zg5 he
    by_cases hsh:(⟨(shown L).toArray⟩:ByteArray)=s
    ·rw [if_pos ⟨he,hsh⟩]
     have hso:∀ {w:World} {b o c:Nat},PAt w b o L→Gw w→Calls Tryz.prog 18 #[.slice (some ⟨b,o,none⟩) L.length c] w fun e w'=>e=.returned (.tuple #[.string s,.int .i64 0])∧Below w.heap.size w w':=fun hP hg=>by rw [← hsh];exact zkb hP hg h64 he hF
     clear hsh hF he hne
     go_enter Tryz.func7,Tryz.ntmps7
     go_wp2_with (first
      | (go_at_call 17;refine hrl2.mono ?_;rintro e w1 ⟨g,c,rfl,hg1,hp1,hb1⟩)
      | (go_at_call 18;refine (hso hp1 (hg.below hb1 hg.size')).mono ?_;rintro e w2 ⟨rfl,hb2⟩)
      | go_in)
     go_ret2
     exact ⟨⟨g,c,rfl,hg1,yahi hp1 hb2⟩,hb1.trans (hb2.mono hb1.size)⟩
    ·rw [if_neg (fun h=>hsh h.2)]
     obtain ⟨T,hT⟩:∃ T:ByteArray,T=⟨(shown L).toArray⟩:=⟨_,rfl⟩
     have hso:∀ {w:World} {b o c:Nat},PAt w b o L→Gw w→Calls Tryz.prog 18 #[.slice (some ⟨b,o,none⟩) L.length c] w fun e w'=>e=.returned (.tuple #[.string T,.int .i64 0])∧Below w.heap.size w w':=fun hP hg=>by rw [hT];exact zkb hP hg h64 he hF
     rw [← hT] at hsh
     have hsl:(T.toList==s.toList)=false:=by
      rw [zhn,zhn]
      refine beq_eq_false_iff_ne.2 fun e=>hsh ?_
      obtain ⟨⟨a⟩⟩:=T
      obtain ⟨⟨b⟩⟩:=s
      simp at e
      rw [e]
     clear hT hF he hne hsh
     go_enter Tryz.func7,Tryz.ntmps7
     go_wp2_with (first
      | (go_at_call 17;refine hrl2.mono ?_;rintro e w1 ⟨g,c,rfl,hg1,hp1,hb1⟩)
      | (go_at_call 18;refine (hso hp1 (hg.below hb1 hg.size')).mono ?_;rintro e w2 ⟨rfl,hb2⟩)
      | go_in)
     go_ret2
     exact ⟨rfl,hb1.trans (hb2.mono hb1.size)⟩
   ·rw [if_neg (fun h=>he h.1)]
    have hso:∀ {w:World} {b o c:Nat},PAt w b o L→Gw w→Calls Tryz.prog 18 #[.slice (some ⟨b,o,none⟩) L.length c] w fun e w'=>e=.returned (.tuple #[.string ⟨#[]⟩,.int .i64 (zan L)])∧Below w.heap.size w w':=fun hP hg=>yafn hP hg he
    go_enter Tryz.func7,Tryz.ntmps7
    go_wp2_with (first
     | (go_at_call 17;refine hrl2.mono ?_;rintro e w1 ⟨g,c,rfl,hg1,hp1,hb1⟩)
     | (go_at_call 18;refine (hso hp1 (hg.below hb1 hg.size')).mono ?_;rintro e w2 ⟨rfl,hb2⟩)
     | go_in)
    go_ret2
    exact ⟨rfl,hb1.trans (hb2.mono hb1.size)⟩
 ·rw [if_neg hs]
  have hs2:4096<(s.size:Int):=by omega
  go_enter Tryz.func7,Tryz.ntmps7
  go_wp2
  go_ret2
  exact ⟨rfl,Below.refl _ _⟩
end Go.Proofs.YtkigmocchaikgabGreatDoor
namespace Go.Proofs.YtkigmocchaikgabGreatDoor
open Go.Lib
theorem zfl {u:Nat} (h:u<10):decDigits u=[UInt8.ofNat (48+u)]:=by
 unfold decDigits;rw [dif_pos h]
theorem zn9 {u:Nat} (h:¬ u<10):decDigits u=decDigits (u / 10)++[UInt8.ofNat (48+u % 10)]:=by
 rw [decDigits,dif_neg h]
theorem zst {d:Nat} (h:d<10):(UInt8.ofNat (48+d)).toNat=48+d:=by
 rw [UInt8.toNat_ofNat'];omega
theorem zpc (u:Nat):decDigits u≠[]:=fun e=>by
 have:=decDigits_length u
 rw [e] at this
 have:=nDigits_pos u
 simp at *
 omega
theorem zjl:∀ (u:Nat),∀ c∈decDigits u,48≤c.toNat∧c.toNat≤57:=fun u=>by
 induction u using Nat.strongRecOn with
 | _ u ih =>
  intro c hc
  by_cases h:u<10
  ·rw [zfl h,List.mem_singleton] at hc
   subst hc
   rw [zst h];omega
  ·rw [zn9 h,List.mem_append,List.mem_singleton] at hc
   rcases hc with hc | rfl
   ·exact ih (u / 10) (by omega) c hc
   ·rw [zst (by omega)];omega
theorem zuz (M:Nat):∀ (l:List UInt8) (acc:Nat) (r:List UInt8) (v:Nat),parseUintM M acc l=.ok v→parseUintM M acc (l++r)=parseUintM M v r
 | [],acc,r,v,h=>by simp only [parseUintM] at h;injection h with h;subst h;rfl
 | c::l,acc,r,v,h=>by
  simp only [List.cons_append,parseUintM] at h ⊢
  split at h
  ·rename_i h1
   rw [if_pos h1]
   split at h
   ·cases h
   ·rename_i h2
    rw [if_neg h2]
    split at h
    ·cases h
    ·rename_i h3
     rw [if_neg h3]
     exact zuz M l _ r v h
  ·cases h
theorem zv5 (u:Nat) (hu:u<18446744073709551616):parseUintM 18446744073709551615 0 (decDigits u)=.ok u:=by
 induction u using Nat.strongRecOn with
 | _ u ih =>
  by_cases h:u<10
  ·rw [zfl h]
   simp only [parseUintM,zst h]
   rw [if_pos (by omega),if_neg (by omega),if_neg (by omega)]
   congr 1;omega
  ·rw [zn9 h,zuz _ _ _ _ _ (ih (u / 10) (by omega) (by omega))]
   simp only [parseUintM,zst (show u % 10<10 by omega)]
   rw [if_pos (by omega),if_neg (by omega),if_neg (by omega)]
   congr 1;omega
theorem yaay (x:BitVec 64):numW ⟨(decDigits x.toNat).toArray⟩=some x:=by
 have h:=zv5 x.toNat (by have:=x.isLt;omega)
 have h2:parseUintB 64 (decDigits x.toNat)=.ok x.toNat:=by
  unfold parseUintB
  rw [if_neg (zpc _)]
  exact h
 show ((match parseUintB 64 (decDigits x.toNat) with | .ok n=>some n | _=>none).map (BitVec.ofNat 64))=some x
 rw [h2]
 simp
theorem yai6:∀ (l:List UInt8) (acc:Nat),parseUint10 acc l=parseUintM 18446744073709551615 acc l
 | [],_=>rfl
 | c::l,acc=>by
  simp only [parseUint10,parseUintM]
  have e:(18446744073709551616≤acc*10+(c.toNat - 48))=(18446744073709551615<acc*10+(c.toNat - 48)):=propext ⟨fun h=>by omega,fun h=>by omega⟩
  simp only [e,yai6 l]
theorem yalu (u:Nat) (hu:u<18446744073709551616):parseMag (decDigits u)=.ok u:=by
 unfold parseMag
 rw [if_neg (zpc _),yai6,zv5 u hu]
theorem zvg (n:Int) (h0:-64≤n) (h1:n≤64):sgnB ⟨(itoa n).toArray⟩=some n:=by
 have key:atoiAll (itoa n)=.ok n:=by
  by_cases hn:n<0
  ·rw [itoa,if_pos hn]
   unfold atoiAll
   simp only
   rw [if_pos (Or.inr (by decide)),yalu _ (by omega)]
   simp only
   rw [if_neg (by intro h;exact h.1 (by decide)),if_neg (by omega),if_pos (by decide)]
   congr 1;omega
  ·rw [itoa,if_neg hn]
   obtain ⟨c,r,hc⟩:∃ c r,decDigits n.toNat=c::r:=by
    cases h:decDigits n.toNat with
    | nil=>exact absurd h (zpc _)
    | cons c r=>exact ⟨c,r,rfl⟩
   have hd:=zjl n.toNat c (by rw [hc];simp)
   have hm:=yalu n.toNat (by omega)
   rw [hc] at hm ⊢
   unfold atoiAll
   simp only
   rw [if_neg (by omega),hm]
   simp only
   rw [if_neg (by omega),if_neg (by omega),if_neg (by omega)]
   congr 1;omega
 show (match atoiAll (itoa n) with | .ok n=>some n | _=>none)=some n
 rw [key]
theorem zms (n:Int) (h0:-64≤n) (h1:n≤64):regW ⟨(114::itoa n).toArray⟩=some n:=by
 have h:=zvg n h0 h1
 show (if hasPrefix (114::itoa n) [114] then sgnB ⟨(trimPrefix (114::itoa n) [114]).toArray⟩ else none)=some n
 have hp:hasPrefix (114::itoa n) [114]=true:=by simp [hasPrefix]
 rw [if_pos hp]
 have ht:trimPrefix (114::itoa n) [114]=itoa n:=by
  unfold trimPrefix;rw [if_pos hp];rfl
 rw [ht];exact h
abbrev znp (i:Ins) (p:Int):ByteArray:=⟨(za7 i p).toArray⟩
theorem yavf (u:Nat):hasPrefix (decDigits u) [114]=false:=by
 cases h:decDigits u with
 | nil=>exact absurd h (zpc u)
 | cons c r =>
  have:=zjl u c (by rw [h];simp)
  have hc:c≠114:=fun e=>by subst e;exact absurd this.2 (by decide)
  show ((114:UInt8)==c&&_)=false
  rw [beq_eq_false_iff_ne.2 (fun e=>hc e.symm),Bool.false_and]
theorem set0 {i:Ins} (h:Fld i) (j:Ins):setW j 0 (znp i 0)=some { j with d:=i.d }:=by
 show (regW ⟨(114::itoa i.d).toArray⟩).map _=_
 rw [zms i.d h.d.1 h.d.2];rfl
theorem set1 {i:Ins} (h:Fld i) (j:Ins):setW j 1 (znp i 1)=some { j with s:=i.s }:=by
 show (regW ⟨(114::itoa i.s).toArray⟩).map _=_
 rw [zms i.s h.s.1 h.s.2];rfl
theorem yaxm {i:Ins} (h:Fld i) (hs:i.s≠-1) (j:Ins):setW j 2 (znp i 2)=some { j with s:=i.s }:=by
 have e:znp i 2=⟨(114::itoa i.s).toArray⟩:=by simp [znp,za7,hs]
 have hp:hasPrefix (114::itoa i.s) [114]=true:=by simp [hasPrefix]
 rw [e]
 simp only [setW,if_neg (show ¬ (2:Int)=0 by decide)]
 rw [if_pos (Or.inr ⟨trivial,hp⟩),zms i.s h.s.1 h.s.2];rfl
theorem yaxf {i:Ins} (hs:i.s=-1) (j:Ins):setW j 2 (znp i 2)=some { j with s:=-1,im:=i.im }:=by
 have e:znp i 2=⟨(decDigits i.im.toNat).toArray⟩:=by simp [znp,za7,hs]
 have hp:=yavf i.im.toNat
 rw [e]
 simp only [setW,if_neg (show ¬ (2:Int)=0 by decide)]
 rw [if_neg (by rintro (h | h);exact absurd h (by decide);exact absurd (hp.symm.trans h.2) (by decide)),if_pos trivial,yaay];rfl
theorem set3 (i j:Ins):setW j 3 (znp i 3)=some { j with im:=i.im }:=by
 show (numW ⟨(decDigits i.im.toNat).toArray⟩).map _=_
 rw [yaay];rfl
theorem set4 {i:Ins} (h:Fld i) (j:Ins):setW j 4 (znp i 4)=some { j with of:=i.of }:=by
 show (sgnB ⟨(itoa i.of).toArray⟩).map _=_
 rw [zvg i.of h.f.1 h.f.2];rfl
theorem ze8 {x:BitVec 64} (h:eqb x 0#64=true):x=0:=by
 simpa [eqb] using h
theorem yaip {i:Ins} (h:Fld i) (hb:zbm i=true):zee ⟨i.op,0,0,0,0⟩ (plcs i.op) ((plcs i.op).map (znp i))=some i:=by
 have h1:=h.o1
 have h2:=h.o2
 unfold zbm at hb
 by_cases h10:i.op=10
 ·rw [show plcs i.op=[3,0,1,4] by simp [plcs,h10]]
  simp only [List.map_cons,List.map_nil,zee,set3,set0 h,set1 h,set4 h]
 by_cases h11:i.op=11
 ·rw [show plcs i.op=[3,0,4,1] by simp [plcs,h11]]
  simp only [List.map_cons,List.map_nil,zee,set3,set0 h,set1 h,set4 h]
 rw [if_neg (by omega)] at hb
 by_cases h12:i.op=12
 ·rw [if_pos h12] at hb
  simp only [Bool.and_eq_true,decide_eq_true_eq] at hb
  rw [show plcs i.op=[4] by simp [plcs,h12]]
  simp only [List.map_cons,List.map_nil,zee,set4 h]
  obtain ⟨op,d,s,im,f⟩:=i
  simp only at hb ⊢
  rw [hb.1.1,hb.1.2,ze8 hb.2]
 rw [if_neg h12] at hb
 by_cases h13:i.op=13∨i.op=14
 ·rw [if_pos h13] at hb
  rw [show plcs i.op=[0,2,4] by unfold plcs;rw [if_neg h10,if_neg h11,if_neg h12,if_pos h13]]
  by_cases hs:i.s=-1
  ·simp only [List.map_cons,List.map_nil,zee,set0 h,yaxf hs,set4 h]
   obtain ⟨op,d,s,im,f⟩:=i
   simp only at hs ⊢
   rw [hs]
  ·simp only [Bool.or_eq_true,decide_eq_true_eq] at hb
   have hm:=ze8 (hb.resolve_left hs)
   simp only [List.map_cons,List.map_nil,zee,set0 h,yaxm h hs,set4 h]
   obtain ⟨op,d,s,im,f⟩:=i
   simp only at hm ⊢
   rw [hm]
 rw [if_neg h13] at hb
 by_cases h15:i.op=15
 ·rw [if_pos h15] at hb
  simp only [Bool.and_eq_true,decide_eq_true_eq] at hb
  rw [show plcs i.op=[] by simp [plcs,h15]]
  obtain ⟨op,d,s,im,f⟩:=i
  simp only [zee] at hb ⊢
  rw [hb.1.1.1,hb.1.1.2,ze8 hb.1.2,hb.2]
 rw [if_neg h15] at hb
 simp only [Bool.and_eq_true,Bool.or_eq_true,decide_eq_true_eq] at hb
 rw [show plcs i.op=[0,2] by unfold plcs;rw [if_neg h10,if_neg h11,if_neg h12,if_neg h13,if_neg h15]]
 by_cases hs:i.s=-1
 ·simp only [List.map_cons,List.map_nil,zee,set0 h,yaxf hs]
  obtain ⟨op,d,s,im,f⟩:=i
  simp only at hs hb ⊢
  rw [hs,hb.1]
 ·have hm:=ze8 (hb.2.resolve_left hs)
  simp only [List.map_cons,List.map_nil,zee,set0 h,yaxm h hs]
  obtain ⟨op,d,s,im,f⟩:=i
  simp only at hm hb ⊢
  rw [hm,hb.1]
theorem zqb (c:UInt8):∀ w:List UInt8,c∉w→index w [c]=-1
 | [],_=>rfl
 | b::w,h=>by
  simp only [List.mem_cons,not_or] at h
  unfold index
  have hp:[c].isPrefixOf (b::w)=false:=by
   show (c==b&&_)=false
   rw [beq_eq_false_iff_ne.2 h.1,Bool.false_and]
  rw [hp,zqb c w h.2]
  rfl
theorem yabu (c:UInt8) (r:List UInt8):∀ w:List UInt8,c∉w→index (w++c::r) [c]=w.length
 | [],_=>by
  show index (c::r) [c]=0
  unfold index
  rw [if_pos (by show (c==c&&_)=true;simp)]
 | b::w,h=>by
  simp only [List.mem_cons,not_or] at h
  have ih:=yabu c r w h.2
  rw [List.cons_append]
  unfold index
  have hp:[c].isPrefixOf (b::(w++c::r))=false:=by
   show (c==b&&_)=false
   rw [beq_eq_false_iff_ne.2 h.1,Bool.false_and]
  rw [hp,ih,if_neg (by decide),if_neg (by simp),List.length_cons]
  omega
def zfe (c:UInt8):List (List UInt8)→List UInt8
 | []=>[]
 | [w]=>w
 | w::x::ws=>w++c::zfe c (x::ws)
theorem zqm (c:UInt8):∀ (ws:List (List UInt8)),ws≠[]→(∀ w∈ws,c∉w)→Lib.split (zfe c ws) [c]=ws
 | [],h,_=>absurd rfl h
 | [w],_,h=>by
  have hi:=zqb c w (h w (by simp))
  show splitK [c] 0 (count w [c]) w=[w]
  rw [count_miss hi];rfl
 | w::x::ws,_,h=>by
  have hi:=yabu c (zfe c (x::ws)) w (h w (by simp))
  have ih:=zqm c (x::ws) (by simp) (fun y hy=>h y (List.mem_cons_of_mem _ hy))
  show splitK [c] 0 (count (w++c::zfe c (x::ws)) [c]) (w++c::zfe c (x::ws))=_
  have hd:(w++c::zfe c (x::ws)).drop (w.length+[c].length)=zfe c (x::ws):=by
   rw [List.drop_append];simp
  rw [count_hit (by simp) hi,hd,Nat.add_comm]
  unfold splitK
  rw [if_neg (by rw [hi];simp),hi]
  have hn:((w.length:Int)).toNat=w.length:=by omega
  rw [hn,hd,Nat.add_zero,List.take_left]
  exact congrArg _ ih
theorem yade (s:ByteArray) (c:UInt8):(zf3 s c).map (·.data.toList)=Lib.split s.data.toList [c]:=splitB_data _ _ _ _
theorem zqe {c:UInt8} {s:ByteArray} {ws:List (List UInt8)} (hs:s.data.toList=zfe c ws) (h0:ws≠[]) (h:∀ w∈ws,c∉w):zf3 s c=ws.map fun l=>⟨l.toArray⟩:=by
 have h1:=yade s c
 rw [hs,zqm c ws h0 h] at h1
 have h2:(zf3 s c).map (fun b:ByteArray=>(⟨b.data.toList.toArray⟩:ByteArray))=ws.map fun l=>⟨l.toArray⟩:=by
  rw [← h1,List.map_map];rfl
 rw [← h2]
 have:∀ l:List ByteArray,l.map (fun b:ByteArray=>(⟨b.data.toList.toArray⟩:ByteArray))=l:=fun l=>by
  induction l with
  | nil=>rfl
  | cons a l ih=>simp only [List.map_cons,ih]
 exact (this _).symm
theorem yaiz {c:UInt8} (hc:c.toNat<48) (u:Nat):c∉decDigits u:=fun h=>by
 have:=zjl u c h;omega
theorem zxe {c:UInt8} (hc:c.toNat<45) (n:Int):c∉itoa n:=by
 unfold itoa
 split
 ·intro h
  rw [List.mem_cons] at h
  rcases h with rfl | h
  ·exact absurd hc (by decide)
  ·exact yaiz (by omega) _ h
 ·exact yaiz (by omega) _
theorem zzt {c:UInt8} (hc:c.toNat<45) (i:Ins) (p:Int):c∉za7 i p:=by
 have h114:c≠114:=fun e=>by subst e;exact absurd hc (by decide)
 unfold za7
 repeat' split
 ·simp only [List.mem_cons,not_or];exact ⟨h114,zxe hc _⟩
 ·simp only [List.mem_cons,not_or];exact ⟨h114,zxe hc _⟩
 ·exact zxe hc _
 ·exact yaiz (by omega) _
theorem yasm {c:UInt8} (hc:c.toNat<45) (k:Nat) (hk:k<15):c∉nmL k:=fun h=>by
 have:∀ k,k<15→∀ x∈nmL k,45≤x.toNat:=by decide
 have:=this k hk c h
 omega
theorem znv (i:Ins):∀ (nm:List UInt8) (ps:List Int),nm++zed i ps=zfe 32 (nm::ps.map (za7 i))
 | nm,[]=>by simp [zed,zfe]
 | nm,p::ps=>by
  have ih:=znv i (za7 i p) ps
  show nm++(32::za7 i p++zed i ps)=nm++32::zfe 32 (za7 i p::ps.map (za7 i))
  rw [← ih];rfl
def zdx (i:Ins):List UInt8:=nmL (i.op - 1).toNat++zed i (plcs i.op)
theorem zx6 {i:Ins} (h:Fld i) (hb:zbm i=true) {s:ByteArray} (hs:s.data.toList=zdx i):zmu s=some i:=by
 have h1:=h.o1
 have h2:=h.o2
 obtain ⟨k,hk⟩:∃ k:Nat,i.op=(k:Int)+1:=⟨(i.op - 1).toNat,by omega⟩
 have hk15:k<15:=by omega
 have hw:zf3 s 32=(nmL k::(plcs i.op).map (za7 i)).map fun l=>⟨l.toArray⟩:=by
  refine zqe (c:=32) ?_ (by simp) ?_
  ·rw [hs,zdx,show (i.op - 1).toNat=k by omega,znv]
  ·intro w hw
   rw [List.mem_cons,List.mem_map] at hw
   rcases hw with rfl | ⟨p,_,rfl⟩
   ·exact yasm (by decide) k hk15
   ·exact zzt (by decide) i p
 unfold zmu
 rw [hw]
 unfold zr0
 simp only [List.map_cons,List.headD_cons,List.tail_cons,List.length_cons,List.length_map]
 rw [zlp k hk15]
 simp only
 rw [← hk,if_pos (by omega),List.map_map]
 exact yaip h hb
theorem yair {i:Ins} (h:Fld i):(10:UInt8)∉zdx i:=by
 have h1:=h.o1
 have h2:=h.o2
 unfold zdx
 rw [List.mem_append,not_or]
 refine ⟨yasm (by decide) _ (by omega),?_⟩
 unfold zed
 rw [List.mem_flatMap]
 rintro ⟨p,_,hp⟩
 rw [List.mem_cons] at hp
 rcases hp with hp | hp
 ·exact absurd hp (by decide)
 ·exact zzt (by decide) i p hp
theorem zj6:∀ (i:Ins) (L:List Ins),shown (i::L)=zfe 10 ((i::L).map zdx)++[10]
 | i,[]=>by simp [shown,zgj,zdx,zfe]
 | i,j::L=>by
  have ih:=zj6 j L
  have e:shown (i::j::L)=zdx i++10::shown (j::L):=by simp [shown,zgj,zdx]
  rw [e,ih]
  show _=(zdx i++10::zfe 10 ((j::L).map zdx))++[10]
  simp
theorem yatb (l:List UInt8):trimSuffix (l++[10]) [10]=l:=by
 have hp:hasSuffix (l++[10]) [10]=true:=by
  unfold hasSuffix
  simp
 unfold trimSuffix
 rw [if_pos hp]
 simp
theorem zph:∀ {L:List Ins},(∀ i∈L,Fld i∧zbm i=true)→zin ((L.map zdx).map fun l=>⟨l.toArray⟩)=some L
 | [],_=>rfl
 | i::L,h=>by
  have h1:=h i (by simp)
  have ih:=zph (L:=L) fun x hx=>h x (by simp [hx])
  simp only [List.map_cons,zin]
  rw [zx6 h1.1 h1.2 (s:=⟨(zdx i).toArray⟩) (by simp)]
  simp only
  rw [ih];rfl
theorem zxb {L:List Ins} (h:zan L=0):∀ i∈L,zbm i=true:=by
 unfold zan at h
 repeat' split at h
 all_goals try omega
 rename_i h4 _
 intro i hi
 have h4':L.all zbm=true:=by simpa using h4
 exact List.all_eq_true.1 h4' i hi
theorem zm1 {L:List Ins} (h:zan L=0) (hs:(⟨(shown L).toArray⟩:ByteArray).size≤4096):zhz ⟨(shown L).toArray⟩=some L:=by
 obtain ⟨_,hF⟩:=zg5 h
 have hB:=zxb h
 have hl:zin (zif ⟨(shown L).toArray⟩)=some L:=by
  cases L with
  | nil=>simp [zan] at h
  | cons i M =>
   have hw:zif ⟨(shown (i::M)).toArray⟩=((i::M).map zdx).map fun l=>⟨l.toArray⟩:=by
    refine zqe (c:=10) ?_ (by simp) ?_
    ·show trimSuffix (shown (i::M)) [10]=_
     rw [zj6,yatb]
    ·intro w hw
     rw [List.mem_map] at hw
     obtain ⟨x,hx,rfl⟩:=hw
     exact yair (hF x hx)
   rw [hw]
   exact zph fun x hx=>⟨hF x hx,hB x hx⟩
 unfold zhz
 rw [if_pos hs,hl]
 simp only
 rw [if_pos ⟨h,trivial⟩]
end Go.Proofs.YtkigmocchaikgabGreatDoor
namespace Go.Proofs.YtkigmocchaikgabGreatDoor
open Go.RowKit Go.Lib
def cutL (c:UInt8):Nat→List UInt8→List UInt8→List (List UInt8)
 | 0,_,_=>[]
 | _+1,cur,[]=>[cur]
 | k+1,cur,x::xs=>if x=c then cur::cutL c k [] xs else cutL c (k+1) (cur++[x]) xs
theorem zn3 (c:UInt8) (k:Nat):∀ (w cur r:List UInt8),c∉w→cutL c (k+1) cur (w++r)=cutL c (k+1) (cur++w) r
 | [],cur,r,_=>by simp
 | b::w,cur,r,h=>by
  simp only [List.mem_cons,not_or] at h
  rw [List.cons_append,cutL,if_neg (fun e=>h.1 e.symm),zn3 c k w _ r h.2]
  simp
theorem zne (c:UInt8):∀ (ws:List (List UInt8)) (k:Nat),ws≠[]→(∀ w∈ws,c∉w)→ws.length≤k→cutL c k [] (zfe c ws)=ws
 | [],_,h,_,_=>absurd rfl h
 | _::_,0,_,_,hk=>absurd hk (by simp)
 | [w],k+1,_,h,_=>by
  have:=zn3 c k w [] [] (h w (by simp))
  simp only [List.append_nil,List.nil_append] at this
  show cutL c (k+1) [] w=[w]
  rw [this];rfl
 | w::x::ws,k+1,_,h,hk=>by
  show cutL c (k+1) [] (w++c::zfe c (x::ws))=_
  rw [zn3 c k w [] _ (h w (by simp)),List.nil_append,cutL,if_pos rfl,zne c (x::ws) k (by simp) (fun y hy=>h y (List.mem_cons_of_mem _ hy)) (by simp at hk ⊢;omega)]
theorem zn1 (c:UInt8) (k:Nat):∀ (r cur:List UInt8),cutL c (k+1) cur r≠[]
 | [],_=>by simp [cutL]
 | x::r,cur=>by
  rw [cutL]
  split
  ·simp
  ·exact zn1 c k r _
theorem zhp (c:UInt8):∀ (r cur:List UInt8) (k:Nat),(cutL c k cur r).length≤k
 | _,_,0=>by simp [cutL]
 | [],_,_+1=>by simp [cutL]
 | x::r,cur,k+1=>by
  rw [cutL]
  split
  ·have:=zhp c r [] k;simp only [List.length_cons];omega
  ·exact zhp c r _ (k+1)
theorem zxy (c:UInt8):∀ (r cur:List UInt8) (k n:Nat),cur.length+r.length≤n→∀ w∈cutL c k cur r,w.length≤n
 | _,_,0,_,_=>by simp [cutL]
 | [],cur,_+1,n,h=>by simp [cutL];simpa using h
 | x::r,cur,k+1,n,h=>by
  simp only [List.length_cons] at h
  rw [cutL]
  split
  ·intro w hw
   rw [List.mem_cons] at hw
   rcases hw with rfl | hw
   ·omega
   ·exact zxy c r [] k n (by simp;omega) w hw
  ·exact zxy c r _ (k+1) n (by simp;omega)
def digV (n:BitVec 64) (c:UInt8):BitVec 64:=badd (bmul 10#64 n) ((c.toBitVec - 48#8).setWidth 64)
def valP (l:List UInt8):BitVec 64:=(l.take 20).foldl digV 0#64
theorem yacf {u:Nat} (_hu:u<18446744073709551616):digV (BitVec.ofNat 64 (u / 10)) (UInt8.ofNat (48+u % 10))=BitVec.ofNat 64 u:=by
 have e:∀ d,d<10→((UInt8.ofNat (48+d)).toBitVec - 48#8).setWidth 64=BitVec.ofNat 64 d:=by decide
 unfold digV
 rw [e _ (Nat.mod_lt _ (by decide))]
 show 10#64*_+_=_
 apply BitVec.eq_of_toNat_eq
 simp only [BitVec.toNat_add,BitVec.toNat_mul,BitVec.toNat_ofNat]
 omega
theorem yal7 (u:Nat) (hu:u<18446744073709551616):(decDigits u).foldl digV 0#64=BitVec.ofNat 64 u:=by
 induction u using Nat.strongRecOn with
 | _ u ih =>
  by_cases h:u<10
  ·rw [zfl h]
   have:=yacf (u:=u) hu
   rw [show u / 10=0 by omega,show u % 10=u by omega] at this
   exact this
  ·rw [zn9 h,List.foldl_append,ih (u / 10) (by omega) (by omega)]
   exact yacf hu
theorem zxq (u:Nat) (hu:u<18446744073709551616):valP (decDigits u)=BitVec.ofNat 64 u:=by
 unfold valP
 rw [List.take_of_length_le (by rw [decDigits_length];exact nDigits_le20 _ hu)]
 exact yal7 u hu
theorem yawt (x:BitVec 64):valP (decDigits x.toNat)=x:=by
 rw [zxq _ (by have:=x.isLt;omega)];simp
def zgh (l:List UInt8):Int :=
 if 4<l.length then 0
 else if l.head?=some 45 then IntKind.i64.wrap (0 - IntKind.i64.wrap (nv (valP l.tail)))
 else IntKind.i64.wrap (nv (valP l))
theorem yabw {u:Nat} (h:u≤64):nv (BitVec.ofNat 64 u)=(u:Int):=by
 show ((BitVec.ofNat 64 u).toNat:Int)=_
 rw [BitVec.toNat_ofNat];omega
theorem yabn {u:Nat} (h:u≤64):(decDigits u).length≤2:=by
 by_cases h1:u<10
 ·rw [zfl h1];simp
 ·rw [zn9 h1,zfl (show u / 10<10 by omega)];simp
theorem yaa7 (u:Nat):∀ c:UInt8,c.toNat<48∨57<c.toNat→(decDigits u).head?≠some c:=fun c hc e=>by
 cases h:decDigits u with
 | nil=>exact absurd h (zpc _)
 | cons b r =>
  rw [h] at e
  simp only [List.head?_cons,Option.some.injEq] at e
  have:=zjl u b (by rw [h];simp)
  rw [e] at this
  omega
theorem zpz (n:Int) (h0:-64≤n) (h1:n≤64):zgh (itoa n)=n:=by
 by_cases hn:n<0
 ·have hl:=yabn (u:=(-n).toNat) (by omega)
  rw [itoa,if_pos hn]
  unfold zgh
  rw [show (-n).toNat=n.natAbs by omega] at hl
  rw [if_neg (by simp only [List.length_cons];omega),if_pos (by simp),List.tail_cons,zxq _ (by omega),yabw (by omega),IntKind.wrap_i64,IntKind.wrap_i64]
  omega
 ·have hl:=yabn (u:=n.toNat) (by omega)
  rw [itoa,if_neg hn]
  unfold zgh
  rw [if_neg (by omega),if_neg (yaa7 _ 45 (by decide)),zxq _ (by omega),yabw (by omega),IntKind.wrap_i64]
  omega
def regP (l:List UInt8):Int:=if l.length<2 then 0 else zgh l.tail
theorem yari (n:Int):itoa n≠[]:=by
 unfold itoa
 split
 ·simp
 ·exact zpc _
theorem zr2 (n:Int) (h0:-64≤n) (h1:n≤64):regP (114::itoa n)=n:=by
 unfold regP
 have:=List.length_pos_iff.2 (yari n)
 rw [if_neg (by simp only [List.length_cons];omega),List.tail_cons]
 exact zpz n h0 h1
def opP (l:List UInt8):Int:=match zj8 l with | some k=>(k:Int)+1 | none=>0
def zop (i:Ins) (l:List UInt8):Ins:=if l.head?=some 114 then { i with s:=regP l } else { i with s:=-1,im:=valP l }
def yalx (o:Int) (w1 w2 w3 w4:List UInt8):Ins :=
 if 1≤o∧o≤9 then zop ⟨o,regP w1,0,0,0⟩ w2
 else if o=10 then ⟨10,regP w2,regP w3,valP w1,zgh w4⟩
 else if o=11 then ⟨11,regP w2,regP w4,valP w1,zgh w3⟩
 else if o=13∨o=14 then { zop ⟨o,regP w1,0,0,0⟩ w2 with of:=zgh w3 }
 else if o=12 then ⟨12,0,0,0,zgh w1⟩
 else ⟨o,0,0,0,0⟩
def yaaw (w:List (List UInt8)):Ins:=yalx (opP (w.getD 0 [])) (w.getD 1 []) (w.getD 2 []) (w.getD 3 []) (w.getD 4 [])
def zdw (l:List UInt8):Ins:=yaaw (cutL 32 6 [] l)
theorem yaok {i:Ins} (h:Fld i):regP (za7 i 0)=i.d:=by
 show regP (114::itoa i.d)=_
 exact zr2 _ h.d.1 h.d.2
theorem yazs {i:Ins} (h:Fld i):regP (za7 i 1)=i.s:=by
 show regP (114::itoa i.s)=_
 exact zr2 _ h.s.1 h.s.2
theorem yax8 (i:Ins):valP (za7 i 3)=i.im:=yawt i.im
theorem yamj {i:Ins} (h:Fld i):zgh (za7 i 4)=i.of:=zpz _ h.f.1 h.f.2
theorem yaq8 {i:Ins} (h:Fld i) (hs:i.s≠-1) (j:Ins):zop j (za7 i 2)={ j with s:=i.s }:=by
 have e:za7 i 2=114::itoa i.s:=by simp [za7,hs]
 rw [e,zop,if_pos (by simp),zr2 _ h.s.1 h.s.2]
theorem yaqj {i:Ins} (hs:i.s=-1) (j:Ins):zop j (za7 i 2)={ j with s:=-1,im:=i.im }:=by
 have e:za7 i 2=decDigits i.im.toNat:=by simp [za7,hs]
 rw [e,zop,if_neg (yaa7 _ 114 (by decide)),yawt]
theorem yage {i:Ins} (h:Fld i) (hb:zbm i=true):zdw (zdx i)=i:=by
 have h1:=h.o1
 have h2:=h.o2
 obtain ⟨k,hk⟩:∃ k:Nat,i.op=(k:Int)+1:=⟨(i.op - 1).toNat,by omega⟩
 have hk15:k<15:=by omega
 have hw:cutL 32 6 [] (zdx i)=nmL k::(plcs i.op).map (za7 i):=by
  rw [zdx,show (i.op - 1).toNat=k by omega,znv]
  refine zne 32 _ 6 (by simp) ?_ ?_
  ·intro w hw
   rw [List.mem_cons,List.mem_map] at hw
   rcases hw with rfl | ⟨p,_,rfl⟩
   ·exact yasm (by decide) k hk15
   ·exact zzt (by decide) i p
  ·have:=zhd i.op
   simp only [List.length_cons,List.length_map];omega
 have ho:opP (nmL k)=i.op:=by unfold opP;rw [zlp k hk15,hk]
 unfold zdw
 rw [hw]
 unfold yaaw
 rw [List.getD_cons_zero,ho]
 simp only [List.getD_cons_succ]
 unfold yalx
 unfold zbm at hb
 by_cases h10:i.op=10
 ·rw [if_neg (by omega),if_pos h10,show plcs i.op=[3,0,1,4] by simp [plcs,h10]]
  simp only [List.map_cons,List.map_nil,List.getD_cons_zero,List.getD_cons_succ,yax8,yaok h,yazs h,yamj h]
  rw [← h10]
 by_cases h11:i.op=11
 ·rw [if_neg (by omega),if_neg h10,if_pos h11,show plcs i.op=[3,0,4,1] by simp [plcs,h11]]
  simp only [List.map_cons,List.map_nil,List.getD_cons_zero,List.getD_cons_succ,yax8,yaok h,yazs h,yamj h]
  rw [← h11]
 rw [if_neg (by omega)] at hb
 by_cases h12:i.op=12
 ·rw [if_pos h12] at hb
  simp only [Bool.and_eq_true,decide_eq_true_eq] at hb
  rw [if_neg (by omega),if_neg h10,if_neg h11,if_neg (by omega),if_pos h12,show plcs i.op=[4] by simp [plcs,h12]]
  simp only [List.map_cons,List.map_nil,List.getD_cons_zero,yamj h]
  obtain ⟨op,d,s,im,f⟩:=i
  simp only at hb h12 ⊢
  rw [hb.1.1,hb.1.2,ze8 hb.2,h12]
 rw [if_neg h12] at hb
 by_cases h13:i.op=13∨i.op=14
 ·rw [if_pos h13] at hb
  rw [if_neg (by omega),if_neg h10,if_neg h11,if_pos h13,show plcs i.op=[0,2,4] by unfold plcs;rw [if_neg h10,if_neg h11,if_neg h12,if_pos h13]]
  simp only [List.map_cons,List.map_nil,List.getD_cons_zero,List.getD_cons_succ,yaok h,yamj h]
  by_cases hs:i.s=-1
  ·rw [yaqj hs]
   obtain ⟨op,d,s,im,f⟩:=i
   simp only at hs ⊢
   rw [hs]
  ·simp only [Bool.or_eq_true,decide_eq_true_eq] at hb
   have hm:=ze8 (hb.resolve_left hs)
   rw [yaq8 h hs]
   obtain ⟨op,d,s,im,f⟩:=i
   simp only at hm ⊢
   rw [hm]
 rw [if_neg h13] at hb
 by_cases h15:i.op=15
 ·rw [if_pos h15] at hb
  simp only [Bool.and_eq_true,decide_eq_true_eq] at hb
  rw [if_neg (by omega),if_neg h10,if_neg h11,if_neg h13,if_neg h12]
  obtain ⟨op,d,s,im,f⟩:=i
  simp only at hb ⊢
  rw [hb.1.1.1,hb.1.1.2,ze8 hb.1.2,hb.2]
 rw [if_neg h15] at hb
 simp only [Bool.and_eq_true,Bool.or_eq_true,decide_eq_true_eq] at hb
 rw [if_pos (by omega),show plcs i.op=[0,2] by unfold plcs;rw [if_neg h10,if_neg h11,if_neg h12,if_neg h13,if_neg h15]]
 simp only [List.map_cons,List.map_nil,List.getD_cons_zero,List.getD_cons_succ,yaok h]
 by_cases hs:i.s=-1
 ·rw [yaqj hs]
  obtain ⟨op,d,s,im,f⟩:=i
  simp only at hs hb ⊢
  rw [hs,hb.1]
 ·have hm:=ze8 (hb.2.resolve_left hs)
  rw [yaq8 h hs]
  obtain ⟨op,d,s,im,f⟩:=i
  simp only at hm hb ⊢
  rw [hm,hb.1]
def zhw (s:ByteArray):List Ins:=(cutL 10 66 [] s.data.toList).dropLast.map zdw
def zy7 (s:ByteArray):Option (List Ins) :=
 if s.size≤4096 then
  if zan (zhw s)=0∧(⟨(shown (zhw s)).toArray⟩:ByteArray)=s then some (zhw s) else none
 else none
theorem zuy (c:UInt8):∀ (w:List UInt8) (ws:List (List UInt8)),zfe c (w::ws)++[c]=zfe c ((w::ws)++[[]])
 | w,[]=>by simp [zfe]
 | w,x::ws=>by
  have ih:=zuy c x ws
  show (w++c::zfe c (x::ws))++[c]=w++c::zfe c ((x::ws)++[[]])
  rw [← ih];simp
theorem yafu {L:List Ins} (h:zan L=0) {s:ByteArray} (hs:s.data.toList=shown L):zhw s=L:=by
 obtain ⟨h64,hF⟩:=zg5 h
 have hB:=zxb h
 cases L with
 | nil=>simp [zan] at h
 | cons i M =>
  unfold zhw
  rw [hs,zj6]
  have e:(i::M).map zdx=zdx i::M.map zdx:=rfl
  rw [e,zuy,zne 10 _ 66 (by simp),List.dropLast_concat,← e,List.map_map]
  ·refine (List.map_congr_left (g:=id) fun x hx=>yage (hF x hx) (hB x hx)).trans (List.map_id _)
  ·intro w hw
   rw [List.mem_append,← e,List.mem_map,List.mem_singleton] at hw
   rcases hw with ⟨x,hx,rfl⟩ | rfl
   ·exact yair (hF x hx)
   ·simp
  ·simp only [List.length_append,List.length_cons,List.length_map,List.length_nil] at h64 ⊢;omega
theorem yad7 {s:ByteArray} {L:List Ins} (h:zhz s=some L):s.size≤4096:=by
 unfold zhz at h
 split at h
 ·assumption
 ·cases h
theorem zoj {s:ByteArray} {L:List Ins} (h:zhz s=some L):zan L=0∧(⟨(shown L).toArray⟩:ByteArray)=s:=by
 unfold zhz at h
 split at h
 ·split at h
  ·cases h
  ·split at h
   ·rename_i h1
    injection h with h
    subst h
    exact h1
   ·cases h
 ·cases h
theorem yabp (s:ByteArray):zy7 s=zhz s:=by
 cases hr:zhz s with
 | some L =>
  obtain ⟨he,ht⟩:=zoj hr
  have hl:zhw s=L:=yafu he (by rw [← ht])
  unfold zy7
  rw [if_pos (yad7 hr),hl,if_pos ⟨he,ht⟩]
 | none =>
  unfold zy7
  split
  ·rename_i hs
   split
   ·rename_i h1
    have h2:=zm1 h1.1 (by rw [h1.2];exact hs)
    rw [h1.2,hr] at h2
    cases h2
   ·rfl
  ·rfl
end Go.Proofs.YtkigmocchaikgabGreatDoor
namespace Go.Proofs.YtkigmocchaikgabGreatDoor
open Go.RowKit
theorem zbh {K:Nat} {en e:Ent} {k:Nat} (h:look [(K,en)] k=some e):k=K∧e=en:=by
 rw [zau] at h
 split at h
 ·rename_i hk;injection h with h;exact ⟨hk,h.symm⟩
 ·cases h
theorem zeg (a b:Nat):swp a b a=b:=by unfold swp;rw [if_pos rfl]
theorem zfn {a b j:Nat} (h1:j≠a) (h2:j≠b):swp a b j=j:=by unfold swp;rw [if_neg h1,if_neg h2]
theorem zo2 {ρ:Nat→Nat} {L:List Ins} (h:ρ 0=0):renH ρ (pH L)=pH L:=by
 show [(ρ 0,Ent.mk false ((pcell L).map (AC.ren ρ)) 0)]=_
 rw [zck _ (zaj L),h]
theorem yavy {T:List (Nat×AV)} {n:Nat} (h:(T.flatMap fun x=>x.2.ks).all (fun k=>Nat.blt k n)=true) (t:Nat) (v:AV) (hv:look T t=some v) (k:Nat) (hk:k∈v.ks):k<n:=by
 have h1:k∈T.flatMap fun x=>x.2.ks:=List.mem_flatMap.2 ⟨(t,v),zds hv,hk⟩
 have h2:=List.all_eq_true.1 h k h1
 simpa using h2
theorem zmo {w w':World} {β:Bs} {v:AV} {k r:Nat} {b:Bool} {cs:List AC} {en:Ending} (h:REff w β ⟨v,[],some (k,⟨b,cs,r⟩)⟩ en w'):REff w β ⟨v,[],some (k,⟨b,cs,0⟩)⟩ en w':=by
 obtain ⟨β',he,hu⟩:=h
 obtain ⟨x,o,c,h1,h2,h3,h4⟩:=hu.nw
 exact ⟨β',he,hu.frame,hu.wr,x,o,c,h1,h2,h3,h4.lt,h4.cell,h4.free,fun h=>absurd rfl h⟩
theorem yab6 {P:Program} {f:FuncId} {C:Cx} {N:Nat} {todo:List Item} {σ:Kn} {R R':Ending→World→Prop} (h:ART P f C N todo σ R) (k:∀ e w,R e w→R' e w):ART P f C N todo σ R':=fun β a w hr cs=>by
 obtain ⟨e,w',fr,h1,h2⟩:=h β a w hr cs
 exact ⟨e,w',fr,k e w' h1,h2⟩
theorem zi3 {P:Program} {f:Nat} {args:List AV} {H:List (Nat×Ent)} {v:AV} {k r:Nat} {b:Bool} {cs:List AC} (h:CallOK P ⟨f,args,H,⟨v,[],some (k,⟨b,cs,r⟩)⟩⟩):CallOK P ⟨f,args,H,⟨v,[],some (k,⟨b,cs,0⟩)⟩⟩:=by
 refine ⟨⟨h.keys.v,h.keys.wr,fun j en hj c hc i hi=>?_⟩,h.wr,fun β w hgw hgx hB hI=>(h.call β w hgw hgx hB hI).mono fun e w' he=>zmo he⟩
 injection hj with hj;injection hj with h1 h2;subst h1 h2
 exact h.keys.nw k ⟨b,cs,r⟩ rfl c hc i hi
def Kn.ren (ρ:Nat→Nat) (σ:Kn) (n:Nat):Kn:=⟨σ.T.map fun x=>(x.1,x.2.ren ρ),renH ρ σ.H,n⟩
theorem zq7 (a b j:Nat):swp a b (swp a b j)=j:=by
 unfold swp
 split <;> (try split) <;> (try split) <;> omega
theorem zv1 (ρ:Nat→Nat):∀ (T:List (Nat×AV)) (t:Nat) (v:AV),look (T.map fun x=>(x.1,x.2.ren ρ)) t=some v→∃ u,look T t=some u∧v=u.ren ρ
 | [],_,_,h=>by cases h
 | (s,x)::T,t,v,h=>by
  simp only [List.map_cons,zau] at h ⊢
  split at h
  ·rename_i hk
   injection h with h
   exact ⟨x,by rw [if_pos hk],h.symm⟩
  ·rename_i hk
   obtain ⟨u,h1,h2⟩:=zv1 ρ T t v h
   exact ⟨u,by rw [if_neg hk];exact h1,h2⟩
theorem ART.ren {P:Program} {f:FuncId} {C:Cx} {N:Nat} {todo:List Item} {σ σ':Kn} {R:Ending→World→Prop} (ρ:Nat→Nat) (n:Nat) (hρ:∀ k,ρ (ρ k)=k) (he:σ.ren ρ n=σ') (hF:∀ k,C.F k→ρ k=k∧k<n) (hl:σ'.Low) (h:ART P f C N todo σ' R):ART P f C N todo σ R:=fun β a w hr=>by
 subst he
 have hi:∀ i j,ρ i=ρ j→i=j:=fun i j e=>by rw [← hρ i,e,hρ j]
 have hb:(fun k=>(fun k=>β (ρ k)) (ρ k))=β:=funext fun k=>by simp only [hρ]
 refine h (fun k=>β (ρ k)) a w ⟨hr.size,hr.defers,fun t v hv=>?_,fun k e hk=>?_,fun k e k' e' hk hk' hne hw hc hc'=>?_,hr.frame,fun k hk=>⟨(hF k hk).2,?_⟩,hr.gd⟩
 ·obtain ⟨u,h1,rfl⟩:=zv1 ρ σ.T t v hv
  refine ⟨?_,hl.1 t _ hv⟩
  rw [AV.ren_g,hb]
  exact (hr.tmp t u h1).1
 ·have hk0:=hk
  obtain ⟨j,e',rfl,h1,rfl⟩:=zmt hi hk
  obtain ⟨_,h3,_,h5⟩:=hr.blk j e' h1
  refine ⟨(hl.2 _ _ hk0).1,blk_ren.2 (by rw [hb];exact h3),(hl.2 _ _ hk0).2,fun hw=>?_⟩
  simp only [hρ]
  exact h5 hw
 ·obtain ⟨j,e1,rfl,h1,rfl⟩:=zmt hi hk
  obtain ⟨j',e1',rfl,h1',rfl⟩:=zmt hi hk'
  simp only [hρ]
  exact hr.inj j e1 j' e1' h1 h1' (fun e=>hne (by rw [e])) hw (fun e=>hc (by simp [Ent.ren,e])) (fun e=>hc' (by simp [Ent.ren,e]))
 ·simp only [(hF k hk).1]
  exact (hr.fix k hk).2
end Go.Proofs.YtkigmocchaikgabGreatDoor
namespace Go.Proofs.YtkigmocchaikgabGreatDoor
open Go.RowKit Go.Lib
abbrev bs (l:List UInt8):ByteArray:=⟨l.toArray⟩
theorem zx4 (t:ByteArray):bs t.data.toList=t:=by obtain ⟨⟨l⟩⟩:=t;rfl
theorem zg8 (a b:List UInt8):bs a++bs b=bs (a++b):=by apply ByteArray.ext;simp
theorem zdu (l:List UInt8):(bs l).size=l.length:=by simp [ByteArray.size]
theorem zdr (t:ByteArray):t.data.toList.length=t.size:=(Lib.size_eq t).symm
theorem yapt (t:ByteArray) (a b:Nat):(t.extract a b).data.toList=(t.data.toList.drop a).take (b - a):=by
 rw [ByteArray.data_extract,Array.toList_extract]
theorem zvy (t:ByteArray) (a b:Nat):t.extract a b=bs ((t.data.toList.drop a).take (b - a)):=by rw [← yapt,zx4]
theorem yaan (t:ByteArray):t.extract 1 ((t.size:Int)).toNat=bs t.data.toList.tail:=by
 rw [zvy,Int.toNat_natCast,List.take_of_length_le (by rw [List.length_drop,zdr];omega),List.drop_one]
theorem zlq (t:ByteArray) {j:Nat} (h:j<t.data.toList.length):zfu t j=(t.data.toList[j]).toBitVec:=by
 unfold zfu
 rw [Array.getD_eq_getD_getElem?,Array.getElem?_eq_getElem (by simpa using h)];simp
theorem yarf {a b:UInt8}:(a.toBitVec==b.toBitVec)=decide (a=b):=by
 by_cases h:a=b
 ·subst h;simp
 ·rw [decide_eq_false h]
  exact beq_eq_false_iff_ne.2 fun e=>h (UInt8.toBitVec_inj.1 e)
theorem zx5 (x:BitVec 64):zmq (((splice (rows 1 [.y 0#8]) 0 [.y (BitVec.setWidth 8 (badd (48#64) (x % 10#64)))]).drop 0).take 1)=bs [UInt8.ofNat (48+x.toNat % 10)]:=by
 show ByteArray.mk #[UInt8.ofBitVec (BitVec.setWidth 8 (48#64+x % 10#64))]=ByteArray.mk #[UInt8.ofNat (48+x.toNat % 10)]
 have e:∀ d,d<10→BitVec.setWidth 8 (48#64+BitVec.ofNat 64 d)=BitVec.ofNat 8 (48+d):=by decide
 have e2:x % 10#64=BitVec.ofNat 64 (x.toNat % 10):=by
  apply BitVec.eq_of_toNat_eq
  rw [BitVec.toNat_umod,show (10#64).toNat=10 from rfl,BitVec.toNat_ofNat]
  omega
 rw [e2,e _ (Nat.mod_lt _ (by decide))]
 rfl
theorem zg0 (u:Nat) (hu:u<18446744073709551616):Ok 13 [.c (.u (BitVec.ofNat 64 u))] (.c (.s (bs (decDigits u)))):=by
 induction u using Nat.strongRecOn with
 | _ u ih =>
  have hx:(BitVec.ofNat 64 u).toNat=u:=by rw [BitVec.toNat_ofNat];omega
  have hn:nv (BitVec.ofNat 64 u)=(u:Int):=by show ((BitVec.ofNat 64 u).toNat:Int)=_;rw [hx]
  refine yaxz (u:=bs (decDigits (u / 10))) (fun h=>?_) (fun h=>?_)
  ·rw [hn,decide_eq_true_eq] at h
   rw [zx5,hx,zfl (by omega),show u % 10=u by omega]
  ·rw [hn,decide_eq_false_iff_not] at h
   have hl:(decDigits (u / 10)).length≤20:=by rw [decDigits_length];exact nDigits_le20 _ (by omega)
   refine ⟨?_,?_,?_⟩
   ·rw [zx5,zdu,zdu]
    exact decide_eq_true (by simp only [List.length_cons,List.length_nil];omega)
   ·have e:BitVec.ofNat 64 u / 10#64=BitVec.ofNat 64 (u / 10):=by
     apply BitVec.eq_of_toNat_eq
     rw [BitVec.toNat_udiv,hx,show (10#64).toNat=10 from rfl,BitVec.toNat_ofNat]
     omega
    rw [e]
    exact ih (u / 10) (by omega) (by omega)
   ·rw [zx5,hx,zg8,zn9 (u:=u) (by omega)]
theorem yab9 (x:BitVec 64):Ok 13 [.c (.u x)] (.c (.s (bs (decDigits x.toNat)))):=by
 have:=zg0 x.toNat (by have:=x.isLt;omega)
 rwa [BitVec.ofNat_toNat,BitVec.setWidth_eq] at this
theorem zja (n:Nat):BitVec.ofInt 64 (n:Int)=BitVec.ofNat 64 n:=by simp
theorem yahs (u:Nat) (h:u<18446744073709551616):(decDigits u).length≤20:=by rw [decDigits_length];exact nDigits_le20 _ h
theorem yake (a:UInt8) (l:List UInt8):ByteArray.mk #[a]++bs l=bs (a::l):=zg8 [a] l
theorem yaia (n:Int) (h0:-64≤n) (h1:n≤64):Ok 87 [.c (.i n)] (.c (.s (bs (itoa n)))):=by
 refine yay2 (u:=bs (decDigits n.natAbs)) (fun h=>?_) (fun h=>?_)
 ·rw [decide_eq_true_eq] at h
  have hl:=yahs n.natAbs (by omega)
  refine ⟨?_,?_,?_⟩
  ·rw [zdu];exact decide_eq_true (by omega)
  ·rw [IntKind.wrap_i64,show (0 - n+9223372036854775808) % 18446744073709551616 - 9223372036854775808=((n.natAbs:Nat):Int) by omega,zja]
   exact zg0 _ (by omega)
  ·rw [itoa,if_pos h]
   exact congrArg (fun l=>AV.c (.s l)) (yake 45 _)
 ·rw [decide_eq_false_iff_not] at h
  obtain ⟨k,rfl⟩:∃ k:Nat,n=k:=⟨n.toNat,by omega⟩
  refine ⟨?_,?_⟩
  ·rw [zja,Int.natAbs_natCast]
   exact zg0 _ (by omega)
  ·rw [itoa,if_neg h,Int.natAbs_natCast,Int.toNat_natCast]
theorem yacq (n:Int) (h0:0≤n) (h1:n≤64):Ok 85 [.c (.i n)] (.c (.s (bs (114::itoa n)))):=by
 obtain ⟨k,rfl⟩:∃ k:Nat,n=k:=⟨n.toNat,by omega⟩
 have hl:=yahs k (by omega)
 have:=ybaw (n1:=(k:Int)) (u:=bs (decDigits k)) (zaa (by rw [zdu];exact decide_eq_true (by omega)) rfl) (by rw [zja];exact zg0 _ (by omega))
 rw [itoa,if_neg (by omega),Int.toNat_natCast,← yake]
 exact this
theorem yatn {i:Ins} (hs:i.s=-1∨0≤i.s∧i.s≤64):Ok 86 [.ag i.cs] (.c (.s (bs (za7 i 2)))):=by
 by_cases h:i.s=-1
 ·rw [show za7 i 2=decDigits i.im.toNat by simp [za7,h]]
  exact ybaq (by simp [h]) (yab9 _)
 ·have h2:=hs.resolve_left h
  rw [show za7 i 2=114::itoa i.s by simp [za7,h]]
  exact ybal (by simp [h]) (yacq _ h2.1 h2.2)
theorem ybaj {j:Nat} (h:j≤5000):IntKind.i64.wrap ((j:Int)+1)=((j+1:Nat):Int):=by rw [IntKind.wrap_i64];omega
theorem ze0 {j:Nat} (h:j≤5000):pe (.c (.i (IntKind.i64.wrap ((j:Int)+1))))=pe (.c (.i (↑(j+1):Int))):=by rw [ybaj h]
theorem yaqp {t:ByteArray} {w:World} {β:Bs} {m:Nat} (ht:t.size≤4096) (hF:∀ k,(cx w β m []).F k→k<0):∀ (n j:Nat) (x:BitVec 64),j+n=(t.data.toList.take 20).length→AR 69 Tryz.f69 (cx w β m []) 0 (vaRK t x j) (REff w β ⟨.c (.u (((t.data.toList.take 20).drop j).foldl digV x)),[],none⟩)
 | 0,j,x,hj=>by
  rw [List.drop_eq_nil_of_le (by omega),List.foldl_nil]
  rw [List.length_take,zdr] at hj
  by_cases h:j<t.size
  ·exact yayf (zaa (decide_eq_true (by omega)) (zaa (zad (decide_eq_false (by omega))) rfl))
  ·exact yawe (zaa (zad (decide_eq_false (by omega))) rfl)
 | n+1,j,x,hj=>by
  have hl:=hj
  rw [List.length_take,zdr] at hl
  have hj2:j<(t.data.toList.take 20).length:=by omega
  rw [List.drop_eq_getElem_cons hj2,List.foldl_cons]
  refine yazo (zaa (decide_eq_true (by omega)) (zaa (decide_eq_true (by omega)) (zaa (decide_eq_true (by omega)) rfl))) (ze0 (by omega)) hF ?_
  have e:badd (bmul (10#64) x) (BitVec.setWidth 64 (zfu t (j:Int).toNat - 48#8))=digV x ((t.data.toList.take 20)[j]):=by
   rw [Int.toNat_natCast,zlq t (by rw [zdr];omega),List.getElem_take];rfl
  rw [e]
  exact yaqp ht hF n (j+1) _ (by omega)
theorem zhk {t:ByteArray} (ht:t.size≤4096):Ok 69 [.c (.s t)] (.c (.u (valP t.data.toList))) :=
 zg9 Tryz.func69 rfl rfl (zux rfl) rfl (fun _ _ h=>(nomatch h)) fun _ _=>yal8 (fun _ h=>h) (yaqp ht (fun _ h=>h) _ 0 _ (Nat.zero_add _))
theorem yaze (t:ByteArray) (c:UInt8) (h:0<t.size):(zfu t 0==c.toBitVec)=decide (t.data.toList.head?=some c):=by
 have h1:0<t.data.toList.length:=by rw [zdr];exact h
 have e:∀ (l:List UInt8) (h:0<l.length),decide (l[0]=c)=decide (l.head?=some c):=fun l h=>by
  cases l with
  | nil=>simp at h
  | cons a r=>simp
 rw [zlq t h1,yarf]
 exact e _ h1
theorem zuh (t:ByteArray):(bs t.data.toList.tail).size≤t.size:=by rw [zdu,List.length_tail,zdr];omega
theorem yaa4 {t:ByteArray} (ht:t.size≤4096):Ok 70 [.c (.s t)] (.c (.i (zgh t.data.toList))):=by
 have hs:=zdr t
 unfold zgh
 by_cases h4:4<t.size
 ·rw [if_pos (by omega)]
  exact ybav (zaa (decide_eq_true (by omega)) rfl)
 ·rw [if_neg (by omega)]
  have d4:(!decide (4<(t.size:Int)))=true:=zad (decide_eq_false (by omega))
  by_cases h0:0<t.size
  ·have b0:=yaze t 45 h0
   have d0:decide (0<(t.size:Int))=true:=decide_eq_true (by omega)
   by_cases h45:t.data.toList.head?=some 45
   ·rw [if_pos h45]
    rw [decide_eq_true h45] at b0
    refine yaz4 (zaa d4 (zaa d0 (zaa (decide_eq_true h0) (zaa b0 (zaa (zaa (decide_eq_true (by omega)) (decide_eq_true (Int.le_refl _))) rfl))))) ?_
    rw [yaan]
    exact zhk (Nat.le_trans (zuh t) ht)
   ·rw [if_neg h45]
    rw [decide_eq_false h45] at b0
    exact ybag (zaa d4 (zaa d0 (zaa (decide_eq_true h0) (zaa (zad b0) rfl)))) (zhk ht)
  ·have hl:t.data.toList=[]:=List.length_eq_zero_iff.1 (by omega)
   rw [if_neg (by rw [hl];simp)]
   exact ybah (zaa d4 (zaa (zad (decide_eq_false (by omega))) rfl)) (zhk ht)
theorem zzy {t:ByteArray} (ht:t.size≤4096):Ok 68 [.c (.s t)] (.c (.i (regP t.data.toList))):=by
 have hs:=zdr t
 unfold regP
 by_cases h2:t.size<2
 ·rw [if_pos (by omega)]
  exact ybas (zaa (decide_eq_true (by omega)) rfl)
 ·rw [if_neg (by omega)]
  refine ybaf (zaa (zad (decide_eq_false (by omega))) (zaa (zaa (decide_eq_true (by omega)) (decide_eq_true (Int.le_refl _))) rfl)) ?_
  rw [yaan]
  exact yaa4 (Nat.le_trans (zuh t) ht)
def wcell (ws:List (List UInt8)):List AC:=ws.map fun l=>.s (bs l)
theorem zdh (ws:List (List UInt8)):(wcell ws).flatMap AC.ks=[]:=by
 induction ws with
 | nil=>rfl
 | cons a l ih=>exact ih
theorem zv7 (a:List (List UInt8)) (l:List UInt8):wcell a++[.s (bs l)]=wcell (a++[l]):=by simp [wcell]
theorem zgt (ws:List (List UInt8)):(wcell ws).length=ws.length:=by simp [wcell]
theorem zzu (t:ByteArray) (c:BitVec 8) (q p j r:Nat) (ws:List (List UInt8)):Kn.Low (zow t c q p j r (wcell ws)):=zg7 rfl rfl ⟨zdh ws,trivial⟩
abbrev cuYK (t:ByteArray) (c:BitVec 8) (q p j r:Nat) (A:List AC):Kn:=⟨[(0,.c (.s t)),(1,.c (.y c)),(2,.c (.i (q:Int))),(7,.c (.sx 78 r)),(8,.c (.i (p:Int))),(9,.c (.i (j:Int)))],[(78,Ent.mk true A 1)],79⟩
theorem yagm (t:ByteArray) (c:BitVec 8) (q p j r:Nat) (ws:List (List UInt8)):Kn.Low (cuYK t c q p j r (wcell ws)):=zg7 rfl rfl ⟨zdh ws,trivial⟩
theorem yaqr (t:ByteArray) (c:BitVec 8) (q p j r:Nat) (ws:List (List UInt8)):(cuYK t c q p j r (wcell ws)).ren (swp 50 78) 51=zow t c q p j r (wcell ws):=by
 unfold Kn.ren renH
 simp only [List.map_cons,List.map_nil,Ent.ren,zck _ (zdh ws)]
 rfl
abbrev yafd (R:List (List UInt8)):Eff:=⟨.c (.sx 50 R.length),[],some (50,⟨true,wcell R,1⟩)⟩
theorem yaj3 (R:List (List UInt8)):EKeys 0 [] (some 50) (yafd R):=by
 refine ⟨fun k hk=>Or.inr ?_,fun _ _ hm=>(nomatch hm),fun k en' h'=>?_,fun _ h=>(nomatch h),fun k h=>⟨Nat.zero_le _,rfl⟩⟩
 ·rw [List.mem_singleton.1 hk]
 ·injection h' with h';injection h' with _ h';subst h';exact zdh R
def zf1 (c:UInt8) (l:List UInt8) (q p j:Nat):List (List UInt8):=if j≤l.length then cutL c q ((l.drop p).take (j - p)) (l.drop j) else []
theorem yaas (c:UInt8) (l:List UInt8) (k p:Nat) (ws:List (List UInt8)):ws++zf1 c l (k+1) p l.length=(ws++[(l.drop p).take (l.length - p)])++zf1 c l k (l.length+1) (l.length+1):=by
 unfold zf1
 rw [if_pos (Nat.le_refl _),if_neg (by omega),List.drop_length,cutL]
 simp
theorem yaav {c:UInt8} {l:List UInt8} {k p j:Nat} (hj:j<l.length) (h:l[j]=c) (ws:List (List UInt8)):ws++zf1 c l (k+1) p j=(ws++[(l.drop p).take (j - p)])++zf1 c l k (j+1) (j+1):=by
 unfold zf1
 rw [if_pos (by omega),if_pos (by omega),List.drop_eq_getElem_cons hj,cutL,if_pos h]
 simp
theorem zui {c:UInt8} {l:List UInt8} {k p j:Nat} (hj:j<l.length) (hp:p≤j) (h:l[j]≠c):zf1 c l (k+1) p j=zf1 c l (k+1) p (j+1):=by
 unfold zf1
 rw [if_pos (by omega),if_pos (by omega),List.drop_eq_getElem_cons hj,cutL,if_neg h]
 congr 1
 have e:j+1 - p=(j - p)+1:=by omega
 rw [e,List.take_add_one,List.getElem?_drop,show p+(j - p)=j by omega,List.getElem?_eq_getElem hj]
 rfl
theorem yaj1 {t:ByteArray} (ht:t.size≤4096) (c:UInt8) {q:Nat} {w:World} {β:Bs} (hF:∀ k,(cx w β 0 []).F k→k<0):∀ (n j p:Nat) (ws:List (List UInt8)),j+n=t.size+1→p≤j→ws≠[]→ws.length≤q→q≤100 →
  AR 27 Tryz.f27 (cx w β 0 []) 0 (zow t c.toBitVec q p j ws.length (wcell ws)) (REff w β (yafd (ws++zf1 c t.data.toList (q - ws.length) p j)))
 | 0,j,p,ws,hj,hp,hne,hq,_=>by
  have e:zf1 c t.data.toList (q - ws.length) p j=[]:=by unfold zf1;rw [if_neg (by rw [zdr];omega)]
  rw [e,List.append_nil]
  exact yavm (zaa (zad (decide_eq_false (by omega))) rfl) (yaj3 ws)
 | n+1,j,p,ws,hj,hp,hne,hq,hq1=>by
  have hs:=zdr t
  have dj:decide ((j:Int)≤(t.size:Int))=true:=decide_eq_true (by omega)
  by_cases hr:ws.length<q
  ·obtain ⟨k,hk⟩:∃ k,q - ws.length=k+1:=⟨q - ws.length - 1,by omega⟩
   have dr:decide ((ws.length:Int)<(q:Int))=true:=decide_eq_true (by omega)
   have hw0:0<ws.length:=List.length_pos_iff.2 hne
   have da:(Nat.beq (ws.length*1) (wcell ws).length&&decide (ws.length+1≤137438953472)&&Nat.blt 0 ws.length)=true:=by
    rw [zgt,Nat.mul_one,Nat.beq_refl,decide_eq_true (by omega)]
    simpa using hw0
   have dp:(decide ((p:Int)≤(j:Int))&&decide ((j:Int)≤(t.size:Int)))=true:=zaa (decide_eq_true (by omega)) dj
   have ea:Eff.mk (.c (.sx 78 (ws.length+1))) [(50,[])] (some (51+10+11+6,Ent.mk true (wcell ws++((splice (rows 1 [.s (ByteArray.mk #[])]) 0 [.s (ByteArray.extract t ((p:Int)).toNat ((j:Int)).toNat)]).drop 0).take 1) 1))=Eff.mk (.c (.sx 78 (ws.length+1))) [(50,[])] (some (78,Ent.mk true (wcell ws++[.s (ByteArray.extract t p j)]) 1)):=rfl
   have nx:∀ ws':List (List UInt8),ws'=ws++[(t.data.toList.drop p).take (j - p)]→AR 27 Tryz.f27 (cx w β 0 []) 0 (cuYK t c.toBitVec q (j+1) (j+1) (ws.length+1) (wcell ws++[.s (ByteArray.extract t p j)])) (REff w β (yafd (ws'++zf1 c t.data.toList k (j+1) (j+1)))):=fun ws' hw=>by
    have hl:ws'.length=ws.length+1:=by rw [hw];simp
    rw [zvy,zv7,← hw,← hl]
    refine ART.ren (swp 50 78) 51 (zq7 50 78) (yaqr _ _ _ _ _ _ _) (fun k hk=>absurd (hF k hk) (by omega)) (zzu _ _ _ _ _ _ _) ?_
    rw [show k=q - ws'.length by omega]
    exact yaj1 ht c hF n (j+1) (j+1) ws' (by omega) (Nat.le_refl _) (by rw [hw];simp) (by omega) hq1
   have lo:Kn.Low (cuYK t c.toBitVec q (j+1) (j+1) (ws.length+1) (wcell ws++[.s (ByteArray.extract t p j)])):=by rw [zvy,zv7];exact yagm _ _ _ _ _ _ _
   have hF':∀ k,(cx w β 0 []).F k→k<79:=fun k hk=>absurd (hF k hk) (by omega)
   rw [hk]
   by_cases he:j=t.size
   ·have de:((j:Int)==(t.size:Int))=true:=by rw [he];simp
    refine yauu (zaa dj (zaa dr (zaa de (zaa dp (zaa da rfl))))) ea (ze0 (by omega)) (ze0 (by omega)) lo hF' ?_
    have:=nx _ rfl
    have e2:j=t.data.toList.length:=by omega
    rw [e2,← yaas,← e2] at this
    exact this
   ·have de:(!((j:Int)==(t.size:Int)))=true:=by simp;omega
    have hjl:j<t.data.toList.length:=by omega
    have dl:decide ((j:Int).toNat<t.size)=true:=decide_eq_true (by omega)
    have db:(zfu t (j:Int).toNat==c.toBitVec)=decide (t.data.toList[j]=c):=by rw [Int.toNat_natCast,zlq t hjl,yarf]
    by_cases hc:t.data.toList[j]=c
    ·rw [decide_eq_true hc] at db
     refine yasr (zaa dj (zaa dr (zaa de (zaa dl (zaa db (zaa dp (zaa da rfl))))))) ea (ze0 (by omega)) (ze0 (by omega)) lo hF' ?_
     rw [yaav hjl hc]
     exact nx _ rfl
    ·rw [decide_eq_false hc] at db
     refine yati (zaa dj (zaa dr (zaa de (zaa dl (zaa (zad db) rfl))))) (ze0 (by omega)) (zzu _ _ _ _ _ _ _) (fun k hk=>absurd (hF k hk) (by omega)) ?_
     rw [zui hjl hp hc,← hk]
     exact yaj1 ht c hF n (j+1) p ws (by omega) (by omega) hne hq hq1
  ·have e:q - ws.length=0:=by omega
   have e2:zf1 c t.data.toList 0 p j=[]:=by unfold zf1;split <;> simp [cutL]
   rw [e,e2,List.append_nil]
   exact yauj (zaa dj (zaa (zad (decide_eq_false (by omega))) rfl)) (yaj3 ws)
theorem yahl {t:ByteArray} (ht:t.size≤4096) (c:UInt8) {k:Nat} (hk:k<100) {w:World} {β:Bs} (hF:∀ k,(cx w β 0 []).F k→k<0):∀ (n j p:Nat),j+n=t.size→p≤j →
  AR 27 Tryz.f27 (cx w β 0 []) 0 (yagl t c.toBitVec (k+1) p j) (REff w β (yafd (zf1 c t.data.toList (k+1) p j))):=fun n j p hj hp=>by
 have hs:=zdr t
 have dj:decide ((j:Int)≤(t.size:Int))=true:=decide_eq_true (by omega)
 have dr:decide (0<((k+1:Nat):Int))=true:=decide_eq_true (by omega)
 have dp:(decide ((p:Int)≤(j:Int))&&decide ((j:Int)≤(t.size:Int)))=true:=zaa (decide_eq_true (by omega)) dj
 have nx:AR 27 Tryz.f27 (cx w β 0 []) 0 (cuYK t c.toBitVec (k+1) (j+1) (j+1) 1 [.s (ByteArray.extract t p j)]) (REff w β (yafd ([(t.data.toList.drop p).take (j - p)]++zf1 c t.data.toList k (j+1) (j+1)))):=by
  rw [zvy]
  refine ART.ren (swp 50 78) 51 (zq7 50 78) (yaqr _ _ _ _ _ _ [(t.data.toList.drop p).take (j - p)]) (fun k hk=>absurd (hF k hk) (by omega)) (zzu _ _ _ _ _ _ _) ?_
  exact yaj1 ht c hF n (j+1) (j+1) [(t.data.toList.drop p).take (j - p)] (by omega) (Nat.le_refl _) (by simp) (by simp) (by omega)
 have lo:Kn.Low (cuYK t c.toBitVec (k+1) (j+1) (j+1) 1 [.s (ByteArray.extract t p j)]):=by rw [zvy];exact yagm _ _ _ _ _ _ [(t.data.toList.drop p).take (j - p)]
 have hF':∀ k,(cx w β 0 []).F k→k<79:=fun k hk=>absurd (hF k hk) (by omega)
 by_cases he:j=t.size
 ·have de:((j:Int)==(t.size:Int))=true:=by rw [he];simp
  refine yasl (zaa dj (zaa dr (zaa de (zaa dp rfl)))) rfl (ze0 (by omega)) (ze0 (by omega)) lo hF' ?_
  have e2:j=t.data.toList.length:=by omega
  have:=yaas c t.data.toList k p []
  rw [← e2,List.nil_append,List.nil_append] at this
  rw [this]
  exact nx
 ·have de:(!((j:Int)==(t.size:Int)))=true:=by simp;omega
  have hjl:j<t.data.toList.length:=by omega
  have dl:decide ((j:Int).toNat<t.size)=true:=decide_eq_true (by omega)
  have db:(zfu t (j:Int).toNat==c.toBitVec)=decide (t.data.toList[j]=c):=by rw [Int.toNat_natCast,zlq t hjl,yarf]
  by_cases hc:t.data.toList[j]=c
  ·rw [decide_eq_true hc] at db
   refine yasd (zaa dj (zaa dr (zaa de (zaa dl (zaa db (zaa dp rfl)))))) rfl (ze0 (by omega)) (ze0 (by omega)) lo hF' ?_
   have:=yaav (k:=k) (p:=p) hjl hc []
   rw [List.nil_append,List.nil_append] at this
   rw [this]
   exact nx
  ·rw [decide_eq_false hc] at db
   refine yatr (zaa dj (zaa dr (zaa de (zaa dl (zaa (zad db) rfl))))) (ze0 (by omega)) (fun k hk=>absurd (hF k hk) (by omega)) ?_
   rw [zui hjl hp hc]
   match n,hj with
   | 0,hj=>omega
   | n+1,hj=>exact yahl ht c hk hF n (j+1) p (by omega) (by omega)
 termination_by n=>n
theorem yav5 {t:ByteArray} (ht:t.size≤4096) (c:UInt8) {k:Nat} (hk:k<100):CallOK Tryz.prog ⟨27,[.c (.s t),.c (.y c.toBitVec),.c (.i ((k+1:Nat):Int))],[],yafd (cutL c (k+1) [] t.data.toList)⟩:=by
 refine zk0 Tryz.func27 rfl rfl rfl rfl (zdh _) fun w β _=>?_
 have e:cutL c (k+1) [] t.data.toList=zf1 c t.data.toList (k+1) 0 0:=by unfold zf1;rw [if_pos (by omega)];rfl
 rw [e]
 exact yapz (fun _ h=>absurd h (by show ¬ _<0;omega)) (yahl ht c hk (fun _ h=>h) t.size 0 0 (by omega) (Nat.le_refl _))
theorem yaq7 {t:ByteArray} (ht:t.size≤4096) (c:UInt8) {k:Nat} (hk:k<100) (K:Nat):CallOK Tryz.prog ⟨27,[.c (.s t),.c (.y c.toBitVec),.c (.i ((k+1:Nat):Int))],[],⟨.c (.sx K (cutL c (k+1) [] t.data.toList).length),[],some (K,⟨true,wcell (cutL c (k+1) [] t.data.toList),1⟩)⟩⟩:=by
 refine ((yav5 ht c hk).ren (swp 50 K) (zbl 50 K)).congr ?_
 unfold CallRec.ren Eff.ren renH
 simp only [List.map_cons,List.map_nil,Option.map_some,Ent.ren,zck _ (zdh _),AV.ren,AC.ren,zeg]
end Go.Proofs.YtkigmocchaikgabGreatDoor
namespace Go.Proofs.YtkigmocchaikgabGreatDoor
open Go.RowKit
section
abbrev ctRK (L:List Ins) (c j:Nat) (t:ByteArray):Kn:=⟨[(0,.c (.sl 0 0 L.length c)),(3,.c (.s t)),(4,.c (.i (j:Int)))],[(0,Ent.mk false (pcell L) 0)],1⟩
variable {i:Ins} {m u1 u2 u3 u4 t:ByteArray} {A:List AC} {L:List Ins} {c j n:Nat} {C:Cx} {R:Ending→World→Prop} {w:World} {β:Bs} {n1:Int} {x:BitVec 64}
theorem yayv (h:(decide (0≤i.op)&&decide (i.op<16)&&(AC.isS (A[0+(i.op).toNat*1]?.getD (.b false))&&Nat.blt (0+(i.op).toNat*1) A.length&&(decide (ByteArray.size m+1≤9223372036854775807)&&(decide (ByteArray.size (m++ByteArray.mk #[OfNat.ofNat 32])+ByteArray.size u1≤9223372036854775807)&&(decide (ByteArray.size (m++ByteArray.mk #[OfNat.ofNat 32]++u1)+1≤9223372036854775807)&&(decide (ByteArray.size (m++ByteArray.mk #[OfNat.ofNat 32]++u1++ByteArray.mk #[OfNat.ofNat 32])+ByteArray.size u2≤9223372036854775807)&&(decide (ByteArray.size (m++ByteArray.mk #[OfNat.ofNat 32]++u1++ByteArray.mk #[OfNat.ofNat 32]++u2)+1≤9223372036854775807)&&true)))))))=true) (c0:CO 66 [] [] (Eff.mk (.c (.sl 2 0 16 16)) [] (some (2,Ent.mk true A 0)))) (c1:pe (.c (.s (AC.asS (A[0+(i.op).toNat*1]?.getD (.b false)))))=pe (.c (.s m))) (c2:Ok 38 [.c (.i i.op)] (.c (.b true))) (c3:Ok 85 [.c (.i i.d)] (.c (.s u1))) (c4:Ok 86 [.ag i.cs] (.c (.s u2))) :
  Ok 33 [.ag i.cs] (.c (.s (m++ByteArray.mk #[OfNat.ofNat 32]++u1++ByteArray.mk #[OfNat.ofNat 32]++u2++ByteArray.mk #[OfNat.ofNat 10]))) :=
 zaf [true] ([]) [(1,4)] Tryz.func33 rfl rfl rfl rfl (by kernel_rfl) h (zab c0 (zac c1 (zab c2 (zab c3 (zab c4 zae)))))
theorem yaw1 (h:(decide (0≤i.op)&&decide (i.op<16)&&(AC.isS (A[0+(i.op).toNat*1]?.getD (.b false))&&Nat.blt (0+(i.op).toNat*1) A.length&&(i.op==10&&(decide (ByteArray.size m+1≤9223372036854775807)&&(decide (ByteArray.size (m++ByteArray.mk #[OfNat.ofNat 32])+ByteArray.size u1≤9223372036854775807)&&(decide (ByteArray.size (m++ByteArray.mk #[OfNat.ofNat 32]++u1)+1≤9223372036854775807)&&(decide (ByteArray.size (m++ByteArray.mk #[OfNat.ofNat 32]++u1++ByteArray.mk #[OfNat.ofNat 32])+ByteArray.size u2≤9223372036854775807)&&(decide (ByteArray.size (m++ByteArray.mk #[OfNat.ofNat 32]++u1++ByteArray.mk #[OfNat.ofNat 32]++u2)+1≤9223372036854775807)&&(decide (ByteArray.size (m++ByteArray.mk #[OfNat.ofNat 32]++u1++ByteArray.mk #[OfNat.ofNat 32]++u2++ByteArray.mk #[OfNat.ofNat 32])+ByteArray.size u3≤9223372036854775807)&&(decide (ByteArray.size (m++ByteArray.mk #[OfNat.ofNat 32]++u1++ByteArray.mk #[OfNat.ofNat 32]++u2++ByteArray.mk #[OfNat.ofNat 32]++u3)+1≤9223372036854775807)&&(decide (ByteArray.size (m++ByteArray.mk #[OfNat.ofNat 32]++u1++ByteArray.mk #[OfNat.ofNat 32]++u2++ByteArray.mk #[OfNat.ofNat 32]++u3++ByteArray.mk #[OfNat.ofNat 32])+ByteArray.size u4≤9223372036854775807)&&(decide (ByteArray.size (m++ByteArray.mk #[OfNat.ofNat 32]++u1++ByteArray.mk #[OfNat.ofNat 32]++u2++ByteArray.mk #[OfNat.ofNat 32]++u3++ByteArray.mk #[OfNat.ofNat 32]++u4)+1≤9223372036854775807)&&true))))))))))))=true) (c0:CO 66 [] [] (Eff.mk (.c (.sl 2 0 16 16)) [] (some (2,Ent.mk true A 0)))) (c1:pe (.c (.s (AC.asS (A[0+(i.op).toNat*1]?.getD (.b false)))))=pe (.c (.s m))) (c2:Ok 38 [.c (.i i.op)] (.c (.b false))) (c3:Ok 13 [.c (.u i.im)] (.c (.s u1))) (c4:Ok 85 [.c (.i i.d)] (.c (.s u2))) (c5:Ok 85 [.c (.i i.s)] (.c (.s u3))) (c6:Ok 87 [.c (.i i.of)] (.c (.s u4))) :
  Ok 33 [.ag i.cs] (.c (.s (m++ByteArray.mk #[OfNat.ofNat 32]++u1++ByteArray.mk #[OfNat.ofNat 32]++u2++ByteArray.mk #[OfNat.ofNat 32]++u3++ByteArray.mk #[OfNat.ofNat 32]++u4++ByteArray.mk #[OfNat.ofNat 10]))) :=
 zaf [false,true] ([]) [(1,4)] Tryz.func33 rfl rfl rfl rfl (by kernel_rfl) h (zab c0 (zac c1 (zab c2 (zab c3 (zab c4 (zab c5 (zab c6 zae)))))))
theorem yayq (h:(decide (0≤i.op)&&decide (i.op<16)&&(AC.isS (A[0+(i.op).toNat*1]?.getD (.b false))&&Nat.blt (0+(i.op).toNat*1) A.length&&(!i.op==10&&(i.op==11&&(decide (ByteArray.size m+1≤9223372036854775807)&&(decide (ByteArray.size (m++ByteArray.mk #[OfNat.ofNat 32])+ByteArray.size u1≤9223372036854775807)&&(decide (ByteArray.size (m++ByteArray.mk #[OfNat.ofNat 32]++u1)+1≤9223372036854775807)&&(decide (ByteArray.size (m++ByteArray.mk #[OfNat.ofNat 32]++u1++ByteArray.mk #[OfNat.ofNat 32])+ByteArray.size u2≤9223372036854775807)&&(decide (ByteArray.size (m++ByteArray.mk #[OfNat.ofNat 32]++u1++ByteArray.mk #[OfNat.ofNat 32]++u2)+1≤9223372036854775807)&&(decide (ByteArray.size (m++ByteArray.mk #[OfNat.ofNat 32]++u1++ByteArray.mk #[OfNat.ofNat 32]++u2++ByteArray.mk #[OfNat.ofNat 32])+ByteArray.size u3≤9223372036854775807)&&(decide (ByteArray.size (m++ByteArray.mk #[OfNat.ofNat 32]++u1++ByteArray.mk #[OfNat.ofNat 32]++u2++ByteArray.mk #[OfNat.ofNat 32]++u3)+1≤9223372036854775807)&&(decide (ByteArray.size (m++ByteArray.mk #[OfNat.ofNat 32]++u1++ByteArray.mk #[OfNat.ofNat 32]++u2++ByteArray.mk #[OfNat.ofNat 32]++u3++ByteArray.mk #[OfNat.ofNat 32])+ByteArray.size u4≤9223372036854775807)&&(decide (ByteArray.size (m++ByteArray.mk #[OfNat.ofNat 32]++u1++ByteArray.mk #[OfNat.ofNat 32]++u2++ByteArray.mk #[OfNat.ofNat 32]++u3++ByteArray.mk #[OfNat.ofNat 32]++u4)+1≤9223372036854775807)&&true)))))))))))))=true) (c0:CO 66 [] [] (Eff.mk (.c (.sl 2 0 16 16)) [] (some (2,Ent.mk true A 0)))) (c1:pe (.c (.s (AC.asS (A[0+(i.op).toNat*1]?.getD (.b false)))))=pe (.c (.s m))) (c2:Ok 38 [.c (.i i.op)] (.c (.b false))) (c3:Ok 13 [.c (.u i.im)] (.c (.s u1))) (c4:Ok 85 [.c (.i i.d)] (.c (.s u2))) (c5:Ok 87 [.c (.i i.of)] (.c (.s u3))) (c6:Ok 85 [.c (.i i.s)] (.c (.s u4))) :
  Ok 33 [.ag i.cs] (.c (.s (m++ByteArray.mk #[OfNat.ofNat 32]++u1++ByteArray.mk #[OfNat.ofNat 32]++u2++ByteArray.mk #[OfNat.ofNat 32]++u3++ByteArray.mk #[OfNat.ofNat 32]++u4++ByteArray.mk #[OfNat.ofNat 10]))) :=
 zaf [false,false,true] ([]) [(1,4)] Tryz.func33 rfl rfl rfl rfl (by kernel_rfl) h (zab c0 (zac c1 (zab c2 (zab c3 (zab c4 (zab c5 (zab c6 zae)))))))
theorem yazd (h:(decide (0≤i.op)&&decide (i.op<16)&&(AC.isS (A[0+(i.op).toNat*1]?.getD (.b false))&&Nat.blt (0+(i.op).toNat*1) A.length&&(!i.op==10&&(!i.op==11&&(decide (ByteArray.size m+1≤9223372036854775807)&&(decide (ByteArray.size (m++ByteArray.mk #[OfNat.ofNat 32])+ByteArray.size u1≤9223372036854775807)&&(decide (ByteArray.size (m++ByteArray.mk #[OfNat.ofNat 32]++u1)+1≤9223372036854775807)&&(decide (ByteArray.size (m++ByteArray.mk #[OfNat.ofNat 32]++u1++ByteArray.mk #[OfNat.ofNat 32])+ByteArray.size u2≤9223372036854775807)&&(decide (ByteArray.size (m++ByteArray.mk #[OfNat.ofNat 32]++u1++ByteArray.mk #[OfNat.ofNat 32]++u2)+1≤9223372036854775807)&&(decide (ByteArray.size (m++ByteArray.mk #[OfNat.ofNat 32]++u1++ByteArray.mk #[OfNat.ofNat 32]++u2++ByteArray.mk #[OfNat.ofNat 32])+ByteArray.size u3≤9223372036854775807)&&(decide (ByteArray.size (m++ByteArray.mk #[OfNat.ofNat 32]++u1++ByteArray.mk #[OfNat.ofNat 32]++u2++ByteArray.mk #[OfNat.ofNat 32]++u3)+1≤9223372036854775807)&&true)))))))))))=true) (c0:CO 66 [] [] (Eff.mk (.c (.sl 2 0 16 16)) [] (some (2,Ent.mk true A 0)))) (c1:pe (.c (.s (AC.asS (A[0+(i.op).toNat*1]?.getD (.b false)))))=pe (.c (.s m))) (c2:Ok 38 [.c (.i i.op)] (.c (.b false))) (c3:Ok 34 [.c (.i i.op)] (.c (.b true))) (c4:Ok 85 [.c (.i i.d)] (.c (.s u1))) (c5:Ok 86 [.ag i.cs] (.c (.s u2))) (c6:Ok 87 [.c (.i i.of)] (.c (.s u3))) :
  Ok 33 [.ag i.cs] (.c (.s (m++ByteArray.mk #[OfNat.ofNat 32]++u1++ByteArray.mk #[OfNat.ofNat 32]++u2++ByteArray.mk #[OfNat.ofNat 32]++u3++ByteArray.mk #[OfNat.ofNat 10]))) :=
 zaf [false,false,false,true] ([]) [(1,4)] Tryz.func33 rfl rfl rfl rfl (by kernel_rfl) h (zab c0 (zac c1 (zab c2 (zab c3 (zab c4 (zab c5 (zab c6 zae)))))))
theorem yawo (h:(decide (0≤i.op)&&decide (i.op<16)&&(AC.isS (A[0+(i.op).toNat*1]?.getD (.b false))&&Nat.blt (0+(i.op).toNat*1) A.length&&(!i.op==10&&(!i.op==11&&(i.op==12&&(decide (ByteArray.size m+1≤9223372036854775807)&&(decide (ByteArray.size (m++ByteArray.mk #[OfNat.ofNat 32])+ByteArray.size u1≤9223372036854775807)&&(decide (ByteArray.size (m++ByteArray.mk #[OfNat.ofNat 32]++u1)+1≤9223372036854775807)&&true))))))))=true) (c0:CO 66 [] [] (Eff.mk (.c (.sl 2 0 16 16)) [] (some (2,Ent.mk true A 0)))) (c1:pe (.c (.s (AC.asS (A[0+(i.op).toNat*1]?.getD (.b false)))))=pe (.c (.s m))) (c2:Ok 38 [.c (.i i.op)] (.c (.b false))) (c3:Ok 34 [.c (.i i.op)] (.c (.b false))) (c4:Ok 87 [.c (.i i.of)] (.c (.s u1))) :
  Ok 33 [.ag i.cs] (.c (.s (m++ByteArray.mk #[OfNat.ofNat 32]++u1++ByteArray.mk #[OfNat.ofNat 10]))) :=
 zaf [false,false,false,false,true] ([]) [(1,4)] Tryz.func33 rfl rfl rfl rfl (by kernel_rfl) h (zab c0 (zac c1 (zab c2 (zab c3 (zab c4 zae)))))
theorem yazm (h:(decide (0≤i.op)&&decide (i.op<16)&&(AC.isS (A[0+(i.op).toNat*1]?.getD (.b false))&&Nat.blt (0+(i.op).toNat*1) A.length&&(!i.op==10&&(!i.op==11&&(!i.op==12&&(decide (ByteArray.size m+1≤9223372036854775807)&&true))))))=true) (c0:CO 66 [] [] (Eff.mk (.c (.sl 2 0 16 16)) [] (some (2,Ent.mk true A 0)))) (c1:pe (.c (.s (AC.asS (A[0+(i.op).toNat*1]?.getD (.b false)))))=pe (.c (.s m))) (c2:Ok 38 [.c (.i i.op)] (.c (.b false))) (c3:Ok 34 [.c (.i i.op)] (.c (.b false))) :
  Ok 33 [.ag i.cs] (.c (.s (m++ByteArray.mk #[OfNat.ofNat 10]))) :=
 zaf [false,false,false,false,false] ([]) [(1,4)] Tryz.func33 rfl rfl rfl rfl (by kernel_rfl) h (zab c0 (zac c1 (zab c2 (zab c3 zae))))
theorem yapq (lo:Kn.Low ⟨[(0,.c (.sl 0 0 L.length c)),(3,.c (.s (ByteArray.mk #[]))),(4,.c (.i 0))],[(0,Ent.mk false (pcell L) 0)],1⟩) (hF:∀ k,C.F k→k<1) (z:AR 14 Tryz.f14 C 0 ⟨[(0,.c (.sl 0 0 L.length c)),(3,.c (.s (ByteArray.mk #[]))),(4,.c (.i 0))],[(0,Ent.mk false (pcell L) 0)],1⟩ R) :
  BO 14 Tryz.f14 C [.c (.sl 0 0 L.length c)] [(0,Ent.mk false (pcell L) 0)] 1 R :=
 zai [] ([true]) [] Tryz.func14 (by kernel_rfl) rfl zae lo hF z
theorem yawk (h:(decide ((j:Int)<(L.length:Int))&&(decide ((j:Int)<(L.length:Int))&&(Nat.ble (0+(j:Int).toNat*5+5) (pcell L).length&&(decide (ByteArray.size t+ByteArray.size u1≤9223372036854775807)&&true))))=true) (c0:pe (.ag (((pcell L).drop (0+(j:Int).toNat*5)).take 5))=pe (.ag i.cs)) (c1:Ok 33 [.ag i.cs] (.c (.s u1))) (c2:pe (.c (.s (t++u1)))=pe (.c (.s m))) (c3:pe (.c (.i (IntKind.i64.wrap ((j:Int)+1))))=pe (.c (.i (↑(j+1):Int)))) (lo:Kn.Low (ctRK L c (j+1) m)) (hF:∀ k,C.F k→k<1) (z:AR 14 Tryz.f14 C 0 (ctRK L c (j+1) m) R) :
  AR 14 Tryz.f14 C 0 (ctRK L c j t) R :=
 zai [true] ([true]) [(5,4),(5,6),(4,1)] Tryz.func14 (by kernel_rfl) h (zac c0 (zab c1 (zac c2 (zac c3 zae)))) lo hF z
theorem yayk (h:(!decide ((j:Int)<(L.length:Int))&&true)=true) :
  AR 14 Tryz.f14 (cx w β n []) 0 (ctRK L c j t) (REff w β ⟨.c (.s t),[],none⟩) :=
 zah [] none [false] ([true]) [] Tryz.func14 (zav rfl n) (by kernel_rfl) h zae
theorem yaww (h:(decide (0<(↑(ByteArray.size t):Int))&&(decide (0<ByteArray.size t)&&(zfu t 0==114#8&&true)))=true) (c0:Ok 68 [.c (.s t)] (.c (.i n1))) (hk:EKeys n [0] none ⟨.tu [],[(0,[.i i.op,.i i.d,.i n1,.u i.im,.i i.of])],none⟩) :
  BO 67 Tryz.f67 (cx w β n [0]) [.c (.s t),.c (.w 0)] [(0,Ent.mk true i.cs 0)] 1 (REff w β ⟨.tu [],[(0,[.i i.op,.i i.d,.i n1,.u i.im,.i i.of])],none⟩) :=
 zah [0] none [true,true] ([]) [] Tryz.func67 hk (by kernel_rfl) h (zab c0 zae)
theorem yav2 (h:(decide (0<(↑(ByteArray.size t):Int))&&(decide (0<ByteArray.size t)&&(!byteAt t 0==114#8&&true)))=true) (c0:Ok 69 [.c (.s t)] (.c (.u x))) (hk:EKeys n [0] none ⟨.tu [],[(0,[.i i.op,.i i.d,.i (-1),.u x,.i i.of])],none⟩) :
  BO 67 Tryz.f67 (cx w β n [0]) [.c (.s t),.c (.w 0)] [(0,Ent.mk true i.cs 0)] 1 (REff w β ⟨.tu [],[(0,[.i i.op,.i i.d,.i (-1),.u x,.i i.of])],none⟩) :=
 zah [0] none [true,false] ([]) [] Tryz.func67 hk (by kernel_rfl) h (zab c0 zae)
theorem yawp (h:(!decide (0<(↑(ByteArray.size t):Int))&&true)=true) (c0:Ok 69 [.c (.s t)] (.c (.u x))) (hk:EKeys n [0] none ⟨.tu [],[(0,[.i i.op,.i i.d,.i (-1),.u x,.i i.of])],none⟩) :
  BO 67 Tryz.f67 (cx w β n [0]) [.c (.s t),.c (.w 0)] [(0,Ent.mk true i.cs 0)] 1 (REff w β ⟨.tu [],[(0,[.i i.op,.i i.d,.i (-1),.u x,.i i.of])],none⟩) :=
 zah [0] none [false,false] ([]) [] Tryz.func67 hk (by kernel_rfl) h (zab c0 zae)
end
section
abbrev rcAK (L:List Ins) (c j:Nat):Kn:=⟨[(0,.c (.sl 0 0 L.length c)),(3,.c (.i (j:Int)))],[(0,Ent.mk false (pcell L) 0)],1⟩
abbrev rcBK (L:List Ins) (c j:Nat):Kn:=⟨[(0,.c (.sl 0 0 L.length c)),(4,.c (.i (j:Int)))],[(0,Ent.mk false (pcell L) 0)],1⟩
abbrev rcCK (L:List Ins) (c j:Nat):Kn:=⟨[(0,.c (.sl 0 0 L.length c)),(5,.c (.i (j:Int)))],[(0,Ent.mk false (pcell L) 0)],1⟩
variable {op a lo hi d q s of:Int} {V:AV} {i:Ins} {L:List Ins} {c n:Nat} {w:World} {β:Bs} {C:Cx} {R:Ending→World→Prop} {E:Eff} {m:Mach} {mem:ByteArray} {x im:BitVec 64}
theorem zot (h:(op==13&&true)=true) :
  Ok 34 [.c (.i op)] (.c (.b true)) :=
 zaf [true] [] [] Tryz.func34 rfl rfl rfl rfl (by kernel_rfl) h zae
theorem zou (h:(!op==13&&true)=true) :
  Ok 34 [.c (.i op)] (.c (.b (op==14))) :=
 zaf [false] [] [] Tryz.func34 rfl rfl rfl rfl (by kernel_rfl) h zae
theorem zon
  (l0:(op==13)=true→(AV.c (.b true)=V))
  (l1:(op==13)=false→(AV.c (.b (op==14))=V)) :
  Ok 34 [.c (.i op)] V :=
 (tf (op==13)).elim (fun h0=>(match l0 h0 with | e=>zam (zot (zaa h0 rfl)) e)) (fun h0=>(match l1 h0 with | e=>zam (zou (zaa (zad h0) rfl)) e))
theorem zr5 (h:(op==10&&true)=true) :
  Ok 75 [.c (.i op)] (.c (.b true)) :=
 zaf [true] [] [] Tryz.func75 rfl rfl rfl rfl (by kernel_rfl) h zae
theorem zqx (h:(!op==10&&true)=true) :
  Ok 75 [.c (.i op)] (.c (.b (op==11))) :=
 zaf [false] [] [] Tryz.func75 rfl rfl rfl rfl (by kernel_rfl) h zae
theorem zo0
  (l0:(op==10)=true→(AV.c (.b true)=V))
  (l1:(op==10)=false→(AV.c (.b (op==11))=V)) :
  Ok 75 [.c (.i op)] V :=
 (tf (op==10)).elim (fun h0=>(match l0 h0 with | e=>zam (zr5 (zaa h0 rfl)) e)) (fun h0=>(match l1 h0 with | e=>zam (zqx (zaa (zad h0) rfl)) e))
theorem zrb (c0:Ok 35 [.c (.i op),.c (.i 1),.c (.i 9)] (.c (.b (decide (1≤op)&&decide (op≤9))))) :
  Ok 38 [.c (.i op)] (.c (.b (decide (1≤op)&&decide (op≤9)))) :=
 zaf [] [] [] Tryz.func38 rfl rfl rfl rfl (by kernel_rfl) rfl (zab c0 zae)
theorem zvw (h:(decide (lo≤a)&&true)=true) :
  Ok 35 [.c (.i a),.c (.i lo),.c (.i hi)] (.c (.b (decide (a≤hi)))) :=
 zaf [true] [] [] Tryz.func35 rfl rfl rfl rfl (by kernel_rfl) h zae
theorem zv9 (h:(!decide (lo≤a)&&true)=true) :
  Ok 35 [.c (.i a),.c (.i lo),.c (.i hi)] (.c (.b false)) :=
 zaf [false] [] [] Tryz.func35 rfl rfl rfl rfl (by kernel_rfl) h zae
theorem zqp
  (l0:(decide (lo≤a))=true→(AV.c (.b (decide (a≤hi)))=V))
  (l1:(decide (lo≤a))=false→(AV.c (.b false)=V)) :
  Ok 35 [.c (.i a),.c (.i lo),.c (.i hi)] V :=
 (tf (decide (lo≤a))).elim (fun h0=>(match l0 h0 with | e=>zam (zvw (zaa h0 rfl)) e)) (fun h0=>(match l1 h0 with | e=>zam (zv9 (zaa (zad h0) rfl)) e))
theorem yal2 (c0:Ok 35 [.c (.i d),.c (.i 0),.c (.i 5)] (.c (.b (decide (0≤d)&&decide (d≤5))))) :
  Ok 122 [.c (.i d)] (.c (.b (decide (0≤d)&&decide (d≤5)))) :=
 zaf [] [] [] Tryz.func122 rfl rfl rfl rfl (by kernel_rfl) rfl (zab c0 zae)
theorem zt9 (h:(decide (1≤i.op)&&decide (i.op≤9)&&(regB i.d&&(regB i.s&&true)))=true) (c0:Ok 38 [.c (.i i.op)] (.c (.b (decide (1≤i.op)&&decide (i.op≤9))))) (c1:Ok 122 [.c (.i i.d)] (.c (.b (regB i.d)))) (c2:Ok 122 [.c (.i i.s)] (.c (.b (regB i.s)))) :
  Ok 71 [.ag i.cs,.c (.i q)] (.c (.b true)) :=
 zaf [true,true,true] [] [] Tryz.func71 rfl rfl rfl rfl (by kernel_rfl) h (zab c0 (zab c1 (zab c2 zae)))
theorem ztx (h:(decide (1≤i.op)&&decide (i.op≤9)&&(regB i.d&&(!regB i.s&&true)))=true) (c0:Ok 38 [.c (.i i.op)] (.c (.b (decide (1≤i.op)&&decide (i.op≤9))))) (c1:Ok 122 [.c (.i i.d)] (.c (.b (regB i.d)))) (c2:Ok 122 [.c (.i i.s)] (.c (.b (regB i.s)))) :
  Ok 71 [.ag i.cs,.c (.i q)] (.c (.b (i.s==-1))) :=
 zaf [true,true,false] [] [] Tryz.func71 rfl rfl rfl rfl (by kernel_rfl) h (zab c0 (zab c1 (zab c2 zae)))
theorem ztq (h:(decide (1≤i.op)&&decide (i.op≤9)&&(!regB i.d&&true))=true) (c0:Ok 38 [.c (.i i.op)] (.c (.b (decide (1≤i.op)&&decide (i.op≤9))))) (c1:Ok 122 [.c (.i i.d)] (.c (.b (regB i.d)))) :
  Ok 71 [.ag i.cs,.c (.i q)] (.c (.b false)) :=
 zaf [true,false] [] [] Tryz.func71 rfl rfl rfl rfl (by kernel_rfl) h (zab c0 (zab c1 zae))
theorem zt3 (h:(!(decide (1≤i.op)&&decide (i.op≤9))&&((i.op==10||i.op==11)&&(regB i.d&&(regB i.s&&(decide (-64≤i.of)&&decide (i.of≤64)&&(eqb i.im 1#64&&true))))))=true) (c0:Ok 38 [.c (.i i.op)] (.c (.b (decide (1≤i.op)&&decide (i.op≤9))))) (c1:Ok 75 [.c (.i i.op)] (.c (.b (i.op==10||i.op==11)))) (c2:Ok 122 [.c (.i i.d)] (.c (.b (regB i.d)))) (c3:Ok 122 [.c (.i i.s)] (.c (.b (regB i.s)))) (c4:Ok 35 [.c (.i i.of),.c (.i (-64)),.c (.i 64)] (.c (.b (decide (-64≤i.of)&&decide (i.of≤64))))) :
  Ok 71 [.ag i.cs,.c (.i q)] (.c (.b true)) :=
 zaf [false,true,true,true,true,true,true,true] [] [] Tryz.func71 rfl rfl rfl rfl (by kernel_rfl) h (zab c0 (zab c1 (zab c2 (zab c3 (zab c4 zae)))))
theorem zt8 (h:(!(decide (1≤i.op)&&decide (i.op≤9))&&((i.op==10||i.op==11)&&(regB i.d&&(regB i.s&&(decide (-64≤i.of)&&decide (i.of≤64)&&(!eqb i.im 1#64&&(eqb i.im 2#64&&true)))))))=true) (c0:Ok 38 [.c (.i i.op)] (.c (.b (decide (1≤i.op)&&decide (i.op≤9))))) (c1:Ok 75 [.c (.i i.op)] (.c (.b (i.op==10||i.op==11)))) (c2:Ok 122 [.c (.i i.d)] (.c (.b (regB i.d)))) (c3:Ok 122 [.c (.i i.s)] (.c (.b (regB i.s)))) (c4:Ok 35 [.c (.i i.of),.c (.i (-64)),.c (.i 64)] (.c (.b (decide (-64≤i.of)&&decide (i.of≤64))))) :
  Ok 71 [.ag i.cs,.c (.i q)] (.c (.b true)) :=
 zaf [false,true,true,true,true,false,true,true] [] [] Tryz.func71 rfl rfl rfl rfl (by kernel_rfl) h (zab c0 (zab c1 (zab c2 (zab c3 (zab c4 zae)))))
theorem zto (h:(!(decide (1≤i.op)&&decide (i.op≤9))&&((i.op==10||i.op==11)&&(regB i.d&&(regB i.s&&(decide (-64≤i.of)&&decide (i.of≤64)&&(!eqb i.im 1#64&&(!eqb i.im 2#64&&(eqb i.im 4#64&&true))))))))=true) (c0:Ok 38 [.c (.i i.op)] (.c (.b (decide (1≤i.op)&&decide (i.op≤9))))) (c1:Ok 75 [.c (.i i.op)] (.c (.b (i.op==10||i.op==11)))) (c2:Ok 122 [.c (.i i.d)] (.c (.b (regB i.d)))) (c3:Ok 122 [.c (.i i.s)] (.c (.b (regB i.s)))) (c4:Ok 35 [.c (.i i.of),.c (.i (-64)),.c (.i 64)] (.c (.b (decide (-64≤i.of)&&decide (i.of≤64))))) :
  Ok 71 [.ag i.cs,.c (.i q)] (.c (.b true)) :=
 zaf [false,true,true,true,true,false,false,true] [] [] Tryz.func71 rfl rfl rfl rfl (by kernel_rfl) h (zab c0 (zab c1 (zab c2 (zab c3 (zab c4 zae)))))
theorem zt2 (h:(!(decide (1≤i.op)&&decide (i.op≤9))&&((i.op==10||i.op==11)&&(regB i.d&&(regB i.s&&(decide (-64≤i.of)&&decide (i.of≤64)&&(!eqb i.im 1#64&&(!eqb i.im 2#64&&(!eqb i.im 4#64&&true))))))))=true) (c0:Ok 38 [.c (.i i.op)] (.c (.b (decide (1≤i.op)&&decide (i.op≤9))))) (c1:Ok 75 [.c (.i i.op)] (.c (.b (i.op==10||i.op==11)))) (c2:Ok 122 [.c (.i i.d)] (.c (.b (regB i.d)))) (c3:Ok 122 [.c (.i i.s)] (.c (.b (regB i.s)))) (c4:Ok 35 [.c (.i i.of),.c (.i (-64)),.c (.i 64)] (.c (.b (decide (-64≤i.of)&&decide (i.of≤64))))) :
  Ok 71 [.ag i.cs,.c (.i q)] (.c (.b (eqb i.im 8#64))) :=
 zaf [false,true,true,true,true,false,false,false] [] [] Tryz.func71 rfl rfl rfl rfl (by kernel_rfl) h (zab c0 (zab c1 (zab c2 (zab c3 (zab c4 zae)))))
theorem ztd (h:(!(decide (1≤i.op)&&decide (i.op≤9))&&((i.op==10||i.op==11)&&(regB i.d&&(regB i.s&&(!(decide (-64≤i.of)&&decide (i.of≤64))&&true)))))=true) (c0:Ok 38 [.c (.i i.op)] (.c (.b (decide (1≤i.op)&&decide (i.op≤9))))) (c1:Ok 75 [.c (.i i.op)] (.c (.b (i.op==10||i.op==11)))) (c2:Ok 122 [.c (.i i.d)] (.c (.b (regB i.d)))) (c3:Ok 122 [.c (.i i.s)] (.c (.b (regB i.s)))) (c4:Ok 35 [.c (.i i.of),.c (.i (-64)),.c (.i 64)] (.c (.b (decide (-64≤i.of)&&decide (i.of≤64))))) :
  Ok 71 [.ag i.cs,.c (.i q)] (.c (.b false)) :=
 zaf [false,true,true,true,false] [] [] Tryz.func71 rfl rfl rfl rfl (by kernel_rfl) h (zab c0 (zab c1 (zab c2 (zab c3 (zab c4 zae)))))
theorem ztf (h:(!(decide (1≤i.op)&&decide (i.op≤9))&&((i.op==10||i.op==11)&&(regB i.d&&(!regB i.s&&true))))=true) (c0:Ok 38 [.c (.i i.op)] (.c (.b (decide (1≤i.op)&&decide (i.op≤9))))) (c1:Ok 75 [.c (.i i.op)] (.c (.b (i.op==10||i.op==11)))) (c2:Ok 122 [.c (.i i.d)] (.c (.b (regB i.d)))) (c3:Ok 122 [.c (.i i.s)] (.c (.b (regB i.s)))) :
  Ok 71 [.ag i.cs,.c (.i q)] (.c (.b false)) :=
 zaf [false,true,true,false,false] [] [] Tryz.func71 rfl rfl rfl rfl (by kernel_rfl) h (zab c0 (zab c1 (zab c2 (zab c3 zae))))
theorem zuc (h:(!(decide (1≤i.op)&&decide (i.op≤9))&&((i.op==10||i.op==11)&&(!regB i.d&&true)))=true) (c0:Ok 38 [.c (.i i.op)] (.c (.b (decide (1≤i.op)&&decide (i.op≤9))))) (c1:Ok 75 [.c (.i i.op)] (.c (.b (i.op==10||i.op==11)))) (c2:Ok 122 [.c (.i i.d)] (.c (.b (regB i.d)))) :
  Ok 71 [.ag i.cs,.c (.i q)] (.c (.b false)) :=
 zaf [false,true,false,false,false] [] [] Tryz.func71 rfl rfl rfl rfl (by kernel_rfl) h (zab c0 (zab c1 (zab c2 zae)))
theorem zrs (h:(!(decide (1≤i.op)&&decide (i.op≤9))&&(!(i.op==10||i.op==11)&&((i.op==13||i.op==14)&&(regB i.d&&(regB i.s&&true)))))=true) (c0:Ok 38 [.c (.i i.op)] (.c (.b (decide (1≤i.op)&&decide (i.op≤9))))) (c1:Ok 75 [.c (.i i.op)] (.c (.b (i.op==10||i.op==11)))) (c2:Ok 34 [.c (.i i.op)] (.c (.b (i.op==13||i.op==14)))) (c3:Ok 122 [.c (.i i.d)] (.c (.b (regB i.d)))) (c4:Ok 122 [.c (.i i.s)] (.c (.b (regB i.s)))) (c5:Ok 35 [.c (.i i.of),.c (.i 0),.c (.i q)] (.c (.b (decide (0≤i.of)&&decide (i.of≤q))))) :
  Ok 71 [.ag i.cs,.c (.i q)] (.c (.b (decide (0≤i.of)&&decide (i.of≤q)))) :=
 zaf [false,false,true,true,true,true] [] [] Tryz.func71 rfl rfl rfl rfl (by kernel_rfl) h (zab c0 (zab c1 (zab c2 (zab c3 (zab c4 (zab c5 zae))))))
theorem zsu (h:(!(decide (1≤i.op)&&decide (i.op≤9))&&(!(i.op==10||i.op==11)&&((i.op==13||i.op==14)&&(regB i.d&&(!regB i.s&&(i.s==-1&&true))))))=true) (c0:Ok 38 [.c (.i i.op)] (.c (.b (decide (1≤i.op)&&decide (i.op≤9))))) (c1:Ok 75 [.c (.i i.op)] (.c (.b (i.op==10||i.op==11)))) (c2:Ok 34 [.c (.i i.op)] (.c (.b (i.op==13||i.op==14)))) (c3:Ok 122 [.c (.i i.d)] (.c (.b (regB i.d)))) (c4:Ok 122 [.c (.i i.s)] (.c (.b (regB i.s)))) (c5:Ok 35 [.c (.i i.of),.c (.i 0),.c (.i q)] (.c (.b (decide (0≤i.of)&&decide (i.of≤q))))) :
  Ok 71 [.ag i.cs,.c (.i q)] (.c (.b (decide (0≤i.of)&&decide (i.of≤q)))) :=
 zaf [false,false,true,true,false,true] [] [] Tryz.func71 rfl rfl rfl rfl (by kernel_rfl) h (zab c0 (zab c1 (zab c2 (zab c3 (zab c4 (zab c5 zae))))))
theorem zsv (h:(!(decide (1≤i.op)&&decide (i.op≤9))&&(!(i.op==10||i.op==11)&&((i.op==13||i.op==14)&&(regB i.d&&(!regB i.s&&(!i.s==-1&&true))))))=true) (c0:Ok 38 [.c (.i i.op)] (.c (.b (decide (1≤i.op)&&decide (i.op≤9))))) (c1:Ok 75 [.c (.i i.op)] (.c (.b (i.op==10||i.op==11)))) (c2:Ok 34 [.c (.i i.op)] (.c (.b (i.op==13||i.op==14)))) (c3:Ok 122 [.c (.i i.d)] (.c (.b (regB i.d)))) (c4:Ok 122 [.c (.i i.s)] (.c (.b (regB i.s)))) :
  Ok 71 [.ag i.cs,.c (.i q)] (.c (.b false)) :=
 zaf [false,false,true,true,false,false] [] [] Tryz.func71 rfl rfl rfl rfl (by kernel_rfl) h (zab c0 (zab c1 (zab c2 (zab c3 (zab c4 zae)))))
theorem zso (h:(!(decide (1≤i.op)&&decide (i.op≤9))&&(!(i.op==10||i.op==11)&&((i.op==13||i.op==14)&&(!regB i.d&&true))))=true) (c0:Ok 38 [.c (.i i.op)] (.c (.b (decide (1≤i.op)&&decide (i.op≤9))))) (c1:Ok 75 [.c (.i i.op)] (.c (.b (i.op==10||i.op==11)))) (c2:Ok 34 [.c (.i i.op)] (.c (.b (i.op==13||i.op==14)))) (c3:Ok 122 [.c (.i i.d)] (.c (.b (regB i.d)))) :
  Ok 71 [.ag i.cs,.c (.i q)] (.c (.b false)) :=
 zaf [false,false,true,false,false] [] [] Tryz.func71 rfl rfl rfl rfl (by kernel_rfl) h (zab c0 (zab c1 (zab c2 (zab c3 zae))))
theorem zsy (h:(!(decide (1≤i.op)&&decide (i.op≤9))&&(!(i.op==10||i.op==11)&&(!(i.op==13||i.op==14)&&(i.op==12&&true))))=true) (c0:Ok 38 [.c (.i i.op)] (.c (.b (decide (1≤i.op)&&decide (i.op≤9))))) (c1:Ok 75 [.c (.i i.op)] (.c (.b (i.op==10||i.op==11)))) (c2:Ok 34 [.c (.i i.op)] (.c (.b (i.op==13||i.op==14)))) (c3:Ok 35 [.c (.i i.of),.c (.i 0),.c (.i q)] (.c (.b (decide (0≤i.of)&&decide (i.of≤q))))) :
  Ok 71 [.ag i.cs,.c (.i q)] (.c (.b (decide (0≤i.of)&&decide (i.of≤q)))) :=
 zaf [false,false,false,true] [] [] Tryz.func71 rfl rfl rfl rfl (by kernel_rfl) h (zab c0 (zab c1 (zab c2 (zab c3 zae))))
theorem zrp (h:(!(decide (1≤i.op)&&decide (i.op≤9))&&(!(i.op==10||i.op==11)&&(!(i.op==13||i.op==14)&&(!i.op==12&&true))))=true) (c0:Ok 38 [.c (.i i.op)] (.c (.b (decide (1≤i.op)&&decide (i.op≤9))))) (c1:Ok 75 [.c (.i i.op)] (.c (.b (i.op==10||i.op==11)))) (c2:Ok 34 [.c (.i i.op)] (.c (.b (i.op==13||i.op==14)))) :
  Ok 71 [.ag i.cs,.c (.i q)] (.c (.b true)) :=
 zaf [false,false,false,false] [] [] Tryz.func71 rfl rfl rfl rfl (by kernel_rfl) h (zab c0 (zab c1 (zab c2 zae)))
theorem zrn
  (l0:(decide (1≤i.op)&&decide (i.op≤9))=true→(regB i.d)=true→(regB i.s)=true→(Ok 38 [.c (.i i.op)] (.c (.b (decide (1≤i.op)&&decide (i.op≤9)))))∧(Ok 122 [.c (.i i.d)] (.c (.b (regB i.d))))∧(Ok 122 [.c (.i i.s)] (.c (.b (regB i.s))))∧(AV.c (.b true)=V))
  (l1:(decide (1≤i.op)&&decide (i.op≤9))=true→(regB i.d)=true→(regB i.s)=false→(Ok 38 [.c (.i i.op)] (.c (.b (decide (1≤i.op)&&decide (i.op≤9)))))∧(Ok 122 [.c (.i i.d)] (.c (.b (regB i.d))))∧(Ok 122 [.c (.i i.s)] (.c (.b (regB i.s))))∧(AV.c (.b (i.s==-1))=V))
  (l2:(decide (1≤i.op)&&decide (i.op≤9))=true→(regB i.d)=false→(Ok 38 [.c (.i i.op)] (.c (.b (decide (1≤i.op)&&decide (i.op≤9)))))∧(Ok 122 [.c (.i i.d)] (.c (.b (regB i.d))))∧(AV.c (.b false)=V))
  (l3:(decide (1≤i.op)&&decide (i.op≤9))=false→(i.op==10||i.op==11)=true→(regB i.d)=true→(regB i.s)=true→(decide (-64≤i.of)&&decide (i.of≤64))=true→(eqb i.im 1#64)=true→(Ok 38 [.c (.i i.op)] (.c (.b (decide (1≤i.op)&&decide (i.op≤9)))))∧(Ok 75 [.c (.i i.op)] (.c (.b (i.op==10||i.op==11))))∧(Ok 122 [.c (.i i.d)] (.c (.b (regB i.d))))∧(Ok 122 [.c (.i i.s)] (.c (.b (regB i.s))))∧(Ok 35 [.c (.i i.of),.c (.i (-64)),.c (.i 64)] (.c (.b (decide (-64≤i.of)&&decide (i.of≤64)))))∧(AV.c (.b true)=V))
  (l4:(decide (1≤i.op)&&decide (i.op≤9))=false→(i.op==10||i.op==11)=true→(regB i.d)=true→(regB i.s)=true→(decide (-64≤i.of)&&decide (i.of≤64))=true→(eqb i.im 1#64)=false→(eqb i.im 2#64)=true→(Ok 38 [.c (.i i.op)] (.c (.b (decide (1≤i.op)&&decide (i.op≤9)))))∧(Ok 75 [.c (.i i.op)] (.c (.b (i.op==10||i.op==11))))∧(Ok 122 [.c (.i i.d)] (.c (.b (regB i.d))))∧(Ok 122 [.c (.i i.s)] (.c (.b (regB i.s))))∧(Ok 35 [.c (.i i.of),.c (.i (-64)),.c (.i 64)] (.c (.b (decide (-64≤i.of)&&decide (i.of≤64)))))∧(AV.c (.b true)=V))
  (l5:(decide (1≤i.op)&&decide (i.op≤9))=false→(i.op==10||i.op==11)=true→(regB i.d)=true→(regB i.s)=true→(decide (-64≤i.of)&&decide (i.of≤64))=true→(eqb i.im 1#64)=false→(eqb i.im 2#64)=false→(eqb i.im 4#64)=true→(Ok 38 [.c (.i i.op)] (.c (.b (decide (1≤i.op)&&decide (i.op≤9)))))∧(Ok 75 [.c (.i i.op)] (.c (.b (i.op==10||i.op==11))))∧(Ok 122 [.c (.i i.d)] (.c (.b (regB i.d))))∧(Ok 122 [.c (.i i.s)] (.c (.b (regB i.s))))∧(Ok 35 [.c (.i i.of),.c (.i (-64)),.c (.i 64)] (.c (.b (decide (-64≤i.of)&&decide (i.of≤64)))))∧(AV.c (.b true)=V))
  (l6:(decide (1≤i.op)&&decide (i.op≤9))=false→(i.op==10||i.op==11)=true→(regB i.d)=true→(regB i.s)=true→(decide (-64≤i.of)&&decide (i.of≤64))=true→(eqb i.im 1#64)=false→(eqb i.im 2#64)=false→(eqb i.im 4#64)=false→(Ok 38 [.c (.i i.op)] (.c (.b (decide (1≤i.op)&&decide (i.op≤9)))))∧(Ok 75 [.c (.i i.op)] (.c (.b (i.op==10||i.op==11))))∧(Ok 122 [.c (.i i.d)] (.c (.b (regB i.d))))∧(Ok 122 [.c (.i i.s)] (.c (.b (regB i.s))))∧(Ok 35 [.c (.i i.of),.c (.i (-64)),.c (.i 64)] (.c (.b (decide (-64≤i.of)&&decide (i.of≤64)))))∧(AV.c (.b (eqb i.im 8#64))=V))
  (l7:(decide (1≤i.op)&&decide (i.op≤9))=false→(i.op==10||i.op==11)=true→(regB i.d)=true→(regB i.s)=true→(decide (-64≤i.of)&&decide (i.of≤64))=false→(Ok 38 [.c (.i i.op)] (.c (.b (decide (1≤i.op)&&decide (i.op≤9)))))∧(Ok 75 [.c (.i i.op)] (.c (.b (i.op==10||i.op==11))))∧(Ok 122 [.c (.i i.d)] (.c (.b (regB i.d))))∧(Ok 122 [.c (.i i.s)] (.c (.b (regB i.s))))∧(Ok 35 [.c (.i i.of),.c (.i (-64)),.c (.i 64)] (.c (.b (decide (-64≤i.of)&&decide (i.of≤64)))))∧(AV.c (.b false)=V))
  (l8:(decide (1≤i.op)&&decide (i.op≤9))=false→(i.op==10||i.op==11)=true→(regB i.d)=true→(regB i.s)=false→(Ok 38 [.c (.i i.op)] (.c (.b (decide (1≤i.op)&&decide (i.op≤9)))))∧(Ok 75 [.c (.i i.op)] (.c (.b (i.op==10||i.op==11))))∧(Ok 122 [.c (.i i.d)] (.c (.b (regB i.d))))∧(Ok 122 [.c (.i i.s)] (.c (.b (regB i.s))))∧(AV.c (.b false)=V))
  (l9:(decide (1≤i.op)&&decide (i.op≤9))=false→(i.op==10||i.op==11)=true→(regB i.d)=false→(Ok 38 [.c (.i i.op)] (.c (.b (decide (1≤i.op)&&decide (i.op≤9)))))∧(Ok 75 [.c (.i i.op)] (.c (.b (i.op==10||i.op==11))))∧(Ok 122 [.c (.i i.d)] (.c (.b (regB i.d))))∧(AV.c (.b false)=V))
  (l10:(decide (1≤i.op)&&decide (i.op≤9))=false→(i.op==10||i.op==11)=false→(i.op==13||i.op==14)=true→(regB i.d)=true→(regB i.s)=true→(Ok 38 [.c (.i i.op)] (.c (.b (decide (1≤i.op)&&decide (i.op≤9)))))∧(Ok 75 [.c (.i i.op)] (.c (.b (i.op==10||i.op==11))))∧(Ok 34 [.c (.i i.op)] (.c (.b (i.op==13||i.op==14))))∧(Ok 122 [.c (.i i.d)] (.c (.b (regB i.d))))∧(Ok 122 [.c (.i i.s)] (.c (.b (regB i.s))))∧(Ok 35 [.c (.i i.of),.c (.i 0),.c (.i q)] (.c (.b (decide (0≤i.of)&&decide (i.of≤q)))))∧(AV.c (.b (decide (0≤i.of)&&decide (i.of≤q)))=V))
  (l11:(decide (1≤i.op)&&decide (i.op≤9))=false→(i.op==10||i.op==11)=false→(i.op==13||i.op==14)=true→(regB i.d)=true→(regB i.s)=false→(i.s==-1)=true→(Ok 38 [.c (.i i.op)] (.c (.b (decide (1≤i.op)&&decide (i.op≤9)))))∧(Ok 75 [.c (.i i.op)] (.c (.b (i.op==10||i.op==11))))∧(Ok 34 [.c (.i i.op)] (.c (.b (i.op==13||i.op==14))))∧(Ok 122 [.c (.i i.d)] (.c (.b (regB i.d))))∧(Ok 122 [.c (.i i.s)] (.c (.b (regB i.s))))∧(Ok 35 [.c (.i i.of),.c (.i 0),.c (.i q)] (.c (.b (decide (0≤i.of)&&decide (i.of≤q)))))∧(AV.c (.b (decide (0≤i.of)&&decide (i.of≤q)))=V))
  (l12:(decide (1≤i.op)&&decide (i.op≤9))=false→(i.op==10||i.op==11)=false→(i.op==13||i.op==14)=true→(regB i.d)=true→(regB i.s)=false→(i.s==-1)=false→(Ok 38 [.c (.i i.op)] (.c (.b (decide (1≤i.op)&&decide (i.op≤9)))))∧(Ok 75 [.c (.i i.op)] (.c (.b (i.op==10||i.op==11))))∧(Ok 34 [.c (.i i.op)] (.c (.b (i.op==13||i.op==14))))∧(Ok 122 [.c (.i i.d)] (.c (.b (regB i.d))))∧(Ok 122 [.c (.i i.s)] (.c (.b (regB i.s))))∧(AV.c (.b false)=V))
  (l13:(decide (1≤i.op)&&decide (i.op≤9))=false→(i.op==10||i.op==11)=false→(i.op==13||i.op==14)=true→(regB i.d)=false→(Ok 38 [.c (.i i.op)] (.c (.b (decide (1≤i.op)&&decide (i.op≤9)))))∧(Ok 75 [.c (.i i.op)] (.c (.b (i.op==10||i.op==11))))∧(Ok 34 [.c (.i i.op)] (.c (.b (i.op==13||i.op==14))))∧(Ok 122 [.c (.i i.d)] (.c (.b (regB i.d))))∧(AV.c (.b false)=V))
  (l14:(decide (1≤i.op)&&decide (i.op≤9))=false→(i.op==10||i.op==11)=false→(i.op==13||i.op==14)=false→(i.op==12)=true→(Ok 38 [.c (.i i.op)] (.c (.b (decide (1≤i.op)&&decide (i.op≤9)))))∧(Ok 75 [.c (.i i.op)] (.c (.b (i.op==10||i.op==11))))∧(Ok 34 [.c (.i i.op)] (.c (.b (i.op==13||i.op==14))))∧(Ok 35 [.c (.i i.of),.c (.i 0),.c (.i q)] (.c (.b (decide (0≤i.of)&&decide (i.of≤q)))))∧(AV.c (.b (decide (0≤i.of)&&decide (i.of≤q)))=V))
  (l15:(decide (1≤i.op)&&decide (i.op≤9))=false→(i.op==10||i.op==11)=false→(i.op==13||i.op==14)=false→(i.op==12)=false→(Ok 38 [.c (.i i.op)] (.c (.b (decide (1≤i.op)&&decide (i.op≤9)))))∧(Ok 75 [.c (.i i.op)] (.c (.b (i.op==10||i.op==11))))∧(Ok 34 [.c (.i i.op)] (.c (.b (i.op==13||i.op==14))))∧(AV.c (.b true)=V)) :
  Ok 71 [.ag i.cs,.c (.i q)] V :=
 (tf (decide (1≤i.op)&&decide (i.op≤9))).elim (fun h0=>(tf (regB i.d)).elim (fun h1=>(tf (regB i.s)).elim (fun h2=>(match l0 h0 h1 h2 with | ⟨c0,c1,c2,e⟩=>zam (zt9 (zaa h0 (zaa h1 (zaa h2 rfl))) c0 c1 c2) e)) (fun h2=>(match l1 h0 h1 h2 with | ⟨c0,c1,c2,e⟩=>zam (ztx (zaa h0 (zaa h1 (zaa (zad h2) rfl))) c0 c1 c2) e))) (fun h1=>(match l2 h0 h1 with | ⟨c0,c1,e⟩=>zam (ztq (zaa h0 (zaa (zad h1) rfl)) c0 c1) e))) (fun h0=>(tf (i.op==10||i.op==11)).elim (fun h1=>(tf (regB i.d)).elim (fun h2=>(tf (regB i.s)).elim (fun h3=>(tf (decide (-64≤i.of)&&decide (i.of≤64))).elim (fun h4=>(tf (eqb i.im 1#64)).elim (fun h5=>(match l3 h0 h1 h2 h3 h4 h5 with | ⟨c0,c1,c2,c3,c4,e⟩=>zam (zt3 (zaa (zad h0) (zaa h1 (zaa h2 (zaa h3 (zaa h4 (zaa h5 rfl)))))) c0 c1 c2 c3 c4) e)) (fun h5=>(tf (eqb i.im 2#64)).elim (fun h6=>(match l4 h0 h1 h2 h3 h4 h5 h6 with | ⟨c0,c1,c2,c3,c4,e⟩=>zam (zt8 (zaa (zad h0) (zaa h1 (zaa h2 (zaa h3 (zaa h4 (zaa (zad h5) (zaa h6 rfl))))))) c0 c1 c2 c3 c4) e)) (fun h6=>(tf (eqb i.im 4#64)).elim (fun h7=>(match l5 h0 h1 h2 h3 h4 h5 h6 h7 with | ⟨c0,c1,c2,c3,c4,e⟩=>zam (zto (zaa (zad h0) (zaa h1 (zaa h2 (zaa h3 (zaa h4 (zaa (zad h5) (zaa (zad h6) (zaa h7 rfl)))))))) c0 c1 c2 c3 c4) e)) (fun h7=>(match l6 h0 h1 h2 h3 h4 h5 h6 h7 with | ⟨c0,c1,c2,c3,c4,e⟩=>zam (zt2 (zaa (zad h0) (zaa h1 (zaa h2 (zaa h3 (zaa h4 (zaa (zad h5) (zaa (zad h6) (zaa (zad h7) rfl)))))))) c0 c1 c2 c3 c4) e))))) (fun h4=>(match l7 h0 h1 h2 h3 h4 with | ⟨c0,c1,c2,c3,c4,e⟩=>zam (ztd (zaa (zad h0) (zaa h1 (zaa h2 (zaa h3 (zaa (zad h4) rfl))))) c0 c1 c2 c3 c4) e))) (fun h3=>(match l8 h0 h1 h2 h3 with | ⟨c0,c1,c2,c3,e⟩=>zam (ztf (zaa (zad h0) (zaa h1 (zaa h2 (zaa (zad h3) rfl)))) c0 c1 c2 c3) e))) (fun h2=>(match l9 h0 h1 h2 with | ⟨c0,c1,c2,e⟩=>zam (zuc (zaa (zad h0) (zaa h1 (zaa (zad h2) rfl))) c0 c1 c2) e))) (fun h1=>(tf (i.op==13||i.op==14)).elim (fun h2=>(tf (regB i.d)).elim (fun h3=>(tf (regB i.s)).elim (fun h4=>(match l10 h0 h1 h2 h3 h4 with | ⟨c0,c1,c2,c3,c4,c5,e⟩=>zam (zrs (zaa (zad h0) (zaa (zad h1) (zaa h2 (zaa h3 (zaa h4 rfl))))) c0 c1 c2 c3 c4 c5) e)) (fun h4=>(tf (i.s==-1)).elim (fun h5=>(match l11 h0 h1 h2 h3 h4 h5 with | ⟨c0,c1,c2,c3,c4,c5,e⟩=>zam (zsu (zaa (zad h0) (zaa (zad h1) (zaa h2 (zaa h3 (zaa (zad h4) (zaa h5 rfl)))))) c0 c1 c2 c3 c4 c5) e)) (fun h5=>(match l12 h0 h1 h2 h3 h4 h5 with | ⟨c0,c1,c2,c3,c4,e⟩=>zam (zsv (zaa (zad h0) (zaa (zad h1) (zaa h2 (zaa h3 (zaa (zad h4) (zaa (zad h5) rfl)))))) c0 c1 c2 c3 c4) e)))) (fun h3=>(match l13 h0 h1 h2 h3 with | ⟨c0,c1,c2,c3,e⟩=>zam (zso (zaa (zad h0) (zaa (zad h1) (zaa h2 (zaa (zad h3) rfl)))) c0 c1 c2 c3) e))) (fun h2=>(tf (i.op==12)).elim (fun h3=>(match l14 h0 h1 h2 h3 with | ⟨c0,c1,c2,c3,e⟩=>zam (zsy (zaa (zad h0) (zaa (zad h1) (zaa (zad h2) (zaa h3 rfl)))) c0 c1 c2 c3) e)) (fun h3=>(match l15 h0 h1 h2 h3 with | ⟨c0,c1,c2,e⟩=>zam (zrp (zaa (zad h0) (zaa (zad h1) (zaa (zad h2) (zaa (zad h3) rfl)))) c0 c1 c2) e)))))
theorem zu6 (h:(decide (1≤i.op)&&decide (i.op≤9)&&(i.of==0&&(i.s==-1&&true)))=true) (c0:Ok 38 [.c (.i i.op)] (.c (.b (decide (1≤i.op)&&decide (i.op≤9))))) :
  Ok 72 [.ag i.cs] (.c (.b true)) :=
 zaf [true,true,true] [] [] Tryz.func72 rfl rfl rfl rfl (by kernel_rfl) h (zab c0 zae)
theorem zvf (h:(decide (1≤i.op)&&decide (i.op≤9)&&(i.of==0&&(!i.s==-1&&true)))=true) (c0:Ok 38 [.c (.i i.op)] (.c (.b (decide (1≤i.op)&&decide (i.op≤9))))) :
  Ok 72 [.ag i.cs] (.c (.b (eqb i.im 0#64))) :=
 zaf [true,true,false] [] [] Tryz.func72 rfl rfl rfl rfl (by kernel_rfl) h (zab c0 zae)
theorem zu9 (h:(decide (1≤i.op)&&decide (i.op≤9)&&(!i.of==0&&true))=true) (c0:Ok 38 [.c (.i i.op)] (.c (.b (decide (1≤i.op)&&decide (i.op≤9))))) :
  Ok 72 [.ag i.cs] (.c (.b false)) :=
 zaf [true,false] [] [] Tryz.func72 rfl rfl rfl rfl (by kernel_rfl) h (zab c0 zae)
theorem ztc (h:(!(decide (1≤i.op)&&decide (i.op≤9))&&((i.op==13||i.op==14)&&(i.s==-1&&true)))=true) (c0:Ok 38 [.c (.i i.op)] (.c (.b (decide (1≤i.op)&&decide (i.op≤9))))) (c1:Ok 34 [.c (.i i.op)] (.c (.b (i.op==13||i.op==14)))) :
  Ok 72 [.ag i.cs] (.c (.b true)) :=
 zaf [false,true,true] [] [] Tryz.func72 rfl rfl rfl rfl (by kernel_rfl) h (zab c0 (zab c1 zae))
theorem zu8 (h:(!(decide (1≤i.op)&&decide (i.op≤9))&&((i.op==13||i.op==14)&&(!i.s==-1&&true)))=true) (c0:Ok 38 [.c (.i i.op)] (.c (.b (decide (1≤i.op)&&decide (i.op≤9))))) (c1:Ok 34 [.c (.i i.op)] (.c (.b (i.op==13||i.op==14)))) :
  Ok 72 [.ag i.cs] (.c (.b (eqb i.im 0#64))) :=
 zaf [false,true,false] [] [] Tryz.func72 rfl rfl rfl rfl (by kernel_rfl) h (zab c0 (zab c1 zae))
theorem zu5 (h:(!(decide (1≤i.op)&&decide (i.op≤9))&&(!(i.op==13||i.op==14)&&(i.op==12&&(i.d==0&&(i.s==0&&true)))))=true) (c0:Ok 38 [.c (.i i.op)] (.c (.b (decide (1≤i.op)&&decide (i.op≤9))))) (c1:Ok 34 [.c (.i i.op)] (.c (.b (i.op==13||i.op==14)))) :
  Ok 72 [.ag i.cs] (.c (.b (eqb i.im 0#64))) :=
 zaf [false,false,true,true,true] [] [] Tryz.func72 rfl rfl rfl rfl (by kernel_rfl) h (zab c0 (zab c1 zae))
theorem ztb (h:(!(decide (1≤i.op)&&decide (i.op≤9))&&(!(i.op==13||i.op==14)&&(i.op==12&&(i.d==0&&(!i.s==0&&true)))))=true) (c0:Ok 38 [.c (.i i.op)] (.c (.b (decide (1≤i.op)&&decide (i.op≤9))))) (c1:Ok 34 [.c (.i i.op)] (.c (.b (i.op==13||i.op==14)))) :
  Ok 72 [.ag i.cs] (.c (.b false)) :=
 zaf [false,false,true,true,false] [] [] Tryz.func72 rfl rfl rfl rfl (by kernel_rfl) h (zab c0 (zab c1 zae))
theorem ztj (h:(!(decide (1≤i.op)&&decide (i.op≤9))&&(!(i.op==13||i.op==14)&&(i.op==12&&(!i.d==0&&true))))=true) (c0:Ok 38 [.c (.i i.op)] (.c (.b (decide (1≤i.op)&&decide (i.op≤9))))) (c1:Ok 34 [.c (.i i.op)] (.c (.b (i.op==13||i.op==14)))) :
  Ok 72 [.ag i.cs] (.c (.b false)) :=
 zaf [false,false,true,false,false] [] [] Tryz.func72 rfl rfl rfl rfl (by kernel_rfl) h (zab c0 (zab c1 zae))
theorem zvi (h:(!(decide (1≤i.op)&&decide (i.op≤9))&&(!(i.op==13||i.op==14)&&(!i.op==12&&(i.op==15&&true))))=true) (c0:Ok 38 [.c (.i i.op)] (.c (.b (decide (1≤i.op)&&decide (i.op≤9))))) (c1:Ok 34 [.c (.i i.op)] (.c (.b (i.op==13||i.op==14)))) :
  Ok 72 [.ag i.cs] (.c (.b (eqCs i.cs (splice [.i 0,.i 0,.i 0,.u 0#64,.i 0] 0 [.i 15])))) :=
 zaf [false,false,false,true] [] [] Tryz.func72 rfl rfl rfl rfl (by kernel_rfl) h (zab c0 (zab c1 zae))
theorem zvd (h:(!(decide (1≤i.op)&&decide (i.op≤9))&&(!(i.op==13||i.op==14)&&(!i.op==12&&(!i.op==15&&true))))=true) (c0:Ok 38 [.c (.i i.op)] (.c (.b (decide (1≤i.op)&&decide (i.op≤9))))) (c1:Ok 34 [.c (.i i.op)] (.c (.b (i.op==13||i.op==14)))) :
  Ok 72 [.ag i.cs] (.c (.b true)) :=
 zaf [false,false,false,false] [] [] Tryz.func72 rfl rfl rfl rfl (by kernel_rfl) h (zab c0 (zab c1 zae))
theorem zsi
  (l0:(decide (1≤i.op)&&decide (i.op≤9))=true→(i.of==0)=true→(i.s==-1)=true→(Ok 38 [.c (.i i.op)] (.c (.b (decide (1≤i.op)&&decide (i.op≤9)))))∧(AV.c (.b true)=V))
  (l1:(decide (1≤i.op)&&decide (i.op≤9))=true→(i.of==0)=true→(i.s==-1)=false→(Ok 38 [.c (.i i.op)] (.c (.b (decide (1≤i.op)&&decide (i.op≤9)))))∧(AV.c (.b (eqb i.im 0#64))=V))
  (l2:(decide (1≤i.op)&&decide (i.op≤9))=true→(i.of==0)=false→(Ok 38 [.c (.i i.op)] (.c (.b (decide (1≤i.op)&&decide (i.op≤9)))))∧(AV.c (.b false)=V))
  (l3:(decide (1≤i.op)&&decide (i.op≤9))=false→(i.op==13||i.op==14)=true→(i.s==-1)=true→(Ok 38 [.c (.i i.op)] (.c (.b (decide (1≤i.op)&&decide (i.op≤9)))))∧(Ok 34 [.c (.i i.op)] (.c (.b (i.op==13||i.op==14))))∧(AV.c (.b true)=V))
  (l4:(decide (1≤i.op)&&decide (i.op≤9))=false→(i.op==13||i.op==14)=true→(i.s==-1)=false→(Ok 38 [.c (.i i.op)] (.c (.b (decide (1≤i.op)&&decide (i.op≤9)))))∧(Ok 34 [.c (.i i.op)] (.c (.b (i.op==13||i.op==14))))∧(AV.c (.b (eqb i.im 0#64))=V))
  (l5:(decide (1≤i.op)&&decide (i.op≤9))=false→(i.op==13||i.op==14)=false→(i.op==12)=true→(i.d==0)=true→(i.s==0)=true→(Ok 38 [.c (.i i.op)] (.c (.b (decide (1≤i.op)&&decide (i.op≤9)))))∧(Ok 34 [.c (.i i.op)] (.c (.b (i.op==13||i.op==14))))∧(AV.c (.b (eqb i.im 0#64))=V))
  (l6:(decide (1≤i.op)&&decide (i.op≤9))=false→(i.op==13||i.op==14)=false→(i.op==12)=true→(i.d==0)=true→(i.s==0)=false→(Ok 38 [.c (.i i.op)] (.c (.b (decide (1≤i.op)&&decide (i.op≤9)))))∧(Ok 34 [.c (.i i.op)] (.c (.b (i.op==13||i.op==14))))∧(AV.c (.b false)=V))
  (l7:(decide (1≤i.op)&&decide (i.op≤9))=false→(i.op==13||i.op==14)=false→(i.op==12)=true→(i.d==0)=false→(Ok 38 [.c (.i i.op)] (.c (.b (decide (1≤i.op)&&decide (i.op≤9)))))∧(Ok 34 [.c (.i i.op)] (.c (.b (i.op==13||i.op==14))))∧(AV.c (.b false)=V))
  (l8:(decide (1≤i.op)&&decide (i.op≤9))=false→(i.op==13||i.op==14)=false→(i.op==12)=false→(i.op==15)=true→(Ok 38 [.c (.i i.op)] (.c (.b (decide (1≤i.op)&&decide (i.op≤9)))))∧(Ok 34 [.c (.i i.op)] (.c (.b (i.op==13||i.op==14))))∧(AV.c (.b (eqCs i.cs (splice [.i 0,.i 0,.i 0,.u 0#64,.i 0] 0 [.i 15])))=V))
  (l9:(decide (1≤i.op)&&decide (i.op≤9))=false→(i.op==13||i.op==14)=false→(i.op==12)=false→(i.op==15)=false→(Ok 38 [.c (.i i.op)] (.c (.b (decide (1≤i.op)&&decide (i.op≤9)))))∧(Ok 34 [.c (.i i.op)] (.c (.b (i.op==13||i.op==14))))∧(AV.c (.b true)=V)) :
  Ok 72 [.ag i.cs] V :=
 (tf (decide (1≤i.op)&&decide (i.op≤9))).elim (fun h0=>(tf (i.of==0)).elim (fun h1=>(tf (i.s==-1)).elim (fun h2=>(match l0 h0 h1 h2 with | ⟨c0,e⟩=>zam (zu6 (zaa h0 (zaa h1 (zaa h2 rfl))) c0) e)) (fun h2=>(match l1 h0 h1 h2 with | ⟨c0,e⟩=>zam (zvf (zaa h0 (zaa h1 (zaa (zad h2) rfl))) c0) e))) (fun h1=>(match l2 h0 h1 with | ⟨c0,e⟩=>zam (zu9 (zaa h0 (zaa (zad h1) rfl)) c0) e))) (fun h0=>(tf (i.op==13||i.op==14)).elim (fun h1=>(tf (i.s==-1)).elim (fun h2=>(match l3 h0 h1 h2 with | ⟨c0,c1,e⟩=>zam (ztc (zaa (zad h0) (zaa h1 (zaa h2 rfl))) c0 c1) e)) (fun h2=>(match l4 h0 h1 h2 with | ⟨c0,c1,e⟩=>zam (zu8 (zaa (zad h0) (zaa h1 (zaa (zad h2) rfl))) c0 c1) e))) (fun h1=>(tf (i.op==12)).elim (fun h2=>(tf (i.d==0)).elim (fun h3=>(tf (i.s==0)).elim (fun h4=>(match l5 h0 h1 h2 h3 h4 with | ⟨c0,c1,e⟩=>zam (zu5 (zaa (zad h0) (zaa (zad h1) (zaa h2 (zaa h3 (zaa h4 rfl))))) c0 c1) e)) (fun h4=>(match l6 h0 h1 h2 h3 h4 with | ⟨c0,c1,e⟩=>zam (ztb (zaa (zad h0) (zaa (zad h1) (zaa h2 (zaa h3 (zaa (zad h4) rfl))))) c0 c1) e))) (fun h3=>(match l7 h0 h1 h2 h3 with | ⟨c0,c1,e⟩=>zam (ztj (zaa (zad h0) (zaa (zad h1) (zaa h2 (zaa (zad h3) rfl)))) c0 c1) e))) (fun h2=>(tf (i.op==15)).elim (fun h3=>(match l8 h0 h1 h2 h3 with | ⟨c0,c1,e⟩=>zam (zvi (zaa (zad h0) (zaa (zad h1) (zaa (zad h2) (zaa h3 rfl)))) c0 c1) e)) (fun h3=>(match l9 h0 h1 h2 h3 with | ⟨c0,c1,e⟩=>zam (zvd (zaa (zad h0) (zaa (zad h1) (zaa (zad h2) (zaa (zad h3) rfl)))) c0 c1) e)))))
theorem yan2 (h:(!(decide (1≤(L.length:Int))&&decide ((L.length:Int)≤64))&&true)=true) (c0:Ok 35 [.c (.i (L.length:Int)),.c (.i 1),.c (.i 64)] (.c (.b (decide (1≤(L.length:Int))&&decide ((L.length:Int)≤64))))) :
  BO 29 Tryz.f29 (cx w β n []) [.c (.sl 0 0 L.length c)] [(0,Ent.mk false (pcell L) 0)] 1 (REff w β ⟨.c (.i 2),[],none⟩) :=
 zah [] none [true] [true] [] Tryz.func29 (zav rfl n) (by kernel_rfl) h (zab c0 zae)
theorem yanj (h:(!!(decide (1≤(L.length:Int))&&decide ((L.length:Int)≤64))&&true)=true) (c0:Ok 35 [.c (.i (L.length:Int)),.c (.i 1),.c (.i 64)] (.c (.b (decide (1≤(L.length:Int))&&decide ((L.length:Int)≤64))))) (lo:Kn.Low ⟨[(0,.c (.sl 0 0 L.length c)),(3,.c (.i 0))],[(0,Ent.mk false (pcell L) 0)],1⟩) (hF:∀ k,C.F k→k<1) (z:AR 29 Tryz.f29 C 0 ⟨[(0,.c (.sl 0 0 L.length c)),(3,.c (.i 0))],[(0,Ent.mk false (pcell L) 0)],1⟩ R) :
  BO 29 Tryz.f29 C [.c (.sl 0 0 L.length c)] [(0,Ent.mk false (pcell L) 0)] 1 R :=
 zai [false] [true] [] Tryz.func29 (by kernel_rfl) h (zab c0 zae) lo hF z
theorem yal1 (hn:n≤1)
  (l0:(!(decide (1≤(L.length:Int))&&decide ((L.length:Int)≤64)))=true→(Ok 35 [.c (.i (L.length:Int)),.c (.i 1),.c (.i 64)] (.c (.b (decide (1≤(L.length:Int))&&decide ((L.length:Int)≤64)))))∧((⟨.c (.i 2),[],none⟩:Eff)=E))
  (l1:(!(decide (1≤(L.length:Int))&&decide ((L.length:Int)≤64)))=false→(Ok 35 [.c (.i (L.length:Int)),.c (.i 1),.c (.i 64)] (.c (.b (decide (1≤(L.length:Int))&&decide ((L.length:Int)≤64)))))∧Kn.Low ⟨[(0,.c (.sl 0 0 L.length c)),(3,.c (.i 0))],[(0,Ent.mk false (pcell L) 0)],1⟩∧AR 29 Tryz.f29 (cx w β n []) 0 ⟨[(0,.c (.sl 0 0 L.length c)),(3,.c (.i 0))],[(0,Ent.mk false (pcell L) 0)],1⟩ (REff w β E)) :
  BO 29 Tryz.f29 (cx w β n []) [.c (.sl 0 0 L.length c)] [(0,Ent.mk false (pcell L) 0)] 1 (REff w β E) :=
 (tf (!(decide (1≤(L.length:Int))&&decide ((L.length:Int)≤64)))).elim (fun h0=>(match l0 h0 with | ⟨c0,e⟩=>za6 (yan2 (zaa h0 rfl) c0) e)) (fun h0=>(match l1 h0 with | ⟨c0,lo,z⟩=>yanj (zaa (zad h0) rfl) c0 lo (fun _ hk=>Nat.lt_of_lt_of_le hk hn) z))
theorem yaym {j:Nat} (h:(decide ((j:Int)<(L.length:Int))&&(decide ((j:Int)<(L.length:Int))&&(AC.isI ((pcell L)[0+(j:Int).toNat*5+0]?.getD (.b false))&&Nat.blt (0+(j:Int).toNat*5+0) (pcell L).length&&(!(decide (1≤(elt L j).op)&&decide ((elt L j).op≤15))&&true))))=true) (c0:pe (.c (.i (AC.asI ((pcell L)[0+(j:Int).toNat*5+0]?.getD (.b false)))))=pe (.c (.i (elt L j).op))) (c1:Ok 35 [.c (.i (elt L j).op),.c (.i 1),.c (.i 15)] (.c (.b (decide (1≤(elt L j).op)&&decide ((elt L j).op≤15))))) :
  AR 29 Tryz.f29 (cx w β n []) 0 (rcAK L c j) (REff w β ⟨.c (.i 4),[],none⟩) :=
 zah [] none [true,true] [true] [(6,4)] Tryz.func29 (zav rfl n) (by kernel_rfl) h (zac c0 (zab c1 zae))
theorem yayu {j:Nat} (h:(decide ((j:Int)<(L.length:Int))&&(decide ((j:Int)<(L.length:Int))&&(AC.isI ((pcell L)[0+(j:Int).toNat*5+0]?.getD (.b false))&&Nat.blt (0+(j:Int).toNat*5+0) (pcell L).length&&(!!(decide (1≤(elt L j).op)&&decide ((elt L j).op≤15))&&true))))=true) (c0:pe (.c (.i (AC.asI ((pcell L)[0+(j:Int).toNat*5+0]?.getD (.b false)))))=pe (.c (.i (elt L j).op))) (c1:Ok 35 [.c (.i (elt L j).op),.c (.i 1),.c (.i 15)] (.c (.b (decide (1≤(elt L j).op)&&decide ((elt L j).op≤15))))) (lo:Kn.Low ⟨[(0,.c (.sl 0 0 L.length c)),(3,.c (.i (IntKind.i64.wrap ((j:Int)+1))))],[(0,Ent.mk false (pcell L) 0)],1⟩) (hF:∀ k,C.F k→k<1) (z:AR 29 Tryz.f29 C 0 ⟨[(0,.c (.sl 0 0 L.length c)),(3,.c (.i (IntKind.i64.wrap ((j:Int)+1))))],[(0,Ent.mk false (pcell L) 0)],1⟩ R) :
  AR 29 Tryz.f29 C 0 (rcAK L c j) R :=
 zai [true,false] [true] [(6,4)] Tryz.func29 (by kernel_rfl) h (zac c0 (zab c1 zae)) lo hF z
theorem yaue {j:Nat} (hn:n≤1)
  (l0:(!(decide (1≤(elt L j).op)&&decide ((elt L j).op≤15)))=true→(decide ((j:Int)<(L.length:Int)))=true∧(decide ((j:Int)<(L.length:Int)))=true∧(AC.isI ((pcell L)[0+(j:Int).toNat*5+0]?.getD (.b false))&&Nat.blt (0+(j:Int).toNat*5+0) (pcell L).length)=true∧(pe (.c (.i (AC.asI ((pcell L)[0+(j:Int).toNat*5+0]?.getD (.b false)))))=pe (.c (.i (elt L j).op)))∧(Ok 35 [.c (.i (elt L j).op),.c (.i 1),.c (.i 15)] (.c (.b (decide (1≤(elt L j).op)&&decide ((elt L j).op≤15)))))∧((⟨.c (.i 4),[],none⟩:Eff)=E))
  (l1:(!(decide (1≤(elt L j).op)&&decide ((elt L j).op≤15)))=false→(decide ((j:Int)<(L.length:Int)))=true∧(decide ((j:Int)<(L.length:Int)))=true∧(AC.isI ((pcell L)[0+(j:Int).toNat*5+0]?.getD (.b false))&&Nat.blt (0+(j:Int).toNat*5+0) (pcell L).length)=true∧(pe (.c (.i (AC.asI ((pcell L)[0+(j:Int).toNat*5+0]?.getD (.b false)))))=pe (.c (.i (elt L j).op)))∧(Ok 35 [.c (.i (elt L j).op),.c (.i 1),.c (.i 15)] (.c (.b (decide (1≤(elt L j).op)&&decide ((elt L j).op≤15)))))∧Kn.Low ⟨[(0,.c (.sl 0 0 L.length c)),(3,.c (.i (IntKind.i64.wrap ((j:Int)+1))))],[(0,Ent.mk false (pcell L) 0)],1⟩∧AR 29 Tryz.f29 (cx w β n []) 0 ⟨[(0,.c (.sl 0 0 L.length c)),(3,.c (.i (IntKind.i64.wrap ((j:Int)+1))))],[(0,Ent.mk false (pcell L) 0)],1⟩ (REff w β E)) :
  AR 29 Tryz.f29 (cx w β n []) 0 (rcAK L c j) (REff w β E) :=
 (tf (!(decide (1≤(elt L j).op)&&decide ((elt L j).op≤15)))).elim (fun h0=>(match l0 h0 with | ⟨o0,o1,o2,c0,c1,e⟩=>za6 (yaym (zaa o0 (zaa o1 (zaa o2 (zaa h0 rfl)))) c0 c1) e)) (fun h0=>(match l1 h0 with | ⟨o0,o1,o2,c0,c1,lo,z⟩=>yayu (zaa o0 (zaa o1 (zaa o2 (zaa (zad h0) rfl)))) c0 c1 lo (fun _ hk=>Nat.lt_of_lt_of_le hk hn) z))
theorem yar9 {j:Nat} (h:(!decide ((j:Int)<(L.length:Int))&&true)=true) (lo:Kn.Low ⟨[(0,.c (.sl 0 0 L.length c)),(4,.c (.i 0))],[(0,Ent.mk false (pcell L) 0)],1⟩) (hF:∀ k,C.F k→k<1) (z:AR 29 Tryz.f29 C 1 ⟨[(0,.c (.sl 0 0 L.length c)),(4,.c (.i 0))],[(0,Ent.mk false (pcell L) 0)],1⟩ R) :
  AR 29 Tryz.f29 C 0 (rcAK L c j) R :=
 zai [false] [true] [] Tryz.func29 (by kernel_rfl) h zae lo hF z
theorem yayj {j:Nat} (h:(decide ((j:Int)<(L.length:Int))&&(decide ((j:Int)<(L.length:Int))&&(Nat.ble (0+(j:Int).toNat*5+5) (pcell L).length&&(!inB (elt L j) (↑(L.length - 1 - j):Int)&&true))))=true) (c0:pe (.ag (((pcell L).drop (0+(j:Int).toNat*5)).take 5))=pe (.ag (elt L j).cs)) (c1:pe (.c (.i (IntKind.i64.wrap (IntKind.i64.wrap ((L.length:Int) - 2) - (j:Int)))))=pe (.c (.i ((↑(L.length - 1 - j):Int) - 1)))) (c2:pe (.c (.b (inB (elt L j) ((↑(L.length - 1 - j):Int) - 1+1))))=pe (.c (.b (inB (elt L j) (↑(L.length - 1 - j):Int))))) (c3:Ok 71 [.ag (elt L j).cs,.c (.i ((↑(L.length - 1 - j):Int) - 1))] (.c (.b (inB (elt L j) ((↑(L.length - 1 - j):Int) - 1+1))))) :
  AR 29 Tryz.f29 (cx w β n []) 1 (rcBK L c j) (REff w β ⟨.c (.i 3),[],none⟩) :=
 zws [] none 2000 [pe (.ag (elt L j).cs),pe (.c (.i ((↑(L.length - 1 - j):Int) - 1))),pe (.c (.b (inB (elt L j) ((↑(L.length - 1 - j):Int) - 1+1)))),pe (.c (.b (inB (elt L j) (↑(L.length - 1 - j):Int))))] [true,true] [true] [(11,3),(11,8),(11,9)] Tryz.func29 (zav rfl n) (by kernel_rfl) h (zac c0 (zac c1 (zac c2 (zab c3 zae))))
theorem yazq {j:Nat} (h:(decide ((j:Int)<(L.length:Int))&&(decide ((j:Int)<(L.length:Int))&&(Nat.ble (0+(j:Int).toNat*5+5) (pcell L).length&&(!!inB (elt L j) (↑(L.length - 1 - j):Int)&&true))))=true) (c0:pe (.ag (((pcell L).drop (0+(j:Int).toNat*5)).take 5))=pe (.ag (elt L j).cs)) (c1:pe (.c (.i (IntKind.i64.wrap (IntKind.i64.wrap ((L.length:Int) - 2) - (j:Int)))))=pe (.c (.i ((↑(L.length - 1 - j):Int) - 1)))) (c2:pe (.c (.b (inB (elt L j) ((↑(L.length - 1 - j):Int) - 1+1))))=pe (.c (.b (inB (elt L j) (↑(L.length - 1 - j):Int))))) (c3:Ok 71 [.ag (elt L j).cs,.c (.i ((↑(L.length - 1 - j):Int) - 1))] (.c (.b (inB (elt L j) ((↑(L.length - 1 - j):Int) - 1+1))))) (lo:Kn.Low ⟨[(0,.c (.sl 0 0 L.length c)),(4,.c (.i (IntKind.i64.wrap ((j:Int)+1))))],[(0,Ent.mk false (pcell L) 0)],1⟩) (hF:∀ k,C.F k→k<1) (z:AR 29 Tryz.f29 C 1 ⟨[(0,.c (.sl 0 0 L.length c)),(4,.c (.i (IntKind.i64.wrap ((j:Int)+1))))],[(0,Ent.mk false (pcell L) 0)],1⟩ R) :
  AR 29 Tryz.f29 C 1 (rcBK L c j) R :=
 yahj ⟨[(0,.c (.sl 0 0 L.length c)),(4,.c (.i (IntKind.i64.wrap ((j:Int)+1))))],[(0,Ent.mk false (pcell L) 0)],1⟩ 2000 [pe (.ag (elt L j).cs),pe (.c (.i ((↑(L.length - 1 - j):Int) - 1))),pe (.c (.b (inB (elt L j) ((↑(L.length - 1 - j):Int) - 1+1)))),pe (.c (.b (inB (elt L j) (↑(L.length - 1 - j):Int))))] [true,false] [true] [(11,3),(11,8),(11,9)] Tryz.func29 (by kernel_rfl) h (zac c0 (zac c1 (zac c2 (zab c3 zae)))) lo hF z
theorem yasj {j:Nat} (hn:n≤1)
  (l0:(!inB (elt L j) (↑(L.length - 1 - j):Int))=true→(decide ((j:Int)<(L.length:Int)))=true∧(decide ((j:Int)<(L.length:Int)))=true∧(Nat.ble (0+(j:Int).toNat*5+5) (pcell L).length)=true∧(pe (.ag (((pcell L).drop (0+(j:Int).toNat*5)).take 5))=pe (.ag (elt L j).cs))∧(pe (.c (.i (IntKind.i64.wrap (IntKind.i64.wrap ((L.length:Int) - 2) - (j:Int)))))=pe (.c (.i ((↑(L.length - 1 - j):Int) - 1))))∧(pe (.c (.b (inB (elt L j) ((↑(L.length - 1 - j):Int) - 1+1))))=pe (.c (.b (inB (elt L j) (↑(L.length - 1 - j):Int)))))∧(Ok 71 [.ag (elt L j).cs,.c (.i ((↑(L.length - 1 - j):Int) - 1))] (.c (.b (inB (elt L j) ((↑(L.length - 1 - j):Int) - 1+1)))))∧((⟨.c (.i 3),[],none⟩:Eff)=E))
  (l1:(!inB (elt L j) (↑(L.length - 1 - j):Int))=false→(decide ((j:Int)<(L.length:Int)))=true∧(decide ((j:Int)<(L.length:Int)))=true∧(Nat.ble (0+(j:Int).toNat*5+5) (pcell L).length)=true∧(pe (.ag (((pcell L).drop (0+(j:Int).toNat*5)).take 5))=pe (.ag (elt L j).cs))∧(pe (.c (.i (IntKind.i64.wrap (IntKind.i64.wrap ((L.length:Int) - 2) - (j:Int)))))=pe (.c (.i ((↑(L.length - 1 - j):Int) - 1))))∧(pe (.c (.b (inB (elt L j) ((↑(L.length - 1 - j):Int) - 1+1))))=pe (.c (.b (inB (elt L j) (↑(L.length - 1 - j):Int)))))∧(Ok 71 [.ag (elt L j).cs,.c (.i ((↑(L.length - 1 - j):Int) - 1))] (.c (.b (inB (elt L j) ((↑(L.length - 1 - j):Int) - 1+1)))))∧Kn.Low ⟨[(0,.c (.sl 0 0 L.length c)),(4,.c (.i (IntKind.i64.wrap ((j:Int)+1))))],[(0,Ent.mk false (pcell L) 0)],1⟩∧AR 29 Tryz.f29 (cx w β n []) 1 ⟨[(0,.c (.sl 0 0 L.length c)),(4,.c (.i (IntKind.i64.wrap ((j:Int)+1))))],[(0,Ent.mk false (pcell L) 0)],1⟩ (REff w β E)) :
  AR 29 Tryz.f29 (cx w β n []) 1 (rcBK L c j) (REff w β E) :=
 (tf (!inB (elt L j) (↑(L.length - 1 - j):Int))).elim (fun h0=>(match l0 h0 with | ⟨o0,o1,o2,c0,c1,c2,c3,e⟩=>za6 (yayj (zaa o0 (zaa o1 (zaa o2 (zaa h0 rfl)))) c0 c1 c2 c3) e)) (fun h0=>(match l1 h0 with | ⟨o0,o1,o2,c0,c1,c2,c3,lo,z⟩=>yazq (zaa o0 (zaa o1 (zaa o2 (zaa (zad h0) rfl)))) c0 c1 c2 c3 lo (fun _ hk=>Nat.lt_of_lt_of_le hk hn) z))
theorem yast {j:Nat} (h:(!decide ((j:Int)<(L.length:Int))&&true)=true) (lo:Kn.Low ⟨[(0,.c (.sl 0 0 L.length c)),(5,.c (.i 0))],[(0,Ent.mk false (pcell L) 0)],1⟩) (hF:∀ k,C.F k→k<1) (z:AR 29 Tryz.f29 C 2 ⟨[(0,.c (.sl 0 0 L.length c)),(5,.c (.i 0))],[(0,Ent.mk false (pcell L) 0)],1⟩ R) :
  AR 29 Tryz.f29 C 1 (rcBK L c j) R :=
 zai [false] [true] [] Tryz.func29 (by kernel_rfl) h zae lo hF z
theorem yazl {j:Nat} (h:(decide ((j:Int)<(L.length:Int))&&(decide ((j:Int)<(L.length:Int))&&(Nat.ble (0+(j:Int).toNat*5+5) (pcell L).length&&(!bareB (elt L j)&&true))))=true) (c0:pe (.ag (((pcell L).drop (0+(j:Int).toNat*5)).take 5))=pe (.ag (elt L j).cs)) (c1:Ok 72 [.ag (elt L j).cs] (.c (.b (zbm (elt L j))))) :
  AR 29 Tryz.f29 (cx w β n []) 2 (rcCK L c j) (REff w β ⟨.c (.i 1),[],none⟩) :=
 zah [] none [true,true] [true] [(16,3)] Tryz.func29 (zav rfl n) (by kernel_rfl) h (zac c0 (zab c1 zae))
theorem yaxo {j:Nat} (h:(decide ((j:Int)<(L.length:Int))&&(decide ((j:Int)<(L.length:Int))&&(Nat.ble (0+(j:Int).toNat*5+5) (pcell L).length&&(!!bareB (elt L j)&&true))))=true) (c0:pe (.ag (((pcell L).drop (0+(j:Int).toNat*5)).take 5))=pe (.ag (elt L j).cs)) (c1:Ok 72 [.ag (elt L j).cs] (.c (.b (zbm (elt L j))))) (lo:Kn.Low ⟨[(0,.c (.sl 0 0 L.length c)),(5,.c (.i (IntKind.i64.wrap ((j:Int)+1))))],[(0,Ent.mk false (pcell L) 0)],1⟩) (hF:∀ k,C.F k→k<1) (z:AR 29 Tryz.f29 C 2 ⟨[(0,.c (.sl 0 0 L.length c)),(5,.c (.i (IntKind.i64.wrap ((j:Int)+1))))],[(0,Ent.mk false (pcell L) 0)],1⟩ R) :
  AR 29 Tryz.f29 C 2 (rcCK L c j) R :=
 zai [true,false] [true] [(16,3)] Tryz.func29 (by kernel_rfl) h (zac c0 (zab c1 zae)) lo hF z
theorem yauc {j:Nat} (hn:n≤1)
  (l0:(!bareB (elt L j))=true→(decide ((j:Int)<(L.length:Int)))=true∧(decide ((j:Int)<(L.length:Int)))=true∧(Nat.ble (0+(j:Int).toNat*5+5) (pcell L).length)=true∧(pe (.ag (((pcell L).drop (0+(j:Int).toNat*5)).take 5))=pe (.ag (elt L j).cs))∧(Ok 72 [.ag (elt L j).cs] (.c (.b (zbm (elt L j)))))∧((⟨.c (.i 1),[],none⟩:Eff)=E))
  (l1:(!bareB (elt L j))=false→(decide ((j:Int)<(L.length:Int)))=true∧(decide ((j:Int)<(L.length:Int)))=true∧(Nat.ble (0+(j:Int).toNat*5+5) (pcell L).length)=true∧(pe (.ag (((pcell L).drop (0+(j:Int).toNat*5)).take 5))=pe (.ag (elt L j).cs))∧(Ok 72 [.ag (elt L j).cs] (.c (.b (zbm (elt L j)))))∧Kn.Low ⟨[(0,.c (.sl 0 0 L.length c)),(5,.c (.i (IntKind.i64.wrap ((j:Int)+1))))],[(0,Ent.mk false (pcell L) 0)],1⟩∧AR 29 Tryz.f29 (cx w β n []) 2 ⟨[(0,.c (.sl 0 0 L.length c)),(5,.c (.i (IntKind.i64.wrap ((j:Int)+1))))],[(0,Ent.mk false (pcell L) 0)],1⟩ (REff w β E)) :
  AR 29 Tryz.f29 (cx w β n []) 2 (rcCK L c j) (REff w β E) :=
 (tf (!bareB (elt L j))).elim (fun h0=>(match l0 h0 with | ⟨o0,o1,o2,c0,c1,e⟩=>za6 (yazl (zaa o0 (zaa o1 (zaa o2 (zaa h0 rfl)))) c0 c1) e)) (fun h0=>(match l1 h0 with | ⟨o0,o1,o2,c0,c1,lo,z⟩=>yaxo (zaa o0 (zaa o1 (zaa o2 (zaa (zad h0) rfl)))) c0 c1 lo (fun _ hk=>Nat.lt_of_lt_of_le hk hn) z))
theorem yatu {j:Nat} (h:(!decide ((j:Int)<(L.length:Int))&&(decide (0≤IntKind.i64.wrap ((L.length:Int) - 1))&&decide (IntKind.i64.wrap ((L.length:Int) - 1)<(L.length:Int))&&(AC.isI ((pcell L)[0+(IntKind.i64.wrap ((L.length:Int) - 1)).toNat*5+0]?.getD (.b false))&&Nat.blt (0+(IntKind.i64.wrap ((L.length:Int) - 1)).toNat*5+0) (pcell L).length&&(zb9 L != 15&&true))))=true) (c0:pe (.c (.i (AC.asI ((pcell L)[0+(IntKind.i64.wrap ((L.length:Int) - 1)).toNat*5+0]?.getD (.b false)))))=pe (.c (.i (zb9 L)))) :
  AR 29 Tryz.f29 (cx w β n []) 2 (rcCK L c j) (REff w β ⟨.c (.i 1),[],none⟩) :=
 zah [] none [false,true] [true] [(18,6)] Tryz.func29 (zav rfl n) (by kernel_rfl) h (zac c0 zae)
theorem yauv {j:Nat} (h:(!decide ((j:Int)<(L.length:Int))&&(decide (0≤IntKind.i64.wrap ((L.length:Int) - 1))&&decide (IntKind.i64.wrap ((L.length:Int) - 1)<(L.length:Int))&&(AC.isI ((pcell L)[0+(IntKind.i64.wrap ((L.length:Int) - 1)).toNat*5+0]?.getD (.b false))&&Nat.blt (0+(IntKind.i64.wrap ((L.length:Int) - 1)).toNat*5+0) (pcell L).length&&(!lastOp L != 15&&true))))=true) (c0:pe (.c (.i (AC.asI ((pcell L)[0+(IntKind.i64.wrap ((L.length:Int) - 1)).toNat*5+0]?.getD (.b false)))))=pe (.c (.i (zb9 L)))) :
  AR 29 Tryz.f29 (cx w β n []) 2 (rcCK L c j) (REff w β ⟨.c (.i 0),[],none⟩) :=
 zah [] none [false,false] [true] [(18,6)] Tryz.func29 (zav rfl n) (by kernel_rfl) h (zac c0 zae)
theorem yao1 {j:Nat}
  (l0:(zb9 L != 15)=true→(!decide ((j:Int)<(L.length:Int)))=true∧(decide (0≤IntKind.i64.wrap ((L.length:Int) - 1))&&decide (IntKind.i64.wrap ((L.length:Int) - 1)<(L.length:Int)))=true∧(AC.isI ((pcell L)[0+(IntKind.i64.wrap ((L.length:Int) - 1)).toNat*5+0]?.getD (.b false))&&Nat.blt (0+(IntKind.i64.wrap ((L.length:Int) - 1)).toNat*5+0) (pcell L).length)=true∧(pe (.c (.i (AC.asI ((pcell L)[0+(IntKind.i64.wrap ((L.length:Int) - 1)).toNat*5+0]?.getD (.b false)))))=pe (.c (.i (zb9 L))))∧((⟨.c (.i 1),[],none⟩:Eff)=E))
  (l1:(zb9 L != 15)=false→(!decide ((j:Int)<(L.length:Int)))=true∧(decide (0≤IntKind.i64.wrap ((L.length:Int) - 1))&&decide (IntKind.i64.wrap ((L.length:Int) - 1)<(L.length:Int)))=true∧(AC.isI ((pcell L)[0+(IntKind.i64.wrap ((L.length:Int) - 1)).toNat*5+0]?.getD (.b false))&&Nat.blt (0+(IntKind.i64.wrap ((L.length:Int) - 1)).toNat*5+0) (pcell L).length)=true∧(pe (.c (.i (AC.asI ((pcell L)[0+(IntKind.i64.wrap ((L.length:Int) - 1)).toNat*5+0]?.getD (.b false)))))=pe (.c (.i (zb9 L))))∧((⟨.c (.i 0),[],none⟩:Eff)=E)) :
  AR 29 Tryz.f29 (cx w β n []) 2 (rcCK L c j) (REff w β E) :=
 (tf (zb9 L != 15)).elim (fun h0=>(match l0 h0 with | ⟨o0,o1,o2,c0,e⟩=>za6 (yatu (zaa o0 (zaa o1 (zaa o2 (zaa h0 rfl)))) c0) e)) (fun h0=>(match l1 h0 with | ⟨o0,o1,o2,c0,e⟩=>za6 (yauv (zaa o0 (zaa o1 (zaa o2 (zaa (zad h0) rfl)))) c0) e))
theorem yamo (c0:Ok 35 [.c (.i 0),.c (.i 1),.c (.i 64)] (.c (.b false))) :
  Ok 29 [.c zcu] (.c (.i 2)) :=
 zaf [true] [] [] Tryz.func29 rfl rfl rfl rfl (by kernel_rfl) rfl (zab c0 zae)
theorem ztl (h:(decide (op<12)&&(op != 1&&(op != 10&&(decide (op<12)&&(s != -1&&(!op==15&&true))))))=true) (hk:EKeys n [] (some 44) ⟨.c (.sx 44 2),[],some (44,Ent.mk true [.i d,.i s] 1)⟩) :
  BO 37 Tryz.f37 (cx w β n []) [.ag (Ins.mk op d s im of).cs] [] 0 (REff w β ⟨.c (.sx 44 2),[],some (44,Ent.mk true [.i d,.i s] 1)⟩) :=
 zah [] (some 44) [true,true,true,true,true,true,true,false] [] [] Tryz.func37 hk (by kernel_rfl) h zae
theorem yahy (h:(decide (op<12)&&(op != 1&&(op != 10&&(decide (op<12)&&(!s != -1&&(!op==15&&true))))))=true) (hk:EKeys n [] (some 25) ⟨.c (.sx 25 1),[],some (25,Ent.mk true [.i d] 1)⟩) :
  BO 37 Tryz.f37 (cx w β n []) [.ag (Ins.mk op d s im of).cs] [] 0 (REff w β ⟨.c (.sx 25 1),[],some (25,Ent.mk true [.i d] 1)⟩) :=
 zah [] (some 25) [true,true,true,true,true,true,false,false] [] [] Tryz.func37 hk (by kernel_rfl) h zae
theorem zx2 (h:(s != -1&&true)=true) (c0:Ok 34 [.c (.i 13)] (.c (.b true))) (c1:Ok 34 [.c (.i 13)] (.c (.b true))) (hk:EKeys n [] (some 44) ⟨.c (.sx 44 2),[],some (44,Ent.mk true [.i d,.i s] 1)⟩) :
  BO 37 Tryz.f37 (cx w β n []) [.ag (Ins.mk 13 d s im of).cs] [] 0 (REff w β ⟨.c (.sx 44 2),[],some (44,Ent.mk true [.i d,.i s] 1)⟩) :=
 zah [] (some 44) [false,false,false,true,false,true,true,false] [] [] Tryz.func37 hk (by kernel_rfl) h (zab c0 (zab c1 zae))
theorem zzl (h:(!s != -1&&true)=true) (c0:Ok 34 [.c (.i 13)] (.c (.b true))) (c1:Ok 34 [.c (.i 13)] (.c (.b true))) (hk:EKeys n [] (some 25) ⟨.c (.sx 25 1),[],some (25,Ent.mk true [.i d] 1)⟩) :
  BO 37 Tryz.f37 (cx w β n []) [.ag (Ins.mk 13 d s im of).cs] [] 0 (REff w β ⟨.c (.sx 25 1),[],some (25,Ent.mk true [.i d] 1)⟩) :=
 zah [] (some 25) [false,false,false,true,false,true,false,false] [] [] Tryz.func37 hk (by kernel_rfl) h (zab c0 (zab c1 zae))
theorem zzd (h:(s != -1&&true)=true) (c0:Ok 34 [.c (.i 14)] (.c (.b true))) (c1:Ok 34 [.c (.i 14)] (.c (.b true))) (hk:EKeys n [] (some 44) ⟨.c (.sx 44 2),[],some (44,Ent.mk true [.i d,.i s] 1)⟩) :
  BO 37 Tryz.f37 (cx w β n []) [.ag (Ins.mk 14 d s im of).cs] [] 0 (REff w β ⟨.c (.sx 44 2),[],some (44,Ent.mk true [.i d,.i s] 1)⟩) :=
 zah [] (some 44) [false,false,false,true,false,true,true,false] [] [] Tryz.func37 hk (by kernel_rfl) h (zab c0 (zab c1 zae))
theorem zw2 (h:(!s != -1&&true)=true) (c0:Ok 34 [.c (.i 14)] (.c (.b true))) (c1:Ok 34 [.c (.i 14)] (.c (.b true))) (hk:EKeys n [] (some 25) ⟨.c (.sx 25 1),[],some (25,Ent.mk true [.i d] 1)⟩) :
  BO 37 Tryz.f37 (cx w β n []) [.ag (Ins.mk 14 d s im of).cs] [] 0 (REff w β ⟨.c (.sx 25 1),[],some (25,Ent.mk true [.i d] 1)⟩) :=
 zah [] (some 25) [false,false,false,true,false,true,false,false] [] [] Tryz.func37 hk (by kernel_rfl) h (zab c0 (zab c1 zae))
theorem yad8 (h:(s != -1&&true)=true) (c0:Ok 34 [.c (.i 1)] (.c (.b false))) (hk:EKeys n [] (some 38) ⟨.c (.sx 38 1),[],some (38,Ent.mk true [.i s] 1)⟩) :
  BO 37 Tryz.f37 (cx w β n []) [.ag (Ins.mk 1 d s im of).cs] [] 0 (REff w β ⟨.c (.sx 38 1),[],some (38,Ent.mk true [.i s] 1)⟩) :=
 zah [] (some 38) [true,false,false,false,true,true,true,false] [] [] Tryz.func37 hk (by kernel_rfl) h (zab c0 zae)
theorem yafw (h:(!s != -1&&true)=true) (c0:Ok 34 [.c (.i 1)] (.c (.b false))) :
  Ok 37 [.ag (Ins.mk 1 d s im of).cs] (.c zcu) :=
 zaf [true,false,false,false,true,true,false,false] [] [] Tryz.func37 rfl rfl rfl rfl (by kernel_rfl) h (zab c0 zae)
theorem zw3 (h:(s != -1&&true)=true) (c0:Ok 34 [.c (.i 10)] (.c (.b false))) (hk:EKeys n [] (some 38) ⟨.c (.sx 38 1),[],some (38,Ent.mk true [.i s] 1)⟩) :
  BO 37 Tryz.f37 (cx w β n []) [.ag (Ins.mk 10 d s im of).cs] [] 0 (REff w β ⟨.c (.sx 38 1),[],some (38,Ent.mk true [.i s] 1)⟩) :=
 zah [] (some 38) [true,true,false,false,true,true,true,false] [] [] Tryz.func37 hk (by kernel_rfl) h (zab c0 zae)
theorem yag5 (c0:Ok 34 [.c (.i 12)] (.c (.b false))) (c1:Ok 34 [.c (.i 12)] (.c (.b false))) :
  Ok 37 [.ag (Ins.mk 12 d s im of).cs] (.c zcu) :=
 zaf [false,false,false,false,false,false,false,false] [] [] Tryz.func37 rfl rfl rfl rfl (by kernel_rfl) rfl (zab c0 (zab c1 zae))
theorem yalz (c0:Ok 34 [.c (.i 15)] (.c (.b false))) (c1:Ok 34 [.c (.i 15)] (.c (.b false))) (hk:EKeys n [] (some 39) ⟨.c (.sx 39 1),[],some (39,Ent.mk true [.i 0] 1)⟩) :
  BO 37 Tryz.f37 (cx w β n []) [.ag (Ins.mk 15 d s im of).cs] [] 0 (REff w β ⟨.c (.sx 39 1),[],some (39,Ent.mk true [.i 0] 1)⟩) :=
 zah [] (some 39) [false,false,false,false,false,false,false,true] [] [] Tryz.func37 hk (by kernel_rfl) rfl (zab c0 (zab c1 zae))
end
section
variable {m:Mach} {w:World} {β:Bs} {n c:Nat} {C:Cx} {R:Ending→World→Prop} {E:Eff} {u:V6 Bool} {j e q:Int} {mem:ByteArray} {x:BitVec 64} {V:AV} {L:List Ins}
end
section
variable {i:Ins} {m:Mach} {jp:Bool} {V:AV} {d s of:Int} {im:BitVec 64}
end
section
variable {i:Ins} {m:Mach} {C:Cx} {R:Ending→World→Prop} {u:V6 Bool} {j d s of op:Int} {w:World} {β:Bs} {n:Nat} {E:Eff} {im:BitVec 64}
end
end Go.Proofs.YtkigmocchaikgabGreatDoor
