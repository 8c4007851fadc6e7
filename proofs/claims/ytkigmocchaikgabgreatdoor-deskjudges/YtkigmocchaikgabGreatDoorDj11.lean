import Derived.Test.YtkigmocchaikgabGreatDoorShelf
import Derived.Test.YtkigmocchaikgabGreatDoorDj5
import Derived.Test.YtkigmocchaikgabGreatDoorProg
import Derived.WalkKit
import Derived.WalkSpells
import Derived.WalkLawsBesides
import Derived.Handy
import Derived.Below
import Derived.Lib.ParseIntBCases
import Derived.Lib.ItoaMem
import Derived.Lib.AppendIntMem
import Derived.Lib.Walk
import Derived.BigCall
import Derived.BigGuard
import Derived.Test.YtkigmocchaikgabGreatDoorDj6
import Derived.Lib.ItoaLen
import Derived.Maps.Own
import Derived.StringKeys
import Derived.Maps.OwnOps
import Derived.Maps.OwnSet
import Derived.Maps.RangeWalk
import Derived.Shelf.Strings.Builder1
import Derived.Lib.FrozenHead
import Derived.Lib.OthersKept
import Derived.Deep.RegionWith
import Derived.Lib.SplitLaws
import Derived.Defers
import Derived.Recover
import Derived.Laws.Pointers
/- Words that are read: must, readSigned, readNumber, readReg. -/
namespace Go.Proofs.YtkigmocchaikgabGreatDoor
open Go.RowKit
def Done (w:World) (v:Option Value) (e:Ending) (w':World):Prop :=
 (match v with | some v=>e=.returned v | none=>e=.panicked [{ v:=.iface 22 (.int .i64 1),recovered:=false }])∧Below w.heap.size w w'
theorem zi3 (w:World):Calls Tryz.prog 90 #[.bool true] w fun e w'=>e=.returned (.tuple #[])∧w'=w:=by
 go_enter Tryz.func90,Tryz.ntmps90
 go_wp2
 exact bodyPost_end (v:=.tuple #[]) (by simp [results,Tryz.results90]) rfl ⟨rfl,rfl⟩
theorem zh7 (w:World):Calls Tryz.prog 90 #[.bool false] w fun e w'=>e=.panicked [{ v:=.iface 22 (.int .i64 1),recovered:=false }]∧w'=w:=by
 go_enter Tryz.func90,Tryz.ntmps90
 go_wp2
 exact ⟨rfl,rfl,rfl⟩
def sgnB (s:ByteArray):Option Int:=match Lib.atoiAll s.data.toList with | .ok n=>some n | _=>none
def ztd (s:ByteArray):Option Nat:=match Lib.parseUintB 64 s.data.toList with | .ok n=>some n | _=>none
theorem zfz {s:ByteArray} (hs:s.size≤4096) {w:World} (hg:Gw w):Calls Tryz.prog 138 #[.string s] w (Done w ((sgnB s).map (Value.int .i64))):=by
 obtain ⟨t1,p1,h1⟩:=hg.syn
 obtain ⟨t2,p2,h2⟩:=hg.rng
 unfold sgnB
 cases h:Lib.atoiAll s.data.toList with
 | ok n =>
  go_enter Tryz.func138,Tryz.ntmps138
  go_wp2_with (first
   | (go_at_call 178;refine (Tryz.strconv_Atoi_ok s (by omega) n h _).mono ?_;rintro e w1 ⟨rfl,hw1⟩)
   | (go_at_call 90;refine (zi3 _).mono ?_;rintro e w2 ⟨rfl,rfl⟩))
  go_ret
  refine ⟨rfl,?_⟩
  rcases hw1 with rfl | ⟨t,rfl⟩
  ·exact Below.refl _ _
  ·exact Lib.bytesWorld_below _ _ _
 | «syntax» =>
  go_enter Tryz.func138,Tryz.ntmps138
  go_wp2_with (first
   | (go_at_call 178;refine (Tryz.strconv_Atoi_syntax s (by omega) h _ _ h1 (Or.inr ⟨_,_,rfl⟩)).mono ?_;rintro e w1 ⟨N,rfl,hN,hb,hbel⟩)
   | (go_at_call 90;refine (zh7 _).mono ?_;rintro e w2 ⟨rfl,rfl⟩))
  exact ⟨rfl,rfl,hbel⟩
 | range =>
  go_enter Tryz.func138,Tryz.ntmps138
  go_wp2_with (first
   | (go_at_call 178;refine (Tryz.strconv_Atoi_range s (by omega) h _ _ h2 (Or.inr ⟨_,_,rfl⟩)).mono ?_;rintro e w1 ⟨N,rfl,hN,hb,hbel⟩)
   | (go_at_call 90;refine (zh7 _).mono ?_;rintro e w2 ⟨rfl,rfl⟩))
  exact ⟨rfl,rfl,hbel⟩
theorem zf4 {s:ByteArray} (hs:s.size≤4096) {w:World} (hg:Gw w):Calls Tryz.prog 137 #[.string s] w (Done w ((ztd s).map fun n=>Value.int .u64 (n:Int))):=by
 obtain ⟨t1,p1,h1⟩:=hg.syn
 obtain ⟨t2,p2,h2⟩:=hg.rng
 unfold ztd
 cases h:Lib.parseUintB 64 s.data.toList with
 | ok n =>
  go_enter Tryz.func137,Tryz.ntmps137
  go_wp2_with (first
   | (go_at_call 177;refine (Tryz.strconv_ParseUint_10_at64_ok s (by omega) n h _).mono ?_;rintro e w1 ⟨rfl,hw1⟩)
   | (go_at_call 90;refine (zi3 _).mono ?_;rintro e w2 ⟨rfl,rfl⟩))
  go_ret
  refine ⟨rfl,?_⟩
  rcases hw1 with rfl | rfl
  ·exact Below.refl _ _
  ·exact Lib.bytesWorld_below _ _ _
 | «syntax» =>
  go_enter Tryz.func137,Tryz.ntmps137
  go_wp2_with (first
   | (go_at_call 177;refine (Tryz.strconv_ParseUint_10_at64_syntax s (by omega) h _ _ h1 (Or.inr ⟨_,_,rfl⟩)).mono ?_;rintro e w1 ⟨N,rfl,hN,hb,hbel⟩)
   | (go_at_call 90;refine (zh7 _).mono ?_;rintro e w2 ⟨rfl,rfl⟩))
  exact ⟨rfl,rfl,hbel⟩
 | range =>
  go_enter Tryz.func137,Tryz.ntmps137
  go_wp2_with (first
   | (go_at_call 177;refine (Tryz.strconv_ParseUint_10_at64_range s (by omega) h _ _ h2 (Or.inr ⟨_,_,rfl⟩)).mono ?_;rintro e w1 ⟨N,rfl,hN,hb,hbel⟩)
   | (go_at_call 90;refine (zh7 _).mono ?_;rintro e w2 ⟨rfl,rfl⟩))
  exact ⟨rfl,rfl,hbel⟩
def regW (s:ByteArray):Option Int:=if Lib.hasPrefix s.data.toList [114] then sgnB ⟨(Lib.trimPrefix s.data.toList [114]).toArray⟩ else none
theorem zhr {s:ByteArray} (hs:s.size≤4096) {w:World} (hg:Gw w):Calls Tryz.prog 135 #[.string s] w (Done w ((regW s).map (Value.int .i64))):=by
 have hl:(ByteArray.mk (Lib.trimPrefix s.data.toList [114]).toArray).size≤4096:=by
  have h1:(ByteArray.mk (Lib.trimPrefix s.data.toList [114]).toArray).size=(Lib.trimPrefix s.data.toList [114]).length:=by simp [ByteArray.size]
  rw [h1]
  have:=Lib.size_eq s
  unfold Lib.trimPrefix
  split
  ·rw [List.length_drop];omega
  ·omega
 have hr:=zfz hl hg
 unfold regW
 cases h:Lib.hasPrefix s.data.toList [114] with
 | true =>
  rw [if_pos rfl]
  generalize sgnB ⟨(Lib.trimPrefix s.data.toList [114]).toArray⟩=v at *
  cases v with
  | some v =>
   go_enter Tryz.func135,Tryz.ntmps135
   go_wp2_with (first
    | (go_at_call 175;refine (Tryz.strings_CutPrefix _ _ _).mono ?_;rintro e w1 ⟨rfl,rfl⟩;rw [h])
    | (go_at_call 90;refine (zi3 _).mono ?_;rintro e w2 ⟨rfl,rfl⟩)
    | (go_at_call 138;refine hr.mono ?_;rintro e w3 ⟨rfl,hb⟩))
   go_ret
   exact ⟨rfl,hb⟩
  | none =>
   go_enter Tryz.func135,Tryz.ntmps135
   go_wp2_with (first
    | (go_at_call 175;refine (Tryz.strings_CutPrefix _ _ _).mono ?_;rintro e w1 ⟨rfl,rfl⟩;rw [h])
    | (go_at_call 90;refine (zi3 _).mono ?_;rintro e w2 ⟨rfl,rfl⟩)
    | (go_at_call 138;refine hr.mono ?_;rintro e w3 ⟨rfl,hb⟩))
   exact ⟨rfl,rfl,hb⟩
 | false =>
  rw [if_neg (by decide)]
  go_enter Tryz.func135,Tryz.ntmps135
  go_wp2_with (first
   | (go_at_call 175;refine (Tryz.strings_CutPrefix _ _ _).mono ?_;rintro e w1 ⟨rfl,rfl⟩;rw [h])
   | (go_at_call 90;refine (zh7 _).mono ?_;rintro e w2 ⟨rfl,rfl⟩))
  exact ⟨rfl,rfl,Below.refl _ _⟩
theorem zx3 {f:Nat} {A:Array Value} {V:Value} {args:List AV} {v:AV} (h:∀ w,Gw w→Calls Tryz.prog f A w (Done w (some V))) (hA:∀ β,(args.map (AV.g β)).toArray=A) (hV:∀ β,v.g β=V) (hv:v.ks=[]):Ok f args v :=
 zd3 hA hV hv fun w hw=>(h w hw).mono fun _ _ h=>h
theorem zox {s:ByteArray} {n:Int} (hs:s.size≤4096) (h:sgnB s=some n):Ok 138 [.c (.s s)] (.c (.i n)) :=
 zx3 (fun w hw=>by have:=zfz hs hw;rw [h] at this;exact this) (fun _=>rfl) (fun _=>rfl) rfl
theorem zis {s:ByteArray} {n:Int} (hs:s.size≤4096) (h:regW s=some n):Ok 135 [.c (.s s)] (.c (.i n)) :=
 zx3 (fun w hw=>by have:=zhr hs hw;rw [h] at this;exact this) (fun _=>rfl) (fun _=>rfl) rfl
abbrev Ins.v (i:Ins):Value:=.agg #[.int .i64 i.op,.int .i64 i.d,.int .i64 i.s,.int .u64 (nv i.im),.int .i64 i.of]
def numW (s:ByteArray):Option (BitVec 64):=(ztd s).map (BitVec.ofNat 64)
theorem yaid (s:ByteArray):(ztd s).map (fun n=>Value.int .u64 (n:Int))=(numW s).map fun x=>Value.int .u64 (nv x):=by
 unfold numW ztd
 cases h:Lib.parseUintB 64 s.data.toList with
 | ok n =>
  have:=Lib.parseUintB_le h
  show some (Value.int .u64 (n:Int))=some (Value.int .u64 (nv (BitVec.ofNat 64 n)))
  have e:nv (BitVec.ofNat 64 n)=(n:Int):=by
   show ((BitVec.ofNat 64 n).toNat:Int)=_
   rw [BitVec.toNat_ofNat];omega
  rw [e]
 | «syntax»=>rfl
 | range=>rfl
def setW (i:Ins) (p:Int) (s:ByteArray):Option Ins :=
 if p=0 then (regW s).map fun n=>{ i with d:=n }
 else if p=1∨p=2∧Lib.hasPrefix s.data.toList [114]=true then (regW s).map fun n=>{ i with s:=n }
 else if p=2 then (numW s).map fun x=>{ i with s:=-1,im:=x }
 else if p=3 then (numW s).map fun x=>{ i with im:=x }
 else if p=4 then (sgnB s).map fun n=>{ i with of:=n }
 else some i
theorem zh6 {s:ByteArray} {x:BitVec 64} (hs:s.size≤4096) (h:numW s=some x):Ok 137 [.c (.s s)] (.c (.u x)) :=
 zx3 (fun w hw=>by have:=zf4 hs hw;rw [yaid,h] at this;exact this) (fun _=>rfl) (fun _=>rfl) rfl
end Go.Proofs.YtkigmocchaikgabGreatDoor
namespace Go.Proofs.YtkigmocchaikgabGreatDoor
open Go.Shelf Go.RowKit Go.Sort Go.Lib
theorem zw2 (w:World) (T:TypeId) (nd:Nat) (hs:nd≤24):Holds (fun (b:UInt8)=>Value.int .u8 (b.toNat:Int)) (w.alloc (.cells zeros24 T)) w.heap.size 0 (Array.replicate nd (0:UInt8)):=fun j hj=>by
 have hj':j<nd:=by simpa using hj
 refine ⟨?_,World.frozen?_alloc_new _ _ _ _⟩
 rw [World.cell?_alloc_new,zeros24_at _ (by omega),getElem!_pos _ j hj]
 simp
theorem fin0 (w:World) (o:Obj) (dk:Array UInt8) (k:Nat):∃ os,(putRow (fun (b:UInt8)=>Value.int .u8 (b.toNat:Int)) (w.alloc o) w.heap.size 0 dk).drewN k=grow (w.drewN k) os:=by
 rw [alloc_eq_grow]
 obtain ⟨os',_,e⟩:=putRow_grow_new (fun (b:UInt8)=>Value.int .u8 (b.toNat:Int)) w #[o] w.heap.size 0 dk (Nat.le_refl _)
 exact ⟨os',by rw [e];rfl⟩
set_option maxHeartbeats 1600000 in
set_option maxRecDepth 100000 in
theorem yat9 {u:Nat} (hu64:u<18446744073709551616) {w:World} (hg:Gw w):Calls Tryz.prog 140 #[.int .u64 u,.int .i64 10] w fun e w'=>e=.returned (.string ⟨(Lib.decDigits u).toArray⟩)∧Below w.heap.size w w':=by
 by_cases hs:u<100
 ·have hw:IntKind.i64.wrap (u:Int)=(u:Int):=by rw [IntKind.wrap_i64];omega
  go_enter Tryz.func140,Tryz.ntmps140
  go_wp2_with (go_at_call 110;refine (Tryz.internal_strconv_small u hs _).mono ?_;rintro e w' ⟨rfl,rfl⟩)
  go_ret
  exact ⟨rfl,Below.refl _ _⟩
 ·have hu1:1≤u:=by omega
  have hnd20:Lib.nDigits u≤20:=by have:=Lib.numDigits_eq u hu1 hu64;split at this <;> omega
  have hal:Tryz.prog.arrayLen 140=24:=by kernel_rfl
  have hsl:∀ W,(Instr.sliceAt 140 (.pointer (some ⟨w.heap.size,0,none⟩)) none (some (.int .i64 (Lib.nDigits u:Int))) none).run Tryz.prog W=.ok (.slice (some ⟨w.heap.size,0,none⟩) (Lib.nDigits u) 24) W:=fun W=>by
   rw [run_sliceAt_array_h W 140 ⟨w.heap.size,0,none⟩ (by kernel_rfl) .i64 (Lib.nDigits u:Int) (by omega) (by rw [hal];omega),hal]
   have hz:(sizeOf (Tryz.prog.elem 140)).run Tryz.prog W=.ok 1 W:=by kernel_rfl
   rw [hz]
   simp [slicedAt,Result.andThen,Lib.add_plain]
  have hH0:=zw2 w 140 (Lib.nDigits u) (by omega)
  have hfmt:=Tryz.internal_strconv_formatBase10 w.heap.size 0 24 u (Array.replicate (Lib.nDigits u) 0) (w.alloc (.cells Lib.zeros24 140)) hH0 (by rw [Array.size_replicate];exact Lib.lt_pow_nDigits u) hu64 (by rw [Array.size_replicate];omega)
  rw [Array.size_replicate] at hfmt
  have HH0:=Lib.hid hH0
  clear hH0 hal
  go_enter Tryz.func140,Tryz.ntmps140
  go_wp2_with (first
   | (go_at_call 111;refine (Tryz.internal_strconv_numDigits u hu1 hu64 _ (Lib.tabIs_alloc hg.tab _)).mono ?_;rintro e w' ⟨rfl,rfl⟩))
  go_at_call 112
  refine hfmt.mono ?_
  rintro e w' ⟨rfl,k,v',dk,rfl,hF⟩
  have hcv:(convert 67 9 (.slice (some ⟨w.heap.size,0,none⟩) (Lib.nDigits u) 24)).run Tryz.prog ((putRow (fun (b:UInt8)=>Value.int .u8 (b.toNat:Int)) (w.alloc (.cells Lib.zeros24 140)) w.heap.size 0 dk).drewN k)=.ok (.string ⟨(Lib.decDigits u).toArray⟩) ((putRow (fun (b:UInt8)=>Value.int .u8 (b.toNat:Int)) (w.alloc (.cells Lib.zeros24 140)) w.heap.size 0 dk).drewN k):=by
   have h:=run_convert_bytes_back (P:=Tryz.prog) ((putRow (fun (b:UInt8)=>Value.int .u8 (b.toNat:Int)) (w.alloc (.cells Lib.zeros24 140)) w.heap.size 0 dk).drewN k) 67 9 5 ⟨w.heap.size,0,none⟩ 24 (Lib.decDigits u) Tryz.underlying67 Tryz.underlying5 Tryz.underlying9 (fun j hj=>by
    rw [Lib.row_is_numeral hF j hj,Lib.add_plain,World.cell?_drewN]
    exact cell?_putRow (fun (b:UInt8)=>Value.int .u8 (b.toNat:Int)) _ w.heap.size 0 _ dk HH0.out (by rw [hF.size,Array.size_replicate]) j (by rw [hF.size];rw [Lib.decDigits_length] at hj;exact hj))
   rw [Lib.decDigits_length] at h
   exact h
  go_wp2
  go_ret
  obtain ⟨os,eo⟩:=fin0 w (.cells Lib.zeros24 140) dk k
  refine ⟨rfl,?_⟩
  rw [eo]
  exact below_grow _ w (Nat.le_refl _) k os
theorem yalc (x:BitVec 64):Ok 93 [.c (.u x),.c (.i 10)] (.c (.s ⟨(Lib.decDigits x.toNat).toArray⟩)):=by
 refine zd3 (A:=#[.int .u64 (x.toNat:Int),.int .i64 10]) (fun _=>rfl) (fun _=>rfl) rfl fun w hw=>?_
 go_enter Tryz.func93,Tryz.ntmps93
 go_wp2_with (go_at_call 140;refine (yat9 (u:=x.toNat) (by have:=x.isLt;omega) hw).mono ?_;rintro e w' ⟨rfl,hb⟩)
 go_ret
 exact ⟨rfl,hb⟩
theorem zj3 (n:Int) (h0:-9223372036854775808≤n) (h1:n≤9223372036854775807):Ok 9 [.c (.i n)] (.c (.s ⟨(Lib.itoa n).toArray⟩)) :=
 zd3 (A:=#[.int .i64 n]) (fun _=>rfl) (fun _=>rfl) rfl fun w hw=>(Tryz.strconv_Itoa n h0 h1 w hw.tab).mono fun e w' ⟨he,k,os,hw'⟩=>⟨he,by rw [hw'];exact below_grow _ w (Nat.le_refl _) k os⟩
theorem zu3 (s p:ByteArray):Ok 136 [.c (.s s),.c (.s p)] (.c (.b (Lib.hasPrefix s.data.toList p.data.toList))) :=
 zd3 (A:=#[.string s,.string p]) (fun _=>rfl) (fun _=>rfl) rfl fun w _=>(Tryz.strings_HasPrefix s p w).mono fun e w' ⟨he,hw'⟩=>⟨he,by rw [hw'];exact Below.refl _ _⟩
theorem za2 (w:World) (o:Obj):Below w.heap.size w (w.alloc o):=by
 rw [alloc_eq_grow]
 exact below_grow _ w (Nat.le_refl _) 0 #[o]
theorem zaq {w w':World} {o:Obj} (h:Below (w.alloc o).heap.size (w.alloc o) w'):Below w.heap.size w w':=(za2 w o).trans (h.mono (za2 w o).size)
theorem zdi {w:World} (h:Gw w) (o:Obj):Gw (w.alloc o):=h.below (za2 w o) h.size'
def za7 (i:Ins) (p:Int):List UInt8 :=
 if p=0 then 114::Lib.itoa i.d
 else if p=1∨p=2∧i.s≠-1 then 114::Lib.itoa i.s
 else if p=4 then Lib.itoa i.of
 else Lib.decDigits i.im.toNat
def plc (p:Int):Prop:=p=0∨p=1∨p=2∨p=3∨p=4
theorem zun {i i':Ins} {p:Int} {s:ByteArray} (hp:plc p) (hs:s.size≤4096) (h:setW i p s=some i'):Ok 91 [.ag i.cs,.c (.i p),.c (.s s)] (.ag i'.cs):=by
 rcases hp with rfl | rfl | rfl | rfl | rfl
 ·simp only [setW,if_pos,Option.map_eq_some_iff] at h
  obtain ⟨n,hn,rfl⟩:=h
  exact yazt (zis hs hn)
 ·simp only [setW,true_or,if_pos,Option.map_eq_some_iff,if_neg (show ¬ (1:Int)=0 by decide)] at h
  obtain ⟨n,hn,rfl⟩:=h
  exact yayo (zis hs hn)
 ·have hP:=zu3 s ⟨#[114]⟩
  cases hc:Lib.hasPrefix s.data.toList [114] with
  | true =>
   simp [setW,hc] at h
   obtain ⟨n,hn,rfl⟩:=h
   exact yar0 (by rw [← hc];exact hP) (zis hs hn)
  | false =>
   simp [setW,hc] at h
   obtain ⟨n,hn,rfl⟩:=h
   exact yar5 (by rw [← hc];exact hP) (zh6 hs hn)
 ·simp [setW] at h
  obtain ⟨n,hn,rfl⟩:=h
  exact yaxl (zh6 hs hn)
 ·simp [setW] at h
  obtain ⟨n,hn,rfl⟩:=h
  exact yazi (zox hs hn)
theorem yak0 {i:Ins} {p:Int} (hp:plc p) (hd:-9223372036854775808≤i.d∧i.d≤9223372036854775807) (hs:-9223372036854775808≤i.s∧i.s≤9223372036854775807) (ho:-9223372036854775808≤i.of∧i.of≤9223372036854775807):Ok 49 [.c (.i p),.ag i.cs] (.c (.s ⟨(za7 i p).toArray⟩)):=by
 have len:∀ n:Int,-9223372036854775808≤n∧n≤9223372036854775807→(decide (1+ByteArray.size ⟨(Lib.itoa n).toArray⟩≤9223372036854775807)&&true)=true:=fun n h=>by
  have:=Lib.itoa_length_le n h.1 h.2
  have e:ByteArray.size ⟨(Lib.itoa n).toArray⟩=(Lib.itoa n).length:=by simp [ByteArray.size]
  rw [e,Bool.and_true]
  exact decide_eq_true (by omega)
 have cat:∀ l:List UInt8,ByteArray.mk #[114]++ByteArray.mk l.toArray=⟨(114::l).toArray⟩:=fun l=>by
  apply ByteArray.ext
  simp
 rcases hp with rfl | rfl | rfl | rfl | rfl
 ·have:=yav8 (i:=i) (len i.d hd) (zj3 i.d hd.1 hd.2)
  rw [cat] at this
  exact this
 ·have:=yavu (i:=i) (len i.s hs) (zj3 i.s hs.1 hs.2)
  rw [cat] at this
  exact this
 ·by_cases h:i.s=-1
  ·have:=yavp (i:=i) (by simp [h]) (yalc i.im)
   simpa [za7,h] using this
  ·have:=yash (i:=i) (by rw [len _ hs];simp [h]) (zj3 i.s hs.1 hs.2)
   rw [cat] at this
   simpa [za7,h] using this
 ·exact yaw5 (yalc i.im)
 ·exact yaxy (zj3 i.of ho.1 ho.2)
set_option maxHeartbeats 1600000 in
theorem zyf {i:Ins} {p:Int} {s:ByteArray} (hp:plc p) (hs:s.size≤4096) (h:setW i p s=none) {w:World} (hg:Gw w):Calls Tryz.prog 91 #[i.v,.int .i64 p,.string s] w (Done w none):=by
 rcases hp with rfl | rfl | rfl | rfl | rfl
 ·simp only [setW,if_pos,Option.map_eq_none_iff] at h
  go_enter Tryz.func91,Tryz.ntmps91
  go_wp2_with (go_at_call 135;refine (zhr hs (by exact zdi (zdi hg _) _)).mono ?_;rw [h];rintro e w1 ⟨rfl,hb⟩)
  exact ⟨rfl,rfl,zaq (zaq hb)⟩
 ·simp only [setW,true_or,if_pos,Option.map_eq_none_iff,if_neg (show ¬ (1:Int)=0 by decide)] at h
  go_enter Tryz.func91,Tryz.ntmps91
  go_wp2_with (go_at_call 135;refine (zhr hs (by exact zdi (zdi hg _) _)).mono ?_;rw [h];rintro e w1 ⟨rfl,hb⟩)
  exact ⟨rfl,rfl,zaq (zaq hb)⟩
 ·cases hc:Lib.hasPrefix s.data.toList [114] with
  | true =>
   simp [setW,hc] at h
   go_enter Tryz.func91,Tryz.ntmps91
   go_wp2_with (first
    | (go_at_call 136;refine (Tryz.strings_HasPrefix _ _ _).mono ?_;rintro e w' ⟨rfl,rfl⟩;rw [hc])
    | (go_at_call 135;refine (zhr hs (by exact zdi (zdi hg _) _)).mono ?_;rw [h];rintro e w1 ⟨rfl,hb⟩))
   exact ⟨rfl,rfl,zaq (zaq hb)⟩
  | false =>
   simp [setW,hc] at h
   go_enter Tryz.func91,Tryz.ntmps91
   go_wp2_with (first
    | (go_at_call 136;refine (Tryz.strings_HasPrefix _ _ _).mono ?_;rintro e w' ⟨rfl,rfl⟩;rw [hc])
    | (go_at_call 137;refine (zf4 hs (by exact zdi (zdi hg _) _)).mono ?_;rw [yaid,h];rintro e w1 ⟨rfl,hb⟩))
   exact ⟨rfl,rfl,zaq (zaq hb)⟩
 ·simp [setW] at h
  go_enter Tryz.func91,Tryz.ntmps91
  go_wp2_with (go_at_call 137;refine (zf4 hs (by exact zdi (zdi hg _) _)).mono ?_;rw [yaid,h];rintro e w1 ⟨rfl,hb⟩)
  exact ⟨rfl,rfl,zaq (zaq hb)⟩
 ·simp [setW] at h
  go_enter Tryz.func91,Tryz.ntmps91
  go_wp2_with (go_at_call 138;refine (zfz hs (by exact zdi (zdi hg _) _)).mono ?_;rw [h];rintro e w1 ⟨rfl,hb⟩)
  exact ⟨rfl,rfl,zaq (zaq hb)⟩
theorem zib {i:Ins} {p:Int} {s:ByteArray} (hp:plc p) (hs:s.size≤4096) {w:World} (hg:Gw w):Calls Tryz.prog 91 #[i.v,.int .i64 p,.string s] w (Done w ((setW i p s).map Ins.v)):=by
 cases h:setW i p s with
 | none=>exact zyf hp hs h hg
 | some i'=>exact zif (fun _=>(0,0,0)) rfl (fun _=>rfl) (zun hp hs h) w hg
end Go.Proofs.YtkigmocchaikgabGreatDoor
namespace Go.Proofs.YtkigmocchaikgabGreatDoor
open Go.Shelf Go.RowKit Go.Sort Go.Lib Go.Maps
def oNames:List (List UInt8):=[[109,111,118],[97,100,100],[115,117,98],[109,117,108],[97,110,100],[111,114],[120,111,114],[115,104,108],[115,104,114],[108,111,97,100],[115,116,111,114,101],[106,117,109,112],[105,102,101,113],[105,102,108,116],[101,120,105,116]]
abbrev yari (w:World) (b:Nat) (D:DataW Unit):Prop:=w.ownsMap Tryz.prog 9 (plainElem Tryz.prog 3) b 15 D
theorem law:Keyed Tryz.prog 9:=string_keyed Tryz.underlying9
theorem yasz (w:World):(zeroValue 3).run Tryz.prog w=.ok (.int .i64 0) w:=by kernel_rfl
def yaym:Nat→List (List UInt8)→DataW Unit→DataW Unit
 | _,[],D=>D
 | n,k::ks,D=>yaym (n+1) ks (D.put (.string k) (.lit (.int .i64 n)))
def opsD:DataW Unit:=yaym 1 oNames (.map [])
theorem upd {w:World} {b n:Nat} {D:DataW Unit} (h:w.ownsMap Tryz.prog 9 (plainElem Tryz.prog 3) b n D) (hn:n≤15) (k:Array UInt8) (hk:k.size≤100) (v:Int) (hv:(Lit.int .i64 v).wf=true) :
  ∃ w',(Instr.mapUpdate 76 (.map (some b)) (.string ⟨k⟩) (.int .i64 v)).run Tryz.prog w=.ok () w'∧w'.ownsMap Tryz.prog 9 (plainElem Tryz.prog 3) b (n+1) (D.put (.string k.toList) (.lit (.int .i64 v)))∧w.grownBy w' (some b):=by
 have:=h.update law Tryz.underlying76 (by unfold maxLen;omega) (key:=.string ⟨k⟩) (val:=.int .i64 v) (Go.WideMaps.keyOf_string_mk Tryz.underlying9 (by unfold maxLen;show k.size≤_;omega)) (plainElem_int Tryz.underlying3 hv)
 exact this
set_option maxHeartbeats 1600000 in
theorem zk0 (w:World):Calls Tryz.prog 41 #[] w fun e w'=>e=.returned (.map (some w.heap.size))∧yari w' w.heap.size opsD∧Below w.heap.size w w':=by
 have m0:=World.ownsMap_made (H:=Unit) w Tryz.prog 9 (plainElem Tryz.prog 3)
 have hmm:=@run_makeMap Tryz.prog
 obtain ⟨w1,r1,m1,g1⟩:=upd m0 (by decide) #[109,111,118] (by decide) 1 (by decide)
 obtain ⟨w2,r2,m2,g2⟩:=upd m1 (by decide) #[97,100,100] (by decide) 2 (by decide)
 obtain ⟨w3,r3,m3,g3⟩:=upd m2 (by decide) #[115,117,98] (by decide) 3 (by decide)
 obtain ⟨w4,r4,m4,g4⟩:=upd m3 (by decide) #[109,117,108] (by decide) 4 (by decide)
 obtain ⟨w5,r5,m5,g5⟩:=upd m4 (by decide) #[97,110,100] (by decide) 5 (by decide)
 obtain ⟨w6,r6,m6,g6⟩:=upd m5 (by decide) #[111,114] (by decide) 6 (by decide)
 obtain ⟨w7,r7,m7,g7⟩:=upd m6 (by decide) #[120,111,114] (by decide) 7 (by decide)
 obtain ⟨w8,r8,m8,g8⟩:=upd m7 (by decide) #[115,104,108] (by decide) 8 (by decide)
 obtain ⟨w9,r9,m9,g9⟩:=upd m8 (by decide) #[115,104,114] (by decide) 9 (by decide)
 obtain ⟨w10,r10,m10,g10⟩:=upd m9 (by decide) #[108,111,97,100] (by decide) 10 (by decide)
 obtain ⟨w11,r11,m11,g11⟩:=upd m10 (by decide) #[115,116,111,114,101] (by decide) 11 (by decide)
 obtain ⟨w12,r12,m12,g12⟩:=upd m11 (by decide) #[106,117,109,112] (by decide) 12 (by decide)
 obtain ⟨w13,r13,m13,g13⟩:=upd m12 (by decide) #[105,102,101,113] (by decide) 13 (by decide)
 obtain ⟨w14,r14,m14,g14⟩:=upd m13 (by decide) #[105,102,108,116] (by decide) 14 (by decide)
 obtain ⟨w15,r15,m15,g15⟩:=upd m14 (by decide) #[101,120,105,116] (by decide) 15 (by decide)
 go_enter Tryz.func41,Tryz.ntmps41
 go_wp2
 go_ret
 have g:(w.alloc (.map #[] 0)).grownBy w15 (some w.heap.size):=g1.trans (g2.trans (g3.trans (g4.trans (g5.trans (g6.trans (g7.trans (g8.trans (g9.trans (g10.trans (g11.trans (g12.trans (g13.trans (g14.trans (g15))))))))))))))
 exact ⟨rfl,m15,((Below.refl _ _).alloc (Nat.le_refl _) _).grown g (by simp) (fun j hj=>by cases hj;exact Nat.le_refl _)⟩
def nmL (j:Nat):List UInt8:=oNames.getD j []
def nmV (left:Lit→Bool):Nat→Value
 | 0=>.string ⟨#[]⟩
 | j+1=>.string (if left (.string (nmL j)) then ⟨#[]⟩ else ⟨(nmL j).toArray⟩)
def zgl (left:Lit→Bool):Array Value:=Array.ofFn (n:=16) fun j=>nmV left j.val
def oOrd:List Nat:=[1,4,14,12,13,11,9,0,3,5,7,8,10,2,6]
def oEnt (k:Nat):Lit×DataW Unit:=(.string (nmL k),.lit (.int .i64 ((k:Int)+1)))
theorem yaia:opsD=.map (oOrd.map oEnt):=by kernel_rfl
def zkp (s:List UInt8):Option Nat:=oOrd.find? fun k=>nmL k==s
theorem yaah (s:List UInt8):(oOrd.map oEnt).find? (fun p=>p.1.sameKey (.string s))=(zkp s).map oEnt:=by
 rw [List.find?_map];rfl
theorem yacl (s:List UInt8) (zd:DataW Unit):opsD.atKey (.string s) zd=match zkp s with | some k=>.lit (.int .i64 ((k:Int)+1)) | none=>zd:=by
 rw [yaia]
 unfold DataW.atKey
 simp only
 rw [yaah]
 cases zkp s <;> rfl
theorem zs4 (s:List UInt8):Maps.has opsD (.string s)=(zkp s).isSome:=by
 rw [yaia]
 show (oOrd.map oEnt).any (fun p=>p.1.sameKey (.string s))=_
 have:(oOrd.map oEnt).any (fun p=>p.1.sameKey (.string s))=((oOrd.map oEnt).find? (fun p=>p.1.sameKey (.string s))).isSome:=by
  rw [Bool.eq_iff_iff,List.find?_isSome,List.any_eq_true]
 rw [this,yaah]
 cases zkp s <;> rfl
theorem zho {s:List UInt8} {k:Nat} (h:zkp s=some k):k<15∧s=nmL k:=by
 have h1:=List.mem_of_find?_eq_some h
 have h2:=List.find?_some h
 refine ⟨?_,(eq_of_beq h2).symm⟩
 have:∀ k∈oOrd,k<15:=by decide
 exact this k h1
theorem zlj:∀ k,k<15→zkp (nmL k)=some k:=by decide
theorem yau8 (s:List UInt8) (c:Int) (h:∀ zd:DataW Unit,opsD.atKey (.string s) zd=.lit (.int .i64 c)):∃ k,k<15∧s=nmL k∧c=(k:Int)+1:=by
 have h0:=h (.lit (.int .i64 (c+1)))
 rw [yacl] at h0
 cases hf:zkp s with
 | none=>rw [hf] at h0;simp at h0;omega
 | some k =>
  rw [hf] at h0
  obtain ⟨a,b⟩:=zho hf
  exact ⟨k,a,b,by simp at h0;exact h0.symm⟩
theorem zs0 (left:Lit→Bool):(zgl left).size=16:=by simp [zgl]
theorem yapo:zgl (Maps.has opsD)=Array.replicate 16 (.string ⟨#[]⟩):=by
 have:∀ j,j<15→Maps.has opsD (.string (nmL j))=true:=fun j hj=>by rw [zs4,zlj j hj];rfl
 apply Array.ext
 ·simp [zgl]
 ·intro j h1 h2
  have hj:j<16:=by simpa [zgl] using h1
  simp only [zgl,Array.getElem_ofFn,Array.getElem_replicate]
  cases j with
  | zero=>rfl
  | succ j=>simp [nmV,this j (by omega)]
theorem yavk (left:Lit→Bool) (k:Nat) (hk:k<15):(zgl left).setIfInBounds (k+1) (.string ⟨(nmL k).toArray⟩)=zgl (fun z=>left z&&!z.sameKey (.string (nmL k))):=by
 apply Array.ext
 ·simp [zgl]
 ·intro j h1 h2
  have hj:j<16:=by simpa [zgl] using h2
  rw [Array.getElem_setIfInBounds (by rw [zs0];exact hj)]
  simp only [zgl,Array.getElem_ofFn]
  cases j with
  | zero=>simp [nmV]
  | succ j =>
   by_cases e:j=k
   ·subst e
    simp [nmV,Lit.sameKey]
   ·have hne:(nmL j==nmL k)=false:=by
     have:∀ j,j<15→∀ k,k<15→j≠k→(nmL j==nmL k)=false:=by decide
     exact this j (by omega) k hk e
    rw [if_neg (by omega)]
    simp only [nmV,Lit.sameKey,hne,Bool.not_false,Bool.and_true]
theorem yaxz (left:Lit→Bool) (j:Nat) (h:j<16):(zgl left)[j]?=some (nmV left j):=by
 rw [Array.getElem?_eq_getElem (by rw [zs0];exact h)]
 simp [zgl]
theorem ziy (w:World) (a:Addr) (u:Value):w.grownBy (w.setCell a u) (some a.block) :=
 ⟨rfl,rfl,rfl,by simp [World.setCell],fun k _ hk=>Below.heap_setCell _ _ _ _ (fun e=>hk (by rw [e]))⟩
theorem yaba:(Tryz.prog.info? 84).map (·.size)=some 16:=by kernel_rfl
theorem ze5 {B g:Nat} {w w':World} (h:Below B w w') (hg:B≤g) (A:Array Value):Below B w (w'.setRow g A) :=
 h.trans ⟨rfl,rfl,rfl,by simp [World.setRow],fun k hk=>setRow_other _ _ _ _ (by omega)⟩
theorem zbt (w:World) (o:Obj):(w.alloc o).heap[w.heap.size]?=some o:=by
 show (w.heap.push o)[w.heap.size]?=_
 simp
theorem yapw (w:World) (a b:Obj):((w.alloc a).alloc b).heap.size=w.heap.size+1+1:=by simp
theorem yaxn:∀ key kl,keyOf Tryz.prog 9 key=some kl→∃ x,key=Value.string x:=fun key kl h=>by
 obtain ⟨s,rfl,_⟩:=Go.WideMaps.string_of_keyOf Tryz.underlying9 h
 exact ⟨s,rfl⟩
theorem ybal:∀ v (y:DataW Unit×List MemPlace),plainElem Tryz.prog 3 v=some y→∃ c,v=Value.int .i64 c:=fun v y h=>by
 obtain ⟨c,rfl,_⟩:=plainElem_int_inv Tryz.underlying3 h
 exact ⟨c,rfl⟩
set_option maxHeartbeats 400000 in
set_option maxRecDepth 100000 in
theorem zu5 (w:World):Calls Tryz.prog 45 #[] w fun e w'=>e=.returned (.agg (zgl fun _=>false))∧Below w.heap.size w w':=by
 go_enter Tryz.func45,Tryz.ntmps45
 go_wp2_with (first
  | (go_at_call 41;refine (zk0 _).mono ?_;rintro e w1 ⟨rfl,hm,hb⟩;rw [yapw] at hm)
  | (at_range;refine wpList_range_own _ rfl _ 76 rfl 9 3 law Tryz.underlying76 _ (w.heap.size+1+1) 15 opsD rfl hm ?_;intro w0 hrg0 hg0 hs0)
  | go_in)
 go_frame
 have hr:w.heap.size+1+1<w1.heap.size:=hm.lt
 generalize hrr:w1.heap.size=r at *
 go_loopw [2] (fun _ wr=>∃ (left:Lit→Bool) (cnt:Nat),wr.ranges Tryz.prog 9 (plainElem Tryz.prog 3) (w.heap.size+1+1) r 15 opsD left cnt∧wr.heap[w.heap.size]?=some (.cells (Array.replicate 16 (.string ⟨#[]⟩)) 84 (0,0))∧wr.heap[w.heap.size+1]?=some (.cells (zgl left) 84 (0,0))∧Below w.heap.size w wr)
  (fun _ wr=>wr.rangeLeft (w.heap.size+1+1) r)
 case atStart =>
  refine ⟨_,_,hrg0,?_,?_,?_⟩
  ·rw [hg0.block _ (by omega) (by simp),hb.block _ (by simp;omega),Below.heap_alloc _ _ _ (by simp),zbt]
   rfl
  ·rw [hg0.block _ (by omega) (by simp),hb.block _ (by simp),yapo]
   have e:∀ o o':Obj,((w.alloc o).alloc o').heap[w.heap.size+1]?=some o':=fun o o'=>by have:=zbt (w.alloc o) o';simpa using this
   rw [e]
   rfl
  ·exact (zaq (zaq hb)).trans ⟨hg0.os,hg0.tape,hg0.output,hg0.size,fun k hk=>hg0.block k (by omega) (by simp)⟩
 case round =>
  obtain ⟨left,cnt,hrg,hB,hN,hbel⟩:=hrel
  go_wp2_with (first
   | (at_next;refine wpList_next_ranges _ rfl _ rfl 9 law (plainElem Tryz.prog 3) Value.string (Value.int .i64) yaxn ybal (w.heap.size+1+1) r 15 _ _ _ rfl hrg ?_ ?_)
   | go_in)
  ·intro _ hl0
   obtain ⟨A,hA,hA1,hA2⟩:∃ A,A=zgl (fun _=>false)∧A.size=16∧A.all (·.oneCell')=true:=⟨_,rfl,zs0 _,by kernel_rfl⟩
   have hN':wr.heap[w.heap.size+1]?=some (.cells A 84 (0,0)):=by rw [hA,hN,show left=fun _=>false from funext hl0]
   have hB2:=setRow_heap wr w.heap.size _ A _ _ hB
   go_wp2_with (first
    | (refine wpList_load_row rfl 84 _ rfl (w.heap.size+1) rfl _ A _ _ hN' Tryz.underlying84 rfl (by rw [hA1];exact yaba) ?_)
    | (refine wpList_store_row rfl 84 _ _ rfl w.heap.size A rfl rfl _ _ hB (by rw [hA1];exact yaba) (by simp [hA1]) hA2 ?_)
    | go_in)
   refine bodyPost_ret (results_cell_row (d:=.array 16 9) rfl _ _ w.heap.size _ A _ rfl hB2 Tryz.underlying84 rfl (by rw [hA1];exact yaba)) rfl ?_
   exact ⟨by rw [hA],ze5 hbel (Nat.le_refl _) A⟩
  ·intro x c kl y yp w2 cnt2 hkx hlx hvx hat hrg2 hlt hg2 hs2 hen
   obtain ⟨x',ex,rfl,-⟩:=Go.WideMaps.string_of_keyOf Tryz.underlying9 hkx
   cases ex
   obtain ⟨c',ec,hy,-⟩:=plainElem_int_inv Tryz.underlying3 hvx
   cases ec
   cases hy
   obtain ⟨k,hk,hx,rfl⟩:=yau8 _ _ hat
   obtain ⟨x⟩:=x
   obtain rfl:x=(nmL k).toArray:=by rw [← hx]
   have hlt2:w.heap.size+1+1<wr.heap.size:=hrg.owns.lt
   have hN2:w2.heap[w.heap.size+1]?=some (.cells (zgl left) 84 (0,0)):=by rw [← hN];exact hg2.block _ (by omega) (fun e=>by cases e;omega)
   have hB2:w2.heap[w.heap.size]?=some (.cells (Array.replicate 16 (.string ⟨#[]⟩)) 84 (0,0)):=by rw [← hB];exact hg2.block _ (by omega) (fun e=>by cases e;omega)
   have hc2:w2.cell? ⟨w.heap.size+1,k+1,none⟩=some (nmV left (k+1)):=by rw [cell_of_row _ _ _ _ _ _ hN2];exact yaxz left (k+1) (by omega)
   have hf2:w2.frozen? ⟨w.heap.size+1,k+1,none⟩=false:=frozen_of_row _ _ _ _ _ hN2
   have hN3:=heap_setCell_same w2 _ (k+1) _ _ (.string ⟨(nmL k).toArray⟩) hN2
   rw [yavk left k hk] at hN3
   have hbel2:Below w.heap.size w w2:=hbel.grown hg2 hbel.size (fun j hj=>by cases hj;omega)
   have HN:=Lib.hid hN3
   have HB:=Lib.hid hB2
   have HR:=Lib.hid hbel2
   clear hN hB hN2 hB2 hN3 hbel2
   go_wp2
   go_roundw
   case rel=>exact ⟨_,cnt2,hrg2.kept (ziy _ _ _) (by simp) (by simp;omega),by rw [heap_setCell_other _ _ _ _ (by simp)];exact HB.out,HN.out,HR.out.setCell (by simp) _⟩
   case measure =>
    rw [(hrg2.kept (ziy _ _ _) (by simp) (by simp;omega)).left_eq,hrg.left_eq];exact hlt
end Go.Proofs.YtkigmocchaikgabGreatDoor
namespace Go.Proofs.YtkigmocchaikgabGreatDoor
open Go.Shelf Go.RowKit Go.Sort Go.Lib
abbrev TB:TypeId:=83
abbrev T8:TypeId:=5
abbrev Bld (B b:Nat) (l:List UInt8) (w:World):Prop:=IsBuilderF TB T8 B b (byteCells l) w
abbrev Aside (b:Nat) (w w':World):Prop:=OthersKept T8 (some b) w w'
theorem yaxc:(Tryz.prog.info? TB).map (·.size)=some 2:=by kernel_rfl
theorem ybat:liesAt Tryz.prog Tryz.prog.depth TB (2 / Tryz.prog.cellsOf TB) 0 TB 1=true:=by kernel_rfl
theorem yawr:(Tryz.prog.info? T8).map (fun i=>(i.zero,i.size,i.bytes))=some (some (.int .u8 0),1,1):=by kernel_rfl
set_option maxHeartbeats 1000000 in
set_option maxRecDepth 100000 in
theorem zxl (b:Nat) (w:World) (h0:w.cell? ⟨b,0,none⟩=some (.pointer (some ⟨b,0,none⟩))) :
  Calls Tryz.prog 92 #[.pointer (some ⟨b,0,none⟩)] w fun e w'=>e=.returned (.tuple #[])∧w'=w:=by
 obtain ⟨j,hj,_⟩:=Option.map_eq_some_iff.1 yaxc
 go_enter Tryz.func92,Tryz.ntmps92
 go_wp2
 rw [run_neq_ptr_same w _ Tryz.underlying81 hj]
 go_wp2
 go_end0
 exact ⟨rfl,rfl⟩
set_option maxHeartbeats 1000000 in
set_option maxRecDepth 100000 in
theorem ztn (b:Nat) (w:World) (h0:w.cell? ⟨b,0,none⟩=some (.pointer none)) (hsh:w.shape? b=some (TB,2)) (hfz:w.frozen? ⟨b,0,none⟩=false) :
  Calls Tryz.prog 92 #[.pointer (some ⟨b,0,none⟩)] w fun e w'=>e=.returned (.tuple #[])∧w'=w.setCell ⟨b,0,none⟩ (.pointer (some ⟨b,0,none⟩)):=by
 obtain ⟨j,hj,hjs⟩:=Option.map_eq_some_iff.1 yaxc
 go_enter Tryz.func92,Tryz.ntmps92
 go_wp2
 rw [run_to_unsafe w ⟨b,0,none⟩ Tryz.underlying81 Tryz.underlying165 hj (by rw [hjs];decide) hsh (Nat.zero_lt_succ 1)]
 simp only [Result.andThen]
 rw [Oper.upon_value]
 go_wp2
 rw [run_callFunc_extern Tryz.func139 (by kernel_rfl) (by kernel_rfl) (by kernel_rfl) (e:=Extern.AbiNoEscape.same) (by kernel_rfl)]
 rw [run_noEscape]
 simp only [Result.andThen]
 rw [Oper.upon_value]
 go_wp2
 rw [run_from_unsafe w ⟨b,0,none⟩ Tryz.underlying165 Tryz.underlying81 hj hsh ybat]
 simp only [Result.andThen]
 rw [Oper.upon_value]
 go_wp2
 go_end0
 exact ⟨rfl,rfl⟩
theorem zv6 {B b:Nat} {l:List UInt8} {w:World} (h:Bld B b l w) :
  Calls Tryz.prog 92 #[.pointer (some ⟨b,0,none⟩)] w fun e w'=>e=.returned (.tuple #[])∧BuilderAtF TB T8 B b (.pointer (some ⟨b,0,none⟩)) (byteCells l) w'∧Below B w w'∧Aside b w w':=by
 rcases h with h | h
 ·refine (ztn b w h.cell0 h.shape h.frozen0).mono ?_
  rintro e w' ⟨rfl,rfl⟩
  exact ⟨rfl,h.used _,(Below.refl B w).setCell (p:=⟨b,0,none⟩) h.1 _,(OthersKept.refl T8 (some b) w).setCell ⟨b,0,none⟩ rfl _⟩
 ·refine (zxl b w h.cell0).mono ?_
  rintro e w' ⟨rfl,rfl⟩
  exact ⟨rfl,h,Below.refl B _,OthersKept.refl _ _ _⟩
theorem yaaf {w:World} {B n:Nat} {v:Value} {xs:List Value} (h:w.ownsRowF B T8 1 v n xs):∃ a n c,v=.slice a n c:=by
 rcases h.2 with ⟨hv,_⟩ | ⟨g,cap,cur,fz,hv,_⟩
 ·exact ⟨_,_,_,hv⟩
 ·exact ⟨_,_,_,hv⟩
theorem ztf {w:World} {B n:Nat} {v:Value} {xs:List Value} (h:w.ownsRowF B T8 1 v n xs):∀ g,v.ownBlock=some g→∃ c fz,w.heap[g]?=some (.cells c T8 fz):=by
 intro g hg
 rcases h.2 with ⟨rfl,_⟩ | ⟨g',cap,cur,fz,rfl,_,hh,_⟩
 ·simp [Value.ownBlock] at hg
 ·simp only [Value.ownBlock,Option.some.injEq] at hg
  subst hg
  exact ⟨_,_,hh⟩
set_option maxHeartbeats 2000000 in
set_option maxRecDepth 100000 in
theorem zh2 {B b:Nat} {l:List UInt8} {w:World} (h:Bld B b l w) (s:ByteArray) (hlen:l.length+s.size≤140737488355328) (hBw:B≤w.heap.size) :
  Calls Tryz.prog 46 #[.pointer (some ⟨b,0,none⟩),.string s] w fun e w'=>e=.returned (.tuple #[.int .i64 s.size,.nilIface])∧Bld B b (l++s.data.toList) w'∧Below B w w'∧Aside b w w':=by
 obtain ⟨i0,hi,hz0,hz1,hz2⟩:=info_parts yawr
 go_enter Tryz.func46,Tryz.ntmps46
 go_wp2_with (go_at_call 92;refine (zv6 h).mono ?_)
 rintro e w1 ⟨rfl,⟨hB,v,hbk,hown,hne⟩,hb1,ho1⟩
 have c0:w1.cell? ⟨b,0,none⟩=some (.pointer (some ⟨b,0,none⟩)):=by rw [cell_of_heap hbk];rfl
 have c1:w1.cell? ⟨b,1,none⟩=some v:=by rw [cell_of_heap hbk];rfl
 have hbl:(byteCells l).length=l.length:=by simp [byteCells]
 go_wp2_with (at_builtin;refine wpList_append_own_stringF _ rfl _ _ 67 9 rfl B T8 i0 Tryz.underlying67 Tryz.underlying9 hi hz0 hz1 hz2 _ _ _ rfl hown s rfl ?c3 ?c4 ?c5 ?_)
 case c3=>unfold maxLen;omega
 case c4=>omega
 case c5=>have:=hb1.size;omega
 intro v' w2 hown' hgrow _
 have hlt:b<w1.heap.size:=(Array.getElem?_eq_some_iff.1 hbk).1
 have hb2:w2.heap[b]?=some (.cells #[.pointer (some ⟨b,0,none⟩),v] TB (0,0)):=by
  rw [hgrow.block b hlt (fun e=>hne e.symm)]
  exact hbk
 have d0:w2.cell? ⟨b,0,none⟩=some (.pointer (some ⟨b,0,none⟩)):=by rw [cell_of_heap hb2];rfl
 have d1:w2.cell? ⟨b,1,none⟩=some v:=by rw [cell_of_heap hb2];rfl
 have f1:w2.frozen? ⟨b,1,none⟩=false:=frozen_of_heap hb2 1
 obtain ⟨ao,n',cap,rfl⟩:=yaaf hown'
 go_wp2
 go_ret2
 refine ⟨rfl,?_,?_,?_⟩
 ·right
  rw [byteCells_append]
  exact BuilderAtF.put hB hb2 (bs':=byteCells l++strCells s) (by rw [List.length_append,strCells_length,hbl];exact hown') (by decide)
 ·exact (hb1.grown hgrow (by have:=hb1.size;omega) (fun k hk=>(hown.lt k hk).1)).setCell (p:=⟨b,1,none⟩) hB _
 ·exact (ho1.grown hgrow (ztf hown)).setCell ⟨b,1,none⟩ rfl _
set_option maxHeartbeats 2000000 in
set_option maxRecDepth 100000 in
theorem zlb {B b:Nat} {l:List UInt8} {w:World} (h:Bld B b l w) (c:UInt8) (hlen:l.length+1≤140737488355328) (hBw:B≤w.heap.size) :
  Calls Tryz.prog 48 #[.pointer (some ⟨b,0,none⟩),.int .u8 c.toNat] w fun e w'=>e=.returned .nilIface∧Bld B b (l++[c]) w'∧Below B w w'∧Aside b w w':=by
 obtain ⟨i0,hi,hz0,hz1,hz2⟩:=info_parts yawr
 go_enter Tryz.func48,Tryz.ntmps48
 go_wp2_with (go_at_call 92;refine (zv6 h).mono ?_)
 rintro e w1 ⟨rfl,⟨hB,v,hbk,hown,hne⟩,hb1,ho1⟩
 have c0:w1.cell? ⟨b,0,none⟩=some (.pointer (some ⟨b,0,none⟩)):=by rw [cell_of_heap hbk];rfl
 have c1:w1.cell? ⟨b,1,none⟩=some v:=by rw [cell_of_heap hbk];rfl
 have hbl:(byteCells l).length=l.length:=by simp [byteCells]
 have hlt:b<w1.heap.size:=(Array.getElem?_eq_some_iff.1 hbk).1
 go_wp2_with (at_builtin;refine wpList_append_ownF _ rfl _ _ 67 rfl B T8 i0 (.int .u8 0) 1 1 Tryz.underlying67 hi hz0 hz1 hz2 rfl (by decide) _ _ _ rfl (hown.alloc _) ⟨w1.heap.size,0,none⟩ 1 1 [.int .u8 c.toNat] rfl rfl ?c1 ?c2 ?c3 ?c4 ?c5 ?_)
 case c1=>exact cell_one_new _ _ _
 case c2=>exact ints_oneCell .u8 [(c.toNat:Int)]
 case c3=>unfold maxLen;omega
 case c4=>omega
 case c5=>have:=hb1.size;simp;omega
 intro v' w2 hown' hgrow _
 have hb2:w2.heap[b]?=some (.cells #[.pointer (some ⟨b,0,none⟩),v] TB (0,0)):=by
  rw [hgrow.block b (by simp;omega) (fun e=>hne e.symm),Below.heap_alloc _ _ _ hlt]
  exact hbk
 have d0:w2.cell? ⟨b,0,none⟩=some (.pointer (some ⟨b,0,none⟩)):=by rw [cell_of_heap hb2];rfl
 have d1:w2.cell? ⟨b,1,none⟩=some v:=by rw [cell_of_heap hb2];rfl
 have f1:w2.frozen? ⟨b,1,none⟩=false:=frozen_of_heap hb2 1
 obtain ⟨ao,n',cap,rfl⟩:=yaaf hown'
 go_wp2
 go_ret
 refine ⟨rfl,?_,?_,?_⟩
 ·right
  rw [byteCells_append]
  exact BuilderAtF.put hB hb2 (bs':=byteCells l++[.int .u8 c.toNat]) (by rw [List.length_append,hbl];exact hown') (by decide)
 ·exact ((hb1.alloc (by have:=hb1.size;omega) _).grown hgrow (by have:=hb1.size;simp;omega) (fun k hk=>(hown.lt k hk).1)).setCell (p:=⟨b,1,none⟩) hB _
 ·exact ((ho1.alloc _).grown hgrow (ztf (hown.alloc _))).setCell ⟨b,1,none⟩ rfl _
def plcs (op:Int):List Int:=if op=10 then [3,0,1,4] else if op=11 then [3,0,4,1] else if op=12 then [4] else if op=13∨op=14 then [0,2,4] else if op=15 then [] else [0,2]
abbrev T47:TypeId:=92
def PlAt (op:Int) (a:Option Addr) (g:Nat) (w:World):Prop:=plcs op≠[]→a=some ⟨g,0,none⟩∧w.heap[g]?=some (.cells ((plcs op).map (Value.int .i64)).toArray T47 (0,0))
theorem zf7 (op:Int) (w:World):Calls Tryz.prog 47 #[.int .i64 op] w fun e w'=>∃ a,e=.returned (.slice a (plcs op).length (plcs op).length)∧PlAt op a w.heap.size w'∧Below w.heap.size w w':=by
 by_cases h10:op=10
 ·subst h10
  go_enter Tryz.func47,Tryz.ntmps47
  go_wp2
  go_ret
  exact ⟨_,rfl,fun _=>⟨rfl,zbt _ _⟩,za2 _ _⟩
 by_cases h11:op=11
 ·subst h11
  go_enter Tryz.func47,Tryz.ntmps47
  go_wp2
  go_ret
  exact ⟨_,rfl,fun _=>⟨rfl,zbt _ _⟩,za2 _ _⟩
 by_cases h12:op=12
 ·subst h12
  go_enter Tryz.func47,Tryz.ntmps47
  go_wp2
  go_ret
  exact ⟨_,rfl,fun _=>⟨rfl,zbt _ _⟩,za2 _ _⟩
 by_cases h13:op=13
 ·subst h13
  go_enter Tryz.func47,Tryz.ntmps47
  go_wp2
  go_ret
  exact ⟨_,rfl,fun _=>⟨rfl,zbt _ _⟩,za2 _ _⟩
 by_cases h14:op=14
 ·subst h14
  go_enter Tryz.func47,Tryz.ntmps47
  go_wp2
  go_ret
  exact ⟨_,rfl,fun _=>⟨rfl,zbt _ _⟩,za2 _ _⟩
 by_cases h15:op=15
 ·subst h15
  go_enter Tryz.func47,Tryz.ntmps47
  go_wp2
  go_ret
  exact ⟨_,rfl,fun h=>absurd rfl h,Below.refl _ _⟩
 have e:plcs op=[0,2]:=by simp [plcs,h10,h11,h12,h13,h14,h15]
 unfold PlAt
 rw [e]
 go_enter Tryz.func47,Tryz.ntmps47
 go_wp2
 go_ret
 exact ⟨_,rfl,fun _=>⟨rfl,zbt _ _⟩,za2 _ _⟩
def zed (i:Ins) (ps:List Int):List UInt8:=ps.flatMap fun p=>32::za7 i p
def zgj (i:Ins):List UInt8:=nmL (i.op - 1).toNat++zed i (plcs i.op)++[10]
def shown (L:List Ins):List UInt8:=L.flatMap zgj
structure Fld (i:Ins):Prop where
 o1:1≤i.op
 o2:i.op≤15
 d:-64≤i.d∧i.d≤64
 s:-64≤i.s∧i.s≤64
 f:-64≤i.of∧i.of≤64
theorem znb {P:Program} {f:FuncId} {A:Array Value} {args:List AV} {L:List Ins} {W:World} {b o c:Nat} {v:AV} {V:Value} (hP:PAt W b o L) (hA:(args.map (AV.g (fun _=>(b,o,c)))).toArray=A) (hV:∀ β,v.g β=V) (h:CallOK P ⟨f,args,pH L,⟨v,[],none⟩⟩) (hw:Gw W) :
  Calls P f A W fun e w'=>e=.returned V∧Below W.heap.size W w':=by
 have:=h.call (fun _=>(b,o,c)) W hw (fun k e he hw=>by rw [ro_p k e he] at hw;cases hw) (fun k e he=>?_) (fun k e _ _ he _ _ hw=>?_)
 ·rw [← hA]
  refine this.mono fun e w' ⟨β',he,hu⟩=>⟨by rw [he,← hV β'],?_⟩
  exact ⟨hu.frame.os,hu.frame.tape,hu.frame.output,hu.frame.size,fun k hk=>hu.frame.block k hk fun ⟨_,_,hm,_⟩=>by cases hm⟩
 ·obtain ⟨rfl,rfl⟩:=zsk he
  exact ⟨hP.1,fun j c hj=>hP.2 j c hj _,(fun h=>by cases h),fun h=>absurd rfl h⟩
 ·rw [ro_p k e he] at hw;cases hw
theorem yavj (w:World):Bld w.heap.size w.heap.size [] (w.alloc (.cells #[.pointer none,.slice none 0 0] TB (0,0))) :=
 Or.inl ⟨Nat.le_refl _,.slice none 0 0,zbt _ _,⟨rfl,.inl ⟨rfl,rfl⟩⟩,by simp [Value.ownBlock]⟩
theorem zoy {w w':World} (h:Below w.heap.size w w'):w.grownBy w' none:=⟨h.os,h.tape,h.output,h.size,fun k hk _=>h.block k hk⟩
theorem yaac {b:Nat} {p:Value} {l:List Value} {w w':World} {B:Nat} (h:BuilderAtF TB T8 B b p l w) (hb:Below w.heap.size w w'):BuilderAtF TB T8 B b p l w':=by
 have hlt:=h.lt
 obtain ⟨hB,v,hk,hown,hne⟩:=h
 exact ⟨hB,v,(hb.block b hlt).trans hk,hown.kept (zoy hb) (by cases hv:v.ownBlock <;> simp),hne⟩
theorem zwf {b:Nat} {l:List UInt8} {w w':World} {B:Nat} (h:Bld B b l w) (hb:Below w.heap.size w w'):Bld B b l w' :=
 h.imp (fun h=>yaac h hb) fun h=>yaac h hb
abbrev T36:TypeId:=84
structure Sh (B bn:Nat) (A:Array Value) (w1:World) (l:List UInt8) (w:World):Prop where
 bld:Bld B B l w
 nm:w.heap[bn]?=some (.cells A T36 (0,0))
 bel:Below B w1 w
 ne:bn≠B
 le:B≤w.heap.size
theorem Sh.below {B bn:Nat} {A:Array Value} {w1 w w':World} {l:List UInt8} (h:Sh B bn A w1 l w) (hb:Below w.heap.size w w'):Sh B bn A w1 l w' :=
 ⟨zwf h.bld hb,(hb.block bn (Array.getElem?_eq_some_iff.1 h.nm).1).trans h.nm,h.bel.trans (hb.mono h.le),h.ne,Nat.le_trans h.le hb.size⟩
theorem Sh.lt {B bn:Nat} {A:Array Value} {w1 w:World} {l:List UInt8} (h:Sh B bn A w1 l w):B<w.heap.size:=by
 rcases h.bld with h | h <;> exact h.lt
theorem yajv (k:Nat):(nmL k).length≤5:=by
 by_cases h:k<15
 ·have:∀ k,k<15→(nmL k).length≤5:=by decide
  exact this k h
 ·have:nmL k=[]:=by unfold nmL;rw [List.getD_eq_getElem?_getD,List.getElem?_eq_none (by show oNames.length≤k;have:oNames.length=15:=rfl;omega)];rfl
  rw [this];simp
theorem Sh.wrote {B bn:Nat} {A:Array Value} {w1 w w':World} {l l':List UInt8} (h:Sh B bn A w1 l w) (h1:Bld B B l' w') (h2:Below B w w') (h3:Aside B w w'):Sh B bn A w1 l' w' :=
 ⟨h1,h3 _ _ h.nm (by simpa using h.ne) (fun _ _ e=>by cases e),h.bel.trans h2,h.ne,Nat.le_trans h.le h2.size⟩
theorem yagi {op p:Int} (h:p∈plcs op):plc p:=by
 unfold plcs at h
 repeat' split at h
 all_goals (simp at h;try (unfold plc;omega))
theorem zhv (op:Int):(plcs op).length≤4:=by
 unfold plcs
 repeat' split
 all_goals decide
theorem zs1 {i:Ins} (h:Fld i) (p:Int):(za7 i p).length≤22:=by
 have h1:=Lib.itoa_length_le i.d (by have:=h.d;omega) (by have:=h.d;omega)
 have h2:=Lib.itoa_length_le i.s (by have:=h.s;omega) (by have:=h.s;omega)
 have h3:=Lib.itoa_length_le i.of (by have:=h.f;omega) (by have:=h.f;omega)
 have h4:(decDigits i.im.toNat).length≤20:=by rw [decDigits_length];exact nDigits_le20 _ (by have:=i.im.isLt;omega)
 unfold za7
 repeat' split
 all_goals (try simp only [List.length_cons]);omega
theorem zmw {i:Ins} (h:Fld i):∀ ps:List Int,(zed i ps).length≤23*ps.length
 | []=>by simp [zed]
 | p::ps=>by
  have h1:=zs1 h p
  have h2:=zmw h ps
  have e:(zed i (p::ps)).length=(za7 i p).length+1+(zed i ps).length:=by simp [zed,List.flatMap_cons];omega
  rw [e,List.length_cons];omega
theorem zqc {i:Ins} (h:Fld i):(zgj i).length≤98:=by
 have h1:=yajv (i.op - 1).toNat
 have h2:=zmw h (plcs i.op)
 have h3:=zhv i.op
 simp only [zgj,List.length_append,List.length_cons,List.length_nil];omega
theorem zg0:∀ {L:List Ins},(∀ i∈L,Fld i)→(shown L).length≤98*L.length
 | [],_=>by simp [shown]
 | i::L,h=>by
  have h1:=zqc (h i (by simp))
  have h2:=zg0 (L:=L) fun x hx=>h x (by simp [hx])
  have e:(shown (i::L)).length=(zgj i).length+(shown L).length:=by simp [shown,List.flatMap_cons]
  rw [e,List.length_cons];omega
theorem yaoy (ps:List Int) (m:Nat) (h:ps.length≤4):(ps.take m).length≤4:=by rw [List.length_take];omega
theorem yaeg {L:List Ins} {j t:Nat} {i:Ins} (h:L[j]?=some i) (ht:t<5):(pcell L)[j*5+t]?=i.cs[t]?:=by
 have hj:j<L.length:=(List.getElem?_eq_some_iff.1 h).1
 have hl:=zat L
 rw [List.getElem?_eq_getElem (by omega),List.getElem?_eq_getElem (show t<i.cs.length from ht)]
 have h1:=zwn hj ht (.b false)
 rw [List.getD_eq_getElem?_getD,List.getElem?_eq_getElem (by omega),List.getD_eq_getElem?_getD (l:=L),h,Option.getD_some,Option.getD_some,List.getD_eq_getElem?_getD,List.getElem?_eq_getElem (show t<i.cs.length from ht)] at h1
 simpa using h1
theorem zmv {α:Type} {l:List α} {n:Nat} {x:α} (h:l[n]?=some x):l.take (n+1)=l.take n++[x]:=by
 rw [List.take_add_one,h];rfl
abbrev icells (i:Ins):Array Value:=#[.int .i64 i.op,.int .i64 i.d,.int .i64 i.s,.int .u64 (nv i.im),.int .i64 i.of]
set_option maxHeartbeats 1000000 in
set_option maxRecDepth 100000 in
theorem zjy {L:List Ins} {w:World} {b o c:Nat} (hP:PAt w b o L) (hg:Gw w) (hL:L.length≤64) (he:zan L=0) (hF:∀ i∈L,Fld i) :
  Calls Tryz.prog 18 #[.slice (some ⟨b,o,none⟩) L.length c] w fun e w'=>e=.returned (.tuple #[.string ⟨(shown L).toArray⟩,.int .i64 0])∧Below w.heap.size w w':=by
 have hck:=znb (c:=c) (A:=#[.slice (some ⟨b,o,none⟩) L.length c]) hP rfl (fun _=>rfl) (zi0 L c) hg
 rw [he] at hck
 obtain ⟨A,hA,hA1,hA2⟩:∃ A,A=zgl (fun _=>false)∧A.size=16∧A.all (·.oneCell')=true:=⟨_,rfl,zs0 _,by kernel_rfl⟩
 have hnb:∀ w,Calls Tryz.prog 45 #[] w fun e w'=>e=.returned (.agg A)∧Below w.heap.size w w':=fun w=>by rw [hA];exact zu5 w
 have hnm:∀ i:Ins,Fld i→A[i.op.toNat]?=some (.string ⟨(nmL (i.op - 1).toNat).toArray⟩):=fun i hi=>by
  rw [hA,yaxz _ _ (by have:=hi.o2;omega)]
  obtain ⟨k,hk⟩:∃ k:Nat,i.op=(k:Int)+1:=⟨(i.op - 1).toNat,by have:=hi.o1;omega⟩
  rw [hk,show ((k:Int)+1).toNat=k+1 by omega,show ((k:Int)+1 - 1).toNat=k by omega]
  rfl
 have HNM:=Lib.hid hnm
 clear hA hnm
 go_enter Tryz.func18,Tryz.ntmps18
 go_wp2_with (first
  | (go_at_call 19;refine hck.mono ?_;rintro e w1 ⟨rfl,hb1⟩)
  | (go_at_call 45;refine (hnb _).mono ?_;rintro e w2 ⟨rfl,hb2⟩)
  | (refine wpList_store_row rfl T36 _ _ rfl w2.heap.size A rfl rfl T36 (Array.replicate 16 (.string ⟨#[]⟩)) (zbt _ _) (by rw [hA1];exact yaba) (by simp [hA1]) hA2 ?_)
  | go_in)
 have hsz:w.heap.size≤w1.heap.size:=hb1.size
 have hB2:Below w1.heap.size w1 w2:=zaq hb2
 have hg1:Gw w1:=hg.below hb1 hg.size'
 have h0:Sh w1.heap.size w2.heap.size A w1 [] ((w2.alloc (.cells (Array.replicate 16 (.string ⟨#[]⟩)) T36 (0,0))).setRow w2.heap.size A):=by
  have hlt:w1.heap.size<w2.heap.size:=Nat.lt_of_lt_of_le (by simp) hb2.size
  refine ⟨zwf (yavj w1) (ze5 (hb2.trans ((za2 w2 _).mono hb2.size)) hb2.size A),setRow_heap _ _ _ _ _ _ (zbt _ _),ze5 (hB2.trans ((za2 w2 _).mono hB2.size)) hB2.size A,by omega,?_⟩
  simp;omega
 have hcell:∀ wr j i,Below w1.heap.size w1 wr→L[j]?=some i→∀ t v,(icells i)[t]?=some v→wr.cell? ⟨b,o+j*5+t,none⟩=some v:=by
  intro wr j i hbel hi t v ht
  have ht5:t<5:=by
   have:=(Array.getElem?_eq_some_iff.1 ht).1
   simpa using this
  rw [hbel.cell (p:=⟨b,o+j*5+t,none⟩) (Nat.lt_of_lt_of_le hP.1 hsz),hb1.cell (p:=⟨b,o+j*5+t,none⟩) hP.1,Nat.add_assoc]
  obtain ⟨y,hy⟩:∃ y,i.cs[t]?=some y:=⟨_,List.getElem?_eq_getElem (show t<i.cs.length from ht5)⟩
  rw [hP.2 _ y ((yaeg hi ht5).trans hy) (fun _=>(0,0,0))]
  rw [← ht]
  match t,ht5,hy with
  | 0,_,hy=>simp [Ins.cs] at hy;subst hy;rfl
  | 1,_,hy=>simp [Ins.cs] at hy;subst hy;rfl
  | 2,_,hy=>simp [Ins.cs] at hy;subst hy;rfl
  | 3,_,hy=>simp [Ins.cs] at hy;subst hy;rfl
  | 4,_,hy=>simp [Ins.cs] at hy;subst hy;rfl
 have HC:=Lib.hid hcell
 have HP:=Lib.hid hP
 have HF:=Lib.hid hF
 clear hcell hck hP hF
 generalize hB:w1.heap.size=B at *
 generalize hbn:w2.heap.size=bn at *
 go_loopw [19] (fun v wr=>∃ j:Nat,j≤L.length∧v=.int .i64 j∧Sh B bn A w1 (shown (L.take j)) wr) (fun v _=>L.length - (RowKit.intOf v).toNat)
 case atStart=>exact ⟨0,by omega,rfl,h0⟩
 case round =>
  obtain ⟨j,hj,rfl,hsh⟩:=hrel
  by_cases hjl:j<L.length
  ·obtain ⟨wo,rfl⟩:∃ x,x=wr:=⟨_,rfl⟩
   obtain ⟨i,hi⟩:∃ i,L[j]?=some i:=⟨L[j],by simp [hjl]⟩
   have hfi:Fld i:=HF.out i (List.mem_of_getElem? hi)
   have q0:wo.cell? ⟨b,o+j*5,none⟩=some (.int .i64 i.op):=HC.out wo j i hsh.bel hi 0 _ rfl
   have q1:wo.cell? ⟨b,o+j*5+1,none⟩=some (.int .i64 i.d):=HC.out wo j i hsh.bel hi 1 _ rfl
   have q2:wo.cell? ⟨b,o+j*5+2,none⟩=some (.int .i64 i.s):=HC.out wo j i hsh.bel hi 2 _ rfl
   have q3:wo.cell? ⟨b,o+j*5+3,none⟩=some (.int .u64 (nv i.im)):=HC.out wo j i hsh.bel hi 3 _ rfl
   have q4:wo.cell? ⟨b,o+j*5+4,none⟩=some (.int .i64 i.of):=HC.out wo j i hsh.bel hi 4 _ rfl
   have hnml:=cell_of_row wo bn i.op.toNat _ _ _ hsh.nm
   rw [HNM.out i hfi] at hnml
   have hbn2:bn<wo.heap.size:=(Array.getElem?_eq_some_iff.1 hsh.nm).1
   have hb2':b<wo.heap.size:=by have h1:=HP.out.1;have h2:=hsh.lt;omega
   have ho1:=hfi.o1
   have ho2:=hfi.o2
   obtain ⟨op,hop⟩:∃ k:Nat,i.op=(k:Int):=⟨i.op.toNat,by omega⟩
   rw [hop] at q0 ho1 ho2
   rw [hop,Int.toNat_natCast] at hnml
   have hl0:(shown (L.take j)).length≤6400:=by have h1:=zg0 (L:=L.take j) (fun x hx=>HF.out x (List.mem_of_mem_take hx));rw [List.length_take] at h1;omega
   have hnl:=yajv (op - 1)
   have hBl:=hsh.lt
   have hsh1:∀ ob,Sh B bn A w1 (shown (L.take j)) (wo.alloc ob):=fun ob=>hsh.below (za2 _ _)
   have HS1:=Lib.hid hsh1
   have HG:=Lib.hid hg1
   clear hsh1 hg1
   go_wp2_with (first
    | (go_at_call 46;refine (zh2 (HS1.out _).bld _ (by simp only [ByteArray.size,List.size_toArray];omega) (HS1.out _).le).mono ?_;rintro e w4 ⟨rfl,hb4,hbl4,ha4⟩;have hsh4:=(HS1.out _).wrote hb4 hbl4 ha4;have hi4:=ha4 _ _ (zbt _ _) (by simp;omega) (fun _ _ e=>by cases e);have c4:=cell_of_row w4 wo.heap.size 0 _ _ _ hi4;have hlt4:=(Array.getElem?_eq_some_iff.1 hi4).1;clear ha4 hb4 hbl4)
    | (go_at_call 47;refine (zf7 _ _).mono ?_;rintro e w5 ⟨a,rfl,hpl,hb5⟩)
    | go_in)
   have hsh5:=hsh4.below hb5
   have hi5:=(hb5.block _ hlt4).trans hi4
   generalize hgg:w4.heap.size=g at *
   generalize hgi:wo.heap.size=gi at *
   clear hi4 c4 hsh4 q0 q1 q2 q3 q4 hnml
   go_loopw [32] (fun v wr=>∃ m:Nat,m≤(plcs (op:Int)).length∧v=.int .i64 m∧Sh B bn A w1 (shown (L.take j)++nmL (op - 1)++zed i ((plcs (op:Int)).take m)) wr∧PlAt (op:Int) a g wr∧wr.heap[gi]?=some (.cells #[.int .i64 (op:Int),.int .i64 i.d,.int .i64 i.s,.int .u64 (nv i.im),.int .i64 i.of] 55 (0,0))) (fun v _=>(plcs (op:Int)).length - (RowKit.intOf v).toNat)
   case atStart=>exact ⟨0,by omega,rfl,by simpa [zed] using hsh5,hpl,hi5⟩
   case round =>
    obtain ⟨m,hm,rfl,hshr,hplr,hir⟩:=hrel
    have hl1:(shown (L.take j)++nmL (op - 1)++zed i ((plcs (op:Int)).take m)).length≤7000:=by have h1:=zmw hfi ((plcs (op:Int)).take m);have h2:=yaoy (plcs (op:Int)) m (zhv _);simp only [List.length_append];omega
    have hp4:=zhv (op:Int)
    by_cases hml:m<(plcs (op:Int)).length
    ·obtain ⟨p,hp⟩:∃ p,(plcs (op:Int))[m]?=some p:=⟨(plcs (op:Int))[m],by simp [hml]⟩
     obtain ⟨rfl,hgr⟩:=hplr (by intro e;rw [e] at hml;simp at hml)
     have hcp:wr.cell? ⟨g,m,none⟩=some (.int .i64 p):=by rw [cell_of_row wr g m _ _ _ hgr];simp [hp]
     have hpp:plc p:=yagi (List.mem_of_getElem? hp)
     have hwl:=zs1 hfi p
     obtain ⟨W,hW⟩:∃ W,W=za7 i p:=⟨_,rfl⟩
     have hwa:∀ w,Gw w→Calls Tryz.prog 49 #[.int .i64 p,.agg #[.int .i64 (op:Int),.int .i64 i.d,.int .i64 i.s,.int .u64 (nv i.im),.int .i64 i.of]] w fun e w'=>e=.returned (.string ⟨W.toArray⟩)∧Below w.heap.size w w':=fun w hw=>by
      rw [hW,← hop];exact zif (fun _=>(0,0,0)) rfl (fun _=>rfl) (yak0 hpp (by have:=hfi.d;omega) (by have:=hfi.s;omega) (by have:=hfi.f;omega)) w hw
     rw [← hW] at hwl
     have HW:=Lib.hid hW
     have HM:=Lib.hid hml
     have hgB:∀ w',Below B w1 w'→Gw w':=fun w' h=>HG.out.below h (by have:=HG.out.size';omega)
     have HGB:=Lib.hid hgB
     clear hW hgB
     clear hpl h0 hb5 hi5 hsh5
     go_wp2_with (first
      | (go_at_call 48;refine (zlb hshr.bld 32 (by omega) hshr.le).mono ?_;rintro e w6 ⟨rfl,hb6,hbl6,ha6⟩;have hsh6:=hshr.wrote hb6 hbl6 ha6;have hi6:=ha6 _ _ hir (by simp;omega) (fun _ _ e=>by cases e);have hg6:=ha6 _ _ hgr (by simp;omega) (fun _ _ e=>by cases e);have d0:=cell_of_row w6 gi 0 _ _ _ hi6;have d1:=cell_of_row w6 gi 1 _ _ _ hi6;have d2:=cell_of_row w6 gi 2 _ _ _ hi6;have d3:=cell_of_row w6 gi 3 _ _ _ hi6;have d4:=cell_of_row w6 gi 4 _ _ _ hi6;have HG6:=Lib.hid (HGB.out _ hsh6.bel);clear hb6 hbl6 ha6)
      | (go_at_call 49;refine (hwa _ HG6.out).mono ?_;rintro e w7 ⟨rfl,hb7⟩;have hsh7:=hsh6.below hb7)
      | (go_at_call 46;refine (zh2 hsh7.bld _ (by simp only [ByteArray.size,List.size_toArray,List.length_append,List.length_cons,List.length_nil] at hl1 ⊢;omega) hsh7.le).mono ?_;rintro e w8 ⟨rfl,hb8,hbl8,ha8⟩)
      | go_in)
     have hlt7:gi<w6.heap.size:=(Array.getElem?_eq_some_iff.1 hi6).1
     have hlt8:g<w6.heap.size:=(Array.getElem?_eq_some_iff.1 hg6).1
     have hsh8:=hsh7.wrote hb8 hbl8 ha8
     have hi8:=ha8 _ _ ((hb7.block _ hlt7).trans hi6) (by simp;omega) (fun _ _ e=>by cases e)
     have hg8:=ha8 _ _ ((hb7.block _ hlt8).trans hg6) (by simp;omega) (fun _ _ e=>by cases e)
     have et:shown (L.take j)++nmL (op - 1)++zed i ((plcs (op:Int)).take m)++[32]++W=shown (L.take j)++nmL (op - 1)++zed i ((plcs (op:Int)).take (m+1)):=by
      rw [HW.out,zmv hp,zed,zed,List.flatMap_append]
      simp
     go_roundw
     case rel=>exact ⟨m+1,HM.out,by go_num,by rw [← et];exact hsh8,fun _=>⟨rfl,hg8⟩,hi8⟩
     case measure=>have:=HM.out;simp [RowKit.intOf];omega
    ·obtain rfl:m=(plcs (op:Int)).length:=by omega
     rw [List.take_length] at hshr hl1
     clear hpl h0 hb5 hi5 hsh5
     go_wp2_with (first
      | (go_at_call 48;refine (zlb hshr.bld 10 (by omega) hshr.le).mono ?_;rintro e w6 ⟨rfl,hb6,hbl6,ha6⟩)
      | go_in)
     have et:shown (L.take j)++nmL (op - 1)++zed i (plcs (op:Int))++[10]=shown (L.take (j+1)):=by
      rw [zmv hi,shown,shown,List.flatMap_append]
      simp [zgj,hop]
     go_roundw
     case rel=>exact ⟨j+1,by omega,by go_num,by rw [← et];exact hshr.wrote hb6 hbl6 ha6⟩
     case measure=>simp [RowKit.intOf];omega
  ·obtain rfl:j=L.length:=by omega
   have hbld:=hsh.bld
   rw [List.take_length] at hbld
   have hle:=hsh.le
   go_wp2_with (go_at_call 50;refine (Tryz.Builder_String_any_k B B (shown L) _ hbld hle).mono ?_;rintro e w9 ⟨rfl,hb9,hbl9,ha9⟩)
   go_ret2
   exact ⟨rfl,hb1.trans ((hsh.bel.trans hbl9).mono hsz)⟩
end Go.Proofs.YtkigmocchaikgabGreatDoor
namespace Go.Proofs.YtkigmocchaikgabGreatDoor
open Go.Shelf Go.RowKit Go.Sort Go.Lib Go.Maps
def zge (s:ByteArray) (c:UInt8):List ByteArray:=splitB ⟨#[c]⟩ 0 (countB s ⟨#[c]⟩) s
def zeb (i:Ins):List Int→List ByteArray→Option Ins
 | p::ps,x::xs=>match setW i p x with | some i'=>zeb i' ps xs | none=>none
 | _,_=>some i
def zr6 (ws:List ByteArray):Option Ins :=
 match zkp (ws.headD ⟨#[]⟩).data.toList with
 | none=>none
 | some k=>if ws.length=1+(plcs ((k:Int)+1)).length then zeb ⟨(k:Int)+1,0,0,0,0⟩ (plcs ((k:Int)+1)) ws.tail else none
def zoo (s:ByteArray):Option Ins:=zr6 (zge s 32)
theorem zom (s:ByteArray) (c:UInt8):(zge s c).length=countB s ⟨#[c]⟩+1:=splitB_all _ (by show 1≤(#[c]:Array UInt8).size;simp) 0 _ s rfl
theorem zju (sep:ByteArray):∀ (k:Nat) (s:ByteArray),∀ x∈splitB sep 0 k s,x.size≤s.size
 | 0,s,x,hx=>by simp [splitB] at hx;subst hx;exact Nat.le_refl _
 | k+1,s,x,hx=>by
  unfold splitB at hx
  split at hx
  ·simp at hx;subst hx;exact Nat.le_refl _
  ·rw [List.mem_cons] at hx
   rcases hx with rfl | hx
   ·rw [ByteArray.size_extract];omega
   ·have:=zju sep k _ x hx
    rw [ByteArray.size_extract] at this;omega
theorem zhg {α:Type} {l:List α} {n:Nat} {x:α} (h:l[n]?=some x):l.drop n=x::l.drop (n+1):=by
 obtain ⟨hlt,rfl⟩:=List.getElem?_eq_some_iff.1 h
 exact List.drop_eq_getElem_cons hlt
abbrev set5 (w:World) (g:Nat) (i:Ins):World:=((((w.setCell ⟨g,0,none⟩ (.int .i64 i.op)).setCell ⟨g,1,none⟩ (.int .i64 i.d)).setCell ⟨g,2,none⟩ (.int .i64 i.s)).setCell ⟨g,3,none⟩ (.int .u64 (nv i.im))).setCell ⟨g,4,none⟩ (.int .i64 i.of)
theorem yac2 (w:World) (g:Nat) (i:Ins) (X:Nat) (h:X≠g):(set5 w g i).heap[X]?=w.heap[X]?:=by
 rw [heap_setCell_other _ _ _ _ h,heap_setCell_other _ _ _ _ h,heap_setCell_other _ _ _ _ h,heap_setCell_other _ _ _ _ h,heap_setCell_other _ _ _ _ h]
theorem yafz {B:Nat} {w w':World} (h:Below B w w') {g:Nat} (hg:B≤g) (i:Ins):Below B w (set5 w' g i) :=
 ((((h.setCell hg _).setCell hg _).setCell hg _).setCell hg _).setCell hg _
theorem yahp (w:World) (g:Nat) (i:Ins) (cs:Array Value) {t:TypeId} (h:w.heap[g]?=some (.cells cs t (0,0))) (hc:cs.size=5):(set5 w g i).heap[g]?=some (.cells (icells i) t (0,0)):=by
 rw [heap_setCell_same _ _ _ _ _ _ (heap_setCell_same _ _ _ _ _ _ (heap_setCell_same _ _ _ _ _ _ (heap_setCell_same _ _ _ _ _ _ (heap_setCell_same _ _ _ _ _ _ h))))]
 obtain ⟨l⟩:=cs
 match l,hc with
 | [a,b,c,d,e],_=>rfl
theorem yafv (i:Ins):(icells i).all (·.oneCell')=true:=by
 simp [Value.oneCell']
theorem yasd:(Tryz.prog.info? 55).map (·.size)=some 5:=by kernel_rfl
abbrev T40:TypeId:=55
set_option maxHeartbeats 1000000 in
set_option maxRecDepth 100000 in
theorem zf0 {s:ByteArray} (hs:s.size≤4096) {w:World} {bm:Nat} (hm:yari w bm opsD) (hg:Gw w):Calls Tryz.prog 44 #[.map (some bm),.string s] w (Done w ((zoo s).map Ins.v)):=by
 obtain ⟨mm,hmm⟩:=hg.most
 have hg4:∀ ob,(w.alloc ob).cell? ⟨1,0,none⟩=some (.int .i64 mm):=fun ob=>by rw [(za2 w ob).cell (p:=⟨1,0,none⟩) (Nat.lt_of_lt_of_le (by show 1<8;omega) hg.size')];exact hmm
 obtain ⟨ws,hws⟩:∃ ws,ws=zge s 32:=⟨_,rfl⟩
 have hwl:=zom s 32
 rw [← hws] at hwl
 have hsp:∀ W:World,W.cell? ⟨1,0,none⟩=some (.int .i64 mm)→Calls Tryz.prog 42 #[.string s,.string ⟨#[32]⟩] W fun e w'=>e=.returned (.slice (some ⟨W.heap.size,0,none⟩) ws.length ws.length)∧w'=W.alloc (.cells (ws.map Value.string).toArray 9 (0,0)):=fun W hW=>by
  have:=Tryz.strings_Split s ⟨#[32]⟩ mm W (by omega) hW (by show 1≤(#[32]:Array UInt8).size;simp)
  rw [hwl,hws];exact this
 have hw4:∀ x∈ws,x.size≤4096:=fun x hx=>by rw [hws] at hx;exact Nat.le_trans (zju _ _ _ x hx) hs
 have hrd:zoo s=zr6 ws:=by rw [hws];rfl
 rw [hrd]
 clear hrd hws
 obtain ⟨x0,wt,rfl⟩:∃ x0 wt,ws=x0::wt:=by cases ws with | nil=>simp at hwl | cons a b=>exact ⟨_,_,rfl⟩
 have hx0:x0.size≤4096:=hw4 x0 (by simp)
 have HWL:=Lib.hid hwl
 have HW4:=Lib.hid hw4
 clear hwl hw4
 obtain ⟨ob,hob⟩:∃ ob,ob=Obj.cells #[.int .i64 0,.int .i64 0,.int .i64 0,.int .u64 0,.int .i64 0] T40 (0,0):=⟨_,rfl⟩
 unfold zr6
 simp only [List.headD_cons,List.tail_cons]
 cases hf:zkp x0.data.toList with
 | none =>
  go_enter Tryz.func44,Tryz.ntmps44
  go_wp2_with (first
   | (go_at_call 42;refine (hsp _ (hg4 _)).mono ?_;rintro e w1 ⟨rfl,rfl⟩)
   | (at_lookup;refine wpList_lookup_own_ok_int _ rfl _ _ 76 rfl 9 3 .i64 law Tryz.underlying76 Tryz.underlying3 (yasz _) bm 15 opsD rfl ((hm.alloc _).alloc _) _ _ rfl (Go.WideMaps.keyOf_string_mk Tryz.underlying9 (by unfold maxLen;omega)) ?_;intro c hc hcw;rw [yacl,hf] at hc;rw [zs4,hf])
   | (go_at_call 47;refine (zf7 _ _).mono ?_;rintro e w2 ⟨a,rfl,hpl,hb2⟩)
   | (go_at_call 90;refine (zh7 _).mono ?_;rintro e w3 ⟨rfl,rfl⟩)
   | go_in)
  exact ⟨rfl,rfl,zaq (zaq hb2)⟩
 | some k =>
  obtain ⟨hk,hxk⟩:=zho hf
  simp only
  by_cases hn:(x0::wt).length=1+(plcs ((k:Int)+1)).length
  ·rw [if_pos hn]
   have hne:((wt.length:Int)+1==1+((plcs ((k:Int)+1)).length:Int))=true:=beq_iff_eq.2 (by simp only [List.length_cons] at hn;omega)
   have hwn:wt.length=(plcs ((k:Int)+1)).length:=by simp only [List.length_cons] at hn;omega
   have HF:=Lib.hid hf
   have HNE:=Lib.hid hne
   have HX:=Lib.hid hxk
   have HWN:=Lib.hid hwn
   clear hne hf hxk hn hob hwn
   have hp4:=zhv ((k:Int)+1)
   go_enter Tryz.func44,Tryz.ntmps44
   go_wp2_with (first
    | (go_at_call 42;refine (hsp _ (hg4 _)).mono ?_;rintro e w1 ⟨rfl,rfl⟩)
    | (at_lookup;refine wpList_lookup_own_ok_int _ rfl _ _ 76 rfl 9 3 .i64 law Tryz.underlying76 Tryz.underlying3 (yasz _) bm 15 opsD rfl ((hm.alloc _).alloc _) _ _ rfl (Go.WideMaps.keyOf_string_mk Tryz.underlying9 (by unfold maxLen;omega)) ?_;intro c hc hcw;rw [yacl,HF.out] at hc;rw [zs4,HF.out];obtain rfl:c=(k:Int)+1:=by (simp at hc;exact hc.symm))
    | (go_at_call 47;refine (zf7 _ _).mono ?_;rintro e w2 ⟨a,rfl,hpl,hb2⟩)
    | (go_at_call 90;rw [HNE.out];refine (zi3 _).mono ?_;rintro e w3 ⟨rfl,rfl⟩)
    | go_in)
   obtain ⟨R,hR⟩:∃ R,R=zeb ⟨(k:Int)+1,0,0,0,0⟩ (plcs ((k:Int)+1)) wt:=⟨_,rfl⟩
   rw [← hR]
   have hgs:w.heap.size+1<w3.heap.size:=by have:=hb2.size;rw [yapw] at this;omega
   have hz:(w3.alloc (.cells (icells ⟨(k:Int)+1,0,0,0,0⟩) T40 (0,0))).heap[w.heap.size]?=some (.cells (icells ⟨0,0,0,0,0⟩) T40 (0,0)):=by
    rw [Below.heap_alloc _ _ _ (by omega),hb2.block _ (by simp;omega),Below.heap_alloc _ _ _ (by simp),zbt];rfl
   have hwd:(w3.alloc (.cells (icells ⟨(k:Int)+1,0,0,0,0⟩) T40 (0,0))).heap[w.heap.size+1]?=some (.cells ((x0::wt).map Value.string).toArray 9 (0,0)):=by
    rw [Below.heap_alloc _ _ _ hgs,hb2.block _ (by simp)]
    have e:=zbt (w.alloc (.cells (icells ⟨0,0,0,0,0⟩) T40 (0,0))) (.cells ((x0::wt).map Value.string).toArray 9 (0,0))
    rw [show (w.alloc (.cells (icells ⟨0,0,0,0,0⟩) T40 (0,0))).heap.size=w.heap.size+1 by simp] at e
    exact e
   have hpl2:PlAt ((k:Int)+1) a (w.heap.size+1+1) (w3.alloc (.cells (icells ⟨(k:Int)+1,0,0,0,0⟩) T40 (0,0))):=fun h=>by
    rw [yapw] at hpl
    obtain ⟨h1,h2⟩:=hpl h
    exact ⟨h1,by rw [Below.heap_alloc _ _ _ (Array.getElem?_eq_some_iff.1 h2).1];exact h2⟩
   have hbel2:Below w.heap.size w (w3.alloc (.cells (icells ⟨(k:Int)+1,0,0,0,0⟩) T40 (0,0))):=by
    have h3:=zaq (zaq hb2)
    exact h3.trans ((za2 w3 _).mono h3.size)
   have HG:=Lib.hid hg
   have HR:=Lib.hid hR
   clear hpl hb2 hsp hg4 hmm hg hR hm
   generalize hgi:w3.heap.size=gi at *
   go_loopw [38] (fun v wr=>∃ (n:Nat) (i:Ins),n≤(plcs ((k:Int)+1)).length∧v=.int .i64 n∧R=zeb i ((plcs ((k:Int)+1)).drop n) (wt.drop n)∧wr.heap[gi]?=some (.cells (icells i) T40 (0,0))∧PlAt ((k:Int)+1) a (w.heap.size+1+1) wr∧wr.heap[w.heap.size+1]?=some (.cells ((x0::wt).map Value.string).toArray 9 (0,0))∧wr.heap[w.heap.size]?=some (.cells (icells ⟨0,0,0,0,0⟩) T40 (0,0))∧Below w.heap.size w wr) (fun v _=>(plcs ((k:Int)+1)).length - (RowKit.intOf v).toNat)
   case atStart=>exact ⟨0,_,by omega,rfl,HR.out,by rw [← hgi];exact zbt _ _,hpl2,hwd,hz,hbel2⟩
   case round =>
    obtain ⟨n,i,hnl,rfl,hR2,hir,hplr,hwr,hzr,hbr⟩:=hrel
    have HR2:=Lib.hid hR2
    have HZ:=Lib.hid hzr
    have HB:=Lib.hid hbr
    have HWd:=Lib.hid hwr
    have q0:wr.cell? ⟨gi,0,none⟩=some (.int .i64 i.op):=cell_of_row wr gi 0 _ _ _ hir
    have q1:wr.cell? ⟨gi,1,none⟩=some (.int .i64 i.d):=cell_of_row wr gi 1 _ _ _ hir
    have q2:wr.cell? ⟨gi,2,none⟩=some (.int .i64 i.s):=cell_of_row wr gi 2 _ _ _ hir
    have q3:wr.cell? ⟨gi,3,none⟩=some (.int .u64 (nv i.im)):=cell_of_row wr gi 3 _ _ _ hir
    have q4:wr.cell? ⟨gi,4,none⟩=some (.int .i64 i.of):=cell_of_row wr gi 4 _ _ _ hir
    clear hR2 hzr hbr hwr
    by_cases hlt:n<(plcs ((k:Int)+1)).length
    ·obtain ⟨p,hp⟩:∃ p,(plcs ((k:Int)+1))[n]?=some p:=⟨(plcs ((k:Int)+1))[n],by simp [hlt]⟩
     obtain ⟨x,hx⟩:∃ x,wt[n]?=some x:=⟨wt[n]'(by rw [HWN.out];exact hlt),by simp [HWN.out,hlt]⟩
     obtain ⟨rfl,hgr⟩:=hplr (by intro e;rw [e] at hlt;simp at hlt)
     have hcp:wr.cell? ⟨w.heap.size+1+1,n,none⟩=some (.int .i64 p):=by rw [cell_of_row wr _ n _ _ _ hgr];simp [hp]
     have hcx:wr.cell? ⟨w.heap.size+1,n+1,none⟩=some (.string x):=by rw [cell_of_row wr _ (n+1) _ _ _ HWd.out];simp [hx]
     have hpp:plc p:=yagi (List.mem_of_getElem? hp)
     have hxs:x.size≤4096:=HW4.out x (by simp [List.mem_of_getElem? hx])
     have hwwl:n<wt.length:=by rw [HWN.out];exact hlt
     have Hpp:=Lib.hid hpp
     have Hxs:=Lib.hid hxs
     clear hpp hxs
     have HGw:=Lib.hid (HG.out.below HB.out HG.out.size')
     have HGr:=Lib.hid hgr
     have Hp:=Lib.hid hp
     have Hx:=Lib.hid hx
     have Hir:=Lib.hid hir
     clear hgr hp hx hir
     cases hset:setW i p x with
     | none =>
      have HS:=Lib.hid hset
      have hRn:R=none:=by rw [HR2.out,zhg Hp.out,zhg Hx.out];simp only [zeb,hset]
      clear hset
      subst hRn
      go_wp2
      have hn4:n≤4:=by omega
      have hi0:0≤1+(n:Int):=by omega
      have hi1:(1+(n:Int)).toNat=n+1:=by omega
      have hi2:1+(n:Int)<(wt.length:Int)+1:=by omega
      have hi3:IntKind.i64.wrap (1+(n:Int))=1+(n:Int):=by rw [IntKind.wrap_i64];omega
      clear hcw hc hk hx0 hs hnl hlt hcp hplr hgs hz hwd hpl2 hbel2
      refine wp_region_any (by kernel_rfl) ?_
      change wpAny _ _ _ _ _ _ _ (World.drew _)
      refine wpAny_take (i:=1) (v:=?_) rfl (by kernel_rfl) (by kernel_rfl) (by kernel_rfl) (fun _ _ _ h=>h) (Or.inl ⟨by rfl,?_⟩) ?_
      rotate_left
      ·intro w';go_simp;try with_reducible rfl
      refine wpAny_take (i:=2) (v:=?_) rfl (by kernel_rfl) (by kernel_rfl) (by kernel_rfl) (fun _ _ _ h=>h) (Or.inl ⟨by rfl,?_⟩) ?_
      rotate_left
      ·intro w';go_simp;try with_reducible rfl
      refine wpAny_take (i:=3) (v:=?_) rfl (by kernel_rfl) (by kernel_rfl) (by kernel_rfl) (fun _ _ _ h=>h) (Or.inl ⟨by rfl,?_⟩) ?_
      rotate_left
      ·intro w';go_simp;try with_reducible rfl
      refine wpAny_take (i:=4) (v:=?_) rfl (by kernel_rfl) (by kernel_rfl) (by kernel_rfl) (fun _ _ _ h=>h) (Or.inl ⟨by rfl,?_⟩) ?_
      rotate_left
      ·intro w';go_simp;try with_reducible rfl
      refine wpAny_take (i:=5) (v:=?_) rfl (by kernel_rfl) (by kernel_rfl) (by kernel_rfl) (fun _ _ _ h=>h) (Or.inl ⟨by rfl,?_⟩) ?_
      rotate_left
      ·intro w';go_simp;try with_reducible rfl
      refine wpAny_ready (rs:=[0,6]) (by kernel_rfl) (by simp) (AllReady.cons rfl (fun K hK=>?_) (AllReady.cons rfl (fun K hK=>?_) AllReady.nil))
      ·go_simp
       refine hK _ _ ?_;clear hK K
       refine wpAny_ready (rs:=[6]) (by kernel_rfl) (by simp) (AllReady.cons rfl (fun K hK=>?_) AllReady.nil)
       go_simp
       refine hK _ _ ?_;clear hK K
       refine wpAny_ready (rs:=[7]) (by kernel_rfl) (by simp) (AllReady.cons rfl (fun K hK=>?_) AllReady.nil)
       go_simp
       go_wp2_with (go_at_call 91;refine (zib (i:=i) Hpp.out Hxs.out (by exact HGw.out.keep (Nat.le_refl _) (fun _ _=>rfl))).mono ?_;rw [HS.out];rintro e w5 ⟨rfl,hb5⟩)
       exact ⟨rfl,rfl,HB.out.drew.trans (hb5.mono HB.out.size)⟩
      ·go_simp
       refine hK _ _ ?_;clear hK K
       refine wpAny_ready (rs:=[0]) (by kernel_rfl) (by simp) (AllReady.cons rfl (fun K hK=>?_) AllReady.nil)
       go_simp
       refine hK _ _ ?_;clear hK K
       refine wpAny_ready (rs:=[7]) (by kernel_rfl) (by simp) (AllReady.cons rfl (fun K hK=>?_) AllReady.nil)
       go_simp
       go_wp2_with (go_at_call 91;refine (zib (i:=i) Hpp.out Hxs.out (by exact HGw.out.keep (Nat.le_refl _) (fun _ _=>rfl))).mono ?_;rw [HS.out];rintro e w5 ⟨rfl,hb5⟩)
       exact ⟨rfl,rfl,HB.out.drew.trans (hb5.mono HB.out.size)⟩
     | some i' =>
      have HS:=Lib.hid hset
      have hRn:R=zeb i' ((plcs ((k:Int)+1)).drop (n+1)) (wt.drop (n+1)):=by rw [HR2.out,zhg Hp.out,zhg Hx.out];simp only [zeb,hset]
      have HRn:=Lib.hid hRn
      have hgl:gi<wr.heap.size:=(Array.getElem?_eq_some_iff.1 Hir.out).1
      clear hset hRn
      go_wp2
      have hn4:n≤4:=by omega
      have hi0:0≤1+(n:Int):=by omega
      have hi1:(1+(n:Int)).toNat=n+1:=by omega
      have hi2:1+(n:Int)<(wt.length:Int)+1:=by omega
      have hi3:IntKind.i64.wrap (1+(n:Int))=1+(n:Int):=by rw [IntKind.wrap_i64];omega
      have HLT:=Lib.hid hlt
      clear hcw hc hk hx0 hs hnl hlt hcp hplr hz hwd hpl2 hbel2
      go_region_with (go_at_call 91;refine (zib (i:=i) Hpp.out Hxs.out (by exact HGw.out.keep (Nat.le_refl _) (fun _ _=>rfl))).mono ?_;rw [HS.out];rintro e w5 ⟨rfl,hb5⟩;have hi5:=(hb5.block gi hgl).trans Hir.out;have r0:w5.cell? ⟨gi,0,none⟩=some (.int .i64 i.op):=cell_of_row w5 gi 0 _ _ _ hi5;have r1:w5.cell? ⟨gi,1,none⟩=some (.int .i64 i.d):=cell_of_row w5 gi 1 _ _ _ hi5;have r2:w5.cell? ⟨gi,2,none⟩=some (.int .i64 i.s):=cell_of_row w5 gi 2 _ _ _ hi5;have r3:w5.cell? ⟨gi,3,none⟩=some (.int .u64 (nv i.im)):=cell_of_row w5 gi 3 _ _ _ hi5;have r4:w5.cell? ⟨gi,4,none⟩=some (.int .i64 i.of):=cell_of_row w5 gi 4 _ _ _ hi5;have f0:=frozen_of_row w5 gi 0 _ _ hi5;have f1:=frozen_of_row w5 gi 1 _ _ hi5;have f2:=frozen_of_row w5 gi 2 _ _ hi5;have f3:=frozen_of_row w5 gi 3 _ _ hi5;have f4:=frozen_of_row w5 gi 4 _ _ hi5)
      all_goals (
       go_wp2
       have hne:w.heap.size+1+1≠gi:=fun e=>by
        have h1:=HGr.out
        rw [e,Hir.out] at h1
        injection h1 with h1
        injection h1 with _ h2 _
        exact absurd h2 (show ¬ T40=T47 by decide)
       have hk5:∀ X o,X≠gi→wr.heap[X]?=some o→(set5 w5 gi i').heap[X]?=some o:=fun X o hX ho=>by
        rw [yac2 w5 gi i' X hX,hb5.block X (Array.getElem?_eq_some_iff.1 ho).1];exact ho
       have hb6:Below w.heap.size w (set5 w5 gi i'):=yafz (HB.out.drew.trans (hb5.mono HB.out.size)) (by omega) i'
       go_roundw
       case rel=>exact ⟨n+1,i',HLT.out,by go_num,HRn.out,yahp w5 gi i' _ hi5 rfl,fun _=>⟨rfl,hk5 _ _ hne HGr.out⟩,hk5 _ _ (by omega) HWd.out,hk5 _ _ (by omega) HZ.out,hb6⟩
       case measure=>have:=HLT.out;simp [RowKit.intOf];omega)
    ·obtain rfl:n=(plcs ((k:Int)+1)).length:=by omega
     have hRi:R=some i:=by rw [HR2.out,List.drop_length];unfold zeb;rfl
     have HRi:=Lib.hid hRi
     have Hir:=Lib.hid hir
     clear hRi hir q0 q1 q2 q3 q4 hplr hcw hc hk hx0 hs hz hwd hpl2 hbel2 hgs
     have hB2:=setRow_heap wr w.heap.size _ (icells i) _ _ HZ.out
     have HB2:=Lib.hid hB2
     clear hB2
     go_wp2_with (first
      | (refine wpList_load_row rfl T40 _ rfl gi rfl _ (icells i) _ _ Hir.out Tryz.underlying55 rfl yasd ?_)
      | (refine wpList_store_row rfl T40 _ _ rfl w.heap.size (icells i) rfl rfl _ _ HZ.out yasd (by rfl) (yafv i) ?_)
      | go_in)
     refine bodyPost_ret (results_cell_row rfl _ _ w.heap.size _ (icells i) _ _ rfl HB2.out Tryz.underlying55 rfl yasd) rfl ?_
     rw [← HR.out,HRi.out]
     exact ⟨rfl,ze5 HB.out (Nat.le_refl _) _⟩
  ·rw [if_neg hn]
   have hne:((wt.length:Int)+1==1+((plcs ((k:Int)+1)).length:Int))=false:=beq_eq_false_iff_ne.2 (by simp only [List.length_cons] at hn;omega)
   have HF:=Lib.hid hf
   have HNE:=Lib.hid hne
   clear hne
   have HX:=Lib.hid hxk
   clear hf hxk hn hob
   have hp4:=zhv ((k:Int)+1)
   go_enter Tryz.func44,Tryz.ntmps44
   go_wp2_with (first
    | (go_at_call 42;refine (hsp _ (hg4 _)).mono ?_;rintro e w1 ⟨rfl,rfl⟩)
    | (at_lookup;refine wpList_lookup_own_ok_int _ rfl _ _ 76 rfl 9 3 .i64 law Tryz.underlying76 Tryz.underlying3 (yasz _) bm 15 opsD rfl ((hm.alloc _).alloc _) _ _ rfl (Go.WideMaps.keyOf_string_mk Tryz.underlying9 (by unfold maxLen;omega)) ?_;intro c hc hcw;rw [yacl,HF.out] at hc;rw [zs4,HF.out];obtain rfl:c=(k:Int)+1:=by (simp at hc;exact hc.symm))
    | (go_at_call 47;refine (zf7 _ _).mono ?_;rintro e w2 ⟨a,rfl,hpl,hb2⟩)
    | (go_at_call 90;rw [HNE.out];refine (zh7 _).mono ?_;rintro e w3 ⟨rfl,rfl⟩)
    | go_in)
   exact ⟨rfl,rfl,zaq (zaq hb2)⟩
theorem znx (p q:Nat) (sl bo:Value) (u:TypeId) (pv:Value) (older:List PanicEntry) (w:World) (hp:w.cell? ⟨p,0,none⟩=some sl) (fp:w.frozen? ⟨p,0,none⟩=false) (hq:w.cell? ⟨q,0,none⟩=some bo) (fq:w.frozen? ⟨q,0,none⟩=false) (hpq:q≠p) :
  CallsD Tryz.prog 40 #[.pointer (some ⟨p,0,none⟩),.pointer (some ⟨q,0,none⟩)] (.panicking ({ v:=.iface u pv,recovered:=false }::older)) w fun e u' w' =>
   e=.returned (.tuple #[])∧u'=.panicking ({ v:=.iface u pv,recovered:=true }::older)∧w'=(w.setCell ⟨p,0,none⟩ (.slice none 0 0)).setCell ⟨q,0,none⟩ (.bool false):=by
 have hq2:(w.setCell ⟨p,0,none⟩ (.slice none 0 0)).cell? ⟨q,0,none⟩=some bo:=by rw [World.cell?_of_block (w:=w) (heap_setCell_other _ _ _ _ hpq)];exact hq
 have fq2:(w.setCell ⟨p,0,none⟩ (.slice none 0 0)).frozen? ⟨q,0,none⟩=false:=by rw [World.frozen?_of_block (w:=w) (heap_setCell_other _ _ _ _ hpq)];exact fq
 refine callsD_of_wpS Tryz.func40 rfl fun c₀ cs hu=>?_
 apply wpS_seq
 apply wpS_region
 simp [wpOpsS,go_sem,recoverD,hu,Tryz.ntmps40,Exit.thenS]
 refine wpS_cond (t:=true) (by simp [Act.eval,Array.replicate]) ?_
 simp only [if_true]
 apply wpS_region
 simp [wpOpsS,go_sem,hp,fp,hq2,fq2,bodyPostS,results,Tryz.results40]
theorem yafh (p q:Nat) (w:World) :
  CallsD Tryz.prog 40 #[.pointer (some ⟨p,0,none⟩),.pointer (some ⟨q,0,none⟩)] .returning w fun e u' w'=>e=.returned (.tuple #[])∧u'=.returning∧w'=w:=by
 refine callsD_of_wpS Tryz.func40 rfl fun c₀ cs hu=>?_
 apply wpS_seq
 apply wpS_region
 simp [wpOpsS,go_sem,recoverD,hu,Tryz.ntmps40,Exit.thenS]
 refine wpS_cond (t:=false) (by simp [Act.eval,Array.replicate]) ?_
 simp only [Bool.false_eq_true,if_false]
 refine wpS_of_wp (wp_skip ?_)
 cases c₀
 simp_all [bodyPostS,results,Tryz.results40]
theorem yafk {L:List Ins} {w:World} {b o c:Nat} (hP:PAt w b o L) (hg:Gw w) (he:zan L≠0) :
  Calls Tryz.prog 18 #[.slice (some ⟨b,o,none⟩) L.length c] w fun e w'=>e=.returned (.tuple #[.string ⟨#[]⟩,.int .i64 (zan L)])∧Below w.heap.size w w':=by
 have hck:=znb (c:=c) (A:=#[.slice (some ⟨b,o,none⟩) L.length c]) hP rfl (fun _=>rfl) (zi0 L c) hg
 go_enter Tryz.func18,Tryz.ntmps18
 go_wp2_with (first
  | (go_at_call 19;refine hck.mono ?_;rintro e w1 ⟨rfl,hb1⟩)
  | go_in)
 go_ret2
 exact ⟨rfl,hb1⟩
end Go.Proofs.YtkigmocchaikgabGreatDoor
namespace Go.Proofs.YtkigmocchaikgabGreatDoor
open Go.Shelf Go.RowKit Go.Sort Go.Lib
theorem yav3 {i:Ins} {n:Nat} (hn:n≤64) (hk:zcl i=true) (hi:inB i n=true) (hb:zbc i=true):Fld i:=by
 obtain ⟨op,d,s,im,f⟩:=i
 simp only [zcl,Bool.and_eq_true,decide_eq_true_eq] at hk
 simp only [inB,regB,srcB,zch] at hi
 simp only [zbc] at hb
 refine ⟨hk.1,hk.2,?_,?_,?_⟩ <;> simp only
 all_goals
  repeat' split at hi
  all_goals
   repeat' split at hb
   all_goals
    simp only [Bool.and_eq_true,Bool.or_eq_true,decide_eq_true_eq] at hi hb
    omega
theorem zoc:∀ {L:List Ins} {i:Ins},zfq L=true→i∈L→∃ n:Nat,n<L.length∧inB i n=true
 | [],_,_,h=>by cases h
 | a::L,i,h,hm=>by
  simp only [zfq,Bool.and_eq_true] at h
  rw [List.mem_cons] at hm
  rcases hm with rfl | hm
  ·exact ⟨L.length,by simp,h.1⟩
  ·obtain ⟨n,hn,h2⟩:=zoc h.2 hm
   exact ⟨n,by simp;omega,h2⟩
theorem zg2 {L:List Ins} (h:zan L=0):L.length≤64∧∀ i∈L,Fld i:=by
 unfold zan at h
 split at h
 ·omega
 rename_i h1
 split at h
 ·omega
 rename_i h2
 split at h
 ·omega
 rename_i h3
 split at h
 ·omega
 rename_i h4
 refine ⟨by omega,fun i hi=>?_⟩
 have h2':L.all zcl=true:=by simpa using h2
 have h3':zfq L=true:=by simpa using h3
 have h4':L.all zbc=true:=by simpa using h4
 obtain ⟨n,hn,h5⟩:=zoc h3' hi
 exact yav3 (by omega) (List.all_eq_true.1 h2' i hi) h5 (List.all_eq_true.1 h4' i hi)
end Go.Proofs.YtkigmocchaikgabGreatDoor
namespace Go.Proofs.YtkigmocchaikgabGreatDoor
open Go.Shelf Go.RowKit Go.Sort Go.Lib Go.Maps
def zij:List ByteArray→Option (List Ins)
 | []=>some []
 | x::xs=>match zoo x with | some i=>(zij xs).map (i::·) | none=>none
def zir (s:ByteArray):List ByteArray:=zge ⟨(trimSuffix s.data.toList [10]).toArray⟩ 10
def accC (l:List Ins):List Value:=l.flatMap fun i=>(icells i).toList
abbrev T22:TypeId:=27
abbrev T4:TypeId:=4
structure Rl (B bl:Nat) (ls:List ByteArray) (w:World) (n:Nat) (acc:List Ins) (v:Value) (wr:World):Prop where
 all:zij ls=(zij (ls.drop n)).map (acc++·)
 len:acc.length=n
 l:wr.heap[B]?=some (.cells #[v] T22 (0,0))
 ok:wr.heap[B+1]?=some (.cells #[.bool false] T4 (0,0))
 lines:wr.heap[bl]?=some (.cells (ls.map Value.string).toArray 9 (0,0))
 map:yari wr (B+1+1) opsD
 own:wr.ownsRow (bl+1) T40 5 v n (accC acc)
 bel:Below B w wr
 big:bl+1≤wr.heap.size
 far:B+1+1<bl
theorem yar3:(Tryz.prog.info? T40).map (fun i=>(i.zero,i.size,i.bytes))=some (some (.agg #[.int .i64 0,.int .i64 0,.int .i64 0,.int .u64 0,.int .i64 0]),5,40):=by kernel_rfl
theorem zil (i:Ins):∀ u∈(icells i).toList,u.oneCell'=true:=fun u hu=>by
 simp at hu
 rcases hu with rfl | rfl | rfl | rfl | rfl <;> rfl
theorem zoa (w:World) (i:Ins):∀ j u,(icells i).toList[j]?=some u→(w.alloc (.cells (icells i) T40 (0,0))).cell? ((⟨w.heap.size,0,none⟩:Addr).add j)=some u:=fun j u h=>by
 rw [Lib.add_plain,cell_of_row _ _ _ _ _ _ (zbt _ _)]
 simpa using h
theorem zja {w:World} {B n:Nat} {v:Value} {xs:List Value} (h:w.ownsRow B T40 5 v n xs):∃ a n c,v=.slice a n c:=by
 rcases h.2 with ⟨hv,_⟩ | ⟨g,cap,cur,hv,_⟩
 ·exact ⟨_,_,_,hv⟩
 ·exact ⟨_,_,_,hv⟩
theorem zsb {B bl n:Nat} {ls:List ByteArray} {w wr w5:World} {acc:List Ins} {v:Value} {o:Obj} (h:Rl B bl ls w n acc v wr) (hb:Below wr.drew.heap.size wr.drew w5):(w5.alloc o).ownsRow (bl+1) T40 5 v n (accC acc):=by
 obtain ⟨h1,h2⟩:=h.own
 refine ⟨h1,h2.imp id ?_⟩
 rintro ⟨g,cap,cur,a,b,c,d⟩
 have h3:=(hb.block g (Array.getElem?_eq_some_iff.1 c).1).trans c
 exact ⟨g,cap,cur,a,b,(Below.heap_alloc _ _ _ (Array.getElem?_eq_some_iff.1 h3).1).trans h3,d⟩
theorem zn6 {B bl n:Nat} {ls:List ByteArray} {w wr w5:World} {acc:List Ins} {v:Value} {o:Obj} (h:Rl B bl ls w n acc v wr) (hb:Below wr.drew.heap.size wr.drew w5):bl+1≤(w5.alloc o).heap.size :=
 Nat.le_trans h.big (Nat.le_trans hb.size (za2 w5 o).size)
theorem yat3 {w:World} {B n:Nat} {v:Value} {xs:List Value} (h:w.ownsRow B T40 5 v n xs) {k:Nat} (hk:k<B):some k≠v.ownBlock:=by
 rcases h.2 with ⟨rfl,_⟩ | ⟨g,cap,cur,rfl,hg,_⟩
 ·simp [Value.ownBlock]
 ·simp [Value.ownBlock];omega
theorem zn7 {B bl n:Nat} {ls:List ByteArray} {w wr w5 w6:World} {acc:List Ins} {v:Value} {o ob:Obj} {k:Nat} (h:Rl B bl ls w n acc v wr) (hb:Below wr.drew.heap.size wr.drew w5) (hg:(w5.alloc o).grownBy w6 v.ownBlock) (hk:k<bl+1) (ho:wr.heap[k]?=some ob):w6.heap[k]?=some ob:=by
 have h1:w5.heap[k]?=some ob:=(hb.block k (Array.getElem?_eq_some_iff.1 ho).1).trans ho
 have hlt:=(Array.getElem?_eq_some_iff.1 h1).1
 rw [hg.block k (Nat.lt_of_lt_of_le hlt (za2 w5 o).size) (yat3 h.own hk),Below.heap_alloc _ _ _ hlt]
 exact h1
theorem yaix {B bl n:Nat} {ls:List ByteArray} {w wr w5 w6:World} {acc:List Ins} {v:Value} {o:Obj} (h:Rl B bl ls w n acc v wr) (hb:Below wr.drew.heap.size wr.drew w5) (hg:(w5.alloc o).grownBy w6 v.ownBlock):w6.heap[B]?=some (.cells #[v] T22 (0,0)) :=
 zn7 h hb hg (by have:=h.far;omega) h.l
theorem zzi {B bl n:Nat} {ls:List ByteArray} {w wr w5 w6:World} {acc:List Ins} {v v':Value} {o:Obj} {x:ByteArray} {i:Ins} (h:Rl B bl ls w n acc v wr) (hx:ls[n]?=some x) (hr:zoo x=some i) (hb:Below wr.drew.heap.size wr.drew w5) (hown:w6.ownsRow (bl+1) T40 5 v' (n+1) (accC acc++(icells i).toList)) (hg:(w5.alloc o).grownBy w6 v.ownBlock):Rl B bl ls w (n+1) (acc++[i]) v' (w6.setCell ⟨B,0,none⟩ v'):=by
 have hf:=h.far
 have hbg:=h.big
 have hB5:B≤w5.heap.size:=Nat.le_trans (by show B≤wr.heap.size;omega) hb.size
 have hbw:Below B w w5:=h.bel.drew.trans (hb.mono (by show B≤wr.heap.size;omega))
 have hb6:Below B w w6:=(hbw.alloc hB5 o).grown hg (Nat.le_trans hB5 (za2 w5 o).size) (fun k hk=>by
  rcases h.own.2 with ⟨rfl,_⟩ | ⟨g,cap,cur,rfl,hgb,_⟩
  ·simp [Value.ownBlock] at hk
  ·simp [Value.ownBlock] at hk;omega)
 refine ⟨?_,by simp [h.len],?_,?_,?_,?_,?_,hb6.setCell (Nat.le_refl _) _,?_,hf⟩
 ·rw [h.all,zhg hx]
  simp only [zij,hr,Option.map_map]
  congr 1
  funext l
  simp
 ·exact heap_setCell_same w6 B 0 _ _ v' (zn7 h hb hg (by omega) h.l)
 ·rw [heap_setCell_other _ _ _ _ (by simp)];exact zn7 h hb hg (by omega) h.ok
 ·rw [heap_setCell_other _ _ _ _ (by show bl≠B;omega)];exact zn7 h hb hg (by omega) h.lines
 ·obtain ⟨es,ck,hh,rest⟩:=h.map
  exact ⟨es,ck,(heap_setCell_other _ _ _ _ (by show B+1+1≠B;omega)).trans (zn7 h hb hg (by omega) hh),rest⟩
 ·have e:accC (acc++[i])=accC acc++(icells i).toList:=by simp [accC]
  rw [e]
  obtain ⟨h1,h2⟩:=hown
  refine ⟨h1,h2.imp id ?_⟩
  rintro ⟨g,cap,cur,a,b,c,d⟩
  exact ⟨g,cap,cur,a,b,(heap_setCell_other _ _ _ _ (by show g≠B;omega)).trans c,d⟩
 ·have h7:=hg.size
  have h8:=(za2 w5 o).size
  have h9:=hb.size
  have h10:wr.drew.heap.size=wr.heap.size:=rfl
  simp only [World.setCell,Array.size_modify]
  omega
theorem zkz {P:Program} {fn:Func} {t t':Array Value} {R:Ending→World→Prop} (h:results fn t=results fn t'):∀ (ds:List Deferred) (u:FrameMode) (w:World),Leaves P fn t R ds u w↔Leaves P fn t' R ds u w
 | [],.returning,w=>by simp only [Leaves,h]
 | [],.panicking _,w=>Iff.rfl
 | [],.run,w=>Iff.rfl
 | d::ds,u,w=>by simp only [Leaves,zkz h ds]
theorem yaum {a:Act} {k:Nat} (h2:k≠2) (h3:k≠3) (v:Value):results Tryz.f17 (a.put (some k) v).tmps=results Tryz.f17 a.tmps:=by
 simp [results,Tryz.results17,Act.put,Array.getElem?_setIfInBounds,h2,h3]
theorem yaow {P:Program} {R:Ending→World→Prop} {k:Nat} (h2:k≠2) (h3:k≠3) (v:Value) (c:List PanicEntry) (a:Act) (w:World) (h:Leaves P Tryz.f17 (a.put (some k) v).tmps R (a.put (some k) v).defers (.panicking c) w):Leaves P Tryz.f17 a.tmps R a.defers (.panicking c) w :=
 (zkz (yaum h2 h3 v) _ _ _).1 h
def Rd (B:Nat) (w:World):Option (List Ins)→Ending→World→Prop
 | none,e,w'=>e=.returned (.tuple #[.slice none 0 0,.bool false])∧Below B w w'
 | some L,e,w'=>(∃ v bl,e=.returned (.tuple #[v,.bool true])∧B≤bl∧w'.ownsRow bl T40 5 v L.length (accC L))∧Below B w w'
theorem caught (pv:Value) {B:Nat} {v bo:Value} {w w5:World} {t:Array Value} (k1:w5.heap[B]?=some (.cells #[v] T22 (0,0))) (k2:w5.heap[B+1]?=some (.cells #[bo] T4 (0,0))) (hb:Below B w w5) (t2:t.getD 2 undef=.pointer (some ⟨B,0,none⟩)) (t3:t.getD 3 undef=.pointer (some ⟨B+1,0,none⟩)) :
  Leaves Tryz.prog Tryz.f17 t (Rd B w none) [] (settle (.panicking [{ v:=pv,recovered:=true }])) ((w5.setCell ⟨B,0,none⟩ (.slice none 0 0)).setCell ⟨B+1,0,none⟩ (.bool false)):=by
 have c1:((w5.setCell ⟨B,0,none⟩ (.slice none 0 0)).setCell ⟨B+1,0,none⟩ (.bool false)).cell? ⟨B,0,none⟩=some (.slice none 0 0):=by
  rw [World.cell?_of_block (heap_setCell_other _ _ _ _ (by simp)),cell_of_row _ _ _ _ _ _ (heap_setCell_same _ _ _ _ _ _ k1)];rfl
 have c2:((w5.setCell ⟨B,0,none⟩ (.slice none 0 0)).setCell ⟨B+1,0,none⟩ (.bool false)).cell? ⟨B+1,0,none⟩=some (.bool false):=by
  rw [cell_of_row _ _ _ _ _ _ (heap_setCell_same _ _ _ _ _ _ ((heap_setCell_other _ _ _ _ (by simp)).trans k2))];rfl
 have t2':t[2]?.getD undef=.pointer (some ⟨B,0,none⟩):=by simpa using t2
 have t3':t[3]?.getD undef=.pointer (some ⟨B+1,0,none⟩):=by simpa using t3
 refine ⟨.tuple #[.slice none 0 0,.bool false],?_,rfl,(hb.setCell (Nat.le_refl _) _).setCell (Nat.le_succ _) _⟩
 generalize (w5.setCell ⟨B,0,none⟩ (.slice none 0 0)).setCell ⟨B+1,0,none⟩ (.bool false)=W at *
 simp [results,Tryz.results17,t2',t3',asAddr,go_sem,c1,c2]
theorem passed {bl:Nat} {ls:List ByteArray} {w wr:World} {acc:List Ins} {v:Value} {t:Array Value} (h:Rl w.heap.size bl ls w ls.length acc v wr) (t2:t.getD 2 undef=.pointer (some ⟨w.heap.size,0,none⟩)) (t3:t.getD 3 undef=.pointer (some ⟨w.heap.size+1,0,none⟩)) :
  Leaves Tryz.prog Tryz.f17 t (Rd w.heap.size w (some acc)) [] (settle .returning) ((wr.setCell ⟨w.heap.size,0,none⟩ v).setCell ⟨w.heap.size+1,0,none⟩ (.bool true)):=by
 have k1:(wr.setCell ⟨w.heap.size,0,none⟩ v).heap[w.heap.size]?=some (.cells #[v] T22 (0,0)):=heap_setCell_same wr _ 0 _ _ v h.l
 have k2:(wr.setCell ⟨w.heap.size,0,none⟩ v).heap[w.heap.size+1]?=some (.cells #[.bool false] T4 (0,0)):=(heap_setCell_other _ _ _ _ (by simp)).trans h.ok
 have c1:((wr.setCell ⟨w.heap.size,0,none⟩ v).setCell ⟨w.heap.size+1,0,none⟩ (.bool true)).cell? ⟨w.heap.size,0,none⟩=some v:=by
  rw [World.cell?_of_block (heap_setCell_other _ _ _ _ (by simp)),cell_of_row _ _ _ _ _ _ k1];rfl
 have c2:((wr.setCell ⟨w.heap.size,0,none⟩ v).setCell ⟨w.heap.size+1,0,none⟩ (.bool true)).cell? ⟨w.heap.size+1,0,none⟩=some (.bool true):=by
  rw [cell_of_row _ _ _ _ _ _ (heap_setCell_same _ _ _ _ _ _ k2)];rfl
 have t2':t[2]?.getD undef=.pointer (some ⟨w.heap.size,0,none⟩):=by simpa using t2
 have t3':t[3]?.getD undef=.pointer (some ⟨w.heap.size+1,0,none⟩):=by simpa using t3
 have hf:=h.far
 have hown:((wr.setCell ⟨w.heap.size,0,none⟩ v).setCell ⟨w.heap.size+1,0,none⟩ (.bool true)).ownsRow (bl+1) T40 5 v acc.length (accC acc):=by
  rw [h.len]
  obtain ⟨h1,h2⟩:=h.own
  refine ⟨h1,h2.imp id ?_⟩
  rintro ⟨g,cap,cur,a,b,c,d⟩
  exact ⟨g,cap,cur,a,b,(heap_setCell_other _ _ _ _ (by show g≠w.heap.size+1;omega)).trans ((heap_setCell_other _ _ _ _ (by show g≠w.heap.size;omega)).trans c),d⟩
 refine ⟨.tuple #[v,.bool true],?_,⟨v,bl+1,rfl,by omega,hown⟩,(h.bel.setCell (Nat.le_refl _) _).setCell (Nat.le_succ _) _⟩
 generalize (wr.setCell ⟨w.heap.size,0,none⟩ v).setCell ⟨w.heap.size+1,0,none⟩ (.bool true)=W at *
 simp [results,Tryz.results17,t2',t3',asAddr,go_sem,c1,c2]
set_option maxHeartbeats 1000000 in
set_option maxRecDepth 100000 in
theorem ztp {s:ByteArray} (hs:s.size≤4096) {w:World} (hg:Gw w) {R:Option (List Ins)} (hR:zij (zir s)=R) :
  Calls Tryz.prog 17 #[.string s] w (Rd w.heap.size w R):=by
 have hmf:∀ (fn:Fn) (first cap:Array Value) (w:World),(Instr.makeFunc fn first cap).run Tryz.prog w=.ok (.func fn first cap) w:=fun _ _ _ _=>rfl
 obtain ⟨mm,hmm⟩:=hg.most
 have htr:∀ W,Calls Tryz.prog 43 #[.string s,.string ⟨#[10]⟩] W fun e w'=>e=.returned (.string ⟨(trimSuffix s.data.toList [10]).toArray⟩)∧w'=W:=fun W=>Tryz.strings_TrimSuffix s ⟨#[10]⟩ W (by omega)
 obtain ⟨ls,hls⟩:∃ ls,ls=zir s:=⟨_,rfl⟩
 have hts:(ByteArray.mk (trimSuffix s.data.toList [10]).toArray).size≤4096:=by
  have h1:(ByteArray.mk (trimSuffix s.data.toList [10]).toArray).size=(trimSuffix s.data.toList [10]).length:=by simp [ByteArray.size]
  rw [h1]
  have h2:s.size=s.data.toList.length:=Lib.size_eq s
  unfold trimSuffix
  split
  ·rw [List.length_take];omega
  ·omega
 have hll:=zom ⟨(trimSuffix s.data.toList [10]).toArray⟩ 10
 rw [show zge ⟨(trimSuffix s.data.toList [10]).toArray⟩ 10=ls by rw [hls];rfl] at hll
 have hsp:∀ W:World,W.cell? ⟨1,0,none⟩=some (.int .i64 mm)→Calls Tryz.prog 42 #[.string ⟨(trimSuffix s.data.toList [10]).toArray⟩,.string ⟨#[10]⟩] W fun e w'=>e=.returned (.slice (some ⟨W.heap.size,0,none⟩) ls.length ls.length)∧w'=W.alloc (.cells (ls.map Value.string).toArray 9 (0,0)):=fun W hW=>by
  have:=Tryz.strings_Split ⟨(trimSuffix s.data.toList [10]).toArray⟩ ⟨#[10]⟩ mm W (by omega) hW (by show 1≤(#[10]:Array UInt8).size;simp)
  rw [hll,hls];exact this
 have hl4:∀ x∈ls,x.size≤4096:=fun x hx=>by rw [hls] at hx;exact Nat.le_trans (zju _ _ _ x hx) hts
 rw [← hls] at hR
 have h1:∀ W,Below w.heap.size w W→W.cell? ⟨1,0,none⟩=some (.int .i64 mm):=fun W h=>by rw [h.cell (p:=⟨1,0,none⟩) (Nat.lt_of_lt_of_le (by show 1<8;omega) hg.size')];exact hmm
 have HL4:=Lib.hid hl4
 have HLL:=Lib.hid hll
 have HR:=Lib.hid hR
 have HG:=Lib.hid hg
 have HTS:=Lib.hid hts
 clear hl4 hll hls hR hmm hts
 go_enter_defers Tryz.func17,Tryz.ntmps17
 go_wp2_with (first
  | (go_at_call 41;refine (zk0 _).mono ?_;rintro e w1 ⟨rfl,hm,hb⟩;rw [yapw] at hm)
  | (go_at_call 43;refine (htr _).mono ?_;rintro e w2 ⟨rfl,rfl⟩)
  | (go_at_call 42;refine (hsp _ (h1 _ (zaq (zaq hb)))).mono ?_;rintro e w3 ⟨rfl,rfl⟩)
  | go_in)
 have hb0:Below w.heap.size w w2:=zaq (zaq hb)
 have hsz:w.heap.size+1+1<w2.heap.size:=hm.lt
 have h0:Rl w.heap.size w2.heap.size ls w 0 [] (.slice none 0 0) (w2.alloc (.cells (ls.map Value.string).toArray 9 (0,0))):=by
  refine ⟨by simp,rfl,?_,?_,zbt _ _,hm.alloc _,⟨rfl,.inl ⟨rfl,rfl⟩⟩,hb0.trans ((za2 w2 _).mono hb0.size),by simp,hsz⟩
  ·rw [Below.heap_alloc _ _ _ (by omega),hb.block _ (by simp;omega),Below.heap_alloc _ _ _ (by simp),zbt]
  ·rw [Below.heap_alloc _ _ _ (by omega),hb.block _ (by simp)]
   have e:=zbt (w.alloc (.cells #[.slice none 0 0] T22 (0,0))) (.cells #[.bool false] T4 (0,0))
   rw [show (w.alloc (.cells #[.slice none 0 0] T22 (0,0))).heap.size=w.heap.size+1 by simp] at e
   exact e
 clear hm hb hsp htr h1 hg
 generalize hbl:w2.heap.size=bl at *
 go_loopw [13] (fun c wr=>∃ (n:Nat) (acc:List Ins) (v:Value),n≤ls.length∧c=.int .i64 n∧Rl w.heap.size bl ls w n acc v wr) (fun c _=>ls.length - (RowKit.intOf c).toNat)
 case atStart=>exact ⟨0,[],_,by omega,rfl,h0⟩
 case round =>
  obtain ⟨n,acc,v,hn,rfl,hrl⟩:=hrel
  by_cases hlt:n<ls.length
  ·obtain ⟨x,hx⟩:∃ x,ls[n]?=some x:=⟨ls[n],by simp [hlt]⟩
   have hcx:wr.cell? ⟨bl,n,none⟩=some (.string x):=by rw [cell_of_row wr _ n _ _ _ hrl.lines];simp [hx]
   have hcl:wr.cell? ⟨w.heap.size,0,none⟩=some v:=cell_of_row wr _ 0 _ _ _ hrl.l
   have Hx:=Lib.hid hx
   have hxs:x.size≤4096:=HL4.out x (List.mem_of_getElem? hx)
   have HXS:=Lib.hid hxs
   have HLT:=Lib.hid hlt
   have HM:=Lib.hid hrl.map
   have HGw:=Lib.hid (HG.out.below hrl.bel HG.out.size')
   clear hx hxs
   cases hr:zoo x with
   | none =>
    have HRx:=Lib.hid hr
    obtain rfl:R=none:=by rw [← HR.out,hrl.all,zhg Hx.out];simp only [zij,hr];rfl
    clear hr
    go_wp2
    clear h0 hn hlt
    refine wp_region_any (by kernel_rfl) ?_
    change wpAny _ _ _ _ _ _ _ (World.drew _)
    refine wpAny_take (i:=1) (v:=?_) rfl (by kernel_rfl) (by kernel_rfl) (by kernel_rfl) (fun c a w h=>yaow (by decide) (by decide) _ c a w h) (Or.inl ⟨by rfl,?_⟩) ?_
    rotate_left
    ·intro w';go_simp;try with_reducible rfl
    refine wpAny_take (i:=2) (v:=?_) rfl (by kernel_rfl) (by kernel_rfl) (by kernel_rfl) (fun c a w h=>yaow (by decide) (by decide) _ c a w h) (Or.inl ⟨by rfl,?_⟩) ?_
    rotate_left
    ·intro w';go_simp;try with_reducible rfl
    refine wpAny_ready (rs:=[0,3]) (by kernel_rfl) (by simp) (AllReady.cons rfl (fun K hK=>?_) (AllReady.cons rfl (fun K hK=>?_) AllReady.nil))
    ·go_simp
     refine hK _ _ ?_;clear hK K
     refine wpAny_ready (rs:=[3]) (by kernel_rfl) (by simp) (AllReady.cons rfl (fun K hK=>?_) AllReady.nil)
     go_simp
     go_wp2_with (go_at_call 44;refine (zf0 HXS.out (bm:=w.heap.size+1+1) (by exact HM.out) (by exact HGw.out.keep (Nat.le_refl _) (fun _ _=>rfl))).mono ?_;rw [HRx.out];rintro e w5 ⟨rfl,hb5⟩)
     refine leaves_cons (f:=40) (args:=#[.pointer (some ⟨w.heap.size,0,none⟩),.pointer (some ⟨w.heap.size+1,0,none⟩)]) (by simp) (by simp [go_sem]) ?_
     have k1:=(hb5.block _ (Array.getElem?_eq_some_iff.1 hrl.l).1).trans hrl.l
     have k2:=(hb5.block _ (Array.getElem?_eq_some_iff.1 hrl.ok).1).trans hrl.ok
     refine (znx w.heap.size (w.heap.size+1) v (.bool false) 22 _ [] w5 (cell_of_row w5 _ 0 _ _ _ k1) (frozen_of_row w5 _ 0 _ _ k1) (cell_of_row w5 _ 0 _ _ _ k2) (frozen_of_row w5 _ 0 _ _ k2) (by omega)).mono ?_
     rintro e u' w'' ⟨rfl,rfl,rfl⟩
     exact caught _ k1 k2 (hrl.bel.drew.trans (hb5.mono hrl.bel.size)) (by rfl) (by rfl)
    ·go_simp
     go_wp2_with (go_at_call 44;refine (zf0 HXS.out (bm:=w.heap.size+1+1) (by exact HM.out) (by exact HGw.out.keep (Nat.le_refl _) (fun _ _=>rfl))).mono ?_;rw [HRx.out];rintro e w5 ⟨rfl,hb5⟩)
     refine leaves_cons (f:=40) (args:=#[.pointer (some ⟨w.heap.size,0,none⟩),.pointer (some ⟨w.heap.size+1,0,none⟩)]) (by simp) (by simp [go_sem]) ?_
     have k1:=(hb5.block _ (Array.getElem?_eq_some_iff.1 hrl.l).1).trans hrl.l
     have k2:=(hb5.block _ (Array.getElem?_eq_some_iff.1 hrl.ok).1).trans hrl.ok
     refine (znx w.heap.size (w.heap.size+1) v (.bool false) 22 _ [] w5 (cell_of_row w5 _ 0 _ _ _ k1) (frozen_of_row w5 _ 0 _ _ k1) (cell_of_row w5 _ 0 _ _ _ k2) (frozen_of_row w5 _ 0 _ _ k2) (by omega)).mono ?_
     rintro e u' w'' ⟨rfl,rfl,rfl⟩
     exact caught _ k1 k2 (hrl.bel.drew.trans (hb5.mono hrl.bel.size)) (by rfl) (by rfl)
   | some i =>
    have HRx:=Lib.hid hr
    have hn6:n≤4096:=by have h7:=countB_le ⟨#[10]⟩ (by show 1≤(#[10]:Array UInt8).size;simp) _ ⟨(trimSuffix s.data.toList [10]).toArray⟩ (Nat.le_refl _);have h8:=HTS.out;have h9:=HLL.out;omega
    obtain ⟨i0,hi,hz0,hz1,hz2⟩:=info_parts yar3
    clear hr
    go_wp2
    clear h0 hn hlt
    refine wp_region_any (by kernel_rfl) ?_
    change wpAny _ _ _ _ _ _ _ (World.drew _)
    refine wpAny_take (i:=1) (v:=?_) rfl (by kernel_rfl) (by kernel_rfl) (by kernel_rfl) (fun c a w h=>yaow (by decide) (by decide) _ c a w h) (Or.inl ⟨by rfl,?_⟩) ?_
    rotate_left
    ·intro w';go_simp;try with_reducible rfl
    refine wpAny_take (i:=2) (v:=?_) rfl (by kernel_rfl) (by kernel_rfl) (by kernel_rfl) (fun c a w h=>yaow (by decide) (by decide) _ c a w h) (Or.inl ⟨by rfl,?_⟩) ?_
    rotate_left
    ·intro w';go_simp;try with_reducible rfl
    refine wpAny_ready (rs:=[0,3]) (by kernel_rfl) (by simp) (AllReady.cons rfl (fun K hK=>?_) (AllReady.cons rfl (fun K hK=>?_) AllReady.nil))
    ·go_simp
     refine hK _ _ ?_;clear hK K
     refine wpAny_ready (rs:=[3]) (by kernel_rfl) (by simp) (AllReady.cons rfl (fun K hK=>?_) AllReady.nil)
     go_simp
     go_wp2_with (go_at_call 44;refine (zf0 HXS.out (bm:=w.heap.size+1+1) (by exact HM.out) (by exact HGw.out.keep (Nat.le_refl _) (fun _ _=>rfl))).mono ?_;rw [HRx.out];rintro e w5 ⟨rfl,hb5⟩;have c5:w5.cell? ⟨w.heap.size,0,none⟩=some v:=cell_of_row w5 _ 0 _ _ _ ((hb5.block _ (Array.getElem?_eq_some_iff.1 hrl.l).1).trans hrl.l);have hlt5:w.heap.size<w5.heap.size:=Nat.lt_of_lt_of_le (Array.getElem?_eq_some_iff.1 hrl.l).1 hb5.size)
     refine wpAny_ready (rs:=[4]) (by kernel_rfl) (by simp) (AllReady.cons rfl (fun K hK=>?_) AllReady.nil)
     go_simp
     refine hK _ _ ?_;clear hK K
     refine wpAny_ready (rs:=[5]) (by kernel_rfl) (by simp) (AllReady.cons rfl (fun K hK=>?_) AllReady.nil)
     rw [if_pos (by simp [Region.wanted])]
     refine wp_append_own _ (.tmp 17) (.tmp 21) T22 rfl (bl+1) T40 i0 _ 5 40 Tryz.underlying27 hi hz0 hz1 hz2 rfl (by decide) v n (accC acc) rfl (zsb hrl hb5) ⟨w5.heap.size,0,none⟩ 1 1 (icells i).toList rfl rfl (zoa w5 i) (zil i) (by unfold maxLen;omega) (by omega) (zn6 hrl hb5) ?_
     intro v' w6 hown6 hgr6 _
     obtain ⟨ao,n',cap,rfl⟩:=zja hown6
     have k6:=yaix hrl hb5 hgr6
     have c6:w6.cell? ⟨w.heap.size,0,none⟩=some v:=cell_of_row w6 _ 0 _ _ _ k6
     have f6:w6.frozen? ⟨w.heap.size,0,none⟩=false:=frozen_of_row w6 _ 0 _ _ k6
     refine hK _ _ ?_;clear hK K
     refine wpAny_ready (rs:=[6]) (by kernel_rfl) (by simp) (AllReady.cons rfl (fun K hK=>?_) AllReady.nil)
     go_simp
     refine hK _ _ ?_;clear hK K
     refine wpAny_done (by kernel_rfl) ?_ _
     have hnx:=zzi hrl Hx.out HRx.out hb5 hown6 hgr6
     go_wp2
     go_roundw
     case rel=>exact ⟨n+1,acc++[i],_,HLT.out,by go_num,hnx⟩
     case measure=>have:=HLT.out;simp [RowKit.intOf];omega
    ·go_simp
     go_wp2_with (go_at_call 44;refine (zf0 HXS.out (bm:=w.heap.size+1+1) (by exact HM.out) (by exact HGw.out.keep (Nat.le_refl _) (fun _ _=>rfl))).mono ?_;rw [HRx.out];rintro e w5 ⟨rfl,hb5⟩;have c5:w5.cell? ⟨w.heap.size,0,none⟩=some v:=cell_of_row w5 _ 0 _ _ _ ((hb5.block _ (Array.getElem?_eq_some_iff.1 hrl.l).1).trans hrl.l);have hlt5:w.heap.size<w5.heap.size:=Nat.lt_of_lt_of_le (Array.getElem?_eq_some_iff.1 hrl.l).1 hb5.size)
     refine wpAny_ready (rs:=[0,4]) (by kernel_rfl) (by simp) (AllReady.cons rfl (fun K hK=>?_) (AllReady.cons rfl (fun K hK=>?_) AllReady.nil))
     ·go_simp
      refine hK _ _ ?_;clear hK K
      refine wpAny_ready (rs:=[4]) (by kernel_rfl) (by simp) (AllReady.cons rfl (fun K hK=>?_) AllReady.nil)
      go_simp
      refine hK _ _ ?_;clear hK K
      refine wpAny_ready (rs:=[5]) (by kernel_rfl) (by simp) (AllReady.cons rfl (fun K hK=>?_) AllReady.nil)
      rw [if_pos (by simp [Region.wanted])]
      refine wp_append_own _ (.tmp 17) (.tmp 21) T22 rfl (bl+1) T40 i0 _ 5 40 Tryz.underlying27 hi hz0 hz1 hz2 rfl (by decide) v n (accC acc) rfl (zsb hrl hb5) ⟨w5.heap.size,0,none⟩ 1 1 (icells i).toList rfl rfl (zoa w5 i) (zil i) (by unfold maxLen;omega) (by omega) (zn6 hrl hb5) ?_
      intro v' w6 hown6 hgr6 _
      obtain ⟨ao,n',cap,rfl⟩:=zja hown6
      have k6:=yaix hrl hb5 hgr6
      have c6:w6.cell? ⟨w.heap.size,0,none⟩=some v:=cell_of_row w6 _ 0 _ _ _ k6
      have f6:w6.frozen? ⟨w.heap.size,0,none⟩=false:=frozen_of_row w6 _ 0 _ _ k6
      refine hK _ _ ?_;clear hK K
      refine wpAny_ready (rs:=[6]) (by kernel_rfl) (by simp) (AllReady.cons rfl (fun K hK=>?_) AllReady.nil)
      go_simp
      refine hK _ _ ?_;clear hK K
      refine wpAny_done (by kernel_rfl) ?_ _
      have hnx:=zzi hrl Hx.out HRx.out hb5 hown6 hgr6
      go_wp2
      go_roundw
      case rel=>exact ⟨n+1,acc++[i],_,HLT.out,by go_num,hnx⟩
      case measure=>have:=HLT.out;simp [RowKit.intOf];omega
     ·go_simp
      refine hK _ _ ?_;clear hK K
      refine wpAny_ready (rs:=[0]) (by kernel_rfl) (by simp) (AllReady.cons rfl (fun K hK=>?_) AllReady.nil)
      go_simp
      refine hK _ _ ?_;clear hK K
      refine wpAny_ready (rs:=[5]) (by kernel_rfl) (by simp) (AllReady.cons rfl (fun K hK=>?_) AllReady.nil)
      rw [if_pos (by simp [Region.wanted])]
      refine wp_append_own _ (.tmp 17) (.tmp 21) T22 rfl (bl+1) T40 i0 _ 5 40 Tryz.underlying27 hi hz0 hz1 hz2 rfl (by decide) v n (accC acc) rfl (zsb hrl hb5) ⟨w5.heap.size,0,none⟩ 1 1 (icells i).toList rfl rfl (zoa w5 i) (zil i) (by unfold maxLen;omega) (by omega) (zn6 hrl hb5) ?_
      intro v' w6 hown6 hgr6 _
      obtain ⟨ao,n',cap,rfl⟩:=zja hown6
      have k6:=yaix hrl hb5 hgr6
      have c6:w6.cell? ⟨w.heap.size,0,none⟩=some v:=cell_of_row w6 _ 0 _ _ _ k6
      have f6:w6.frozen? ⟨w.heap.size,0,none⟩=false:=frozen_of_row w6 _ 0 _ _ k6
      refine hK _ _ ?_;clear hK K
      refine wpAny_ready (rs:=[6]) (by kernel_rfl) (by simp) (AllReady.cons rfl (fun K hK=>?_) AllReady.nil)
      go_simp
      refine hK _ _ ?_;clear hK K
      refine wpAny_done (by kernel_rfl) ?_ _
      have hnx:=zzi hrl Hx.out HRx.out hb5 hown6 hgr6
      go_wp2
      go_roundw
      case rel=>exact ⟨n+1,acc++[i],_,HLT.out,by go_num,hnx⟩
      case measure=>have:=HLT.out;simp [RowKit.intOf];omega
  ·obtain rfl:n=ls.length:=by omega
   have hR2:R=some acc:=by
    rw [← HR.out,hrl.all,List.drop_length];simp [zij]
   have HR2:=Lib.hid hR2
   have hcl:wr.cell? ⟨w.heap.size,0,none⟩=some v:=cell_of_row wr _ 0 _ _ _ hrl.l
   have hfl:wr.frozen? ⟨w.heap.size,0,none⟩=false:=frozen_of_row wr _ 0 _ _ hrl.l
   have k2:(wr.setCell ⟨w.heap.size,0,none⟩ v).heap[w.heap.size+1]?=some (.cells #[.bool false] T4 (0,0)):=(heap_setCell_other _ _ _ _ (by simp)).trans hrl.ok
   have hco:(wr.setCell ⟨w.heap.size,0,none⟩ v).cell? ⟨w.heap.size+1,0,none⟩=some (.bool false):=cell_of_row _ _ 0 _ _ _ k2
   have hfo:(wr.setCell ⟨w.heap.size,0,none⟩ v).frozen? ⟨w.heap.size+1,0,none⟩=false:=frozen_of_row _ _ 0 _ _ k2
   obtain ⟨ao,n',cap,rfl⟩:=zja hrl.own
   clear hR2 h0 k2
   go_wp2
   refine leaves_cons (f:=40) (args:=#[.pointer (some ⟨w.heap.size,0,none⟩),.pointer (some ⟨w.heap.size+1,0,none⟩)]) (by simp) (by simp [go_sem]) ?_
   refine (yafh w.heap.size (w.heap.size+1) _).mono ?_
   rintro e u' w'' ⟨rfl,rfl,rfl⟩
   rw [HR2.out]
   exact passed hrl (by rfl) (by rfl)
theorem zpp (s:ByteArray):∀ (n i:Nat) (r:List UInt8),s.size - i=n→ByteArray.toList.loop s i r=r.reverse++s.data.toList.drop i
 | 0,i,r,h=>by
  unfold ByteArray.toList.loop
  rw [if_neg (by omega),List.drop_eq_nil_of_le (by show s.data.toList.length≤i;simp;have:s.data.size=s.size:=rfl;omega),List.append_nil]
 | n+1,i,r,h=>by
  unfold ByteArray.toList.loop
  rw [if_pos (by omega),zpp s n (i+1) _ (by omega)]
  have hi:i<s.data.toList.length:=by simp;have:s.data.size=s.size:=rfl;omega
  rw [List.drop_eq_getElem_cons hi,List.reverse_cons,List.append_assoc]
  have:s.get! i=s.data.toList[i]:=by
   have h2:i<s.data.size:=by simpa using hi
   obtain ⟨a⟩:=s
   show a[i]! = _
   rw [getElem!_pos a i h2];simp
  rw [this];rfl
theorem zep (s:ByteArray):s.toList=s.data.toList:=by
 show ByteArray.toList.loop s 0 []=_
 rw [zpp s _ 0 [] rfl];simp
def zhy (s:ByteArray):Option (List Ins) :=
 if s.size≤4096 then
  match zij (zir s) with
  | none=>none
  | some L=>if zan L=0∧(⟨(shown L).toArray⟩:ByteArray)=s then some L else none
 else none
def Rr (B:Nat) (w:World):Option (List Ins)→Ending→World→Prop
 | none,e,w'=>e=.returned (.tuple #[.slice none 0 0,.int .i64 1])∧Below B w w'
 | some L,e,w'=>(∃ g c,e=.returned (.tuple #[.slice (some ⟨g,0,none⟩) L.length c,.int .i64 0])∧B≤g∧PAt w' g 0 L)∧Below B w w'
theorem yahs (β:Bs):∀ L:List Ins,accC L=(pcell L).map (AC.g β)
 | []=>rfl
 | i::L=>by
  have:=yahs β L
  show (icells i).toList++accC L=(i.cs++pcell L).map (AC.g β)
  rw [List.map_append,← this]
  rfl
theorem yayq {w:World} {bl:Nat} {v:Value} {L:List Ins} (h:w.ownsRow bl T40 5 v L.length (accC L)) (h0:L≠[]):∃ g c,v=.slice (some ⟨g,0,none⟩) L.length c∧bl≤g∧PAt w g 0 L:=by
 rcases h.2 with ⟨_,h1⟩ | ⟨g,cap,cur,rfl,hb,hc,h1,_,h2,h3⟩
 ·exact absurd (List.length_eq_zero_iff.1 h1) h0
 ·refine ⟨g,cap,rfl,hb,(Array.getElem?_eq_some_iff.1 hc).1,fun j c hj β=>?_⟩
  rw [cell_of_row w g _ _ _ _ hc,Nat.zero_add]
  have h4:(accC L)[j]?=some (AC.g β c):=by rw [yahs β,List.getElem?_map,hj];rfl
  rw [← h3,List.getElem?_take] at h4
  split at h4
  ·simpa using h4
  ·cases h4
theorem zt1:∀ {ls:List ByteArray} {L:List Ins},zij ls=some L→L.length=ls.length
 | [],L,h=>by simp [zij] at h;subst h;rfl
 | x::ls,L,h=>by
  unfold zij at h
  split at h
  ·rw [Option.map_eq_some_iff] at h
   obtain ⟨M,hM,rfl⟩:=h
   simp [zt1 hM]
  ·cases h
theorem yahy {w w':World} {b o:Nat} {L:List Ins} (h:PAt w b o L) (hb:Below w.heap.size w w'):PAt w' b o L :=
 ⟨Nat.lt_of_lt_of_le h.1 hb.size,fun j c hj β=>by rw [hb.cell (p:=⟨b,o+j,none⟩) h.1];exact h.2 j c hj β⟩
set_option maxHeartbeats 1000000 in
theorem yahx (s:ByteArray) {w:World} (hg:Gw w):Calls Tryz.prog 7 #[.string s] w (Rr w.heap.size w (zhy s)):=by
 unfold zhy
 by_cases hs:s.size≤4096
 ·rw [if_pos hs]
  have hrl:=ztp hs hg rfl
  cases hR:zij (zir s) with
  | none =>
   rw [hR] at hrl
   clear hR
   go_enter Tryz.func7,Tryz.ntmps7
   go_wp2_with (first
    | (go_at_call 17;refine hrl.mono ?_;rintro e w1 ⟨rfl,hb1⟩)
    | go_in)
   go_ret2
   exact ⟨rfl,hb1⟩
  | some L =>
   rw [hR] at hrl
   have hne:L≠[]:=fun e=>by
    have h1:=zt1 hR
    have h2:=zom ⟨(trimSuffix s.data.toList [10]).toArray⟩ 10
    rw [e] at h1
    have h3:(zir s).length=countB ⟨(trimSuffix s.data.toList [10]).toArray⟩ ⟨#[10]⟩+1:=h2
    simp only [List.length_nil] at h1
    omega
   clear hR
   simp only
   have hrl2:Calls Tryz.prog 17 #[.string s] w fun e w'=>∃ g c,e=.returned (.tuple #[.slice (some ⟨g,0,none⟩) L.length c,.bool true])∧w.heap.size≤g∧PAt w' g 0 L∧Below w.heap.size w w':=hrl.mono fun e w' ⟨⟨v,bl,he,hbl,ho⟩,hb⟩=>by
    obtain ⟨g,c,rfl,hg,hp⟩:=yayq ho hne
    exact ⟨g,c,he,Nat.le_trans hbl hg,hp,hb⟩
   clear hrl
   by_cases he:zan L=0
   ·obtain ⟨h64,hF⟩:=zg2 he
    by_cases hsh:(⟨(shown L).toArray⟩:ByteArray)=s
    ·rw [if_pos ⟨he,hsh⟩]
     have hso:∀ {w:World} {b o c:Nat},PAt w b o L→Gw w→Calls Tryz.prog 18 #[.slice (some ⟨b,o,none⟩) L.length c] w fun e w'=>e=.returned (.tuple #[.string s,.int .i64 0])∧Below w.heap.size w w':=fun hP hg=>by rw [← hsh];exact zjy hP hg h64 he hF
     clear hsh hF he hne
     go_enter Tryz.func7,Tryz.ntmps7
     go_wp2_with (first
      | (go_at_call 17;refine hrl2.mono ?_;rintro e w1 ⟨g,c,rfl,hg1,hp1,hb1⟩)
      | (go_at_call 18;refine (hso hp1 (hg.below hb1 hg.size')).mono ?_;rintro e w2 ⟨rfl,hb2⟩)
      | go_in)
     go_ret2
     exact ⟨⟨g,c,rfl,hg1,yahy hp1 hb2⟩,hb1.trans (hb2.mono hb1.size)⟩
    ·rw [if_neg (fun h=>hsh h.2)]
     obtain ⟨T,hT⟩:∃ T:ByteArray,T=⟨(shown L).toArray⟩:=⟨_,rfl⟩
     have hso:∀ {w:World} {b o c:Nat},PAt w b o L→Gw w→Calls Tryz.prog 18 #[.slice (some ⟨b,o,none⟩) L.length c] w fun e w'=>e=.returned (.tuple #[.string T,.int .i64 0])∧Below w.heap.size w w':=fun hP hg=>by rw [hT];exact zjy hP hg h64 he hF
     rw [← hT] at hsh
     have hsl:(T.toList==s.toList)=false:=by
      rw [zep,zep]
      refine beq_eq_false_iff_ne.2 fun e=>hsh ?_
      obtain ⟨⟨a⟩⟩:=T
      obtain ⟨⟨b⟩⟩:=s
      simp at e
      rw [e]
     clear hT hF he hne hsh
     go_enter Tryz.func7,Tryz.ntmps7
     go_wp2_with (first
      | (go_at_call 17;refine hrl2.mono ?_;rintro e w1 ⟨g,c,rfl,hg1,hp1,hb1⟩)
      | (go_at_call 18;refine (hso hp1 (hg.below hb1 hg.size')).mono ?_;rintro e w2 ⟨rfl,hb2⟩)
      | go_in)
     go_ret2
     exact ⟨rfl,hb1.trans (hb2.mono hb1.size)⟩
   ·rw [if_neg (fun h=>he h.1)]
    have hso:∀ {w:World} {b o c:Nat},PAt w b o L→Gw w→Calls Tryz.prog 18 #[.slice (some ⟨b,o,none⟩) L.length c] w fun e w'=>e=.returned (.tuple #[.string ⟨#[]⟩,.int .i64 (zan L)])∧Below w.heap.size w w':=fun hP hg=>yafk hP hg he
    go_enter Tryz.func7,Tryz.ntmps7
    go_wp2_with (first
     | (go_at_call 17;refine hrl2.mono ?_;rintro e w1 ⟨g,c,rfl,hg1,hp1,hb1⟩)
     | (go_at_call 18;refine (hso hp1 (hg.below hb1 hg.size')).mono ?_;rintro e w2 ⟨rfl,hb2⟩)
     | go_in)
    go_ret2
    exact ⟨rfl,hb1.trans (hb2.mono hb1.size)⟩
 ·rw [if_neg hs]
  have hs2:4096<(s.size:Int):=by omega
  go_enter Tryz.func7,Tryz.ntmps7
  go_wp2
  go_ret2
  exact ⟨rfl,Below.refl _ _⟩
end Go.Proofs.YtkigmocchaikgabGreatDoor
namespace Go.Proofs.YtkigmocchaikgabGreatDoor
open Go.Lib
theorem zfi {u:Nat} (h:u<10):decDigits u=[UInt8.ofNat (48+u)]:=by
 unfold decDigits;rw [dif_pos h]
theorem znr {u:Nat} (h:¬ u<10):decDigits u=decDigits (u / 10)++[UInt8.ofNat (48+u % 10)]:=by
 rw [decDigits,dif_neg h]
theorem zsx {d:Nat} (h:d<10):(UInt8.ofNat (48+d)).toNat=48+d:=by
 rw [UInt8.toNat_ofNat'];omega
theorem zpu (u:Nat):decDigits u≠[]:=fun e=>by
 have:=decDigits_length u
 rw [e] at this
 have:=nDigits_pos u
 simp at *
 omega
theorem zjn:∀ (u:Nat),∀ c∈decDigits u,48≤c.toNat∧c.toNat≤57:=fun u=>by
 induction u using Nat.strongRecOn with
 | _ u ih =>
  intro c hc
  by_cases h:u<10
  ·rw [zfi h,List.mem_singleton] at hc
   subst hc
   rw [zsx h];omega
  ·rw [znr h,List.mem_append,List.mem_singleton] at hc
   rcases hc with hc | rfl
   ·exact ih (u / 10) (by omega) c hc
   ·rw [zsx (by omega)];omega
theorem zug (M:Nat):∀ (l:List UInt8) (acc:Nat) (r:List UInt8) (v:Nat),parseUintM M acc l=.ok v→parseUintM M acc (l++r)=parseUintM M v r
 | [],acc,r,v,h=>by simp only [parseUintM] at h;injection h with h;subst h;rfl
 | c::l,acc,r,v,h=>by
  simp only [List.cons_append,parseUintM] at h ⊢
  split at h
  ·rename_i h1
   rw [if_pos h1]
   split at h
   ·cases h
   ·rename_i h2
    rw [if_neg h2]
    split at h
    ·cases h
    ·rename_i h3
     rw [if_neg h3]
     exact zug M l _ r v h
  ·cases h
theorem zuy (u:Nat) (hu:u<18446744073709551616):parseUintM 18446744073709551615 0 (decDigits u)=.ok u:=by
 induction u using Nat.strongRecOn with
 | _ u ih =>
  by_cases h:u<10
  ·rw [zfi h]
   simp only [parseUintM,zsx h]
   rw [if_pos (by omega),if_neg (by omega),if_neg (by omega)]
   congr 1;omega
  ·rw [znr h,zug _ _ _ _ _ (ih (u / 10) (by omega) (by omega))]
   simp only [parseUintM,zsx (show u % 10<10 by omega)]
   rw [if_pos (by omega),if_neg (by omega),if_neg (by omega)]
   congr 1;omega
theorem yaa9 (x:BitVec 64):numW ⟨(decDigits x.toNat).toArray⟩=some x:=by
 have h:=zuy x.toNat (by have:=x.isLt;omega)
 have h2:parseUintB 64 (decDigits x.toNat)=.ok x.toNat:=by
  unfold parseUintB
  rw [if_neg (zpu _)]
  exact h
 show ((match parseUintB 64 (decDigits x.toNat) with | .ok n=>some n | _=>none).map (BitVec.ofNat 64))=some x
 rw [h2]
 simp
theorem yajg:∀ (l:List UInt8) (acc:Nat),parseUint10 acc l=parseUintM 18446744073709551615 acc l
 | [],_=>rfl
 | c::l,acc=>by
  simp only [parseUint10,parseUintM]
  have e:(18446744073709551616≤acc*10+(c.toNat - 48))=(18446744073709551615<acc*10+(c.toNat - 48)):=propext ⟨fun h=>by omega,fun h=>by omega⟩
  simp only [e,yajg l]
theorem yajo (u:Nat) (hu:u<18446744073709551616):parseMag (decDigits u)=.ok u:=by
 unfold parseMag
 rw [if_neg (zpu _),yajg,zuy u hu]
theorem zvp (n:Int) (h0:-64≤n) (h1:n≤64):sgnB ⟨(itoa n).toArray⟩=some n:=by
 have key:atoiAll (itoa n)=.ok n:=by
  by_cases hn:n<0
  ·rw [itoa,if_pos hn]
   unfold atoiAll
   simp only
   rw [if_pos (Or.inr (by decide)),yajo _ (by omega)]
   simp only
   rw [if_neg (by intro h;exact h.1 (by decide)),if_neg (by omega),if_pos (by decide)]
   congr 1;omega
  ·rw [itoa,if_neg hn]
   obtain ⟨c,r,hc⟩:∃ c r,decDigits n.toNat=c::r:=by
    cases h:decDigits n.toNat with
    | nil=>exact absurd h (zpu _)
    | cons c r=>exact ⟨c,r,rfl⟩
   have hd:=zjn n.toNat c (by rw [hc];simp)
   have hm:=yajo n.toNat (by omega)
   rw [hc] at hm ⊢
   unfold atoiAll
   simp only
   rw [if_neg (by omega),hm]
   simp only
   rw [if_neg (by omega),if_neg (by omega),if_neg (by omega)]
   congr 1;omega
 show (match atoiAll (itoa n) with | .ok n=>some n | _=>none)=some n
 rw [key]
theorem znw (n:Int) (h0:-64≤n) (h1:n≤64):regW ⟨(114::itoa n).toArray⟩=some n:=by
 have h:=zvp n h0 h1
 show (if hasPrefix (114::itoa n) [114] then sgnB ⟨(trimPrefix (114::itoa n) [114]).toArray⟩ else none)=some n
 have hp:hasPrefix (114::itoa n) [114]=true:=by simp [hasPrefix]
 rw [if_pos hp]
 have ht:trimPrefix (114::itoa n) [114]=itoa n:=by
  unfold trimPrefix;rw [if_pos hp];rfl
 rw [ht];exact h
abbrev zm4 (i:Ins) (p:Int):ByteArray:=⟨(za7 i p).toArray⟩
theorem yaty (u:Nat):hasPrefix (decDigits u) [114]=false:=by
 cases h:decDigits u with
 | nil=>exact absurd h (zpu u)
 | cons c r =>
  have:=zjn u c (by rw [h];simp)
  have hc:c≠114:=fun e=>by subst e;exact absurd this.2 (by decide)
  show ((114:UInt8)==c&&_)=false
  rw [beq_eq_false_iff_ne.2 (fun e=>hc e.symm),Bool.false_and]
theorem set0 {i:Ins} (h:Fld i) (j:Ins):setW j 0 (zm4 i 0)=some { j with d:=i.d }:=by
 show (regW ⟨(114::itoa i.d).toArray⟩).map _=_
 rw [znw i.d h.d.1 h.d.2];rfl
theorem set1 {i:Ins} (h:Fld i) (j:Ins):setW j 1 (zm4 i 1)=some { j with s:=i.s }:=by
 show (regW ⟨(114::itoa i.s).toArray⟩).map _=_
 rw [znw i.s h.s.1 h.s.2];rfl
theorem yazj {i:Ins} (h:Fld i) (hs:i.s≠-1) (j:Ins):setW j 2 (zm4 i 2)=some { j with s:=i.s }:=by
 have e:zm4 i 2=⟨(114::itoa i.s).toArray⟩:=by simp [zm4,za7,hs]
 have hp:hasPrefix (114::itoa i.s) [114]=true:=by simp [hasPrefix]
 rw [e]
 simp only [setW,if_neg (show ¬ (2:Int)=0 by decide)]
 rw [if_pos (Or.inr ⟨trivial,hp⟩),znw i.s h.s.1 h.s.2];rfl
theorem yayw {i:Ins} (hs:i.s=-1) (j:Ins):setW j 2 (zm4 i 2)=some { j with s:=-1,im:=i.im }:=by
 have e:zm4 i 2=⟨(decDigits i.im.toNat).toArray⟩:=by simp [zm4,za7,hs]
 have hp:=yaty i.im.toNat
 rw [e]
 simp only [setW,if_neg (show ¬ (2:Int)=0 by decide)]
 rw [if_neg (by rintro (h | h);exact absurd h (by decide);exact absurd (hp.symm.trans h.2) (by decide)),if_pos trivial,yaa9];rfl
theorem set3 (i j:Ins):setW j 3 (zm4 i 3)=some { j with im:=i.im }:=by
 show (numW ⟨(decDigits i.im.toNat).toArray⟩).map _=_
 rw [yaa9];rfl
theorem set4 {i:Ins} (h:Fld i) (j:Ins):setW j 4 (zm4 i 4)=some { j with of:=i.of }:=by
 show (sgnB ⟨(itoa i.of).toArray⟩).map _=_
 rw [zvp i.of h.f.1 h.f.2];rfl
theorem zfb {x:BitVec 64} (h:eqb x 0#64=true):x=0:=by
 simpa [eqb] using h
theorem yajm {i:Ins} (h:Fld i) (hb:zbc i=true):zeb ⟨i.op,0,0,0,0⟩ (plcs i.op) ((plcs i.op).map (zm4 i))=some i:=by
 have h1:=h.o1
 have h2:=h.o2
 unfold zbc at hb
 by_cases h10:i.op=10
 ·rw [show plcs i.op=[3,0,1,4] by simp [plcs,h10]]
  simp only [List.map_cons,List.map_nil,zeb,set3,set0 h,set1 h,set4 h]
 by_cases h11:i.op=11
 ·rw [show plcs i.op=[3,0,4,1] by simp [plcs,h11]]
  simp only [List.map_cons,List.map_nil,zeb,set3,set0 h,set1 h,set4 h]
 rw [if_neg (by omega)] at hb
 by_cases h12:i.op=12
 ·rw [if_pos h12] at hb
  simp only [Bool.and_eq_true,decide_eq_true_eq] at hb
  rw [show plcs i.op=[4] by simp [plcs,h12]]
  simp only [List.map_cons,List.map_nil,zeb,set4 h]
  obtain ⟨op,d,s,im,f⟩:=i
  simp only at hb ⊢
  rw [hb.1.1,hb.1.2,zfb hb.2]
 rw [if_neg h12] at hb
 by_cases h13:i.op=13∨i.op=14
 ·rw [if_pos h13] at hb
  rw [show plcs i.op=[0,2,4] by unfold plcs;rw [if_neg h10,if_neg h11,if_neg h12,if_pos h13]]
  by_cases hs:i.s=-1
  ·simp only [List.map_cons,List.map_nil,zeb,set0 h,yayw hs,set4 h]
   obtain ⟨op,d,s,im,f⟩:=i
   simp only at hs ⊢
   rw [hs]
  ·simp only [Bool.or_eq_true,decide_eq_true_eq] at hb
   have hm:=zfb (hb.resolve_left hs)
   simp only [List.map_cons,List.map_nil,zeb,set0 h,yazj h hs,set4 h]
   obtain ⟨op,d,s,im,f⟩:=i
   simp only at hm ⊢
   rw [hm]
 rw [if_neg h13] at hb
 by_cases h15:i.op=15
 ·rw [if_pos h15] at hb
  simp only [Bool.and_eq_true,decide_eq_true_eq] at hb
  rw [show plcs i.op=[] by simp [plcs,h15]]
  obtain ⟨op,d,s,im,f⟩:=i
  simp only [zeb] at hb ⊢
  rw [hb.1.1.1,hb.1.1.2,zfb hb.1.2,hb.2]
 rw [if_neg h15] at hb
 simp only [Bool.and_eq_true,Bool.or_eq_true,decide_eq_true_eq] at hb
 rw [show plcs i.op=[0,2] by unfold plcs;rw [if_neg h10,if_neg h11,if_neg h12,if_neg h13,if_neg h15]]
 by_cases hs:i.s=-1
 ·simp only [List.map_cons,List.map_nil,zeb,set0 h,yayw hs]
  obtain ⟨op,d,s,im,f⟩:=i
  simp only at hs hb ⊢
  rw [hs,hb.1]
 ·have hm:=zfb (hb.2.resolve_left hs)
  simp only [List.map_cons,List.map_nil,zeb,set0 h,yazj h hs]
  obtain ⟨op,d,s,im,f⟩:=i
  simp only at hm hb ⊢
  rw [hm,hb.1]
theorem zqj (c:UInt8):∀ w:List UInt8,c∉w→index w [c]=-1
 | [],_=>rfl
 | b::w,h=>by
  simp only [List.mem_cons,not_or] at h
  unfold index
  have hp:[c].isPrefixOf (b::w)=false:=by
   show (c==b&&_)=false
   rw [beq_eq_false_iff_ne.2 h.1,Bool.false_and]
  rw [hp,zqj c w h.2]
  rfl
theorem yab9 (c:UInt8) (r:List UInt8):∀ w:List UInt8,c∉w→index (w++c::r) [c]=w.length
 | [],_=>by
  show index (c::r) [c]=0
  unfold index
  rw [if_pos (by show (c==c&&_)=true;simp)]
 | b::w,h=>by
  simp only [List.mem_cons,not_or] at h
  have ih:=yab9 c r w h.2
  rw [List.cons_append]
  unfold index
  have hp:[c].isPrefixOf (b::(w++c::r))=false:=by
   show (c==b&&_)=false
   rw [beq_eq_false_iff_ne.2 h.1,Bool.false_and]
  rw [hp,ih,if_neg (by decide),if_neg (by simp),List.length_cons]
  omega
def zfc (c:UInt8):List (List UInt8)→List UInt8
 | []=>[]
 | [w]=>w
 | w::x::ws=>w++c::zfc c (x::ws)
theorem zp4 (c:UInt8):∀ (ws:List (List UInt8)),ws≠[]→(∀ w∈ws,c∉w)→Lib.split (zfc c ws) [c]=ws
 | [],h,_=>absurd rfl h
 | [w],_,h=>by
  have hi:=zqj c w (h w (by simp))
  show splitK [c] 0 (count w [c]) w=[w]
  rw [count_miss hi];rfl
 | w::x::ws,_,h=>by
  have hi:=yab9 c (zfc c (x::ws)) w (h w (by simp))
  have ih:=zp4 c (x::ws) (by simp) (fun y hy=>h y (List.mem_cons_of_mem _ hy))
  show splitK [c] 0 (count (w++c::zfc c (x::ws)) [c]) (w++c::zfc c (x::ws))=_
  have hd:(w++c::zfc c (x::ws)).drop (w.length+[c].length)=zfc c (x::ws):=by
   rw [List.drop_append];simp
  rw [count_hit (by simp) hi,hd,Nat.add_comm]
  unfold splitK
  rw [if_neg (by rw [hi];simp),hi]
  have hn:((w.length:Int)).toNat=w.length:=by omega
  rw [hn,hd,Nat.add_zero,List.take_left]
  exact congrArg _ ih
theorem yafu (s:ByteArray) (c:UInt8):(zge s c).map (·.data.toList)=Lib.split s.data.toList [c]:=splitB_data _ _ _ _
theorem zp9 {c:UInt8} {s:ByteArray} {ws:List (List UInt8)} (hs:s.data.toList=zfc c ws) (h0:ws≠[]) (h:∀ w∈ws,c∉w):zge s c=ws.map fun l=>⟨l.toArray⟩:=by
 have h1:=yafu s c
 rw [hs,zp4 c ws h0 h] at h1
 have h2:(zge s c).map (fun b:ByteArray=>(⟨b.data.toList.toArray⟩:ByteArray))=ws.map fun l=>⟨l.toArray⟩:=by
  rw [← h1,List.map_map];rfl
 rw [← h2]
 have:∀ l:List ByteArray,l.map (fun b:ByteArray=>(⟨b.data.toList.toArray⟩:ByteArray))=l:=fun l=>by
  induction l with
  | nil=>rfl
  | cons a l ih=>simp only [List.map_cons,ih]
 exact (this _).symm
theorem yak8 {c:UInt8} (hc:c.toNat<48) (u:Nat):c∉decDigits u:=fun h=>by
 have:=zjn u c h;omega
theorem zx7 {c:UInt8} (hc:c.toNat<45) (n:Int):c∉itoa n:=by
 unfold itoa
 split
 ·intro h
  rw [List.mem_cons] at h
  rcases h with rfl | h
  ·exact absurd hc (by decide)
  ·exact yak8 (by omega) _ h
 ·exact yak8 (by omega) _
theorem zxh {c:UInt8} (hc:c.toNat<45) (i:Ins) (p:Int):c∉za7 i p:=by
 have h114:c≠114:=fun e=>by subst e;exact absurd hc (by decide)
 unfold za7
 repeat' split
 ·simp only [List.mem_cons,not_or];exact ⟨h114,zx7 hc _⟩
 ·simp only [List.mem_cons,not_or];exact ⟨h114,zx7 hc _⟩
 ·exact zx7 hc _
 ·exact yak8 (by omega) _
theorem yau2 {c:UInt8} (hc:c.toNat<45) (k:Nat) (hk:k<15):c∉nmL k:=fun h=>by
 have:∀ k,k<15→∀ x∈nmL k,45≤x.toNat:=by decide
 have:=this k hk c h
 omega
theorem zm5 (i:Ins):∀ (nm:List UInt8) (ps:List Int),nm++zed i ps=zfc 32 (nm::ps.map (za7 i))
 | nm,[]=>by simp [zed,zfc]
 | nm,p::ps=>by
  have ih:=zm5 i (za7 i p) ps
  show nm++(32::za7 i p++zed i ps)=nm++32::zfc 32 (za7 i p::ps.map (za7 i))
  rw [← ih];rfl
def zdu (i:Ins):List UInt8:=nmL (i.op - 1).toNat++zed i (plcs i.op)
theorem zxe {i:Ins} (h:Fld i) (hb:zbc i=true) {s:ByteArray} (hs:s.data.toList=zdu i):zoo s=some i:=by
 have h1:=h.o1
 have h2:=h.o2
 obtain ⟨k,hk⟩:∃ k:Nat,i.op=(k:Int)+1:=⟨(i.op - 1).toNat,by omega⟩
 have hk15:k<15:=by omega
 have hw:zge s 32=(nmL k::(plcs i.op).map (za7 i)).map fun l=>⟨l.toArray⟩:=by
  refine zp9 (c:=32) ?_ (by simp) ?_
  ·rw [hs,zdu,show (i.op - 1).toNat=k by omega,zm5]
  ·intro w hw
   rw [List.mem_cons,List.mem_map] at hw
   rcases hw with rfl | ⟨p,_,rfl⟩
   ·exact yau2 (by decide) k hk15
   ·exact zxh (by decide) i p
 unfold zoo
 rw [hw]
 unfold zr6
 simp only [List.map_cons,List.headD_cons,List.tail_cons,List.length_cons,List.length_map]
 rw [zlj k hk15]
 simp only
 rw [← hk,if_pos (by omega),List.map_map]
 exact yajm h hb
theorem yak5 {i:Ins} (h:Fld i):(10:UInt8)∉zdu i:=by
 have h1:=h.o1
 have h2:=h.o2
 unfold zdu
 rw [List.mem_append,not_or]
 refine ⟨yau2 (by decide) _ (by omega),?_⟩
 unfold zed
 rw [List.mem_flatMap]
 rintro ⟨p,_,hp⟩
 rw [List.mem_cons] at hp
 rcases hp with hp | hp
 ·exact absurd hp (by decide)
 ·exact zxh (by decide) i p hp
theorem zkj:∀ (i:Ins) (L:List Ins),shown (i::L)=zfc 10 ((i::L).map zdu)++[10]
 | i,[]=>by simp [shown,zgj,zdu,zfc]
 | i,j::L=>by
  have ih:=zkj j L
  have e:shown (i::j::L)=zdu i++10::shown (j::L):=by simp [shown,zgj,zdu]
  rw [e,ih]
  show _=(zdu i++10::zfc 10 ((j::L).map zdu))++[10]
  simp
theorem yary (l:List UInt8):trimSuffix (l++[10]) [10]=l:=by
 have hp:hasSuffix (l++[10]) [10]=true:=by
  unfold hasSuffix
  simp
 unfold trimSuffix
 rw [if_pos hp]
 simp
theorem zpz:∀ {L:List Ins},(∀ i∈L,Fld i∧zbc i=true)→zij ((L.map zdu).map fun l=>⟨l.toArray⟩)=some L
 | [],_=>rfl
 | i::L,h=>by
  have h1:=h i (by simp)
  have ih:=zpz (L:=L) fun x hx=>h x (by simp [hx])
  simp only [List.map_cons,zij]
  rw [zxe h1.1 h1.2 (s:=⟨(zdu i).toArray⟩) (by simp)]
  simp only
  rw [ih];rfl
theorem zw5 {L:List Ins} (h:zan L=0):∀ i∈L,zbc i=true:=by
 unfold zan at h
 repeat' split at h
 all_goals try omega
 rename_i h4 _
 intro i hi
 have h4':L.all zbc=true:=by simpa using h4
 exact List.all_eq_true.1 h4' i hi
theorem zmd {L:List Ins} (h:zan L=0) (hs:(⟨(shown L).toArray⟩:ByteArray).size≤4096):zhy ⟨(shown L).toArray⟩=some L:=by
 obtain ⟨_,hF⟩:=zg2 h
 have hB:=zw5 h
 have hl:zij (zir ⟨(shown L).toArray⟩)=some L:=by
  cases L with
  | nil=>simp [zan] at h
  | cons i M =>
   have hw:zir ⟨(shown (i::M)).toArray⟩=((i::M).map zdu).map fun l=>⟨l.toArray⟩:=by
    refine zp9 (c:=10) ?_ (by simp) ?_
    ·show trimSuffix (shown (i::M)) [10]=_
     rw [zkj,yary]
    ·intro w hw
     rw [List.mem_map] at hw
     obtain ⟨x,hx,rfl⟩:=hw
     exact yak5 (hF x hx)
   rw [hw]
   exact zpz fun x hx=>⟨hF x hx,hB x hx⟩
 unfold zhy
 rw [if_pos hs,hl]
 simp only
 rw [if_pos ⟨h,trivial⟩]
end Go.Proofs.YtkigmocchaikgabGreatDoor
namespace Go.Proofs.YtkigmocchaikgabGreatDoor
open Go.RowKit Go.Lib
def cutL (c:UInt8):Nat→List UInt8→List UInt8→List (List UInt8)
 | 0,_,_=>[]
 | _+1,cur,[]=>[cur]
 | k+1,cur,x::xs=>if x=c then cur::cutL c k [] xs else cutL c (k+1) (cur++[x]) xs
theorem zl3 (c:UInt8) (k:Nat):∀ (w cur r:List UInt8),c∉w→cutL c (k+1) cur (w++r)=cutL c (k+1) (cur++w) r
 | [],cur,r,_=>by simp
 | b::w,cur,r,h=>by
  simp only [List.mem_cons,not_or] at h
  rw [List.cons_append,cutL,if_neg (fun e=>h.1 e.symm),zl3 c k w _ r h.2]
  simp
theorem zml (c:UInt8):∀ (ws:List (List UInt8)) (k:Nat),ws≠[]→(∀ w∈ws,c∉w)→ws.length≤k→cutL c k [] (zfc c ws)=ws
 | [],_,h,_,_=>absurd rfl h
 | _::_,0,_,_,hk=>absurd hk (by simp)
 | [w],k+1,_,h,_=>by
  have:=zl3 c k w [] [] (h w (by simp))
  simp only [List.append_nil,List.nil_append] at this
  show cutL c (k+1) [] w=[w]
  rw [this];rfl
 | w::x::ws,k+1,_,h,hk=>by
  show cutL c (k+1) [] (w++c::zfc c (x::ws))=_
  rw [zl3 c k w [] _ (h w (by simp)),List.nil_append,cutL,if_pos rfl,zml c (x::ws) k (by simp) (fun y hy=>h y (List.mem_cons_of_mem _ hy)) (by simp at hk ⊢;omega)]
theorem zl7 (c:UInt8) (k:Nat):∀ (r cur:List UInt8),cutL c (k+1) cur r≠[]
 | [],_=>by simp [cutL]
 | x::r,cur=>by
  rw [cutL]
  split
  ·simp
  ·exact zl7 c k r _
theorem zhs (c:UInt8):∀ (r cur:List UInt8) (k:Nat),(cutL c k cur r).length≤k
 | _,_,0=>by simp [cutL]
 | [],_,_+1=>by simp [cutL]
 | x::r,cur,k+1=>by
  rw [cutL]
  split
  ·have:=zhs c r [] k;simp only [List.length_cons];omega
  ·exact zhs c r _ (k+1)
theorem zyi (c:UInt8):∀ (r cur:List UInt8) (k n:Nat),cur.length+r.length≤n→∀ w∈cutL c k cur r,w.length≤n
 | _,_,0,_,_=>by simp [cutL]
 | [],cur,_+1,n,h=>by simp [cutL];simpa using h
 | x::r,cur,k+1,n,h=>by
  simp only [List.length_cons] at h
  rw [cutL]
  split
  ·intro w hw
   rw [List.mem_cons] at hw
   rcases hw with rfl | hw
   ·omega
   ·exact zyi c r [] k n (by simp;omega) w hw
  ·exact zyi c r _ (k+1) n (by simp;omega)
def digV (n:BitVec 64) (c:UInt8):BitVec 64:=badd (bmul 10#64 n) ((c.toBitVec - 48#8).setWidth 64)
def valP (l:List UInt8):BitVec 64:=(l.take 20).foldl digV 0#64
theorem yaa1 {u:Nat} (_hu:u<18446744073709551616):digV (BitVec.ofNat 64 (u / 10)) (UInt8.ofNat (48+u % 10))=BitVec.ofNat 64 u:=by
 have e:∀ d,d<10→((UInt8.ofNat (48+d)).toBitVec - 48#8).setWidth 64=BitVec.ofNat 64 d:=by decide
 unfold digV
 rw [e _ (Nat.mod_lt _ (by decide))]
 show 10#64*_+_=_
 apply BitVec.eq_of_toNat_eq
 simp only [BitVec.toNat_add,BitVec.toNat_mul,BitVec.toNat_ofNat]
 omega
theorem yang (u:Nat) (hu:u<18446744073709551616):(decDigits u).foldl digV 0#64=BitVec.ofNat 64 u:=by
 induction u using Nat.strongRecOn with
 | _ u ih =>
  by_cases h:u<10
  ·rw [zfi h]
   have:=yaa1 (u:=u) hu
   rw [show u / 10=0 by omega,show u % 10=u by omega] at this
   exact this
  ·rw [znr h,List.foldl_append,ih (u / 10) (by omega) (by omega)]
   exact yaa1 hu
theorem zyx (u:Nat) (hu:u<18446744073709551616):valP (decDigits u)=BitVec.ofNat 64 u:=by
 unfold valP
 rw [List.take_of_length_le (by rw [decDigits_length];exact nDigits_le20 _ hu)]
 exact yang u hu
theorem yaxs (x:BitVec 64):valP (decDigits x.toNat)=x:=by
 rw [zyx _ (by have:=x.isLt;omega)];simp
def zgi (l:List UInt8):Int :=
 if 4<l.length then 0
 else if l.head?=some 45 then IntKind.i64.wrap (0 - IntKind.i64.wrap (nv (valP l.tail)))
 else IntKind.i64.wrap (nv (valP l))
theorem yabu {u:Nat} (h:u≤64):nv (BitVec.ofNat 64 u)=(u:Int):=by
 show ((BitVec.ofNat 64 u).toNat:Int)=_
 rw [BitVec.toNat_ofNat];omega
theorem yab6 {u:Nat} (h:u≤64):(decDigits u).length≤2:=by
 by_cases h1:u<10
 ·rw [zfi h1];simp
 ·rw [znr h1,zfi (show u / 10<10 by omega)];simp
theorem yabw (u:Nat):∀ c:UInt8,c.toNat<48∨57<c.toNat→(decDigits u).head?≠some c:=fun c hc e=>by
 cases h:decDigits u with
 | nil=>exact absurd h (zpu _)
 | cons b r =>
  rw [h] at e
  simp only [List.head?_cons,Option.some.injEq] at e
  have:=zjn u b (by rw [h];simp)
  rw [e] at this
  omega
theorem zpa (n:Int) (h0:-64≤n) (h1:n≤64):zgi (itoa n)=n:=by
 by_cases hn:n<0
 ·have hl:=yab6 (u:=(-n).toNat) (by omega)
  rw [itoa,if_pos hn]
  unfold zgi
  rw [show (-n).toNat=n.natAbs by omega] at hl
  rw [if_neg (by simp only [List.length_cons];omega),if_pos (by simp),List.tail_cons,zyx _ (by omega),yabu (by omega),IntKind.wrap_i64,IntKind.wrap_i64]
  omega
 ·have hl:=yab6 (u:=n.toNat) (by omega)
  rw [itoa,if_neg hn]
  unfold zgi
  rw [if_neg (by omega),if_neg (yabw _ 45 (by decide)),zyx _ (by omega),yabu (by omega),IntKind.wrap_i64]
  omega
def regP (l:List UInt8):Int:=if l.length<2 then 0 else zgi l.tail
theorem yar4 (n:Int):itoa n≠[]:=by
 unfold itoa
 split
 ·simp
 ·exact zpu _
theorem zro (n:Int) (h0:-64≤n) (h1:n≤64):regP (114::itoa n)=n:=by
 unfold regP
 have:=List.length_pos_iff.2 (yar4 n)
 rw [if_neg (by simp only [List.length_cons];omega),List.tail_cons]
 exact zpa n h0 h1
def opP (l:List UInt8):Int:=match zkp l with | some k=>(k:Int)+1 | none=>0
def zov (i:Ins) (l:List UInt8):Ins:=if l.head?=some 114 then { i with s:=regP l } else { i with s:=-1,im:=valP l }
def yalw (o:Int) (w1 w2 w3 w4:List UInt8):Ins :=
 if 1≤o∧o≤9 then zov ⟨o,regP w1,0,0,0⟩ w2
 else if o=10 then ⟨10,regP w2,regP w3,valP w1,zgi w4⟩
 else if o=11 then ⟨11,regP w2,regP w4,valP w1,zgi w3⟩
 else if o=13∨o=14 then { zov ⟨o,regP w1,0,0,0⟩ w2 with of:=zgi w3 }
 else if o=12 then ⟨12,0,0,0,zgi w1⟩
 else ⟨o,0,0,0,0⟩
def yabq (w:List (List UInt8)):Ins:=yalw (opP (w.getD 0 [])) (w.getD 1 []) (w.getD 2 []) (w.getD 3 []) (w.getD 4 [])
def zdw (l:List UInt8):Ins:=yabq (cutL 32 6 [] l)
theorem yaop {i:Ins} (h:Fld i):regP (za7 i 0)=i.d:=by
 show regP (114::itoa i.d)=_
 exact zro _ h.d.1 h.d.2
theorem yaya {i:Ins} (h:Fld i):regP (za7 i 1)=i.s:=by
 show regP (114::itoa i.s)=_
 exact zro _ h.s.1 h.s.2
theorem yazx (i:Ins):valP (za7 i 3)=i.im:=yaxs i.im
theorem yamt {i:Ins} (h:Fld i):zgi (za7 i 4)=i.of:=zpa _ h.f.1 h.f.2
theorem yaqf {i:Ins} (h:Fld i) (hs:i.s≠-1) (j:Ins):zov j (za7 i 2)={ j with s:=i.s }:=by
 have e:za7 i 2=114::itoa i.s:=by simp [za7,hs]
 rw [e,zov,if_pos (by simp),zro _ h.s.1 h.s.2]
theorem yaqn {i:Ins} (hs:i.s=-1) (j:Ins):zov j (za7 i 2)={ j with s:=-1,im:=i.im }:=by
 have e:za7 i 2=decDigits i.im.toNat:=by simp [za7,hs]
 rw [e,zov,if_neg (yabw _ 114 (by decide)),yaxs]
theorem yaew {i:Ins} (h:Fld i) (hb:zbc i=true):zdw (zdu i)=i:=by
 have h1:=h.o1
 have h2:=h.o2
 obtain ⟨k,hk⟩:∃ k:Nat,i.op=(k:Int)+1:=⟨(i.op - 1).toNat,by omega⟩
 have hk15:k<15:=by omega
 have hw:cutL 32 6 [] (zdu i)=nmL k::(plcs i.op).map (za7 i):=by
  rw [zdu,show (i.op - 1).toNat=k by omega,zm5]
  refine zml 32 _ 6 (by simp) ?_ ?_
  ·intro w hw
   rw [List.mem_cons,List.mem_map] at hw
   rcases hw with rfl | ⟨p,_,rfl⟩
   ·exact yau2 (by decide) k hk15
   ·exact zxh (by decide) i p
  ·have:=zhv i.op
   simp only [List.length_cons,List.length_map];omega
 have ho:opP (nmL k)=i.op:=by unfold opP;rw [zlj k hk15,hk]
 unfold zdw
 rw [hw]
 unfold yabq
 rw [List.getD_cons_zero,ho]
 simp only [List.getD_cons_succ]
 unfold yalw
 unfold zbc at hb
 by_cases h10:i.op=10
 ·rw [if_neg (by omega),if_pos h10,show plcs i.op=[3,0,1,4] by simp [plcs,h10]]
  simp only [List.map_cons,List.map_nil,List.getD_cons_zero,List.getD_cons_succ,yazx,yaop h,yaya h,yamt h]
  rw [← h10]
 by_cases h11:i.op=11
 ·rw [if_neg (by omega),if_neg h10,if_pos h11,show plcs i.op=[3,0,4,1] by simp [plcs,h11]]
  simp only [List.map_cons,List.map_nil,List.getD_cons_zero,List.getD_cons_succ,yazx,yaop h,yaya h,yamt h]
  rw [← h11]
 rw [if_neg (by omega)] at hb
 by_cases h12:i.op=12
 ·rw [if_pos h12] at hb
  simp only [Bool.and_eq_true,decide_eq_true_eq] at hb
  rw [if_neg (by omega),if_neg h10,if_neg h11,if_neg (by omega),if_pos h12,show plcs i.op=[4] by simp [plcs,h12]]
  simp only [List.map_cons,List.map_nil,List.getD_cons_zero,yamt h]
  obtain ⟨op,d,s,im,f⟩:=i
  simp only at hb h12 ⊢
  rw [hb.1.1,hb.1.2,zfb hb.2,h12]
 rw [if_neg h12] at hb
 by_cases h13:i.op=13∨i.op=14
 ·rw [if_pos h13] at hb
  rw [if_neg (by omega),if_neg h10,if_neg h11,if_pos h13,show plcs i.op=[0,2,4] by unfold plcs;rw [if_neg h10,if_neg h11,if_neg h12,if_pos h13]]
  simp only [List.map_cons,List.map_nil,List.getD_cons_zero,List.getD_cons_succ,yaop h,yamt h]
  by_cases hs:i.s=-1
  ·rw [yaqn hs]
   obtain ⟨op,d,s,im,f⟩:=i
   simp only at hs ⊢
   rw [hs]
  ·simp only [Bool.or_eq_true,decide_eq_true_eq] at hb
   have hm:=zfb (hb.resolve_left hs)
   rw [yaqf h hs]
   obtain ⟨op,d,s,im,f⟩:=i
   simp only at hm ⊢
   rw [hm]
 rw [if_neg h13] at hb
 by_cases h15:i.op=15
 ·rw [if_pos h15] at hb
  simp only [Bool.and_eq_true,decide_eq_true_eq] at hb
  rw [if_neg (by omega),if_neg h10,if_neg h11,if_neg h13,if_neg h12]
  obtain ⟨op,d,s,im,f⟩:=i
  simp only at hb ⊢
  rw [hb.1.1.1,hb.1.1.2,zfb hb.1.2,hb.2]
 rw [if_neg h15] at hb
 simp only [Bool.and_eq_true,Bool.or_eq_true,decide_eq_true_eq] at hb
 rw [if_pos (by omega),show plcs i.op=[0,2] by unfold plcs;rw [if_neg h10,if_neg h11,if_neg h12,if_neg h13,if_neg h15]]
 simp only [List.map_cons,List.map_nil,List.getD_cons_zero,List.getD_cons_succ,yaop h]
 by_cases hs:i.s=-1
 ·rw [yaqn hs]
  obtain ⟨op,d,s,im,f⟩:=i
  simp only at hs hb ⊢
  rw [hs,hb.1]
 ·have hm:=zfb (hb.2.resolve_left hs)
  rw [yaqf h hs]
  obtain ⟨op,d,s,im,f⟩:=i
  simp only at hm hb ⊢
  rw [hm,hb.1]
def zh0 (s:ByteArray):List Ins:=(cutL 10 66 [] s.data.toList).dropLast.map zdw
def zzt (s:ByteArray):Option (List Ins) :=
 if s.size≤4096 then
  if zan (zh0 s)=0∧(⟨(shown (zh0 s)).toArray⟩:ByteArray)=s then some (zh0 s) else none
 else none
theorem zuh (c:UInt8):∀ (w:List UInt8) (ws:List (List UInt8)),zfc c (w::ws)++[c]=zfc c ((w::ws)++[[]])
 | w,[]=>by simp [zfc]
 | w,x::ws=>by
  have ih:=zuh c x ws
  show (w++c::zfc c (x::ws))++[c]=w++c::zfc c ((x::ws)++[[]])
  rw [← ih];simp
theorem yadd {L:List Ins} (h:zan L=0) {s:ByteArray} (hs:s.data.toList=shown L):zh0 s=L:=by
 obtain ⟨h64,hF⟩:=zg2 h
 have hB:=zw5 h
 cases L with
 | nil=>simp [zan] at h
 | cons i M =>
  unfold zh0
  rw [hs,zkj]
  have e:(i::M).map zdu=zdu i::M.map zdu:=rfl
  rw [e,zuh,zml 10 _ 66 (by simp),List.dropLast_concat,← e,List.map_map]
  ·refine (List.map_congr_left (g:=id) fun x hx=>yaew (hF x hx) (hB x hx)).trans (List.map_id _)
  ·intro w hw
   rw [List.mem_append,← e,List.mem_map,List.mem_singleton] at hw
   rcases hw with ⟨x,hx,rfl⟩ | rfl
   ·exact yak5 (hF x hx)
   ·simp
  ·simp only [List.length_append,List.length_cons,List.length_map,List.length_nil] at h64 ⊢;omega
theorem yaec {s:ByteArray} {L:List Ins} (h:zhy s=some L):s.size≤4096:=by
 unfold zhy at h
 split at h
 ·assumption
 ·cases h
theorem zmo {s:ByteArray} {L:List Ins} (h:zhy s=some L):zan L=0∧(⟨(shown L).toArray⟩:ByteArray)=s:=by
 unfold zhy at h
 split at h
 ·split at h
  ·cases h
  ·split at h
   ·rename_i h1
    injection h with h
    subst h
    exact h1
   ·cases h
 ·cases h
theorem zzy (s:ByteArray):zzt s=zhy s:=by
 cases hr:zhy s with
 | some L =>
  obtain ⟨he,ht⟩:=zmo hr
  have hl:zh0 s=L:=yadd he (by rw [← ht])
  unfold zzt
  rw [if_pos (yaec hr),hl,if_pos ⟨he,ht⟩]
 | none =>
  unfold zzt
  split
  ·rename_i hs
   split
   ·rename_i h1
    have h2:=zmd h1.1 (by rw [h1.2];exact hs)
    rw [h1.2,hr] at h2
    cases h2
   ·rfl
  ·rfl
abbrev bs (l:List UInt8):ByteArray:=⟨l.toArray⟩
theorem zy1 (t:ByteArray):bs t.data.toList=t:=by obtain ⟨⟨l⟩⟩:=t;rfl
theorem zgs (a b:List UInt8):bs a++bs b=bs (a++b):=by apply ByteArray.ext;simp
theorem zdt (l:List UInt8):(bs l).size=l.length:=by simp [ByteArray.size]
theorem zdv (t:ByteArray):t.data.toList.length=t.size:=(Lib.size_eq t).symm
theorem yanc (t:ByteArray) (a b:Nat):(t.extract a b).data.toList=(t.data.toList.drop a).take (b - a):=by
 rw [ByteArray.data_extract,Array.toList_extract]
theorem zul (t:ByteArray) (a b:Nat):t.extract a b=bs ((t.data.toList.drop a).take (b - a)):=by rw [← yanc,zy1]
theorem yaa3 (t:ByteArray):t.extract 1 ((t.size:Int)).toNat=bs t.data.toList.tail:=by
 rw [zul,Int.toNat_natCast,List.take_of_length_le (by rw [List.length_drop,zdv];omega),List.drop_one]
theorem zlp (t:ByteArray) {j:Nat} (h:j<t.data.toList.length):zeg t j=(t.data.toList[j]).toBitVec:=by
 unfold zeg
 rw [Array.getD_eq_getD_getElem?,Array.getElem?_eq_getElem (by simpa using h)];simp
theorem yau0 {a b:UInt8}:(a.toBitVec==b.toBitVec)=decide (a=b):=by
 by_cases h:a=b
 ·subst h;simp
 ·rw [decide_eq_false h]
  exact beq_eq_false_iff_ne.2 fun e=>h (UInt8.toBitVec_inj.1 e)
theorem zzf (x:BitVec 64):zmu (((splice (rows 1 [.y 0#8]) 0 [.y (BitVec.setWidth 8 (badd (48#64) (x % 10#64)))]).drop 0).take 1)=bs [UInt8.ofNat (48+x.toNat % 10)]:=by
 show ByteArray.mk #[UInt8.ofBitVec (BitVec.setWidth 8 (48#64+x % 10#64))]=ByteArray.mk #[UInt8.ofNat (48+x.toNat % 10)]
 have e:∀ d,d<10→BitVec.setWidth 8 (48#64+BitVec.ofNat 64 d)=BitVec.ofNat 8 (48+d):=by decide
 have e2:x % 10#64=BitVec.ofNat 64 (x.toNat % 10):=by
  apply BitVec.eq_of_toNat_eq
  rw [BitVec.toNat_umod,show (10#64).toNat=10 from rfl,BitVec.toNat_ofNat]
  omega
 rw [e2,e _ (Nat.mod_lt _ (by decide))]
 rfl
theorem zhc (u:Nat) (hu:u<18446744073709551616):Ok 13 [.c (.u (BitVec.ofNat 64 u))] (.c (.s (bs (decDigits u)))):=by
 induction u using Nat.strongRecOn with
 | _ u ih =>
  have hx:(BitVec.ofNat 64 u).toNat=u:=by rw [BitVec.toNat_ofNat];omega
  have hn:nv (BitVec.ofNat 64 u)=(u:Int):=by show ((BitVec.ofNat 64 u).toNat:Int)=_;rw [hx]
  refine yaxt (u:=bs (decDigits (u / 10))) (fun h=>?_) (fun h=>?_)
  ·rw [hn,decide_eq_true_eq] at h
   rw [zzf,hx,zfi (by omega),show u % 10=u by omega]
  ·rw [hn,decide_eq_false_iff_not] at h
   have hl:(decDigits (u / 10)).length≤20:=by rw [decDigits_length];exact nDigits_le20 _ (by omega)
   refine ⟨?_,?_,?_⟩
   ·rw [zzf,zdt,zdt]
    exact decide_eq_true (by simp only [List.length_cons,List.length_nil];omega)
   ·have e:BitVec.ofNat 64 u / 10#64=BitVec.ofNat 64 (u / 10):=by
     apply BitVec.eq_of_toNat_eq
     rw [BitVec.toNat_udiv,hx,show (10#64).toNat=10 from rfl,BitVec.toNat_ofNat]
     omega
    rw [e]
    exact ih (u / 10) (by omega) (by omega)
   ·rw [zzf,hx,zgs,znr (u:=u) (by omega)]
theorem yaaa (x:BitVec 64):Ok 13 [.c (.u x)] (.c (.s (bs (decDigits x.toNat)))):=by
 have:=zhc x.toNat (by have:=x.isLt;omega)
 rwa [BitVec.ofNat_toNat,BitVec.setWidth_eq] at this
theorem zjc (n:Nat):BitVec.ofInt 64 (n:Int)=BitVec.ofNat 64 n:=by simp
theorem yakn (u:Nat) (h:u<18446744073709551616):(decDigits u).length≤20:=by rw [decDigits_length];exact nDigits_le20 _ h
theorem yajh (a:UInt8) (l:List UInt8):ByteArray.mk #[a]++bs l=bs (a::l):=zgs [a] l
theorem yaji (n:Int) (h0:-64≤n) (h1:n≤64):Ok 87 [.c (.i n)] (.c (.s (bs (itoa n)))):=by
 refine yawq (u:=bs (decDigits n.natAbs)) (fun h=>?_) (fun h=>?_)
 ·rw [decide_eq_true_eq] at h
  have hl:=yakn n.natAbs (by omega)
  refine ⟨?_,?_,?_⟩
  ·rw [zdt];exact decide_eq_true (by omega)
  ·rw [IntKind.wrap_i64,show (0 - n+9223372036854775808) % 18446744073709551616 - 9223372036854775808=((n.natAbs:Nat):Int) by omega,zjc]
   exact zhc _ (by omega)
  ·rw [itoa,if_pos h]
   exact congrArg (fun l=>AV.c (.s l)) (yajh 45 _)
 ·rw [decide_eq_false_iff_not] at h
  obtain ⟨k,rfl⟩:∃ k:Nat,n=k:=⟨n.toNat,by omega⟩
  refine ⟨?_,?_⟩
  ·rw [zjc,Int.natAbs_natCast]
   exact zhc _ (by omega)
  ·rw [itoa,if_neg h,Int.natAbs_natCast,Int.toNat_natCast]
theorem zzu (n:Int) (h0:0≤n) (h1:n≤64):Ok 85 [.c (.i n)] (.c (.s (bs (114::itoa n)))):=by
 obtain ⟨k,rfl⟩:∃ k:Nat,n=k:=⟨n.toNat,by omega⟩
 have hl:=yakn k (by omega)
 have:=ybak (n1:=(k:Int)) (u:=bs (decDigits k)) (zaa (by rw [zdt];exact decide_eq_true (by omega)) rfl) (by rw [zjc];exact zhc _ (by omega))
 rw [itoa,if_neg (by omega),Int.toNat_natCast,← yajh]
 exact this
theorem yatl {i:Ins} (hs:i.s=-1∨0≤i.s∧i.s≤64):Ok 86 [.ag i.cs] (.c (.s (bs (za7 i 2)))):=by
 by_cases h:i.s=-1
 ·rw [show za7 i 2=decDigits i.im.toNat by simp [za7,h]]
  exact ybap (by simp [h]) (yaaa _)
 ·have h2:=hs.resolve_left h
  rw [show za7 i 2=114::itoa i.s by simp [za7,h]]
  exact yba7 (by simp [h]) (zzu _ h2.1 h2.2)
theorem ybam {j:Nat} (h:j≤5000):IntKind.i64.wrap ((j:Int)+1)=((j+1:Nat):Int):=by rw [IntKind.wrap_i64];omega
theorem ze4 {j:Nat} (h:j≤5000):pe (.c (.i (IntKind.i64.wrap ((j:Int)+1))))=pe (.c (.i (↑(j+1):Int))):=by rw [ybam h]
theorem yaq5 {t:ByteArray} {w:World} {β:Bs} {m:Nat} (ht:t.size≤4096) (hF:∀ k,(cx w β m []).F k→k<0):∀ (n j:Nat) (x:BitVec 64),j+n=(t.data.toList.take 20).length→AR 69 Tryz.f69 (cx w β m []) 0 (vaRK t x j) (REff w β ⟨.c (.u (((t.data.toList.take 20).drop j).foldl digV x)),[],none⟩)
 | 0,j,x,hj=>by
  rw [List.drop_eq_nil_of_le (by omega),List.foldl_nil]
  rw [List.length_take,zdv] at hj
  by_cases h:j<t.size
  ·exact yawg (zaa (decide_eq_true (by omega)) (zaa (zad (decide_eq_false (by omega))) rfl))
  ·exact yay4 (zaa (zad (decide_eq_false (by omega))) rfl)
 | n+1,j,x,hj=>by
  have hl:=hj
  rw [List.length_take,zdv] at hl
  have hj2:j<(t.data.toList.take 20).length:=by omega
  rw [List.drop_eq_getElem_cons hj2,List.foldl_cons]
  refine yayg (zaa (decide_eq_true (by omega)) (zaa (decide_eq_true (by omega)) (zaa (decide_eq_true (by omega)) rfl))) (ze4 (by omega)) hF ?_
  have e:badd (bmul (10#64) x) (BitVec.setWidth 64 (zeg t (j:Int).toNat - 48#8))=digV x ((t.data.toList.take 20)[j]):=by
   rw [Int.toNat_natCast,zlp t (by rw [zdv];omega),List.getElem_take];rfl
  rw [e]
  exact yaq5 ht hF n (j+1) _ (by omega)
theorem zhh {t:ByteArray} (ht:t.size≤4096):Ok 69 [.c (.s t)] (.c (.u (valP t.data.toList))) :=
 zg8 Tryz.func69 rfl rfl (zvr rfl) rfl (fun _ _ h=>(nomatch h)) fun _ _=>yal7 (fun _ h=>h) (yaq5 ht (fun _ h=>h) _ 0 _ (Nat.zero_add _))
theorem yaxu (t:ByteArray) (c:UInt8) (h:0<t.size):(zeg t 0==c.toBitVec)=decide (t.data.toList.head?=some c):=by
 have h1:0<t.data.toList.length:=by rw [zdv];exact h
 have e:∀ (l:List UInt8) (h:0<l.length),decide (l[0]=c)=decide (l.head?=some c):=fun l h=>by
  cases l with
  | nil=>simp at h
  | cons a r=>simp
 rw [zlp t h1,yau0]
 exact e _ h1
theorem zwi (t:ByteArray):(bs t.data.toList.tail).size≤t.size:=by rw [zdt,List.length_tail,zdv];omega
theorem yab4 {t:ByteArray} (ht:t.size≤4096):Ok 70 [.c (.s t)] (.c (.i (zgi t.data.toList))):=by
 have hs:=zdv t
 unfold zgi
 by_cases h4:4<t.size
 ·rw [if_pos (by omega)]
  exact ybad (zaa (decide_eq_true (by omega)) rfl)
 ·rw [if_neg (by omega)]
  have d4:(!decide (4<(t.size:Int)))=true:=zad (decide_eq_false (by omega))
  by_cases h0:0<t.size
  ·have b0:=yaxu t 45 h0
   have d0:decide (0<(t.size:Int))=true:=decide_eq_true (by omega)
   by_cases h45:t.data.toList.head?=some 45
   ·rw [if_pos h45]
    rw [decide_eq_true h45] at b0
    refine yban (zaa d4 (zaa d0 (zaa (decide_eq_true h0) (zaa b0 (zaa (zaa (decide_eq_true (by omega)) (decide_eq_true (Int.le_refl _))) rfl))))) ?_
    rw [yaa3]
    exact zhh (Nat.le_trans (zwi t) ht)
   ·rw [if_neg h45]
    rw [decide_eq_false h45] at b0
    exact ybac (zaa d4 (zaa d0 (zaa (decide_eq_true h0) (zaa (zad b0) rfl)))) (zhh ht)
  ·have hl:t.data.toList=[]:=List.length_eq_zero_iff.1 (by omega)
   rw [if_neg (by rw [hl];simp)]
   exact yaz8 (zaa d4 (zaa (zad (decide_eq_false (by omega))) rfl)) (zhh ht)
theorem yaap {t:ByteArray} (ht:t.size≤4096):Ok 68 [.c (.s t)] (.c (.i (regP t.data.toList))):=by
 have hs:=zdv t
 unfold regP
 by_cases h2:t.size<2
 ·rw [if_pos (by omega)]
  exact ybax (zaa (decide_eq_true (by omega)) rfl)
 ·rw [if_neg (by omega)]
  refine ybaj (zaa (zad (decide_eq_false (by omega))) (zaa (zaa (decide_eq_true (by omega)) (decide_eq_true (Int.le_refl _))) rfl)) ?_
  rw [yaa3]
  exact yab4 (Nat.le_trans (zwi t) ht)
def wcell (ws:List (List UInt8)):List AC:=ws.map fun l=>.s (bs l)
theorem zdh (ws:List (List UInt8)):(wcell ws).flatMap AC.ks=[]:=by
 induction ws with
 | nil=>rfl
 | cons a l ih=>exact ih
theorem zvo (a:List (List UInt8)) (l:List UInt8):wcell a++[.s (bs l)]=wcell (a++[l]):=by simp [wcell]
theorem zgx (ws:List (List UInt8)):(wcell ws).length=ws.length:=by simp [wcell]
theorem zwu (t:ByteArray) (c:BitVec 8) (q p j r:Nat) (ws:List (List UInt8)):Kn.Low (zop t c q p j r (wcell ws)):=zg9 rfl rfl ⟨zdh ws,trivial⟩
abbrev cuYK (t:ByteArray) (c:BitVec 8) (q p j r:Nat) (A:List AC):Kn:=⟨[(0,.c (.s t)),(1,.c (.y c)),(2,.c (.i (q:Int))),(7,.c (.sx 78 r)),(8,.c (.i (p:Int))),(9,.c (.i (j:Int)))],[(78,Ent.mk true A 1)],79⟩
theorem yah1 (t:ByteArray) (c:BitVec 8) (q p j r:Nat) (ws:List (List UInt8)):Kn.Low (cuYK t c q p j r (wcell ws)):=zg9 rfl rfl ⟨zdh ws,trivial⟩
theorem yaq7 (t:ByteArray) (c:BitVec 8) (q p j r:Nat) (ws:List (List UInt8)):(cuYK t c q p j r (wcell ws)).ren (swp 50 78) 51=zop t c q p j r (wcell ws):=by
 unfold Kn.ren renH
 simp only [List.map_cons,List.map_nil,Ent.ren,zck _ (zdh ws)]
 rfl
abbrev yae7 (R:List (List UInt8)):Eff:=⟨.c (.sx 50 R.length),[],some (50,⟨true,wcell R,1⟩)⟩
theorem yagk (R:List (List UInt8)):EKeys 0 [] (some 50) (yae7 R):=by
 refine ⟨fun k hk=>Or.inr ?_,fun _ _ hm=>(nomatch hm),fun k en' h'=>?_,fun _ h=>(nomatch h),fun k h=>⟨Nat.zero_le _,rfl⟩⟩
 ·rw [List.mem_singleton.1 hk]
 ·injection h' with h';injection h' with _ h';subst h';exact zdh R
def zfy (c:UInt8) (l:List UInt8) (q p j:Nat):List (List UInt8):=if j≤l.length then cutL c q ((l.drop p).take (j - p)) (l.drop j) else []
theorem yacm (c:UInt8) (l:List UInt8) (k p:Nat) (ws:List (List UInt8)):ws++zfy c l (k+1) p l.length=(ws++[(l.drop p).take (l.length - p)])++zfy c l k (l.length+1) (l.length+1):=by
 unfold zfy
 rw [if_pos (Nat.le_refl _),if_neg (by omega),List.drop_length,cutL]
 simp
theorem zzz {c:UInt8} {l:List UInt8} {k p j:Nat} (hj:j<l.length) (h:l[j]=c) (ws:List (List UInt8)):ws++zfy c l (k+1) p j=(ws++[(l.drop p).take (j - p)])++zfy c l k (j+1) (j+1):=by
 unfold zfy
 rw [if_pos (by omega),if_pos (by omega),List.drop_eq_getElem_cons hj,cutL,if_pos h]
 simp
theorem zwa {c:UInt8} {l:List UInt8} {k p j:Nat} (hj:j<l.length) (hp:p≤j) (h:l[j]≠c):zfy c l (k+1) p j=zfy c l (k+1) p (j+1):=by
 unfold zfy
 rw [if_pos (by omega),if_pos (by omega),List.drop_eq_getElem_cons hj,cutL,if_neg h]
 congr 1
 have e:j+1 - p=(j - p)+1:=by omega
 rw [e,List.take_add_one,List.getElem?_drop,show p+(j - p)=j by omega,List.getElem?_eq_getElem hj]
 rfl
theorem yak2 {t:ByteArray} (ht:t.size≤4096) (c:UInt8) {q:Nat} {w:World} {β:Bs} (hF:∀ k,(cx w β 0 []).F k→k<0):∀ (n j p:Nat) (ws:List (List UInt8)),j+n=t.size+1→p≤j→ws≠[]→ws.length≤q→q≤100 →
  AR 27 Tryz.f27 (cx w β 0 []) 0 (zop t c.toBitVec q p j ws.length (wcell ws)) (REff w β (yae7 (ws++zfy c t.data.toList (q - ws.length) p j)))
 | 0,j,p,ws,hj,hp,hne,hq,_=>by
  have e:zfy c t.data.toList (q - ws.length) p j=[]:=by unfold zfy;rw [if_neg (by rw [zdv];omega)]
  rw [e,List.append_nil]
  exact yau6 (zaa (zad (decide_eq_false (by omega))) rfl) (yagk ws)
 | n+1,j,p,ws,hj,hp,hne,hq,hq1=>by
  have hs:=zdv t
  have dj:decide ((j:Int)≤(t.size:Int))=true:=decide_eq_true (by omega)
  by_cases hr:ws.length<q
  ·obtain ⟨k,hk⟩:∃ k,q - ws.length=k+1:=⟨q - ws.length - 1,by omega⟩
   have dr:decide ((ws.length:Int)<(q:Int))=true:=decide_eq_true (by omega)
   have hw0:0<ws.length:=List.length_pos_iff.2 hne
   have da:(Nat.beq (ws.length*1) (wcell ws).length&&decide (ws.length+1≤137438953472)&&Nat.blt 0 ws.length)=true:=by
    rw [zgx,Nat.mul_one,Nat.beq_refl,decide_eq_true (by omega)]
    simpa using hw0
   have dp:(decide ((p:Int)≤(j:Int))&&decide ((j:Int)≤(t.size:Int)))=true:=zaa (decide_eq_true (by omega)) dj
   have ea:Eff.mk (.c (.sx 78 (ws.length+1))) [(50,[])] (some (51+10+11+6,Ent.mk true (wcell ws++((splice (rows 1 [.s (ByteArray.mk #[])]) 0 [.s (ByteArray.extract t ((p:Int)).toNat ((j:Int)).toNat)]).drop 0).take 1) 1))=Eff.mk (.c (.sx 78 (ws.length+1))) [(50,[])] (some (78,Ent.mk true (wcell ws++[.s (ByteArray.extract t p j)]) 1)):=rfl
   have nx:∀ ws':List (List UInt8),ws'=ws++[(t.data.toList.drop p).take (j - p)]→AR 27 Tryz.f27 (cx w β 0 []) 0 (cuYK t c.toBitVec q (j+1) (j+1) (ws.length+1) (wcell ws++[.s (ByteArray.extract t p j)])) (REff w β (yae7 (ws'++zfy c t.data.toList k (j+1) (j+1)))):=fun ws' hw=>by
    have hl:ws'.length=ws.length+1:=by rw [hw];simp
    rw [zul,zvo,← hw,← hl]
    refine ART.ren (swp 50 78) 51 (zrk 50 78) (yaq7 _ _ _ _ _ _ _) (fun k hk=>absurd (hF k hk) (by omega)) (zwu _ _ _ _ _ _ _) ?_
    rw [show k=q - ws'.length by omega]
    exact yak2 ht c hF n (j+1) (j+1) ws' (by omega) (Nat.le_refl _) (by rw [hw];simp) (by omega) hq1
   have lo:Kn.Low (cuYK t c.toBitVec q (j+1) (j+1) (ws.length+1) (wcell ws++[.s (ByteArray.extract t p j)])):=by rw [zul,zvo];exact yah1 _ _ _ _ _ _ _
   have hF':∀ k,(cx w β 0 []).F k→k<79:=fun k hk=>absurd (hF k hk) (by omega)
   rw [hk]
   by_cases he:j=t.size
   ·have de:((j:Int)==(t.size:Int))=true:=by rw [he];simp
    refine yaub (zaa dj (zaa dr (zaa de (zaa dp (zaa da rfl))))) ea (ze4 (by omega)) (ze4 (by omega)) lo hF' ?_
    have:=nx _ rfl
    have e2:j=t.data.toList.length:=by omega
    rw [e2,← yacm,← e2] at this
    exact this
   ·have de:(!((j:Int)==(t.size:Int)))=true:=by simp;omega
    have hjl:j<t.data.toList.length:=by omega
    have dl:decide ((j:Int).toNat<t.size)=true:=decide_eq_true (by omega)
    have db:(zeg t (j:Int).toNat==c.toBitVec)=decide (t.data.toList[j]=c):=by rw [Int.toNat_natCast,zlp t hjl,yau0]
    by_cases hc:t.data.toList[j]=c
    ·rw [decide_eq_true hc] at db
     refine yauv (zaa dj (zaa dr (zaa de (zaa dl (zaa db (zaa dp (zaa da rfl))))))) ea (ze4 (by omega)) (ze4 (by omega)) lo hF' ?_
     rw [zzz hjl hc]
     exact nx _ rfl
    ·rw [decide_eq_false hc] at db
     refine yauz (zaa dj (zaa dr (zaa de (zaa dl (zaa (zad db) rfl))))) (ze4 (by omega)) (zwu _ _ _ _ _ _ _) (fun k hk=>absurd (hF k hk) (by omega)) ?_
     rw [zwa hjl hp hc,← hk]
     exact yak2 ht c hF n (j+1) p ws (by omega) (by omega) hne hq hq1
  ·have e:q - ws.length=0:=by omega
   have e2:zfy c t.data.toList 0 p j=[]:=by unfold zfy;split <;> simp [cutL]
   rw [e,e2,List.append_nil]
   exact yauy (zaa dj (zaa (zad (decide_eq_false (by omega))) rfl)) (yagk ws)
theorem yah8 {t:ByteArray} (ht:t.size≤4096) (c:UInt8) {k:Nat} (hk:k<100) {w:World} {β:Bs} (hF:∀ k,(cx w β 0 []).F k→k<0):∀ (n j p:Nat),j+n=t.size→p≤j →
  AR 27 Tryz.f27 (cx w β 0 []) 0 (yakg t c.toBitVec (k+1) p j) (REff w β (yae7 (zfy c t.data.toList (k+1) p j))):=fun n j p hj hp=>by
 have hs:=zdv t
 have dj:decide ((j:Int)≤(t.size:Int))=true:=decide_eq_true (by omega)
 have dr:decide (0<((k+1:Nat):Int))=true:=decide_eq_true (by omega)
 have dp:(decide ((p:Int)≤(j:Int))&&decide ((j:Int)≤(t.size:Int)))=true:=zaa (decide_eq_true (by omega)) dj
 have nx:AR 27 Tryz.f27 (cx w β 0 []) 0 (cuYK t c.toBitVec (k+1) (j+1) (j+1) 1 [.s (ByteArray.extract t p j)]) (REff w β (yae7 ([(t.data.toList.drop p).take (j - p)]++zfy c t.data.toList k (j+1) (j+1)))):=by
  rw [zul]
  refine ART.ren (swp 50 78) 51 (zrk 50 78) (yaq7 _ _ _ _ _ _ [(t.data.toList.drop p).take (j - p)]) (fun k hk=>absurd (hF k hk) (by omega)) (zwu _ _ _ _ _ _ _) ?_
  exact yak2 ht c hF n (j+1) (j+1) [(t.data.toList.drop p).take (j - p)] (by omega) (Nat.le_refl _) (by simp) (by simp) (by omega)
 have lo:Kn.Low (cuYK t c.toBitVec (k+1) (j+1) (j+1) 1 [.s (ByteArray.extract t p j)]):=by rw [zul];exact yah1 _ _ _ _ _ _ [(t.data.toList.drop p).take (j - p)]
 have hF':∀ k,(cx w β 0 []).F k→k<79:=fun k hk=>absurd (hF k hk) (by omega)
 by_cases he:j=t.size
 ·have de:((j:Int)==(t.size:Int))=true:=by rw [he];simp
  refine yatc (zaa dj (zaa dr (zaa de (zaa dp rfl)))) rfl (ze4 (by omega)) (ze4 (by omega)) lo hF' ?_
  have e2:j=t.data.toList.length:=by omega
  have:=yacm c t.data.toList k p []
  rw [← e2,List.nil_append,List.nil_append] at this
  rw [this]
  exact nx
 ·have de:(!((j:Int)==(t.size:Int)))=true:=by simp;omega
  have hjl:j<t.data.toList.length:=by omega
  have dl:decide ((j:Int).toNat<t.size)=true:=decide_eq_true (by omega)
  have db:(zeg t (j:Int).toNat==c.toBitVec)=decide (t.data.toList[j]=c):=by rw [Int.toNat_natCast,zlp t hjl,yau0]
  by_cases hc:t.data.toList[j]=c
  ·rw [decide_eq_true hc] at db
   refine yat8 (zaa dj (zaa dr (zaa de (zaa dl (zaa db (zaa dp rfl)))))) rfl (ze4 (by omega)) (ze4 (by omega)) lo hF' ?_
   have:=zzz (k:=k) (p:=p) hjl hc []
   rw [List.nil_append,List.nil_append] at this
   rw [this]
   exact nx
  ·rw [decide_eq_false hc] at db
   refine yatf (zaa dj (zaa dr (zaa de (zaa dl (zaa (zad db) rfl))))) (ze4 (by omega)) (fun k hk=>absurd (hF k hk) (by omega)) ?_
   rw [zwa hjl hp hc]
   match n,hj with
   | 0,hj=>omega
   | n+1,hj=>exact yah8 ht c hk hF n (j+1) p (by omega) (by omega)
 termination_by n=>n
theorem yaw6 {t:ByteArray} (ht:t.size≤4096) (c:UInt8) {k:Nat} (hk:k<100):CallOK Tryz.prog ⟨27,[.c (.s t),.c (.y c.toBitVec),.c (.i ((k+1:Nat):Int))],[],yae7 (cutL c (k+1) [] t.data.toList)⟩:=by
 refine zks Tryz.func27 rfl rfl rfl rfl (zdh _) fun w β _=>?_
 have e:cutL c (k+1) [] t.data.toList=zfy c t.data.toList (k+1) 0 0:=by unfold zfy;rw [if_pos (by omega)];rfl
 rw [e]
 exact yaod (fun _ h=>absurd h (by show ¬ _<0;omega)) (yah8 ht c hk (fun _ h=>h) t.size 0 0 (by omega) (Nat.le_refl _))
theorem yaqi {t:ByteArray} (ht:t.size≤4096) (c:UInt8) {k:Nat} (hk:k<100) (K:Nat):CallOK Tryz.prog ⟨27,[.c (.s t),.c (.y c.toBitVec),.c (.i ((k+1:Nat):Int))],[],⟨.c (.sx K (cutL c (k+1) [] t.data.toList).length),[],some (K,⟨true,wcell (cutL c (k+1) [] t.data.toList),1⟩)⟩⟩:=by
 refine ((yaw6 ht c hk).ren (swp 50 K) (zbm 50 K)).congr ?_
 unfold CallRec.ren Eff.ren renH
 simp only [List.map_cons,List.map_nil,Option.map_some,Ent.ren,zck _ (zdh _),AV.ren,AC.ren,zek]
end Go.Proofs.YtkigmocchaikgabGreatDoor
