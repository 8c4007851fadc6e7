import Derived.Laws.Bits64b
import Derived.Laws.BitsAllLaws
import Derived.Test.YtkigmocchaikgaaGreatDoorProg
import Derived.WalkKit
import Derived.Below
import Derived.Lib.LaidTab
import Derived.Shelf.Strconv.Itoa1
import Derived.BigQuiet
import Derived.Laws.IdiomCopy
import Derived.Laws.Cover3
import Derived.DeepKeys
import Derived.ArgAppend
import Derived.Laws.BytesString
import Derived.Test.YtkigmocchaikgaaGreatDoorRows
import Derived.ProofKit
import Derived.OpenShut
import Derived.ShutString
import Derived.ChangeOld
import Derived.Lib.SmallJoins
import Derived.Deep.Strs
import Derived.ChangeArms
import Derived.WideShapes
import Derived.Test.YtkigmocchaikgaaGreatDoorShelf
import Derived.WalkSpells
import Derived.WalkLawsBesides
import Derived.Handy
import Derived.Lib.ParseIntBCases
import Derived.Lib.ItoaMem
import Derived.Lib.AppendIntMem
import Derived.Lib.Walk
import Derived.BigCall
import Derived.BigGuard
import Derived.Lib.ItoaLen
import Derived.Maps.Own
import Derived.StringKeys
import Derived.Maps.OwnOps
import Derived.Maps.OwnSet
import Derived.Maps.RangeWalk
import Derived.Shelf.Strings.Builder1
import Derived.Lib.FrozenHead
import Derived.Lib.OthersKept
import Derived.Deep.RegionWith
import Derived.Lib.SplitLaws
import Derived.Defers
import Derived.Recover
import Derived.Laws.Pointers
/- What the model's u64 arithmetic is on numbers of 64 bits: plain facts, without the program.
   The words nv, band .. keep the walk's simp from laying the numbers open. -/
namespace Go.Proofs.YtkigmocchaikgaaGreatDoor
def nv (x : BitVec 64) : Int := x.toNat
abbrev N (n : Int) : Value := .int .i64 n
def one : BitVec 64 := 1#64
def zero : BitVec 64 := 0#64
end Go.Proofs.YtkigmocchaikgaaGreatDoor
/- What every call may rely on of the library's variables: what they hold. -/
namespace Go.Proofs.YtkigmocchaikgaaGreatDoor
open Go.RowKit
def ng : Nat := 8
structure Gw (w : World) : Prop where
 most : ∃ m, w.cell? ⟨1, 0, none⟩ = some (.int .i64 m)
 syn : ∃ t p, w.cell? ⟨6, 0, none⟩ = some (.iface t p)
 rng : ∃ t p, w.cell? ⟨7, 0, none⟩ = some (.iface t p)
 tab : Lib.TabIs Tryz.prog w "internal/strconv.uint64pow10" .u64 Lib.pow10Tab
 size' : 8 ≤ w.heap.size
theorem Gw.size {w : World} (h : Gw w) : ng ≤ w.heap.size := h.size'
theorem var_block {P : Program} {w w' : World} {n : String} {g : Nat} (hg : P.globalNamed n = some g) (h : w'.heap[g]? = w.heap[g]?) : w'.var? P n = w.var? P n := by
 simp [World.var?, hg, h]
theorem Gw.keep {w w' : World} (h : Gw w) (hs : w.heap.size ≤ w'.heap.size) (hb : ∀ b, b < ng → w'.heap[b]? = w.heap[b]?) : Gw w' := by
 obtain ⟨m, hm⟩ := h.most
 obtain ⟨t1, p1, h1⟩ := h.syn
 obtain ⟨t2, p2, h2⟩ := h.rng
 refine ⟨⟨m, ?_⟩, ⟨t1, p1, ?_⟩, ⟨t2, p2, ?_⟩, ?_, Nat.le_trans h.size' hs⟩
 ·rw [World.cell?_of_block (w := w) (a := ⟨1, 0, none⟩) (hb 1 (by decide))]; exact hm
 ·rw [World.cell?_of_block (w := w) (a := ⟨6, 0, none⟩) (hb 6 (by decide))]; exact h1
 ·rw [World.cell?_of_block (w := w) (a := ⟨7, 0, none⟩) (hb 7 (by decide))]; exact h2
 ·have := h.tab
  unfold Lib.TabIs at this ⊢
  rw [← this]
  exact var_block (g := 0) (by kernel_rfl) (hb 0 (by decide))
/- a cell: a number, a text; pointers and slices go by a block's key (a sum of types: each of its sides has a name below) -/
abbrev AC := Sum (Sum (BitVec 64) Int) (Sum (Sum Bool ByteArray) (Sum (Sum Nat (Nat × Nat)) (Sum (BitVec 8) (Sum (Nat × Nat × Nat × Nat) (Sum (Nat × List Nat) (Sum (Nat × Nat) {x : Value // x.oneCell' = true}))))))
abbrev AC.u (x : BitVec 64) : AC := (Sum.inl (Sum.inl x))
abbrev AC.i (n : Int) : AC := (Sum.inl (Sum.inr n))
abbrev AC.b (x : Bool) : AC := (Sum.inr (Sum.inl (Sum.inl x)))
abbrev AC.s (x : ByteArray) : AC := (Sum.inr (Sum.inl (Sum.inr x)))
abbrev AC.w (k : Nat) : AC := (Sum.inr (Sum.inr (Sum.inl (Sum.inl k))))
abbrev AC.p (k o : Nat) : AC := (Sum.inr (Sum.inr (Sum.inl (Sum.inr (k, o)))))
abbrev AC.y (x : BitVec 8) : AC := (Sum.inr (Sum.inr (Sum.inr (Sum.inl x))))
abbrev AC.sl (k o n c : Nat) : AC := (Sum.inr (Sum.inr (Sum.inr (Sum.inr (Sum.inl (k, o, n, c))))))
abbrev AC.f (g : Nat) (cap : List Nat) : AC := (Sum.inr (Sum.inr (Sum.inr (Sum.inr (Sum.inr (Sum.inl (g, cap)))))))
abbrev AC.sx (k n : Nat) : AC := (Sum.inr (Sum.inr (Sum.inr (Sum.inr (Sum.inr (Sum.inr (Sum.inl (k, n))))))))
abbrev AC.v (x : Value) (h : x.oneCell' = true) : AC := (Sum.inr (Sum.inr (Sum.inr (Sum.inr (Sum.inr (Sum.inr (Sum.inr ⟨x, h⟩)))))))
/- a part of a tuple: a cell, or the cells of a struct or an array -/
abbrev AT := Sum AC (List AC)
abbrev AT.c (x : AC) : AT := (Sum.inl x)
abbrev AT.ag (l : List AC) : AT := (Sum.inr l)
/- a value: a cell, cells, a tuple, or any other as it is -/
abbrev AV := Sum AC (Sum (List AC) (Sum (List AT) Value))
abbrev AV.c (x : AC) : AV := (Sum.inl x)
abbrev AV.ag (l : List AC) : AV := (Sum.inr (Sum.inl l))
abbrev AV.tu (l : List AT) : AV := (Sum.inr (Sum.inr (Sum.inl l)))
abbrev AV.raw (x : Value) : AV := (Sum.inr (Sum.inr (Sum.inr x)))
/- of a block's key: the block, where in it, and how many elements a row that grows has room for -/
abbrev Bs := Nat → Nat × Nat × Nat
def ptr (β : Bs) (k o : Nat) : Addr := ⟨(β k).1, (β k).2.1 + o, none⟩
def AC.g (β : Bs) : AC → Value
 | (Sum.inl (Sum.inl x)) => .int .u64 (nv x)
 | (Sum.inl (Sum.inr n)) => .int .i64 n
 | (Sum.inr (Sum.inl (Sum.inl x))) => .bool x
 | (Sum.inr (Sum.inl (Sum.inr x))) => .string x
 | (Sum.inr (Sum.inr (Sum.inl (Sum.inl k)))) => .pointer (some (ptr β k 0))
 | (Sum.inr (Sum.inr (Sum.inl (Sum.inr (k, o))))) => .pointer (some (ptr β k o))
 | (Sum.inr (Sum.inr (Sum.inr (Sum.inl x)))) => .int .u8 (x.toNat : Int)
 | (Sum.inr (Sum.inr (Sum.inr (Sum.inr (Sum.inl (k, o, n, c)))))) => .slice (some (ptr β k o)) n c
 | (Sum.inr (Sum.inr (Sum.inr (Sum.inr (Sum.inr (Sum.inl (g, cap))))))) => .func (.func g) #[] (cap.map fun k => Value.pointer (some (ptr β k 0))).toArray
 | (Sum.inr (Sum.inr (Sum.inr (Sum.inr (Sum.inr (Sum.inr (Sum.inl (k, n)))))))) => .slice (some (ptr β k 0)) n (β k).2.2
 | (Sum.inr (Sum.inr (Sum.inr (Sum.inr (Sum.inr (Sum.inr (Sum.inr ⟨x, _⟩))))))) => x
def AT.g (β : Bs) : AT → Value
 | (Sum.inl x) => AC.g β x
 | (Sum.inr l) => .agg (l.map (AC.g β)).toArray
def AV.g (β : Bs) : AV → Value
 | (Sum.inl x) => AC.g β x
 | (Sum.inr (Sum.inl l)) => .agg (l.map (AC.g β)).toArray
 | (Sum.inr (Sum.inr (Sum.inl l))) => .tuple (l.map (AT.g β)).toArray
 | (Sum.inr (Sum.inr (Sum.inr x))) => x
def AC.ks : AC → List Nat
 | (Sum.inr (Sum.inr (Sum.inl (Sum.inl k)))) => [k]
 | (Sum.inr (Sum.inr (Sum.inl (Sum.inr (k, _))))) => [k]
 | (Sum.inr (Sum.inr (Sum.inr (Sum.inr (Sum.inl (k, _, _, _)))))) => [k]
 | (Sum.inr (Sum.inr (Sum.inr (Sum.inr (Sum.inr (Sum.inl (_, cap))))))) => cap
 | (Sum.inr (Sum.inr (Sum.inr (Sum.inr (Sum.inr (Sum.inr (Sum.inl (k, _)))))))) => [k]
 | _ => []
def AT.ks : AT → List Nat
 | (Sum.inl x) => AC.ks x
 | (Sum.inr l) => l.flatMap AC.ks
def AV.ks : AV → List Nat
 | (Sum.inl x) => AC.ks x
 | (Sum.inr (Sum.inl l)) => l.flatMap AC.ks
 | (Sum.inr (Sum.inr (Sum.inl l))) => l.flatMap AT.ks
 | _ => []
theorem AC.tells {P : AC → Prop} (x : AC) (u : ∀ x, P (.u x)) (i : ∀ n, P (.i n)) (b : ∀ x, P (.b x)) (s : ∀ x, P (.s x)) (w : ∀ k, P (.w k)) (p : ∀ k o, P (.p k o)) (y : ∀ x, P (.y x)) (sl : ∀ k o n c, P (.sl k o n c)) (f : ∀ g cap, P (.f g cap)) (sx : ∀ k n, P (.sx k n)) (v : ∀ x h, P (.v x h)) : P x :=
 match x with
 | (Sum.inl (Sum.inl x)) => u x
 | (Sum.inl (Sum.inr x)) => i x
 | (Sum.inr (Sum.inl (Sum.inl x))) => b x
 | (Sum.inr (Sum.inl (Sum.inr x))) => s x
 | (Sum.inr (Sum.inr (Sum.inl (Sum.inl x)))) => w x
 | (Sum.inr (Sum.inr (Sum.inl (Sum.inr (k, o))))) => p k o
 | (Sum.inr (Sum.inr (Sum.inr (Sum.inl x)))) => y x
 | (Sum.inr (Sum.inr (Sum.inr (Sum.inr (Sum.inl (k, o, n, c)))))) => sl k o n c
 | (Sum.inr (Sum.inr (Sum.inr (Sum.inr (Sum.inr (Sum.inl (g, c))))))) => f g c
 | (Sum.inr (Sum.inr (Sum.inr (Sum.inr (Sum.inr (Sum.inr (Sum.inl (k, n)))))))) => sx k n
 | (Sum.inr (Sum.inr (Sum.inr (Sum.inr (Sum.inr (Sum.inr (Sum.inr ⟨x, h⟩))))))) => v x h
theorem AT.tells {P : AT → Prop} (x : AT) (c : ∀ x, P (.c x)) (ag : ∀ l, P (.ag l)) : P x :=
 match x with
 | (Sum.inl x) => c x
 | (Sum.inr l) => ag l
theorem AV.tells {P : AV → Prop} (x : AV) (c : ∀ x, P (.c x)) (ag : ∀ l, P (.ag l)) (tu : ∀ l, P (.tu l)) (raw : ∀ x, P (.raw x)) : P x :=
 match x with
 | (Sum.inl x) => c x
 | (Sum.inr (Sum.inl l)) => ag l
 | (Sum.inr (Sum.inr (Sum.inl l))) => tu l
 | (Sum.inr (Sum.inr (Sum.inr x))) => raw x
theorem AC.one (β : Bs) (x : AC) : (AC.g β x).oneCell' = true := by
 unfold AC.g
 split <;> first | rfl | (rename_i h; exact h)
def look {α : Type} : List (Nat × α) → Nat → Option α
 | [], _ => none
 | (j, x) :: l, i => cond (Nat.beq i j) (some x) (look l i)
theorem look_cons {α : Type} (j : Nat) (x : α) (l : List (Nat × α)) (i : Nat) : look ((j, x) :: l) i = if i = j then some x else look l i := by
 show cond (Nat.beq i j) (some x) (look l i) = _
 by_cases h : i = j
 ·subst h; simp
 ·have : Nat.beq i j = false := by
   cases hb : Nat.beq i j with
   | false => rfl
   | true => exact absurd (Nat.eq_of_beq_eq_true hb) h
  simp [this, h]
/- a block: may it be written, its cells as far as they are known; room: how many cells an element has, if the block is a row that grows -/
structure Ent where
 wr : Bool
 cells : List AC
 room : Nat
structure Kn where
 T : List (Nat × AV)
 H : List (Nat × Ent)
 n : Nat
/- the streams and the tape are as they were, no block has gone -/
structure Fr (X : Nat → Prop) (w0 w : World) : Prop where
 os : w.os = w0.os
 tape : w.tape = w0.tape
 output : w.output = w0.output
 size : w0.heap.size ≤ w.heap.size
 block : ∀ k, k < w0.heap.size → ¬ X k → w.heap[k]? = w0.heap[k]?
theorem Fr.trans {X : Nat → Prop} {a b c : World} (h : Fr X a b) (k : Fr X b c) : Fr X a c :=
 ⟨k.os.trans h.os, k.tape.trans h.tape, k.output.trans h.output, Nat.le_trans h.size k.size, fun i hi hx => (k.block i (Nat.lt_of_lt_of_le hi h.size) hx).trans (h.block i hi hx)⟩
/- a block holds these cells -/
structure Blk (β : Bs) (w : World) (k : Nat) (e : Ent) : Prop where
 lt : (β k).1 < w.heap.size
 cell : ∀ j c, e.cells[j]? = some c → w.cell? (ptr β k j) = some (AC.g β c)
 free : e.wr = true → ∀ j, j < e.cells.length → w.frozen? (ptr β k j) = false
 room : e.room ≠ 0 → e.cells ≠ [] → e.cells.length ≤ (β k).2.2 * e.room ∧ ∀ j, j < (β k).2.2 * e.room → (∃ v, w.cell? (ptr β k j) = some v) ∧ w.frozen? (ptr β k j) = false
/- the call: the world that it began in, the blocks that it may write there, the blocks that it was handed -/
structure Cx where
 w0 : World
 X : Nat → Prop
 β0 : Bs
 F : Nat → Prop
/- what a call may rely on: at this place, where it began, and what it may write -/
structure Good (C : Cx) (w : World) : Prop where
 now : Gw w
 x : ∀ b, C.X b → ng ≤ b
 size : ng ≤ C.w0.heap.size
structure Rel (C : Cx) (N : Nat) (β : Bs) (S : Nat → Prop) (σ : Kn) (a : Act) (w : World) : Prop where
 size : a.tmps.size = N
 defers : a.defers = []
 tmp : ∀ t v, look σ.T t = some v → a.tmps[t]? = some (AV.g β v) ∧ ∀ k, k ∈ AV.ks v → S k
 blk : ∀ k e, look σ.H k = some e → S k ∧ Blk β w k e ∧ (∀ c, c ∈ e.cells → ∀ j, j ∈ AC.ks c → S j) ∧ (e.wr = true → C.w0.heap.size ≤ (β k).1 ∨ C.X (β k).1)
 inj : ∀ k e k' e', look σ.H k = some e → look σ.H k' = some e' → k ≠ k' → e.wr = true → e.cells ≠ [] → e'.cells ≠ [] → (β k).1 ≠ (β k').1
 frame : Fr C.X C.w0 w
 fix : ∀ k, C.F k → S k ∧ β k = C.β0 k
 gd : Good C w
/- what a value is does not hang on keys that are not met in it -/
theorem AC.g_congr {β β' : Bs} (x : AC) (h : ∀ k, k ∈ AC.ks x → β' k = β k) : AC.g β' x = AC.g β x := by
 cases x using AC.tells with
 | u => rfl
 | i => rfl
 | b => rfl
 | s => rfl
 | w k => simp only [AC.g, ptr, h k (by simp [AC.ks])]
 | p k o => simp only [AC.g, ptr, h k (by simp [AC.ks])]
 | y => rfl
 | sl k o n c => simp only [AC.g, ptr, h k (by simp [AC.ks])]
 | f g cap =>
  refine congrArg (fun l : List Value => Value.func (.func g) #[] l.toArray) (List.map_congr_left fun k hk => ?_)
  simp only [ptr, h k (by simpa [AC.ks] using hk)]
 | sx k n => simp only [AC.g, ptr, h k (by simp [AC.ks])]
 | v => rfl
theorem cells_congr {β β' : Bs} {l : List AC} (h : ∀ k, k ∈ l.flatMap AC.ks → β' k = β k) : l.map (AC.g β') = l.map (AC.g β) :=
 List.map_congr_left fun c hc => AC.g_congr c fun k hk => h k (List.mem_flatMap.2 ⟨c, hc, hk⟩)
theorem AT.g_congr {β β' : Bs} (x : AT) (h : ∀ k, k ∈ AT.ks x → β' k = β k) : AT.g β' x = AT.g β x := by
 unfold AT.g
 split
 ·exact AC.g_congr _ h
 ·rw [cells_congr h]
theorem AV.g_congr {β β' : Bs} (x : AV) (h : ∀ k, k ∈ AV.ks x → β' k = β k) : AV.g β' x = AV.g β x := by
 unfold AV.g
 split
 ·exact AC.g_congr _ h
 ·rw [cells_congr h]
 ·rename_i l
  refine congrArg (fun l : List Value => Value.tuple l.toArray) (List.map_congr_left fun c hc => AT.g_congr c fun k hk => h k (List.mem_flatMap.2 ⟨c, hc, hk⟩))
 ·rfl
/- what an operation does: its value, the blocks that it writes, the block that it makes (or takes over from the one that it empties) -/
structure Eff where
 v : AV
 wr : List (Nat × List AC)
 nw : Option (Nat × Ent)
def bset (β : Bs) (k : Nat) (x : Nat × Nat × Nat) : Bs := fun j => if j = k then x else β j
def ext (S : Nat → Prop) : Option (Nat × Ent) → Nat → Prop
 | none => S
 | some (k, _) => fun j => S j ∨ j = k
def newOk (wr : List (Nat × List AC)) (β β' : Bs) (w w' : World) : Option (Nat × Ent) → Prop
 | none => β' = β
 | some (k, e) => ∃ b o c, (w.heap.size ≤ b ∨ ∃ k0, wr = [(k0, [])] ∧ b = (β k0).1) ∧ b < w'.heap.size ∧ β' = bset β k (b, o, c) ∧ Blk β' w' k e
structure Up (e : Eff) (β β' : Bs) (w w' : World) : Prop where
 frame : Fr (fun B => ∃ k cs, (k, cs) ∈ e.wr ∧ B = (β k).1) w w'
 wr : ∀ k cs, (k, cs) ∈ e.wr → Blk β' w' k ⟨true, cs, 0⟩
 nw : newOk e.wr β β' w w' e.nw
/- what it writes is known, and may be written -/
def WrOk (e : Eff) (H : List (Nat × Ent)) : Prop := ∀ k cs, (k, cs) ∈ e.wr → ∃ en, look H k = some en ∧ en.wr = true ∧ en.cells ≠ []
/- the keys that it brings are known ones -/
structure Eff.Keys (e : Eff) (S : Nat → Prop) : Prop where
 v : ∀ k, k ∈ AV.ks e.v → ext S e.nw k
 wr : ∀ k cs, (k, cs) ∈ e.wr → ∀ c, c ∈ cs → ∀ j, j ∈ AC.ks c → S j
 nw : ∀ k en, e.nw = some (k, en) → ∀ c, c ∈ en.cells → ∀ j, j ∈ AC.ks c → ext S e.nw j
def putT (T : List (Nat × AV)) : Option Tmp → AV → List (Nat × AV)
 | none, _ => T
 | some t, v => (t, v) :: T
def newH : Option (Nat × Ent) → List (Nat × Ent) → List (Nat × Ent)
 | none, H => H
 | some (k, e), H => (k, e) :: H
def Kn.upd (σ : Kn) (dst : Option Tmp) (e : Eff) : Kn :=
 { T := putT σ.T dst e.v, H := newH e.nw (e.wr.map (fun x => (x.1, Ent.mk true x.2 0)) ++ σ.H), n := σ.n }
theorem look_wr (l : List (Nat × List AC)) (H : List (Nat × Ent)) (k : Nat) :
  (∃ cs, (k, cs) ∈ l ∧ look (l.map (fun x => (x.1, Ent.mk true x.2 0)) ++ H) k = some ⟨true, cs, 0⟩) ∨ ((∀ cs, (k, cs) ∉ l) ∧ look (l.map (fun x => (x.1, Ent.mk true x.2 0)) ++ H) k = look H k) := by
 induction l with
 | nil => exact Or.inr ⟨fun _ h => by simp at h, rfl⟩
 | cons x l ih =>
  obtain ⟨j, cs⟩ := x
  simp only [List.map_cons, List.cons_append, look_cons]
  by_cases h : k = j
  ·subst h; exact Or.inl ⟨cs, by simp, by simp⟩
  ·rcases ih with ⟨c, hc, e⟩ | ⟨hn, e⟩
   ·exact Or.inl ⟨c, by simp [hc], by simp [h, e]⟩
   ·exact Or.inr ⟨fun c hc => by rcases List.mem_cons.1 hc with h1 | h1; exact h (by injection h1); exact hn c h1, by simp [h, e]⟩
theorem Blk.congr {β β' : Bs} {w w' : World} {k : Nat} {e : Ent} (h : Blk β w k e) (hb : β' k = β k) (hsz : w.heap.size ≤ w'.heap.size) (hh : w'.heap[(β k).1]? = w.heap[(β k).1]?)
  (hc : ∀ c, c ∈ e.cells → ∀ j, j ∈ AC.ks c → β' j = β j) : Blk β' w' k e := by
 have hp : ∀ j, ptr β' k j = ptr β k j := fun j => by simp only [ptr, hb]
 refine ⟨by rw [hb]; exact Nat.lt_of_lt_of_le h.lt hsz, fun j c hj => ?_, fun hw j hj => ?_, fun hr hn => ?_⟩
 ·rw [hp, World.cell?_of_block (w := w) (a := ptr β k j) hh, h.cell j c hj, AC.g_congr c fun k' hk' => hc c (List.mem_of_getElem? hj) k' hk']
 ·rw [hp, World.frozen?_of_block (w := w) (a := ptr β k j) hh]; exact h.free hw j hj
 ·rw [hb]
  obtain ⟨h1, h2⟩ := h.room hr hn
  refine ⟨h1, fun j hj => ?_⟩
  rw [hp, World.cell?_of_block (w := w) (a := ptr β k j) hh, World.frozen?_of_block (w := w) (a := ptr β k j) hh]
  exact h2 j hj
/- of a block of which nothing is known, nothing is asked -/
theorem Blk.nil {β : Bs} {w : World} {k : Nat} {t : Bool} {r : Nat} (h : (β k).1 < w.heap.size) : Blk β w k ⟨t, [], r⟩ :=
 ⟨h, fun _ _ hj => by simp at hj, fun _ _ hj => absurd hj (Nat.not_lt_zero _), fun _ hn => absurd rfl hn⟩
theorem Rel.upd {C : Cx} {N : Nat} {β β' : Bs} {S : Nat → Prop} {σ : Kn} {a : Act} {w w' : World} {dst : Option Tmp} {e : Eff}
  (h : Rel C N β S σ a w) (hu : Up e β β' w w') (hk : e.Keys S) (hwr : WrOk e σ.H) (hnw : ∀ k en, e.nw = some (k, en) → ¬ S k) (hd : ∀ t, dst = some t → t < N) :
  Rel C N β' (ext S e.nw) (σ.upd dst e) (a.put dst (AV.g β' e.v)) w' := by
 have hβ : ∀ k, S k → β' k = β k := by
  intro k hS
  have := hu.nw
  cases hn : e.nw with
  | none => rw [hn] at this; exact congrFun this k
  | some x =>
   obtain ⟨k', en⟩ := x
   rw [hn] at this
   obtain ⟨b, o, c, _, _, hb, _⟩ := this
   rw [hb]
   unfold bset
   rw [if_neg]
   intro e'
   subst e'
   exact hnw _ _ hn hS
 have hS' : ∀ k, S k → ext S e.nw k := by
  intro k hS
  cases hn : e.nw with
  | none => exact hS
  | some x => obtain ⟨k', en⟩ := x; exact Or.inl hS
 -- a known block stays, if it is not written
 have hold : ∀ k ent, look σ.H k = some ent → (∀ cs, (k, cs) ∉ e.wr) → Blk β' w' k ent := by
  intro k ent hl hn
  obtain ⟨hS, hB, hc, _⟩ := h.blk k ent hl
  by_cases hz : ent.cells = []
  ·obtain ⟨t, cs, r⟩ := ent
   simp only at hz
   subst hz
   exact Blk.nil (by rw [hβ k hS]; exact Nat.lt_of_lt_of_le hB.lt hu.frame.size)
  refine hB.congr (hβ k hS) hu.frame.size (hu.frame.block _ hB.lt ?_) fun c hcc j hj => hβ j (hc c hcc j hj)
  rintro ⟨k', cs, hm, he⟩
  obtain ⟨en', hl', hw', hz'⟩ := hwr k' cs hm
  by_cases hkk : k' = k
  ·subst hkk; exact hn cs hm
  ·exact h.inj k' _ k ent hl' hl hkk hw' hz' hz he.symm
 have hlook : ∀ k ent, look (σ.upd dst e).H k = some ent → (e.nw = some (k, ent)) ∨ ((∀ cs, e.nw ≠ some (k, cs)) ∧ ((∃ cs, (k, cs) ∈ e.wr ∧ ent = ⟨true, cs, 0⟩) ∨ ((∀ cs, (k, cs) ∉ e.wr) ∧ look σ.H k = some ent))) := by
  intro k ent hl
  simp only [Kn.upd] at hl
  have key : look (e.wr.map (fun x => (x.1, Ent.mk true x.2 0)) ++ σ.H) k = some ent → ((∃ cs, (k, cs) ∈ e.wr ∧ ent = ⟨true, cs, 0⟩) ∨ ((∀ cs, (k, cs) ∉ e.wr) ∧ look σ.H k = some ent)) := by
   intro hl
   rcases look_wr e.wr σ.H k with ⟨cs, hm, he⟩ | ⟨hn, he⟩
   ·rw [he] at hl; injection hl with hl; exact Or.inl ⟨cs, hm, hl.symm⟩
   ·rw [he] at hl; exact Or.inr ⟨hn, hl⟩
  cases hn : e.nw with
  | none => rw [hn] at hl; exact Or.inr ⟨fun _ => by simp, key hl⟩
  | some x =>
   obtain ⟨k', cs⟩ := x
   rw [hn] at hl
   simp only [newH, look_cons] at hl
   by_cases hkk : k = k'
   ·subst hkk; simp at hl; exact Or.inl (by rw [hl])
   ·simp [hkk] at hl; exact Or.inr ⟨fun c hc => by simp at hc; exact hkk hc.1.symm, key hl⟩
 have hb1 : ∀ k ent, look (σ.upd dst e).H k = some ent → (∀ cs, e.nw ≠ some (k, cs)) → S k ∧ (β' k).1 < w.heap.size ∧ ∃ ent', look σ.H k = some ent' ∧ (ent.wr = true → ent'.wr = true) ∧ (ent.cells ≠ [] → ent'.cells ≠ []) ∧ ∀ k0, e.wr = [(k0, [])] → ent.cells ≠ [] → k ≠ k0 := by
  intro k ent hl hn
  rcases hlook k ent hl with h1 | ⟨_, ⟨cs, hm, he⟩ | ⟨hm, ho⟩⟩
  ·exact absurd h1 (hn ent)
  ·obtain ⟨en, hl', hw', hz'⟩ := hwr k cs hm
   obtain ⟨hS, hB, _⟩ := h.blk k _ hl'
   refine ⟨hS, by rw [hβ k hS]; exact hB.lt, _, hl', fun _ => hw', fun _ => hz', fun k0 h0 hz e' => ?_⟩
   rw [h0] at hm
   simp at hm
   rw [he, hm.2] at hz
   exact hz rfl
  ·obtain ⟨hS, hB, _⟩ := h.blk k _ ho
   exact ⟨hS, by rw [hβ k hS]; exact hB.lt, _, ho, id, id, fun k0 h0 hz e' => hm [] (by rw [h0, e']; simp)⟩
 have hgd : Good C w' := by
  refine ⟨h.gd.now.keep hu.frame.size fun b hb => hu.frame.block b (Nat.lt_of_lt_of_le hb h.gd.now.size) ?_, h.gd.x, h.gd.size⟩
  rintro ⟨k, cs, hm, rfl⟩
  obtain ⟨en, hl, hw, _⟩ := hwr k cs hm
  rcases (h.blk k en hl).2.2.2 hw with h1 | h1
  ·exact absurd (Nat.le_trans h.gd.size h1) (Nat.not_le.2 hb)
  ·exact absurd (h.gd.x _ h1) (Nat.not_le.2 hb)
 refine ⟨?_, ?_, ?_, ?_, ?_, ?_, fun k hF => ⟨hS' k (h.fix k hF).1, (hβ k (h.fix k hF).1).trans (h.fix k hF).2⟩, hgd⟩
 ·cases dst with
  | none => exact h.size
  | some t => simp [Act.put, h.size]
 ·cases dst with
  | none => exact h.defers
  | some t => exact h.defers
 ·intro t v hl
  have old : look σ.T t = some v → a.tmps[t]? = some (AV.g β' v) ∧ ∀ k, k ∈ AV.ks v → ext S e.nw k := by
   intro hl
   obtain ⟨h1, h2⟩ := h.tmp t v hl
   exact ⟨by rw [h1, AV.g_congr v fun k hk => hβ k (h2 k hk)], fun k hk => hS' k (h2 k hk)⟩
  cases dst with
  | none => exact old hl
  | some t' =>
   simp only [Kn.upd, putT, look_cons] at hl
   by_cases ht : t = t'
   ·subst ht
    simp at hl
    subst hl
    have := hd t rfl
    rw [← h.size] at this
    exact ⟨by simp [Act.put, this], hk.v⟩
   ·simp [ht] at hl
    have := old hl
    refine ⟨?_, this.2⟩
    simp only [Act.put]
    rw [Array.getElem?_setIfInBounds_ne (fun e => ht e.symm)]
    exact this.1
 ·intro k ent hl
  rcases hlook k ent hl with hn | ⟨hn, ⟨cs, hm, he⟩ | ⟨hn2, ho⟩⟩
  ·have := hu.nw
   rw [hn] at this
   obtain ⟨b, o, c, hb1, hb2, hb3, hb4⟩ := this
   refine ⟨by rw [hn]; exact Or.inr rfl, hb4, hk.nw k ent hn, fun _ => ?_⟩
   have hbk : (β' k).1 = b := by rw [hb3]; simp [bset]
   rw [hbk]
   rcases hb1 with hb1 | ⟨k0, h0, rfl⟩
   ·exact Or.inl (Nat.le_trans h.frame.size hb1)
   ·obtain ⟨en, hl', hw', _⟩ := hwr k0 [] (by rw [h0]; simp)
    exact (h.blk k0 _ hl').2.2.2 hw'
  ·subst he
   obtain ⟨en, hl', hw', _⟩ := hwr k cs hm
   obtain ⟨hS, hB, _, hx⟩ := h.blk k _ hl'
   exact ⟨hS' k hS, hu.wr k cs hm, fun c hc j hj => hS' j (hk.wr k cs hm c hc j hj), fun _ => by rw [hβ k hS]; exact hx hw'⟩
  ·obtain ⟨hS, hB, hc, hx⟩ := h.blk k _ ho
   exact ⟨hS' k hS, hold k ent ho hn2, fun c hcc j hj => hS' j (hc c hcc j hj), fun hw => by rw [hβ k hS]; exact hx hw⟩
 ·-- the new block is none of the others
  have hnew : ∀ k en k' ent', e.nw = some (k, en) → look (σ.upd dst e).H k' = some ent' → k ≠ k' → ent'.cells ≠ [] → (β' k).1 ≠ (β' k').1 := by
   intro k en k' ent' hn hl' hne hz'
   have := hu.nw
   rw [hn] at this
   obtain ⟨b, o, c, hb1', hb2, hb3, hb4⟩ := this
   have hbk : (β' k).1 = b := by rw [hb3]; simp [bset]
   obtain ⟨hS', hlt', ent1, hl1, hw1, hz1, hmv⟩ := hb1 k' ent' hl' (fun cs' h' => by rw [hn] at h'; injection h' with h'; injection h' with h'; exact hne h')
   rcases hb1' with hb1' | ⟨k0, h0, hb0⟩
   ·omega
   ·obtain ⟨en0, hl0, hw0, hz0⟩ := hwr k0 [] (by rw [h0]; simp)
    rw [hbk, hb0, hβ k' hS']
    exact h.inj k0 en0 k' ent1 hl0 hl1 (fun e' => hmv k0 h0 hz' e'.symm) hw0 hz0 (hz1 hz')
  intro k ent k' ent' hl hl' hne hw hz hz'
  by_cases hk1 : ∃ cs, e.nw = some (k, cs)
  ·obtain ⟨cs, hn⟩ := hk1
   exact hnew k cs k' ent' hn hl' hne hz'
  ·by_cases hk2 : ∃ cs, e.nw = some (k', cs)
   ·obtain ⟨cs, hn⟩ := hk2
    exact fun e' => hnew k' cs k ent hn hl (fun e => hne e.symm) hz e'.symm
   ·obtain ⟨hS1, hlt1, en1, hle1, hw1, hz1, _⟩ := hb1 k ent hl (fun cs h' => hk1 ⟨cs, h'⟩)
    obtain ⟨hS2, hlt2, en2, hle2, hw2, hz2, _⟩ := hb1 k' ent' hl' (fun cs h' => hk2 ⟨cs, h'⟩)
    rw [hβ k hS1, hβ k' hS2]
    exact h.inj k en1 k' en2 hle1 hle2 hne (hw1 hw) (hz1 hz) (hz2 hz')
 ·refine ⟨hu.frame.os.trans h.frame.os, hu.frame.tape.trans h.frame.tape, hu.frame.output.trans h.frame.output, Nat.le_trans h.frame.size hu.frame.size, fun B hB hX => ?_⟩
  refine (hu.frame.block B (Nat.lt_of_lt_of_le hB h.frame.size) ?_).trans (h.frame.block B hB hX)
  rintro ⟨k, cs, hm, he⟩
  obtain ⟨en, hl', hw', _⟩ := hwr k cs hm
  obtain ⟨_, _, _, hx⟩ := h.blk k _ hl'
  rcases hx hw' with h1 | h1
  ·omega
  ·rw [← he] at h1; exact hX h1
/- a value of the text, as it is known -/
def AV.cells : AV → Option (List AC)
 | (Sum.inl x) => some [x]
 | (Sum.inr (Sum.inl l)) => some l
 | _ => none
/- a cell of a type that is known -/
/- a part of cells: one, or so many from there on -/
/- cells with others in their place from o on -/
/- a struct or an array put together -/
/- numbers, texts, structs held against each other -/
/- the cells of a type whose values are numbers, bools and texts through and through -/
/- a slice held against nil -/
structure CallRec where
 f : Nat
 args : List AV
 H : List (Nat × Ent)
 e : Eff
/- what is to be shown besides: that a call does so; that what comes may be said so -/
abbrev Ob := Sum CallRec (Eff × Eff)
/- a call: what comes is taken from the hints; that it is so is to be shown -/
/- rows: so many elements of these cells -/
/- what a slice holds, cell by cell: how many elements, and their cells -/
/- bytes as a text -/
/- one operation that is done; k: the key of a block that it makes -/
/- values of the text -/
section
variable {P : Program}
/- a new block -/
/- addresses -/
/- reading -/
/- parts of a value -/
end
section
variable {P : Program}
/- putting together -/
end
section
variable {P : Program}
end
/- the value that such cells are -/
section
variable {P : Program}
end
section
variable {P : Program}
/- an end of a cut -/
end
section
variable {P : Program}
end
/- what is to be shown of a call -/
structure CallOK (P : Program) (r : CallRec) : Prop where
 keys : r.e.Keys (fun k => ∃ e, look r.H k = some e)
 wr : WrOk r.e r.H
 call : ∀ (β : Bs) (w : World), Gw w → (∀ k e, look r.H k = some e → e.wr = true → ng ≤ (β k).1) → (∀ k e, look r.H k = some e → Blk β w k e) → (∀ k e k' e', look r.H k = some e → look r.H k' = some e' → k ≠ k' → e.wr = true → e.cells ≠ [] → e'.cells ≠ [] → (β k).1 ≠ (β k').1) →
  Calls P r.f (r.args.map (AV.g β)).toArray w fun en w' => ∃ β', en = .returned (r.e.v.g β') ∧ Up r.e β β' w w'
/- what is to be shown besides -/
section
variable {P : Program}
end
/- is it done, by what is known of its guard? -/
/- a bool is as it was said to be -/
/- one operation; where q says so, what comes is said as the next hint says it -/
/- one operation: what it does; a bool on which others wait is parted on here -/
/- the key of a new block is the one that was handed in -/
/- what an operation looks at -/
structure Le (φ σ : Kn) : Prop where
 t : ∀ t v, look φ.T t = some v → look σ.T t = some v
 h : ∀ k e, look φ.H k = some e → look σ.H k = some e
theorem Rel.le {C : Cx} {N : Nat} {β : Bs} {S : Nat → Prop} {σ φ : Kn} {a : Act} {w : World} (h : Rel C N β S σ a w) (hl : Le φ σ) : Rel C N β S φ a w :=
 ⟨h.size, h.defers, fun t v hv => h.tmp t v (hl.t t v hv), fun k e he => h.blk k e (hl.h k e he), fun k e k' e' he he' => h.inj k e k' e' (hl.h k e he) (hl.h k' e' he'), h.frame, h.fix, h.gd⟩
structure Eqv (σ τ : Kn) : Prop where
 t : ∀ t, look σ.T t = look τ.T t
 h : ∀ k, look σ.H k = look τ.H k
theorem Eqv.symm {σ τ : Kn} (h : Eqv σ τ) : Eqv τ σ := ⟨fun t => (h.t t).symm, fun k => (h.h k).symm⟩
theorem Eqv.trans {σ τ ρ : Kn} (h : Eqv σ τ) (k : Eqv τ ρ) : Eqv σ ρ := ⟨fun t => (h.t t).trans (k.t t), fun i => (h.h i).trans (k.h i)⟩
theorem Eqv.le {σ τ : Kn} (h : Eqv σ τ) : Le σ τ := ⟨fun t v hv => by rw [← h.t]; exact hv, fun k e he => by rw [← h.h]; exact he⟩
theorem Le.trans {φ σ τ : Kn} (h : Le φ σ) (k : Le σ τ) : Le φ τ := ⟨fun t v hv => k.t t v (h.t t v hv), fun i e he => k.h i e (h.h i e he)⟩
/- what is known behind an operation, slot by slot, block by block -/
theorem look_putT (T : List (Nat × AV)) (d : Option Tmp) (v : AV) (t : Nat) : look (putT T d v) t = if d = some t then some v else look T t := by
 cases d with
 | none => simp [putT]
 | some d =>
  simp only [putT, look_cons, Option.some.injEq]
  by_cases h : t = d
  ·subst h; simp
  ·rw [if_neg h, if_neg (fun e => h e.symm)]
def wkeys (e : Eff) : List Nat := e.wr.map (·.1) ++ (match e.nw with | some (k, _) => [k] | none => [])
def updH (e : Eff) (H : List (Nat × Ent)) : List (Nat × Ent) := newH e.nw (e.wr.map (fun x => (x.1, Ent.mk true x.2 0)) ++ H)
theorem look_updH_out {e : Eff} {H : List (Nat × Ent)} {k : Nat} (hk : k ∉ wkeys e) : look (updH e H) k = look H k := by
 have h1 : look (e.wr.map (fun x => (x.1, Ent.mk true x.2 0)) ++ H) k = look H k := by
  rcases look_wr e.wr H k with ⟨cs, hm, _⟩ | ⟨_, he⟩
  ·exact absurd (by simp [wkeys]; exact Or.inl ⟨cs, hm⟩) hk
  ·exact he
 unfold updH
 cases hn : e.nw with
 | none => exact h1
 | some x =>
  obtain ⟨j, cs⟩ := x
  simp only [newH, look_cons]
  rw [if_neg, h1]
  intro hj
  exact hk (by simp [wkeys, hn, hj])
theorem look_updH_in {e : Eff} {k : Nat} (hk : k ∈ wkeys e) (H H' : List (Nat × Ent)) : look (updH e H) k = look (updH e H') k := by
 have key : ∀ {cs}, (k, cs) ∈ e.wr → look (e.wr.map (fun x => (x.1, Ent.mk true x.2 0)) ++ H) k = look (e.wr.map (fun x => (x.1, Ent.mk true x.2 0)) ++ H') k := by
  intro cs hm
  clear hk
  generalize e.wr = l at *
  induction l with
  | nil => cases hm
  | cons x l ih =>
   obtain ⟨j, c⟩ := x
   simp only [List.map_cons, List.cons_append, look_cons]
   by_cases hj : k = j
   ·simp [hj]
   ·simp only [hj, if_false]
    rcases List.mem_cons.1 hm with h1 | h1
    ·exact absurd (by injection h1) hj
    ·exact ih h1
 unfold updH
 cases hn : e.nw with
 | none =>
  simp only [wkeys, hn, List.append_nil, List.mem_map] at hk
  obtain ⟨⟨j, cs⟩, hm, rfl⟩ := hk
  exact key hm
 | some x =>
  obtain ⟨j, c⟩ := x
  simp only [newH, look_cons]
  by_cases hj : k = j
  ·simp [hj]
  ·simp only [hj, if_false]
   simp only [wkeys, hn, List.mem_append, List.mem_map, List.mem_singleton, hj, or_false] at hk
   obtain ⟨⟨j', cs⟩, hm, rfl⟩ := hk
   exact key hm
/- two operations that do not meddle with each other's slots and blocks -/
structure Apart (oi oj : Oper) (φi φj : Kn) (ei ej : Eff) : Prop where
 ij : ∀ d, oi.dst = some d → look φj.T d = none
 ji : ∀ d, oj.dst = some d → look φi.T d = none
 dd : ∀ d, oi.dst = some d → oj.dst ≠ some d
 hij : ∀ k, k ∈ wkeys ei → look φj.H k = none ∧ k ∉ wkeys ej
 hji : ∀ k, k ∈ wkeys ej → look φi.H k = none
theorem Le.under {φ σ : Kn} {d : Option Tmp} {e : Eff} (h : Le φ (σ.upd d e)) (hd : ∀ t, d = some t → look φ.T t = none) (hk : ∀ k, k ∈ wkeys e → look φ.H k = none) : Le φ σ := by
 refine ⟨fun t v hv => ?_, fun k en he => ?_⟩
 ·have := h.t t v hv
  simp only [Kn.upd, look_putT] at this
  by_cases hdt : d = some t
  ·rw [hd t hdt] at hv; cases hv
  ·rwa [if_neg hdt] at this
 ·have h1 := h.h k en he
  by_cases hkw : k ∈ wkeys e
  ·rw [hk k hkw] at he; cases he
  ·have h2 : look (updH e σ.H) k = some en := h1
   rwa [look_updH_out hkw] at h2
theorem Le.over {φ σ : Kn} {d : Option Tmp} {e : Eff} (h : Le φ σ) (hd : ∀ t, d = some t → look φ.T t = none) (hk : ∀ k, k ∈ wkeys e → look φ.H k = none) : Le φ (σ.upd d e) := by
 refine ⟨fun t v hv => ?_, fun k en he => ?_⟩
 ·simp only [Kn.upd, look_putT]
  by_cases hdt : d = some t
  ·rw [hd t hdt] at hv; cases hv
  ·rw [if_neg hdt]; exact h.t t v hv
 ·by_cases hkw : k ∈ wkeys e
  ·rw [hk k hkw] at he; cases he
  ·show look (updH e σ.H) k = some en
   rw [look_updH_out hkw]; exact h.h k en he
theorem upd_comm (σ : Kn) {di dj : Option Tmp} {ei ej : Eff} (hd : ∀ d, di = some d → dj ≠ some d) (hk : ∀ k, k ∈ wkeys ei → k ∉ wkeys ej) : Eqv ((σ.upd di ei).upd dj ej) ((σ.upd dj ej).upd di ei) := by
 refine ⟨fun t => ?_, fun k => ?_⟩
 ·simp only [Kn.upd, look_putT]
  by_cases h1 : dj = some t
  ·by_cases h2 : di = some t
   ·exact absurd h1 (hd t h2)
   ·simp [h1, h2]
  ·simp [h1]
 ·show look (updH ej (updH ei σ.H)) k = look (updH ei (updH ej σ.H)) k
  by_cases h1 : k ∈ wkeys ei
  ·rw [look_updH_out (hk k h1)]
   exact look_updH_in h1 _ _
  ·rw [look_updH_out (e := ei) h1]
   by_cases h2 : k ∈ wkeys ej
   ·exact look_updH_in h2 _ _
   ·rw [look_updH_out h2, look_updH_out h2, look_updH_out h1]
theorem Eqv.upd {σ τ : Kn} (h : Eqv σ τ) (d : Option Tmp) (e : Eff) : Eqv (σ.upd d e) (τ.upd d e) := by
 refine ⟨fun t => ?_, fun k => ?_⟩
 ·simp only [Kn.upd, look_putT, h.t]
 ·show look (updH e σ.H) k = look (updH e τ.H) k
  by_cases h1 : k ∈ wkeys e
  ·exact look_updH_in h1 _ _
  ·rw [look_updH_out h1, look_updH_out h1, h.h]
/- whatever order is picked from here on; E: what each operation looks at, and does -/
def AAny (ops : Array Oper) (E : Nat → Kn × Eff) (σf : Kn) : Nat → Array Bool → Kn → Prop
 | 0, listed, σ => Region.ready .any ops listed = [] ∧ Eqv σ σf
 | n + 1, listed, σ => (Region.ready .any ops listed = [] → Eqv σ σf) ∧
  ∀ i, i ∈ Region.ready .any ops listed → ∀ o, ops[i]? = some o → Le (E i).1 σ ∧ AAny ops E σf n (listed.setIfInBounds i true) (σ.upd o.dst (E i).2)
theorem AAny.congr {ops : Array Oper} {E : Nat → Kn × Eff} {σf : Kn} : ∀ {n : Nat} {listed : Array Bool} {σ τ : Kn}, AAny ops E σf n listed σ → Eqv σ τ → AAny ops E σf n listed τ
 | 0, _, _, _, h, he => ⟨h.1, he.symm.trans h.2⟩
 | _ + 1, _, _, _, h, he => ⟨fun h0 => he.symm.trans (h.1 h0), fun i hi o ho => ⟨(h.2 i hi o ho).1.trans he.le, (h.2 i hi o ho).2.congr (he.upd _ _)⟩⟩
theorem AAny.first {ops : Array Oper} {E : Nat → Kn × Eff} {σf : Kn} {i : Nat} {oi : Oper} (hi : ops[i]? = some oi) (T : Nat → Prop) (hT : ∀ j oj, ops[j]? = some oj → T j → ∃ e ∈ oj.after, Region.binds .any e = true ∧ (e.on = i ∨ T e.on)) : ∀ (n : Nat) (listed : Array Bool) (σ : Kn),
  (∀ j, T j → listed.getD j true = false) →
  (∀ j oj, ops[j]? = some oj → j ≠ i → listed.getD j true = false → (∀ e ∈ oj.after, Region.binds .any e = true → e.on ≠ i) → ¬ T j → Apart oi oj (E i).1 (E j).1 (E i).2 (E j).2) →
  i ∈ Region.ready .any ops listed → Le (E i).1 σ → AAny ops E σf n (listed.setIfInBounds i true) (σ.upd oi.dst (E i).2) → AAny ops E σf (n + 1) listed σ := by
 intro n
 induction n with
 | zero =>
  intro listed σ _ _ hr hl H
  refine ⟨fun h => (by rw [h] at hr; cases hr), fun j hj oj hoj => ?_⟩
  by_cases hji : j = i
  ·subst hji
   rw [hi] at hoj
   injection hoj with hoj
   subst hoj
   exact ⟨hl, H⟩
  ·have := ready_mono hj hji
   rw [H.1] at this
   cases this
 | succ n ih =>
  intro listed σ hun' hfree hr hl H
  refine ⟨fun h => (by rw [h] at hr; cases hr), fun j hj oj hoj => ?_⟩
  by_cases hji : j = i
  ·subst hji
   rw [hi] at hoj
   injection hoj with hoj
   subst hoj
   exact ⟨hl, H⟩
  ·obtain ⟨h1, h2⟩ := H.2 j (ready_mono hj hji) oj hoj
   obtain ⟨hjun, oj', hoj', hall⟩ := mem_ready.1 hj
   rw [hoj] at hoj'
   injection hoj' with hoj'
   subst hoj'
   have hnot : ∀ e ∈ oj.after, Region.binds .any e = true → e.on ≠ i := fun e he hb heq => by
    have h1 := hall e he hb
    have h0 := (mem_ready.1 hr).1
    rw [heq] at h1
    rcases Nat.lt_or_ge i listed.size with h' | h'
    ·simp [h'] at h0 h1; rw [h0] at h1; cases h1
    ·simp [Array.getElem?_eq_none h'] at h1
   have hnT : ¬ T j := fun hTj => by
    obtain ⟨e, he, hb, heq | hTe⟩ := hT j oj hoj hTj
    ·exact hnot e he hb heq
    ·have h1 := hall e he hb
     have h0 := hun' e.on hTe
     rcases Nat.lt_or_ge e.on listed.size with h' | h'
     ·simp [h'] at h0 h1; rw [h0] at h1; cases h1
     ·simp [Array.getElem?_eq_none h'] at h1
   have hap := hfree j oj hoj hji hjun hnot hnT
   refine ⟨h1.under hap.ij (fun k hk => (hap.hij k hk).1), ?_⟩
   have hfree' : ∀ k ok, ops[k]? = some ok → k ≠ i → (listed.setIfInBounds j true).getD k true = false → (∀ e ∈ ok.after, Region.binds .any e = true → e.on ≠ i) → ¬ T k → Apart oi ok (E i).1 (E k).1 (E i).2 (E k).2 := fun k ok hk hki hun hno hnk => by
    refine hfree k ok hk hki ?_ hno hnk
    by_cases hjk : j = k
    ·subst hjk; exact hjun
    ·rw [getD_set_ne true hjk] at hun; exact hun
   have hun2 : ∀ k, T k → (listed.setIfInBounds j true).getD k true = false := fun k hk => by
    have hjk : j ≠ k := fun h => hnT (h ▸ hk)
    rw [getD_set_ne true hjk]; exact hun' k hk
   refine ih (listed.setIfInBounds j true) (σ.upd oj.dst (E j).2) hun2 hfree' (ready_mono hr (Ne.symm hji)) (hl.over hap.ji hap.hji) ?_
   rw [Array.setIfInBounds_comm _ _ hji]
   exact h2.congr (upd_comm σ hap.dd (fun k hk => (hap.hij k hk).2))
/- whatever order is picked, the model comes to what is known in the end -/
/- the reckoning, in the order of the text -/
/- those behind the one at i that wait for it, or for one that does -/
/- of two, the later one waits for the earlier one, or they do not meddle with each other's blocks -/
def bf (f : FuncId) : Frame := { (default : Frame) with fn := f, kind := .normal }
def RT (P : Program) (f : FuncId) (todo : List Item) (a : Act) (w : World) (R : Ending → World → Prop) : Prop :=
 ∀ cs, ∃ e w' fr, R e w' ∧ Comes P (lone ((bf f).at a todo) cs w) (lone fr cs w') e ∧ fr.fn = f ∧ fr.leaving P w' e
section
variable {P : Program} {f : FuncId} {a : Act} {w : World} {R : Ending → World → Prop}
theorem RT.step {todo todo' : List Item} {a' : Act} {w' : World} (hs : ∀ cs, step P (lone ((bf f).at a todo) cs w) = .next (lone ((bf f).at a' todo') cs w')) (h : RT P f todo' a' w' R) : RT P f todo a w R := by
 intro cs
 obtain ⟨e, w'', fr, h1, h2, h3⟩ := h cs
 exact ⟨e, w'', fr, h1, .of_steps (.one (hs cs)) h2, h3⟩
theorem RT.block {id : Nat} {c : Code} {k : List Item} (h : RT P f (.code c :: .inBlock id :: k) a w R) : RT P f (.code (.block id c) :: k) a w R := h.step fun _ => step_block
theorem RT.inBlock {id : Nat} {k : List Item} (h : RT P f k a w R) : RT P f (.inBlock id :: k) a w R := h.step fun _ => step_inBlock
theorem RT.cond {c : Operand} {x y : Code} {k : List Item} {t : Bool} (hc : a.eval c = .bool t) (h : RT P f (.code (if t then x else y) :: k) a w R) : RT P f (.code (.cond c x y) :: k) a w R := h.step fun _ => step_cond hc
theorem RT.ret {fn : Func} {k : List Item} {v : Value} (hf : P.funcs[f]? = some fn) (hd : a.defers = []) (hv : (results fn a.tmps).run P w = .ok v w) (h : R (.returned v) w) : RT P f (.code .ret :: k) a w R :=
 fun _ => ⟨.returned v, w, _, h, .one step_ret, rfl, rfl, hd, rfl, fn, hf, hv⟩
theorem RT.fin {fn : Func} {v : Value} (hf : P.funcs[f]? = some fn) (hd : a.defers = []) (hv : (results fn a.tmps).run P w = .ok v w) (h : R (.returned v) w) : RT P f [] a w R :=
 fun _ => ⟨.returned v, w, _, h, .one step_end, rfl, rfl, hd, rfl, fn, hf, hv⟩
end
/- what a call hands back, by what is known -/
/- what comes of it: an end with a value, or the rest that stands open -/
abbrev Out := Sum (AV × Kn) (List Item × Kn)
abbrev Out.ret (v : AV) (σ : Kn) : Out := (Sum.inl (v, σ))
structure Run where
 out : Out
 ok : List Bool
 cr : List Ob
/- the operations of a region whose value is said as a hint says it -/
/- from here on, till the call ends, or till a round of a loop begins where 'st' says so -/
def ART (P : Program) (f : FuncId) (C : Cx) (N : Nat) (todo : List Item) (σ : Kn) (R : Ending → World → Prop) : Prop :=
 ∀ β a w, Rel C N β (fun k => k < σ.n) σ a w → RT P f todo a w R
/- what the end of a call asks for -/
def AEnd (C : Cx) (N : Nat) (v : AV) (σ : Kn) (R : Ending → World → Prop) : Prop :=
 ∀ β a w, Rel C N β (fun k => k < σ.n) σ a w → (∀ k, k ∈ v.ks → k < σ.n) → R (.returned (v.g β)) w
def Run.next (P : Program) (f : FuncId) (C : Cx) (N : Nat) (R : Ending → World → Prop) : Out → Prop
 | (Sum.inl (v, σ)) => AEnd C N v σ R
 | (Sum.inr (todo, σ)) => ART P f C N todo σ R
/- where a call begins -/
/- where a call is: the world that it began in, the handed blocks that it may write -/
/- what a run that ends hands back -/
/- what is asked of what comes: no keys but those that were handed in, and the new one -/
/- with nothing handed in that lies in memory -/
/- contracts, there and back -/
theorem CallOK.congr {P : Program} {r q : CallRec} (h : CallOK P q) (e : r = q) : CallOK P r := e ▸ h
/- loops -/
/- cells without keys stay -/
/- blocks of which less was asked -/
/- a row that grows is a slice of some capacity -/
def AC.cap (β : Bs) : AC → AC
 | (Sum.inr (Sum.inr (Sum.inr (Sum.inr (Sum.inr (Sum.inr (Sum.inl (k, n)))))))) => .sl k 0 n (β k).2.2
 | c => c
/- names: the first and one more -/
/- ways, put together -/
/- the hints are what is to be shown, in its order -/
end Go.Proofs.YtkigmocchaikgaaGreatDoor
/- Numbers that are put together bit by bit; plain facts, without the program. -/
namespace Go.Proofs.YtkigmocchaikgaaGreatDoor
/- what 'put' makes of a pair -/
/- right bits: none both known 1 and unknown -/
/- the bits below k that f tells -/
/- the same from the highest bit on: the c highest bits -/
/- may a bit be 0, may it be 1: of a pair -/
/- JoinBits -/
/- MeetBits -/
/- ShiftBits: which bit comes from where -/
/- SpanBits: the c highest bits are the same -/
/- InsideBits -/
/- the first place, of those below n, at which f says no -/
end Go.Proofs.YtkigmocchaikgaaGreatDoor
/- What an argument is, by its type. -/
namespace Go.Proofs.YtkigmocchaikgaaGreatDoor
open Go.ChangeShapes Go.WideShapes Go.ChangeAt Go.RowKit Go.Joins

section
variable {H : Type} {enc : TypeId × Value → H} {P : Program} {w : World} {base : Nat} {spare : Nat → Bool} {held : Bool}
end
end Go.Proofs.YtkigmocchaikgaaGreatDoor
/- A call's contract where nothing lies in memory; short words. -/
namespace Go.Proofs.YtkigmocchaikgaaGreatDoor
open Go.RowKit

end Go.Proofs.YtkigmocchaikgaaGreatDoor
/- x op y, as a plain function. -/
namespace Go.Proofs.YtkigmocchaikgaaGreatDoor

structure V6 (α : Type) where
 x0 : α
 x1 : α
 x2 : α
 x3 : α
 x4 : α
 x5 : α
structure Ins where
 op : Int
 d : Int
 s : Int
 im : BitVec 64
 of : Int
def Ins.cs (i : Ins) : List AC := [.i i.op, .i i.d, .i i.s, .u i.im, .i i.of]
structure Mach where
 t : Int
 r : V6 (BitVec 64)
 s : V6 Bool
 mem : ByteArray
 fin : Int
def Mach.cs (m : Mach) : List AC := [.i m.t, .u m.r.x0, .u m.r.x1, .u m.r.x2, .u m.r.x3, .u m.r.x4, .u m.r.x5, .b m.s.x0, .b m.s.x1, .b m.s.x2, .b m.s.x3, .b m.s.x4, .b m.s.x5, .s m.mem, .i m.fin]
structure Outc where
 fin : Int
 t : Int
 n : Int
 ret : BitVec 64
 mem : ByteArray
def Outc.cs (r : Outc) : List AC := [.i r.fin, .i r.t, .i r.n, .u r.ret, .s r.mem]
/- a right step -/
/- a step of a right program that has so many behind it -/
/- what a step uses -/
/- a machine that is right; where it begins -/
/- a step -/
def Mach.on (m : Mach) (o : Int) : Mach := ⟨m.t + 1 + o, m.r, m.s, m.mem, m.fin⟩
/- what Step and Run answer -/
end Go.Proofs.YtkigmocchaikgaaGreatDoor
/- What is known of right programs, steps and machines. -/
namespace Go.Proofs.YtkigmocchaikgaaGreatDoor
open Go.RowKit
/- a program, step by step -/
/- loads, byte by byte, from below -/
/- a step keeps the memory's size; it ends, or goes on further ahead -/
/- in any right step the registers may be looked at -/
/- of the six, from the one on that has n left: is there one? -/
/- a call that hands back a new block -/
end Go.Proofs.YtkigmocchaikgaaGreatDoor
/- What an argument is that is a machine, or a program; a contract that reads it, as the row asks for it. -/
namespace Go.Proofs.YtkigmocchaikgaaGreatDoor
open Go.ChangeShapes Go.WideShapes Go.ChangeAt Go.RowKit Go.Joins
section
variable {H : Type} {enc : TypeId × Value → H} {W : World} {b0 : Nat} {spare : Nat → Bool} {held : Bool} {v : Value} {d : DataW H} {p : List MemPlace}
/- a program: none, or one that lies in memory from a place on -/
end
end Go.Proofs.YtkigmocchaikgaaGreatDoor
/- Words that are read: must, readSigned, readNumber, readReg. -/
namespace Go.Proofs.YtkigmocchaikgaaGreatDoor
open Go.RowKit
/- a call that hands a value back, or leaves by must -/
/- numbers -/
/- a register's word -/
/- the same, as contracts -/
abbrev Ins.v (i : Ins) : Value := .agg #[.int .i64 i.op, .int .i64 i.d, .int .i64 i.s, .int .u64 (nv i.im), .int .i64 i.of]
/- 0: dst, 1: src, 2: source, 3: imm, 4: off -/
end Go.Proofs.YtkigmocchaikgaaGreatDoor
/- A number without sign as a text: FormatUint, at base 10; one with a sign: Itoa. -/
namespace Go.Proofs.YtkigmocchaikgaaGreatDoor
open Go.Shelf Go.RowKit Go.Sort Go.Lib

end Go.Proofs.YtkigmocchaikgaaGreatDoor
/- Ways of bodies, written by a program (ways.py): what each asks for, and hands back. -/
namespace Go.Proofs.YtkigmocchaikgaaGreatDoor
open Go.RowKit
section
variable {i : Ins} {t : ByteArray} {n1 op : Int} {x : BitVec 64} {w : World} {β : Bs} {n : Nat}
end
end Go.Proofs.YtkigmocchaikgaaGreatDoor
/- What a word tells of a step (withWord), the word at a place (wordAt). -/
namespace Go.Proofs.YtkigmocchaikgaaGreatDoor
open Go.Shelf Go.RowKit Go.Sort Go.Lib

end Go.Proofs.YtkigmocchaikgaaGreatDoor
/- The operations' names: opsByName. -/
namespace Go.Proofs.YtkigmocchaikgaaGreatDoor
open Go.Shelf Go.RowKit Go.Sort Go.Lib Go.Maps
theorem law : Keyed Tryz.prog 9 := string_keyed Tryz.underlying9
theorem upd {w : World} {b n : Nat} {D : DataW Unit} (h : w.ownsMap Tryz.prog 9 (plainElem Tryz.prog 3) b n D) (hn : n ≤ 15) (k : Array UInt8) (hk : k.size ≤ 100) (v : Int) (hv : (Lit.int .i64 v).wf = true) :
  ∃ w', (Instr.mapUpdate 62 (.map (some b)) (.string ⟨k⟩) (.int .i64 v)).run Tryz.prog w = .ok () w' ∧ w'.ownsMap Tryz.prog 9 (plainElem Tryz.prog 3) b (n + 1) (D.put (.string k.toList) (.lit (.int .i64 v))) ∧ w.grownBy w' (some b) := by
 have := h.update law Tryz.underlying62 (by unfold maxLen; omega) (key := .string ⟨k⟩) (val := .int .i64 v) (Go.WideMaps.keyOf_string_mk Tryz.underlying9 (by unfold maxLen; show k.size ≤ _; omega)) (plainElem_int Tryz.underlying3 hv)
 exact this

end Go.Proofs.YtkigmocchaikgaaGreatDoor
/- A strings.Builder written to: copyCheck, WriteString, WriteByte. -/
namespace Go.Proofs.YtkigmocchaikgaaGreatDoor
open Go.Shelf Go.RowKit Go.Sort Go.Lib
abbrev TB : TypeId := 38
abbrev T8 : TypeId := 5
/- the builder in block b holds the bytes l -/
abbrev Bld (B b : Nat) (l : List UInt8) (w : World) : Prop := IsBuilderF TB T8 B b (byteCells l) w
/- the places lie in block g -/
end Go.Proofs.YtkigmocchaikgaaGreatDoor
/- Ways of bodies, written by a program (ways.py): what each asks for, and hands back. -/
namespace Go.Proofs.YtkigmocchaikgaaGreatDoor
open Go.RowKit
section
variable {L : List Ins} {c n j : Nat} {w : World} {β : Bs} {C : Cx} {R : Ending → World → Prop} {E : Eff}
end
section
variable {V : AV} {n : Int} {i : Ins}
end

section
variable {m : Mach} {e o r op q j : Int} {x y : BitVec 64} {i : Ins} {V : AV} {t : ByteArray} {C : Cx} {R : Ending → World → Prop} {w : World} {β : Bs} {n : Nat} {E : Eff}
end

section
variable {L : List Ins} {c : Nat} {w : World} {β : Bs} {E : Eff}
end
end Go.Proofs.YtkigmocchaikgaaGreatDoor
/- A program as a text: Show. -/
namespace Go.Proofs.YtkigmocchaikgaaGreatDoor
open Go.Shelf Go.RowKit Go.Sort Go.Lib
/- what a right step's fields are -/
abbrev T36 : TypeId := 39
/- under way: the text so far in the builder, the names in their block -/
structure Sh (B bn : Nat) (A : Array Value) (w1 : World) (l : List UInt8) (w : World) : Prop where
 bld : Bld B B l w
 nm : w.heap[bn]? = some (.cells A T36 (0, 0))
 bel : Below B w1 w
 ne : bn ≠ B
 le : B ≤ w.heap.size
theorem Sh.lt {B bn : Nat} {A : Array Value} {w1 w : World} {l : List UInt8} (h : Sh B bn A w1 l w) : B < w.heap.size := by
 rcases h.bld with h | h <;> exact h.lt
end Go.Proofs.YtkigmocchaikgaaGreatDoor
/- The step of a line: readLine. -/
namespace Go.Proofs.YtkigmocchaikgaaGreatDoor
open Go.Shelf Go.RowKit Go.Sort Go.Lib Go.Maps


end Go.Proofs.YtkigmocchaikgaaGreatDoor
/- A right program's steps have small fields. -/
namespace Go.Proofs.YtkigmocchaikgaaGreatDoor
open Go.Shelf Go.RowKit Go.Sort Go.Lib

end Go.Proofs.YtkigmocchaikgaaGreatDoor
/- The steps of all lines: readLines. -/
namespace Go.Proofs.YtkigmocchaikgaaGreatDoor
open Go.Shelf Go.RowKit Go.Sort Go.Lib Go.Maps
/- under way -/
/- what readLines hands back -/
/- what Read hands back -/
end Go.Proofs.YtkigmocchaikgaaGreatDoor
/- Numbers read back: plain. -/
namespace Go.Proofs.YtkigmocchaikgaaGreatDoor
open Go.Lib


/- a line -/

end Go.Proofs.YtkigmocchaikgaaGreatDoor
/- Ways of bodies, written by a program (ways.py): what each asks for, and hands back. -/
namespace Go.Proofs.YtkigmocchaikgaaGreatDoor
open Go.RowKit
section
variable {L L2 : List Ins} {q c d j n : Nat} {C : Cx} {R : Ending → World → Prop} {u : Ins} {w : World} {β : Bs}
end


end Go.Proofs.YtkigmocchaikgaaGreatDoor
/- Two programs that are the same, held against each other. -/
namespace Go.Proofs.YtkigmocchaikgaaGreatDoor
open Go.Shelf Go.RowKit Go.Sort Go.Lib

end Go.Proofs.YtkigmocchaikgaaGreatDoor
/- The laws' own programs and memory. -/
namespace Go.Proofs.YtkigmocchaikgaaGreatDoor

end Go.Proofs.YtkigmocchaikgaaGreatDoor
/- The laws' own small program, as a call. -/
namespace Go.Proofs.YtkigmocchaikgaaGreatDoor
open Go.Shelf Go.RowKit Go.Sort Go.Lib

/- Read and Show of what came: the text t that was shown, then s -/
end Go.Proofs.YtkigmocchaikgaaGreatDoor
/- Ways of bodies, written by a program (ways.py): what each asks for, and hands back. -/
namespace Go.Proofs.YtkigmocchaikgaaGreatDoor
open Go.RowKit
section
variable {x : BitVec 64} {u t : ByteArray} {V : AV} {C : Cx} {R : Ending → World → Prop} {j n : Nat} {w : World} {β : Bs} {n1 : Int} {i : Ins}
end
section
variable {t : ByteArray} {c : BitVec 8} {q p j r n : Nat} {C : Cx} {R : Ending → World → Prop} {A : List AC} {w : World} {β : Bs}
end
end Go.Proofs.YtkigmocchaikgaaGreatDoor
/- What the reference reads of a text: plain. -/
namespace Go.Proofs.YtkigmocchaikgaaGreatDoor
open Go.RowKit Go.Lib
/- numbers -/
/- the program that is shown so -/
end Go.Proofs.YtkigmocchaikgaaGreatDoor
/- What is known, under other keys. -/
namespace Go.Proofs.YtkigmocchaikgaaGreatDoor
open Go.RowKit

end Go.Proofs.YtkigmocchaikgaaGreatDoor
/- The reference's numbers and words; a text, cut. -/
namespace Go.Proofs.YtkigmocchaikgaaGreatDoor
open Go.RowKit Go.Lib
/- numbers read -/
/- a text, cut -/
/- what is left to be cut -/
end Go.Proofs.YtkigmocchaikgaaGreatDoor
/- Ways of bodies, written by a program (ways.py): what each asks for, and hands back. -/
namespace Go.Proofs.YtkigmocchaikgaaGreatDoor
open Go.RowKit
section
variable {i : Ins} {m u1 u2 u3 u4 t : ByteArray} {A : List AC} {L : List Ins} {c j n : Nat} {C : Cx} {R : Ending → World → Prop} {w : World} {β : Bs} {n1 : Int} {x : BitVec 64}
end
section
variable {op a lo hi d q s of : Int} {V : AV} {i : Ins} {L : List Ins} {c n : Nat} {w : World} {β : Bs} {C : Cx} {R : Ending → World → Prop} {E : Eff} {m : Mach} {mem : ByteArray} {x im : BitVec 64}
end
section
variable {m : Mach} {w : World} {β : Bs} {n c : Nat} {C : Cx} {R : Ending → World → Prop} {E : Eff} {u : V6 Bool} {j e q : Int} {mem : ByteArray} {x : BitVec 64} {V : AV} {L : List Ins}
end
section
variable {i : Ins} {m : Mach} {jp : Bool} {V : AV} {d s of : Int} {im : BitVec 64}
end
section
variable {i : Ins} {m : Mach} {C : Cx} {R : Ending → World → Prop} {u : V6 Bool} {j d s of op : Int} {w : World} {β : Bs} {n : Nat} {E : Eff} {im : BitVec 64}
end

/- where a run is -/
/- CheckCode -/
section
variable {L : List Ins} {c : Nat} {w : World} {β : Bs} {E : Eff}
end
/- CheckMachine, StartOf -/
/- uses -/
end Go.Proofs.YtkigmocchaikgaaGreatDoor
/- A step as a text, a program as a text: the reference's. -/
namespace Go.Proofs.YtkigmocchaikgaaGreatDoor
open Go.RowKit Go.Lib
/- registers that there are -/
/- a program -/
end Go.Proofs.YtkigmocchaikgaaGreatDoor
/- The reference's names, and empty words, as cells. -/
namespace Go.Proofs.YtkigmocchaikgaaGreatDoor

end Go.Proofs.YtkigmocchaikgaaGreatDoor
/- Ways of bodies, written by a program (ways.py): what each asks for, and hands back. -/
namespace Go.Proofs.YtkigmocchaikgaaGreatDoor
open Go.RowKit
section
variable {t m u w1 w2 w3 w4 : ByteArray} {r j n : Nat} {D A : List AC} {C : Cx} {R : Ending → World → Prop} {o d s2 f : Int} {i : Ins} {w : World} {β : Bs} {x : BitVec 64}
end
section
variable {t x u : ByteArray} {r j n : Nat} {D : List AC} {C : Cx} {R : Ending → World → Prop} {i : Ins} {M : List Ins} {w : World} {β : Bs} {e : Int}
end
end Go.Proofs.YtkigmocchaikgaaGreatDoor
/- The step that a line may show (guess), the program that is shown so (CodeFrom): the reference's. -/
namespace Go.Proofs.YtkigmocchaikgaaGreatDoor
open Go.RowKit Go.Lib
/- a call that writes the one block that it is handed -/
/- which name it is -/
/- the words, and empty ones behind them -/
/- a program in a slice that was put together -/
end Go.Proofs.YtkigmocchaikgaaGreatDoor
/- The law CodeShows, as calls. -/
namespace Go.Proofs.YtkigmocchaikgaaGreatDoor
open Go.Shelf Go.RowKit Go.Sort Go.Lib
/- what is asked of a program, told in one -/
end Go.Proofs.YtkigmocchaikgaaGreatDoor
