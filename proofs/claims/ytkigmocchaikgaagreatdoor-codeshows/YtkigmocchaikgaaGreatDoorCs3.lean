import Derived.Test.YtkigmocchaikgaaGreatDoorCs2
import Derived.Lib.ItoaMem
import Derived.Lib.AppendIntMem
import Derived.Lib.Walk
import Derived.BigCall
import Derived.BigGuard
import Derived.Test.YtkigmocchaikgaaGreatDoorProg
import Derived.Lib.ItoaLen
import Derived.Maps.Own
import Derived.StringKeys
import Derived.Maps.OwnOps
import Derived.Maps.OwnSet
import Derived.Maps.RangeWalk
import Derived.Shelf.Strings.Builder1
import Derived.Lib.FrozenHead
import Derived.Lib.OthersKept
import Derived.Deep.RegionWith
import Derived.Lib.SplitLaws
import Derived.Defers
import Derived.Recover
import Derived.Laws.Pointers
/- A number without sign as a text: FormatUint, at base 10; one with a sign: Itoa. -/
namespace Go.Proofs.YtkigmocchaikgaaGreatDoor
open Go.Shelf Go.RowKit Go.Sort Go.Lib
theorem holds_zero0 (w : World) (T : TypeId) (nd : Nat) (hs : nd ≤ 24) : Holds (fun (b : UInt8) => Value.int .u8 (b.toNat : Int)) (w.alloc (.cells zeros24 T)) w.heap.size 0 (Array.replicate nd (0 : UInt8)) := fun j hj => by
 have hj' : j < nd := by simpa using hj
 refine ⟨?_, World.frozen?_alloc_new _ _ _ _⟩
 rw [World.cell?_alloc_new, zeros24_at _ (by omega), getElem!_pos _ j hj]
 simp
theorem fin0 (w : World) (o : Obj) (dk : Array UInt8) (k : Nat) : ∃ os, (putRow (fun (b : UInt8) => Value.int .u8 (b.toNat : Int)) (w.alloc o) w.heap.size 0 dk).drewN k = grow (w.drewN k) os := by
 rw [alloc_eq_grow]
 obtain ⟨os', _, e⟩ := putRow_grow_new (fun (b : UInt8) => Value.int .u8 (b.toNat : Int)) w #[o] w.heap.size 0 dk (Nat.le_refl _)
 exact ⟨os', by rw [e]; rfl⟩
set_option maxHeartbeats 1600000 in
set_option maxRecDepth 100000 in
theorem fmtU_in {u : Nat} (hu64 : u < 18446744073709551616) {w : World} (hg : Gw w) : Calls Tryz.prog 55 #[.int .u64 u, .int .i64 10] w fun e w' => e = .returned (.string ⟨(Lib.decDigits u).toArray⟩) ∧ Below w.heap.size w w' := by
 by_cases hs : u < 100
 ·have hw : IntKind.i64.wrap (u : Int) = (u : Int) := by rw [IntKind.wrap_i64]; omega
  go_enter Tryz.func55, Tryz.ntmps55
  go_wp2_with (go_at_call 61; refine (Tryz.internal_strconv_small u hs _).mono ?_; rintro e w' ⟨rfl, rfl⟩)
  go_ret
  exact ⟨rfl, Below.refl _ _⟩
 ·have hu1 : 1 ≤ u := by omega
  have hnd20 : Lib.nDigits u ≤ 20 := by have := Lib.numDigits_eq u hu1 hu64; split at this <;> omega
  have hal : Tryz.prog.arrayLen 85 = 24 := by kernel_rfl
  have hsl : ∀ W, (Instr.sliceAt 85 (.pointer (some ⟨w.heap.size, 0, none⟩)) none (some (.int .i64 (Lib.nDigits u : Int))) none).run Tryz.prog W = .ok (.slice (some ⟨w.heap.size, 0, none⟩) (Lib.nDigits u) 24) W := fun W => by
   rw [run_sliceAt_array_h W 85 ⟨w.heap.size, 0, none⟩ (by kernel_rfl) .i64 (Lib.nDigits u : Int) (by omega) (by rw [hal]; omega), hal]
   have hz : (sizeOf (Tryz.prog.elem 85)).run Tryz.prog W = .ok 1 W := by kernel_rfl
   rw [hz]
   simp [slicedAt, Result.andThen, Lib.add_plain]
  have hH0 := holds_zero0 w 85 (Lib.nDigits u) (by omega)
  have hfmt := Tryz.internal_strconv_formatBase10 w.heap.size 0 24 u (Array.replicate (Lib.nDigits u) 0) (w.alloc (.cells Lib.zeros24 85)) hH0 (by rw [Array.size_replicate]; exact Lib.lt_pow_nDigits u) hu64 (by rw [Array.size_replicate]; omega)
  rw [Array.size_replicate] at hfmt
  have HH0 := Lib.hid hH0
  clear hH0 hal
  go_enter Tryz.func55, Tryz.ntmps55
  go_wp2_with (first
   | (go_at_call 62; refine (Tryz.internal_strconv_numDigits u hu1 hu64 _ (Lib.tabIs_alloc hg.tab _)).mono ?_; rintro e w' ⟨rfl, rfl⟩))
  go_at_call 63
  refine hfmt.mono ?_
  rintro e w' ⟨rfl, k, v', dk, rfl, hF⟩
  have hcv : (convert 36 9 (.slice (some ⟨w.heap.size, 0, none⟩) (Lib.nDigits u) 24)).run Tryz.prog ((putRow (fun (b : UInt8) => Value.int .u8 (b.toNat : Int)) (w.alloc (.cells Lib.zeros24 85)) w.heap.size 0 dk).drewN k) = .ok (.string ⟨(Lib.decDigits u).toArray⟩) ((putRow (fun (b : UInt8) => Value.int .u8 (b.toNat : Int)) (w.alloc (.cells Lib.zeros24 85)) w.heap.size 0 dk).drewN k) := by
   have h := run_convert_bytes_back (P := Tryz.prog) ((putRow (fun (b : UInt8) => Value.int .u8 (b.toNat : Int)) (w.alloc (.cells Lib.zeros24 85)) w.heap.size 0 dk).drewN k) 36 9 5 ⟨w.heap.size, 0, none⟩ 24 (Lib.decDigits u) Tryz.underlying36 Tryz.underlying5 Tryz.underlying9 (fun j hj => by
    rw [Lib.row_is_numeral hF j hj, Lib.add_plain, World.cell?_drewN]
    exact cell?_putRow (fun (b : UInt8) => Value.int .u8 (b.toNat : Int)) _ w.heap.size 0 _ dk HH0.out (by rw [hF.size, Array.size_replicate]) j (by rw [hF.size]; rw [Lib.decDigits_length] at hj; exact hj))
   rw [Lib.decDigits_length] at h
   exact h
  go_wp2
  go_ret
  obtain ⟨os, eo⟩ := fin0 w (.cells Lib.zeros24 85) dk k
  refine ⟨rfl, ?_⟩
  rw [eo]
  exact below_grow _ w (Nat.le_refl _) k os
theorem fmtU_ok (x : BitVec 64) : Ok 31 [.c (.u x), .c (.i 10)] (.c (.s ⟨(Lib.decDigits x.toNat).toArray⟩)) := by
 refine ok_of_calls (A := #[.int .u64 (x.toNat : Int), .int .i64 10]) (fun _ => rfl) (fun _ => rfl) rfl fun w hw => ?_
 go_enter Tryz.func31, Tryz.ntmps31
 go_wp2_with (go_at_call 55; refine (fmtU_in (u := x.toNat) (by have := x.isLt; omega) hw).mono ?_; rintro e w' ⟨rfl, hb⟩)
 go_ret
 exact ⟨rfl, hb⟩
theorem itoa_ok (n : Int) (h0 : -9223372036854775808 ≤ n) (h1 : n ≤ 9223372036854775807) : Ok 30 [.c (.i n)] (.c (.s ⟨(Lib.itoa n).toArray⟩)) :=
 ok_of_calls (A := #[.int .i64 n]) (fun _ => rfl) (fun _ => rfl) rfl fun w hw => (Tryz.strconv_Itoa n h0 h1 w hw.tab).mono fun e w' ⟨he, k, os, hw'⟩ => ⟨he, by rw [hw']; exact below_grow _ w (Nat.le_refl _) k os⟩
theorem hasPrefix_ok (s p : ByteArray) : Ok 70 [.c (.s s), .c (.s p)] (.c (.b (Lib.hasPrefix s.data.toList p.data.toList))) :=
 ok_of_calls (A := #[.string s, .string p]) (fun _ => rfl) (fun _ => rfl) rfl fun w _ => (Tryz.strings_HasPrefix s p w).mono fun e w' ⟨he, hw'⟩ => ⟨he, by rw [hw']; exact Below.refl _ _⟩
end Go.Proofs.YtkigmocchaikgaaGreatDoor
/- Ways of bodies, written by a program (ways.py): what each asks for, and hands back. -/
namespace Go.Proofs.YtkigmocchaikgaaGreatDoor
open Go.RowKit
section
variable {i : Ins} {t : ByteArray} {n1 op : Int} {x : BitVec 64} {w : World} {β : Bs} {n : Nat}
theorem ww0_w0 (c0 : Ok 69 [.c (.s t)] (.c (.i n1))) :
  Ok 59 [.ag i.cs, .c (.i 0), .c (.s t)] (.ag [.i i.op, .i n1, .i i.s, .u i.im, .i i.of]) :=
 val_run2 [true] ([]) [] Tryz.func59 rfl rfl rfl rfl (by kernel_rfl) rfl (cr_cons c0 cr_nil)
theorem ww1_w0 (c0 : Ok 69 [.c (.s t)] (.c (.i n1))) :
  Ok 59 [.ag i.cs, .c (.i 1), .c (.s t)] (.ag [.i i.op, .i i.d, .i n1, .u i.im, .i i.of]) :=
 val_run2 [false, true, true] ([]) [] Tryz.func59 rfl rfl rfl rfl (by kernel_rfl) rfl (cr_cons c0 cr_nil)
theorem ww2r_w0 (c0 : Ok 70 [.c (.s t), .c (.s (ByteArray.mk #[OfNat.ofNat 114]))] (.c (.b true))) (c1 : Ok 69 [.c (.s t)] (.c (.i n1))) :
  Ok 59 [.ag i.cs, .c (.i 2), .c (.s t)] (.ag [.i i.op, .i i.d, .i n1, .u i.im, .i i.of]) :=
 val_run2 [false, false, true, true] ([]) [] Tryz.func59 rfl rfl rfl rfl (by kernel_rfl) rfl (cr_cons c0 (cr_cons c1 cr_nil))
theorem ww2n_w0 (c0 : Ok 70 [.c (.s t), .c (.s (ByteArray.mk #[OfNat.ofNat 114]))] (.c (.b false))) (c1 : Ok 71 [.c (.s t)] (.c (.u x))) :
  Ok 59 [.ag i.cs, .c (.i 2), .c (.s t)] (.ag [.i i.op, .i i.d, .i (-1), .u x, .i i.of]) :=
 val_run2 [false, false, true, false, true] ([]) [] Tryz.func59 rfl rfl rfl rfl (by kernel_rfl) rfl (cr_cons c0 (cr_cons c1 cr_nil))
theorem ww3_w0 (c0 : Ok 71 [.c (.s t)] (.c (.u x))) :
  Ok 59 [.ag i.cs, .c (.i 3), .c (.s t)] (.ag [.i i.op, .i i.d, .i i.s, .u x, .i i.of]) :=
 val_run2 [false, false, false, false, false, true] ([]) [] Tryz.func59 rfl rfl rfl rfl (by kernel_rfl) rfl (cr_cons c0 cr_nil)
theorem ww4_w0 (c0 : Ok 72 [.c (.s t)] (.c (.i n1))) :
  Ok 59 [.ag i.cs, .c (.i 4), .c (.s t)] (.ag [.i i.op, .i i.d, .i i.s, .u i.im, .i n1]) :=
 val_run2 [false, false, false, false, false, false, true] ([]) [] Tryz.func59 rfl rfl rfl rfl (by kernel_rfl) rfl (cr_cons c0 cr_nil)
theorem wa0_w0 (h : (decide (1 + ByteArray.size t ≤ 9223372036854775807) && true) = true) (c0 : Ok 30 [.c (.i i.d)] (.c (.s t))) :
  Ok 16 [.c (.i 0), .ag i.cs] (.c (.s (ByteArray.mk #[OfNat.ofNat 114] ++ t))) :=
 val_run2 [true] ([]) [] Tryz.func16 rfl rfl rfl rfl (by kernel_rfl) h (cr_cons c0 cr_nil)
theorem wa1_w0 (h : (decide (1 + ByteArray.size t ≤ 9223372036854775807) && true) = true) (c0 : Ok 30 [.c (.i i.s)] (.c (.s t))) :
  Ok 16 [.c (.i 1), .ag i.cs] (.c (.s (ByteArray.mk #[OfNat.ofNat 114] ++ t))) :=
 val_run2 [false, true, true] ([]) [] Tryz.func16 rfl rfl rfl rfl (by kernel_rfl) h (cr_cons c0 cr_nil)
theorem wa2r_w0 (h : (i.s != -1 && (decide (1 + ByteArray.size t ≤ 9223372036854775807) && true)) = true) (c0 : Ok 30 [.c (.i i.s)] (.c (.s t))) :
  Ok 16 [.c (.i 2), .ag i.cs] (.c (.s (ByteArray.mk #[OfNat.ofNat 114] ++ t))) :=
 val_run2 [false, false, true, true] ([]) [] Tryz.func16 rfl rfl rfl rfl (by kernel_rfl) h (cr_cons c0 cr_nil)
theorem wa2n_w0 (h : (!i.s != -1 && true) = true) (c0 : Ok 31 [.c (.u i.im), .c (.i 10)] (.c (.s t))) :
  Ok 16 [.c (.i 2), .ag i.cs] (.c (.s t)) :=
 val_run2 [false, false, true, false, false] ([]) [] Tryz.func16 rfl rfl rfl rfl (by kernel_rfl) h (cr_cons c0 cr_nil)
theorem wa3_w0 (c0 : Ok 31 [.c (.u i.im), .c (.i 10)] (.c (.s t))) :
  Ok 16 [.c (.i 3), .ag i.cs] (.c (.s t)) :=
 val_run2 [false, false, false, false, false] ([]) [] Tryz.func16 rfl rfl rfl rfl (by kernel_rfl) rfl (cr_cons c0 cr_nil)
theorem wa4_w0 (c0 : Ok 30 [.c (.i i.of)] (.c (.s t))) :
  Ok 16 [.c (.i 4), .ag i.cs] (.c (.s t)) :=
 val_run2 [false, false, false, false, true] ([]) [] Tryz.func16 rfl rfl rfl rfl (by kernel_rfl) rfl (cr_cons c0 cr_nil)
end
end Go.Proofs.YtkigmocchaikgaaGreatDoor
/- What a word tells of a step (withWord), the word at a place (wordAt). -/
namespace Go.Proofs.YtkigmocchaikgaaGreatDoor
open Go.Shelf Go.RowKit Go.Sort Go.Lib
theorem below_alloc (w : World) (o : Obj) : Below w.heap.size w (w.alloc o) := by
 rw [alloc_eq_grow]
 exact below_grow _ w (Nat.le_refl _) 0 #[o]
theorem below_alloc1 {w w' : World} {o : Obj} (h : Below (w.alloc o).heap.size (w.alloc o) w') : Below w.heap.size w w' := (below_alloc w o).trans (h.mono (below_alloc w o).size)
theorem gw_alloc {w : World} (h : Gw w) (o : Obj) : Gw (w.alloc o) := h.below (below_alloc w o) h.size'
def wordW (i : Ins) (p : Int) : List UInt8 :=
 if p = 0 then 114 :: Lib.itoa i.d
 else if p = 1 ∨ p = 2 ∧ i.s ≠ -1 then 114 :: Lib.itoa i.s
 else if p = 4 then Lib.itoa i.of
 else Lib.decDigits i.im.toNat
def plc (p : Int) : Prop := p = 0 ∨ p = 1 ∨ p = 2 ∨ p = 3 ∨ p = 4
theorem withWord_yes {i i' : Ins} {p : Int} {s : ByteArray} (hp : plc p) (hs : s.size ≤ 4096) (h : setW i p s = some i') : Ok 59 [.ag i.cs, .c (.i p), .c (.s s)] (.ag i'.cs) := by
 rcases hp with rfl | rfl | rfl | rfl | rfl
 ·simp only [setW, if_pos, Option.map_eq_some_iff] at h
  obtain ⟨n, hn, rfl⟩ := h
  exact ww0_w0 (readReg_yes hs hn)
 ·simp only [setW, true_or, if_pos, Option.map_eq_some_iff, if_neg (show ¬ (1 : Int) = 0 by decide)] at h
  obtain ⟨n, hn, rfl⟩ := h
  exact ww1_w0 (readReg_yes hs hn)
 ·have hP := hasPrefix_ok s ⟨#[114]⟩
  cases hc : Lib.hasPrefix s.data.toList [114] with
  | true =>
   simp [setW, hc] at h
   obtain ⟨n, hn, rfl⟩ := h
   exact ww2r_w0 (by rw [← hc]; exact hP) (readReg_yes hs hn)
  | false =>
   simp [setW, hc] at h
   obtain ⟨n, hn, rfl⟩ := h
   exact ww2n_w0 (by rw [← hc]; exact hP) (readNumber_yes hs hn)
 ·simp [setW] at h
  obtain ⟨n, hn, rfl⟩ := h
  exact ww3_w0 (readNumber_yes hs hn)
 ·simp [setW] at h
  obtain ⟨n, hn, rfl⟩ := h
  exact ww4_w0 (readSigned_yes hs hn)
theorem wordAt_ok {i : Ins} {p : Int} (hp : plc p) (hd : -9223372036854775808 ≤ i.d ∧ i.d ≤ 9223372036854775807) (hs : -9223372036854775808 ≤ i.s ∧ i.s ≤ 9223372036854775807) (ho : -9223372036854775808 ≤ i.of ∧ i.of ≤ 9223372036854775807) : Ok 16 [.c (.i p), .ag i.cs] (.c (.s ⟨(wordW i p).toArray⟩)) := by
 have len : ∀ n : Int, -9223372036854775808 ≤ n ∧ n ≤ 9223372036854775807 → (decide (1 + ByteArray.size ⟨(Lib.itoa n).toArray⟩ ≤ 9223372036854775807) && true) = true := fun n h => by
  have := Lib.itoa_length_le n h.1 h.2
  have e : ByteArray.size ⟨(Lib.itoa n).toArray⟩ = (Lib.itoa n).length := by simp [ByteArray.size]
  rw [e, Bool.and_true]
  exact decide_eq_true (by omega)
 have cat : ∀ l : List UInt8, ByteArray.mk #[114] ++ ByteArray.mk l.toArray = ⟨(114 :: l).toArray⟩ := fun l => by
  apply ByteArray.ext
  simp
 rcases hp with rfl | rfl | rfl | rfl | rfl
 ·have := wa0_w0 (i := i) (len i.d hd) (itoa_ok i.d hd.1 hd.2)
  rw [cat] at this
  exact this
 ·have := wa1_w0 (i := i) (len i.s hs) (itoa_ok i.s hs.1 hs.2)
  rw [cat] at this
  exact this
 ·by_cases h : i.s = -1
  ·have := wa2n_w0 (i := i) (by simp [h]) (fmtU_ok i.im)
   simpa [wordW, h] using this
  ·have := wa2r_w0 (i := i) (by rw [len _ hs]; simp [h]) (itoa_ok i.s hs.1 hs.2)
   rw [cat] at this
   simpa [wordW, h] using this
 ·exact wa3_w0 (fmtU_ok i.im)
 ·exact wa4_w0 (itoa_ok i.of ho.1 ho.2)
set_option maxHeartbeats 1600000 in
theorem withWord_no {i : Ins} {p : Int} {s : ByteArray} (hp : plc p) (hs : s.size ≤ 4096) (h : setW i p s = none) {w : World} (hg : Gw w) : Calls Tryz.prog 59 #[i.v, .int .i64 p, .string s] w (Done w none) := by
 rcases hp with rfl | rfl | rfl | rfl | rfl
 ·simp only [setW, if_pos, Option.map_eq_none_iff] at h
  go_enter Tryz.func59, Tryz.ntmps59
  go_wp2_with (go_at_call 69; refine (readReg_ok hs (by exact gw_alloc (gw_alloc hg _) _)).mono ?_; rw [h]; rintro e w1 ⟨rfl, hb⟩)
  exact ⟨rfl, rfl, below_alloc1 (below_alloc1 hb)⟩
 ·simp only [setW, true_or, if_pos, Option.map_eq_none_iff, if_neg (show ¬ (1 : Int) = 0 by decide)] at h
  go_enter Tryz.func59, Tryz.ntmps59
  go_wp2_with (go_at_call 69; refine (readReg_ok hs (by exact gw_alloc (gw_alloc hg _) _)).mono ?_; rw [h]; rintro e w1 ⟨rfl, hb⟩)
  exact ⟨rfl, rfl, below_alloc1 (below_alloc1 hb)⟩
 ·cases hc : Lib.hasPrefix s.data.toList [114] with
  | true =>
   simp [setW, hc] at h
   go_enter Tryz.func59, Tryz.ntmps59
   go_wp2_with (first
    | (go_at_call 70; refine (Tryz.strings_HasPrefix _ _ _).mono ?_; rintro e w' ⟨rfl, rfl⟩; rw [hc])
    | (go_at_call 69; refine (readReg_ok hs (by exact gw_alloc (gw_alloc hg _) _)).mono ?_; rw [h]; rintro e w1 ⟨rfl, hb⟩))
   exact ⟨rfl, rfl, below_alloc1 (below_alloc1 hb)⟩
  | false =>
   simp [setW, hc] at h
   go_enter Tryz.func59, Tryz.ntmps59
   go_wp2_with (first
    | (go_at_call 70; refine (Tryz.strings_HasPrefix _ _ _).mono ?_; rintro e w' ⟨rfl, rfl⟩; rw [hc])
    | (go_at_call 71; refine (readNumber_ok hs (by exact gw_alloc (gw_alloc hg _) _)).mono ?_; rw [numW_v, h]; rintro e w1 ⟨rfl, hb⟩))
   exact ⟨rfl, rfl, below_alloc1 (below_alloc1 hb)⟩
 ·simp [setW] at h
  go_enter Tryz.func59, Tryz.ntmps59
  go_wp2_with (go_at_call 71; refine (readNumber_ok hs (by exact gw_alloc (gw_alloc hg _) _)).mono ?_; rw [numW_v, h]; rintro e w1 ⟨rfl, hb⟩)
  exact ⟨rfl, rfl, below_alloc1 (below_alloc1 hb)⟩
 ·simp [setW] at h
  go_enter Tryz.func59, Tryz.ntmps59
  go_wp2_with (go_at_call 72; refine (readSigned_ok hs (by exact gw_alloc (gw_alloc hg _) _)).mono ?_; rw [h]; rintro e w1 ⟨rfl, hb⟩)
  exact ⟨rfl, rfl, below_alloc1 (below_alloc1 hb)⟩
theorem withWord_ok {i : Ins} {p : Int} {s : ByteArray} (hp : plc p) (hs : s.size ≤ 4096) {w : World} (hg : Gw w) : Calls Tryz.prog 59 #[i.v, .int .i64 p, .string s] w (Done w ((setW i p s).map Ins.v)) := by
 cases h : setW i p s with
 | none => exact withWord_no hp hs h hg
 | some i' => exact calls_of_ok (fun _ => (0, 0, 0)) rfl (fun _ => rfl) (withWord_yes hp hs h) w hg
end Go.Proofs.YtkigmocchaikgaaGreatDoor
/- The operations' names: opsByName. -/
namespace Go.Proofs.YtkigmocchaikgaaGreatDoor
open Go.Shelf Go.RowKit Go.Sort Go.Lib Go.Maps
def oNames : List (List UInt8) := [[109, 111, 118], [97, 100, 100], [115, 117, 98], [109, 117, 108], [97, 110, 100], [111, 114], [120, 111, 114], [115, 104, 108], [115, 104, 114], [108, 111, 97, 100], [115, 116, 111, 114, 101], [106, 117, 109, 112], [105, 102, 101, 113], [105, 102, 108, 116], [101, 120, 105, 116]]
abbrev MapIs (w : World) (b : Nat) (D : DataW Unit) : Prop := w.ownsMap Tryz.prog 9 (plainElem Tryz.prog 3) b 15 D
theorem law : Keyed Tryz.prog 9 := string_keyed Tryz.underlying9
theorem zeroE (w : World) : (zeroValue 3).run Tryz.prog w = .ok (.int .i64 0) w := by kernel_rfl
def fillD : Nat → List (List UInt8) → DataW Unit → DataW Unit
 | _, [], D => D
 | n, k :: ks, D => fillD (n + 1) ks (D.put (.string k) (.lit (.int .i64 n)))
def opsD : DataW Unit := fillD 1 oNames (.map [])
theorem upd {w : World} {b n : Nat} {D : DataW Unit} (h : w.ownsMap Tryz.prog 9 (plainElem Tryz.prog 3) b n D) (hn : n ≤ 15) (k : Array UInt8) (hk : k.size ≤ 100) (v : Int) (hv : (Lit.int .i64 v).wf = true) :
  ∃ w', (Instr.mapUpdate 62 (.map (some b)) (.string ⟨k⟩) (.int .i64 v)).run Tryz.prog w = .ok () w' ∧ w'.ownsMap Tryz.prog 9 (plainElem Tryz.prog 3) b (n + 1) (D.put (.string k.toList) (.lit (.int .i64 v))) ∧ w.grownBy w' (some b) := by
 have := h.update law Tryz.underlying62 (by unfold maxLen; omega) (key := .string ⟨k⟩) (val := .int .i64 v) (Go.WideMaps.keyOf_string_mk Tryz.underlying9 (by unfold maxLen; show k.size ≤ _; omega)) (plainElem_int Tryz.underlying3 hv)
 exact this
set_option maxHeartbeats 1600000 in
theorem opsByName_ok (w : World) : Calls Tryz.prog 28 #[] w fun e w' => e = .returned (.map (some w.heap.size)) ∧ MapIs w' w.heap.size opsD ∧ Below w.heap.size w w' := by
 have m0 := World.ownsMap_made (H := Unit) w Tryz.prog 9 (plainElem Tryz.prog 3)
 have hmm := @run_makeMap Tryz.prog
 obtain ⟨w1, r1, m1, g1⟩ := upd m0 (by decide) #[109, 111, 118] (by decide) 1 (by decide)
 obtain ⟨w2, r2, m2, g2⟩ := upd m1 (by decide) #[97, 100, 100] (by decide) 2 (by decide)
 obtain ⟨w3, r3, m3, g3⟩ := upd m2 (by decide) #[115, 117, 98] (by decide) 3 (by decide)
 obtain ⟨w4, r4, m4, g4⟩ := upd m3 (by decide) #[109, 117, 108] (by decide) 4 (by decide)
 obtain ⟨w5, r5, m5, g5⟩ := upd m4 (by decide) #[97, 110, 100] (by decide) 5 (by decide)
 obtain ⟨w6, r6, m6, g6⟩ := upd m5 (by decide) #[111, 114] (by decide) 6 (by decide)
 obtain ⟨w7, r7, m7, g7⟩ := upd m6 (by decide) #[120, 111, 114] (by decide) 7 (by decide)
 obtain ⟨w8, r8, m8, g8⟩ := upd m7 (by decide) #[115, 104, 108] (by decide) 8 (by decide)
 obtain ⟨w9, r9, m9, g9⟩ := upd m8 (by decide) #[115, 104, 114] (by decide) 9 (by decide)
 obtain ⟨w10, r10, m10, g10⟩ := upd m9 (by decide) #[108, 111, 97, 100] (by decide) 10 (by decide)
 obtain ⟨w11, r11, m11, g11⟩ := upd m10 (by decide) #[115, 116, 111, 114, 101] (by decide) 11 (by decide)
 obtain ⟨w12, r12, m12, g12⟩ := upd m11 (by decide) #[106, 117, 109, 112] (by decide) 12 (by decide)
 obtain ⟨w13, r13, m13, g13⟩ := upd m12 (by decide) #[105, 102, 101, 113] (by decide) 13 (by decide)
 obtain ⟨w14, r14, m14, g14⟩ := upd m13 (by decide) #[105, 102, 108, 116] (by decide) 14 (by decide)
 obtain ⟨w15, r15, m15, g15⟩ := upd m14 (by decide) #[101, 120, 105, 116] (by decide) 15 (by decide)
 go_enter Tryz.func28, Tryz.ntmps28
 go_wp2
 go_ret
 have g : (w.alloc (.map #[] 0)).grownBy w15 (some w.heap.size) := g1.trans (g2.trans (g3.trans (g4.trans (g5.trans (g6.trans (g7.trans (g8.trans (g9.trans (g10.trans (g11.trans (g12.trans (g13.trans (g14.trans (g15))))))))))))))
 exact ⟨rfl, m15, ((Below.refl _ _).alloc (Nat.le_refl _) _).grown g (by simp) (fun j hj => by cases hj; exact Nat.le_refl _)⟩
def nmL (j : Nat) : List UInt8 := oNames.getD j []
def nmV (left : Lit → Bool) : Nat → Value
 | 0 => .string ⟨#[]⟩
 | j + 1 => .string (if left (.string (nmL j)) then ⟨#[]⟩ else ⟨(nmL j).toArray⟩)
def nmArr (left : Lit → Bool) : Array Value := Array.ofFn (n := 16) fun j => nmV left j.val
def oOrd : List Nat := [1, 4, 14, 12, 13, 11, 9, 0, 3, 5, 7, 8, 10, 2, 6]
def oEnt (k : Nat) : Lit × DataW Unit := (.string (nmL k), .lit (.int .i64 ((k : Int) + 1)))
theorem opsD_eq : opsD = .map (oOrd.map oEnt) := by kernel_rfl
def oFind (s : List UInt8) : Option Nat := oOrd.find? fun k => nmL k == s
theorem find_ent (s : List UInt8) : (oOrd.map oEnt).find? (fun p => p.1.sameKey (.string s)) = (oFind s).map oEnt := by
 rw [List.find?_map]; rfl
theorem at_ops (s : List UInt8) (zd : DataW Unit) : opsD.atKey (.string s) zd = match oFind s with | some k => .lit (.int .i64 ((k : Int) + 1)) | none => zd := by
 rw [opsD_eq]
 unfold DataW.atKey
 simp only
 rw [find_ent]
 cases oFind s <;> rfl
theorem has_ops (s : List UInt8) : Maps.has opsD (.string s) = (oFind s).isSome := by
 rw [opsD_eq]
 show (oOrd.map oEnt).any (fun p => p.1.sameKey (.string s)) = _
 have : (oOrd.map oEnt).any (fun p => p.1.sameKey (.string s)) = ((oOrd.map oEnt).find? (fun p => p.1.sameKey (.string s))).isSome := by
  rw [Bool.eq_iff_iff, List.find?_isSome, List.any_eq_true]
 rw [this, find_ent]
 cases oFind s <;> rfl
theorem oFind_some {s : List UInt8} {k : Nat} (h : oFind s = some k) : k < 15 ∧ s = nmL k := by
 have h1 := List.mem_of_find?_eq_some h
 have h2 := List.find?_some h
 refine ⟨?_, (eq_of_beq h2).symm⟩
 have : ∀ k ∈ oOrd, k < 15 := by decide
 exact this k h1
theorem oFind_nm : ∀ k, k < 15 → oFind (nmL k) = some k := by decide
theorem nm_find (s : List UInt8) (c : Int) (h : ∀ zd : DataW Unit, opsD.atKey (.string s) zd = .lit (.int .i64 c)) : ∃ k, k < 15 ∧ s = nmL k ∧ c = (k : Int) + 1 := by
 have h0 := h (.lit (.int .i64 (c + 1)))
 rw [at_ops] at h0
 cases hf : oFind s with
 | none => rw [hf] at h0; simp at h0; omega
 | some k =>
  rw [hf] at h0
  obtain ⟨a, b⟩ := oFind_some hf
  exact ⟨k, a, b, by simp at h0; exact h0.symm⟩
theorem nm_size (left : Lit → Bool) : (nmArr left).size = 16 := by simp [nmArr]
theorem nm_start : nmArr (Maps.has opsD) = Array.replicate 16 (.string ⟨#[]⟩) := by
 have : ∀ j, j < 15 → Maps.has opsD (.string (nmL j)) = true := fun j hj => by rw [has_ops, oFind_nm j hj]; rfl
 apply Array.ext
 ·simp [nmArr]
 ·intro j h1 h2
  have hj : j < 16 := by simpa [nmArr] using h1
  simp only [nmArr, Array.getElem_ofFn, Array.getElem_replicate]
  cases j with
  | zero => rfl
  | succ j => simp [nmV, this j (by omega)]
theorem nm_step (left : Lit → Bool) (k : Nat) (hk : k < 15) : (nmArr left).setIfInBounds (k + 1) (.string ⟨(nmL k).toArray⟩) = nmArr (fun z => left z && !z.sameKey (.string (nmL k))) := by
 apply Array.ext
 ·simp [nmArr]
 ·intro j h1 h2
  have hj : j < 16 := by simpa [nmArr] using h2
  rw [Array.getElem_setIfInBounds (by rw [nm_size]; exact hj)]
  simp only [nmArr, Array.getElem_ofFn]
  cases j with
  | zero => simp [nmV]
  | succ j =>
   by_cases e : j = k
   ·subst e
    simp [nmV, Lit.sameKey]
   ·have hne : (nmL j == nmL k) = false := by
     have : ∀ j, j < 15 → ∀ k, k < 15 → j ≠ k → (nmL j == nmL k) = false := by decide
     exact this j (by omega) k hk e
    rw [if_neg (by omega)]
    simp only [nmV, Lit.sameKey, hne, Bool.not_false, Bool.and_true]
theorem nm_at (left : Lit → Bool) (j : Nat) (h : j < 16) : (nmArr left)[j]? = some (nmV left j) := by
 rw [Array.getElem?_eq_getElem (by rw [nm_size]; exact h)]
 simp [nmArr]
theorem grown_setCell (w : World) (a : Addr) (u : Value) : w.grownBy (w.setCell a u) (some a.block) :=
 ⟨rfl, rfl, rfl, by simp [World.setCell], fun k _ hk => Below.heap_setCell _ _ _ _ (fun e => hk (by rw [e]))⟩
theorem info16 : (Tryz.prog.info? 39).map (·.size) = some 16 := by kernel_rfl
theorem below_setRow {B g : Nat} {w w' : World} (h : Below B w w') (hg : B ≤ g) (A : Array Value) : Below B w (w'.setRow g A) :=
 h.trans ⟨rfl, rfl, rfl, by simp [World.setRow], fun k hk => setRow_other _ _ _ _ (by omega)⟩
theorem heap_new (w : World) (o : Obj) : (w.alloc o).heap[w.heap.size]? = some o := by
 show (w.heap.push o)[w.heap.size]? = _
 simp
theorem size2 (w : World) (a b : Obj) : ((w.alloc a).alloc b).heap.size = w.heap.size + 1 + 1 := by simp
theorem keyInv : ∀ key kl, keyOf Tryz.prog 9 key = some kl → ∃ x, key = Value.string x := fun key kl h => by
 obtain ⟨s, rfl, _⟩ := Go.WideMaps.string_of_keyOf Tryz.underlying9 h
 exact ⟨s, rfl⟩
theorem elInv : ∀ v (y : DataW Unit × List MemPlace), plainElem Tryz.prog 3 v = some y → ∃ c, v = Value.int .i64 c := fun v y h => by
 obtain ⟨c, rfl, _⟩ := plainElem_int_inv Tryz.underlying3 h
 exact ⟨c, rfl⟩
set_option maxHeartbeats 400000 in
set_option maxRecDepth 100000 in
theorem namesByOp_ok (w : World) : Calls Tryz.prog 12 #[] w fun e w' => e = .returned (.agg (nmArr fun _ => false)) ∧ Below w.heap.size w w' := by
 go_enter Tryz.func12, Tryz.ntmps12
 go_wp2_with (first
  | (go_at_call 28; refine (opsByName_ok _).mono ?_; rintro e w1 ⟨rfl, hm, hb⟩; rw [size2] at hm)
  | (at_range; refine wpList_range_own _ rfl _ 62 rfl 9 3 law Tryz.underlying62 _ (w.heap.size + 1 + 1) 15 opsD rfl hm ?_; intro w0 hrg0 hg0 hs0)
  | go_in)
 go_frame
 have hr : w.heap.size + 1 + 1 < w1.heap.size := hm.lt
 generalize hrr : w1.heap.size = r at *
 go_loopw [2] (fun _ wr => ∃ (left : Lit → Bool) (cnt : Nat), wr.ranges Tryz.prog 9 (plainElem Tryz.prog 3) (w.heap.size + 1 + 1) r 15 opsD left cnt ∧ wr.heap[w.heap.size]? = some (.cells (Array.replicate 16 (.string ⟨#[]⟩)) 39 (0, 0)) ∧ wr.heap[w.heap.size + 1]? = some (.cells (nmArr left) 39 (0, 0)) ∧ Below w.heap.size w wr)
  (fun _ wr => wr.rangeLeft (w.heap.size + 1 + 1) r)
 case atStart =>
  refine ⟨_, _, hrg0, ?_, ?_, ?_⟩
  ·rw [hg0.block _ (by omega) (by simp), hb.block _ (by simp; omega), Below.heap_alloc _ _ _ (by simp), heap_new]
   rfl
  ·rw [hg0.block _ (by omega) (by simp), hb.block _ (by simp), nm_start]
   have e : ∀ o o' : Obj, ((w.alloc o).alloc o').heap[w.heap.size + 1]? = some o' := fun o o' => by have := heap_new (w.alloc o) o'; simpa using this
   rw [e]
   rfl
  ·exact (below_alloc1 (below_alloc1 hb)).trans ⟨hg0.os, hg0.tape, hg0.output, hg0.size, fun k hk => hg0.block k (by omega) (by simp)⟩
 case round =>
  obtain ⟨left, cnt, hrg, hB, hN, hbel⟩ := hrel
  go_wp2_with (first
   | (at_next; refine wpList_next_ranges _ rfl _ rfl 9 law (plainElem Tryz.prog 3) Value.string (Value.int .i64) keyInv elInv (w.heap.size + 1 + 1) r 15 _ _ _ rfl hrg ?_ ?_)
   | go_in)
  ·intro _ hl0
   obtain ⟨A, hA, hA1, hA2⟩ : ∃ A, A = nmArr (fun _ => false) ∧ A.size = 16 ∧ A.all (·.oneCell') = true := ⟨_, rfl, nm_size _, by kernel_rfl⟩
   have hN' : wr.heap[w.heap.size + 1]? = some (.cells A 39 (0, 0)) := by rw [hA, hN, show left = fun _ => false from funext hl0]
   have hB2 := setRow_heap wr w.heap.size _ A _ _ hB
   go_wp2_with (first
    | (refine wpList_load_row rfl 39 _ rfl (w.heap.size + 1) rfl _ A _ _ hN' Tryz.underlying39 rfl (by rw [hA1]; exact info16) ?_)
    | (refine wpList_store_row rfl 39 _ _ rfl w.heap.size A rfl rfl _ _ hB (by rw [hA1]; exact info16) (by simp [hA1]) hA2 ?_)
    | go_in)
   refine bodyPost_ret (results_cell_row (d := .array 16 9) rfl _ _ w.heap.size _ A _ rfl hB2 Tryz.underlying39 rfl (by rw [hA1]; exact info16)) rfl ?_
   exact ⟨by rw [hA], below_setRow hbel (Nat.le_refl _) A⟩
  ·intro x c kl y yp w2 cnt2 hkx hlx hvx hat hrg2 hlt hg2 hs2 hen
   obtain ⟨x', ex, rfl, -⟩ := Go.WideMaps.string_of_keyOf Tryz.underlying9 hkx
   cases ex
   obtain ⟨c', ec, hy, -⟩ := plainElem_int_inv Tryz.underlying3 hvx
   cases ec
   cases hy
   obtain ⟨k, hk, hx, rfl⟩ := nm_find _ _ hat
   obtain ⟨x⟩ := x
   obtain rfl : x = (nmL k).toArray := by rw [← hx]
   have hlt2 : w.heap.size + 1 + 1 < wr.heap.size := hrg.owns.lt
   have hN2 : w2.heap[w.heap.size + 1]? = some (.cells (nmArr left) 39 (0, 0)) := by rw [← hN]; exact hg2.block _ (by omega) (fun e => by cases e; omega)
   have hB2 : w2.heap[w.heap.size]? = some (.cells (Array.replicate 16 (.string ⟨#[]⟩)) 39 (0, 0)) := by rw [← hB]; exact hg2.block _ (by omega) (fun e => by cases e; omega)
   have hc2 : w2.cell? ⟨w.heap.size + 1, k + 1, none⟩ = some (nmV left (k + 1)) := by rw [cell_of_row _ _ _ _ _ _ hN2]; exact nm_at left (k + 1) (by omega)
   have hf2 : w2.frozen? ⟨w.heap.size + 1, k + 1, none⟩ = false := frozen_of_row _ _ _ _ _ hN2
   have hN3 := heap_setCell_same w2 _ (k + 1) _ _ (.string ⟨(nmL k).toArray⟩) hN2
   rw [nm_step left k hk] at hN3
   have hbel2 : Below w.heap.size w w2 := hbel.grown hg2 hbel.size (fun j hj => by cases hj; omega)
   have HN := Lib.hid hN3
   have HB := Lib.hid hB2
   have HR := Lib.hid hbel2
   clear hN hB hN2 hB2 hN3 hbel2
   go_wp2
   go_roundw
   case rel => exact ⟨_, cnt2, hrg2.kept (grown_setCell _ _ _) (by simp) (by simp; omega), by rw [heap_setCell_other _ _ _ _ (by simp)]; exact HB.out, HN.out, HR.out.setCell (by simp) _⟩
   case measure =>
    rw [(hrg2.kept (grown_setCell _ _ _) (by simp) (by simp; omega)).left_eq, hrg.left_eq]; exact hlt
end Go.Proofs.YtkigmocchaikgaaGreatDoor
/- A strings.Builder written to: copyCheck, WriteString, WriteByte. -/
namespace Go.Proofs.YtkigmocchaikgaaGreatDoor
open Go.Shelf Go.RowKit Go.Sort Go.Lib
abbrev TB : TypeId := 38
abbrev T8 : TypeId := 5
/- the builder in block b holds the bytes l -/
abbrev Bld (B b : Nat) (l : List UInt8) (w : World) : Prop := IsBuilderF TB T8 B b (byteCells l) w
abbrev Aside (b : Nat) (w w' : World) : Prop := OthersKept T8 (some b) w w'
theorem bSize : (Tryz.prog.info? TB).map (·.size) = some 2 := by kernel_rfl
theorem bLies : liesAt Tryz.prog Tryz.prog.depth TB (2 / Tryz.prog.cellsOf TB) 0 TB 1 = true := by kernel_rfl
theorem bByte : (Tryz.prog.info? T8).map (fun i => (i.zero, i.size, i.bytes)) = some (some (.int .u8 0), 1, 1) := by kernel_rfl
set_option maxHeartbeats 1000000 in
set_option maxRecDepth 100000 in
theorem bCheck_used (b : Nat) (w : World) (h0 : w.cell? ⟨b, 0, none⟩ = some (.pointer (some ⟨b, 0, none⟩))) :
  Calls Tryz.prog 29 #[.pointer (some ⟨b, 0, none⟩)] w fun e w' => e = .returned (.tuple #[]) ∧ w' = w := by
 obtain ⟨j, hj, _⟩ := Option.map_eq_some_iff.1 bSize
 go_enter Tryz.func29, Tryz.ntmps29
 go_wp2
 rw [run_neq_ptr_same w _ Tryz.underlying35 hj]
 go_wp2
 go_end0
 exact ⟨rfl, rfl⟩
set_option maxHeartbeats 1000000 in
set_option maxRecDepth 100000 in
theorem bCheck_fresh (b : Nat) (w : World) (h0 : w.cell? ⟨b, 0, none⟩ = some (.pointer none)) (hsh : w.shape? b = some (TB, 2)) (hfz : w.frozen? ⟨b, 0, none⟩ = false) :
  Calls Tryz.prog 29 #[.pointer (some ⟨b, 0, none⟩)] w fun e w' => e = .returned (.tuple #[]) ∧ w' = w.setCell ⟨b, 0, none⟩ (.pointer (some ⟨b, 0, none⟩)) := by
 obtain ⟨j, hj, hjs⟩ := Option.map_eq_some_iff.1 bSize
 go_enter Tryz.func29, Tryz.ntmps29
 go_wp2
 rw [run_to_unsafe w ⟨b, 0, none⟩ Tryz.underlying35 Tryz.underlying78 hj (by rw [hjs]; decide) hsh (Nat.zero_lt_succ 1)]
 simp only [Result.andThen]
 rw [Oper.upon_value]
 go_wp2
 rw [run_callFunc_extern Tryz.func53 (by kernel_rfl) (by kernel_rfl) (by kernel_rfl) (e := Extern.AbiNoEscape.same) (by kernel_rfl)]
 rw [run_noEscape]
 simp only [Result.andThen]
 rw [Oper.upon_value]
 go_wp2
 rw [run_from_unsafe w ⟨b, 0, none⟩ Tryz.underlying78 Tryz.underlying35 hj hsh bLies]
 simp only [Result.andThen]
 rw [Oper.upon_value]
 go_wp2
 go_end0
 exact ⟨rfl, rfl⟩
theorem bCheck_ok {B b : Nat} {l : List UInt8} {w : World} (h : Bld B b l w) :
  Calls Tryz.prog 29 #[.pointer (some ⟨b, 0, none⟩)] w fun e w' => e = .returned (.tuple #[]) ∧ BuilderAtF TB T8 B b (.pointer (some ⟨b, 0, none⟩)) (byteCells l) w' ∧ Below B w w' ∧ Aside b w w' := by
 rcases h with h | h
 ·refine (bCheck_fresh b w h.cell0 h.shape h.frozen0).mono ?_
  rintro e w' ⟨rfl, rfl⟩
  exact ⟨rfl, h.used _, (Below.refl B w).setCell (p := ⟨b, 0, none⟩) h.1 _, (OthersKept.refl T8 (some b) w).setCell ⟨b, 0, none⟩ rfl _⟩
 ·refine (bCheck_used b w h.cell0).mono ?_
  rintro e w' ⟨rfl, rfl⟩
  exact ⟨rfl, h, Below.refl B _, OthersKept.refl _ _ _⟩
theorem row_kind {w : World} {B n : Nat} {v : Value} {xs : List Value} (h : w.ownsRowF B T8 1 v n xs) : ∃ a n c, v = .slice a n c := by
 rcases h.2 with ⟨hv, _⟩ | ⟨g, cap, cur, fz, hv, _⟩
 ·exact ⟨_, _, _, hv⟩
 ·exact ⟨_, _, _, hv⟩
theorem row_block {w : World} {B n : Nat} {v : Value} {xs : List Value} (h : w.ownsRowF B T8 1 v n xs) : ∀ g, v.ownBlock = some g → ∃ c fz, w.heap[g]? = some (.cells c T8 fz) := by
 intro g hg
 rcases h.2 with ⟨rfl, _⟩ | ⟨g', cap, cur, fz, rfl, _, hh, _⟩
 ·simp [Value.ownBlock] at hg
 ·simp only [Value.ownBlock, Option.some.injEq] at hg
  subst hg
  exact ⟨_, _, hh⟩
set_option maxHeartbeats 2000000 in
set_option maxRecDepth 100000 in
theorem writeString_ok {B b : Nat} {l : List UInt8} {w : World} (h : Bld B b l w) (s : ByteArray) (hlen : l.length + s.size ≤ 140737488355328) (hBw : B ≤ w.heap.size) :
  Calls Tryz.prog 13 #[.pointer (some ⟨b, 0, none⟩), .string s] w fun e w' => e = .returned (.tuple #[.int .i64 s.size, .nilIface]) ∧ Bld B b (l ++ s.data.toList) w' ∧ Below B w w' ∧ Aside b w w' := by
 obtain ⟨i0, hi, hz0, hz1, hz2⟩ := info_parts bByte
 go_enter Tryz.func13, Tryz.ntmps13
 go_wp2_with (go_at_call 29; refine (bCheck_ok h).mono ?_)
 rintro e w1 ⟨rfl, ⟨hB, v, hbk, hown, hne⟩, hb1, ho1⟩
 have c0 : w1.cell? ⟨b, 0, none⟩ = some (.pointer (some ⟨b, 0, none⟩)) := by rw [cell_of_heap hbk]; rfl
 have c1 : w1.cell? ⟨b, 1, none⟩ = some v := by rw [cell_of_heap hbk]; rfl
 have hbl : (byteCells l).length = l.length := by simp [byteCells]
 go_wp2_with (at_builtin; refine wpList_append_own_stringF _ rfl _ _ 36 9 rfl B T8 i0 Tryz.underlying36 Tryz.underlying9 hi hz0 hz1 hz2 _ _ _ rfl hown s rfl ?c3 ?c4 ?c5 ?_)
 case c3 => unfold maxLen; omega
 case c4 => omega
 case c5 => have := hb1.size; omega
 intro v' w2 hown' hgrow _
 have hlt : b < w1.heap.size := (Array.getElem?_eq_some_iff.1 hbk).1
 have hb2 : w2.heap[b]? = some (.cells #[.pointer (some ⟨b, 0, none⟩), v] TB (0, 0)) := by
  rw [hgrow.block b hlt (fun e => hne e.symm)]
  exact hbk
 have d0 : w2.cell? ⟨b, 0, none⟩ = some (.pointer (some ⟨b, 0, none⟩)) := by rw [cell_of_heap hb2]; rfl
 have d1 : w2.cell? ⟨b, 1, none⟩ = some v := by rw [cell_of_heap hb2]; rfl
 have f1 : w2.frozen? ⟨b, 1, none⟩ = false := frozen_of_heap hb2 1
 obtain ⟨ao, n', cap, rfl⟩ := row_kind hown'
 go_wp2
 go_ret2
 refine ⟨rfl, ?_, ?_, ?_⟩
 ·right
  rw [byteCells_append]
  exact BuilderAtF.put hB hb2 (bs' := byteCells l ++ strCells s) (by rw [List.length_append, strCells_length, hbl]; exact hown') (by decide)
 ·exact (hb1.grown hgrow (by have := hb1.size; omega) (fun k hk => (hown.lt k hk).1)).setCell (p := ⟨b, 1, none⟩) hB _
 ·exact (ho1.grown hgrow (row_block hown)).setCell ⟨b, 1, none⟩ rfl _
set_option maxHeartbeats 2000000 in
set_option maxRecDepth 100000 in
theorem writeByte_ok {B b : Nat} {l : List UInt8} {w : World} (h : Bld B b l w) (c : UInt8) (hlen : l.length + 1 ≤ 140737488355328) (hBw : B ≤ w.heap.size) :
  Calls Tryz.prog 15 #[.pointer (some ⟨b, 0, none⟩), .int .u8 c.toNat] w fun e w' => e = .returned .nilIface ∧ Bld B b (l ++ [c]) w' ∧ Below B w w' ∧ Aside b w w' := by
 obtain ⟨i0, hi, hz0, hz1, hz2⟩ := info_parts bByte
 go_enter Tryz.func15, Tryz.ntmps15
 go_wp2_with (go_at_call 29; refine (bCheck_ok h).mono ?_)
 rintro e w1 ⟨rfl, ⟨hB, v, hbk, hown, hne⟩, hb1, ho1⟩
 have c0 : w1.cell? ⟨b, 0, none⟩ = some (.pointer (some ⟨b, 0, none⟩)) := by rw [cell_of_heap hbk]; rfl
 have c1 : w1.cell? ⟨b, 1, none⟩ = some v := by rw [cell_of_heap hbk]; rfl
 have hbl : (byteCells l).length = l.length := by simp [byteCells]
 have hlt : b < w1.heap.size := (Array.getElem?_eq_some_iff.1 hbk).1
 go_wp2_with (at_builtin; refine wpList_append_ownF _ rfl _ _ 36 rfl B T8 i0 (.int .u8 0) 1 1 Tryz.underlying36 hi hz0 hz1 hz2 rfl (by decide) _ _ _ rfl (hown.alloc _) ⟨w1.heap.size, 0, none⟩ 1 1 [.int .u8 c.toNat] rfl rfl ?c1 ?c2 ?c3 ?c4 ?c5 ?_)
 case c1 => exact cell_one_new _ _ _
 case c2 => exact ints_oneCell .u8 [(c.toNat : Int)]
 case c3 => unfold maxLen; omega
 case c4 => omega
 case c5 => have := hb1.size; simp; omega
 intro v' w2 hown' hgrow _
 have hb2 : w2.heap[b]? = some (.cells #[.pointer (some ⟨b, 0, none⟩), v] TB (0, 0)) := by
  rw [hgrow.block b (by simp; omega) (fun e => hne e.symm), Below.heap_alloc _ _ _ hlt]
  exact hbk
 have d0 : w2.cell? ⟨b, 0, none⟩ = some (.pointer (some ⟨b, 0, none⟩)) := by rw [cell_of_heap hb2]; rfl
 have d1 : w2.cell? ⟨b, 1, none⟩ = some v := by rw [cell_of_heap hb2]; rfl
 have f1 : w2.frozen? ⟨b, 1, none⟩ = false := frozen_of_heap hb2 1
 obtain ⟨ao, n', cap, rfl⟩ := row_kind hown'
 go_wp2
 go_ret
 refine ⟨rfl, ?_, ?_, ?_⟩
 ·right
  rw [byteCells_append]
  exact BuilderAtF.put hB hb2 (bs' := byteCells l ++ [.int .u8 c.toNat]) (by rw [List.length_append, hbl]; exact hown') (by decide)
 ·exact ((hb1.alloc (by have := hb1.size; omega) _).grown hgrow (by have := hb1.size; simp; omega) (fun k hk => (hown.lt k hk).1)).setCell (p := ⟨b, 1, none⟩) hB _
 ·exact ((ho1.alloc _).grown hgrow (row_block (hown.alloc _))).setCell ⟨b, 1, none⟩ rfl _
def plcs (op : Int) : List Int := if op = 10 then [3, 0, 1, 4] else if op = 11 then [3, 0, 4, 1] else if op = 12 then [4] else if op = 13 ∨ op = 14 then [0, 2, 4] else if op = 15 then [] else [0, 2]
abbrev T47 : TypeId := 50
/- the places lie in block g -/
def PlAt (op : Int) (a : Option Addr) (g : Nat) (w : World) : Prop := plcs op ≠ [] → a = some ⟨g, 0, none⟩ ∧ w.heap[g]? = some (.cells ((plcs op).map (Value.int .i64)).toArray T47 (0, 0))
theorem placesOf_ok (op : Int) (w : World) : Calls Tryz.prog 14 #[.int .i64 op] w fun e w' => ∃ a, e = .returned (.slice a (plcs op).length (plcs op).length) ∧ PlAt op a w.heap.size w' ∧ Below w.heap.size w w' := by
 by_cases h10 : op = 10
 ·subst h10
  go_enter Tryz.func14, Tryz.ntmps14
  go_wp2
  go_ret
  exact ⟨_, rfl, fun _ => ⟨rfl, heap_new _ _⟩, below_alloc _ _⟩
 by_cases h11 : op = 11
 ·subst h11
  go_enter Tryz.func14, Tryz.ntmps14
  go_wp2
  go_ret
  exact ⟨_, rfl, fun _ => ⟨rfl, heap_new _ _⟩, below_alloc _ _⟩
 by_cases h12 : op = 12
 ·subst h12
  go_enter Tryz.func14, Tryz.ntmps14
  go_wp2
  go_ret
  exact ⟨_, rfl, fun _ => ⟨rfl, heap_new _ _⟩, below_alloc _ _⟩
 by_cases h13 : op = 13
 ·subst h13
  go_enter Tryz.func14, Tryz.ntmps14
  go_wp2
  go_ret
  exact ⟨_, rfl, fun _ => ⟨rfl, heap_new _ _⟩, below_alloc _ _⟩
 by_cases h14 : op = 14
 ·subst h14
  go_enter Tryz.func14, Tryz.ntmps14
  go_wp2
  go_ret
  exact ⟨_, rfl, fun _ => ⟨rfl, heap_new _ _⟩, below_alloc _ _⟩
 by_cases h15 : op = 15
 ·subst h15
  go_enter Tryz.func14, Tryz.ntmps14
  go_wp2
  go_ret
  exact ⟨_, rfl, fun h => absurd rfl h, Below.refl _ _⟩
 have e : plcs op = [0, 2] := by simp [plcs, h10, h11, h12, h13, h14, h15]
 unfold PlAt
 rw [e]
 go_enter Tryz.func14, Tryz.ntmps14
 go_wp2
 go_ret
 exact ⟨_, rfl, fun _ => ⟨rfl, heap_new _ _⟩, below_alloc _ _⟩
end Go.Proofs.YtkigmocchaikgaaGreatDoor
/- Ways of bodies, written by a program (ways.py): what each asks for, and hands back. -/
namespace Go.Proofs.YtkigmocchaikgaaGreatDoor
open Go.RowKit
section
abbrev ckAK (L : List Ins) (c j : Nat) : Kn := ⟨[(0, .c (.sl 0 0 L.length c)), (17, .c (.sl 0 0 L.length c)), (18, .c (.i (L.length : Int))), (19, .c (.i (j : Int)))], [(0, Ent.mk false (pcell L) 0)], 1⟩
abbrev ckBK (L : List Ins) (c j : Nat) : Kn := ⟨[(0, .c (.sl 0 0 L.length c)), (32, .c (.sl 0 0 L.length c)), (33, .c (.i (L.length : Int))), (34, .c (.i (j : Int)))], [(0, Ent.mk false (pcell L) 0)], 1⟩
abbrev ckCK (L : List Ins) (c j : Nat) : Kn := ⟨[(0, .c (.sl 0 0 L.length c)), (48, .c (.sl 0 0 L.length c)), (49, .c (.i (L.length : Int))), (50, .c (.i (j : Int)))], [(0, Ent.mk false (pcell L) 0)], 1⟩
variable {L : List Ins} {c n j : Nat} {w : World} {β : Bs} {C : Cx} {R : Ending → World → Prop} {E : Eff}
theorem ckTop_w0 (h : ((L.length : Int) == 0 && true) = true) :
  BO 10 Tryz.f10 (cx w β n []) [.c (.sl 0 0 L.length c)] [(0, Ent.mk false (pcell L) 0)] 1 (REff w β ⟨.c (.i 2), [], none⟩) :=
 run_eff2 [] none [true, true] [true] [] Tryz.func10 (ekeys0 rfl n) (by kernel_rfl) h cr_nil
theorem ckTop_w1 (h : (!(L.length : Int) == 0 && (decide (64 < (L.length : Int)) && true)) = true) :
  BO 10 Tryz.f10 (cx w β n []) [.c (.sl 0 0 L.length c)] [(0, Ent.mk false (pcell L) 0)] 1 (REff w β ⟨.c (.i 2), [], none⟩) :=
 run_eff2 [] none [false, true] [true] [] Tryz.func10 (ekeys0 rfl n) (by kernel_rfl) h cr_nil
theorem ckTop_w2 (h : (!(L.length : Int) == 0 && (!decide (64 < (L.length : Int)) && true)) = true) (lo : Kn.Low ⟨[(0, .c (.sl 0 0 L.length c)), (17, .c (.sl 0 0 L.length c)), (18, .c (.i (L.length : Int))), (19, .c (.i 0))], [(0, Ent.mk false (pcell L) 0)], 1⟩) (hF : ∀ k, C.F k → k < 1) (z : AR 10 Tryz.f10 C 0 ⟨[(0, .c (.sl 0 0 L.length c)), (17, .c (.sl 0 0 L.length c)), (18, .c (.i (L.length : Int))), (19, .c (.i 0))], [(0, Ent.mk false (pcell L) 0)], 1⟩ R) :
  BO 10 Tryz.f10 C [.c (.sl 0 0 L.length c)] [(0, Ent.mk false (pcell L) 0)] 1 R :=
 run_cut2 [false, false] [true] [] Tryz.func10 (by kernel_rfl) h cr_nil lo hF z
theorem ckTop_all (hn : n ≤ 1)
  (l0 : ((L.length : Int) == 0) = true → ((⟨.c (.i 2), [], none⟩ : Eff) = E))
  (l1 : ((L.length : Int) == 0) = false → (decide (64 < (L.length : Int))) = true → ((⟨.c (.i 2), [], none⟩ : Eff) = E))
  (l2 : ((L.length : Int) == 0) = false → (decide (64 < (L.length : Int))) = false → Kn.Low ⟨[(0, .c (.sl 0 0 L.length c)), (17, .c (.sl 0 0 L.length c)), (18, .c (.i (L.length : Int))), (19, .c (.i 0))], [(0, Ent.mk false (pcell L) 0)], 1⟩ ∧ AR 10 Tryz.f10 (cx w β n []) 0 ⟨[(0, .c (.sl 0 0 L.length c)), (17, .c (.sl 0 0 L.length c)), (18, .c (.i (L.length : Int))), (19, .c (.i 0))], [(0, Ent.mk false (pcell L) 0)], 1⟩ (REff w β E)) :
  BO 10 Tryz.f10 (cx w β n []) [.c (.sl 0 0 L.length c)] [(0, Ent.mk false (pcell L) 0)] 1 (REff w β E) :=
 (tf ((L.length : Int) == 0)).elim (fun h0 => (match l0 h0 with | e => art_eq (ckTop_w0 (and_yes h0 rfl)) e)) (fun h0 => (tf (decide (64 < (L.length : Int)))).elim (fun h1 => (match l1 h0 h1 with | e => art_eq (ckTop_w1 (and_yes (not_yes h0) (and_yes h1 rfl))) e)) (fun h1 => (match l2 h0 h1 with | ⟨lo, z⟩ => ckTop_w2 (and_yes (not_yes h0) (and_yes (not_yes h1) rfl)) lo (fun _ hk => Nat.lt_of_lt_of_le hk hn) z)))
theorem ckA_w0 (h : (decide ((j : Int) < (L.length : Int)) && (decide ((j : Int) < (L.length : Int)) && (Nat.ble (0 + (j : Int).toNat * 5 + 5) (pcell L).length && (decide ((elt L j).op < 1) && true)))) = true) (c0 : pe (.ag (((pcell L).drop (0 + (j : Int).toNat * 5)).take 5)) = pe (.ag (elt L j).cs)) :
  AR 10 Tryz.f10 (cx w β n []) 0 (ckAK L c j) (REff w β ⟨.c (.i 4), [], none⟩) :=
 run_eff2 [] none [true, true, true] [true] [(5, 1)] Tryz.func10 (ekeys0 rfl n) (by kernel_rfl) h (cr_same c0 cr_nil)
theorem ckA_w1 (h : (decide ((j : Int) < (L.length : Int)) && (decide ((j : Int) < (L.length : Int)) && (Nat.ble (0 + (j : Int).toNat * 5 + 5) (pcell L).length && (!decide ((elt L j).op < 1) && (decide (15 < (elt L j).op) && true))))) = true) (c0 : pe (.ag (((pcell L).drop (0 + (j : Int).toNat * 5)).take 5)) = pe (.ag (elt L j).cs)) :
  AR 10 Tryz.f10 (cx w β n []) 0 (ckAK L c j) (REff w β ⟨.c (.i 4), [], none⟩) :=
 run_eff2 [] none [true, false, true] [true] [(5, 1)] Tryz.func10 (ekeys0 rfl n) (by kernel_rfl) h (cr_same c0 cr_nil)
theorem ckA_w2 (h : (decide ((j : Int) < (L.length : Int)) && (decide ((j : Int) < (L.length : Int)) && (Nat.ble (0 + (j : Int).toNat * 5 + 5) (pcell L).length && (!decide ((elt L j).op < 1) && (!decide (15 < (elt L j).op) && true))))) = true) (c0 : pe (.ag (((pcell L).drop (0 + (j : Int).toNat * 5)).take 5)) = pe (.ag (elt L j).cs)) (lo : Kn.Low ⟨[(0, .c (.sl 0 0 L.length c)), (17, .c (.sl 0 0 L.length c)), (18, .c (.i (L.length : Int))), (19, .c (.i (IntKind.i64.wrap ((j : Int) + 1))))], [(0, Ent.mk false (pcell L) 0)], 1⟩) (hF : ∀ k, C.F k → k < 1) (z : AR 10 Tryz.f10 C 0 ⟨[(0, .c (.sl 0 0 L.length c)), (17, .c (.sl 0 0 L.length c)), (18, .c (.i (L.length : Int))), (19, .c (.i (IntKind.i64.wrap ((j : Int) + 1))))], [(0, Ent.mk false (pcell L) 0)], 1⟩ R) :
  AR 10 Tryz.f10 C 0 (ckAK L c j) R :=
 run_cut2 [true, false, false] [true] [(5, 1)] Tryz.func10 (by kernel_rfl) h (cr_same c0 cr_nil) lo hF z
theorem ckA_all (hn : n ≤ 1)
  (l0 : (decide ((elt L j).op < 1)) = true → (decide ((j : Int) < (L.length : Int))) = true ∧ (decide ((j : Int) < (L.length : Int))) = true ∧ (Nat.ble (0 + (j : Int).toNat * 5 + 5) (pcell L).length) = true ∧ (pe (.ag (((pcell L).drop (0 + (j : Int).toNat * 5)).take 5)) = pe (.ag (elt L j).cs)) ∧ ((⟨.c (.i 4), [], none⟩ : Eff) = E))
  (l1 : (decide ((elt L j).op < 1)) = false → (decide (15 < (elt L j).op)) = true → (decide ((j : Int) < (L.length : Int))) = true ∧ (decide ((j : Int) < (L.length : Int))) = true ∧ (Nat.ble (0 + (j : Int).toNat * 5 + 5) (pcell L).length) = true ∧ (pe (.ag (((pcell L).drop (0 + (j : Int).toNat * 5)).take 5)) = pe (.ag (elt L j).cs)) ∧ ((⟨.c (.i 4), [], none⟩ : Eff) = E))
  (l2 : (decide ((elt L j).op < 1)) = false → (decide (15 < (elt L j).op)) = false → (decide ((j : Int) < (L.length : Int))) = true ∧ (decide ((j : Int) < (L.length : Int))) = true ∧ (Nat.ble (0 + (j : Int).toNat * 5 + 5) (pcell L).length) = true ∧ (pe (.ag (((pcell L).drop (0 + (j : Int).toNat * 5)).take 5)) = pe (.ag (elt L j).cs)) ∧ Kn.Low ⟨[(0, .c (.sl 0 0 L.length c)), (17, .c (.sl 0 0 L.length c)), (18, .c (.i (L.length : Int))), (19, .c (.i (IntKind.i64.wrap ((j : Int) + 1))))], [(0, Ent.mk false (pcell L) 0)], 1⟩ ∧ AR 10 Tryz.f10 (cx w β n []) 0 ⟨[(0, .c (.sl 0 0 L.length c)), (17, .c (.sl 0 0 L.length c)), (18, .c (.i (L.length : Int))), (19, .c (.i (IntKind.i64.wrap ((j : Int) + 1))))], [(0, Ent.mk false (pcell L) 0)], 1⟩ (REff w β E)) :
  AR 10 Tryz.f10 (cx w β n []) 0 (ckAK L c j) (REff w β E) :=
 (tf (decide ((elt L j).op < 1))).elim (fun h0 => (match l0 h0 with | ⟨o0, o1, o2, c0, e⟩ => art_eq (ckA_w0 (and_yes o0 (and_yes o1 (and_yes o2 (and_yes h0 rfl)))) c0) e)) (fun h0 => (tf (decide (15 < (elt L j).op))).elim (fun h1 => (match l1 h0 h1 with | ⟨o0, o1, o2, c0, e⟩ => art_eq (ckA_w1 (and_yes o0 (and_yes o1 (and_yes o2 (and_yes (not_yes h0) (and_yes h1 rfl))))) c0) e)) (fun h1 => (match l2 h0 h1 with | ⟨o0, o1, o2, c0, lo, z⟩ => ckA_w2 (and_yes o0 (and_yes o1 (and_yes o2 (and_yes (not_yes h0) (and_yes (not_yes h1) rfl))))) c0 lo (fun _ hk => Nat.lt_of_lt_of_le hk hn) z)))
theorem ckAx_w0 (h : (!decide ((j : Int) < (L.length : Int)) && true) = true) (lo : Kn.Low ⟨[(0, .c (.sl 0 0 L.length c)), (32, .c (.sl 0 0 L.length c)), (33, .c (.i (L.length : Int))), (34, .c (.i 0))], [(0, Ent.mk false (pcell L) 0)], 1⟩) (hF : ∀ k, C.F k → k < 1) (z : AR 10 Tryz.f10 C 1 ⟨[(0, .c (.sl 0 0 L.length c)), (32, .c (.sl 0 0 L.length c)), (33, .c (.i (L.length : Int))), (34, .c (.i 0))], [(0, Ent.mk false (pcell L) 0)], 1⟩ R) :
  AR 10 Tryz.f10 C 0 (ckAK L c j) R :=
 run_cut2 [false] [true] [] Tryz.func10 (by kernel_rfl) h cr_nil lo hF z
theorem ckB_w0 (h : (decide ((j : Int) < (L.length : Int)) && (decide ((j : Int) < (L.length : Int)) && (Nat.ble (0 + (j : Int).toNat * 5 + 5) (pcell L).length && (!inB (elt L j) (↑(L.length - 1 - j) : Int) && true)))) = true) (c0 : pe (.ag (((pcell L).drop (0 + (j : Int).toNat * 5)).take 5)) = pe (.ag (elt L j).cs)) (c1 : pe (.c (.i (IntKind.i64.wrap (IntKind.i64.wrap ((L.length : Int) - 1) - (j : Int))))) = pe (.c (.i (↑(L.length - 1 - j) : Int)))) (c2 : Ok 26 [.ag (elt L j).cs, .c (.i (↑(L.length - 1 - j) : Int))] (.c (.b (inB (elt L j) (↑(L.length - 1 - j) : Int))))) :
  AR 10 Tryz.f10 (cx w β n []) 1 (ckBK L c j) (REff w β ⟨.c (.i 3), [], none⟩) :=
 run_eff2 [] none [true, true] [true] [(11, 2), (12, 5)] Tryz.func10 (ekeys0 rfl n) (by kernel_rfl) h (cr_same c0 (cr_same c1 (cr_cons c2 cr_nil)))
theorem ckB_w1 (h : (decide ((j : Int) < (L.length : Int)) && (decide ((j : Int) < (L.length : Int)) && (Nat.ble (0 + (j : Int).toNat * 5 + 5) (pcell L).length && (!!inB (elt L j) (↑(L.length - 1 - j) : Int) && true)))) = true) (c0 : pe (.ag (((pcell L).drop (0 + (j : Int).toNat * 5)).take 5)) = pe (.ag (elt L j).cs)) (c1 : pe (.c (.i (IntKind.i64.wrap (IntKind.i64.wrap ((L.length : Int) - 1) - (j : Int))))) = pe (.c (.i (↑(L.length - 1 - j) : Int)))) (c2 : Ok 26 [.ag (elt L j).cs, .c (.i (↑(L.length - 1 - j) : Int))] (.c (.b (inB (elt L j) (↑(L.length - 1 - j) : Int))))) (lo : Kn.Low ⟨[(0, .c (.sl 0 0 L.length c)), (32, .c (.sl 0 0 L.length c)), (33, .c (.i (L.length : Int))), (34, .c (.i (IntKind.i64.wrap ((j : Int) + 1))))], [(0, Ent.mk false (pcell L) 0)], 1⟩) (hF : ∀ k, C.F k → k < 1) (z : AR 10 Tryz.f10 C 1 ⟨[(0, .c (.sl 0 0 L.length c)), (32, .c (.sl 0 0 L.length c)), (33, .c (.i (L.length : Int))), (34, .c (.i (IntKind.i64.wrap ((j : Int) + 1))))], [(0, Ent.mk false (pcell L) 0)], 1⟩ R) :
  AR 10 Tryz.f10 C 1 (ckBK L c j) R :=
 run_cut2 [true, false] [true] [(11, 2), (12, 5)] Tryz.func10 (by kernel_rfl) h (cr_same c0 (cr_same c1 (cr_cons c2 cr_nil))) lo hF z
theorem ckB_all (hn : n ≤ 1)
  (l0 : (!inB (elt L j) (↑(L.length - 1 - j) : Int)) = true → (decide ((j : Int) < (L.length : Int))) = true ∧ (decide ((j : Int) < (L.length : Int))) = true ∧ (Nat.ble (0 + (j : Int).toNat * 5 + 5) (pcell L).length) = true ∧ (pe (.ag (((pcell L).drop (0 + (j : Int).toNat * 5)).take 5)) = pe (.ag (elt L j).cs)) ∧ (pe (.c (.i (IntKind.i64.wrap (IntKind.i64.wrap ((L.length : Int) - 1) - (j : Int))))) = pe (.c (.i (↑(L.length - 1 - j) : Int)))) ∧ (Ok 26 [.ag (elt L j).cs, .c (.i (↑(L.length - 1 - j) : Int))] (.c (.b (inB (elt L j) (↑(L.length - 1 - j) : Int))))) ∧ ((⟨.c (.i 3), [], none⟩ : Eff) = E))
  (l1 : (!inB (elt L j) (↑(L.length - 1 - j) : Int)) = false → (decide ((j : Int) < (L.length : Int))) = true ∧ (decide ((j : Int) < (L.length : Int))) = true ∧ (Nat.ble (0 + (j : Int).toNat * 5 + 5) (pcell L).length) = true ∧ (pe (.ag (((pcell L).drop (0 + (j : Int).toNat * 5)).take 5)) = pe (.ag (elt L j).cs)) ∧ (pe (.c (.i (IntKind.i64.wrap (IntKind.i64.wrap ((L.length : Int) - 1) - (j : Int))))) = pe (.c (.i (↑(L.length - 1 - j) : Int)))) ∧ (Ok 26 [.ag (elt L j).cs, .c (.i (↑(L.length - 1 - j) : Int))] (.c (.b (inB (elt L j) (↑(L.length - 1 - j) : Int))))) ∧ Kn.Low ⟨[(0, .c (.sl 0 0 L.length c)), (32, .c (.sl 0 0 L.length c)), (33, .c (.i (L.length : Int))), (34, .c (.i (IntKind.i64.wrap ((j : Int) + 1))))], [(0, Ent.mk false (pcell L) 0)], 1⟩ ∧ AR 10 Tryz.f10 (cx w β n []) 1 ⟨[(0, .c (.sl 0 0 L.length c)), (32, .c (.sl 0 0 L.length c)), (33, .c (.i (L.length : Int))), (34, .c (.i (IntKind.i64.wrap ((j : Int) + 1))))], [(0, Ent.mk false (pcell L) 0)], 1⟩ (REff w β E)) :
  AR 10 Tryz.f10 (cx w β n []) 1 (ckBK L c j) (REff w β E) :=
 (tf (!inB (elt L j) (↑(L.length - 1 - j) : Int))).elim (fun h0 => (match l0 h0 with | ⟨o0, o1, o2, c0, c1, c2, e⟩ => art_eq (ckB_w0 (and_yes o0 (and_yes o1 (and_yes o2 (and_yes h0 rfl)))) c0 c1 c2) e)) (fun h0 => (match l1 h0 with | ⟨o0, o1, o2, c0, c1, c2, lo, z⟩ => ckB_w1 (and_yes o0 (and_yes o1 (and_yes o2 (and_yes (not_yes h0) rfl)))) c0 c1 c2 lo (fun _ hk => Nat.lt_of_lt_of_le hk hn) z))
theorem ckBx_w0 (h : (!decide ((j : Int) < (L.length : Int)) && true) = true) (lo : Kn.Low ⟨[(0, .c (.sl 0 0 L.length c)), (48, .c (.sl 0 0 L.length c)), (49, .c (.i (L.length : Int))), (50, .c (.i 0))], [(0, Ent.mk false (pcell L) 0)], 1⟩) (hF : ∀ k, C.F k → k < 1) (z : AR 10 Tryz.f10 C 2 ⟨[(0, .c (.sl 0 0 L.length c)), (48, .c (.sl 0 0 L.length c)), (49, .c (.i (L.length : Int))), (50, .c (.i 0))], [(0, Ent.mk false (pcell L) 0)], 1⟩ R) :
  AR 10 Tryz.f10 C 1 (ckBK L c j) R :=
 run_cut2 [false] [true] [] Tryz.func10 (by kernel_rfl) h cr_nil lo hF z
theorem ckC_w0 (h : (decide ((j : Int) < (L.length : Int)) && (decide ((j : Int) < (L.length : Int)) && (Nat.ble (0 + (j : Int).toNat * 5 + 5) (pcell L).length && (!bareB (elt L j) && true)))) = true) (c0 : pe (.ag (((pcell L).drop (0 + (j : Int).toNat * 5)).take 5)) = pe (.ag (elt L j).cs)) (c1 : Ok 27 [.ag (elt L j).cs] (.c (.b (bareB (elt L j))))) :
  AR 10 Tryz.f10 (cx w β n []) 2 (ckCK L c j) (REff w β ⟨.c (.i 1), [], none⟩) :=
 run_eff2 [] none [true, true] [true] [(17, 1)] Tryz.func10 (ekeys0 rfl n) (by kernel_rfl) h (cr_same c0 (cr_cons c1 cr_nil))
theorem ckC_w1 (h : (decide ((j : Int) < (L.length : Int)) && (decide ((j : Int) < (L.length : Int)) && (Nat.ble (0 + (j : Int).toNat * 5 + 5) (pcell L).length && (!!bareB (elt L j) && true)))) = true) (c0 : pe (.ag (((pcell L).drop (0 + (j : Int).toNat * 5)).take 5)) = pe (.ag (elt L j).cs)) (c1 : Ok 27 [.ag (elt L j).cs] (.c (.b (bareB (elt L j))))) (lo : Kn.Low ⟨[(0, .c (.sl 0 0 L.length c)), (48, .c (.sl 0 0 L.length c)), (49, .c (.i (L.length : Int))), (50, .c (.i (IntKind.i64.wrap ((j : Int) + 1))))], [(0, Ent.mk false (pcell L) 0)], 1⟩) (hF : ∀ k, C.F k → k < 1) (z : AR 10 Tryz.f10 C 2 ⟨[(0, .c (.sl 0 0 L.length c)), (48, .c (.sl 0 0 L.length c)), (49, .c (.i (L.length : Int))), (50, .c (.i (IntKind.i64.wrap ((j : Int) + 1))))], [(0, Ent.mk false (pcell L) 0)], 1⟩ R) :
  AR 10 Tryz.f10 C 2 (ckCK L c j) R :=
 run_cut2 [true, false] [true] [(17, 1)] Tryz.func10 (by kernel_rfl) h (cr_same c0 (cr_cons c1 cr_nil)) lo hF z
theorem ckC_all (hn : n ≤ 1)
  (l0 : (!bareB (elt L j)) = true → (decide ((j : Int) < (L.length : Int))) = true ∧ (decide ((j : Int) < (L.length : Int))) = true ∧ (Nat.ble (0 + (j : Int).toNat * 5 + 5) (pcell L).length) = true ∧ (pe (.ag (((pcell L).drop (0 + (j : Int).toNat * 5)).take 5)) = pe (.ag (elt L j).cs)) ∧ (Ok 27 [.ag (elt L j).cs] (.c (.b (bareB (elt L j))))) ∧ ((⟨.c (.i 1), [], none⟩ : Eff) = E))
  (l1 : (!bareB (elt L j)) = false → (decide ((j : Int) < (L.length : Int))) = true ∧ (decide ((j : Int) < (L.length : Int))) = true ∧ (Nat.ble (0 + (j : Int).toNat * 5 + 5) (pcell L).length) = true ∧ (pe (.ag (((pcell L).drop (0 + (j : Int).toNat * 5)).take 5)) = pe (.ag (elt L j).cs)) ∧ (Ok 27 [.ag (elt L j).cs] (.c (.b (bareB (elt L j))))) ∧ Kn.Low ⟨[(0, .c (.sl 0 0 L.length c)), (48, .c (.sl 0 0 L.length c)), (49, .c (.i (L.length : Int))), (50, .c (.i (IntKind.i64.wrap ((j : Int) + 1))))], [(0, Ent.mk false (pcell L) 0)], 1⟩ ∧ AR 10 Tryz.f10 (cx w β n []) 2 ⟨[(0, .c (.sl 0 0 L.length c)), (48, .c (.sl 0 0 L.length c)), (49, .c (.i (L.length : Int))), (50, .c (.i (IntKind.i64.wrap ((j : Int) + 1))))], [(0, Ent.mk false (pcell L) 0)], 1⟩ (REff w β E)) :
  AR 10 Tryz.f10 (cx w β n []) 2 (ckCK L c j) (REff w β E) :=
 (tf (!bareB (elt L j))).elim (fun h0 => (match l0 h0 with | ⟨o0, o1, o2, c0, c1, e⟩ => art_eq (ckC_w0 (and_yes o0 (and_yes o1 (and_yes o2 (and_yes h0 rfl)))) c0 c1) e)) (fun h0 => (match l1 h0 with | ⟨o0, o1, o2, c0, c1, lo, z⟩ => ckC_w1 (and_yes o0 (and_yes o1 (and_yes o2 (and_yes (not_yes h0) rfl)))) c0 c1 lo (fun _ hk => Nat.lt_of_lt_of_le hk hn) z))
theorem ckCx_w0 (h : (!decide ((j : Int) < (L.length : Int)) && (decide (0 ≤ IntKind.i64.wrap ((L.length : Int) - 1)) && decide (IntKind.i64.wrap ((L.length : Int) - 1) < (L.length : Int)) && (AC.isI ((pcell L)[0 + (IntKind.i64.wrap ((L.length : Int) - 1)).toNat * 5 + 0]?.getD (.b false)) && Nat.blt (0 + (IntKind.i64.wrap ((L.length : Int) - 1)).toNat * 5 + 0) (pcell L).length && (lastOp L != 15 && true)))) = true) (c0 : pe (.c (.i (AC.asI ((pcell L)[0 + (IntKind.i64.wrap ((L.length : Int) - 1)).toNat * 5 + 0]?.getD (.b false))))) = pe (.c (.i (lastOp L)))) :
  AR 10 Tryz.f10 (cx w β n []) 2 (ckCK L c j) (REff w β ⟨.c (.i 1), [], none⟩) :=
 run_eff2 [] none [false, true] [true] [(21, 6)] Tryz.func10 (ekeys0 rfl n) (by kernel_rfl) h (cr_same c0 cr_nil)
theorem ckCx_w1 (h : (!decide ((j : Int) < (L.length : Int)) && (decide (0 ≤ IntKind.i64.wrap ((L.length : Int) - 1)) && decide (IntKind.i64.wrap ((L.length : Int) - 1) < (L.length : Int)) && (AC.isI ((pcell L)[0 + (IntKind.i64.wrap ((L.length : Int) - 1)).toNat * 5 + 0]?.getD (.b false)) && Nat.blt (0 + (IntKind.i64.wrap ((L.length : Int) - 1)).toNat * 5 + 0) (pcell L).length && (!lastOp L != 15 && true)))) = true) (c0 : pe (.c (.i (AC.asI ((pcell L)[0 + (IntKind.i64.wrap ((L.length : Int) - 1)).toNat * 5 + 0]?.getD (.b false))))) = pe (.c (.i (lastOp L)))) :
  AR 10 Tryz.f10 (cx w β n []) 2 (ckCK L c j) (REff w β ⟨.c (.i 0), [], none⟩) :=
 run_eff2 [] none [false, false] [true] [(21, 6)] Tryz.func10 (ekeys0 rfl n) (by kernel_rfl) h (cr_same c0 cr_nil)
theorem ckCx_all
  (l0 : (lastOp L != 15) = true → (!decide ((j : Int) < (L.length : Int))) = true ∧ (decide (0 ≤ IntKind.i64.wrap ((L.length : Int) - 1)) && decide (IntKind.i64.wrap ((L.length : Int) - 1) < (L.length : Int))) = true ∧ (AC.isI ((pcell L)[0 + (IntKind.i64.wrap ((L.length : Int) - 1)).toNat * 5 + 0]?.getD (.b false)) && Nat.blt (0 + (IntKind.i64.wrap ((L.length : Int) - 1)).toNat * 5 + 0) (pcell L).length) = true ∧ (pe (.c (.i (AC.asI ((pcell L)[0 + (IntKind.i64.wrap ((L.length : Int) - 1)).toNat * 5 + 0]?.getD (.b false))))) = pe (.c (.i (lastOp L)))) ∧ ((⟨.c (.i 1), [], none⟩ : Eff) = E))
  (l1 : (lastOp L != 15) = false → (!decide ((j : Int) < (L.length : Int))) = true ∧ (decide (0 ≤ IntKind.i64.wrap ((L.length : Int) - 1)) && decide (IntKind.i64.wrap ((L.length : Int) - 1) < (L.length : Int))) = true ∧ (AC.isI ((pcell L)[0 + (IntKind.i64.wrap ((L.length : Int) - 1)).toNat * 5 + 0]?.getD (.b false)) && Nat.blt (0 + (IntKind.i64.wrap ((L.length : Int) - 1)).toNat * 5 + 0) (pcell L).length) = true ∧ (pe (.c (.i (AC.asI ((pcell L)[0 + (IntKind.i64.wrap ((L.length : Int) - 1)).toNat * 5 + 0]?.getD (.b false))))) = pe (.c (.i (lastOp L)))) ∧ ((⟨.c (.i 0), [], none⟩ : Eff) = E)) :
  AR 10 Tryz.f10 (cx w β n []) 2 (ckCK L c j) (REff w β E) :=
 (tf (lastOp L != 15)).elim (fun h0 => (match l0 h0 with | ⟨o0, o1, o2, c0, e⟩ => art_eq (ckCx_w0 (and_yes o0 (and_yes o1 (and_yes o2 (and_yes h0 rfl)))) c0) e)) (fun h0 => (match l1 h0 with | ⟨o0, o1, o2, c0, e⟩ => art_eq (ckCx_w1 (and_yes o0 (and_yes o1 (and_yes o2 (and_yes (not_yes h0) rfl)))) c0) e))
theorem ckNil_w0 :
  Ok 10 [.c nilSl] (.c (.i 2)) :=
 val_run2 [true, true] [] [] Tryz.func10 rfl rfl rfl rfl (by kernel_rfl) rfl cr_nil
end
section
variable {V : AV} {n : Int} {i : Ins}
theorem isReg_w0 {d : Int} (h : (decide (0 ≤ d) && true) = true) :
  Ok 49 [.c (.i d)] (.c (.b (decide (d < 6)))) :=
 val_run2 [true] [] [] Tryz.func49 rfl rfl rfl rfl (by kernel_rfl) h cr_nil
theorem isReg_w1 {d : Int} (h : (!decide (0 ≤ d) && true) = true) :
  Ok 49 [.c (.i d)] (.c (.b false)) :=
 val_run2 [false] [] [] Tryz.func49 rfl rfl rfl rfl (by kernel_rfl) h cr_nil
theorem isReg_all {d : Int}
  (l0 : (decide (0 ≤ d)) = true → (AV.c (.b (decide (d < 6))) = V))
  (l1 : (decide (0 ≤ d)) = false → (AV.c (.b false) = V)) :
  Ok 49 [.c (.i d)] V :=
 (tf (decide (0 ≤ d))).elim (fun h0 => (match l0 h0 with | e => ok_eq (isReg_w0 (and_yes h0 rfl)) e)) (fun h0 => (match l1 h0 with | e => ok_eq (isReg_w1 (and_yes (not_yes h0) rfl)) e))
theorem isSource_w0 {d : Int} (h : (d == -1 && true) = true) :
  Ok 52 [.c (.i d)] (.c (.b true)) :=
 val_run2 [true] [] [] Tryz.func52 rfl rfl rfl rfl (by kernel_rfl) h cr_nil
theorem isSource_w1 {d : Int} (h : (!d == -1 && true) = true) (c0 : Ok 49 [.c (.i d)] (.c (.b (regB d)))) :
  Ok 52 [.c (.i d)] (.c (.b (regB d))) :=
 val_run2 [false] [] [] Tryz.func52 rfl rfl rfl rfl (by kernel_rfl) h (cr_cons c0 cr_nil)
theorem isSource_all {d : Int}
  (l0 : (d == -1) = true → (AV.c (.b true) = V))
  (l1 : (d == -1) = false → (Ok 49 [.c (.i d)] (.c (.b (regB d)))) ∧ (AV.c (.b (regB d)) = V)) :
  Ok 52 [.c (.i d)] V :=
 (tf (d == -1)).elim (fun h0 => (match l0 h0 with | e => ok_eq (isSource_w0 (and_yes h0 rfl)) e)) (fun h0 => (match l1 h0 with | ⟨c0, e⟩ => ok_eq (isSource_w1 (and_yes (not_yes h0) rfl) c0) e))
theorem isSize_w0 {d : BitVec 64} (h : (eqb d 1#64 && true) = true) :
  Ok 50 [.c (.u d)] (.c (.b true)) :=
 val_run2 [true, true, true] [] [] Tryz.func50 rfl rfl rfl rfl (by kernel_rfl) h cr_nil
theorem isSize_w1 {d : BitVec 64} (h : (!eqb d 1#64 && (eqb d 2#64 && true)) = true) :
  Ok 50 [.c (.u d)] (.c (.b true)) :=
 val_run2 [false, true, true] [] [] Tryz.func50 rfl rfl rfl rfl (by kernel_rfl) h cr_nil
theorem isSize_w2 {d : BitVec 64} (h : (!eqb d 1#64 && (!eqb d 2#64 && (eqb d 4#64 && true))) = true) :
  Ok 50 [.c (.u d)] (.c (.b true)) :=
 val_run2 [false, false, true] [] [] Tryz.func50 rfl rfl rfl rfl (by kernel_rfl) h cr_nil
theorem isSize_w3 {d : BitVec 64} (h : (!eqb d 1#64 && (!eqb d 2#64 && (!eqb d 4#64 && true))) = true) :
  Ok 50 [.c (.u d)] (.c (.b (eqb d 8#64))) :=
 val_run2 [false, false, false] [] [] Tryz.func50 rfl rfl rfl rfl (by kernel_rfl) h cr_nil
theorem isSize_all {d : BitVec 64}
  (l0 : (eqb d 1#64) = true → (AV.c (.b true) = V))
  (l1 : (eqb d 1#64) = false → (eqb d 2#64) = true → (AV.c (.b true) = V))
  (l2 : (eqb d 1#64) = false → (eqb d 2#64) = false → (eqb d 4#64) = true → (AV.c (.b true) = V))
  (l3 : (eqb d 1#64) = false → (eqb d 2#64) = false → (eqb d 4#64) = false → (AV.c (.b (eqb d 8#64)) = V)) :
  Ok 50 [.c (.u d)] V :=
 (tf (eqb d 1#64)).elim (fun h0 => (match l0 h0 with | e => ok_eq (isSize_w0 (and_yes h0 rfl)) e)) (fun h0 => (tf (eqb d 2#64)).elim (fun h1 => (match l1 h0 h1 with | e => ok_eq (isSize_w1 (and_yes (not_yes h0) (and_yes h1 rfl))) e)) (fun h1 => (tf (eqb d 4#64)).elim (fun h2 => (match l2 h0 h1 h2 with | e => ok_eq (isSize_w2 (and_yes (not_yes h0) (and_yes (not_yes h1) (and_yes h2 rfl)))) e)) (fun h2 => (match l3 h0 h1 h2 with | e => ok_eq (isSize_w3 (and_yes (not_yes h0) (and_yes (not_yes h1) (and_yes (not_yes h2) rfl)))) e))))
theorem goesOn_w0 {d : Int} (h : (decide (0 ≤ d) && true) = true) :
  Ok 51 [.c (.i d), .c (.i n)] (.c (.b (decide (d < n)))) :=
 val_run2 [true] [] [] Tryz.func51 rfl rfl rfl rfl (by kernel_rfl) h cr_nil
theorem goesOn_w1 {d : Int} (h : (!decide (0 ≤ d) && true) = true) :
  Ok 51 [.c (.i d), .c (.i n)] (.c (.b false)) :=
 val_run2 [false] [] [] Tryz.func51 rfl rfl rfl rfl (by kernel_rfl) h cr_nil
theorem goesOn_all {d : Int}
  (l0 : (decide (0 ≤ d)) = true → (AV.c (.b (decide (d < n))) = V))
  (l1 : (decide (0 ≤ d)) = false → (AV.c (.b false) = V)) :
  Ok 51 [.c (.i d), .c (.i n)] V :=
 (tf (decide (0 ≤ d))).elim (fun h0 => (match l0 h0 with | e => ok_eq (goesOn_w0 (and_yes h0 rfl)) e)) (fun h0 => (match l1 h0 with | e => ok_eq (goesOn_w1 (and_yes (not_yes h0) rfl)) e))
theorem inBounds_w0 (h : (i.op == 10 && (i.op == 10 && (regB i.d && (regB i.s && (sizeB i.im && (decide (-64 ≤ i.of) && true)))))) = true) (c0 : Ok 49 [.c (.i i.d)] (.c (.b (regB i.d)))) (c1 : Ok 49 [.c (.i i.s)] (.c (.b (regB i.s)))) (c2 : Ok 50 [.c (.u i.im)] (.c (.b (sizeB i.im)))) :
  Ok 26 [.ag i.cs, .c (.i n)] (.c (.b (decide (i.of ≤ 64)))) :=
 val_run2 [true, true, true, true, true, true] [] [] Tryz.func26 rfl rfl rfl rfl (by kernel_rfl) h (cr_cons c0 (cr_cons c1 (cr_cons c2 cr_nil)))
theorem inBounds_w1 (h : (i.op == 10 && (i.op == 10 && (regB i.d && (regB i.s && (sizeB i.im && (!decide (-64 ≤ i.of) && true)))))) = true) (c0 : Ok 49 [.c (.i i.d)] (.c (.b (regB i.d)))) (c1 : Ok 49 [.c (.i i.s)] (.c (.b (regB i.s)))) (c2 : Ok 50 [.c (.u i.im)] (.c (.b (sizeB i.im)))) :
  Ok 26 [.ag i.cs, .c (.i n)] (.c (.b false)) :=
 val_run2 [true, true, true, true, true, false] [] [] Tryz.func26 rfl rfl rfl rfl (by kernel_rfl) h (cr_cons c0 (cr_cons c1 (cr_cons c2 cr_nil)))
theorem inBounds_w2 (h : (i.op == 10 && (i.op == 10 && (regB i.d && (regB i.s && (!sizeB i.im && true))))) = true) (c0 : Ok 49 [.c (.i i.d)] (.c (.b (regB i.d)))) (c1 : Ok 49 [.c (.i i.s)] (.c (.b (regB i.s)))) (c2 : Ok 50 [.c (.u i.im)] (.c (.b (sizeB i.im)))) :
  Ok 26 [.ag i.cs, .c (.i n)] (.c (.b false)) :=
 val_run2 [true, true, true, true, false, false] [] [] Tryz.func26 rfl rfl rfl rfl (by kernel_rfl) h (cr_cons c0 (cr_cons c1 (cr_cons c2 cr_nil)))
theorem inBounds_w3 (h : (i.op == 10 && (i.op == 10 && (regB i.d && (!regB i.s && true)))) = true) (c0 : Ok 49 [.c (.i i.d)] (.c (.b (regB i.d)))) (c1 : Ok 49 [.c (.i i.s)] (.c (.b (regB i.s)))) :
  Ok 26 [.ag i.cs, .c (.i n)] (.c (.b false)) :=
 val_run2 [true, true, true, false, false, false] [] [] Tryz.func26 rfl rfl rfl rfl (by kernel_rfl) h (cr_cons c0 (cr_cons c1 cr_nil))
theorem inBounds_w4 (h : (i.op == 10 && (i.op == 10 && (!regB i.d && true))) = true) (c0 : Ok 49 [.c (.i i.d)] (.c (.b (regB i.d)))) :
  Ok 26 [.ag i.cs, .c (.i n)] (.c (.b false)) :=
 val_run2 [true, true, false, false, false, false] [] [] Tryz.func26 rfl rfl rfl rfl (by kernel_rfl) h (cr_cons c0 cr_nil)
theorem inBounds_w5 (h : (!i.op == 10 && (i.op == 11 && (regB i.d && (regB i.s && (sizeB i.im && (decide (-64 ≤ i.of) && true)))))) = true) (c0 : Ok 49 [.c (.i i.d)] (.c (.b (regB i.d)))) (c1 : Ok 49 [.c (.i i.s)] (.c (.b (regB i.s)))) (c2 : Ok 50 [.c (.u i.im)] (.c (.b (sizeB i.im)))) :
  Ok 26 [.ag i.cs, .c (.i n)] (.c (.b (decide (i.of ≤ 64)))) :=
 val_run2 [false, true, true, true, true, true] [] [] Tryz.func26 rfl rfl rfl rfl (by kernel_rfl) h (cr_cons c0 (cr_cons c1 (cr_cons c2 cr_nil)))
theorem inBounds_w6 (h : (!i.op == 10 && (i.op == 11 && (regB i.d && (regB i.s && (sizeB i.im && (!decide (-64 ≤ i.of) && true)))))) = true) (c0 : Ok 49 [.c (.i i.d)] (.c (.b (regB i.d)))) (c1 : Ok 49 [.c (.i i.s)] (.c (.b (regB i.s)))) (c2 : Ok 50 [.c (.u i.im)] (.c (.b (sizeB i.im)))) :
  Ok 26 [.ag i.cs, .c (.i n)] (.c (.b false)) :=
 val_run2 [false, true, true, true, true, false] [] [] Tryz.func26 rfl rfl rfl rfl (by kernel_rfl) h (cr_cons c0 (cr_cons c1 (cr_cons c2 cr_nil)))
theorem inBounds_w7 (h : (!i.op == 10 && (i.op == 11 && (regB i.d && (regB i.s && (!sizeB i.im && true))))) = true) (c0 : Ok 49 [.c (.i i.d)] (.c (.b (regB i.d)))) (c1 : Ok 49 [.c (.i i.s)] (.c (.b (regB i.s)))) (c2 : Ok 50 [.c (.u i.im)] (.c (.b (sizeB i.im)))) :
  Ok 26 [.ag i.cs, .c (.i n)] (.c (.b false)) :=
 val_run2 [false, true, true, true, false, false] [] [] Tryz.func26 rfl rfl rfl rfl (by kernel_rfl) h (cr_cons c0 (cr_cons c1 (cr_cons c2 cr_nil)))
theorem inBounds_w8 (h : (!i.op == 10 && (i.op == 11 && (regB i.d && (!regB i.s && true)))) = true) (c0 : Ok 49 [.c (.i i.d)] (.c (.b (regB i.d)))) (c1 : Ok 49 [.c (.i i.s)] (.c (.b (regB i.s)))) :
  Ok 26 [.ag i.cs, .c (.i n)] (.c (.b false)) :=
 val_run2 [false, true, true, false, false, false] [] [] Tryz.func26 rfl rfl rfl rfl (by kernel_rfl) h (cr_cons c0 (cr_cons c1 cr_nil))
theorem inBounds_w9 (h : (!i.op == 10 && (i.op == 11 && (!regB i.d && true))) = true) (c0 : Ok 49 [.c (.i i.d)] (.c (.b (regB i.d)))) :
  Ok 26 [.ag i.cs, .c (.i n)] (.c (.b false)) :=
 val_run2 [false, true, false, false, false, false] [] [] Tryz.func26 rfl rfl rfl rfl (by kernel_rfl) h (cr_cons c0 cr_nil)
theorem inBounds_w10 (h : (!i.op == 10 && (!i.op == 11 && (i.op == 12 && true))) = true) (c0 : Ok 51 [.c (.i i.of), .c (.i n)] (.c (.b (goesB i.of n)))) :
  Ok 26 [.ag i.cs, .c (.i n)] (.c (.b (goesB i.of n))) :=
 val_run2 [false, false, true] [] [] Tryz.func26 rfl rfl rfl rfl (by kernel_rfl) h (cr_cons c0 cr_nil)
theorem inBounds_w11 (h : (!i.op == 10 && (!i.op == 11 && (!i.op == 12 && (i.op == 13 && (i.op == 13 && (regB i.d && (srcB i.s && true))))))) = true) (c0 : Ok 49 [.c (.i i.d)] (.c (.b (regB i.d)))) (c1 : Ok 52 [.c (.i i.s)] (.c (.b (srcB i.s)))) (c2 : Ok 51 [.c (.i i.of), .c (.i n)] (.c (.b (goesB i.of n)))) :
  Ok 26 [.ag i.cs, .c (.i n)] (.c (.b (goesB i.of n))) :=
 val_run2 [false, false, false, true, true, true, true] [] [] Tryz.func26 rfl rfl rfl rfl (by kernel_rfl) h (cr_cons c0 (cr_cons c1 (cr_cons c2 cr_nil)))
theorem inBounds_w12 (h : (!i.op == 10 && (!i.op == 11 && (!i.op == 12 && (i.op == 13 && (i.op == 13 && (regB i.d && (!srcB i.s && true))))))) = true) (c0 : Ok 49 [.c (.i i.d)] (.c (.b (regB i.d)))) (c1 : Ok 52 [.c (.i i.s)] (.c (.b (srcB i.s)))) :
  Ok 26 [.ag i.cs, .c (.i n)] (.c (.b false)) :=
 val_run2 [false, false, false, true, true, true, false] [] [] Tryz.func26 rfl rfl rfl rfl (by kernel_rfl) h (cr_cons c0 (cr_cons c1 cr_nil))
theorem inBounds_w13 (h : (!i.op == 10 && (!i.op == 11 && (!i.op == 12 && (i.op == 13 && (i.op == 13 && (!regB i.d && true)))))) = true) (c0 : Ok 49 [.c (.i i.d)] (.c (.b (regB i.d)))) :
  Ok 26 [.ag i.cs, .c (.i n)] (.c (.b false)) :=
 val_run2 [false, false, false, true, true, false, false] [] [] Tryz.func26 rfl rfl rfl rfl (by kernel_rfl) h (cr_cons c0 cr_nil)
theorem inBounds_w14 (h : (!i.op == 10 && (!i.op == 11 && (!i.op == 12 && (!i.op == 13 && (i.op == 14 && (regB i.d && (srcB i.s && true))))))) = true) (c0 : Ok 49 [.c (.i i.d)] (.c (.b (regB i.d)))) (c1 : Ok 52 [.c (.i i.s)] (.c (.b (srcB i.s)))) (c2 : Ok 51 [.c (.i i.of), .c (.i n)] (.c (.b (goesB i.of n)))) :
  Ok 26 [.ag i.cs, .c (.i n)] (.c (.b (goesB i.of n))) :=
 val_run2 [false, false, false, false, true, true, true] [] [] Tryz.func26 rfl rfl rfl rfl (by kernel_rfl) h (cr_cons c0 (cr_cons c1 (cr_cons c2 cr_nil)))
theorem inBounds_w15 (h : (!i.op == 10 && (!i.op == 11 && (!i.op == 12 && (!i.op == 13 && (i.op == 14 && (regB i.d && (!srcB i.s && true))))))) = true) (c0 : Ok 49 [.c (.i i.d)] (.c (.b (regB i.d)))) (c1 : Ok 52 [.c (.i i.s)] (.c (.b (srcB i.s)))) :
  Ok 26 [.ag i.cs, .c (.i n)] (.c (.b false)) :=
 val_run2 [false, false, false, false, true, true, false] [] [] Tryz.func26 rfl rfl rfl rfl (by kernel_rfl) h (cr_cons c0 (cr_cons c1 cr_nil))
theorem inBounds_w16 (h : (!i.op == 10 && (!i.op == 11 && (!i.op == 12 && (!i.op == 13 && (i.op == 14 && (!regB i.d && true)))))) = true) (c0 : Ok 49 [.c (.i i.d)] (.c (.b (regB i.d)))) :
  Ok 26 [.ag i.cs, .c (.i n)] (.c (.b false)) :=
 val_run2 [false, false, false, false, true, false, false] [] [] Tryz.func26 rfl rfl rfl rfl (by kernel_rfl) h (cr_cons c0 cr_nil)
theorem inBounds_w17 (h : (!i.op == 10 && (!i.op == 11 && (!i.op == 12 && (!i.op == 13 && (!i.op == 14 && (i.op == 15 && true)))))) = true) :
  Ok 26 [.ag i.cs, .c (.i n)] (.c (.b true)) :=
 val_run2 [false, false, false, false, false, true] [] [] Tryz.func26 rfl rfl rfl rfl (by kernel_rfl) h cr_nil
theorem inBounds_w18 (h : (!i.op == 10 && (!i.op == 11 && (!i.op == 12 && (!i.op == 13 && (!i.op == 14 && (!i.op == 15 && (regB i.d && true))))))) = true) (c0 : Ok 49 [.c (.i i.d)] (.c (.b (regB i.d)))) (c1 : Ok 52 [.c (.i i.s)] (.c (.b (srcB i.s)))) :
  Ok 26 [.ag i.cs, .c (.i n)] (.c (.b (srcB i.s))) :=
 val_run2 [false, false, false, false, false, false, true] [] [] Tryz.func26 rfl rfl rfl rfl (by kernel_rfl) h (cr_cons c0 (cr_cons c1 cr_nil))
theorem inBounds_w19 (h : (!i.op == 10 && (!i.op == 11 && (!i.op == 12 && (!i.op == 13 && (!i.op == 14 && (!i.op == 15 && (!regB i.d && true))))))) = true) (c0 : Ok 49 [.c (.i i.d)] (.c (.b (regB i.d)))) :
  Ok 26 [.ag i.cs, .c (.i n)] (.c (.b false)) :=
 val_run2 [false, false, false, false, false, false, false] [] [] Tryz.func26 rfl rfl rfl rfl (by kernel_rfl) h (cr_cons c0 cr_nil)
theorem inBounds_all
  (l0 : (i.op == 10) = true → (regB i.d) = true → (regB i.s) = true → (sizeB i.im) = true → (decide (-64 ≤ i.of)) = true → (Ok 49 [.c (.i i.d)] (.c (.b (regB i.d)))) ∧ (Ok 49 [.c (.i i.s)] (.c (.b (regB i.s)))) ∧ (Ok 50 [.c (.u i.im)] (.c (.b (sizeB i.im)))) ∧ (AV.c (.b (decide (i.of ≤ 64))) = V))
  (l1 : (i.op == 10) = true → (regB i.d) = true → (regB i.s) = true → (sizeB i.im) = true → (decide (-64 ≤ i.of)) = false → (Ok 49 [.c (.i i.d)] (.c (.b (regB i.d)))) ∧ (Ok 49 [.c (.i i.s)] (.c (.b (regB i.s)))) ∧ (Ok 50 [.c (.u i.im)] (.c (.b (sizeB i.im)))) ∧ (AV.c (.b false) = V))
  (l2 : (i.op == 10) = true → (regB i.d) = true → (regB i.s) = true → (sizeB i.im) = false → (Ok 49 [.c (.i i.d)] (.c (.b (regB i.d)))) ∧ (Ok 49 [.c (.i i.s)] (.c (.b (regB i.s)))) ∧ (Ok 50 [.c (.u i.im)] (.c (.b (sizeB i.im)))) ∧ (AV.c (.b false) = V))
  (l3 : (i.op == 10) = true → (regB i.d) = true → (regB i.s) = false → (Ok 49 [.c (.i i.d)] (.c (.b (regB i.d)))) ∧ (Ok 49 [.c (.i i.s)] (.c (.b (regB i.s)))) ∧ (AV.c (.b false) = V))
  (l4 : (i.op == 10) = true → (regB i.d) = false → (Ok 49 [.c (.i i.d)] (.c (.b (regB i.d)))) ∧ (AV.c (.b false) = V))
  (l5 : (i.op == 10) = false → (i.op == 11) = true → (regB i.d) = true → (regB i.s) = true → (sizeB i.im) = true → (decide (-64 ≤ i.of)) = true → (Ok 49 [.c (.i i.d)] (.c (.b (regB i.d)))) ∧ (Ok 49 [.c (.i i.s)] (.c (.b (regB i.s)))) ∧ (Ok 50 [.c (.u i.im)] (.c (.b (sizeB i.im)))) ∧ (AV.c (.b (decide (i.of ≤ 64))) = V))
  (l6 : (i.op == 10) = false → (i.op == 11) = true → (regB i.d) = true → (regB i.s) = true → (sizeB i.im) = true → (decide (-64 ≤ i.of)) = false → (Ok 49 [.c (.i i.d)] (.c (.b (regB i.d)))) ∧ (Ok 49 [.c (.i i.s)] (.c (.b (regB i.s)))) ∧ (Ok 50 [.c (.u i.im)] (.c (.b (sizeB i.im)))) ∧ (AV.c (.b false) = V))
  (l7 : (i.op == 10) = false → (i.op == 11) = true → (regB i.d) = true → (regB i.s) = true → (sizeB i.im) = false → (Ok 49 [.c (.i i.d)] (.c (.b (regB i.d)))) ∧ (Ok 49 [.c (.i i.s)] (.c (.b (regB i.s)))) ∧ (Ok 50 [.c (.u i.im)] (.c (.b (sizeB i.im)))) ∧ (AV.c (.b false) = V))
  (l8 : (i.op == 10) = false → (i.op == 11) = true → (regB i.d) = true → (regB i.s) = false → (Ok 49 [.c (.i i.d)] (.c (.b (regB i.d)))) ∧ (Ok 49 [.c (.i i.s)] (.c (.b (regB i.s)))) ∧ (AV.c (.b false) = V))
  (l9 : (i.op == 10) = false → (i.op == 11) = true → (regB i.d) = false → (Ok 49 [.c (.i i.d)] (.c (.b (regB i.d)))) ∧ (AV.c (.b false) = V))
  (l10 : (i.op == 10) = false → (i.op == 11) = false → (i.op == 12) = true → (Ok 51 [.c (.i i.of), .c (.i n)] (.c (.b (goesB i.of n)))) ∧ (AV.c (.b (goesB i.of n)) = V))
  (l11 : (i.op == 10) = false → (i.op == 11) = false → (i.op == 12) = false → (i.op == 13) = true → (regB i.d) = true → (srcB i.s) = true → (Ok 49 [.c (.i i.d)] (.c (.b (regB i.d)))) ∧ (Ok 52 [.c (.i i.s)] (.c (.b (srcB i.s)))) ∧ (Ok 51 [.c (.i i.of), .c (.i n)] (.c (.b (goesB i.of n)))) ∧ (AV.c (.b (goesB i.of n)) = V))
  (l12 : (i.op == 10) = false → (i.op == 11) = false → (i.op == 12) = false → (i.op == 13) = true → (regB i.d) = true → (srcB i.s) = false → (Ok 49 [.c (.i i.d)] (.c (.b (regB i.d)))) ∧ (Ok 52 [.c (.i i.s)] (.c (.b (srcB i.s)))) ∧ (AV.c (.b false) = V))
  (l13 : (i.op == 10) = false → (i.op == 11) = false → (i.op == 12) = false → (i.op == 13) = true → (regB i.d) = false → (Ok 49 [.c (.i i.d)] (.c (.b (regB i.d)))) ∧ (AV.c (.b false) = V))
  (l14 : (i.op == 10) = false → (i.op == 11) = false → (i.op == 12) = false → (i.op == 13) = false → (i.op == 14) = true → (regB i.d) = true → (srcB i.s) = true → (Ok 49 [.c (.i i.d)] (.c (.b (regB i.d)))) ∧ (Ok 52 [.c (.i i.s)] (.c (.b (srcB i.s)))) ∧ (Ok 51 [.c (.i i.of), .c (.i n)] (.c (.b (goesB i.of n)))) ∧ (AV.c (.b (goesB i.of n)) = V))
  (l15 : (i.op == 10) = false → (i.op == 11) = false → (i.op == 12) = false → (i.op == 13) = false → (i.op == 14) = true → (regB i.d) = true → (srcB i.s) = false → (Ok 49 [.c (.i i.d)] (.c (.b (regB i.d)))) ∧ (Ok 52 [.c (.i i.s)] (.c (.b (srcB i.s)))) ∧ (AV.c (.b false) = V))
  (l16 : (i.op == 10) = false → (i.op == 11) = false → (i.op == 12) = false → (i.op == 13) = false → (i.op == 14) = true → (regB i.d) = false → (Ok 49 [.c (.i i.d)] (.c (.b (regB i.d)))) ∧ (AV.c (.b false) = V))
  (l17 : (i.op == 10) = false → (i.op == 11) = false → (i.op == 12) = false → (i.op == 13) = false → (i.op == 14) = false → (i.op == 15) = true → (AV.c (.b true) = V))
  (l18 : (i.op == 10) = false → (i.op == 11) = false → (i.op == 12) = false → (i.op == 13) = false → (i.op == 14) = false → (i.op == 15) = false → (regB i.d) = true → (Ok 49 [.c (.i i.d)] (.c (.b (regB i.d)))) ∧ (Ok 52 [.c (.i i.s)] (.c (.b (srcB i.s)))) ∧ (AV.c (.b (srcB i.s)) = V))
  (l19 : (i.op == 10) = false → (i.op == 11) = false → (i.op == 12) = false → (i.op == 13) = false → (i.op == 14) = false → (i.op == 15) = false → (regB i.d) = false → (Ok 49 [.c (.i i.d)] (.c (.b (regB i.d)))) ∧ (AV.c (.b false) = V)) :
  Ok 26 [.ag i.cs, .c (.i n)] V :=
 (tf (i.op == 10)).elim (fun h0 => (tf (regB i.d)).elim (fun h1 => (tf (regB i.s)).elim (fun h2 => (tf (sizeB i.im)).elim (fun h3 => (tf (decide (-64 ≤ i.of))).elim (fun h4 => (match l0 h0 h1 h2 h3 h4 with | ⟨c0, c1, c2, e⟩ => ok_eq (inBounds_w0 (and_yes h0 (and_yes h0 (and_yes h1 (and_yes h2 (and_yes h3 (and_yes h4 rfl)))))) c0 c1 c2) e)) (fun h4 => (match l1 h0 h1 h2 h3 h4 with | ⟨c0, c1, c2, e⟩ => ok_eq (inBounds_w1 (and_yes h0 (and_yes h0 (and_yes h1 (and_yes h2 (and_yes h3 (and_yes (not_yes h4) rfl)))))) c0 c1 c2) e))) (fun h3 => (match l2 h0 h1 h2 h3 with | ⟨c0, c1, c2, e⟩ => ok_eq (inBounds_w2 (and_yes h0 (and_yes h0 (and_yes h1 (and_yes h2 (and_yes (not_yes h3) rfl))))) c0 c1 c2) e))) (fun h2 => (match l3 h0 h1 h2 with | ⟨c0, c1, e⟩ => ok_eq (inBounds_w3 (and_yes h0 (and_yes h0 (and_yes h1 (and_yes (not_yes h2) rfl)))) c0 c1) e))) (fun h1 => (match l4 h0 h1 with | ⟨c0, e⟩ => ok_eq (inBounds_w4 (and_yes h0 (and_yes h0 (and_yes (not_yes h1) rfl))) c0) e))) (fun h0 => (tf (i.op == 11)).elim (fun h1 => (tf (regB i.d)).elim (fun h2 => (tf (regB i.s)).elim (fun h3 => (tf (sizeB i.im)).elim (fun h4 => (tf (decide (-64 ≤ i.of))).elim (fun h5 => (match l5 h0 h1 h2 h3 h4 h5 with | ⟨c0, c1, c2, e⟩ => ok_eq (inBounds_w5 (and_yes (not_yes h0) (and_yes h1 (and_yes h2 (and_yes h3 (and_yes h4 (and_yes h5 rfl)))))) c0 c1 c2) e)) (fun h5 => (match l6 h0 h1 h2 h3 h4 h5 with | ⟨c0, c1, c2, e⟩ => ok_eq (inBounds_w6 (and_yes (not_yes h0) (and_yes h1 (and_yes h2 (and_yes h3 (and_yes h4 (and_yes (not_yes h5) rfl)))))) c0 c1 c2) e))) (fun h4 => (match l7 h0 h1 h2 h3 h4 with | ⟨c0, c1, c2, e⟩ => ok_eq (inBounds_w7 (and_yes (not_yes h0) (and_yes h1 (and_yes h2 (and_yes h3 (and_yes (not_yes h4) rfl))))) c0 c1 c2) e))) (fun h3 => (match l8 h0 h1 h2 h3 with | ⟨c0, c1, e⟩ => ok_eq (inBounds_w8 (and_yes (not_yes h0) (and_yes h1 (and_yes h2 (and_yes (not_yes h3) rfl)))) c0 c1) e))) (fun h2 => (match l9 h0 h1 h2 with | ⟨c0, e⟩ => ok_eq (inBounds_w9 (and_yes (not_yes h0) (and_yes h1 (and_yes (not_yes h2) rfl))) c0) e))) (fun h1 => (tf (i.op == 12)).elim (fun h2 => (match l10 h0 h1 h2 with | ⟨c0, e⟩ => ok_eq (inBounds_w10 (and_yes (not_yes h0) (and_yes (not_yes h1) (and_yes h2 rfl))) c0) e)) (fun h2 => (tf (i.op == 13)).elim (fun h3 => (tf (regB i.d)).elim (fun h4 => (tf (srcB i.s)).elim (fun h5 => (match l11 h0 h1 h2 h3 h4 h5 with | ⟨c0, c1, c2, e⟩ => ok_eq (inBounds_w11 (and_yes (not_yes h0) (and_yes (not_yes h1) (and_yes (not_yes h2) (and_yes h3 (and_yes h3 (and_yes h4 (and_yes h5 rfl))))))) c0 c1 c2) e)) (fun h5 => (match l12 h0 h1 h2 h3 h4 h5 with | ⟨c0, c1, e⟩ => ok_eq (inBounds_w12 (and_yes (not_yes h0) (and_yes (not_yes h1) (and_yes (not_yes h2) (and_yes h3 (and_yes h3 (and_yes h4 (and_yes (not_yes h5) rfl))))))) c0 c1) e))) (fun h4 => (match l13 h0 h1 h2 h3 h4 with | ⟨c0, e⟩ => ok_eq (inBounds_w13 (and_yes (not_yes h0) (and_yes (not_yes h1) (and_yes (not_yes h2) (and_yes h3 (and_yes h3 (and_yes (not_yes h4) rfl)))))) c0) e))) (fun h3 => (tf (i.op == 14)).elim (fun h4 => (tf (regB i.d)).elim (fun h5 => (tf (srcB i.s)).elim (fun h6 => (match l14 h0 h1 h2 h3 h4 h5 h6 with | ⟨c0, c1, c2, e⟩ => ok_eq (inBounds_w14 (and_yes (not_yes h0) (and_yes (not_yes h1) (and_yes (not_yes h2) (and_yes (not_yes h3) (and_yes h4 (and_yes h5 (and_yes h6 rfl))))))) c0 c1 c2) e)) (fun h6 => (match l15 h0 h1 h2 h3 h4 h5 h6 with | ⟨c0, c1, e⟩ => ok_eq (inBounds_w15 (and_yes (not_yes h0) (and_yes (not_yes h1) (and_yes (not_yes h2) (and_yes (not_yes h3) (and_yes h4 (and_yes h5 (and_yes (not_yes h6) rfl))))))) c0 c1) e))) (fun h5 => (match l16 h0 h1 h2 h3 h4 h5 with | ⟨c0, e⟩ => ok_eq (inBounds_w16 (and_yes (not_yes h0) (and_yes (not_yes h1) (and_yes (not_yes h2) (and_yes (not_yes h3) (and_yes h4 (and_yes (not_yes h5) rfl)))))) c0) e))) (fun h4 => (tf (i.op == 15)).elim (fun h5 => (match l17 h0 h1 h2 h3 h4 h5 with | e => ok_eq (inBounds_w17 (and_yes (not_yes h0) (and_yes (not_yes h1) (and_yes (not_yes h2) (and_yes (not_yes h3) (and_yes (not_yes h4) (and_yes h5 rfl))))))) e)) (fun h5 => (tf (regB i.d)).elim (fun h6 => (match l18 h0 h1 h2 h3 h4 h5 h6 with | ⟨c0, c1, e⟩ => ok_eq (inBounds_w18 (and_yes (not_yes h0) (and_yes (not_yes h1) (and_yes (not_yes h2) (and_yes (not_yes h3) (and_yes (not_yes h4) (and_yes (not_yes h5) (and_yes h6 rfl))))))) c0 c1) e)) (fun h6 => (match l19 h0 h1 h2 h3 h4 h5 h6 with | ⟨c0, e⟩ => ok_eq (inBounds_w19 (and_yes (not_yes h0) (and_yes (not_yes h1) (and_yes (not_yes h2) (and_yes (not_yes h3) (and_yes (not_yes h4) (and_yes (not_yes h5) (and_yes (not_yes h6) rfl))))))) c0) e))))))))
theorem bare_w0 (h : (i.op == 10 && (i.op == 10 && true)) = true) :
  Ok 27 [.ag i.cs] (.c (.b true)) :=
 val_run2 [true, true] [] [] Tryz.func27 rfl rfl rfl rfl (by kernel_rfl) h cr_nil
theorem bare_w1 (h : (!i.op == 10 && (i.op == 11 && true)) = true) :
  Ok 27 [.ag i.cs] (.c (.b true)) :=
 val_run2 [false, true] [] [] Tryz.func27 rfl rfl rfl rfl (by kernel_rfl) h cr_nil
theorem bare_w2 (h : (!i.op == 10 && (!i.op == 11 && (i.op == 12 && true))) = true) :
  Ok 27 [.ag i.cs] (.c (.b (eqCs i.cs (splice (splice [.i 0, .i 0, .i 0, .u 0#64, .i 0] 0 [.i 12]) 4 [.i i.of])))) :=
 val_run2 [false, false, true] [] [] Tryz.func27 rfl rfl rfl rfl (by kernel_rfl) h cr_nil
theorem bare_w3 (h : (!i.op == 10 && (!i.op == 11 && (!i.op == 12 && (i.op == 13 && (i.op == 13 && (i.s == -1 && true)))))) = true) :
  Ok 27 [.ag i.cs] (.c (.b true)) :=
 val_run2 [false, false, false, true, true, true] [] [] Tryz.func27 rfl rfl rfl rfl (by kernel_rfl) h cr_nil
theorem bare_w4 (h : (!i.op == 10 && (!i.op == 11 && (!i.op == 12 && (i.op == 13 && (i.op == 13 && (!i.s == -1 && true)))))) = true) :
  Ok 27 [.ag i.cs] (.c (.b (eqb i.im 0#64))) :=
 val_run2 [false, false, false, true, true, false] [] [] Tryz.func27 rfl rfl rfl rfl (by kernel_rfl) h cr_nil
theorem bare_w5 (h : (!i.op == 10 && (!i.op == 11 && (!i.op == 12 && (!i.op == 13 && (i.op == 14 && (i.s == -1 && true)))))) = true) :
  Ok 27 [.ag i.cs] (.c (.b true)) :=
 val_run2 [false, false, false, false, true, true] [] [] Tryz.func27 rfl rfl rfl rfl (by kernel_rfl) h cr_nil
theorem bare_w6 (h : (!i.op == 10 && (!i.op == 11 && (!i.op == 12 && (!i.op == 13 && (i.op == 14 && (!i.s == -1 && true)))))) = true) :
  Ok 27 [.ag i.cs] (.c (.b (eqb i.im 0#64))) :=
 val_run2 [false, false, false, false, true, false] [] [] Tryz.func27 rfl rfl rfl rfl (by kernel_rfl) h cr_nil
theorem bare_w7 (h : (!i.op == 10 && (!i.op == 11 && (!i.op == 12 && (!i.op == 13 && (!i.op == 14 && (i.op == 15 && true)))))) = true) :
  Ok 27 [.ag i.cs] (.c (.b (eqCs i.cs (splice [.i 0, .i 0, .i 0, .u 0#64, .i 0] 0 [.i 15])))) :=
 val_run2 [false, false, false, false, false, true] [] [] Tryz.func27 rfl rfl rfl rfl (by kernel_rfl) h cr_nil
theorem bare_w8 (h : (!i.op == 10 && (!i.op == 11 && (!i.op == 12 && (!i.op == 13 && (!i.op == 14 && (!i.op == 15 && (i.of == 0 && (i.s == -1 && true)))))))) = true) :
  Ok 27 [.ag i.cs] (.c (.b true)) :=
 val_run2 [false, false, false, false, false, false, true, true] [] [] Tryz.func27 rfl rfl rfl rfl (by kernel_rfl) h cr_nil
theorem bare_w9 (h : (!i.op == 10 && (!i.op == 11 && (!i.op == 12 && (!i.op == 13 && (!i.op == 14 && (!i.op == 15 && (i.of == 0 && (!i.s == -1 && true)))))))) = true) :
  Ok 27 [.ag i.cs] (.c (.b (eqb i.im 0#64))) :=
 val_run2 [false, false, false, false, false, false, true, false] [] [] Tryz.func27 rfl rfl rfl rfl (by kernel_rfl) h cr_nil
theorem bare_w10 (h : (!i.op == 10 && (!i.op == 11 && (!i.op == 12 && (!i.op == 13 && (!i.op == 14 && (!i.op == 15 && (!i.of == 0 && true))))))) = true) :
  Ok 27 [.ag i.cs] (.c (.b false)) :=
 val_run2 [false, false, false, false, false, false, false] [] [] Tryz.func27 rfl rfl rfl rfl (by kernel_rfl) h cr_nil
theorem bare_all
  (l0 : (i.op == 10) = true → (AV.c (.b true) = V))
  (l1 : (i.op == 10) = false → (i.op == 11) = true → (AV.c (.b true) = V))
  (l2 : (i.op == 10) = false → (i.op == 11) = false → (i.op == 12) = true → (AV.c (.b (eqCs i.cs (splice (splice [.i 0, .i 0, .i 0, .u 0#64, .i 0] 0 [.i 12]) 4 [.i i.of]))) = V))
  (l3 : (i.op == 10) = false → (i.op == 11) = false → (i.op == 12) = false → (i.op == 13) = true → (i.s == -1) = true → (AV.c (.b true) = V))
  (l4 : (i.op == 10) = false → (i.op == 11) = false → (i.op == 12) = false → (i.op == 13) = true → (i.s == -1) = false → (AV.c (.b (eqb i.im 0#64)) = V))
  (l5 : (i.op == 10) = false → (i.op == 11) = false → (i.op == 12) = false → (i.op == 13) = false → (i.op == 14) = true → (i.s == -1) = true → (AV.c (.b true) = V))
  (l6 : (i.op == 10) = false → (i.op == 11) = false → (i.op == 12) = false → (i.op == 13) = false → (i.op == 14) = true → (i.s == -1) = false → (AV.c (.b (eqb i.im 0#64)) = V))
  (l7 : (i.op == 10) = false → (i.op == 11) = false → (i.op == 12) = false → (i.op == 13) = false → (i.op == 14) = false → (i.op == 15) = true → (AV.c (.b (eqCs i.cs (splice [.i 0, .i 0, .i 0, .u 0#64, .i 0] 0 [.i 15]))) = V))
  (l8 : (i.op == 10) = false → (i.op == 11) = false → (i.op == 12) = false → (i.op == 13) = false → (i.op == 14) = false → (i.op == 15) = false → (i.of == 0) = true → (i.s == -1) = true → (AV.c (.b true) = V))
  (l9 : (i.op == 10) = false → (i.op == 11) = false → (i.op == 12) = false → (i.op == 13) = false → (i.op == 14) = false → (i.op == 15) = false → (i.of == 0) = true → (i.s == -1) = false → (AV.c (.b (eqb i.im 0#64)) = V))
  (l10 : (i.op == 10) = false → (i.op == 11) = false → (i.op == 12) = false → (i.op == 13) = false → (i.op == 14) = false → (i.op == 15) = false → (i.of == 0) = false → (AV.c (.b false) = V)) :
  Ok 27 [.ag i.cs] V :=
 (tf (i.op == 10)).elim (fun h0 => (match l0 h0 with | e => ok_eq (bare_w0 (and_yes h0 (and_yes h0 rfl))) e)) (fun h0 => (tf (i.op == 11)).elim (fun h1 => (match l1 h0 h1 with | e => ok_eq (bare_w1 (and_yes (not_yes h0) (and_yes h1 rfl))) e)) (fun h1 => (tf (i.op == 12)).elim (fun h2 => (match l2 h0 h1 h2 with | e => ok_eq (bare_w2 (and_yes (not_yes h0) (and_yes (not_yes h1) (and_yes h2 rfl)))) e)) (fun h2 => (tf (i.op == 13)).elim (fun h3 => (tf (i.s == -1)).elim (fun h4 => (match l3 h0 h1 h2 h3 h4 with | e => ok_eq (bare_w3 (and_yes (not_yes h0) (and_yes (not_yes h1) (and_yes (not_yes h2) (and_yes h3 (and_yes h3 (and_yes h4 rfl))))))) e)) (fun h4 => (match l4 h0 h1 h2 h3 h4 with | e => ok_eq (bare_w4 (and_yes (not_yes h0) (and_yes (not_yes h1) (and_yes (not_yes h2) (and_yes h3 (and_yes h3 (and_yes (not_yes h4) rfl))))))) e))) (fun h3 => (tf (i.op == 14)).elim (fun h4 => (tf (i.s == -1)).elim (fun h5 => (match l5 h0 h1 h2 h3 h4 h5 with | e => ok_eq (bare_w5 (and_yes (not_yes h0) (and_yes (not_yes h1) (and_yes (not_yes h2) (and_yes (not_yes h3) (and_yes h4 (and_yes h5 rfl))))))) e)) (fun h5 => (match l6 h0 h1 h2 h3 h4 h5 with | e => ok_eq (bare_w6 (and_yes (not_yes h0) (and_yes (not_yes h1) (and_yes (not_yes h2) (and_yes (not_yes h3) (and_yes h4 (and_yes (not_yes h5) rfl))))))) e))) (fun h4 => (tf (i.op == 15)).elim (fun h5 => (match l7 h0 h1 h2 h3 h4 h5 with | e => ok_eq (bare_w7 (and_yes (not_yes h0) (and_yes (not_yes h1) (and_yes (not_yes h2) (and_yes (not_yes h3) (and_yes (not_yes h4) (and_yes h5 rfl))))))) e)) (fun h5 => (tf (i.of == 0)).elim (fun h6 => (tf (i.s == -1)).elim (fun h7 => (match l8 h0 h1 h2 h3 h4 h5 h6 h7 with | e => ok_eq (bare_w8 (and_yes (not_yes h0) (and_yes (not_yes h1) (and_yes (not_yes h2) (and_yes (not_yes h3) (and_yes (not_yes h4) (and_yes (not_yes h5) (and_yes h6 (and_yes h7 rfl))))))))) e)) (fun h7 => (match l9 h0 h1 h2 h3 h4 h5 h6 h7 with | e => ok_eq (bare_w9 (and_yes (not_yes h0) (and_yes (not_yes h1) (and_yes (not_yes h2) (and_yes (not_yes h3) (and_yes (not_yes h4) (and_yes (not_yes h5) (and_yes h6 (and_yes (not_yes h7) rfl))))))))) e))) (fun h6 => (match l10 h0 h1 h2 h3 h4 h5 h6 with | e => ok_eq (bare_w10 (and_yes (not_yes h0) (and_yes (not_yes h1) (and_yes (not_yes h2) (and_yes (not_yes h3) (and_yes (not_yes h4) (and_yes (not_yes h5) (and_yes (not_yes h6) rfl)))))))) e))))))))
end
theorem isReg_ok (d : Int) : Ok 49 [.c (.i d)] (.c (.b (regB d))) := by
 refine isReg_all ?_ ?_ <;> (intro h; rw [regB, h]; rfl)
theorem isSource_ok (d : Int) : Ok 52 [.c (.i d)] (.c (.b (srcB d))) := by
 refine isSource_all ?_ ?_
 ·intro h; simp_all [srcB]
 ·intro h; refine ⟨isReg_ok _, ?_⟩; simp_all [srcB]
theorem isSize_ok (d : BitVec 64) : Ok 50 [.c (.u d)] (.c (.b (sizeB d))) := by
 refine isSize_all ?_ ?_ ?_ ?_ <;> (intros; simp_all [sizeB])
theorem goesOn_ok (d n : Int) : Ok 51 [.c (.i d), .c (.i n)] (.c (.b (goesB d n))) := by
 refine goesOn_all ?_ ?_ <;> (intro h; rw [goesB, h]; rfl)
theorem inBounds_ok (i : Ins) (n : Int) : Ok 26 [.ag i.cs, .c (.i n)] (.c (.b (inB i n))) := by
 apply inBounds_all
 all_goals intros
 all_goals repeat' apply And.intro
 all_goals first
  | exact isReg_ok _
  | exact isSource_ok _
  | exact isSize_ok _
  | exact goesOn_ok _ _
  | (simp_all [inB]; try omega)
theorem bare_ok (i : Ins) : Ok 27 [.ag i.cs] (.c (.b (bareB i))) := by
 apply bare_all
 all_goals intros
 all_goals (simp_all [bareB, eqCs, eqC, splice, Ins.cs, Bool.and_assoc]; try rfl)
section
variable {m : Mach} {e o r op q j : Int} {x y : BitVec 64} {i : Ins} {V : AV} {t : ByteArray} {C : Cx} {R : Ending → World → Prop} {w : World} {β : Bs} {n : Nat} {E : Eff}
end
theorem wrapN {n : Int} (h0 : -1099511627776 ≤ n) (h1 : n ≤ 1099511627776) : IntKind.i64.wrap n = n := by
 rw [IntKind.wrap_i64]; omega
section
variable {L : List Ins} {c : Nat} {w : World} {β : Bs} {E : Eff}
abbrev ckKn (L : List Ins) (c a b d : Nat) (j : Int) : Kn := ⟨[(0, .c (.sl 0 0 L.length c)), (a, .c (.sl 0 0 L.length c)), (b, .c (.i L.length)), (d, .c (.i j))], pH L, 1⟩
theorem ckA_loop (hL : L.length ≤ 64) : ∀ n j : Nat, j + n = L.length → ((L.drop j).all kindB = false → ⟨.c (.i 4), [], none⟩ = E) →
  ((L.drop j).all kindB = true → ART Tryz.prog 10 (cx w β 1 []) Tryz.f10.ntmps (cutAt Tryz.f10 1) (ckKn L c 32 33 34 0) (REff w β E)) →
  ART Tryz.prog 10 (cx w β 1 []) Tryz.f10.ntmps (cutAt Tryz.f10 0) (ckKn L c 17 18 19 j) (REff w β E)
 | 0, j, h, hy, hz => by
  refine ckAx_w0 (by rw [jn (by omega)]; rfl) (low_p rfl) (fun _ h => h) (hz ?_)
  rw [List.drop_eq_nil_of_le (by omega)]; rfl
 | n + 1, j, h, hy, hz => by
  have hj : j < L.length := by omega
  rw [drop_elt hj, List.all_cons] at hy hz
  refine ckA_all (by omega) (fun a => ⟨jl hj, jl hj, pble hj, elt_eff hj, hy ?_⟩) (fun a b => ⟨jl hj, jl hj, pble hj, elt_eff hj, hy ?_⟩) (fun a b => ⟨jl hj, jl hj, pble hj, elt_eff hj, low_p rfl, ?_⟩)
  ·have : kindB (elt L j) = false := by simp at a; simp [kindB]; omega
   rw [this]; rfl
  ·have : kindB (elt L j) = false := by simp at b; simp [kindB]; omega
   rw [this]; rfl
  ·have : kindB (elt L j) = true := by simp at a b; simp [kindB]; omega
   rw [this] at hy hz
   rw [wrapS (by omega)]
   exact ckA_loop hL n (j + 1) (by omega) (fun h => hy h) (fun h => hz h)
theorem ckB_loop (hL : L.length ≤ 64) : ∀ n j : Nat, j + n = L.length → (inAll (L.drop j) = false → ⟨.c (.i 3), [], none⟩ = E) →
  (inAll (L.drop j) = true → ART Tryz.prog 10 (cx w β 1 []) Tryz.f10.ntmps (cutAt Tryz.f10 2) (ckKn L c 48 49 50 0) (REff w β E)) →
  ART Tryz.prog 10 (cx w β 1 []) Tryz.f10.ntmps (cutAt Tryz.f10 1) (ckKn L c 32 33 34 j) (REff w β E)
 | 0, j, h, hy, hz => by
  refine ckBx_w0 (by rw [jn (by omega)]; rfl) (low_p rfl) (fun _ h => h) (hz ?_)
  rw [List.drop_eq_nil_of_le (by omega)]; rfl
 | n + 1, j, h, hy, hz => by
  have hj : j < L.length := by omega
  have el : ((L.drop (j + 1)).length : Int) = ((L.length - 1 - j : Nat) : Int) := by rw [List.length_drop]; omega
  rw [drop_elt hj, inAll, el] at hy hz
  have ew : IntKind.wrap IntKind.i64 (IntKind.wrap IntKind.i64 ((L.length : Int) - 1) - (j : Int)) = ((L.length - 1 - j : Nat) : Int) := by
   rw [wrapN (n := (L.length : Int) - 1) (by omega) (by omega), wrapN (by omega) (by omega)]; omega
  have c1 : Eff.mk (AV.c (AC.i (IntKind.wrap IntKind.i64 (IntKind.wrap IntKind.i64 ((L.length : Int) - 1) - (j : Int))))) [] none = Eff.mk (AV.c (AC.i ((L.length - 1 - j : Nat) : Int))) [] none := by rw [ew]
  refine ckB_all (by omega) (fun a => ⟨jl hj, jl hj, pble hj, elt_eff hj, c1, inBounds_ok _ _, hy ?_⟩) (fun a => ⟨jl hj, jl hj, pble hj, elt_eff hj, c1, inBounds_ok _ _, low_p rfl, ?_⟩)
  ·have : inB (elt L j) ((L.length - 1 - j : Nat) : Int) = false := by simpa using a
   rw [this]; rfl
  ·have : inB (elt L j) ((L.length - 1 - j : Nat) : Int) = true := by simpa using a
   rw [this] at hy hz
   rw [wrapS (by omega)]
   exact ckB_loop hL n (j + 1) (by omega) (fun h => hy h) (fun h => hz h)
theorem lastOp_eff (h0 : 0 < L.length) (hL : L.length ≤ 64) : (pcell L)[0 + Int.toNat (IntKind.wrap IntKind.i64 ((L.length : Int) - 1)) * 5 + 0]? = some (.i (lastOp L)) := by
 rw [wrapN (by omega) (by omega), show (0 + ((L.length : Int) - 1).toNat * 5 + 0) = (L.length - 1) * 5 by omega]
 have h1 := pcell_op (L := L) (k := L.length - 1) (by omega) (.b false)
 have h2 : (L.length - 1) * 5 < (pcell L).length := by rw [pcell_length]; omega
 rw [List.getD_eq_getElem?_getD, List.getElem?_eq_getElem h2] at h1
 rw [List.getElem?_eq_getElem h2]
 refine congrArg some (h1.trans ?_)
 unfold lastOp elt
 rw [List.getLast?_eq_getElem?, List.getD_eq_getElem?_getD, List.getElem?_eq_getElem (by omega)]
 rfl
theorem ckC_loop (h0 : 0 < L.length) (hL : L.length ≤ 64) : ∀ n j : Nat, j + n = L.length → ((L.drop j).all bareB = false → ⟨.c (.i 1), [], none⟩ = E) →
  ((L.drop j).all bareB = true → ⟨.c (.i (if lastOp L ≠ 15 then 1 else 0)), [], none⟩ = E) →
  ART Tryz.prog 10 (cx w β 1 []) Tryz.f10.ntmps (cutAt Tryz.f10 2) (ckKn L c 48 49 50 j) (REff w β E)
 | 0, j, h, hy, hz => by
  have hz := hz (by rw [List.drop_eq_nil_of_le (by omega)]; rfl)
  have o0 : (!decide ((j : Int) < (L.length : Int))) = true := by rw [jn (by omega)]; rfl
  have o1 : (decide (0 ≤ IntKind.wrap IntKind.i64 ((L.length : Int) - 1)) && decide (IntKind.wrap IntKind.i64 ((L.length : Int) - 1) < (L.length : Int))) = true := by
   rw [wrapN (by omega) (by omega)]; simp; omega
  have o2 : (AC.isI (Option.getD (pcell L)[0 + Int.toNat (IntKind.wrap IntKind.i64 ((L.length : Int) - 1)) * 5 + 0]? (AC.b false)) && Nat.blt (0 + Int.toNat (IntKind.wrap IntKind.i64 ((L.length : Int) - 1)) * 5 + 0) (pcell L).length) = true := by
   rw [lastOp_eff h0 hL, wrapN (by omega) (by omega), pcell_length]; simp [AC.isI]; omega
  have c0 : Eff.mk (AV.c (AC.i (AC.asI (Option.getD (pcell L)[0 + Int.toNat (IntKind.wrap IntKind.i64 ((L.length : Int) - 1)) * 5 + 0]? (AC.b false))))) [] none = Eff.mk (AV.c (AC.i (lastOp L))) [] none := by rw [lastOp_eff h0 hL]; rfl
  refine ckCx_all (fun a => ⟨o0, o1, o2, c0, ?_⟩) (fun a => ⟨o0, o1, o2, c0, ?_⟩)
  ·rw [← hz, if_pos (by simpa using a)]
  ·rw [← hz, if_neg (by simpa using a)]
 | n + 1, j, h, hy, hz => by
  have hj : j < L.length := by omega
  rw [drop_elt hj, List.all_cons] at hy hz
  refine ckC_all (by omega) (fun a => ⟨jl hj, jl hj, pble hj, elt_eff hj, bare_ok _, hy ?_⟩) (fun a => ⟨jl hj, jl hj, pble hj, elt_eff hj, bare_ok _, low_p rfl, ?_⟩)
  ·have : bareB (elt L j) = false := by simpa using a
   rw [this]; rfl
  ·have : bareB (elt L j) = true := by simpa using a
   rw [this] at hy hz
   rw [wrapS (by omega)]
   exact ckC_loop h0 hL n (j + 1) (by omega) (fun h => hy h) (fun h => hz h)
end
theorem check_ok (L : List Ins) (c : Nat) : CallOK Tryz.prog ⟨10, [.c (.sl 0 0 L.length c)], pH L, ⟨.c (.i (codeErr L)), [], none⟩⟩ := by
 refine read_of Tryz.func10 rfl rfl (begin_p rfl) rfl ro_p fun w β => ?_
 refine ckTop_all (Nat.le_refl 1) (fun a => ?_) (fun a b => ?_) (fun a b => ⟨low_p rfl, ?_⟩)
 ·unfold codeErr
  rw [if_pos (Or.inl (by simpa using a))]
 ·unfold codeErr
  rw [if_pos (Or.inr (by simp at b; omega))]
 ·have h0 : 0 < L.length := by
   have : ¬ ((L.length : Int) = 0) := by simpa using a
   omega
  have h1 : L.length ≤ 64 := by simp at b; omega
  unfold codeErr
  rw [if_neg (by omega)]
  refine ckA_loop h1 L.length 0 (by omega) (fun h => ?_) (fun h => ?_)
  ·rw [if_pos (by simpa using h)]
  ·rw [if_neg (by simpa using h)]
   refine ckB_loop h1 L.length 0 (by omega) (fun h => ?_) (fun h => ?_)
   ·rw [if_pos (by simpa using h)]
   ·rw [if_neg (by simpa using h)]
    refine ckC_loop h0 h1 L.length 0 (by omega) (fun h => ?_) (fun h => ?_)
    ·rw [if_pos (by simpa using h)]
    ·have e : ¬ (L.all bareB = false) := by simpa using h
     rw [if_neg e]
theorem check_nil : Ok 10 [.c nilSl] (.c (.i (codeErr []))) := ckNil_w0
end Go.Proofs.YtkigmocchaikgaaGreatDoor
/- A program as a text: Show. -/
namespace Go.Proofs.YtkigmocchaikgaaGreatDoor
open Go.Shelf Go.RowKit Go.Sort Go.Lib
def lineW (i : Ins) (ps : List Int) : List UInt8 := ps.flatMap fun p => 32 :: wordW i p
def lineOf (i : Ins) : List UInt8 := nmL (i.op - 1).toNat ++ lineW i (plcs i.op) ++ [10]
def shown (L : List Ins) : List UInt8 := L.flatMap lineOf
/- what a right step's fields are -/
structure Fld (i : Ins) : Prop where
 o1 : 1 ≤ i.op
 o2 : i.op ≤ 15
 d : -64 ≤ i.d ∧ i.d ≤ 64
 s : -64 ≤ i.s ∧ i.s ≤ 64
 f : -64 ≤ i.of ∧ i.of ≤ 64
theorem calls_readV {P : Program} {f : FuncId} {A : Array Value} {args : List AV} {L : List Ins} {W : World} {b o c : Nat} {v : AV} {V : Value} (hP : PAt W b o L) (hA : (args.map (AV.g (fun _ => (b, o, c)))).toArray = A) (hV : ∀ β, v.g β = V) (h : CallOK P ⟨f, args, pH L, ⟨v, [], none⟩⟩) (hw : Gw W) :
  Calls P f A W fun e w' => e = .returned V ∧ Below W.heap.size W w' := by
 have := h.call (fun _ => (b, o, c)) W hw (fun k e he hw => by rw [ro_p k e he] at hw; cases hw) (fun k e he => ?_) (fun k e _ _ he _ _ hw => ?_)
 ·rw [← hA]
  refine this.mono fun e w' ⟨β', he, hu⟩ => ⟨by rw [he, ← hV β'], ?_⟩
  exact ⟨hu.frame.os, hu.frame.tape, hu.frame.output, hu.frame.size, fun k hk => hu.frame.block k hk fun ⟨_, _, hm, _⟩ => by cases hm⟩
 ·obtain ⟨rfl, rfl⟩ := pH_look he
  exact ⟨hP.1, fun j c hj => hP.2 j c hj _, (fun h => by cases h), fun h => absurd rfl h⟩
 ·rw [ro_p k e he] at hw; cases hw
theorem bld_new (w : World) : Bld w.heap.size w.heap.size [] (w.alloc (.cells #[.pointer none, .slice none 0 0] TB (0, 0))) :=
 Or.inl ⟨Nat.le_refl _, .slice none 0 0, heap_new _ _, ⟨rfl, .inl ⟨rfl, rfl⟩⟩, by simp [Value.ownBlock]⟩
theorem grown_of_below {w w' : World} (h : Below w.heap.size w w') : w.grownBy w' none := ⟨h.os, h.tape, h.output, h.size, fun k hk _ => h.block k hk⟩
theorem at_below {b : Nat} {p : Value} {l : List Value} {w w' : World} {B : Nat} (h : BuilderAtF TB T8 B b p l w) (hb : Below w.heap.size w w') : BuilderAtF TB T8 B b p l w' := by
 have hlt := h.lt
 obtain ⟨hB, v, hk, hown, hne⟩ := h
 exact ⟨hB, v, (hb.block b hlt).trans hk, hown.kept (grown_of_below hb) (by cases hv : v.ownBlock <;> simp), hne⟩
theorem bld_below {b : Nat} {l : List UInt8} {w w' : World} {B : Nat} (h : Bld B b l w) (hb : Below w.heap.size w w') : Bld B b l w' :=
 h.imp (fun h => at_below h hb) fun h => at_below h hb
abbrev T36 : TypeId := 39
/- under way: the text so far in the builder, the names in their block -/
structure Sh (B bn : Nat) (A : Array Value) (w1 : World) (l : List UInt8) (w : World) : Prop where
 bld : Bld B B l w
 nm : w.heap[bn]? = some (.cells A T36 (0, 0))
 bel : Below B w1 w
 ne : bn ≠ B
 le : B ≤ w.heap.size
theorem Sh.below {B bn : Nat} {A : Array Value} {w1 w w' : World} {l : List UInt8} (h : Sh B bn A w1 l w) (hb : Below w.heap.size w w') : Sh B bn A w1 l w' :=
 ⟨bld_below h.bld hb, (hb.block bn (Array.getElem?_eq_some_iff.1 h.nm).1).trans h.nm, h.bel.trans (hb.mono h.le), h.ne, Nat.le_trans h.le hb.size⟩
theorem Sh.lt {B bn : Nat} {A : Array Value} {w1 w : World} {l : List UInt8} (h : Sh B bn A w1 l w) : B < w.heap.size := by
 rcases h.bld with h | h <;> exact h.lt
theorem nm_len (k : Nat) : (nmL k).length ≤ 5 := by
 by_cases h : k < 15
 ·have : ∀ k, k < 15 → (nmL k).length ≤ 5 := by decide
  exact this k h
 ·have : nmL k = [] := by unfold nmL; rw [List.getD_eq_getElem?_getD, List.getElem?_eq_none (by show oNames.length ≤ k; have : oNames.length = 15 := rfl; omega)]; rfl
  rw [this]; simp
theorem Sh.wrote {B bn : Nat} {A : Array Value} {w1 w w' : World} {l l' : List UInt8} (h : Sh B bn A w1 l w) (h1 : Bld B B l' w') (h2 : Below B w w') (h3 : Aside B w w') : Sh B bn A w1 l' w' :=
 ⟨h1, h3 _ _ h.nm (by simpa using h.ne) (fun _ _ e => by cases e), h.bel.trans h2, h.ne, Nat.le_trans h.le h2.size⟩
theorem plc_mem {op p : Int} (h : p ∈ plcs op) : plc p := by
 unfold plcs at h
 repeat' split at h
 all_goals (simp at h; try (unfold plc; omega))
theorem plcs_len (op : Int) : (plcs op).length ≤ 4 := by
 unfold plcs
 repeat' split
 all_goals decide
theorem word_len {i : Ins} (h : Fld i) (p : Int) : (wordW i p).length ≤ 22 := by
 have h1 := Lib.itoa_length_le i.d (by have := h.d; omega) (by have := h.d; omega)
 have h2 := Lib.itoa_length_le i.s (by have := h.s; omega) (by have := h.s; omega)
 have h3 := Lib.itoa_length_le i.of (by have := h.f; omega) (by have := h.f; omega)
 have h4 : (decDigits i.im.toNat).length ≤ 20 := by rw [decDigits_length]; exact nDigits_le20 _ (by have := i.im.isLt; omega)
 unfold wordW
 repeat' split
 all_goals (try simp only [List.length_cons]); omega
theorem lineW_len {i : Ins} (h : Fld i) : ∀ ps : List Int, (lineW i ps).length ≤ 23 * ps.length
 | [] => by simp [lineW]
 | p :: ps => by
  have h1 := word_len h p
  have h2 := lineW_len h ps
  have e : (lineW i (p :: ps)).length = (wordW i p).length + 1 + (lineW i ps).length := by simp [lineW, List.flatMap_cons]; omega
  rw [e, List.length_cons]; omega
theorem lineOf_len {i : Ins} (h : Fld i) : (lineOf i).length ≤ 98 := by
 have h1 := nm_len (i.op - 1).toNat
 have h2 := lineW_len h (plcs i.op)
 have h3 := plcs_len i.op
 simp only [lineOf, List.length_append, List.length_cons, List.length_nil]; omega
theorem shown_len : ∀ {L : List Ins}, (∀ i ∈ L, Fld i) → (shown L).length ≤ 98 * L.length
 | [], _ => by simp [shown]
 | i :: L, h => by
  have h1 := lineOf_len (h i (by simp))
  have h2 := shown_len (L := L) fun x hx => h x (by simp [hx])
  have e : (shown (i :: L)).length = (lineOf i).length + (shown L).length := by simp [shown, List.flatMap_cons]
  rw [e, List.length_cons]; omega
theorem take_len (ps : List Int) (m : Nat) (h : ps.length ≤ 4) : (ps.take m).length ≤ 4 := by rw [List.length_take]; omega
theorem pcell_get? {L : List Ins} {j t : Nat} {i : Ins} (h : L[j]? = some i) (ht : t < 5) : (pcell L)[j * 5 + t]? = i.cs[t]? := by
 have hj : j < L.length := (List.getElem?_eq_some_iff.1 h).1
 have hl := pcell_length L
 rw [List.getElem?_eq_getElem (by omega), List.getElem?_eq_getElem (show t < i.cs.length from ht)]
 have h1 := pcell_get hj ht (.b false)
 rw [List.getD_eq_getElem?_getD, List.getElem?_eq_getElem (by omega), List.getD_eq_getElem?_getD (l := L), h, Option.getD_some, Option.getD_some, List.getD_eq_getElem?_getD, List.getElem?_eq_getElem (show t < i.cs.length from ht)] at h1
 simpa using h1
theorem take_more {α : Type} {l : List α} {n : Nat} {x : α} (h : l[n]? = some x) : l.take (n + 1) = l.take n ++ [x] := by
 rw [List.take_add_one, h]; rfl
abbrev icells (i : Ins) : Array Value := #[.int .i64 i.op, .int .i64 i.d, .int .i64 i.s, .int .u64 (nv i.im), .int .i64 i.of]
set_option maxHeartbeats 1000000 in
set_option maxRecDepth 100000 in
theorem show_calls {L : List Ins} {w : World} {b o c : Nat} (hP : PAt w b o L) (hg : Gw w) (hL : L.length ≤ 64) (he : codeErr L = 0) (hF : ∀ i ∈ L, Fld i) :
  Calls Tryz.prog 4 #[.slice (some ⟨b, o, none⟩) L.length c] w fun e w' => e = .returned (.tuple #[.string ⟨(shown L).toArray⟩, .int .i64 0]) ∧ Below w.heap.size w w' := by
 have hck := calls_readV (c := c) (A := #[.slice (some ⟨b, o, none⟩) L.length c]) hP rfl (fun _ => rfl) (check_ok L c) hg
 rw [he] at hck
 obtain ⟨A, hA, hA1, hA2⟩ : ∃ A, A = nmArr (fun _ => false) ∧ A.size = 16 ∧ A.all (·.oneCell') = true := ⟨_, rfl, nm_size _, by kernel_rfl⟩
 have hnb : ∀ w, Calls Tryz.prog 12 #[] w fun e w' => e = .returned (.agg A) ∧ Below w.heap.size w w' := fun w => by rw [hA]; exact namesByOp_ok w
 have hnm : ∀ i : Ins, Fld i → A[i.op.toNat]? = some (.string ⟨(nmL (i.op - 1).toNat).toArray⟩) := fun i hi => by
  rw [hA, nm_at _ _ (by have := hi.o2; omega)]
  obtain ⟨k, hk⟩ : ∃ k : Nat, i.op = (k : Int) + 1 := ⟨(i.op - 1).toNat, by have := hi.o1; omega⟩
  rw [hk, show ((k : Int) + 1).toNat = k + 1 by omega, show ((k : Int) + 1 - 1).toNat = k by omega]
  rfl
 have HNM := Lib.hid hnm
 clear hA hnm
 go_enter Tryz.func4, Tryz.ntmps4
 go_wp2_with (first
  | (go_at_call 10; refine hck.mono ?_; rintro e w1 ⟨rfl, hb1⟩)
  | (go_at_call 12; refine (hnb _).mono ?_; rintro e w2 ⟨rfl, hb2⟩)
  | (refine wpList_store_row rfl T36 _ _ rfl w2.heap.size A rfl rfl T36 (Array.replicate 16 (.string ⟨#[]⟩)) (heap_new _ _) (by rw [hA1]; exact info16) (by simp [hA1]) hA2 ?_)
  | go_in)
 have hsz : w.heap.size ≤ w1.heap.size := hb1.size
 have hB2 : Below w1.heap.size w1 w2 := below_alloc1 hb2
 have hg1 : Gw w1 := hg.below hb1 hg.size'
 have h0 : Sh w1.heap.size w2.heap.size A w1 [] ((w2.alloc (.cells (Array.replicate 16 (.string ⟨#[]⟩)) T36 (0, 0))).setRow w2.heap.size A) := by
  have hlt : w1.heap.size < w2.heap.size := Nat.lt_of_lt_of_le (by simp) hb2.size
  refine ⟨bld_below (bld_new w1) (below_setRow (hb2.trans ((below_alloc w2 _).mono hb2.size)) hb2.size A), setRow_heap _ _ _ _ _ _ (heap_new _ _), below_setRow (hB2.trans ((below_alloc w2 _).mono hB2.size)) hB2.size A, by omega, ?_⟩
  simp; omega
 have hcell : ∀ wr j i, Below w1.heap.size w1 wr → L[j]? = some i → ∀ t v, (icells i)[t]? = some v → wr.cell? ⟨b, o + j * 5 + t, none⟩ = some v := by
  intro wr j i hbel hi t v ht
  have ht5 : t < 5 := by
   have := (Array.getElem?_eq_some_iff.1 ht).1
   simpa using this
  rw [hbel.cell (p := ⟨b, o + j * 5 + t, none⟩) (Nat.lt_of_lt_of_le hP.1 hsz), hb1.cell (p := ⟨b, o + j * 5 + t, none⟩) hP.1, Nat.add_assoc]
  obtain ⟨y, hy⟩ : ∃ y, i.cs[t]? = some y := ⟨_, List.getElem?_eq_getElem (show t < i.cs.length from ht5)⟩
  rw [hP.2 _ y ((pcell_get? hi ht5).trans hy) (fun _ => (0, 0, 0))]
  rw [← ht]
  match t, ht5, hy with
  | 0, _, hy => simp [Ins.cs] at hy; subst hy; rfl
  | 1, _, hy => simp [Ins.cs] at hy; subst hy; rfl
  | 2, _, hy => simp [Ins.cs] at hy; subst hy; rfl
  | 3, _, hy => simp [Ins.cs] at hy; subst hy; rfl
  | 4, _, hy => simp [Ins.cs] at hy; subst hy; rfl
 have HC := Lib.hid hcell
 have HP := Lib.hid hP
 have HF := Lib.hid hF
 clear hcell hck hP hF
 generalize hB : w1.heap.size = B at *
 generalize hbn : w2.heap.size = bn at *
 go_loopw [19] (fun v wr => ∃ j : Nat, j ≤ L.length ∧ v = .int .i64 j ∧ Sh B bn A w1 (shown (L.take j)) wr) (fun v _ => L.length - (RowKit.intOf v).toNat)
 case atStart => exact ⟨0, by omega, rfl, h0⟩
 case round =>
  obtain ⟨j, hj, rfl, hsh⟩ := hrel
  by_cases hjl : j < L.length
  ·obtain ⟨wo, rfl⟩ : ∃ x, x = wr := ⟨_, rfl⟩
   obtain ⟨i, hi⟩ : ∃ i, L[j]? = some i := ⟨L[j], by simp [hjl]⟩
   have hfi : Fld i := HF.out i (List.mem_of_getElem? hi)
   have q0 : wo.cell? ⟨b, o + j * 5, none⟩ = some (.int .i64 i.op) := HC.out wo j i hsh.bel hi 0 _ rfl
   have q1 : wo.cell? ⟨b, o + j * 5 + 1, none⟩ = some (.int .i64 i.d) := HC.out wo j i hsh.bel hi 1 _ rfl
   have q2 : wo.cell? ⟨b, o + j * 5 + 2, none⟩ = some (.int .i64 i.s) := HC.out wo j i hsh.bel hi 2 _ rfl
   have q3 : wo.cell? ⟨b, o + j * 5 + 3, none⟩ = some (.int .u64 (nv i.im)) := HC.out wo j i hsh.bel hi 3 _ rfl
   have q4 : wo.cell? ⟨b, o + j * 5 + 4, none⟩ = some (.int .i64 i.of) := HC.out wo j i hsh.bel hi 4 _ rfl
   have hnml := cell_of_row wo bn i.op.toNat _ _ _ hsh.nm
   rw [HNM.out i hfi] at hnml
   have hbn2 : bn < wo.heap.size := (Array.getElem?_eq_some_iff.1 hsh.nm).1
   have hb2' : b < wo.heap.size := by have h1 := HP.out.1; have h2 := hsh.lt; omega
   have ho1 := hfi.o1
   have ho2 := hfi.o2
   obtain ⟨op, hop⟩ : ∃ k : Nat, i.op = (k : Int) := ⟨i.op.toNat, by omega⟩
   rw [hop] at q0 ho1 ho2
   rw [hop, Int.toNat_natCast] at hnml
   have hl0 : (shown (L.take j)).length ≤ 6400 := by have h1 := shown_len (L := L.take j) (fun x hx => HF.out x (List.mem_of_mem_take hx)); rw [List.length_take] at h1; omega
   have hnl := nm_len (op - 1)
   have hBl := hsh.lt
   have hsh1 : ∀ ob, Sh B bn A w1 (shown (L.take j)) (wo.alloc ob) := fun ob => hsh.below (below_alloc _ _)
   have HS1 := Lib.hid hsh1
   have HG := Lib.hid hg1
   clear hsh1 hg1
   go_wp2_with (first
    | (go_at_call 13; refine (writeString_ok (HS1.out _).bld _ (by simp only [ByteArray.size, List.size_toArray]; omega) (HS1.out _).le).mono ?_; rintro e w4 ⟨rfl, hb4, hbl4, ha4⟩; have hsh4 := (HS1.out _).wrote hb4 hbl4 ha4; have hi4 := ha4 _ _ (heap_new _ _) (by simp; omega) (fun _ _ e => by cases e); have c4 := cell_of_row w4 wo.heap.size 0 _ _ _ hi4; have hlt4 := (Array.getElem?_eq_some_iff.1 hi4).1; clear ha4 hb4 hbl4)
    | (go_at_call 14; refine (placesOf_ok _ _).mono ?_; rintro e w5 ⟨a, rfl, hpl, hb5⟩)
    | go_in)
   have hsh5 := hsh4.below hb5
   have hi5 := (hb5.block _ hlt4).trans hi4
   generalize hgg : w4.heap.size = g at *
   generalize hgi : wo.heap.size = gi at *
   clear hi4 c4 hsh4 q0 q1 q2 q3 q4 hnml
   go_loopw [32] (fun v wr => ∃ m : Nat, m ≤ (plcs (op : Int)).length ∧ v = .int .i64 m ∧ Sh B bn A w1 (shown (L.take j) ++ nmL (op - 1) ++ lineW i ((plcs (op : Int)).take m)) wr ∧ PlAt (op : Int) a g wr ∧ wr.heap[gi]? = some (.cells #[.int .i64 (op : Int), .int .i64 i.d, .int .i64 i.s, .int .u64 (nv i.im), .int .i64 i.of] 43 (0, 0))) (fun v _ => (plcs (op : Int)).length - (RowKit.intOf v).toNat)
   case atStart => exact ⟨0, by omega, rfl, by simpa [lineW] using hsh5, hpl, hi5⟩
   case round =>
    obtain ⟨m, hm, rfl, hshr, hplr, hir⟩ := hrel
    have hl1 : (shown (L.take j) ++ nmL (op - 1) ++ lineW i ((plcs (op : Int)).take m)).length ≤ 7000 := by have h1 := lineW_len hfi ((plcs (op : Int)).take m); have h2 := take_len (plcs (op : Int)) m (plcs_len _); simp only [List.length_append]; omega
    have hp4 := plcs_len (op : Int)
    by_cases hml : m < (plcs (op : Int)).length
    ·obtain ⟨p, hp⟩ : ∃ p, (plcs (op : Int))[m]? = some p := ⟨(plcs (op : Int))[m], by simp [hml]⟩
     obtain ⟨rfl, hgr⟩ := hplr (by intro e; rw [e] at hml; simp at hml)
     have hcp : wr.cell? ⟨g, m, none⟩ = some (.int .i64 p) := by rw [cell_of_row wr g m _ _ _ hgr]; simp [hp]
     have hpp : plc p := plc_mem (List.mem_of_getElem? hp)
     have hwl := word_len hfi p
     obtain ⟨W, hW⟩ : ∃ W, W = wordW i p := ⟨_, rfl⟩
     have hwa : ∀ w, Gw w → Calls Tryz.prog 16 #[.int .i64 p, .agg #[.int .i64 (op : Int), .int .i64 i.d, .int .i64 i.s, .int .u64 (nv i.im), .int .i64 i.of]] w fun e w' => e = .returned (.string ⟨W.toArray⟩) ∧ Below w.heap.size w w' := fun w hw => by
      rw [hW, ← hop]; exact calls_of_ok (fun _ => (0, 0, 0)) rfl (fun _ => rfl) (wordAt_ok hpp (by have := hfi.d; omega) (by have := hfi.s; omega) (by have := hfi.f; omega)) w hw
     rw [← hW] at hwl
     have HW := Lib.hid hW
     have HM := Lib.hid hml
     have hgB : ∀ w', Below B w1 w' → Gw w' := fun w' h => HG.out.below h (by have := HG.out.size'; omega)
     have HGB := Lib.hid hgB
     clear hW hgB
     clear hpl h0 hb5 hi5 hsh5
     go_wp2_with (first
      | (go_at_call 15; refine (writeByte_ok hshr.bld 32 (by omega) hshr.le).mono ?_; rintro e w6 ⟨rfl, hb6, hbl6, ha6⟩; have hsh6 := hshr.wrote hb6 hbl6 ha6; have hi6 := ha6 _ _ hir (by simp; omega) (fun _ _ e => by cases e); have hg6 := ha6 _ _ hgr (by simp; omega) (fun _ _ e => by cases e); have d0 := cell_of_row w6 gi 0 _ _ _ hi6; have d1 := cell_of_row w6 gi 1 _ _ _ hi6; have d2 := cell_of_row w6 gi 2 _ _ _ hi6; have d3 := cell_of_row w6 gi 3 _ _ _ hi6; have d4 := cell_of_row w6 gi 4 _ _ _ hi6; have HG6 := Lib.hid (HGB.out _ hsh6.bel); clear hb6 hbl6 ha6)
      | (go_at_call 16; refine (hwa _ HG6.out).mono ?_; rintro e w7 ⟨rfl, hb7⟩; have hsh7 := hsh6.below hb7)
      | (go_at_call 13; refine (writeString_ok hsh7.bld _ (by simp only [ByteArray.size, List.size_toArray, List.length_append, List.length_cons, List.length_nil] at hl1 ⊢; omega) hsh7.le).mono ?_; rintro e w8 ⟨rfl, hb8, hbl8, ha8⟩)
      | go_in)
     have hlt7 : gi < w6.heap.size := (Array.getElem?_eq_some_iff.1 hi6).1
     have hlt8 : g < w6.heap.size := (Array.getElem?_eq_some_iff.1 hg6).1
     have hsh8 := hsh7.wrote hb8 hbl8 ha8
     have hi8 := ha8 _ _ ((hb7.block _ hlt7).trans hi6) (by simp; omega) (fun _ _ e => by cases e)
     have hg8 := ha8 _ _ ((hb7.block _ hlt8).trans hg6) (by simp; omega) (fun _ _ e => by cases e)
     have et : shown (L.take j) ++ nmL (op - 1) ++ lineW i ((plcs (op : Int)).take m) ++ [32] ++ W = shown (L.take j) ++ nmL (op - 1) ++ lineW i ((plcs (op : Int)).take (m + 1)) := by
      rw [HW.out, take_more hp, lineW, lineW, List.flatMap_append]
      simp
     go_roundw
     case rel => exact ⟨m + 1, HM.out, by go_num, by rw [← et]; exact hsh8, fun _ => ⟨rfl, hg8⟩, hi8⟩
     case measure => have := HM.out; simp [RowKit.intOf]; omega
    ·obtain rfl : m = (plcs (op : Int)).length := by omega
     rw [List.take_length] at hshr hl1
     clear hpl h0 hb5 hi5 hsh5
     go_wp2_with (first
      | (go_at_call 15; refine (writeByte_ok hshr.bld 10 (by omega) hshr.le).mono ?_; rintro e w6 ⟨rfl, hb6, hbl6, ha6⟩)
      | go_in)
     have et : shown (L.take j) ++ nmL (op - 1) ++ lineW i (plcs (op : Int)) ++ [10] = shown (L.take (j + 1)) := by
      rw [take_more hi, shown, shown, List.flatMap_append]
      simp [lineOf, hop]
     go_roundw
     case rel => exact ⟨j + 1, by omega, by go_num, by rw [← et]; exact hshr.wrote hb6 hbl6 ha6⟩
     case measure => simp [RowKit.intOf]; omega
  ·obtain rfl : j = L.length := by omega
   have hbld := hsh.bld
   rw [List.take_length] at hbld
   have hle := hsh.le
   go_wp2_with (go_at_call 17; refine (Tryz.Builder_String_any_k B B (shown L) _ hbld hle).mono ?_; rintro e w9 ⟨rfl, hb9, hbl9, ha9⟩)
   go_ret2
   exact ⟨rfl, hb1.trans ((hsh.bel.trans hbl9).mono hsz)⟩
end Go.Proofs.YtkigmocchaikgaaGreatDoor
/- The step of a line: readLine. -/
namespace Go.Proofs.YtkigmocchaikgaaGreatDoor
open Go.Shelf Go.RowKit Go.Sort Go.Lib Go.Maps
def wordsOf (s : ByteArray) (c : UInt8) : List ByteArray := splitB ⟨#[c]⟩ 0 (countB s ⟨#[c]⟩) s
def rdFold (i : Ins) : List Int → List ByteArray → Option Ins
 | p :: ps, x :: xs => match setW i p x with | some i' => rdFold i' ps xs | none => none
 | _, _ => some i
def rdWords (ws : List ByteArray) : Option Ins :=
 match oFind (ws.headD ⟨#[]⟩).data.toList with
 | none => none
 | some k => if ws.length = 1 + (plcs ((k : Int) + 1)).length then rdFold ⟨(k : Int) + 1, 0, 0, 0, 0⟩ (plcs ((k : Int) + 1)) ws.tail else none
def rdLine (s : ByteArray) : Option Ins := rdWords (wordsOf s 32)
theorem words_len (s : ByteArray) (c : UInt8) : (wordsOf s c).length = countB s ⟨#[c]⟩ + 1 := splitB_all _ (by show 1 ≤ (#[c] : Array UInt8).size; simp) 0 _ s rfl
theorem split_size (sep : ByteArray) : ∀ (k : Nat) (s : ByteArray), ∀ x ∈ splitB sep 0 k s, x.size ≤ s.size
 | 0, s, x, hx => by simp [splitB] at hx; subst hx; exact Nat.le_refl _
 | k + 1, s, x, hx => by
  unfold splitB at hx
  split at hx
  ·simp at hx; subst hx; exact Nat.le_refl _
  ·rw [List.mem_cons] at hx
   rcases hx with rfl | hx
   ·rw [ByteArray.size_extract]; omega
   ·have := split_size sep k _ x hx
    rw [ByteArray.size_extract] at this; omega
theorem drop_get {α : Type} {l : List α} {n : Nat} {x : α} (h : l[n]? = some x) : l.drop n = x :: l.drop (n + 1) := by
 obtain ⟨hlt, rfl⟩ := List.getElem?_eq_some_iff.1 h
 exact List.drop_eq_getElem_cons hlt
abbrev set5 (w : World) (g : Nat) (i : Ins) : World := ((((w.setCell ⟨g, 0, none⟩ (.int .i64 i.op)).setCell ⟨g, 1, none⟩ (.int .i64 i.d)).setCell ⟨g, 2, none⟩ (.int .i64 i.s)).setCell ⟨g, 3, none⟩ (.int .u64 (nv i.im))).setCell ⟨g, 4, none⟩ (.int .i64 i.of)
theorem set5_other (w : World) (g : Nat) (i : Ins) (X : Nat) (h : X ≠ g) : (set5 w g i).heap[X]? = w.heap[X]? := by
 rw [heap_setCell_other _ _ _ _ h, heap_setCell_other _ _ _ _ h, heap_setCell_other _ _ _ _ h, heap_setCell_other _ _ _ _ h, heap_setCell_other _ _ _ _ h]
theorem set5_below {B : Nat} {w w' : World} (h : Below B w w') {g : Nat} (hg : B ≤ g) (i : Ins) : Below B w (set5 w' g i) :=
 ((((h.setCell hg _).setCell hg _).setCell hg _).setCell hg _).setCell hg _
theorem set5_same (w : World) (g : Nat) (i : Ins) (cs : Array Value) {t : TypeId} (h : w.heap[g]? = some (.cells cs t (0, 0))) (hc : cs.size = 5) : (set5 w g i).heap[g]? = some (.cells (icells i) t (0, 0)) := by
 rw [heap_setCell_same _ _ _ _ _ _ (heap_setCell_same _ _ _ _ _ _ (heap_setCell_same _ _ _ _ _ _ (heap_setCell_same _ _ _ _ _ _ (heap_setCell_same _ _ _ _ _ _ h))))]
 obtain ⟨l⟩ := cs
 match l, hc with
 | [a, b, c, d, e], _ => rfl
theorem icells_one (i : Ins) : (icells i).all (·.oneCell') = true := by
 simp [Value.oneCell']
theorem info5 : (Tryz.prog.info? 43).map (·.size) = some 5 := by kernel_rfl
abbrev T40 : TypeId := 43
set_option maxHeartbeats 1000000 in
set_option maxRecDepth 100000 in
theorem readLine_ok {s : ByteArray} (hs : s.size ≤ 4096) {w : World} {bm : Nat} (hm : MapIs w bm opsD) (hg : Gw w) : Calls Tryz.prog 44 #[.map (some bm), .string s] w (Done w ((rdLine s).map Ins.v)) := by
 obtain ⟨mm, hmm⟩ := hg.most
 have hg4 : ∀ ob, (w.alloc ob).cell? ⟨1, 0, none⟩ = some (.int .i64 mm) := fun ob => by rw [(below_alloc w ob).cell (p := ⟨1, 0, none⟩) (Nat.lt_of_lt_of_le (by show 1 < 8; omega) hg.size')]; exact hmm
 obtain ⟨ws, hws⟩ : ∃ ws, ws = wordsOf s 32 := ⟨_, rfl⟩
 have hwl := words_len s 32
 rw [← hws] at hwl
 have hsp : ∀ W : World, W.cell? ⟨1, 0, none⟩ = some (.int .i64 mm) → Calls Tryz.prog 42 #[.string s, .string ⟨#[32]⟩] W fun e w' => e = .returned (.slice (some ⟨W.heap.size, 0, none⟩) ws.length ws.length) ∧ w' = W.alloc (.cells (ws.map Value.string).toArray 9 (0, 0)) := fun W hW => by
  have := Tryz.strings_Split s ⟨#[32]⟩ mm W (by omega) hW (by show 1 ≤ (#[32] : Array UInt8).size; simp)
  rw [hwl, hws]; exact this
 have hw4 : ∀ x ∈ ws, x.size ≤ 4096 := fun x hx => by rw [hws] at hx; exact Nat.le_trans (split_size _ _ _ x hx) hs
 have hrd : rdLine s = rdWords ws := by rw [hws]; rfl
 rw [hrd]
 clear hrd hws
 obtain ⟨x0, wt, rfl⟩ : ∃ x0 wt, ws = x0 :: wt := by cases ws with | nil => simp at hwl | cons a b => exact ⟨_, _, rfl⟩
 have hx0 : x0.size ≤ 4096 := hw4 x0 (by simp)
 have HWL := Lib.hid hwl
 have HW4 := Lib.hid hw4
 clear hwl hw4
 obtain ⟨ob, hob⟩ : ∃ ob, ob = Obj.cells #[.int .i64 0, .int .i64 0, .int .i64 0, .int .u64 0, .int .i64 0] T40 (0, 0) := ⟨_, rfl⟩
 unfold rdWords
 simp only [List.headD_cons, List.tail_cons]
 cases hf : oFind x0.data.toList with
 | none =>
  go_enter Tryz.func44, Tryz.ntmps44
  go_wp2_with (first
   | (go_at_call 42; refine (hsp _ (hg4 _)).mono ?_; rintro e w1 ⟨rfl, rfl⟩)
   | (at_lookup; refine wpList_lookup_own_ok_int _ rfl _ _ 62 rfl 9 3 .i64 law Tryz.underlying62 Tryz.underlying3 (zeroE _) bm 15 opsD rfl ((hm.alloc _).alloc _) _ _ rfl (Go.WideMaps.keyOf_string_mk Tryz.underlying9 (by unfold maxLen; omega)) ?_; intro c hc hcw; rw [at_ops, hf] at hc; rw [has_ops, hf])
   | (go_at_call 14; refine (placesOf_ok _ _).mono ?_; rintro e w2 ⟨a, rfl, hpl, hb2⟩)
   | (go_at_call 58; refine (must_no _).mono ?_; rintro e w3 ⟨rfl, rfl⟩)
   | go_in)
  exact ⟨rfl, rfl, below_alloc1 (below_alloc1 hb2)⟩
 | some k =>
  obtain ⟨hk, hxk⟩ := oFind_some hf
  simp only
  by_cases hn : (x0 :: wt).length = 1 + (plcs ((k : Int) + 1)).length
  ·rw [if_pos hn]
   have hne : ((wt.length : Int) + 1 == 1 + ((plcs ((k : Int) + 1)).length : Int)) = true := beq_iff_eq.2 (by simp only [List.length_cons] at hn; omega)
   have hwn : wt.length = (plcs ((k : Int) + 1)).length := by simp only [List.length_cons] at hn; omega
   have HF := Lib.hid hf
   have HNE := Lib.hid hne
   have HX := Lib.hid hxk
   have HWN := Lib.hid hwn
   clear hne hf hxk hn hob hwn
   have hp4 := plcs_len ((k : Int) + 1)
   go_enter Tryz.func44, Tryz.ntmps44
   go_wp2_with (first
    | (go_at_call 42; refine (hsp _ (hg4 _)).mono ?_; rintro e w1 ⟨rfl, rfl⟩)
    | (at_lookup; refine wpList_lookup_own_ok_int _ rfl _ _ 62 rfl 9 3 .i64 law Tryz.underlying62 Tryz.underlying3 (zeroE _) bm 15 opsD rfl ((hm.alloc _).alloc _) _ _ rfl (Go.WideMaps.keyOf_string_mk Tryz.underlying9 (by unfold maxLen; omega)) ?_; intro c hc hcw; rw [at_ops, HF.out] at hc; rw [has_ops, HF.out]; obtain rfl : c = (k : Int) + 1 := by (simp at hc; exact hc.symm))
    | (go_at_call 14; refine (placesOf_ok _ _).mono ?_; rintro e w2 ⟨a, rfl, hpl, hb2⟩)
    | (go_at_call 58; rw [HNE.out]; refine (must_yes _).mono ?_; rintro e w3 ⟨rfl, rfl⟩)
    | go_in)
   obtain ⟨R, hR⟩ : ∃ R, R = rdFold ⟨(k : Int) + 1, 0, 0, 0, 0⟩ (plcs ((k : Int) + 1)) wt := ⟨_, rfl⟩
   rw [← hR]
   have hgs : w.heap.size + 1 < w3.heap.size := by have := hb2.size; rw [size2] at this; omega
   have hz : (w3.alloc (.cells (icells ⟨(k : Int) + 1, 0, 0, 0, 0⟩) T40 (0, 0))).heap[w.heap.size]? = some (.cells (icells ⟨0, 0, 0, 0, 0⟩) T40 (0, 0)) := by
    rw [Below.heap_alloc _ _ _ (by omega), hb2.block _ (by simp; omega), Below.heap_alloc _ _ _ (by simp), heap_new]; rfl
   have hwd : (w3.alloc (.cells (icells ⟨(k : Int) + 1, 0, 0, 0, 0⟩) T40 (0, 0))).heap[w.heap.size + 1]? = some (.cells ((x0 :: wt).map Value.string).toArray 9 (0, 0)) := by
    rw [Below.heap_alloc _ _ _ hgs, hb2.block _ (by simp)]
    have e := heap_new (w.alloc (.cells (icells ⟨0, 0, 0, 0, 0⟩) T40 (0, 0))) (.cells ((x0 :: wt).map Value.string).toArray 9 (0, 0))
    rw [show (w.alloc (.cells (icells ⟨0, 0, 0, 0, 0⟩) T40 (0, 0))).heap.size = w.heap.size + 1 by simp] at e
    exact e
   have hpl2 : PlAt ((k : Int) + 1) a (w.heap.size + 1 + 1) (w3.alloc (.cells (icells ⟨(k : Int) + 1, 0, 0, 0, 0⟩) T40 (0, 0))) := fun h => by
    rw [size2] at hpl
    obtain ⟨h1, h2⟩ := hpl h
    exact ⟨h1, by rw [Below.heap_alloc _ _ _ (Array.getElem?_eq_some_iff.1 h2).1]; exact h2⟩
   have hbel2 : Below w.heap.size w (w3.alloc (.cells (icells ⟨(k : Int) + 1, 0, 0, 0, 0⟩) T40 (0, 0))) := by
    have h3 := below_alloc1 (below_alloc1 hb2)
    exact h3.trans ((below_alloc w3 _).mono h3.size)
   have HG := Lib.hid hg
   have HR := Lib.hid hR
   clear hpl hb2 hsp hg4 hmm hg hR hm
   generalize hgi : w3.heap.size = gi at *
   go_loopw [38] (fun v wr => ∃ (n : Nat) (i : Ins), n ≤ (plcs ((k : Int) + 1)).length ∧ v = .int .i64 n ∧ R = rdFold i ((plcs ((k : Int) + 1)).drop n) (wt.drop n) ∧ wr.heap[gi]? = some (.cells (icells i) T40 (0, 0)) ∧ PlAt ((k : Int) + 1) a (w.heap.size + 1 + 1) wr ∧ wr.heap[w.heap.size + 1]? = some (.cells ((x0 :: wt).map Value.string).toArray 9 (0, 0)) ∧ wr.heap[w.heap.size]? = some (.cells (icells ⟨0, 0, 0, 0, 0⟩) T40 (0, 0)) ∧ Below w.heap.size w wr) (fun v _ => (plcs ((k : Int) + 1)).length - (RowKit.intOf v).toNat)
   case atStart => exact ⟨0, _, by omega, rfl, HR.out, by rw [← hgi]; exact heap_new _ _, hpl2, hwd, hz, hbel2⟩
   case round =>
    obtain ⟨n, i, hnl, rfl, hR2, hir, hplr, hwr, hzr, hbr⟩ := hrel
    have HR2 := Lib.hid hR2
    have HZ := Lib.hid hzr
    have HB := Lib.hid hbr
    have HWd := Lib.hid hwr
    have q0 : wr.cell? ⟨gi, 0, none⟩ = some (.int .i64 i.op) := cell_of_row wr gi 0 _ _ _ hir
    have q1 : wr.cell? ⟨gi, 1, none⟩ = some (.int .i64 i.d) := cell_of_row wr gi 1 _ _ _ hir
    have q2 : wr.cell? ⟨gi, 2, none⟩ = some (.int .i64 i.s) := cell_of_row wr gi 2 _ _ _ hir
    have q3 : wr.cell? ⟨gi, 3, none⟩ = some (.int .u64 (nv i.im)) := cell_of_row wr gi 3 _ _ _ hir
    have q4 : wr.cell? ⟨gi, 4, none⟩ = some (.int .i64 i.of) := cell_of_row wr gi 4 _ _ _ hir
    clear hR2 hzr hbr hwr
    by_cases hlt : n < (plcs ((k : Int) + 1)).length
    ·obtain ⟨p, hp⟩ : ∃ p, (plcs ((k : Int) + 1))[n]? = some p := ⟨(plcs ((k : Int) + 1))[n], by simp [hlt]⟩
     obtain ⟨x, hx⟩ : ∃ x, wt[n]? = some x := ⟨wt[n]'(by rw [HWN.out]; exact hlt), by simp [HWN.out, hlt]⟩
     obtain ⟨rfl, hgr⟩ := hplr (by intro e; rw [e] at hlt; simp at hlt)
     have hcp : wr.cell? ⟨w.heap.size + 1 + 1, n, none⟩ = some (.int .i64 p) := by rw [cell_of_row wr _ n _ _ _ hgr]; simp [hp]
     have hcx : wr.cell? ⟨w.heap.size + 1, n + 1, none⟩ = some (.string x) := by rw [cell_of_row wr _ (n + 1) _ _ _ HWd.out]; simp [hx]
     have hpp : plc p := plc_mem (List.mem_of_getElem? hp)
     have hxs : x.size ≤ 4096 := HW4.out x (by simp [List.mem_of_getElem? hx])
     have hwwl : n < wt.length := by rw [HWN.out]; exact hlt
     have Hpp := Lib.hid hpp
     have Hxs := Lib.hid hxs
     clear hpp hxs
     have HGw := Lib.hid (HG.out.below HB.out HG.out.size')
     have HGr := Lib.hid hgr
     have Hp := Lib.hid hp
     have Hx := Lib.hid hx
     have Hir := Lib.hid hir
     clear hgr hp hx hir
     cases hset : setW i p x with
     | none =>
      have HS := Lib.hid hset
      have hRn : R = none := by rw [HR2.out, drop_get Hp.out, drop_get Hx.out]; simp only [rdFold, hset]
      clear hset
      subst hRn
      go_wp2
      have hn4 : n ≤ 4 := by omega
      have hi0 : 0 ≤ 1 + (n : Int) := by omega
      have hi1 : (1 + (n : Int)).toNat = n + 1 := by omega
      have hi2 : 1 + (n : Int) < (wt.length : Int) + 1 := by omega
      have hi3 : IntKind.i64.wrap (1 + (n : Int)) = 1 + (n : Int) := by rw [IntKind.wrap_i64]; omega
      clear hcw hc hk hx0 hs hnl hlt hcp hplr hgs hz hwd hpl2 hbel2
      refine wp_region_any (by kernel_rfl) ?_
      change wpAny _ _ _ _ _ _ _ (World.drew _)
      refine wpAny_take (i := 1) (v := ?_) rfl (by kernel_rfl) (by kernel_rfl) (by kernel_rfl) (fun _ _ _ h => h) (Or.inl ⟨by rfl, ?_⟩) ?_
      rotate_left
      ·intro w'; go_simp; try with_reducible rfl
      refine wpAny_take (i := 2) (v := ?_) rfl (by kernel_rfl) (by kernel_rfl) (by kernel_rfl) (fun _ _ _ h => h) (Or.inl ⟨by rfl, ?_⟩) ?_
      rotate_left
      ·intro w'; go_simp; try with_reducible rfl
      refine wpAny_take (i := 3) (v := ?_) rfl (by kernel_rfl) (by kernel_rfl) (by kernel_rfl) (fun _ _ _ h => h) (Or.inl ⟨by rfl, ?_⟩) ?_
      rotate_left
      ·intro w'; go_simp; try with_reducible rfl
      refine wpAny_take (i := 4) (v := ?_) rfl (by kernel_rfl) (by kernel_rfl) (by kernel_rfl) (fun _ _ _ h => h) (Or.inl ⟨by rfl, ?_⟩) ?_
      rotate_left
      ·intro w'; go_simp; try with_reducible rfl
      refine wpAny_take (i := 5) (v := ?_) rfl (by kernel_rfl) (by kernel_rfl) (by kernel_rfl) (fun _ _ _ h => h) (Or.inl ⟨by rfl, ?_⟩) ?_
      rotate_left
      ·intro w'; go_simp; try with_reducible rfl
      refine wpAny_ready (rs := [0, 6]) (by kernel_rfl) (by simp) (AllReady.cons rfl (fun K hK => ?_) (AllReady.cons rfl (fun K hK => ?_) AllReady.nil))
      ·go_simp
       refine hK _ _ ?_; clear hK K
       refine wpAny_ready (rs := [6]) (by kernel_rfl) (by simp) (AllReady.cons rfl (fun K hK => ?_) AllReady.nil)
       go_simp
       refine hK _ _ ?_; clear hK K
       refine wpAny_ready (rs := [7]) (by kernel_rfl) (by simp) (AllReady.cons rfl (fun K hK => ?_) AllReady.nil)
       go_simp
       go_wp2_with (go_at_call 59; refine (withWord_ok (i := i) Hpp.out Hxs.out (by exact HGw.out.keep (Nat.le_refl _) (fun _ _ => rfl))).mono ?_; rw [HS.out]; rintro e w5 ⟨rfl, hb5⟩)
       exact ⟨rfl, rfl, HB.out.drew.trans (hb5.mono HB.out.size)⟩
      ·go_simp
       refine hK _ _ ?_; clear hK K
       refine wpAny_ready (rs := [0]) (by kernel_rfl) (by simp) (AllReady.cons rfl (fun K hK => ?_) AllReady.nil)
       go_simp
       refine hK _ _ ?_; clear hK K
       refine wpAny_ready (rs := [7]) (by kernel_rfl) (by simp) (AllReady.cons rfl (fun K hK => ?_) AllReady.nil)
       go_simp
       go_wp2_with (go_at_call 59; refine (withWord_ok (i := i) Hpp.out Hxs.out (by exact HGw.out.keep (Nat.le_refl _) (fun _ _ => rfl))).mono ?_; rw [HS.out]; rintro e w5 ⟨rfl, hb5⟩)
       exact ⟨rfl, rfl, HB.out.drew.trans (hb5.mono HB.out.size)⟩
     | some i' =>
      have HS := Lib.hid hset
      have hRn : R = rdFold i' ((plcs ((k : Int) + 1)).drop (n + 1)) (wt.drop (n + 1)) := by rw [HR2.out, drop_get Hp.out, drop_get Hx.out]; simp only [rdFold, hset]
      have HRn := Lib.hid hRn
      have hgl : gi < wr.heap.size := (Array.getElem?_eq_some_iff.1 Hir.out).1
      clear hset hRn
      go_wp2
      have hn4 : n ≤ 4 := by omega
      have hi0 : 0 ≤ 1 + (n : Int) := by omega
      have hi1 : (1 + (n : Int)).toNat = n + 1 := by omega
      have hi2 : 1 + (n : Int) < (wt.length : Int) + 1 := by omega
      have hi3 : IntKind.i64.wrap (1 + (n : Int)) = 1 + (n : Int) := by rw [IntKind.wrap_i64]; omega
      have HLT := Lib.hid hlt
      clear hcw hc hk hx0 hs hnl hlt hcp hplr hz hwd hpl2 hbel2
      go_region_with (go_at_call 59; refine (withWord_ok (i := i) Hpp.out Hxs.out (by exact HGw.out.keep (Nat.le_refl _) (fun _ _ => rfl))).mono ?_; rw [HS.out]; rintro e w5 ⟨rfl, hb5⟩; have hi5 := (hb5.block gi hgl).trans Hir.out; have r0 : w5.cell? ⟨gi, 0, none⟩ = some (.int .i64 i.op) := cell_of_row w5 gi 0 _ _ _ hi5; have r1 : w5.cell? ⟨gi, 1, none⟩ = some (.int .i64 i.d) := cell_of_row w5 gi 1 _ _ _ hi5; have r2 : w5.cell? ⟨gi, 2, none⟩ = some (.int .i64 i.s) := cell_of_row w5 gi 2 _ _ _ hi5; have r3 : w5.cell? ⟨gi, 3, none⟩ = some (.int .u64 (nv i.im)) := cell_of_row w5 gi 3 _ _ _ hi5; have r4 : w5.cell? ⟨gi, 4, none⟩ = some (.int .i64 i.of) := cell_of_row w5 gi 4 _ _ _ hi5; have f0 := frozen_of_row w5 gi 0 _ _ hi5; have f1 := frozen_of_row w5 gi 1 _ _ hi5; have f2 := frozen_of_row w5 gi 2 _ _ hi5; have f3 := frozen_of_row w5 gi 3 _ _ hi5; have f4 := frozen_of_row w5 gi 4 _ _ hi5)
      all_goals (
       go_wp2
       have hne : w.heap.size + 1 + 1 ≠ gi := fun e => by
        have h1 := HGr.out
        rw [e, Hir.out] at h1
        injection h1 with h1
        injection h1 with _ h2 _
        exact absurd h2 (show ¬ T40 = T47 by decide)
       have hk5 : ∀ X o, X ≠ gi → wr.heap[X]? = some o → (set5 w5 gi i').heap[X]? = some o := fun X o hX ho => by
        rw [set5_other w5 gi i' X hX, hb5.block X (Array.getElem?_eq_some_iff.1 ho).1]; exact ho
       have hb6 : Below w.heap.size w (set5 w5 gi i') := set5_below (HB.out.drew.trans (hb5.mono HB.out.size)) (by omega) i'
       go_roundw
       case rel => exact ⟨n + 1, i', HLT.out, by go_num, HRn.out, set5_same w5 gi i' _ hi5 rfl, fun _ => ⟨rfl, hk5 _ _ hne HGr.out⟩, hk5 _ _ (by omega) HWd.out, hk5 _ _ (by omega) HZ.out, hb6⟩
       case measure => have := HLT.out; simp [RowKit.intOf]; omega)
    ·obtain rfl : n = (plcs ((k : Int) + 1)).length := by omega
     have hRi : R = some i := by rw [HR2.out, List.drop_length]; unfold rdFold; rfl
     have HRi := Lib.hid hRi
     have Hir := Lib.hid hir
     clear hRi hir q0 q1 q2 q3 q4 hplr hcw hc hk hx0 hs hz hwd hpl2 hbel2 hgs
     have hB2 := setRow_heap wr w.heap.size _ (icells i) _ _ HZ.out
     have HB2 := Lib.hid hB2
     clear hB2
     go_wp2_with (first
      | (refine wpList_load_row rfl T40 _ rfl gi rfl _ (icells i) _ _ Hir.out Tryz.underlying43 rfl info5 ?_)
      | (refine wpList_store_row rfl T40 _ _ rfl w.heap.size (icells i) rfl rfl _ _ HZ.out info5 (by rfl) (icells_one i) ?_)
      | go_in)
     refine bodyPost_ret (results_cell_row rfl _ _ w.heap.size _ (icells i) _ _ rfl HB2.out Tryz.underlying43 rfl info5) rfl ?_
     rw [← HR.out, HRi.out]
     exact ⟨rfl, below_setRow HB.out (Nat.le_refl _) _⟩
  ·rw [if_neg hn]
   have hne : ((wt.length : Int) + 1 == 1 + ((plcs ((k : Int) + 1)).length : Int)) = false := beq_eq_false_iff_ne.2 (by simp only [List.length_cons] at hn; omega)
   have HF := Lib.hid hf
   have HNE := Lib.hid hne
   clear hne
   have HX := Lib.hid hxk
   clear hf hxk hn hob
   have hp4 := plcs_len ((k : Int) + 1)
   go_enter Tryz.func44, Tryz.ntmps44
   go_wp2_with (first
    | (go_at_call 42; refine (hsp _ (hg4 _)).mono ?_; rintro e w1 ⟨rfl, rfl⟩)
    | (at_lookup; refine wpList_lookup_own_ok_int _ rfl _ _ 62 rfl 9 3 .i64 law Tryz.underlying62 Tryz.underlying3 (zeroE _) bm 15 opsD rfl ((hm.alloc _).alloc _) _ _ rfl (Go.WideMaps.keyOf_string_mk Tryz.underlying9 (by unfold maxLen; omega)) ?_; intro c hc hcw; rw [at_ops, HF.out] at hc; rw [has_ops, HF.out]; obtain rfl : c = (k : Int) + 1 := by (simp at hc; exact hc.symm))
    | (go_at_call 14; refine (placesOf_ok _ _).mono ?_; rintro e w2 ⟨a, rfl, hpl, hb2⟩)
    | (go_at_call 58; rw [HNE.out]; refine (must_no _).mono ?_; rintro e w3 ⟨rfl, rfl⟩)
    | go_in)
   exact ⟨rfl, rfl, below_alloc1 (below_alloc1 hb2)⟩
theorem catch_panic (p q : Nat) (sl bo : Value) (u : TypeId) (pv : Value) (older : List PanicEntry) (w : World) (hp : w.cell? ⟨p, 0, none⟩ = some sl) (fp : w.frozen? ⟨p, 0, none⟩ = false) (hq : w.cell? ⟨q, 0, none⟩ = some bo) (fq : w.frozen? ⟨q, 0, none⟩ = false) (hpq : q ≠ p) :
  CallsD Tryz.prog 41 #[.pointer (some ⟨p, 0, none⟩), .pointer (some ⟨q, 0, none⟩)] (.panicking ({ v := .iface u pv, recovered := false } :: older)) w fun e u' w' =>
   e = .returned (.tuple #[]) ∧ u' = .panicking ({ v := .iface u pv, recovered := true } :: older) ∧ w' = (w.setCell ⟨p, 0, none⟩ (.slice none 0 0)).setCell ⟨q, 0, none⟩ (.bool false) := by
 have hq2 : (w.setCell ⟨p, 0, none⟩ (.slice none 0 0)).cell? ⟨q, 0, none⟩ = some bo := by rw [World.cell?_of_block (w := w) (heap_setCell_other _ _ _ _ hpq)]; exact hq
 have fq2 : (w.setCell ⟨p, 0, none⟩ (.slice none 0 0)).frozen? ⟨q, 0, none⟩ = false := by rw [World.frozen?_of_block (w := w) (heap_setCell_other _ _ _ _ hpq)]; exact fq
 refine callsD_of_wpS Tryz.func41 rfl fun c₀ cs hu => ?_
 apply wpS_seq
 apply wpS_region
 simp [wpOpsS, go_sem, recoverD, hu, Tryz.ntmps41, Exit.thenS]
 refine wpS_cond (t := true) (by simp [Act.eval, Array.replicate]) ?_
 simp only [if_true]
 apply wpS_region
 simp [wpOpsS, go_sem, hp, fp, hq2, fq2, bodyPostS, results, Tryz.results41]
theorem catch_none (p q : Nat) (w : World) :
  CallsD Tryz.prog 41 #[.pointer (some ⟨p, 0, none⟩), .pointer (some ⟨q, 0, none⟩)] .returning w fun e u' w' => e = .returned (.tuple #[]) ∧ u' = .returning ∧ w' = w := by
 refine callsD_of_wpS Tryz.func41 rfl fun c₀ cs hu => ?_
 apply wpS_seq
 apply wpS_region
 simp [wpOpsS, go_sem, recoverD, hu, Tryz.ntmps41, Exit.thenS]
 refine wpS_cond (t := false) (by simp [Act.eval, Array.replicate]) ?_
 simp only [Bool.false_eq_true, if_false]
 refine wpS_of_wp (wp_skip ?_)
 cases c₀
 simp_all [bodyPostS, results, Tryz.results41]
theorem show_wrong {L : List Ins} {w : World} {b o c : Nat} (hP : PAt w b o L) (hg : Gw w) (he : codeErr L ≠ 0) :
  Calls Tryz.prog 4 #[.slice (some ⟨b, o, none⟩) L.length c] w fun e w' => e = .returned (.tuple #[.string ⟨#[]⟩, .int .i64 (codeErr L)]) ∧ Below w.heap.size w w' := by
 have hck := calls_readV (c := c) (A := #[.slice (some ⟨b, o, none⟩) L.length c]) hP rfl (fun _ => rfl) (check_ok L c) hg
 go_enter Tryz.func4, Tryz.ntmps4
 go_wp2_with (first
  | (go_at_call 10; refine hck.mono ?_; rintro e w1 ⟨rfl, hb1⟩)
  | go_in)
 go_ret2
 exact ⟨rfl, hb1⟩
theorem show_nil {w : World} (hg : Gw w) :
  Calls Tryz.prog 4 #[.slice none 0 0] w fun e w' => e = .returned (.tuple #[.string ⟨#[]⟩, .int .i64 2]) ∧ Below w.heap.size w w' := by
 have hck := calls_of_ok (fun _ => (0, 0, 0)) (A := #[.slice none 0 0]) rfl (fun _ => rfl) check_nil w hg
 go_enter Tryz.func4, Tryz.ntmps4
 go_wp2_with (first
  | (go_at_call 10; refine hck.mono ?_; rintro e w1 ⟨rfl, hb1⟩)
  | go_in)
 go_ret2
 exact ⟨rfl, hb1⟩
end Go.Proofs.YtkigmocchaikgaaGreatDoor
/- A right program's steps have small fields. -/
namespace Go.Proofs.YtkigmocchaikgaaGreatDoor
open Go.Shelf Go.RowKit Go.Sort Go.Lib
theorem fld_of {i : Ins} {n : Nat} (hn : n ≤ 64) (hk : kindB i = true) (hi : inB i n = true) (hb : bareB i = true) : Fld i := by
 obtain ⟨op, d, s, im, f⟩ := i
 simp only [kindB, Bool.and_eq_true, decide_eq_true_eq] at hk
 simp only [inB, regB, srcB, goesB] at hi
 simp only [bareB] at hb
 refine ⟨hk.1, hk.2, ?_, ?_, ?_⟩ <;> simp only
 all_goals
  repeat' split at hi
  all_goals
   repeat' split at hb
   all_goals
    simp only [Bool.and_eq_true, Bool.or_eq_true, decide_eq_true_eq] at hi hb
    omega
theorem inAll_mem : ∀ {L : List Ins} {i : Ins}, inAll L = true → i ∈ L → ∃ n : Nat, n < L.length ∧ inB i n = true
 | [], _, _, h => by cases h
 | a :: L, i, h, hm => by
  simp only [inAll, Bool.and_eq_true] at h
  rw [List.mem_cons] at hm
  rcases hm with rfl | hm
  ·exact ⟨L.length, by simp, h.1⟩
  ·obtain ⟨n, hn, h2⟩ := inAll_mem h.2 hm
   exact ⟨n, by simp; omega, h2⟩
theorem flds_of {L : List Ins} (h : codeErr L = 0) : L.length ≤ 64 ∧ ∀ i ∈ L, Fld i := by
 unfold codeErr at h
 split at h
 ·omega
 rename_i h1
 split at h
 ·omega
 rename_i h2
 split at h
 ·omega
 rename_i h3
 split at h
 ·omega
 rename_i h4
 refine ⟨by omega, fun i hi => ?_⟩
 have h2' : L.all kindB = true := by simpa using h2
 have h3' : inAll L = true := by simpa using h3
 have h4' : L.all bareB = true := by simpa using h4
 obtain ⟨n, hn, h5⟩ := inAll_mem h3' hi
 exact fld_of (by omega) (List.all_eq_true.1 h2' i hi) h5 (List.all_eq_true.1 h4' i hi)
end Go.Proofs.YtkigmocchaikgaaGreatDoor
/- The steps of all lines: readLines. -/
namespace Go.Proofs.YtkigmocchaikgaaGreatDoor
open Go.Shelf Go.RowKit Go.Sort Go.Lib Go.Maps
def rdAll : List ByteArray → Option (List Ins)
 | [] => some []
 | x :: xs => match rdLine x with | some i => (rdAll xs).map (i :: ·) | none => none
def linesOf (s : ByteArray) : List ByteArray := wordsOf ⟨(trimSuffix s.data.toList [10]).toArray⟩ 10
def accC (l : List Ins) : List Value := l.flatMap fun i => (icells i).toList
abbrev T22 : TypeId := 22
abbrev T4 : TypeId := 4
/- under way -/
structure Rl (B bl : Nat) (ls : List ByteArray) (w : World) (n : Nat) (acc : List Ins) (v : Value) (wr : World) : Prop where
 all : rdAll ls = (rdAll (ls.drop n)).map (acc ++ ·)
 len : acc.length = n
 l : wr.heap[B]? = some (.cells #[v] T22 (0, 0))
 ok : wr.heap[B + 1]? = some (.cells #[.bool false] T4 (0, 0))
 lines : wr.heap[bl]? = some (.cells (ls.map Value.string).toArray 9 (0, 0))
 map : MapIs wr (B + 1 + 1) opsD
 own : wr.ownsRow (bl + 1) T40 5 v n (accC acc)
 bel : Below B w wr
 big : bl + 1 ≤ wr.heap.size
 far : B + 1 + 1 < bl
theorem infoIns : (Tryz.prog.info? T40).map (fun i => (i.zero, i.size, i.bytes)) = some (some (.agg #[.int .i64 0, .int .i64 0, .int .i64 0, .int .u64 0, .int .i64 0]), 5, 40) := by kernel_rfl
theorem icells_ones (i : Ins) : ∀ u ∈ (icells i).toList, u.oneCell' = true := fun u hu => by
 simp at hu
 rcases hu with rfl | rfl | rfl | rfl | rfl <;> rfl
theorem new_cells (w : World) (i : Ins) : ∀ j u, (icells i).toList[j]? = some u → (w.alloc (.cells (icells i) T40 (0, 0))).cell? ((⟨w.heap.size, 0, none⟩ : Addr).add j) = some u := fun j u h => by
 rw [Lib.add_plain, cell_of_row _ _ _ _ _ _ (heap_new _ _)]
 simpa using h
theorem row_slice {w : World} {B n : Nat} {v : Value} {xs : List Value} (h : w.ownsRow B T40 5 v n xs) : ∃ a n c, v = .slice a n c := by
 rcases h.2 with ⟨hv, _⟩ | ⟨g, cap, cur, hv, _⟩
 ·exact ⟨_, _, _, hv⟩
 ·exact ⟨_, _, _, hv⟩
theorem own_step {B bl n : Nat} {ls : List ByteArray} {w wr w5 : World} {acc : List Ins} {v : Value} {o : Obj} (h : Rl B bl ls w n acc v wr) (hb : Below wr.drew.heap.size wr.drew w5) : (w5.alloc o).ownsRow (bl + 1) T40 5 v n (accC acc) := by
 obtain ⟨h1, h2⟩ := h.own
 refine ⟨h1, h2.imp id ?_⟩
 rintro ⟨g, cap, cur, a, b, c, d⟩
 have h3 := (hb.block g (Array.getElem?_eq_some_iff.1 c).1).trans c
 exact ⟨g, cap, cur, a, b, (Below.heap_alloc _ _ _ (Array.getElem?_eq_some_iff.1 h3).1).trans h3, d⟩
theorem base_step {B bl n : Nat} {ls : List ByteArray} {w wr w5 : World} {acc : List Ins} {v : Value} {o : Obj} (h : Rl B bl ls w n acc v wr) (hb : Below wr.drew.heap.size wr.drew w5) : bl + 1 ≤ (w5.alloc o).heap.size :=
 Nat.le_trans h.big (Nat.le_trans hb.size (below_alloc w5 o).size)
theorem own_big {w : World} {B n : Nat} {v : Value} {xs : List Value} (h : w.ownsRow B T40 5 v n xs) {k : Nat} (hk : k < B) : some k ≠ v.ownBlock := by
 rcases h.2 with ⟨rfl, _⟩ | ⟨g, cap, cur, rfl, hg, _⟩
 ·simp [Value.ownBlock]
 ·simp [Value.ownBlock]; omega
theorem rl_kept {B bl n : Nat} {ls : List ByteArray} {w wr w5 w6 : World} {acc : List Ins} {v : Value} {o ob : Obj} {k : Nat} (h : Rl B bl ls w n acc v wr) (hb : Below wr.drew.heap.size wr.drew w5) (hg : (w5.alloc o).grownBy w6 v.ownBlock) (hk : k < bl + 1) (ho : wr.heap[k]? = some ob) : w6.heap[k]? = some ob := by
 have h1 : w5.heap[k]? = some ob := (hb.block k (Array.getElem?_eq_some_iff.1 ho).1).trans ho
 have hlt := (Array.getElem?_eq_some_iff.1 h1).1
 rw [hg.block k (Nat.lt_of_lt_of_le hlt (below_alloc w5 o).size) (own_big h.own hk), Below.heap_alloc _ _ _ hlt]
 exact h1
theorem l_kept {B bl n : Nat} {ls : List ByteArray} {w wr w5 w6 : World} {acc : List Ins} {v : Value} {o : Obj} (h : Rl B bl ls w n acc v wr) (hb : Below wr.drew.heap.size wr.drew w5) (hg : (w5.alloc o).grownBy w6 v.ownBlock) : w6.heap[B]? = some (.cells #[v] T22 (0, 0)) :=
 rl_kept h hb hg (by have := h.far; omega) h.l
theorem rl_step {B bl n : Nat} {ls : List ByteArray} {w wr w5 w6 : World} {acc : List Ins} {v v' : Value} {o : Obj} {x : ByteArray} {i : Ins} (h : Rl B bl ls w n acc v wr) (hx : ls[n]? = some x) (hr : rdLine x = some i) (hb : Below wr.drew.heap.size wr.drew w5) (hown : w6.ownsRow (bl + 1) T40 5 v' (n + 1) (accC acc ++ (icells i).toList)) (hg : (w5.alloc o).grownBy w6 v.ownBlock) : Rl B bl ls w (n + 1) (acc ++ [i]) v' (w6.setCell ⟨B, 0, none⟩ v') := by
 have hf := h.far
 have hbg := h.big
 have hB5 : B ≤ w5.heap.size := Nat.le_trans (by show B ≤ wr.heap.size; omega) hb.size
 have hbw : Below B w w5 := h.bel.drew.trans (hb.mono (by show B ≤ wr.heap.size; omega))
 have hb6 : Below B w w6 := (hbw.alloc hB5 o).grown hg (Nat.le_trans hB5 (below_alloc w5 o).size) (fun k hk => by
  rcases h.own.2 with ⟨rfl, _⟩ | ⟨g, cap, cur, rfl, hgb, _⟩
  ·simp [Value.ownBlock] at hk
  ·simp [Value.ownBlock] at hk; omega)
 refine ⟨?_, by simp [h.len], ?_, ?_, ?_, ?_, ?_, hb6.setCell (Nat.le_refl _) _, ?_, hf⟩
 ·rw [h.all, drop_get hx]
  simp only [rdAll, hr, Option.map_map]
  congr 1
  funext l
  simp
 ·exact heap_setCell_same w6 B 0 _ _ v' (rl_kept h hb hg (by omega) h.l)
 ·rw [heap_setCell_other _ _ _ _ (by simp)]; exact rl_kept h hb hg (by omega) h.ok
 ·rw [heap_setCell_other _ _ _ _ (by show bl ≠ B; omega)]; exact rl_kept h hb hg (by omega) h.lines
 ·obtain ⟨es, ck, hh, rest⟩ := h.map
  exact ⟨es, ck, (heap_setCell_other _ _ _ _ (by show B + 1 + 1 ≠ B; omega)).trans (rl_kept h hb hg (by omega) hh), rest⟩
 ·have e : accC (acc ++ [i]) = accC acc ++ (icells i).toList := by simp [accC]
  rw [e]
  obtain ⟨h1, h2⟩ := hown
  refine ⟨h1, h2.imp id ?_⟩
  rintro ⟨g, cap, cur, a, b, c, d⟩
  exact ⟨g, cap, cur, a, b, (heap_setCell_other _ _ _ _ (by show g ≠ B; omega)).trans c, d⟩
 ·have h7 := hg.size
  have h8 := (below_alloc w5 o).size
  have h9 := hb.size
  have h10 : wr.drew.heap.size = wr.heap.size := rfl
  simp only [World.setCell, Array.size_modify]
  omega
theorem leaves_congr {P : Program} {fn : Func} {t t' : Array Value} {R : Ending → World → Prop} (h : results fn t = results fn t') : ∀ (ds : List Deferred) (u : FrameMode) (w : World), Leaves P fn t R ds u w ↔ Leaves P fn t' R ds u w
 | [], .returning, w => by simp only [Leaves, h]
 | [], .panicking _, w => Iff.rfl
 | [], .run, w => Iff.rfl
 | d :: ds, u, w => by simp only [Leaves, leaves_congr h ds]
theorem res_put {a : Act} {k : Nat} (h2 : k ≠ 2) (h3 : k ≠ 3) (v : Value) : results Tryz.f22 (a.put (some k) v).tmps = results Tryz.f22 a.tmps := by
 simp [results, Tryz.results22, Act.put, Array.getElem?_setIfInBounds, h2, h3]
theorem q_put {P : Program} {R : Ending → World → Prop} {k : Nat} (h2 : k ≠ 2) (h3 : k ≠ 3) (v : Value) (c : List PanicEntry) (a : Act) (w : World) (h : Leaves P Tryz.f22 (a.put (some k) v).tmps R (a.put (some k) v).defers (.panicking c) w) : Leaves P Tryz.f22 a.tmps R a.defers (.panicking c) w :=
 (leaves_congr (res_put h2 h3 v) _ _ _).1 h
/- what readLines hands back -/
def Rd (B : Nat) (w : World) : Option (List Ins) → Ending → World → Prop
 | none, e, w' => e = .returned (.tuple #[.slice none 0 0, .bool false]) ∧ Below B w w'
 | some L, e, w' => (∃ v bl, e = .returned (.tuple #[v, .bool true]) ∧ B ≤ bl ∧ w'.ownsRow bl T40 5 v L.length (accC L)) ∧ Below B w w'
theorem caught (pv : Value) {B : Nat} {v bo : Value} {w w5 : World} {t : Array Value} (k1 : w5.heap[B]? = some (.cells #[v] T22 (0, 0))) (k2 : w5.heap[B + 1]? = some (.cells #[bo] T4 (0, 0))) (hb : Below B w w5) (t2 : t.getD 2 undef = .pointer (some ⟨B, 0, none⟩)) (t3 : t.getD 3 undef = .pointer (some ⟨B + 1, 0, none⟩)) :
  Leaves Tryz.prog Tryz.f22 t (Rd B w none) [] (settle (.panicking [{ v := pv, recovered := true }])) ((w5.setCell ⟨B, 0, none⟩ (.slice none 0 0)).setCell ⟨B + 1, 0, none⟩ (.bool false)) := by
 have c1 : ((w5.setCell ⟨B, 0, none⟩ (.slice none 0 0)).setCell ⟨B + 1, 0, none⟩ (.bool false)).cell? ⟨B, 0, none⟩ = some (.slice none 0 0) := by
  rw [World.cell?_of_block (heap_setCell_other _ _ _ _ (by simp)), cell_of_row _ _ _ _ _ _ (heap_setCell_same _ _ _ _ _ _ k1)]; rfl
 have c2 : ((w5.setCell ⟨B, 0, none⟩ (.slice none 0 0)).setCell ⟨B + 1, 0, none⟩ (.bool false)).cell? ⟨B + 1, 0, none⟩ = some (.bool false) := by
  rw [cell_of_row _ _ _ _ _ _ (heap_setCell_same _ _ _ _ _ _ ((heap_setCell_other _ _ _ _ (by simp)).trans k2))]; rfl
 have t2' : t[2]?.getD undef = .pointer (some ⟨B, 0, none⟩) := by simpa using t2
 have t3' : t[3]?.getD undef = .pointer (some ⟨B + 1, 0, none⟩) := by simpa using t3
 refine ⟨.tuple #[.slice none 0 0, .bool false], ?_, rfl, (hb.setCell (Nat.le_refl _) _).setCell (Nat.le_succ _) _⟩
 generalize (w5.setCell ⟨B, 0, none⟩ (.slice none 0 0)).setCell ⟨B + 1, 0, none⟩ (.bool false) = W at *
 simp [results, Tryz.results22, t2', t3', asAddr, go_sem, c1, c2]
theorem passed {bl : Nat} {ls : List ByteArray} {w wr : World} {acc : List Ins} {v : Value} {t : Array Value} (h : Rl w.heap.size bl ls w ls.length acc v wr) (t2 : t.getD 2 undef = .pointer (some ⟨w.heap.size, 0, none⟩)) (t3 : t.getD 3 undef = .pointer (some ⟨w.heap.size + 1, 0, none⟩)) :
  Leaves Tryz.prog Tryz.f22 t (Rd w.heap.size w (some acc)) [] (settle .returning) ((wr.setCell ⟨w.heap.size, 0, none⟩ v).setCell ⟨w.heap.size + 1, 0, none⟩ (.bool true)) := by
 have k1 : (wr.setCell ⟨w.heap.size, 0, none⟩ v).heap[w.heap.size]? = some (.cells #[v] T22 (0, 0)) := heap_setCell_same wr _ 0 _ _ v h.l
 have k2 : (wr.setCell ⟨w.heap.size, 0, none⟩ v).heap[w.heap.size + 1]? = some (.cells #[.bool false] T4 (0, 0)) := (heap_setCell_other _ _ _ _ (by simp)).trans h.ok
 have c1 : ((wr.setCell ⟨w.heap.size, 0, none⟩ v).setCell ⟨w.heap.size + 1, 0, none⟩ (.bool true)).cell? ⟨w.heap.size, 0, none⟩ = some v := by
  rw [World.cell?_of_block (heap_setCell_other _ _ _ _ (by simp)), cell_of_row _ _ _ _ _ _ k1]; rfl
 have c2 : ((wr.setCell ⟨w.heap.size, 0, none⟩ v).setCell ⟨w.heap.size + 1, 0, none⟩ (.bool true)).cell? ⟨w.heap.size + 1, 0, none⟩ = some (.bool true) := by
  rw [cell_of_row _ _ _ _ _ _ (heap_setCell_same _ _ _ _ _ _ k2)]; rfl
 have t2' : t[2]?.getD undef = .pointer (some ⟨w.heap.size, 0, none⟩) := by simpa using t2
 have t3' : t[3]?.getD undef = .pointer (some ⟨w.heap.size + 1, 0, none⟩) := by simpa using t3
 have hf := h.far
 have hown : ((wr.setCell ⟨w.heap.size, 0, none⟩ v).setCell ⟨w.heap.size + 1, 0, none⟩ (.bool true)).ownsRow (bl + 1) T40 5 v acc.length (accC acc) := by
  rw [h.len]
  obtain ⟨h1, h2⟩ := h.own
  refine ⟨h1, h2.imp id ?_⟩
  rintro ⟨g, cap, cur, a, b, c, d⟩
  exact ⟨g, cap, cur, a, b, (heap_setCell_other _ _ _ _ (by show g ≠ w.heap.size + 1; omega)).trans ((heap_setCell_other _ _ _ _ (by show g ≠ w.heap.size; omega)).trans c), d⟩
 refine ⟨.tuple #[v, .bool true], ?_, ⟨v, bl + 1, rfl, by omega, hown⟩, (h.bel.setCell (Nat.le_refl _) _).setCell (Nat.le_succ _) _⟩
 generalize (wr.setCell ⟨w.heap.size, 0, none⟩ v).setCell ⟨w.heap.size + 1, 0, none⟩ (.bool true) = W at *
 simp [results, Tryz.results22, t2', t3', asAddr, go_sem, c1, c2]
set_option maxHeartbeats 1000000 in
set_option maxRecDepth 100000 in
theorem readLines_ok {s : ByteArray} (hs : s.size ≤ 4096) {w : World} (hg : Gw w) {R : Option (List Ins)} (hR : rdAll (linesOf s) = R) :
  Calls Tryz.prog 22 #[.string s] w (Rd w.heap.size w R) := by
 have hmf : ∀ (fn : Fn) (first cap : Array Value) (w : World), (Instr.makeFunc fn first cap).run Tryz.prog w = .ok (.func fn first cap) w := fun _ _ _ _ => rfl
 obtain ⟨mm, hmm⟩ := hg.most
 have htr : ∀ W, Calls Tryz.prog 43 #[.string s, .string ⟨#[10]⟩] W fun e w' => e = .returned (.string ⟨(trimSuffix s.data.toList [10]).toArray⟩) ∧ w' = W := fun W => Tryz.strings_TrimSuffix s ⟨#[10]⟩ W (by omega)
 obtain ⟨ls, hls⟩ : ∃ ls, ls = linesOf s := ⟨_, rfl⟩
 have hts : (ByteArray.mk (trimSuffix s.data.toList [10]).toArray).size ≤ 4096 := by
  have h1 : (ByteArray.mk (trimSuffix s.data.toList [10]).toArray).size = (trimSuffix s.data.toList [10]).length := by simp [ByteArray.size]
  rw [h1]
  have h2 : s.size = s.data.toList.length := Lib.size_eq s
  unfold trimSuffix
  split
  ·rw [List.length_take]; omega
  ·omega
 have hll := words_len ⟨(trimSuffix s.data.toList [10]).toArray⟩ 10
 rw [show wordsOf ⟨(trimSuffix s.data.toList [10]).toArray⟩ 10 = ls by rw [hls]; rfl] at hll
 have hsp : ∀ W : World, W.cell? ⟨1, 0, none⟩ = some (.int .i64 mm) → Calls Tryz.prog 42 #[.string ⟨(trimSuffix s.data.toList [10]).toArray⟩, .string ⟨#[10]⟩] W fun e w' => e = .returned (.slice (some ⟨W.heap.size, 0, none⟩) ls.length ls.length) ∧ w' = W.alloc (.cells (ls.map Value.string).toArray 9 (0, 0)) := fun W hW => by
  have := Tryz.strings_Split ⟨(trimSuffix s.data.toList [10]).toArray⟩ ⟨#[10]⟩ mm W (by omega) hW (by show 1 ≤ (#[10] : Array UInt8).size; simp)
  rw [hll, hls]; exact this
 have hl4 : ∀ x ∈ ls, x.size ≤ 4096 := fun x hx => by rw [hls] at hx; exact Nat.le_trans (split_size _ _ _ x hx) hts
 rw [← hls] at hR
 have h1 : ∀ W, Below w.heap.size w W → W.cell? ⟨1, 0, none⟩ = some (.int .i64 mm) := fun W h => by rw [h.cell (p := ⟨1, 0, none⟩) (Nat.lt_of_lt_of_le (by show 1 < 8; omega) hg.size')]; exact hmm
 have HL4 := Lib.hid hl4
 have HLL := Lib.hid hll
 have HR := Lib.hid hR
 have HG := Lib.hid hg
 have HTS := Lib.hid hts
 clear hl4 hll hls hR hmm hts
 go_enter_defers Tryz.func22, Tryz.ntmps22
 go_wp2_with (first
  | (go_at_call 28; refine (opsByName_ok _).mono ?_; rintro e w1 ⟨rfl, hm, hb⟩; rw [size2] at hm)
  | (go_at_call 43; refine (htr _).mono ?_; rintro e w2 ⟨rfl, rfl⟩)
  | (go_at_call 42; refine (hsp _ (h1 _ (below_alloc1 (below_alloc1 hb)))).mono ?_; rintro e w3 ⟨rfl, rfl⟩)
  | go_in)
 have hb0 : Below w.heap.size w w2 := below_alloc1 (below_alloc1 hb)
 have hsz : w.heap.size + 1 + 1 < w2.heap.size := hm.lt
 have h0 : Rl w.heap.size w2.heap.size ls w 0 [] (.slice none 0 0) (w2.alloc (.cells (ls.map Value.string).toArray 9 (0, 0))) := by
  refine ⟨by simp, rfl, ?_, ?_, heap_new _ _, hm.alloc _, ⟨rfl, .inl ⟨rfl, rfl⟩⟩, hb0.trans ((below_alloc w2 _).mono hb0.size), by simp, hsz⟩
  ·rw [Below.heap_alloc _ _ _ (by omega), hb.block _ (by simp; omega), Below.heap_alloc _ _ _ (by simp), heap_new]
  ·rw [Below.heap_alloc _ _ _ (by omega), hb.block _ (by simp)]
   have e := heap_new (w.alloc (.cells #[.slice none 0 0] T22 (0, 0))) (.cells #[.bool false] T4 (0, 0))
   rw [show (w.alloc (.cells #[.slice none 0 0] T22 (0, 0))).heap.size = w.heap.size + 1 by simp] at e
   exact e
 clear hm hb hsp htr h1 hg
 generalize hbl : w2.heap.size = bl at *
 go_loopw [13] (fun c wr => ∃ (n : Nat) (acc : List Ins) (v : Value), n ≤ ls.length ∧ c = .int .i64 n ∧ Rl w.heap.size bl ls w n acc v wr) (fun c _ => ls.length - (RowKit.intOf c).toNat)
 case atStart => exact ⟨0, [], _, by omega, rfl, h0⟩
 case round =>
  obtain ⟨n, acc, v, hn, rfl, hrl⟩ := hrel
  by_cases hlt : n < ls.length
  ·obtain ⟨x, hx⟩ : ∃ x, ls[n]? = some x := ⟨ls[n], by simp [hlt]⟩
   have hcx : wr.cell? ⟨bl, n, none⟩ = some (.string x) := by rw [cell_of_row wr _ n _ _ _ hrl.lines]; simp [hx]
   have hcl : wr.cell? ⟨w.heap.size, 0, none⟩ = some v := cell_of_row wr _ 0 _ _ _ hrl.l
   have Hx := Lib.hid hx
   have hxs : x.size ≤ 4096 := HL4.out x (List.mem_of_getElem? hx)
   have HXS := Lib.hid hxs
   have HLT := Lib.hid hlt
   have HM := Lib.hid hrl.map
   have HGw := Lib.hid (HG.out.below hrl.bel HG.out.size')
   clear hx hxs
   cases hr : rdLine x with
   | none =>
    have HRx := Lib.hid hr
    obtain rfl : R = none := by rw [← HR.out, hrl.all, drop_get Hx.out]; simp only [rdAll, hr]; rfl
    clear hr
    go_wp2
    clear h0 hn hlt
    refine wp_region_any (by kernel_rfl) ?_
    change wpAny _ _ _ _ _ _ _ (World.drew _)
    refine wpAny_take (i := 1) (v := ?_) rfl (by kernel_rfl) (by kernel_rfl) (by kernel_rfl) (fun c a w h => q_put (by decide) (by decide) _ c a w h) (Or.inl ⟨by rfl, ?_⟩) ?_
    rotate_left
    ·intro w'; go_simp; try with_reducible rfl
    refine wpAny_take (i := 2) (v := ?_) rfl (by kernel_rfl) (by kernel_rfl) (by kernel_rfl) (fun c a w h => q_put (by decide) (by decide) _ c a w h) (Or.inl ⟨by rfl, ?_⟩) ?_
    rotate_left
    ·intro w'; go_simp; try with_reducible rfl
    refine wpAny_ready (rs := [0, 3]) (by kernel_rfl) (by simp) (AllReady.cons rfl (fun K hK => ?_) (AllReady.cons rfl (fun K hK => ?_) AllReady.nil))
    ·go_simp
     refine hK _ _ ?_; clear hK K
     refine wpAny_ready (rs := [3]) (by kernel_rfl) (by simp) (AllReady.cons rfl (fun K hK => ?_) AllReady.nil)
     go_simp
     go_wp2_with (go_at_call 44; refine (readLine_ok HXS.out (bm := w.heap.size + 1 + 1) (by exact HM.out) (by exact HGw.out.keep (Nat.le_refl _) (fun _ _ => rfl))).mono ?_; rw [HRx.out]; rintro e w5 ⟨rfl, hb5⟩)
     refine leaves_cons (f := 41) (args := #[.pointer (some ⟨w.heap.size, 0, none⟩), .pointer (some ⟨w.heap.size + 1, 0, none⟩)]) (by simp) (by simp [go_sem]) ?_
     have k1 := (hb5.block _ (Array.getElem?_eq_some_iff.1 hrl.l).1).trans hrl.l
     have k2 := (hb5.block _ (Array.getElem?_eq_some_iff.1 hrl.ok).1).trans hrl.ok
     refine (catch_panic w.heap.size (w.heap.size + 1) v (.bool false) 23 _ [] w5 (cell_of_row w5 _ 0 _ _ _ k1) (frozen_of_row w5 _ 0 _ _ k1) (cell_of_row w5 _ 0 _ _ _ k2) (frozen_of_row w5 _ 0 _ _ k2) (by omega)).mono ?_
     rintro e u' w'' ⟨rfl, rfl, rfl⟩
     exact caught _ k1 k2 (hrl.bel.drew.trans (hb5.mono hrl.bel.size)) (by rfl) (by rfl)
    ·go_simp
     go_wp2_with (go_at_call 44; refine (readLine_ok HXS.out (bm := w.heap.size + 1 + 1) (by exact HM.out) (by exact HGw.out.keep (Nat.le_refl _) (fun _ _ => rfl))).mono ?_; rw [HRx.out]; rintro e w5 ⟨rfl, hb5⟩)
     refine leaves_cons (f := 41) (args := #[.pointer (some ⟨w.heap.size, 0, none⟩), .pointer (some ⟨w.heap.size + 1, 0, none⟩)]) (by simp) (by simp [go_sem]) ?_
     have k1 := (hb5.block _ (Array.getElem?_eq_some_iff.1 hrl.l).1).trans hrl.l
     have k2 := (hb5.block _ (Array.getElem?_eq_some_iff.1 hrl.ok).1).trans hrl.ok
     refine (catch_panic w.heap.size (w.heap.size + 1) v (.bool false) 23 _ [] w5 (cell_of_row w5 _ 0 _ _ _ k1) (frozen_of_row w5 _ 0 _ _ k1) (cell_of_row w5 _ 0 _ _ _ k2) (frozen_of_row w5 _ 0 _ _ k2) (by omega)).mono ?_
     rintro e u' w'' ⟨rfl, rfl, rfl⟩
     exact caught _ k1 k2 (hrl.bel.drew.trans (hb5.mono hrl.bel.size)) (by rfl) (by rfl)
   | some i =>
    have HRx := Lib.hid hr
    have hn6 : n ≤ 4096 := by have h7 := countB_le ⟨#[10]⟩ (by show 1 ≤ (#[10] : Array UInt8).size; simp) _ ⟨(trimSuffix s.data.toList [10]).toArray⟩ (Nat.le_refl _); have h8 := HTS.out; have h9 := HLL.out; omega
    obtain ⟨i0, hi, hz0, hz1, hz2⟩ := info_parts infoIns
    clear hr
    go_wp2
    clear h0 hn hlt
    refine wp_region_any (by kernel_rfl) ?_
    change wpAny _ _ _ _ _ _ _ (World.drew _)
    refine wpAny_take (i := 1) (v := ?_) rfl (by kernel_rfl) (by kernel_rfl) (by kernel_rfl) (fun c a w h => q_put (by decide) (by decide) _ c a w h) (Or.inl ⟨by rfl, ?_⟩) ?_
    rotate_left
    ·intro w'; go_simp; try with_reducible rfl
    refine wpAny_take (i := 2) (v := ?_) rfl (by kernel_rfl) (by kernel_rfl) (by kernel_rfl) (fun c a w h => q_put (by decide) (by decide) _ c a w h) (Or.inl ⟨by rfl, ?_⟩) ?_
    rotate_left
    ·intro w'; go_simp; try with_reducible rfl
    refine wpAny_ready (rs := [0, 3]) (by kernel_rfl) (by simp) (AllReady.cons rfl (fun K hK => ?_) (AllReady.cons rfl (fun K hK => ?_) AllReady.nil))
    ·go_simp
     refine hK _ _ ?_; clear hK K
     refine wpAny_ready (rs := [3]) (by kernel_rfl) (by simp) (AllReady.cons rfl (fun K hK => ?_) AllReady.nil)
     go_simp
     go_wp2_with (go_at_call 44; refine (readLine_ok HXS.out (bm := w.heap.size + 1 + 1) (by exact HM.out) (by exact HGw.out.keep (Nat.le_refl _) (fun _ _ => rfl))).mono ?_; rw [HRx.out]; rintro e w5 ⟨rfl, hb5⟩; have c5 : w5.cell? ⟨w.heap.size, 0, none⟩ = some v := cell_of_row w5 _ 0 _ _ _ ((hb5.block _ (Array.getElem?_eq_some_iff.1 hrl.l).1).trans hrl.l); have hlt5 : w.heap.size < w5.heap.size := Nat.lt_of_lt_of_le (Array.getElem?_eq_some_iff.1 hrl.l).1 hb5.size)
     refine wpAny_ready (rs := [4]) (by kernel_rfl) (by simp) (AllReady.cons rfl (fun K hK => ?_) AllReady.nil)
     go_simp
     refine hK _ _ ?_; clear hK K
     refine wpAny_ready (rs := [5]) (by kernel_rfl) (by simp) (AllReady.cons rfl (fun K hK => ?_) AllReady.nil)
     rw [if_pos (by simp [Region.wanted])]
     refine wp_append_own _ (.tmp 17) (.tmp 21) T22 rfl (bl + 1) T40 i0 _ 5 40 Tryz.underlying22 hi hz0 hz1 hz2 rfl (by decide) v n (accC acc) rfl (own_step hrl hb5) ⟨w5.heap.size, 0, none⟩ 1 1 (icells i).toList rfl rfl (new_cells w5 i) (icells_ones i) (by unfold maxLen; omega) (by omega) (base_step hrl hb5) ?_
     intro v' w6 hown6 hgr6 _
     obtain ⟨ao, n', cap, rfl⟩ := row_slice hown6
     have k6 := l_kept hrl hb5 hgr6
     have c6 : w6.cell? ⟨w.heap.size, 0, none⟩ = some v := cell_of_row w6 _ 0 _ _ _ k6
     have f6 : w6.frozen? ⟨w.heap.size, 0, none⟩ = false := frozen_of_row w6 _ 0 _ _ k6
     refine hK _ _ ?_; clear hK K
     refine wpAny_ready (rs := [6]) (by kernel_rfl) (by simp) (AllReady.cons rfl (fun K hK => ?_) AllReady.nil)
     go_simp
     refine hK _ _ ?_; clear hK K
     refine wpAny_done (by kernel_rfl) ?_ _
     have hnx := rl_step hrl Hx.out HRx.out hb5 hown6 hgr6
     go_wp2
     go_roundw
     case rel => exact ⟨n + 1, acc ++ [i], _, HLT.out, by go_num, hnx⟩
     case measure => have := HLT.out; simp [RowKit.intOf]; omega
    ·go_simp
     go_wp2_with (go_at_call 44; refine (readLine_ok HXS.out (bm := w.heap.size + 1 + 1) (by exact HM.out) (by exact HGw.out.keep (Nat.le_refl _) (fun _ _ => rfl))).mono ?_; rw [HRx.out]; rintro e w5 ⟨rfl, hb5⟩; have c5 : w5.cell? ⟨w.heap.size, 0, none⟩ = some v := cell_of_row w5 _ 0 _ _ _ ((hb5.block _ (Array.getElem?_eq_some_iff.1 hrl.l).1).trans hrl.l); have hlt5 : w.heap.size < w5.heap.size := Nat.lt_of_lt_of_le (Array.getElem?_eq_some_iff.1 hrl.l).1 hb5.size)
     refine wpAny_ready (rs := [0, 4]) (by kernel_rfl) (by simp) (AllReady.cons rfl (fun K hK => ?_) (AllReady.cons rfl (fun K hK => ?_) AllReady.nil))
     ·go_simp
      refine hK _ _ ?_; clear hK K
      refine wpAny_ready (rs := [4]) (by kernel_rfl) (by simp) (AllReady.cons rfl (fun K hK => ?_) AllReady.nil)
      go_simp
      refine hK _ _ ?_; clear hK K
      refine wpAny_ready (rs := [5]) (by kernel_rfl) (by simp) (AllReady.cons rfl (fun K hK => ?_) AllReady.nil)
      rw [if_pos (by simp [Region.wanted])]
      refine wp_append_own _ (.tmp 17) (.tmp 21) T22 rfl (bl + 1) T40 i0 _ 5 40 Tryz.underlying22 hi hz0 hz1 hz2 rfl (by decide) v n (accC acc) rfl (own_step hrl hb5) ⟨w5.heap.size, 0, none⟩ 1 1 (icells i).toList rfl rfl (new_cells w5 i) (icells_ones i) (by unfold maxLen; omega) (by omega) (base_step hrl hb5) ?_
      intro v' w6 hown6 hgr6 _
      obtain ⟨ao, n', cap, rfl⟩ := row_slice hown6
      have k6 := l_kept hrl hb5 hgr6
      have c6 : w6.cell? ⟨w.heap.size, 0, none⟩ = some v := cell_of_row w6 _ 0 _ _ _ k6
      have f6 : w6.frozen? ⟨w.heap.size, 0, none⟩ = false := frozen_of_row w6 _ 0 _ _ k6
      refine hK _ _ ?_; clear hK K
      refine wpAny_ready (rs := [6]) (by kernel_rfl) (by simp) (AllReady.cons rfl (fun K hK => ?_) AllReady.nil)
      go_simp
      refine hK _ _ ?_; clear hK K
      refine wpAny_done (by kernel_rfl) ?_ _
      have hnx := rl_step hrl Hx.out HRx.out hb5 hown6 hgr6
      go_wp2
      go_roundw
      case rel => exact ⟨n + 1, acc ++ [i], _, HLT.out, by go_num, hnx⟩
      case measure => have := HLT.out; simp [RowKit.intOf]; omega
     ·go_simp
      refine hK _ _ ?_; clear hK K
      refine wpAny_ready (rs := [0]) (by kernel_rfl) (by simp) (AllReady.cons rfl (fun K hK => ?_) AllReady.nil)
      go_simp
      refine hK _ _ ?_; clear hK K
      refine wpAny_ready (rs := [5]) (by kernel_rfl) (by simp) (AllReady.cons rfl (fun K hK => ?_) AllReady.nil)
      rw [if_pos (by simp [Region.wanted])]
      refine wp_append_own _ (.tmp 17) (.tmp 21) T22 rfl (bl + 1) T40 i0 _ 5 40 Tryz.underlying22 hi hz0 hz1 hz2 rfl (by decide) v n (accC acc) rfl (own_step hrl hb5) ⟨w5.heap.size, 0, none⟩ 1 1 (icells i).toList rfl rfl (new_cells w5 i) (icells_ones i) (by unfold maxLen; omega) (by omega) (base_step hrl hb5) ?_
      intro v' w6 hown6 hgr6 _
      obtain ⟨ao, n', cap, rfl⟩ := row_slice hown6
      have k6 := l_kept hrl hb5 hgr6
      have c6 : w6.cell? ⟨w.heap.size, 0, none⟩ = some v := cell_of_row w6 _ 0 _ _ _ k6
      have f6 : w6.frozen? ⟨w.heap.size, 0, none⟩ = false := frozen_of_row w6 _ 0 _ _ k6
      refine hK _ _ ?_; clear hK K
      refine wpAny_ready (rs := [6]) (by kernel_rfl) (by simp) (AllReady.cons rfl (fun K hK => ?_) AllReady.nil)
      go_simp
      refine hK _ _ ?_; clear hK K
      refine wpAny_done (by kernel_rfl) ?_ _
      have hnx := rl_step hrl Hx.out HRx.out hb5 hown6 hgr6
      go_wp2
      go_roundw
      case rel => exact ⟨n + 1, acc ++ [i], _, HLT.out, by go_num, hnx⟩
      case measure => have := HLT.out; simp [RowKit.intOf]; omega
  ·obtain rfl : n = ls.length := by omega
   have hR2 : R = some acc := by
    rw [← HR.out, hrl.all, List.drop_length]; simp [rdAll]
   have HR2 := Lib.hid hR2
   have hcl : wr.cell? ⟨w.heap.size, 0, none⟩ = some v := cell_of_row wr _ 0 _ _ _ hrl.l
   have hfl : wr.frozen? ⟨w.heap.size, 0, none⟩ = false := frozen_of_row wr _ 0 _ _ hrl.l
   have k2 : (wr.setCell ⟨w.heap.size, 0, none⟩ v).heap[w.heap.size + 1]? = some (.cells #[.bool false] T4 (0, 0)) := (heap_setCell_other _ _ _ _ (by simp)).trans hrl.ok
   have hco : (wr.setCell ⟨w.heap.size, 0, none⟩ v).cell? ⟨w.heap.size + 1, 0, none⟩ = some (.bool false) := cell_of_row _ _ 0 _ _ _ k2
   have hfo : (wr.setCell ⟨w.heap.size, 0, none⟩ v).frozen? ⟨w.heap.size + 1, 0, none⟩ = false := frozen_of_row _ _ 0 _ _ k2
   obtain ⟨ao, n', cap, rfl⟩ := row_slice hrl.own
   clear hR2 h0 k2
   go_wp2
   refine leaves_cons (f := 41) (args := #[.pointer (some ⟨w.heap.size, 0, none⟩), .pointer (some ⟨w.heap.size + 1, 0, none⟩)]) (by simp) (by simp [go_sem]) ?_
   refine (catch_none w.heap.size (w.heap.size + 1) _).mono ?_
   rintro e u' w'' ⟨rfl, rfl, rfl⟩
   rw [HR2.out]
   exact passed hrl (by rfl) (by rfl)
theorem bytes_loop (s : ByteArray) : ∀ (n i : Nat) (r : List UInt8), s.size - i = n → ByteArray.toList.loop s i r = r.reverse ++ s.data.toList.drop i
 | 0, i, r, h => by
  unfold ByteArray.toList.loop
  rw [if_neg (by omega), List.drop_eq_nil_of_le (by show s.data.toList.length ≤ i; simp; have : s.data.size = s.size := rfl; omega), List.append_nil]
 | n + 1, i, r, h => by
  unfold ByteArray.toList.loop
  rw [if_pos (by omega), bytes_loop s n (i + 1) _ (by omega)]
  have hi : i < s.data.toList.length := by simp; have : s.data.size = s.size := rfl; omega
  rw [List.drop_eq_getElem_cons hi, List.reverse_cons, List.append_assoc]
  have : s.get! i = s.data.toList[i] := by
   have h2 : i < s.data.size := by simpa using hi
   obtain ⟨a⟩ := s
   show a[i]! = _
   rw [getElem!_pos a i h2]; simp
  rw [this]; rfl
theorem bytes_list (s : ByteArray) : s.toList = s.data.toList := by
 show ByteArray.toList.loop s 0 [] = _
 rw [bytes_loop s _ 0 [] rfl]; simp
def readS (s : ByteArray) : Option (List Ins) :=
 if s.size ≤ 4096 then
  match rdAll (linesOf s) with
  | none => none
  | some L => if codeErr L = 0 ∧ (⟨(shown L).toArray⟩ : ByteArray) = s then some L else none
 else none
/- what Read hands back -/
def Rr (B : Nat) (w : World) : Option (List Ins) → Ending → World → Prop
 | none, e, w' => e = .returned (.tuple #[.slice none 0 0, .int .i64 1]) ∧ Below B w w'
 | some L, e, w' => (∃ g c, e = .returned (.tuple #[.slice (some ⟨g, 0, none⟩) L.length c, .int .i64 0]) ∧ B ≤ g ∧ PAt w' g 0 L) ∧ Below B w w'
theorem accC_eq (β : Bs) : ∀ L : List Ins, accC L = (pcell L).map (AC.g β)
 | [] => rfl
 | i :: L => by
  have := accC_eq β L
  show (icells i).toList ++ accC L = (i.cs ++ pcell L).map (AC.g β)
  rw [List.map_append, ← this]
  rfl
theorem pat_of {w : World} {bl : Nat} {v : Value} {L : List Ins} (h : w.ownsRow bl T40 5 v L.length (accC L)) (h0 : L ≠ []) : ∃ g c, v = .slice (some ⟨g, 0, none⟩) L.length c ∧ bl ≤ g ∧ PAt w g 0 L := by
 rcases h.2 with ⟨_, h1⟩ | ⟨g, cap, cur, rfl, hb, hc, h1, _, h2, h3⟩
 ·exact absurd (List.length_eq_zero_iff.1 h1) h0
 ·refine ⟨g, cap, rfl, hb, (Array.getElem?_eq_some_iff.1 hc).1, fun j c hj β => ?_⟩
  rw [cell_of_row w g _ _ _ _ hc, Nat.zero_add]
  have h4 : (accC L)[j]? = some (AC.g β c) := by rw [accC_eq β, List.getElem?_map, hj]; rfl
  rw [← h3, List.getElem?_take] at h4
  split at h4
  ·simpa using h4
  ·cases h4
theorem rdAll_len : ∀ {ls : List ByteArray} {L : List Ins}, rdAll ls = some L → L.length = ls.length
 | [], L, h => by simp [rdAll] at h; subst h; rfl
 | x :: ls, L, h => by
  unfold rdAll at h
  split at h
  ·rw [Option.map_eq_some_iff] at h
   obtain ⟨M, hM, rfl⟩ := h
   simp [rdAll_len hM]
  ·cases h
theorem pat_below {w w' : World} {b o : Nat} {L : List Ins} (h : PAt w b o L) (hb : Below w.heap.size w w') : PAt w' b o L :=
 ⟨Nat.lt_of_lt_of_le h.1 hb.size, fun j c hj β => by rw [hb.cell (p := ⟨b, o + j, none⟩) h.1]; exact h.2 j c hj β⟩
set_option maxHeartbeats 1000000 in
theorem read_ok (s : ByteArray) {w : World} (hg : Gw w) : Calls Tryz.prog 7 #[.string s] w (Rr w.heap.size w (readS s)) := by
 unfold readS
 by_cases hs : s.size ≤ 4096
 ·rw [if_pos hs]
  have hrl := readLines_ok hs hg rfl
  cases hR : rdAll (linesOf s) with
  | none =>
   rw [hR] at hrl
   clear hR
   go_enter Tryz.func7, Tryz.ntmps7
   go_wp2_with (first
    | (go_at_call 22; refine hrl.mono ?_; rintro e w1 ⟨rfl, hb1⟩)
    | go_in)
   go_ret2
   exact ⟨rfl, hb1⟩
  | some L =>
   rw [hR] at hrl
   have hne : L ≠ [] := fun e => by
    have h1 := rdAll_len hR
    have h2 := words_len ⟨(trimSuffix s.data.toList [10]).toArray⟩ 10
    rw [e] at h1
    have h3 : (linesOf s).length = countB ⟨(trimSuffix s.data.toList [10]).toArray⟩ ⟨#[10]⟩ + 1 := h2
    simp only [List.length_nil] at h1
    omega
   clear hR
   simp only
   have hrl2 : Calls Tryz.prog 22 #[.string s] w fun e w' => ∃ g c, e = .returned (.tuple #[.slice (some ⟨g, 0, none⟩) L.length c, .bool true]) ∧ w.heap.size ≤ g ∧ PAt w' g 0 L ∧ Below w.heap.size w w' := hrl.mono fun e w' ⟨⟨v, bl, he, hbl, ho⟩, hb⟩ => by
    obtain ⟨g, c, rfl, hg, hp⟩ := pat_of ho hne
    exact ⟨g, c, he, Nat.le_trans hbl hg, hp, hb⟩
   clear hrl
   by_cases he : codeErr L = 0
   ·obtain ⟨h64, hF⟩ := flds_of he
    by_cases hsh : (⟨(shown L).toArray⟩ : ByteArray) = s
    ·rw [if_pos ⟨he, hsh⟩]
     have hso : ∀ {w : World} {b o c : Nat}, PAt w b o L → Gw w → Calls Tryz.prog 4 #[.slice (some ⟨b, o, none⟩) L.length c] w fun e w' => e = .returned (.tuple #[.string s, .int .i64 0]) ∧ Below w.heap.size w w' := fun hP hg => by rw [← hsh]; exact show_calls hP hg h64 he hF
     clear hsh hF he hne
     go_enter Tryz.func7, Tryz.ntmps7
     go_wp2_with (first
      | (go_at_call 22; refine hrl2.mono ?_; rintro e w1 ⟨g, c, rfl, hg1, hp1, hb1⟩)
      | (go_at_call 4; refine (hso hp1 (hg.below hb1 hg.size')).mono ?_; rintro e w2 ⟨rfl, hb2⟩)
      | go_in)
     go_ret2
     exact ⟨⟨g, c, rfl, hg1, pat_below hp1 hb2⟩, hb1.trans (hb2.mono hb1.size)⟩
    ·rw [if_neg (fun h => hsh h.2)]
     obtain ⟨T, hT⟩ : ∃ T : ByteArray, T = ⟨(shown L).toArray⟩ := ⟨_, rfl⟩
     have hso : ∀ {w : World} {b o c : Nat}, PAt w b o L → Gw w → Calls Tryz.prog 4 #[.slice (some ⟨b, o, none⟩) L.length c] w fun e w' => e = .returned (.tuple #[.string T, .int .i64 0]) ∧ Below w.heap.size w w' := fun hP hg => by rw [hT]; exact show_calls hP hg h64 he hF
     rw [← hT] at hsh
     have hsl : (T.toList == s.toList) = false := by
      rw [bytes_list, bytes_list]
      refine beq_eq_false_iff_ne.2 fun e => hsh ?_
      obtain ⟨⟨a⟩⟩ := T
      obtain ⟨⟨b⟩⟩ := s
      simp at e
      rw [e]
     clear hT hF he hne hsh
     go_enter Tryz.func7, Tryz.ntmps7
     go_wp2_with (first
      | (go_at_call 22; refine hrl2.mono ?_; rintro e w1 ⟨g, c, rfl, hg1, hp1, hb1⟩)
      | (go_at_call 4; refine (hso hp1 (hg.below hb1 hg.size')).mono ?_; rintro e w2 ⟨rfl, hb2⟩)
      | go_in)
     go_ret2
     exact ⟨rfl, hb1.trans (hb2.mono hb1.size)⟩
   ·rw [if_neg (fun h => he h.1)]
    have hso : ∀ {w : World} {b o c : Nat}, PAt w b o L → Gw w → Calls Tryz.prog 4 #[.slice (some ⟨b, o, none⟩) L.length c] w fun e w' => e = .returned (.tuple #[.string ⟨#[]⟩, .int .i64 (codeErr L)]) ∧ Below w.heap.size w w' := fun hP hg => show_wrong hP hg he
    go_enter Tryz.func7, Tryz.ntmps7
    go_wp2_with (first
     | (go_at_call 22; refine hrl2.mono ?_; rintro e w1 ⟨g, c, rfl, hg1, hp1, hb1⟩)
     | (go_at_call 4; refine (hso hp1 (hg.below hb1 hg.size')).mono ?_; rintro e w2 ⟨rfl, hb2⟩)
     | go_in)
    go_ret2
    exact ⟨rfl, hb1.trans (hb2.mono hb1.size)⟩
 ·rw [if_neg hs]
  have hs2 : 4096 < (s.size : Int) := by omega
  go_enter Tryz.func7, Tryz.ntmps7
  go_wp2
  go_ret2
  exact ⟨rfl, Below.refl _ _⟩
end Go.Proofs.YtkigmocchaikgaaGreatDoor
