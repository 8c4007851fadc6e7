import Derived.Test.YtkigmocchaikgaaDoorCb2
import Derived.Test.YtkigmocchaikgaaDoorCb3
/- Contracts under other keys; blocks, one and two; rows whose room is not asked for. -/
namespace Go.Proofs.YtkigmocchaikgaaDoor
open Go.RowKit
theorem one_look {K : Nat} {en e : Ent} {k : Nat} (h : look [(K, en)] k = some e) : k = K ∧ e = en := by
 rw [look_cons] at h
 split at h
 ·rename_i hk; injection h with h; exact ⟨hk, h.symm⟩
 ·cases h
theorem pC_u (x : BitVec 64) : eqC (.u x) (.u x) = true := by simp [eqC, eqb]
theorem pCs_cons {a : AC} {l : List AC} (h : eqC a a = true) (k : eqCs l l = true) : eqCs (a :: l) (a :: l) = true := by rw [eqCs, h, k]; rfl
theorem two_look {K K' : Nat} {en en' e : Ent} {k : Nat} (h : look [(K, en), (K', en')] k = some e) : (k = K ∧ e = en) ∨ (k = K' ∧ e = en') := by
 rw [look_cons] at h
 split at h
 ·rename_i hk; injection h with h; exact Or.inl ⟨hk, h.symm⟩
 ·exact Or.inr (one_look h)
theorem pC_i (x : Int) : eqC (.i x) (.i x) = true := by simp [eqC]
theorem peq_ins (i : Ins) : eqCs i.cs i.cs = true := pCs_cons (pC_i _) (pCs_cons (pC_i _) (pCs_cons (pC_i _) (pCs_cons (pC_u _) (pCs_cons (pC_i _) rfl))))
abbrev scKn (L L2 : List Ins) (q c d j : Nat) : Kn := ⟨[(0, .c (.sl 0 0 q c)), (1, .c (.sl 1 0 q d)), (5, .c (.i (j : Int)))], [(0, ⟨false, pcell L, 0⟩), (1, ⟨false, pcell L2, 0⟩)], 2⟩
theorem sc_low (L L2 : List Ins) (q c d j : Nat) : Kn.Low (scKn L L2 q c d j) := low_n rfl rfl ⟨pcell_ks L, pcell_ks L2, trivial⟩
theorem scLoop {L : List Ins} {c d : Nat} (hq : L.length ≤ 64) {w : World} {β : Bs} : ∀ n j, j + n = L.length →
  ART Tryd.prog 6 (cx w β 2 []) Tryd.f6.ntmps (cutAt Tryd.f6 0) (scKn L L L.length c d j) (REff w β ⟨.c (.b true), [], none⟩)
 | 0, j, hj => scE_w0 (and_yes (by rw [decide_eq_false (by omega)]; rfl) rfl)
 | n + 1, j, hj => by
  have d0 : decide ((j : Int) < (L.length : Int)) = true := decide_eq_true (by omega)
  have d1 := pble (L := L) (j := j) (by omega)
  have e0 := elt_eff (L := L) (j := j) (by omega)
  exact scR_w0 (u := elt L j) (and_yes d0 (and_yes d0 (and_yes d1 (and_yes d0 (and_yes d1 (and_yes (by rw [peq_ins]; rfl) rfl)))))) e0 e0 (by rw [wrapS (by omega)]) (sc_low _ _ _ _ _ _) (fun _ h => h) (scLoop hq n (j + 1) (by omega))
theorem begin_pp {L L2 : List Ins} {args : List AV} (ha : (keysOf args).all (fun k => Nat.blt k 2) = true) : Begin args [(0, ⟨false, pcell L, 0⟩), (1, ⟨false, pcell L2, 0⟩)] 2 := by
 refine ⟨fun v hv k hk => ?_, fun k e he => ?_⟩
 ·have h2 := List.all_eq_true.1 ha k (List.mem_flatMap.2 ⟨v, hv, hk⟩)
  simpa using h2
 ·rcases two_look he with ⟨rfl, rfl⟩ | ⟨rfl, rfl⟩ <;> exact ⟨by decide, fun c hc j hj => (nk_of (pcell_ks _) hc hj).elim⟩
theorem sameCode_ok {L : List Ins} (hq : L.length ≤ 64) (c d : Nat) : CallOK Tryd.prog ⟨6, [.c (.sl 0 0 L.length c), .c (.sl 1 0 L.length d)], [(0, ⟨false, pcell L, 0⟩), (1, ⟨false, pcell L, 0⟩)], ⟨.c (.b true), [], none⟩⟩ :=
 read_of Tryd.func6 rfl rfl (begin_pp rfl) rfl (fun k en h => by rcases two_look h with ⟨_, rfl⟩ | ⟨_, rfl⟩ <;> rfl) fun w β => scTop_w0 (by simp) (sc_low _ _ _ _ _ 0) (fun _ h => h) (scLoop hq L.length 0 (by omega))
end Go.Proofs.YtkigmocchaikgaaDoor
/- Two programs that are the same, held against each other. -/
namespace Go.Proofs.YtkigmocchaikgaaDoor
open Go.Shelf Go.RowKit Go.Sort Go.Lib
theorem sameCode_calls {L : List Ins} (hq : L.length ≤ 64) {W : World} {b1 o1 b2 o2 : Nat} (c d : Nat) (h1 : PAt W b1 o1 L) (h2 : PAt W b2 o2 L) (hw : Gw W) :
  Calls Tryd.prog 6 #[.slice (some ⟨b1, o1, none⟩) L.length c, .slice (some ⟨b2, o2, none⟩) L.length d] W fun e w' => e = .returned (.bool true) ∧ Below W.heap.size W w' := by
 have hk : ∀ k e, look [(0, (⟨false, pcell L, 0⟩ : Ent)), (1, ⟨false, pcell L, 0⟩)] k = some e → (k = 0 ∨ k = 1) ∧ e = ⟨false, pcell L, 0⟩ := by
  intro k e h
  rw [look_cons] at h
  split at h
  ·rename_i hk; injection h with h; exact ⟨Or.inl hk, h.symm⟩
  ·rw [look_cons] at h
   split at h
   ·rename_i hk; injection h with h; exact ⟨Or.inr hk, h.symm⟩
   ·cases h
 have := (sameCode_ok hq c d).call (fun k => if k = 0 then (b1, o1, c) else (b2, o2, d)) W hw (fun k e he hw => by rw [(hk k e he).2] at hw; cases hw) (fun k e he => ?_) (fun k e _ _ he _ _ hw => ?_)
 ·refine this.mono fun e w' ⟨β', he, hu⟩ => ⟨by rw [he]; rfl, ?_⟩
  exact ⟨hu.frame.os, hu.frame.tape, hu.frame.output, hu.frame.size, fun k hk => hu.frame.block k hk fun ⟨_, _, hm, _⟩ => by cases hm⟩
 ·obtain ⟨hk0, rfl⟩ := hk k e he
  rcases hk0 with rfl | rfl
  ·exact ⟨h1.1, fun j c hj => h1.2 j c hj _, (fun h => by cases h), fun h => absurd rfl h⟩
  ·exact ⟨h2.1, fun j c hj => h2.2 j c hj _, (fun h => by cases h), fun h => absurd rfl h⟩
 ·rw [(hk k e he).2] at hw; cases hw
end Go.Proofs.YtkigmocchaikgaaDoor
/- The laws' own programs and memory. -/
namespace Go.Proofs.YtkigmocchaikgaaDoor
def gL : List Ins := [⟨1, 0, -1, 0#64, 0⟩, ⟨14, 1, -1, 64#64, 1⟩, ⟨15, 0, 0, 0#64, 0⟩, ⟨10, 0, 1, 1#64, 0⟩, ⟨2, 0, -1, 1#64, 0⟩, ⟨15, 0, 0, 0#64, 0⟩]
def g2 : List Ins := [⟨10, 0, 1, 8#64, 0⟩, ⟨15, 0, 0, 0#64, 0⟩]
def memB : ByteArray := strOf ((List.range 64).map fun j => AC.y (BitVec.ofNat 8 (j + 1)))
def m1 : Mach := ⟨1, ⟨0#64, 9#64, 0#64, 0#64, 0#64, 0#64⟩, ⟨true, true, false, false, false, false⟩, memB, 0⟩
end Go.Proofs.YtkigmocchaikgaaDoor
/- The laws' own small program, as a call. -/
namespace Go.Proofs.YtkigmocchaikgaaDoor
open Go.Shelf Go.RowKit Go.Sort Go.Lib
set_option maxHeartbeats 1000000 in
theorem guarded_calls (w : World) : Calls Tryd.prog 16 #[] w fun e w' => e = .returned (.slice (some ⟨w.heap.size, 0, none⟩) 6 6) ∧ PAt w' w.heap.size 0 gL ∧ Below w.heap.size w w' := by
 go_enter Tryd.func16, Tryd.ntmps16
 go_wp2
 go_ret
 refine ⟨rfl, ⟨by simp, fun j c hj β => ?_⟩, below_alloc _ _⟩
 rw [Nat.zero_add, cell_of_row _ _ _ _ _ _ (heap_new _ _)]
 have e : ∀ X : Array Value, X.toList = (pcell gL).map (AC.g β) → X[j]? = some (AC.g β c) := fun X hX => by
  rw [← Array.getElem?_toList, hX, List.getElem?_map, hj]; rfl
 exact e _ rfl
theorem gL_right : codeErr gL = 0 := by decide
theorem gL_len : gL.length = 6 := rfl
theorem check_calls {W : World} {b o c : Nat} {L : List Ins} (h : PAt W b o L) (hw : Gw W) : Calls Tryd.prog 8 #[.slice (some ⟨b, o, none⟩) L.length c] W fun e w' => e = .returned (.int .i64 (codeErr L)) ∧ Below W.heap.size W w' :=
 calls_readV (c := c) h rfl (fun _ => rfl) (check_ok L c) hw
theorem check_nil_calls {W : World} (hw : Gw W) : Calls Tryd.prog 8 #[.slice none 0 0] W fun e w' => e = .returned (.int .i64 2) ∧ Below W.heap.size W w' :=
 calls_of_ok (fun _ => (0, 0, 0)) rfl (fun _ => rfl) check_nil W hw
def gT : ByteArray := ⟨(shown gL).toArray⟩
theorem gT_size : gT.size ≤ 4096 := by
 have h := shown_len (flds_of gL_right).2
 have e : gT.size = (shown gL).length := by simp [gT, ByteArray.size]
 rw [gL_len] at h
 omega
theorem begun_show {W : World} {b o : Nat} (h : PAt W b o gL) (hw : Gw W) : Calls Tryd.prog 4 #[.slice (some ⟨b, o, none⟩) 6 6] W fun e w' => e = .returned (.tuple #[.string gT, .int .i64 0]) ∧ Below W.heap.size W w' :=
 show_calls h hw (flds_of gL_right).1 gL_right (flds_of gL_right).2
theorem begun_read {W : World} (hw : Gw W) : Calls Tryd.prog 5 #[.string gT] W fun e w' => ∃ g c, e = .returned (.tuple #[.slice (some ⟨g, 0, none⟩) 6 c, .int .i64 0]) ∧ PAt w' g 0 gL ∧ Below W.heap.size W w' := by
 have h := read_ok gT hw
 rw [show readS gT = some gL from readS_shown gL_right gT_size] at h
 exact h.mono fun e w' ⟨⟨g, c, he, _, hp⟩, hb⟩ => ⟨g, c, he, hp, hb⟩
theorem begun_check {W : World} {b o : Nat} (h : PAt W b o gL) (hw : Gw W) : Calls Tryd.prog 8 #[.slice (some ⟨b, o, none⟩) 6 6] W fun e w' => e = .returned (.int .i64 0) ∧ Below W.heap.size W w' := by
 have := check_calls (c := 6) h hw
 rw [gL_right] at this
 exact this
theorem gT_text : gT.toList = [109, 111, 118, 32, 114, 48, 32, 48, 10, 105, 102, 108, 116, 32, 114, 49, 32, 54, 52, 32, 49, 10, 101, 120, 105, 116, 10, 108, 111, 97, 100, 32, 49, 32, 114, 48, 32, 114, 49, 32, 48, 10, 97, 100, 100, 32, 114, 48, 32, 49, 10, 101, 120, 105, 116, 10] := by
 rw [bytes_list]
 decide +kernel
set_option maxHeartbeats 1000000 in
theorem begun_calls {w : World} (hg : Gw w) : Calls Tryd.prog 7 #[] w fun e w' => e = .returned (.bool true) ∧ Below w.heap.size w w' := by
 have hgB : ∀ W, Below w.heap.size w W → Gw W := fun W h => hg.below h hg.size'
 have HGB := Lib.hid hgB
 have hB : Below w.heap.size w w := Below.refl _ _
 have gt := gT_text
 clear hgB
 generalize hT : gT = T at *
 go_enter Tryd.func7, Tryd.ntmps7
 go_wp2_with (first
  | (go_at_call 16; refine (guarded_calls _).mono ?_; rintro e w1 ⟨rfl, hp, hb⟩; replace hB := hB.trans (hb.mono hB.size); try replace hr := pat_below hr hb)
  | (go_at_call 4; refine (begun_show hp (HGB.out _ hB)).mono ?_; rw [hT]; rintro e w2 ⟨rfl, hb⟩; replace hB := hB.trans (hb.mono hB.size))
  | (go_at_call 5; rw [← hT]; refine (begun_read (HGB.out _ hB)).mono ?_; rintro e w3 ⟨g, c, rfl, hr, hb⟩; replace hB := hB.trans (hb.mono hB.size))
  | (go_at_call_of 8 (Value.slice none 0 0); refine (check_nil_calls (HGB.out _ hB)).mono ?_; rintro e w4 ⟨rfl, hb⟩; replace hB := hB.trans (hb.mono hB.size); replace hr := pat_below hr hb)
  | (go_at_call 8; refine (begun_check hp (HGB.out _ hB)).mono ?_; rintro e w5 ⟨rfl, hb⟩; replace hB := hB.trans (hb.mono hB.size); replace hr := pat_below hr hb)
  | (go_at_call 6; refine (sameCode_calls (L := gL) (by decide) c 6 hr hp (HGB.out _ hB)).mono ?_; rintro e w6 ⟨rfl, hb⟩; replace hB := hB.trans (hb.mono hB.size))
  | go_in)
 go_ret
 exact ⟨rfl, hB⟩
/- Read and Show of what came: the text t that was shown, then s -/
theorem back_text {L : List Ins} {W : World} {b o c : Nat} (h : PAt W b o L) (hw : Gw W) (he : codeErr L = 0) : Calls Tryd.prog 4 #[.slice (some ⟨b, o, none⟩) L.length c] W fun e w' => e = .returned (.tuple #[.string ⟨(shown L).toArray⟩, .int .i64 0]) ∧ Below W.heap.size W w' :=
 show_calls h hw (flds_of he).1 he (flds_of he).2
theorem readS_some {s : ByteArray} {L : List Ins} (h : readS s = some L) : codeErr L = 0 ∧ (⟨(shown L).toArray⟩ : ByteArray) = s := by
 unfold readS at h
 split at h
 ·split at h
  ·cases h
  ·split at h
   ·rename_i h1
    injection h with h
    subst h
    exact h1
   ·cases h
 ·cases h
theorem read_none {s : ByteArray} (h : readS s = none) {W : World} (hw : Gw W) : Calls Tryd.prog 5 #[.string s] W fun e w' => e = .returned (.tuple #[.slice none 0 0, .int .i64 1]) ∧ Below W.heap.size W w' := by
 have := read_ok s hw
 rw [h] at this
 exact this
theorem read_some {s : ByteArray} {L : List Ins} (h : readS s = some L) {W : World} (hw : Gw W) : Calls Tryd.prog 5 #[.string s] W fun e w' => ∃ g c, e = .returned (.tuple #[.slice (some ⟨g, 0, none⟩) L.length c, .int .i64 0]) ∧ PAt w' g 0 L ∧ Below W.heap.size W w' := by
 have := read_ok s hw
 rw [h] at this
 exact this.mono fun e w' ⟨⟨g, c, he, _, hp⟩, hb⟩ => ⟨g, c, he, hp, hb⟩
theorem show_back {X : List Ins} {s : ByteArray} (h : readS s = some X) {W : World} {b o c : Nat} (hp : PAt W b o X) (hw : Gw W) : Calls Tryd.prog 4 #[.slice (some ⟨b, o, none⟩) X.length c] W fun e w' => e = .returned (.tuple #[.string s, .int .i64 0]) ∧ Below W.heap.size W w' := by
 obtain ⟨he, ht⟩ := readS_some h
 rw [← ht]
 exact back_text hp hw he
theorem eq_self (s : ByteArray) : (s.toList == s.toList) = true := by simp
set_option maxHeartbeats 1000000 in
theorem back_nil (s : ByteArray) {w : World} (hg : Gw w) : Calls Tryd.prog 3 #[.slice none 0 0, .string s] w fun e w' => e = .returned (.bool true) ∧ Below w.heap.size w w' := by
 have hgB : ∀ W, Below w.heap.size w W → Gw W := fun W h => hg.below h hg.size'
 have HGB := Lib.hid hgB
 have hB : Below w.heap.size w w := Below.refl _ _
 have hes := eq_self s
 clear hgB
 cases hS : readS s with
 | none =>
  have HS := Lib.hid hS
  clear hS
  go_enter Tryd.func3, Tryd.ntmps3
  go_wp2_with (first
   | (go_at_call_of 4 (Value.slice none 0 0); refine (show_nil (HGB.out _ hB)).mono ?_; rintro e w1 ⟨rfl, hb⟩; replace hB := hB.trans (hb.mono hB.size))
   | (go_at_call_of 5 (Value.string s); refine (read_none HS.out (HGB.out _ hB)).mono ?_; rintro e w7 ⟨rfl, hb⟩; replace hB := hB.trans (hb.mono hB.size))
   | (go_at_call 7; refine (begun_calls (HGB.out _ hB)).mono ?_; rintro e w9 ⟨rfl, hb⟩; replace hB := hB.trans (hb.mono hB.size))
   | go_in)
  go_ret
  exact ⟨rfl, hB⟩
 | some X =>
  have HS := Lib.hid hS
  clear hS
  go_enter Tryd.func3, Tryd.ntmps3
  go_wp2_with (first
   | (go_at_call_of 4 (Value.slice none 0 0); refine (show_nil (HGB.out _ hB)).mono ?_; rintro e w1 ⟨rfl, hb⟩; replace hB := hB.trans (hb.mono hB.size))
   | (go_at_call_of 5 (Value.string s); refine (read_some HS.out (HGB.out _ hB)).mono ?_; rintro e w7 ⟨gx, cx, rfl, hx, hb⟩; replace hB := hB.trans (hb.mono hB.size))
   | (go_at_call_of 4 (X.length); refine (show_back HS.out hx (HGB.out _ hB)).mono ?_; rintro e w8 ⟨rfl, hb⟩; replace hB := hB.trans (hb.mono hB.size))
   | (go_at_call 7; refine (begun_calls (HGB.out _ hB)).mono ?_; rintro e w9 ⟨rfl, hb⟩; replace hB := hB.trans (hb.mono hB.size))
   | go_in)
  go_ret
  exact ⟨rfl, hB⟩
set_option maxHeartbeats 1000000 in
theorem back_prog {L : List Ins} (s : ByteArray) {w : World} {b o c : Nat} (hP : PAt w b o L) (hg : Gw w) : Calls Tryd.prog 3 #[.slice (some ⟨b, o, none⟩) L.length c, .string s] w fun e w' => e = .returned (.bool true) ∧ Below w.heap.size w w' := by
 have hgB : ∀ W, Below w.heap.size w W → Gw W := fun W h => hg.below h hg.size'
 have HGB := Lib.hid hgB
 have hB : Below w.heap.size w w := Below.refl _ _
 have hes := eq_self s
 clear hgB
 by_cases he : codeErr L = 0
 ·have h64 := (flds_of he).1
  have hsw := back_text (c := c) hP hg he
  by_cases hs4 : (⟨(shown L).toArray⟩ : ByteArray).size ≤ 4096
  ·have hrt := readS_shown he hs4
   obtain ⟨T, hT⟩ : ∃ T : ByteArray, T = ⟨(shown L).toArray⟩ := ⟨_, rfl⟩
   rw [← hT] at hsw hrt hs4
   have HRT := Lib.hid hrt
   have hs5 : (T.size : Int) ≤ 4096 := by omega
   clear hT hrt he hs4
   cases hS : readS s with
   | none =>
    have HS := Lib.hid hS
    clear hS
    go_enter Tryd.func3, Tryd.ntmps3
    go_wp2_with (first
     | (go_at_call_of 4 (L.length); refine hsw.mono ?_; rintro e w1 ⟨rfl, hb⟩; have hP1 := pat_below hP hb; replace hB := hB.trans (hb.mono hB.size))
     | (go_at_call_of 5 (Value.string T); refine (read_some HRT.out (HGB.out _ hB)).mono ?_; rintro e w2 ⟨gl, cl, rfl, hl, hb⟩; replace hP1 := pat_below hP1 hb; replace hB := hB.trans (hb.mono hB.size))
     | (go_at_call 6; refine (sameCode_calls h64 cl c hl hP1 (HGB.out _ hB)).mono ?_; rintro e w3 ⟨rfl, hb⟩; replace hB := hB.trans (hb.mono hB.size))
     | (go_at_call_of 5 (Value.string s); refine (read_none HS.out (HGB.out _ hB)).mono ?_; rintro e w7 ⟨rfl, hb⟩; replace hB := hB.trans (hb.mono hB.size))
     | (go_at_call 7; refine (begun_calls (HGB.out _ hB)).mono ?_; rintro e w9 ⟨rfl, hb⟩; replace hB := hB.trans (hb.mono hB.size))
     | go_in)
    go_ret
    exact ⟨rfl, hB⟩
   | some X =>
    have HS := Lib.hid hS
    clear hS
    go_enter Tryd.func3, Tryd.ntmps3
    go_wp2_with (first
     | (go_at_call_of 4 (L.length); refine hsw.mono ?_; rintro e w1 ⟨rfl, hb⟩; have hP1 := pat_below hP hb; replace hB := hB.trans (hb.mono hB.size))
     | (go_at_call_of 5 (Value.string T); refine (read_some HRT.out (HGB.out _ hB)).mono ?_; rintro e w2 ⟨gl, cl, rfl, hl, hb⟩; replace hP1 := pat_below hP1 hb; replace hB := hB.trans (hb.mono hB.size))
     | (go_at_call 6; refine (sameCode_calls h64 cl c hl hP1 (HGB.out _ hB)).mono ?_; rintro e w3 ⟨rfl, hb⟩; replace hB := hB.trans (hb.mono hB.size))
     | (go_at_call_of 5 (Value.string s); refine (read_some HS.out (HGB.out _ hB)).mono ?_; rintro e w7 ⟨gx, cx, rfl, hx, hb⟩; replace hB := hB.trans (hb.mono hB.size))
     | (go_at_call_of 4 (X.length); refine (show_back HS.out hx (HGB.out _ hB)).mono ?_; rintro e w8 ⟨rfl, hb⟩; replace hB := hB.trans (hb.mono hB.size))
     | (go_at_call 7; refine (begun_calls (HGB.out _ hB)).mono ?_; rintro e w9 ⟨rfl, hb⟩; replace hB := hB.trans (hb.mono hB.size))
     | go_in)
    go_ret
    exact ⟨rfl, hB⟩
  ·have hrt : readS ⟨(shown L).toArray⟩ = none := by unfold readS; rw [if_neg hs4]
   obtain ⟨T, hT⟩ : ∃ T : ByteArray, T = ⟨(shown L).toArray⟩ := ⟨_, rfl⟩
   rw [← hT] at hsw hrt hs4
   have HRT := Lib.hid hrt
   have hs5 : 4096 < (T.size : Int) := by omega
   clear hT hrt he hs4
   cases hS : readS s with
   | none =>
    have HS := Lib.hid hS
    clear hS
    go_enter Tryd.func3, Tryd.ntmps3
    go_wp2_with (first
     | (go_at_call_of 4 (L.length); refine hsw.mono ?_; rintro e w1 ⟨rfl, hb⟩; have hP1 := pat_below hP hb; replace hB := hB.trans (hb.mono hB.size))
     | (go_at_call_of 5 (Value.string T); refine (read_none HRT.out (HGB.out _ hB)).mono ?_; rintro e w2 ⟨rfl, hb⟩; replace hB := hB.trans (hb.mono hB.size))
     | (go_at_call_of 5 (Value.string s); refine (read_none HS.out (HGB.out _ hB)).mono ?_; rintro e w7 ⟨rfl, hb⟩; replace hB := hB.trans (hb.mono hB.size))
     | (go_at_call 7; refine (begun_calls (HGB.out _ hB)).mono ?_; rintro e w9 ⟨rfl, hb⟩; replace hB := hB.trans (hb.mono hB.size))
     | go_in)
    go_ret
    exact ⟨rfl, hB⟩
   | some X =>
    have HS := Lib.hid hS
    clear hS
    go_enter Tryd.func3, Tryd.ntmps3
    go_wp2_with (first
     | (go_at_call_of 4 (L.length); refine hsw.mono ?_; rintro e w1 ⟨rfl, hb⟩; have hP1 := pat_below hP hb; replace hB := hB.trans (hb.mono hB.size))
     | (go_at_call_of 5 (Value.string T); refine (read_none HRT.out (HGB.out _ hB)).mono ?_; rintro e w2 ⟨rfl, hb⟩; replace hB := hB.trans (hb.mono hB.size))
     | (go_at_call_of 5 (Value.string s); refine (read_some HS.out (HGB.out _ hB)).mono ?_; rintro e w7 ⟨gx, cx, rfl, hx, hb⟩; replace hB := hB.trans (hb.mono hB.size))
     | (go_at_call_of 4 (X.length); refine (show_back HS.out hx (HGB.out _ hB)).mono ?_; rintro e w8 ⟨rfl, hb⟩; replace hB := hB.trans (hb.mono hB.size))
     | (go_at_call 7; refine (begun_calls (HGB.out _ hB)).mono ?_; rintro e w9 ⟨rfl, hb⟩; replace hB := hB.trans (hb.mono hB.size))
     | go_in)
    go_ret
    exact ⟨rfl, hB⟩
 ·have hsw := show_wrong (c := c) hP hg he
  cases hS : readS s with
  | none =>
   have HS := Lib.hid hS
   clear hS
   go_enter Tryd.func3, Tryd.ntmps3
   go_wp2_with (first
    | (go_at_call_of 4 (L.length); refine hsw.mono ?_; rintro e w1 ⟨rfl, hb⟩; replace hB := hB.trans (hb.mono hB.size))
    | (go_at_call_of 5 (Value.string s); refine (read_none HS.out (HGB.out _ hB)).mono ?_; rintro e w7 ⟨rfl, hb⟩; replace hB := hB.trans (hb.mono hB.size))
    | (go_at_call 7; refine (begun_calls (HGB.out _ hB)).mono ?_; rintro e w9 ⟨rfl, hb⟩; replace hB := hB.trans (hb.mono hB.size))
    | go_in)
   go_ret
   exact ⟨rfl, hB⟩
  | some X =>
   have HS := Lib.hid hS
   clear hS
   go_enter Tryd.func3, Tryd.ntmps3
   go_wp2_with (first
    | (go_at_call_of 4 (L.length); refine hsw.mono ?_; rintro e w1 ⟨rfl, hb⟩; replace hB := hB.trans (hb.mono hB.size))
    | (go_at_call_of 5 (Value.string s); refine (read_some HS.out (HGB.out _ hB)).mono ?_; rintro e w7 ⟨gx, cx, rfl, hx, hb⟩; replace hB := hB.trans (hb.mono hB.size))
    | (go_at_call_of 4 (X.length); refine (show_back HS.out hx (HGB.out _ hB)).mono ?_; rintro e w8 ⟨rfl, hb⟩; replace hB := hB.trans (hb.mono hB.size))
    | (go_at_call 7; refine (begun_calls (HGB.out _ hB)).mono ?_; rintro e w9 ⟨rfl, hb⟩; replace hB := hB.trans (hb.mono hB.size))
    | go_in)
   go_ret
   exact ⟨rfl, hB⟩
end Go.Proofs.YtkigmocchaikgaaDoor
