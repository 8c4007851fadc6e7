import Derived.Test.YtkigmocchaikgaaGreatDoorCs3
import Derived.Test.YtkigmocchaikgaaGreatDoorCs2
import Derived.Test.YtkigmocchaikgaaGreatDoorProg
/- Numbers read back: plain. -/
namespace Go.Proofs.YtkigmocchaikgaaGreatDoor
open Go.Lib
theorem dec_small {u : Nat} (h : u < 10) : decDigits u = [UInt8.ofNat (48 + u)] := by
 unfold decDigits; rw [dif_pos h]
theorem dec_big {u : Nat} (h : ¬ u < 10) : decDigits u = decDigits (u / 10) ++ [UInt8.ofNat (48 + u % 10)] := by
 rw [decDigits, dif_neg h]
theorem dig_nat {d : Nat} (h : d < 10) : (UInt8.ofNat (48 + d)).toNat = 48 + d := by
 rw [UInt8.toNat_ofNat']; omega
theorem dec_ne (u : Nat) : decDigits u ≠ [] := fun e => by
 have := decDigits_length u
 rw [e] at this
 have := nDigits_pos u
 simp at *
 omega
theorem dec_digit : ∀ (u : Nat), ∀ c ∈ decDigits u, 48 ≤ c.toNat ∧ c.toNat ≤ 57 := fun u => by
 induction u using Nat.strongRecOn with
 | _ u ih =>
  intro c hc
  by_cases h : u < 10
  ·rw [dec_small h, List.mem_singleton] at hc
   subst hc
   rw [dig_nat h]; omega
  ·rw [dec_big h, List.mem_append, List.mem_singleton] at hc
   rcases hc with hc | rfl
   ·exact ih (u / 10) (by omega) c hc
   ·rw [dig_nat (by omega)]; omega
theorem parse_app (M : Nat) : ∀ (l : List UInt8) (acc : Nat) (r : List UInt8) (v : Nat), parseUintM M acc l = .ok v → parseUintM M acc (l ++ r) = parseUintM M v r
 | [], acc, r, v, h => by simp only [parseUintM] at h; injection h with h; subst h; rfl
 | c :: l, acc, r, v, h => by
  simp only [List.cons_append, parseUintM] at h ⊢
  split at h
  ·rename_i h1
   rw [if_pos h1]
   split at h
   ·cases h
   ·rename_i h2
    rw [if_neg h2]
    split at h
    ·cases h
    ·rename_i h3
     rw [if_neg h3]
     exact parse_app M l _ r v h
  ·cases h
theorem parse_dec (u : Nat) (hu : u < 18446744073709551616) : parseUintM 18446744073709551615 0 (decDigits u) = .ok u := by
 induction u using Nat.strongRecOn with
 | _ u ih =>
  by_cases h : u < 10
  ·rw [dec_small h]
   simp only [parseUintM, dig_nat h]
   rw [if_pos (by omega), if_neg (by omega), if_neg (by omega)]
   congr 1; omega
  ·rw [dec_big h, parse_app _ _ _ _ _ (ih (u / 10) (by omega) (by omega))]
   simp only [parseUintM, dig_nat (show u % 10 < 10 by omega)]
   rw [if_pos (by omega), if_neg (by omega), if_neg (by omega)]
   congr 1; omega
theorem numW_dec (x : BitVec 64) : numW ⟨(decDigits x.toNat).toArray⟩ = some x := by
 have h := parse_dec x.toNat (by have := x.isLt; omega)
 have h2 : parseUintB 64 (decDigits x.toNat) = .ok x.toNat := by
  unfold parseUintB
  rw [if_neg (dec_ne _)]
  exact h
 show ((match parseUintB 64 (decDigits x.toNat) with | .ok n => some n | _ => none).map (BitVec.ofNat 64)) = some x
 rw [h2]
 simp
theorem parse10 : ∀ (l : List UInt8) (acc : Nat), parseUint10 acc l = parseUintM 18446744073709551615 acc l
 | [], _ => rfl
 | c :: l, acc => by
  simp only [parseUint10, parseUintM]
  have e : (18446744073709551616 ≤ acc * 10 + (c.toNat - 48)) = (18446744073709551615 < acc * 10 + (c.toNat - 48)) := propext ⟨fun h => by omega, fun h => by omega⟩
  simp only [e, parse10 l]
theorem mag_dec (u : Nat) (hu : u < 18446744073709551616) : parseMag (decDigits u) = .ok u := by
 unfold parseMag
 rw [if_neg (dec_ne _), parse10, parse_dec u hu]
theorem sgnB_itoa (n : Int) (h0 : -64 ≤ n) (h1 : n ≤ 64) : sgnB ⟨(itoa n).toArray⟩ = some n := by
 have key : atoiAll (itoa n) = .ok n := by
  by_cases hn : n < 0
  ·rw [itoa, if_pos hn]
   unfold atoiAll
   simp only
   rw [if_pos (Or.inr (by decide)), mag_dec _ (by omega)]
   simp only
   rw [if_neg (by intro h; exact h.1 (by decide)), if_neg (by omega), if_pos (by decide)]
   congr 1; omega
  ·rw [itoa, if_neg hn]
   obtain ⟨c, r, hc⟩ : ∃ c r, decDigits n.toNat = c :: r := by
    cases h : decDigits n.toNat with
    | nil => exact absurd h (dec_ne _)
    | cons c r => exact ⟨c, r, rfl⟩
   have hd := dec_digit n.toNat c (by rw [hc]; simp)
   have hm := mag_dec n.toNat (by omega)
   rw [hc] at hm ⊢
   unfold atoiAll
   simp only
   rw [if_neg (by omega), hm]
   simp only
   rw [if_neg (by omega), if_neg (by omega), if_neg (by omega)]
   congr 1; omega
 show (match atoiAll (itoa n) with | .ok n => some n | _ => none) = some n
 rw [key]
theorem regW_itoa (n : Int) (h0 : -64 ≤ n) (h1 : n ≤ 64) : regW ⟨(114 :: itoa n).toArray⟩ = some n := by
 have h := sgnB_itoa n h0 h1
 show (if hasPrefix (114 :: itoa n) [114] then sgnB ⟨(trimPrefix (114 :: itoa n) [114]).toArray⟩ else none) = some n
 have hp : hasPrefix (114 :: itoa n) [114] = true := by simp [hasPrefix]
 rw [if_pos hp]
 have ht : trimPrefix (114 :: itoa n) [114] = itoa n := by
  unfold trimPrefix; rw [if_pos hp]; rfl
 rw [ht]; exact h
abbrev wordB (i : Ins) (p : Int) : ByteArray := ⟨(wordW i p).toArray⟩
theorem dec_noR (u : Nat) : hasPrefix (decDigits u) [114] = false := by
 cases h : decDigits u with
 | nil => exact absurd h (dec_ne u)
 | cons c r =>
  have := dec_digit u c (by rw [h]; simp)
  have hc : c ≠ 114 := fun e => by subst e; exact absurd this.2 (by decide)
  show ((114 : UInt8) == c && _) = false
  rw [beq_eq_false_iff_ne.2 (fun e => hc e.symm), Bool.false_and]
theorem set0 {i : Ins} (h : Fld i) (j : Ins) : setW j 0 (wordB i 0) = some { j with d := i.d } := by
 show (regW ⟨(114 :: itoa i.d).toArray⟩).map _ = _
 rw [regW_itoa i.d h.d.1 h.d.2]; rfl
theorem set1 {i : Ins} (h : Fld i) (j : Ins) : setW j 1 (wordB i 1) = some { j with s := i.s } := by
 show (regW ⟨(114 :: itoa i.s).toArray⟩).map _ = _
 rw [regW_itoa i.s h.s.1 h.s.2]; rfl
theorem set2r {i : Ins} (h : Fld i) (hs : i.s ≠ -1) (j : Ins) : setW j 2 (wordB i 2) = some { j with s := i.s } := by
 have e : wordB i 2 = ⟨(114 :: itoa i.s).toArray⟩ := by simp [wordB, wordW, hs]
 have hp : hasPrefix (114 :: itoa i.s) [114] = true := by simp [hasPrefix]
 rw [e]
 simp only [setW, if_neg (show ¬ (2 : Int) = 0 by decide)]
 rw [if_pos (Or.inr ⟨trivial, hp⟩), regW_itoa i.s h.s.1 h.s.2]; rfl
theorem set2n {i : Ins} (hs : i.s = -1) (j : Ins) : setW j 2 (wordB i 2) = some { j with s := -1, im := i.im } := by
 have e : wordB i 2 = ⟨(decDigits i.im.toNat).toArray⟩ := by simp [wordB, wordW, hs]
 have hp := dec_noR i.im.toNat
 rw [e]
 simp only [setW, if_neg (show ¬ (2 : Int) = 0 by decide)]
 rw [if_neg (by rintro (h | h); exact absurd h (by decide); exact absurd (hp.symm.trans h.2) (by decide)), if_pos trivial, numW_dec]; rfl
theorem set3 (i j : Ins) : setW j 3 (wordB i 3) = some { j with im := i.im } := by
 show (numW ⟨(decDigits i.im.toNat).toArray⟩).map _ = _
 rw [numW_dec]; rfl
theorem set4 {i : Ins} (h : Fld i) (j : Ins) : setW j 4 (wordB i 4) = some { j with of := i.of } := by
 show (sgnB ⟨(itoa i.of).toArray⟩).map _ = _
 rw [sgnB_itoa i.of h.f.1 h.f.2]; rfl
theorem eqb_zero {x : BitVec 64} (h : eqb x 0#64 = true) : x = 0 := by
 simpa [eqb] using h
theorem fold_back {i : Ins} (h : Fld i) (hb : bareB i = true) : rdFold ⟨i.op, 0, 0, 0, 0⟩ (plcs i.op) ((plcs i.op).map (wordB i)) = some i := by
 have h1 := h.o1
 have h2 := h.o2
 unfold bareB at hb
 by_cases h10 : i.op = 10
 ·rw [show plcs i.op = [3, 0, 1, 4] by simp [plcs, h10]]
  simp only [List.map_cons, List.map_nil, rdFold, set3, set0 h, set1 h, set4 h]
 by_cases h11 : i.op = 11
 ·rw [show plcs i.op = [3, 0, 4, 1] by simp [plcs, h11]]
  simp only [List.map_cons, List.map_nil, rdFold, set3, set0 h, set1 h, set4 h]
 rw [if_neg (by omega)] at hb
 by_cases h12 : i.op = 12
 ·rw [if_pos h12] at hb
  simp only [Bool.and_eq_true, decide_eq_true_eq] at hb
  rw [show plcs i.op = [4] by simp [plcs, h12]]
  simp only [List.map_cons, List.map_nil, rdFold, set4 h]
  obtain ⟨op, d, s, im, f⟩ := i
  simp only at hb ⊢
  rw [hb.1.1, hb.1.2, eqb_zero hb.2]
 rw [if_neg h12] at hb
 by_cases h13 : i.op = 13 ∨ i.op = 14
 ·rw [if_pos h13] at hb
  rw [show plcs i.op = [0, 2, 4] by unfold plcs; rw [if_neg h10, if_neg h11, if_neg h12, if_pos h13]]
  by_cases hs : i.s = -1
  ·simp only [List.map_cons, List.map_nil, rdFold, set0 h, set2n hs, set4 h]
   obtain ⟨op, d, s, im, f⟩ := i
   simp only at hs ⊢
   rw [hs]
  ·simp only [Bool.or_eq_true, decide_eq_true_eq] at hb
   have hm := eqb_zero (hb.resolve_left hs)
   simp only [List.map_cons, List.map_nil, rdFold, set0 h, set2r h hs, set4 h]
   obtain ⟨op, d, s, im, f⟩ := i
   simp only at hm ⊢
   rw [hm]
 rw [if_neg h13] at hb
 by_cases h15 : i.op = 15
 ·rw [if_pos h15] at hb
  simp only [Bool.and_eq_true, decide_eq_true_eq] at hb
  rw [show plcs i.op = [] by simp [plcs, h15]]
  obtain ⟨op, d, s, im, f⟩ := i
  simp only [rdFold] at hb ⊢
  rw [hb.1.1.1, hb.1.1.2, eqb_zero hb.1.2, hb.2]
 rw [if_neg h15] at hb
 simp only [Bool.and_eq_true, Bool.or_eq_true, decide_eq_true_eq] at hb
 rw [show plcs i.op = [0, 2] by unfold plcs; rw [if_neg h10, if_neg h11, if_neg h12, if_neg h13, if_neg h15]]
 by_cases hs : i.s = -1
 ·simp only [List.map_cons, List.map_nil, rdFold, set0 h, set2n hs]
  obtain ⟨op, d, s, im, f⟩ := i
  simp only at hs hb ⊢
  rw [hs, hb.1]
 ·have hm := eqb_zero (hb.2.resolve_left hs)
  simp only [List.map_cons, List.map_nil, rdFold, set0 h, set2r h hs]
  obtain ⟨op, d, s, im, f⟩ := i
  simp only at hm hb ⊢
  rw [hm, hb.1]
theorem index_none (c : UInt8) : ∀ w : List UInt8, c ∉ w → index w [c] = -1
 | [], _ => rfl
 | b :: w, h => by
  simp only [List.mem_cons, not_or] at h
  unfold index
  have hp : [c].isPrefixOf (b :: w) = false := by
   show (c == b && _) = false
   rw [beq_eq_false_iff_ne.2 h.1, Bool.false_and]
  rw [hp, index_none c w h.2]
  rfl
theorem index_at (c : UInt8) (r : List UInt8) : ∀ w : List UInt8, c ∉ w → index (w ++ c :: r) [c] = w.length
 | [], _ => by
  show index (c :: r) [c] = 0
  unfold index
  rw [if_pos (by show (c == c && _) = true; simp)]
 | b :: w, h => by
  simp only [List.mem_cons, not_or] at h
  have ih := index_at c r w h.2
  rw [List.cons_append]
  unfold index
  have hp : [c].isPrefixOf (b :: (w ++ c :: r)) = false := by
   show (c == b && _) = false
   rw [beq_eq_false_iff_ne.2 h.1, Bool.false_and]
  rw [hp, ih, if_neg (by decide), if_neg (by simp), List.length_cons]
  omega
def joinW (c : UInt8) : List (List UInt8) → List UInt8
 | [] => []
 | [w] => w
 | w :: x :: ws => w ++ c :: joinW c (x :: ws)
theorem split_join (c : UInt8) : ∀ (ws : List (List UInt8)), ws ≠ [] → (∀ w ∈ ws, c ∉ w) → Lib.split (joinW c ws) [c] = ws
 | [], h, _ => absurd rfl h
 | [w], _, h => by
  have hi := index_none c w (h w (by simp))
  show splitK [c] 0 (count w [c]) w = [w]
  rw [count_miss hi]; rfl
 | w :: x :: ws, _, h => by
  have hi := index_at c (joinW c (x :: ws)) w (h w (by simp))
  have ih := split_join c (x :: ws) (by simp) (fun y hy => h y (List.mem_cons_of_mem _ hy))
  show splitK [c] 0 (count (w ++ c :: joinW c (x :: ws)) [c]) (w ++ c :: joinW c (x :: ws)) = _
  have hd : (w ++ c :: joinW c (x :: ws)).drop (w.length + [c].length) = joinW c (x :: ws) := by
   rw [List.drop_append]; simp
  rw [count_hit (by simp) hi, hd, Nat.add_comm]
  unfold splitK
  rw [if_neg (by rw [hi]; simp), hi]
  have hn : ((w.length : Int)).toNat = w.length := by omega
  rw [hn, hd, Nat.add_zero, List.take_left]
  exact congrArg _ ih
theorem words_data (s : ByteArray) (c : UInt8) : (wordsOf s c).map (·.data.toList) = Lib.split s.data.toList [c] := splitB_data _ _ _ _
theorem words_join {c : UInt8} {s : ByteArray} {ws : List (List UInt8)} (hs : s.data.toList = joinW c ws) (h0 : ws ≠ []) (h : ∀ w ∈ ws, c ∉ w) : wordsOf s c = ws.map fun l => ⟨l.toArray⟩ := by
 have h1 := words_data s c
 rw [hs, split_join c ws h0 h] at h1
 have h2 : (wordsOf s c).map (fun b : ByteArray => (⟨b.data.toList.toArray⟩ : ByteArray)) = ws.map fun l => ⟨l.toArray⟩ := by
  rw [← h1, List.map_map]; rfl
 rw [← h2]
 have : ∀ l : List ByteArray, l.map (fun b : ByteArray => (⟨b.data.toList.toArray⟩ : ByteArray)) = l := fun l => by
  induction l with
  | nil => rfl
  | cons a l ih => simp only [List.map_cons, ih]
 exact (this _).symm
/- a line -/
theorem dec_no {c : UInt8} (hc : c.toNat < 48) (u : Nat) : c ∉ decDigits u := fun h => by
 have := dec_digit u c h; omega
theorem itoa_no {c : UInt8} (hc : c.toNat < 45) (n : Int) : c ∉ itoa n := by
 unfold itoa
 split
 ·intro h
  rw [List.mem_cons] at h
  rcases h with rfl | h
  ·exact absurd hc (by decide)
  ·exact dec_no (by omega) _ h
 ·exact dec_no (by omega) _
theorem word_no {c : UInt8} (hc : c.toNat < 45) (i : Ins) (p : Int) : c ∉ wordW i p := by
 have h114 : c ≠ 114 := fun e => by subst e; exact absurd hc (by decide)
 unfold wordW
 repeat' split
 ·simp only [List.mem_cons, not_or]; exact ⟨h114, itoa_no hc _⟩
 ·simp only [List.mem_cons, not_or]; exact ⟨h114, itoa_no hc _⟩
 ·exact itoa_no hc _
 ·exact dec_no (by omega) _
theorem nm_no {c : UInt8} (hc : c.toNat < 45) (k : Nat) (hk : k < 15) : c ∉ nmL k := fun h => by
 have : ∀ k, k < 15 → ∀ x ∈ nmL k, 45 ≤ x.toNat := by decide
 have := this k hk c h
 omega
theorem line_join (i : Ins) : ∀ (nm : List UInt8) (ps : List Int), nm ++ lineW i ps = joinW 32 (nm :: ps.map (wordW i))
 | nm, [] => by simp [lineW, joinW]
 | nm, p :: ps => by
  have ih := line_join i (wordW i p) ps
  show nm ++ (32 :: wordW i p ++ lineW i ps) = nm ++ 32 :: joinW 32 (wordW i p :: ps.map (wordW i))
  rw [← ih]; rfl
def textOf (i : Ins) : List UInt8 := nmL (i.op - 1).toNat ++ lineW i (plcs i.op)
theorem rdLine_body {i : Ins} (h : Fld i) (hb : bareB i = true) {s : ByteArray} (hs : s.data.toList = textOf i) : rdLine s = some i := by
 have h1 := h.o1
 have h2 := h.o2
 obtain ⟨k, hk⟩ : ∃ k : Nat, i.op = (k : Int) + 1 := ⟨(i.op - 1).toNat, by omega⟩
 have hk15 : k < 15 := by omega
 have hw : wordsOf s 32 = (nmL k :: (plcs i.op).map (wordW i)).map fun l => ⟨l.toArray⟩ := by
  refine words_join (c := 32) ?_ (by simp) ?_
  ·rw [hs, textOf, show (i.op - 1).toNat = k by omega, line_join]
  ·intro w hw
   rw [List.mem_cons, List.mem_map] at hw
   rcases hw with rfl | ⟨p, _, rfl⟩
   ·exact nm_no (by decide) k hk15
   ·exact word_no (by decide) i p
 unfold rdLine
 rw [hw]
 unfold rdWords
 simp only [List.map_cons, List.headD_cons, List.tail_cons, List.length_cons, List.length_map]
 rw [oFind_nm k hk15]
 simp only
 rw [← hk, if_pos (by omega), List.map_map]
 exact fold_back h hb
theorem text_no {i : Ins} (h : Fld i) : (10 : UInt8) ∉ textOf i := by
 have h1 := h.o1
 have h2 := h.o2
 unfold textOf
 rw [List.mem_append, not_or]
 refine ⟨nm_no (by decide) _ (by omega), ?_⟩
 unfold lineW
 rw [List.mem_flatMap]
 rintro ⟨p, _, hp⟩
 rw [List.mem_cons] at hp
 rcases hp with hp | hp
 ·exact absurd hp (by decide)
 ·exact word_no (by decide) i p hp
theorem shown_join : ∀ (i : Ins) (L : List Ins), shown (i :: L) = joinW 10 ((i :: L).map textOf) ++ [10]
 | i, [] => by simp [shown, lineOf, textOf, joinW]
 | i, j :: L => by
  have ih := shown_join j L
  have e : shown (i :: j :: L) = textOf i ++ 10 :: shown (j :: L) := by simp [shown, lineOf, textOf]
  rw [e, ih]
  show _ = (textOf i ++ 10 :: joinW 10 ((j :: L).map textOf)) ++ [10]
  simp
theorem trim_nl (l : List UInt8) : trimSuffix (l ++ [10]) [10] = l := by
 have hp : hasSuffix (l ++ [10]) [10] = true := by
  unfold hasSuffix
  simp
 unfold trimSuffix
 rw [if_pos hp]
 simp
theorem rdAll_back : ∀ {L : List Ins}, (∀ i ∈ L, Fld i ∧ bareB i = true) → rdAll ((L.map textOf).map fun l => ⟨l.toArray⟩) = some L
 | [], _ => rfl
 | i :: L, h => by
  have h1 := h i (by simp)
  have ih := rdAll_back (L := L) fun x hx => h x (by simp [hx])
  simp only [List.map_cons, rdAll]
  rw [rdLine_body h1.1 h1.2 (s := ⟨(textOf i).toArray⟩) (by simp)]
  simp only
  rw [ih]; rfl
theorem bare_of {L : List Ins} (h : codeErr L = 0) : ∀ i ∈ L, bareB i = true := by
 unfold codeErr at h
 repeat' split at h
 all_goals try omega
 rename_i h4 _
 intro i hi
 have h4' : L.all bareB = true := by simpa using h4
 exact List.all_eq_true.1 h4' i hi
theorem readS_shown {L : List Ins} (h : codeErr L = 0) (hs : (⟨(shown L).toArray⟩ : ByteArray).size ≤ 4096) : readS ⟨(shown L).toArray⟩ = some L := by
 obtain ⟨_, hF⟩ := flds_of h
 have hB := bare_of h
 have hl : rdAll (linesOf ⟨(shown L).toArray⟩) = some L := by
  cases L with
  | nil => simp [codeErr] at h
  | cons i M =>
   have hw : linesOf ⟨(shown (i :: M)).toArray⟩ = ((i :: M).map textOf).map fun l => ⟨l.toArray⟩ := by
    refine words_join (c := 10) ?_ (by simp) ?_
    ·show trimSuffix (shown (i :: M)) [10] = _
     rw [shown_join, trim_nl]
    ·intro w hw
     rw [List.mem_map] at hw
     obtain ⟨x, hx, rfl⟩ := hw
     exact text_no (hF x hx)
   rw [hw]
   exact rdAll_back fun x hx => ⟨hF x hx, hB x hx⟩
 unfold readS
 rw [if_pos hs, hl]
 simp only
 rw [if_pos ⟨h, trivial⟩]
end Go.Proofs.YtkigmocchaikgaaGreatDoor
/- Ways of bodies, written by a program (ways.py): what each asks for, and hands back. -/
namespace Go.Proofs.YtkigmocchaikgaaGreatDoor
open Go.RowKit
section
abbrev scRK (L L2 : List Ins) (q c d j : Nat) : Kn := ⟨[(0, .c (.sl 0 0 q c)), (1, .c (.sl 1 0 q d)), (5, .c (.i (j : Int)))], [(0, Ent.mk false (pcell L) 0), (1, Ent.mk false (pcell L2) 0)], 2⟩
variable {L L2 : List Ins} {q c d j n : Nat} {C : Cx} {R : Ending → World → Prop} {u : Ins} {w : World} {β : Bs}
theorem scTop_w0 (h : (!(q : Int) != (q : Int) && true) = true) (lo : Kn.Low ⟨[(0, .c (.sl 0 0 q c)), (1, .c (.sl 1 0 q d)), (5, .c (.i 0))], [(0, Ent.mk false (pcell L) 0), (1, Ent.mk false (pcell L2) 0)], 2⟩) (hF : ∀ k, C.F k → k < 2) (z : AR 11 Tryz.f11 C 0 ⟨[(0, .c (.sl 0 0 q c)), (1, .c (.sl 1 0 q d)), (5, .c (.i 0))], [(0, Ent.mk false (pcell L) 0), (1, Ent.mk false (pcell L2) 0)], 2⟩ R) :
  BO 11 Tryz.f11 C [.c (.sl 0 0 q c), .c (.sl 1 0 q d)] [(0, Ent.mk false (pcell L) 0), (1, Ent.mk false (pcell L2) 0)] 2 R :=
 run_cut2 [false] ([true]) [] Tryz.func11 (by kernel_rfl) h cr_nil lo hF z
theorem scR_w0 (h : (decide ((j : Int) < (q : Int)) && (decide ((j : Int) < (q : Int)) && (Nat.ble (0 + (j : Int).toNat * 5 + 5) (pcell L).length && (decide ((j : Int) < (q : Int)) && (Nat.ble (0 + (j : Int).toNat * 5 + 5) (pcell L2).length && (!!eqCs u.cs u.cs && true)))))) = true) (c0 : pe (.ag (((pcell L).drop (0 + (j : Int).toNat * 5)).take 5)) = pe (.ag u.cs)) (c1 : pe (.ag (((pcell L2).drop (0 + (j : Int).toNat * 5)).take 5)) = pe (.ag u.cs)) (c2 : pe (.c (.i (IntKind.i64.wrap ((j : Int) + 1)))) = pe (.c (.i (↑(j + 1) : Int)))) (lo : Kn.Low (scRK L L2 q c d (j + 1))) (hF : ∀ k, C.F k → k < 2) (z : AR 11 Tryz.f11 C 0 (scRK L L2 q c d (j + 1)) R) :
  AR 11 Tryz.f11 C 0 (scRK L L2 q c d j) R :=
 run_cut2 [true, false] ([true]) [(6, 3), (6, 7), (5, 1)] Tryz.func11 (by kernel_rfl) h (cr_same c0 (cr_same c1 (cr_same c2 cr_nil))) lo hF z
theorem scE_w0 (h : (!decide ((j : Int) < (q : Int)) && true) = true) :
  AR 11 Tryz.f11 (cx w β n []) 0 (scRK L L2 q c d j) (REff w β ⟨.c (.b true), [], none⟩) :=
 run_eff2 [] none [false] ([true]) [] Tryz.func11 (ekeys0 rfl n) (by kernel_rfl) h cr_nil
theorem scNil_w0 :
  Ok 11 [.c nilSl, .c nilSl] (.c (.b true)) :=
 val_run2 [false, false] ([false]) [] Tryz.func11 rfl rfl rfl rfl (by kernel_rfl) rfl cr_nil
end
theorem one_look {K : Nat} {en e : Ent} {k : Nat} (h : look [(K, en)] k = some e) : k = K ∧ e = en := by
 rw [look_cons] at h
 split at h
 ·rename_i hk; injection h with h; exact ⟨hk, h.symm⟩
 ·cases h
theorem swp_fst (a b : Nat) : swp a b a = b := by unfold swp; rw [if_pos rfl]
theorem pC_u (x : BitVec 64) : eqC (.u x) (.u x) = true := by simp [eqC, eqb]
theorem pCs_cons {a : AC} {l : List AC} (h : eqC a a = true) (k : eqCs l l = true) : eqCs (a :: l) (a :: l) = true := by rw [eqCs, h, k]; rfl
theorem two_look {K K' : Nat} {en en' e : Ent} {k : Nat} (h : look [(K, en), (K', en')] k = some e) : (k = K ∧ e = en) ∨ (k = K' ∧ e = en') := by
 rw [look_cons] at h
 split at h
 ·rename_i hk; injection h with h; exact Or.inl ⟨hk, h.symm⟩
 ·exact Or.inr (one_look h)
theorem pC_i (x : Int) : eqC (.i x) (.i x) = true := by simp [eqC]
theorem peq_ins (i : Ins) : eqCs i.cs i.cs = true := pCs_cons (pC_i _) (pCs_cons (pC_i _) (pCs_cons (pC_i _) (pCs_cons (pC_u _) (pCs_cons (pC_i _) rfl))))
abbrev scKn (L L2 : List Ins) (q c d j : Nat) : Kn := ⟨[(0, .c (.sl 0 0 q c)), (1, .c (.sl 1 0 q d)), (5, .c (.i (j : Int)))], [(0, ⟨false, pcell L, 0⟩), (1, ⟨false, pcell L2, 0⟩)], 2⟩
theorem sc_low (L L2 : List Ins) (q c d j : Nat) : Kn.Low (scKn L L2 q c d j) := low_n rfl rfl ⟨pcell_ks L, pcell_ks L2, trivial⟩
theorem scLoop {L : List Ins} {c d : Nat} (hq : L.length ≤ 64) {w : World} {β : Bs} : ∀ n j, j + n = L.length →
  ART Tryz.prog 11 (cx w β 2 []) Tryz.f11.ntmps (cutAt Tryz.f11 0) (scKn L L L.length c d j) (REff w β ⟨.c (.b true), [], none⟩)
 | 0, j, hj => scE_w0 (and_yes (by rw [decide_eq_false (by omega)]; rfl) rfl)
 | n + 1, j, hj => by
  have d0 : decide ((j : Int) < (L.length : Int)) = true := decide_eq_true (by omega)
  have d1 := pble (L := L) (j := j) (by omega)
  have e0 := elt_eff (L := L) (j := j) (by omega)
  exact scR_w0 (u := elt L j) (and_yes d0 (and_yes d0 (and_yes d1 (and_yes d0 (and_yes d1 (and_yes (by rw [peq_ins]; rfl) rfl)))))) e0 e0 (by rw [wrapS (by omega)]) (sc_low _ _ _ _ _ _) (fun _ h => h) (scLoop hq n (j + 1) (by omega))
theorem begin_pp {L L2 : List Ins} {args : List AV} (ha : (keysOf args).all (fun k => Nat.blt k 2) = true) : Begin args [(0, ⟨false, pcell L, 0⟩), (1, ⟨false, pcell L2, 0⟩)] 2 := by
 refine ⟨fun v hv k hk => ?_, fun k e he => ?_⟩
 ·have h2 := List.all_eq_true.1 ha k (List.mem_flatMap.2 ⟨v, hv, hk⟩)
  simpa using h2
 ·rcases two_look he with ⟨rfl, rfl⟩ | ⟨rfl, rfl⟩ <;> exact ⟨by decide, fun c hc j hj => (nk_of (pcell_ks _) hc hj).elim⟩
theorem sameCode_ok {L : List Ins} (hq : L.length ≤ 64) (c d : Nat) : CallOK Tryz.prog ⟨11, [.c (.sl 0 0 L.length c), .c (.sl 1 0 L.length d)], [(0, ⟨false, pcell L, 0⟩), (1, ⟨false, pcell L, 0⟩)], ⟨.c (.b true), [], none⟩⟩ :=
 read_of Tryz.func11 rfl rfl (begin_pp rfl) rfl (fun k en h => by rcases two_look h with ⟨_, rfl⟩ | ⟨_, rfl⟩ <;> rfl) fun w β => scTop_w0 (by simp) (sc_low _ _ _ _ _ 0) (fun _ h => h) (scLoop hq L.length 0 (by omega))
theorem sameCode_nil : Ok 11 [.c nilSl, .c nilSl] (.c (.b true)) := scNil_w0
end Go.Proofs.YtkigmocchaikgaaGreatDoor
/- Two programs that are the same, held against each other. -/
namespace Go.Proofs.YtkigmocchaikgaaGreatDoor
open Go.Shelf Go.RowKit Go.Sort Go.Lib
theorem sameCode_calls {L : List Ins} (hq : L.length ≤ 64) {W : World} {b1 o1 b2 o2 : Nat} (c d : Nat) (h1 : PAt W b1 o1 L) (h2 : PAt W b2 o2 L) (hw : Gw W) :
  Calls Tryz.prog 11 #[.slice (some ⟨b1, o1, none⟩) L.length c, .slice (some ⟨b2, o2, none⟩) L.length d] W fun e w' => e = .returned (.bool true) ∧ Below W.heap.size W w' := by
 have hk : ∀ k e, look [(0, (⟨false, pcell L, 0⟩ : Ent)), (1, ⟨false, pcell L, 0⟩)] k = some e → (k = 0 ∨ k = 1) ∧ e = ⟨false, pcell L, 0⟩ := by
  intro k e h
  rw [look_cons] at h
  split at h
  ·rename_i hk; injection h with h; exact ⟨Or.inl hk, h.symm⟩
  ·rw [look_cons] at h
   split at h
   ·rename_i hk; injection h with h; exact ⟨Or.inr hk, h.symm⟩
   ·cases h
 have := (sameCode_ok hq c d).call (fun k => if k = 0 then (b1, o1, c) else (b2, o2, d)) W hw (fun k e he hw => by rw [(hk k e he).2] at hw; cases hw) (fun k e he => ?_) (fun k e _ _ he _ _ hw => ?_)
 ·refine this.mono fun e w' ⟨β', he, hu⟩ => ⟨by rw [he]; rfl, ?_⟩
  exact ⟨hu.frame.os, hu.frame.tape, hu.frame.output, hu.frame.size, fun k hk => hu.frame.block k hk fun ⟨_, _, hm, _⟩ => by cases hm⟩
 ·obtain ⟨hk0, rfl⟩ := hk k e he
  rcases hk0 with rfl | rfl
  ·exact ⟨h1.1, fun j c hj => h1.2 j c hj _, (fun h => by cases h), fun h => absurd rfl h⟩
  ·exact ⟨h2.1, fun j c hj => h2.2 j c hj _, (fun h => by cases h), fun h => absurd rfl h⟩
 ·rw [(hk k e he).2] at hw; cases hw
end Go.Proofs.YtkigmocchaikgaaGreatDoor
/- The laws' own programs and memory. -/
namespace Go.Proofs.YtkigmocchaikgaaGreatDoor
def gL : List Ins := [⟨1, 0, -1, 0#64, 0⟩, ⟨14, 1, -1, 64#64, 1⟩, ⟨15, 0, 0, 0#64, 0⟩, ⟨10, 0, 1, 1#64, 0⟩, ⟨2, 0, -1, 1#64, 0⟩, ⟨15, 0, 0, 0#64, 0⟩]
def g2 : List Ins := [⟨10, 0, 1, 8#64, 0⟩, ⟨15, 0, 0, 0#64, 0⟩]
def memB : ByteArray := strOf ((List.range 64).map fun j => AC.y (BitVec.ofNat 8 (j + 1)))
def m1 : Mach := ⟨1, ⟨0#64, 9#64, 0#64, 0#64, 0#64, 0#64⟩, ⟨true, true, false, false, false, false⟩, memB, 0⟩
end Go.Proofs.YtkigmocchaikgaaGreatDoor
/- The laws' own small program, as a call. -/
namespace Go.Proofs.YtkigmocchaikgaaGreatDoor
open Go.Shelf Go.RowKit Go.Sort Go.Lib
set_option maxHeartbeats 1000000 in
theorem guarded_calls (w : World) : Calls Tryz.prog 25 #[] w fun e w' => e = .returned (.slice (some ⟨w.heap.size, 0, none⟩) 6 6) ∧ PAt w' w.heap.size 0 gL ∧ Below w.heap.size w w' := by
 go_enter Tryz.func25, Tryz.ntmps25
 go_wp2
 go_ret
 refine ⟨rfl, ⟨by simp, fun j c hj β => ?_⟩, below_alloc _ _⟩
 rw [Nat.zero_add, cell_of_row _ _ _ _ _ _ (heap_new _ _)]
 have e : ∀ X : Array Value, X.toList = (pcell gL).map (AC.g β) → X[j]? = some (AC.g β c) := fun X hX => by
  rw [← Array.getElem?_toList, hX, List.getElem?_map, hj]; rfl
 exact e _ rfl
theorem gL_right : codeErr gL = 0 := by decide
theorem gL_len : gL.length = 6 := rfl
theorem check_calls {W : World} {b o c : Nat} {L : List Ins} (h : PAt W b o L) (hw : Gw W) : Calls Tryz.prog 10 #[.slice (some ⟨b, o, none⟩) L.length c] W fun e w' => e = .returned (.int .i64 (codeErr L)) ∧ Below W.heap.size W w' :=
 calls_readV (c := c) h rfl (fun _ => rfl) (check_ok L c) hw
theorem check_nil_calls {W : World} (hw : Gw W) : Calls Tryz.prog 10 #[.slice none 0 0] W fun e w' => e = .returned (.int .i64 2) ∧ Below W.heap.size W w' :=
 calls_of_ok (fun _ => (0, 0, 0)) rfl (fun _ => rfl) check_nil W hw
def gT : ByteArray := ⟨(shown gL).toArray⟩
theorem gT_size : gT.size ≤ 4096 := by
 have h := shown_len (flds_of gL_right).2
 have e : gT.size = (shown gL).length := by simp [gT, ByteArray.size]
 rw [gL_len] at h
 omega
theorem begun_show {W : World} {b o : Nat} (h : PAt W b o gL) (hw : Gw W) : Calls Tryz.prog 4 #[.slice (some ⟨b, o, none⟩) 6 6] W fun e w' => e = .returned (.tuple #[.string gT, .int .i64 0]) ∧ Below W.heap.size W w' :=
 show_calls h hw (flds_of gL_right).1 gL_right (flds_of gL_right).2
theorem begun_read {W : World} (hw : Gw W) : Calls Tryz.prog 7 #[.string gT] W fun e w' => ∃ g c, e = .returned (.tuple #[.slice (some ⟨g, 0, none⟩) 6 c, .int .i64 0]) ∧ PAt w' g 0 gL ∧ Below W.heap.size W w' := by
 have h := read_ok gT hw
 rw [show readS gT = some gL from readS_shown gL_right gT_size] at h
 exact h.mono fun e w' ⟨⟨g, c, he, _, hp⟩, hb⟩ => ⟨g, c, he, hp, hb⟩
theorem begun_check {W : World} {b o : Nat} (h : PAt W b o gL) (hw : Gw W) : Calls Tryz.prog 10 #[.slice (some ⟨b, o, none⟩) 6 6] W fun e w' => e = .returned (.int .i64 0) ∧ Below W.heap.size W w' := by
 have := check_calls (c := 6) h hw
 rw [gL_right] at this
 exact this
theorem gT_text : gT.toList = [109, 111, 118, 32, 114, 48, 32, 48, 10, 105, 102, 108, 116, 32, 114, 49, 32, 54, 52, 32, 49, 10, 101, 120, 105, 116, 10, 108, 111, 97, 100, 32, 49, 32, 114, 48, 32, 114, 49, 32, 48, 10, 97, 100, 100, 32, 114, 48, 32, 49, 10, 101, 120, 105, 116, 10] := by
 rw [bytes_list]
 decide +kernel
set_option maxHeartbeats 1000000 in
theorem begun_calls {w : World} (hg : Gw w) : Calls Tryz.prog 9 #[] w fun e w' => e = .returned (.bool true) ∧ Below w.heap.size w w' := by
 have hgB : ∀ W, Below w.heap.size w W → Gw W := fun W h => hg.below h hg.size'
 have HGB := Lib.hid hgB
 have hB : Below w.heap.size w w := Below.refl _ _
 have gt := gT_text
 clear hgB
 generalize hT : gT = T at *
 go_enter Tryz.func9, Tryz.ntmps9
 go_wp2_with (first
  | (go_at_call 25; refine (guarded_calls _).mono ?_; rintro e w1 ⟨rfl, hp, hb⟩; replace hB := hB.trans (hb.mono hB.size); try replace hr := pat_below hr hb)
  | (go_at_call 4; refine (begun_show hp (HGB.out _ hB)).mono ?_; rw [hT]; rintro e w2 ⟨rfl, hb⟩; replace hB := hB.trans (hb.mono hB.size))
  | (go_at_call 7; rw [← hT]; refine (begun_read (HGB.out _ hB)).mono ?_; rintro e w3 ⟨g, c, rfl, hr, hb⟩; replace hB := hB.trans (hb.mono hB.size))
  | (go_at_call_of 10 (Value.slice none 0 0); refine (check_nil_calls (HGB.out _ hB)).mono ?_; rintro e w4 ⟨rfl, hb⟩; replace hB := hB.trans (hb.mono hB.size); replace hr := pat_below hr hb)
  | (go_at_call 10; refine (begun_check hp (HGB.out _ hB)).mono ?_; rintro e w5 ⟨rfl, hb⟩; replace hB := hB.trans (hb.mono hB.size); replace hr := pat_below hr hb)
  | (go_at_call 11; refine (sameCode_calls (L := gL) (by decide) c 6 hr hp (HGB.out _ hB)).mono ?_; rintro e w6 ⟨rfl, hb⟩; replace hB := hB.trans (hb.mono hB.size))
  | go_in)
 go_ret
 exact ⟨rfl, hB⟩
/- Read and Show of what came: the text t that was shown, then s -/
theorem back_text {L : List Ins} {W : World} {b o c : Nat} (h : PAt W b o L) (hw : Gw W) (he : codeErr L = 0) : Calls Tryz.prog 4 #[.slice (some ⟨b, o, none⟩) L.length c] W fun e w' => e = .returned (.tuple #[.string ⟨(shown L).toArray⟩, .int .i64 0]) ∧ Below W.heap.size W w' :=
 show_calls h hw (flds_of he).1 he (flds_of he).2
end Go.Proofs.YtkigmocchaikgaaGreatDoor
/- Ways of bodies, written by a program (ways.py): what each asks for, and hands back. -/
namespace Go.Proofs.YtkigmocchaikgaaGreatDoor
open Go.RowKit
section
abbrev vaRK (t : ByteArray) (x : BitVec 64) (j : Nat) : Kn := ⟨[(0, .c (.s t)), (3, .c (.u x)), (4, .c (.i (j : Int)))], [], 0⟩
variable {x : BitVec 64} {u t : ByteArray} {V : AV} {C : Cx} {R : Ending → World → Prop} {j n : Nat} {w : World} {β : Bs} {n1 : Int} {i : Ins}
theorem dg_w0 (h : (decide (nv x < 10) && true) = true) :
  Ok 39 [.c (.u x)] (.c (.s (strOf (((splice (rows 1 [.y 0#8]) 0 [.y (BitVec.setWidth 8 (badd (48#64) (x % 10#64)))]).drop 0).take 1)))) :=
 val_run2 [true] ([]) [] Tryz.func39 rfl rfl rfl rfl (by kernel_rfl) h cr_nil
theorem dg_w1 (h : (!decide (nv x < 10) && (decide (ByteArray.size u + ByteArray.size (strOf (((splice (rows 1 [.y 0#8]) 0 [.y (BitVec.setWidth 8 (badd (48#64) (x % 10#64)))]).drop 0).take 1)) ≤ 9223372036854775807) && true)) = true) (c0 : Ok 39 [.c (.u (x / 10#64))] (.c (.s u))) :
  Ok 39 [.c (.u x)] (.c (.s (u ++ strOf (((splice (rows 1 [.y 0#8]) 0 [.y (BitVec.setWidth 8 (badd (48#64) (x % 10#64)))]).drop 0).take 1)))) :=
 val_run2 [false] ([]) [] Tryz.func39 rfl rfl rfl rfl (by kernel_rfl) h (cr_cons c0 cr_nil)
theorem dg_all
  (l0 : (decide (nv x < 10)) = true → (AV.c (.s (strOf (((splice (rows 1 [.y 0#8]) 0 [.y (BitVec.setWidth 8 (badd (48#64) (x % 10#64)))]).drop 0).take 1))) = V))
  (l1 : (decide (nv x < 10)) = false → (decide (ByteArray.size u + ByteArray.size (strOf (((splice (rows 1 [.y 0#8]) 0 [.y (BitVec.setWidth 8 (badd (48#64) (x % 10#64)))]).drop 0).take 1)) ≤ 9223372036854775807)) = true ∧ (Ok 39 [.c (.u (x / 10#64))] (.c (.s u))) ∧ (AV.c (.s (u ++ strOf (((splice (rows 1 [.y 0#8]) 0 [.y (BitVec.setWidth 8 (badd (48#64) (x % 10#64)))]).drop 0).take 1))) = V)) :
  Ok 39 [.c (.u x)] V :=
 (tf (decide (nv x < 10))).elim (fun h0 => (match l0 h0 with | e => ok_eq (dg_w0 (and_yes h0 rfl)) e)) (fun h0 => (match l1 h0 with | ⟨o0, c0, e⟩ => ok_eq (dg_w1 (and_yes (not_yes h0) (and_yes o0 rfl)) c0) e))
theorem vaTop_w0 (hF : ∀ k, C.F k → k < 0) (z : AR 47 Tryz.f47 C 0 ⟨[(0, .c (.s t)), (3, .c (.u 0#64)), (4, .c (.i 0))], [], 0⟩ R) :
  BO 47 Tryz.f47 C [.c (.s t)] [] 0 R :=
 run_cut2 [] ([true]) [] Tryz.func47 (by kernel_rfl) rfl cr_nil (low_of rfl) hF z
theorem vaR_w0 (h : (decide ((j : Int) < (↑(ByteArray.size t) : Int)) && (decide ((j : Int) < 20) && (decide ((j : Int).toNat < ByteArray.size t) && true))) = true) (c0 : pe (.c (.i (IntKind.i64.wrap ((j : Int) + 1)))) = pe (.c (.i (↑(j + 1) : Int)))) (hF : ∀ k, C.F k → k < 0) (z : AR 47 Tryz.f47 C 0 (vaRK t (badd (bmul (10#64) x) (BitVec.setWidth 64 (byteAt t (j : Int).toNat - 48#8))) (j + 1)) R) :
  AR 47 Tryz.f47 C 0 (vaRK t x j) R :=
 run_cut2 [true, true] ([true]) [(4, 1)] Tryz.func47 (by kernel_rfl) h (cr_same c0 cr_nil) (low_of rfl) hF z
theorem vaS_w0 (h : (!decide ((j : Int) < (↑(ByteArray.size t) : Int)) && true) = true) :
  AR 47 Tryz.f47 (cx w β n []) 0 (vaRK t x j) (REff w β ⟨.c (.u x), [], none⟩) :=
 run_eff2 [] none [false, false] ([true]) [] Tryz.func47 (ekeys0 rfl n) (by kernel_rfl) h cr_nil
theorem vaT_w0 (h : (decide ((j : Int) < (↑(ByteArray.size t) : Int)) && (!decide ((j : Int) < 20) && true)) = true) :
  AR 47 Tryz.f47 (cx w β n []) 0 (vaRK t x j) (REff w β ⟨.c (.u x), [], none⟩) :=
 run_eff2 [] none [true, false] ([true]) [] Tryz.func47 (ekeys0 rfl n) (by kernel_rfl) h cr_nil
theorem sm_w0 (h : (decide (4 < (↑(ByteArray.size t) : Int)) && true) = true) :
  Ok 48 [.c (.s t)] (.c (.i 0)) :=
 val_run2 [true] ([]) [] Tryz.func48 rfl rfl rfl rfl (by kernel_rfl) h cr_nil
theorem sm_w1 (h : (!decide (4 < (↑(ByteArray.size t) : Int)) && (decide (0 < (↑(ByteArray.size t) : Int)) && (decide (0 < ByteArray.size t) && (byteAt t 0 == 45#8 && (decide (1 ≤ (↑(ByteArray.size t) : Int)) && decide ((↑(ByteArray.size t) : Int) ≤ (↑(ByteArray.size t) : Int)) && true))))) = true) (c0 : Ok 47 [.c (.s (ByteArray.extract t 1 ((↑(ByteArray.size t) : Int)).toNat))] (.c (.u x))) :
  Ok 48 [.c (.s t)] (.c (.i (IntKind.i64.wrap (0 - IntKind.i64.wrap (nv x))))) :=
 val_run2 [false, true, true] ([]) [] Tryz.func48 rfl rfl rfl rfl (by kernel_rfl) h (cr_cons c0 cr_nil)
theorem sm_w2 (h : (!decide (4 < (↑(ByteArray.size t) : Int)) && (decide (0 < (↑(ByteArray.size t) : Int)) && (decide (0 < ByteArray.size t) && (!byteAt t 0 == 45#8 && true)))) = true) (c0 : Ok 47 [.c (.s t)] (.c (.u x))) :
  Ok 48 [.c (.s t)] (.c (.i (IntKind.i64.wrap (nv x)))) :=
 val_run2 [false, true, false] ([]) [] Tryz.func48 rfl rfl rfl rfl (by kernel_rfl) h (cr_cons c0 cr_nil)
theorem sm_w3 (h : (!decide (4 < (↑(ByteArray.size t) : Int)) && (!decide (0 < (↑(ByteArray.size t) : Int)) && true)) = true) (c0 : Ok 47 [.c (.s t)] (.c (.u x))) :
  Ok 48 [.c (.s t)] (.c (.i (IntKind.i64.wrap (nv x)))) :=
 val_run2 [false, false, false] ([]) [] Tryz.func48 rfl rfl rfl rfl (by kernel_rfl) h (cr_cons c0 cr_nil)
theorem ro_w0 (h : (decide ((↑(ByteArray.size t) : Int) < 2) && true) = true) :
  Ok 46 [.c (.s t)] (.c (.i 0)) :=
 val_run2 [true] ([]) [] Tryz.func46 rfl rfl rfl rfl (by kernel_rfl) h cr_nil
theorem ro_w1 (h : (!decide ((↑(ByteArray.size t) : Int) < 2) && (decide (1 ≤ (↑(ByteArray.size t) : Int)) && decide ((↑(ByteArray.size t) : Int) ≤ (↑(ByteArray.size t) : Int)) && true)) = true) (c0 : Ok 48 [.c (.s (ByteArray.extract t 1 ((↑(ByteArray.size t) : Int)).toNat))] (.c (.i n1))) :
  Ok 46 [.c (.s t)] (.c (.i n1)) :=
 val_run2 [false] ([]) [] Tryz.func46 rfl rfl rfl rfl (by kernel_rfl) h (cr_cons c0 cr_nil)
theorem sg_w0 (h : (decide (n1 < 0) && (decide (1 + ByteArray.size u ≤ 9223372036854775807) && true)) = true) (c0 : Ok 39 [.c (.u (BitVec.ofInt 64 (IntKind.i64.wrap (0 - n1))))] (.c (.s u))) :
  Ok 40 [.c (.i n1)] (.c (.s (ByteArray.mk #[OfNat.ofNat 45] ++ u))) :=
 val_run2 [true] ([]) [] Tryz.func40 rfl rfl rfl rfl (by kernel_rfl) h (cr_cons c0 cr_nil)
theorem sg_w1 (h : (!decide (n1 < 0) && true) = true) (c0 : Ok 39 [.c (.u (BitVec.ofInt 64 n1))] (.c (.s u))) :
  Ok 40 [.c (.i n1)] (.c (.s u)) :=
 val_run2 [false] ([]) [] Tryz.func40 rfl rfl rfl rfl (by kernel_rfl) h (cr_cons c0 cr_nil)
theorem sg_all
  (l0 : (decide (n1 < 0)) = true → (decide (1 + ByteArray.size u ≤ 9223372036854775807)) = true ∧ (Ok 39 [.c (.u (BitVec.ofInt 64 (IntKind.i64.wrap (0 - n1))))] (.c (.s u))) ∧ (AV.c (.s (ByteArray.mk #[OfNat.ofNat 45] ++ u)) = V))
  (l1 : (decide (n1 < 0)) = false → (Ok 39 [.c (.u (BitVec.ofInt 64 n1))] (.c (.s u))) ∧ (AV.c (.s u) = V)) :
  Ok 40 [.c (.i n1)] V :=
 (tf (decide (n1 < 0))).elim (fun h0 => (match l0 h0 with | ⟨o0, c0, e⟩ => ok_eq (sg_w0 (and_yes h0 (and_yes o0 rfl)) c0) e)) (fun h0 => (match l1 h0 with | ⟨c0, e⟩ => ok_eq (sg_w1 (and_yes (not_yes h0) rfl) c0) e))
theorem rg_w0 (h : (decide (1 + ByteArray.size u ≤ 9223372036854775807) && true) = true) (c0 : Ok 39 [.c (.u (BitVec.ofInt 64 n1))] (.c (.s u))) :
  Ok 37 [.c (.i n1)] (.c (.s (ByteArray.mk #[OfNat.ofNat 114] ++ u))) :=
 val_run2 [] ([]) [] Tryz.func37 rfl rfl rfl rfl (by kernel_rfl) h (cr_cons c0 cr_nil)
theorem so_w0 (h : (i.s == -1 && true) = true) (c0 : Ok 39 [.c (.u i.im)] (.c (.s u))) :
  Ok 38 [.ag i.cs] (.c (.s u)) :=
 val_run2 [true] ([]) [] Tryz.func38 rfl rfl rfl rfl (by kernel_rfl) h (cr_cons c0 cr_nil)
theorem so_w1 (h : (!i.s == -1 && true) = true) (c0 : Ok 37 [.c (.i i.s)] (.c (.s u))) :
  Ok 38 [.ag i.cs] (.c (.s u)) :=
 val_run2 [false] ([]) [] Tryz.func38 rfl rfl rfl rfl (by kernel_rfl) h (cr_cons c0 cr_nil)
end
section
abbrev cuKNK (t : ByteArray) (c : BitVec 8) (q p j : Nat) : Kn := ⟨[(0, .c (.s t)), (1, .c (.y c)), (2, .c (.i (q : Int))), (7, .c nilSl), (8, .c (.i (p : Int))), (9, .c (.i (j : Int)))], [], 51⟩
abbrev cuKXK (t : ByteArray) (c : BitVec 8) (q p j r : Nat) (A : List AC) : Kn := ⟨[(0, .c (.s t)), (1, .c (.y c)), (2, .c (.i (q : Int))), (7, .c (.sx 50 r)), (8, .c (.i (p : Int))), (9, .c (.i (j : Int)))], [(50, Ent.mk true A 1)], 51⟩
variable {t : ByteArray} {c : BitVec 8} {q p j r n : Nat} {C : Cx} {R : Ending → World → Prop} {A : List AC} {w : World} {β : Bs}
theorem cuTop_w0 (hF : ∀ k, C.F k → k < 51) (z : AR 23 Tryz.f23 C 0 ⟨[(0, .c (.s t)), (1, .c (.y c)), (2, .c (.i (q : Int))), (7, .c nilSl), (8, .c (.i 0)), (9, .c (.i 0))], [], 51⟩ R) :
  BO 23 Tryz.f23 C [.c (.s t), .c (.y c), .c (.i (q : Int))] [] 0 R :=
 run_cut2 [] ([true]) [] Tryz.func23 (by kernel_rfl) rfl cr_nil (low_of rfl) hF z
theorem cuKN_w0 (h : (decide ((j : Int) ≤ (↑(ByteArray.size t) : Int)) && (decide (0 < (q : Int)) && (!(j : Int) == (↑(ByteArray.size t) : Int) && (decide ((j : Int).toNat < ByteArray.size t) && (!byteAt t (j : Int).toNat == c && true))))) = true) (c0 : pe (.c (.i (IntKind.i64.wrap ((j : Int) + 1)))) = pe (.c (.i (↑(j + 1) : Int)))) (hF : ∀ k, C.F k → k < 51) (z : AR 23 Tryz.f23 C 0 (cuKNK t c q p (j + 1)) R) :
  AR 23 Tryz.f23 C 0 (cuKNK t c q p j) R :=
 run_cut2 [true, true, false, false] ([true]) [(5, 1)] Tryz.func23 (by kernel_rfl) h (cr_same c0 cr_nil) (low_of rfl) hF z
theorem cuEN_w0 (h : (decide ((j : Int) ≤ (↑(ByteArray.size t) : Int)) && (decide (0 < (q : Int)) && ((j : Int) == (↑(ByteArray.size t) : Int) && (decide ((p : Int) ≤ (j : Int)) && decide ((j : Int) ≤ (↑(ByteArray.size t) : Int)) && true)))) = true) (c0 : Eff.mk (.c (.sx 78 1)) [] (some (51 + 10 + 11 + 6, Ent.mk true [.s (ByteArray.extract t ((p : Int)).toNat ((j : Int)).toNat)] 1)) = Eff.mk (.c (.sx 78 1)) [] (some (78, Ent.mk true [.s (ByteArray.extract t p j)] 1))) (c1 : pe (.c (.i (IntKind.i64.wrap ((j : Int) + 1)))) = pe (.c (.i (↑(j + 1) : Int)))) (c2 : pe (.c (.i (IntKind.i64.wrap ((j : Int) + 1)))) = pe (.c (.i (↑(j + 1) : Int)))) (lo : Kn.Low ⟨[(0, .c (.s t)), (1, .c (.y c)), (2, .c (.i (q : Int))), (7, .c (.sx 78 1)), (8, .c (.i (↑(j + 1) : Int))), (9, .c (.i (↑(j + 1) : Int)))], [(78, Ent.mk true [.s (ByteArray.extract t p j)] 1)], 79⟩) (hF : ∀ k, C.F k → k < 79) (z : AR 23 Tryz.f23 C 0 ⟨[(0, .c (.s t)), (1, .c (.y c)), (2, .c (.i (q : Int))), (7, .c (.sx 78 1)), (8, .c (.i (↑(j + 1) : Int))), (9, .c (.i (↑(j + 1) : Int)))], [(78, Ent.mk true [.s (ByteArray.extract t p j)] 1)], 79⟩ R) :
  AR 23 Tryz.f23 C 0 (cuKNK t c q p j) R :=
 run_cut2 [true, true, true, true] ([true]) [(7, 6), (8, 1), (5, 1)] Tryz.func23 (by kernel_rfl) h (cr_same c0 (cr_same c1 (cr_same c2 cr_nil))) lo hF z
theorem cuCN_w0 (h : (decide ((j : Int) ≤ (↑(ByteArray.size t) : Int)) && (decide (0 < (q : Int)) && (!(j : Int) == (↑(ByteArray.size t) : Int) && (decide ((j : Int).toNat < ByteArray.size t) && (byteAt t (j : Int).toNat == c && (decide ((p : Int) ≤ (j : Int)) && decide ((j : Int) ≤ (↑(ByteArray.size t) : Int)) && true)))))) = true) (c0 : Eff.mk (.c (.sx 78 1)) [] (some (51 + 10 + 11 + 6, Ent.mk true [.s (ByteArray.extract t ((p : Int)).toNat ((j : Int)).toNat)] 1)) = Eff.mk (.c (.sx 78 1)) [] (some (78, Ent.mk true [.s (ByteArray.extract t p j)] 1))) (c1 : pe (.c (.i (IntKind.i64.wrap ((j : Int) + 1)))) = pe (.c (.i (↑(j + 1) : Int)))) (c2 : pe (.c (.i (IntKind.i64.wrap ((j : Int) + 1)))) = pe (.c (.i (↑(j + 1) : Int)))) (lo : Kn.Low ⟨[(0, .c (.s t)), (1, .c (.y c)), (2, .c (.i (q : Int))), (7, .c (.sx 78 1)), (8, .c (.i (↑(j + 1) : Int))), (9, .c (.i (↑(j + 1) : Int)))], [(78, Ent.mk true [.s (ByteArray.extract t p j)] 1)], 79⟩) (hF : ∀ k, C.F k → k < 79) (z : AR 23 Tryz.f23 C 0 ⟨[(0, .c (.s t)), (1, .c (.y c)), (2, .c (.i (q : Int))), (7, .c (.sx 78 1)), (8, .c (.i (↑(j + 1) : Int))), (9, .c (.i (↑(j + 1) : Int)))], [(78, Ent.mk true [.s (ByteArray.extract t p j)] 1)], 79⟩ R) :
  AR 23 Tryz.f23 C 0 (cuKNK t c q p j) R :=
 run_cut2 [true, true, false, true] ([true]) [(7, 6), (8, 1), (5, 1)] Tryz.func23 (by kernel_rfl) h (cr_same c0 (cr_same c1 (cr_same c2 cr_nil))) lo hF z
theorem cuKX_w0 (h : (decide ((j : Int) ≤ (↑(ByteArray.size t) : Int)) && (decide ((r : Int) < (q : Int)) && (!(j : Int) == (↑(ByteArray.size t) : Int) && (decide ((j : Int).toNat < ByteArray.size t) && (!byteAt t (j : Int).toNat == c && true))))) = true) (c0 : pe (.c (.i (IntKind.i64.wrap ((j : Int) + 1)))) = pe (.c (.i (↑(j + 1) : Int)))) (lo : Kn.Low (cuKXK t c q p (j + 1) r A)) (hF : ∀ k, C.F k → k < 51) (z : AR 23 Tryz.f23 C 0 (cuKXK t c q p (j + 1) r A) R) :
  AR 23 Tryz.f23 C 0 (cuKXK t c q p j r A) R :=
 run_cut2 [true, true, false, false] ([true]) [(5, 1)] Tryz.func23 (by kernel_rfl) h (cr_same c0 cr_nil) lo hF z
theorem cuEX_w0 (h : (decide ((j : Int) ≤ (↑(ByteArray.size t) : Int)) && (decide ((r : Int) < (q : Int)) && ((j : Int) == (↑(ByteArray.size t) : Int) && (decide ((p : Int) ≤ (j : Int)) && decide ((j : Int) ≤ (↑(ByteArray.size t) : Int)) && (Nat.beq (r * 1) A.length && decide (r + 1 ≤ 137438953472) && Nat.blt 0 r && true))))) = true) (c0 : Eff.mk (.c (.sx 78 (r + 1))) [(50, [])] (some (51 + 10 + 11 + 6, Ent.mk true (A ++ ((splice (rows 1 [.s (ByteArray.mk #[])]) 0 [.s (ByteArray.extract t ((p : Int)).toNat ((j : Int)).toNat)]).drop 0).take 1) 1)) = Eff.mk (.c (.sx 78 (r + 1))) [(50, [])] (some (78, Ent.mk true (A ++ [.s (ByteArray.extract t p j)]) 1))) (c1 : pe (.c (.i (IntKind.i64.wrap ((j : Int) + 1)))) = pe (.c (.i (↑(j + 1) : Int)))) (c2 : pe (.c (.i (IntKind.i64.wrap ((j : Int) + 1)))) = pe (.c (.i (↑(j + 1) : Int)))) (lo : Kn.Low ⟨[(0, .c (.s t)), (1, .c (.y c)), (2, .c (.i (q : Int))), (7, .c (.sx 78 (r + 1))), (8, .c (.i (↑(j + 1) : Int))), (9, .c (.i (↑(j + 1) : Int)))], [(78, Ent.mk true (A ++ [.s (ByteArray.extract t p j)]) 1)], 79⟩) (hF : ∀ k, C.F k → k < 79) (z : AR 23 Tryz.f23 C 0 ⟨[(0, .c (.s t)), (1, .c (.y c)), (2, .c (.i (q : Int))), (7, .c (.sx 78 (r + 1))), (8, .c (.i (↑(j + 1) : Int))), (9, .c (.i (↑(j + 1) : Int)))], [(78, Ent.mk true (A ++ [.s (ByteArray.extract t p j)]) 1)], 79⟩ R) :
  AR 23 Tryz.f23 C 0 (cuKXK t c q p j r A) R :=
 run_cut2 [true, true, true, true] ([true]) [(7, 6), (8, 1), (5, 1)] Tryz.func23 (by kernel_rfl) h (cr_same c0 (cr_same c1 (cr_same c2 cr_nil))) lo hF z
theorem cuCX_w0 (h : (decide ((j : Int) ≤ (↑(ByteArray.size t) : Int)) && (decide ((r : Int) < (q : Int)) && (!(j : Int) == (↑(ByteArray.size t) : Int) && (decide ((j : Int).toNat < ByteArray.size t) && (byteAt t (j : Int).toNat == c && (decide ((p : Int) ≤ (j : Int)) && decide ((j : Int) ≤ (↑(ByteArray.size t) : Int)) && (Nat.beq (r * 1) A.length && decide (r + 1 ≤ 137438953472) && Nat.blt 0 r && true))))))) = true) (c0 : Eff.mk (.c (.sx 78 (r + 1))) [(50, [])] (some (51 + 10 + 11 + 6, Ent.mk true (A ++ ((splice (rows 1 [.s (ByteArray.mk #[])]) 0 [.s (ByteArray.extract t ((p : Int)).toNat ((j : Int)).toNat)]).drop 0).take 1) 1)) = Eff.mk (.c (.sx 78 (r + 1))) [(50, [])] (some (78, Ent.mk true (A ++ [.s (ByteArray.extract t p j)]) 1))) (c1 : pe (.c (.i (IntKind.i64.wrap ((j : Int) + 1)))) = pe (.c (.i (↑(j + 1) : Int)))) (c2 : pe (.c (.i (IntKind.i64.wrap ((j : Int) + 1)))) = pe (.c (.i (↑(j + 1) : Int)))) (lo : Kn.Low ⟨[(0, .c (.s t)), (1, .c (.y c)), (2, .c (.i (q : Int))), (7, .c (.sx 78 (r + 1))), (8, .c (.i (↑(j + 1) : Int))), (9, .c (.i (↑(j + 1) : Int)))], [(78, Ent.mk true (A ++ [.s (ByteArray.extract t p j)]) 1)], 79⟩) (hF : ∀ k, C.F k → k < 79) (z : AR 23 Tryz.f23 C 0 ⟨[(0, .c (.s t)), (1, .c (.y c)), (2, .c (.i (q : Int))), (7, .c (.sx 78 (r + 1))), (8, .c (.i (↑(j + 1) : Int))), (9, .c (.i (↑(j + 1) : Int)))], [(78, Ent.mk true (A ++ [.s (ByteArray.extract t p j)]) 1)], 79⟩ R) :
  AR 23 Tryz.f23 C 0 (cuKXK t c q p j r A) R :=
 run_cut2 [true, true, false, true] ([true]) [(7, 6), (8, 1), (5, 1)] Tryz.func23 (by kernel_rfl) h (cr_same c0 (cr_same c1 (cr_same c2 cr_nil))) lo hF z
theorem cuFX_w0 (h : (!decide ((j : Int) ≤ (↑(ByteArray.size t) : Int)) && true) = true) (hk : EKeys n [] (some 50) ⟨.c (.sx 50 r), [], some (50, Ent.mk true A 1)⟩) :
  AR 23 Tryz.f23 (cx w β n []) 0 (cuKXK t c q p j r A) (REff w β ⟨.c (.sx 50 r), [], some (50, Ent.mk true A 1)⟩) :=
 run_eff2 [] (some 50) [false, false] ([true]) [] Tryz.func23 hk (by kernel_rfl) h cr_nil
theorem cuMX_w0 (h : (decide ((j : Int) ≤ (↑(ByteArray.size t) : Int)) && (!decide ((r : Int) < (q : Int)) && true)) = true) (hk : EKeys n [] (some 50) ⟨.c (.sx 50 r), [], some (50, Ent.mk true A 1)⟩) :
  AR 23 Tryz.f23 (cx w β n []) 0 (cuKXK t c q p j r A) (REff w β ⟨.c (.sx 50 r), [], some (50, Ent.mk true A 1)⟩) :=
 run_eff2 [] (some 50) [true, false] ([true]) [] Tryz.func23 hk (by kernel_rfl) h cr_nil
end
end Go.Proofs.YtkigmocchaikgaaGreatDoor
/- What the reference reads of a text: plain. -/
namespace Go.Proofs.YtkigmocchaikgaaGreatDoor
open Go.RowKit Go.Lib
def cutL (c : UInt8) : Nat → List UInt8 → List UInt8 → List (List UInt8)
 | 0, _, _ => []
 | _ + 1, cur, [] => [cur]
 | k + 1, cur, x :: xs => if x = c then cur :: cutL c k [] xs else cutL c (k + 1) (cur ++ [x]) xs
theorem cutL_word (c : UInt8) (k : Nat) : ∀ (w cur r : List UInt8), c ∉ w → cutL c (k + 1) cur (w ++ r) = cutL c (k + 1) (cur ++ w) r
 | [], cur, r, _ => by simp
 | b :: w, cur, r, h => by
  simp only [List.mem_cons, not_or] at h
  rw [List.cons_append, cutL, if_neg (fun e => h.1 e.symm), cutL_word c k w _ r h.2]
  simp
theorem cutL_join (c : UInt8) : ∀ (ws : List (List UInt8)) (k : Nat), ws ≠ [] → (∀ w ∈ ws, c ∉ w) → ws.length ≤ k → cutL c k [] (joinW c ws) = ws
 | [], _, h, _, _ => absurd rfl h
 | _ :: _, 0, _, _, hk => absurd hk (by simp)
 | [w], k + 1, _, h, _ => by
  have := cutL_word c k w [] [] (h w (by simp))
  simp only [List.append_nil, List.nil_append] at this
  show cutL c (k + 1) [] w = [w]
  rw [this]; rfl
 | w :: x :: ws, k + 1, _, h, hk => by
  show cutL c (k + 1) [] (w ++ c :: joinW c (x :: ws)) = _
  rw [cutL_word c k w [] _ (h w (by simp)), List.nil_append, cutL, if_pos rfl, cutL_join c (x :: ws) k (by simp) (fun y hy => h y (List.mem_cons_of_mem _ hy)) (by simp at hk ⊢; omega)]
theorem cutL_ne (c : UInt8) (k : Nat) : ∀ (r cur : List UInt8), cutL c (k + 1) cur r ≠ []
 | [], _ => by simp [cutL]
 | x :: r, cur => by
  rw [cutL]
  split
  ·simp
  ·exact cutL_ne c k r _
theorem cutL_len (c : UInt8) : ∀ (r cur : List UInt8) (k : Nat), (cutL c k cur r).length ≤ k
 | _, _, 0 => by simp [cutL]
 | [], _, _ + 1 => by simp [cutL]
 | x :: r, cur, k + 1 => by
  rw [cutL]
  split
  ·have := cutL_len c r [] k; simp only [List.length_cons]; omega
  ·exact cutL_len c r _ (k + 1)
theorem cutL_sz (c : UInt8) : ∀ (r cur : List UInt8) (k n : Nat), cur.length + r.length ≤ n → ∀ w ∈ cutL c k cur r, w.length ≤ n
 | _, _, 0, _, _ => by simp [cutL]
 | [], cur, _ + 1, n, h => by simp [cutL]; simpa using h
 | x :: r, cur, k + 1, n, h => by
  simp only [List.length_cons] at h
  rw [cutL]
  split
  ·intro w hw
   rw [List.mem_cons] at hw
   rcases hw with rfl | hw
   ·omega
   ·exact cutL_sz c r [] k n (by simp; omega) w hw
  ·exact cutL_sz c r _ (k + 1) n (by simp; omega)
/- numbers -/
def digV (n : BitVec 64) (c : UInt8) : BitVec 64 := badd (bmul 10#64 n) ((c.toBitVec - 48#8).setWidth 64)
def valP (l : List UInt8) : BitVec 64 := (l.take 20).foldl digV 0#64
theorem digV_dec {u : Nat} (_hu : u < 18446744073709551616) : digV (BitVec.ofNat 64 (u / 10)) (UInt8.ofNat (48 + u % 10)) = BitVec.ofNat 64 u := by
 have e : ∀ d, d < 10 → ((UInt8.ofNat (48 + d)).toBitVec - 48#8).setWidth 64 = BitVec.ofNat 64 d := by decide
 unfold digV
 rw [e _ (Nat.mod_lt _ (by decide))]
 show 10#64 * _ + _ = _
 apply BitVec.eq_of_toNat_eq
 simp only [BitVec.toNat_add, BitVec.toNat_mul, BitVec.toNat_ofNat]
 omega
theorem fold_dec (u : Nat) (hu : u < 18446744073709551616) : (decDigits u).foldl digV 0#64 = BitVec.ofNat 64 u := by
 induction u using Nat.strongRecOn with
 | _ u ih =>
  by_cases h : u < 10
  ·rw [dec_small h]
   have := digV_dec (u := u) hu
   rw [show u / 10 = 0 by omega, show u % 10 = u by omega] at this
   exact this
  ·rw [dec_big h, List.foldl_append, ih (u / 10) (by omega) (by omega)]
   exact digV_dec hu
theorem val_dec (u : Nat) (hu : u < 18446744073709551616) : valP (decDigits u) = BitVec.ofNat 64 u := by
 unfold valP
 rw [List.take_of_length_le (by rw [decDigits_length]; exact nDigits_le20 _ hu)]
 exact fold_dec u hu
theorem val_x (x : BitVec 64) : valP (decDigits x.toNat) = x := by
 rw [val_dec _ (by have := x.isLt; omega)]; simp
def smallP (l : List UInt8) : Int :=
 if 4 < l.length then 0
 else if l.head? = some 45 then IntKind.i64.wrap (0 - IntKind.i64.wrap (nv (valP l.tail)))
 else IntKind.i64.wrap (nv (valP l))
theorem nv_small {u : Nat} (h : u ≤ 64) : nv (BitVec.ofNat 64 u) = (u : Int) := by
 show ((BitVec.ofNat 64 u).toNat : Int) = _
 rw [BitVec.toNat_ofNat]; omega
theorem dec_len2 {u : Nat} (h : u ≤ 64) : (decDigits u).length ≤ 2 := by
 by_cases h1 : u < 10
 ·rw [dec_small h1]; simp
 ·rw [dec_big h1, dec_small (show u / 10 < 10 by omega)]; simp
theorem dec_head (u : Nat) : ∀ c : UInt8, c.toNat < 48 ∨ 57 < c.toNat → (decDigits u).head? ≠ some c := fun c hc e => by
 cases h : decDigits u with
 | nil => exact absurd h (dec_ne _)
 | cons b r =>
  rw [h] at e
  simp only [List.head?_cons, Option.some.injEq] at e
  have := dec_digit u b (by rw [h]; simp)
  rw [e] at this
  omega
theorem small_itoa (n : Int) (h0 : -64 ≤ n) (h1 : n ≤ 64) : smallP (itoa n) = n := by
 by_cases hn : n < 0
 ·have hl := dec_len2 (u := (-n).toNat) (by omega)
  rw [itoa, if_pos hn]
  unfold smallP
  rw [show (-n).toNat = n.natAbs by omega] at hl
  rw [if_neg (by simp only [List.length_cons]; omega), if_pos (by simp), List.tail_cons, val_dec _ (by omega), nv_small (by omega), IntKind.wrap_i64, IntKind.wrap_i64]
  omega
 ·have hl := dec_len2 (u := n.toNat) (by omega)
  rw [itoa, if_neg hn]
  unfold smallP
  rw [if_neg (by omega), if_neg (dec_head _ 45 (by decide)), val_dec _ (by omega), nv_small (by omega), IntKind.wrap_i64]
  omega
def regP (l : List UInt8) : Int := if l.length < 2 then 0 else smallP l.tail
theorem itoa_ne (n : Int) : itoa n ≠ [] := by
 unfold itoa
 split
 ·simp
 ·exact dec_ne _
theorem reg_itoa (n : Int) (h0 : -64 ≤ n) (h1 : n ≤ 64) : regP (114 :: itoa n) = n := by
 unfold regP
 have := List.length_pos_iff.2 (itoa_ne n)
 rw [if_neg (by simp only [List.length_cons]; omega), List.tail_cons]
 exact small_itoa n h0 h1
def opP (l : List UInt8) : Int := match oFind l with | some k => (k : Int) + 1 | none => 0
def fromW (i : Ins) (l : List UInt8) : Ins := if l.head? = some 114 then { i with s := regP l } else { i with s := -1, im := valP l }
def guessW (o : Int) (w1 w2 w3 w4 : List UInt8) : Ins :=
 if 1 ≤ o ∧ o ≤ 9 then fromW ⟨o, regP w1, 0, 0, 0⟩ w2
 else if o = 10 then ⟨10, regP w2, regP w3, valP w1, smallP w4⟩
 else if o = 11 then ⟨11, regP w2, regP w4, valP w1, smallP w3⟩
 else if o = 13 ∨ o = 14 then { fromW ⟨o, regP w1, 0, 0, 0⟩ w2 with of := smallP w3 }
 else if o = 12 then ⟨12, 0, 0, 0, smallP w1⟩
 else ⟨o, 0, 0, 0, 0⟩
def guessL (w : List (List UInt8)) : Ins := guessW (opP (w.getD 0 [])) (w.getD 1 []) (w.getD 2 []) (w.getD 3 []) (w.getD 4 [])
def guessP (l : List UInt8) : Ins := guessL (cutL 32 6 [] l)
theorem word0 {i : Ins} (h : Fld i) : regP (wordW i 0) = i.d := by
 show regP (114 :: itoa i.d) = _
 exact reg_itoa _ h.d.1 h.d.2
theorem word1 {i : Ins} (h : Fld i) : regP (wordW i 1) = i.s := by
 show regP (114 :: itoa i.s) = _
 exact reg_itoa _ h.s.1 h.s.2
theorem word3 (i : Ins) : valP (wordW i 3) = i.im := val_x i.im
theorem word4 {i : Ins} (h : Fld i) : smallP (wordW i 4) = i.of := small_itoa _ h.f.1 h.f.2
theorem word2r {i : Ins} (h : Fld i) (hs : i.s ≠ -1) (j : Ins) : fromW j (wordW i 2) = { j with s := i.s } := by
 have e : wordW i 2 = 114 :: itoa i.s := by simp [wordW, hs]
 rw [e, fromW, if_pos (by simp), reg_itoa _ h.s.1 h.s.2]
theorem word2n {i : Ins} (hs : i.s = -1) (j : Ins) : fromW j (wordW i 2) = { j with s := -1, im := i.im } := by
 have e : wordW i 2 = decDigits i.im.toNat := by simp [wordW, hs]
 rw [e, fromW, if_neg (dec_head _ 114 (by decide)), val_x]
theorem guess_back {i : Ins} (h : Fld i) (hb : bareB i = true) : guessP (textOf i) = i := by
 have h1 := h.o1
 have h2 := h.o2
 obtain ⟨k, hk⟩ : ∃ k : Nat, i.op = (k : Int) + 1 := ⟨(i.op - 1).toNat, by omega⟩
 have hk15 : k < 15 := by omega
 have hw : cutL 32 6 [] (textOf i) = nmL k :: (plcs i.op).map (wordW i) := by
  rw [textOf, show (i.op - 1).toNat = k by omega, line_join]
  refine cutL_join 32 _ 6 (by simp) ?_ ?_
  ·intro w hw
   rw [List.mem_cons, List.mem_map] at hw
   rcases hw with rfl | ⟨p, _, rfl⟩
   ·exact nm_no (by decide) k hk15
   ·exact word_no (by decide) i p
  ·have := plcs_len i.op
   simp only [List.length_cons, List.length_map]; omega
 have ho : opP (nmL k) = i.op := by unfold opP; rw [oFind_nm k hk15, hk]
 unfold guessP
 rw [hw]
 unfold guessL
 rw [List.getD_cons_zero, ho]
 simp only [List.getD_cons_succ]
 unfold guessW
 unfold bareB at hb
 by_cases h10 : i.op = 10
 ·rw [if_neg (by omega), if_pos h10, show plcs i.op = [3, 0, 1, 4] by simp [plcs, h10]]
  simp only [List.map_cons, List.map_nil, List.getD_cons_zero, List.getD_cons_succ, word3, word0 h, word1 h, word4 h]
  rw [← h10]
 by_cases h11 : i.op = 11
 ·rw [if_neg (by omega), if_neg h10, if_pos h11, show plcs i.op = [3, 0, 4, 1] by simp [plcs, h11]]
  simp only [List.map_cons, List.map_nil, List.getD_cons_zero, List.getD_cons_succ, word3, word0 h, word1 h, word4 h]
  rw [← h11]
 rw [if_neg (by omega)] at hb
 by_cases h12 : i.op = 12
 ·rw [if_pos h12] at hb
  simp only [Bool.and_eq_true, decide_eq_true_eq] at hb
  rw [if_neg (by omega), if_neg h10, if_neg h11, if_neg (by omega), if_pos h12, show plcs i.op = [4] by simp [plcs, h12]]
  simp only [List.map_cons, List.map_nil, List.getD_cons_zero, word4 h]
  obtain ⟨op, d, s, im, f⟩ := i
  simp only at hb h12 ⊢
  rw [hb.1.1, hb.1.2, eqb_zero hb.2, h12]
 rw [if_neg h12] at hb
 by_cases h13 : i.op = 13 ∨ i.op = 14
 ·rw [if_pos h13] at hb
  rw [if_neg (by omega), if_neg h10, if_neg h11, if_pos h13, show plcs i.op = [0, 2, 4] by unfold plcs; rw [if_neg h10, if_neg h11, if_neg h12, if_pos h13]]
  simp only [List.map_cons, List.map_nil, List.getD_cons_zero, List.getD_cons_succ, word0 h, word4 h]
  by_cases hs : i.s = -1
  ·rw [word2n hs]
   obtain ⟨op, d, s, im, f⟩ := i
   simp only at hs ⊢
   rw [hs]
  ·simp only [Bool.or_eq_true, decide_eq_true_eq] at hb
   have hm := eqb_zero (hb.resolve_left hs)
   rw [word2r h hs]
   obtain ⟨op, d, s, im, f⟩ := i
   simp only at hm ⊢
   rw [hm]
 rw [if_neg h13] at hb
 by_cases h15 : i.op = 15
 ·rw [if_pos h15] at hb
  simp only [Bool.and_eq_true, decide_eq_true_eq] at hb
  rw [if_neg (by omega), if_neg h10, if_neg h11, if_neg h13, if_neg h12]
  obtain ⟨op, d, s, im, f⟩ := i
  simp only at hb ⊢
  rw [hb.1.1.1, hb.1.1.2, eqb_zero hb.1.2, hb.2]
 rw [if_neg h15] at hb
 simp only [Bool.and_eq_true, Bool.or_eq_true, decide_eq_true_eq] at hb
 rw [if_pos (by omega), show plcs i.op = [0, 2] by unfold plcs; rw [if_neg h10, if_neg h11, if_neg h12, if_neg h13, if_neg h15]]
 simp only [List.map_cons, List.map_nil, List.getD_cons_zero, List.getD_cons_succ, word0 h]
 by_cases hs : i.s = -1
 ·rw [word2n hs]
  obtain ⟨op, d, s, im, f⟩ := i
  simp only at hs hb ⊢
  rw [hs, hb.1]
 ·have hm := eqb_zero (hb.2.resolve_left hs)
  rw [word2r h hs]
  obtain ⟨op, d, s, im, f⟩ := i
  simp only at hm hb ⊢
  rw [hm, hb.1]
/- the program that is shown so -/
def fromL (s : ByteArray) : List Ins := (cutL 10 66 [] s.data.toList).dropLast.map guessP
def fromS (s : ByteArray) : Option (List Ins) :=
 if s.size ≤ 4096 then
  if codeErr (fromL s) = 0 ∧ (⟨(shown (fromL s)).toArray⟩ : ByteArray) = s then some (fromL s) else none
 else none
theorem join_last (c : UInt8) : ∀ (w : List UInt8) (ws : List (List UInt8)), joinW c (w :: ws) ++ [c] = joinW c ((w :: ws) ++ [[]])
 | w, [] => by simp [joinW]
 | w, x :: ws => by
  have ih := join_last c x ws
  show (w ++ c :: joinW c (x :: ws)) ++ [c] = w ++ c :: joinW c ((x :: ws) ++ [[]])
  rw [← ih]; simp
theorem from_shown {L : List Ins} (h : codeErr L = 0) {s : ByteArray} (hs : s.data.toList = shown L) : fromL s = L := by
 obtain ⟨h64, hF⟩ := flds_of h
 have hB := bare_of h
 cases L with
 | nil => simp [codeErr] at h
 | cons i M =>
  unfold fromL
  rw [hs, shown_join]
  have e : (i :: M).map textOf = textOf i :: M.map textOf := rfl
  rw [e, join_last, cutL_join 10 _ 66 (by simp), List.dropLast_concat, ← e, List.map_map]
  ·refine (List.map_congr_left (g := id) fun x hx => guess_back (hF x hx) (hB x hx)).trans (List.map_id _)
  ·intro w hw
   rw [List.mem_append, ← e, List.mem_map, List.mem_singleton] at hw
   rcases hw with ⟨x, hx, rfl⟩ | rfl
   ·exact text_no (hF x hx)
   ·simp
  ·simp only [List.length_append, List.length_cons, List.length_map, List.length_nil] at h64 ⊢; omega
theorem readS_size {s : ByteArray} {L : List Ins} (h : readS s = some L) : s.size ≤ 4096 := by
 unfold readS at h
 split at h
 ·assumption
 ·cases h
theorem readS_err {s : ByteArray} {L : List Ins} (h : readS s = some L) : codeErr L = 0 ∧ (⟨(shown L).toArray⟩ : ByteArray) = s := by
 unfold readS at h
 split at h
 ·split at h
  ·cases h
  ·split at h
   ·rename_i h1
    injection h with h
    subst h
    exact h1
   ·cases h
 ·cases h
theorem fromS_eq (s : ByteArray) : fromS s = readS s := by
 cases hr : readS s with
 | some L =>
  obtain ⟨he, ht⟩ := readS_err hr
  have hl : fromL s = L := from_shown he (by rw [← ht])
  unfold fromS
  rw [if_pos (readS_size hr), hl, if_pos ⟨he, ht⟩]
 | none =>
  unfold fromS
  split
  ·rename_i hs
   split
   ·rename_i h1
    have h2 := readS_shown h1.1 (by rw [h1.2]; exact hs)
    rw [h1.2, hr] at h2
    cases h2
   ·rfl
  ·rfl
end Go.Proofs.YtkigmocchaikgaaGreatDoor
/- What is known, under other keys. -/
namespace Go.Proofs.YtkigmocchaikgaaGreatDoor
open Go.RowKit
def Kn.ren (ρ : Nat → Nat) (σ : Kn) (n : Nat) : Kn := ⟨σ.T.map fun x => (x.1, x.2.ren ρ), renH ρ σ.H, n⟩
theorem swp_swp (a b j : Nat) : swp a b (swp a b j) = j := by
 unfold swp
 split <;> (try split) <;> (try split) <;> omega
theorem look_tren (ρ : Nat → Nat) : ∀ (T : List (Nat × AV)) (t : Nat) (v : AV), look (T.map fun x => (x.1, x.2.ren ρ)) t = some v → ∃ u, look T t = some u ∧ v = u.ren ρ
 | [], _, _, h => by cases h
 | (s, x) :: T, t, v, h => by
  simp only [List.map_cons, look_cons] at h ⊢
  split at h
  ·rename_i hk
   injection h with h
   exact ⟨x, by rw [if_pos hk], h.symm⟩
  ·rename_i hk
   obtain ⟨u, h1, h2⟩ := look_tren ρ T t v h
   exact ⟨u, by rw [if_neg hk]; exact h1, h2⟩
theorem ART.ren {P : Program} {f : FuncId} {C : Cx} {N : Nat} {todo : List Item} {σ σ' : Kn} {R : Ending → World → Prop} (ρ : Nat → Nat) (n : Nat) (hρ : ∀ k, ρ (ρ k) = k) (he : σ.ren ρ n = σ') (hF : ∀ k, C.F k → ρ k = k ∧ k < n) (hl : σ'.Low) (h : ART P f C N todo σ' R) : ART P f C N todo σ R := fun β a w hr => by
 subst he
 have hi : ∀ i j, ρ i = ρ j → i = j := fun i j e => by rw [← hρ i, e, hρ j]
 have hb : (fun k => (fun k => β (ρ k)) (ρ k)) = β := funext fun k => by simp only [hρ]
 refine h (fun k => β (ρ k)) a w ⟨hr.size, hr.defers, fun t v hv => ?_, fun k e hk => ?_, fun k e k' e' hk hk' hne hw hc hc' => ?_, hr.frame, fun k hk => ⟨(hF k hk).2, ?_⟩, hr.gd⟩
 ·obtain ⟨u, h1, rfl⟩ := look_tren ρ σ.T t v hv
  refine ⟨?_, hl.1 t _ hv⟩
  rw [AV.ren_g, hb]
  exact (hr.tmp t u h1).1
 ·have hk0 := hk
  obtain ⟨j, e', rfl, h1, rfl⟩ := look_ren' hi hk
  obtain ⟨_, h3, _, h5⟩ := hr.blk j e' h1
  refine ⟨(hl.2 _ _ hk0).1, blk_ren.2 (by rw [hb]; exact h3), (hl.2 _ _ hk0).2, fun hw => ?_⟩
  simp only [hρ]
  exact h5 hw
 ·obtain ⟨j, e1, rfl, h1, rfl⟩ := look_ren' hi hk
  obtain ⟨j', e1', rfl, h1', rfl⟩ := look_ren' hi hk'
  simp only [hρ]
  exact hr.inj j e1 j' e1' h1 h1' (fun e => hne (by rw [e])) hw (fun e => hc (by simp [Ent.ren, e])) (fun e => hc' (by simp [Ent.ren, e]))
 ·simp only [(hF k hk).1]
  exact (hr.fix k hk).2
end Go.Proofs.YtkigmocchaikgaaGreatDoor
/- The reference's numbers and words; a text, cut. -/
namespace Go.Proofs.YtkigmocchaikgaaGreatDoor
open Go.RowKit Go.Lib
abbrev bs (l : List UInt8) : ByteArray := ⟨l.toArray⟩
theorem bs_data (t : ByteArray) : bs t.data.toList = t := by obtain ⟨⟨l⟩⟩ := t; rfl
theorem bs_app (a b : List UInt8) : bs a ++ bs b = bs (a ++ b) := by apply ByteArray.ext; simp
theorem bs_size (l : List UInt8) : (bs l).size = l.length := by simp [ByteArray.size]
theorem sz_list (t : ByteArray) : t.data.toList.length = t.size := (Lib.size_eq t).symm
theorem ext_data (t : ByteArray) (a b : Nat) : (t.extract a b).data.toList = (t.data.toList.drop a).take (b - a) := by
 rw [ByteArray.data_extract, Array.toList_extract]
theorem ext_bs (t : ByteArray) (a b : Nat) : t.extract a b = bs ((t.data.toList.drop a).take (b - a)) := by rw [← ext_data, bs_data]
theorem ext_tail (t : ByteArray) : t.extract 1 ((t.size : Int)).toNat = bs t.data.toList.tail := by
 rw [ext_bs, Int.toNat_natCast, List.take_of_length_le (by rw [List.length_drop, sz_list]; omega), List.drop_one]
theorem byte_get (t : ByteArray) {j : Nat} (h : j < t.data.toList.length) : byteAt t j = (t.data.toList[j]).toBitVec := by
 unfold byteAt
 rw [Array.getD_eq_getD_getElem?, Array.getElem?_eq_getElem (by simpa using h)]; simp
theorem bits8 {a b : UInt8} : (a.toBitVec == b.toBitVec) = decide (a = b) := by
 by_cases h : a = b
 ·subst h; simp
 ·rw [decide_eq_false h]
  exact beq_eq_false_iff_ne.2 fun e => h (UInt8.toBitVec_inj.1 e)
theorem dig_str (x : BitVec 64) : strOf (((splice (rows 1 [.y 0#8]) 0 [.y (BitVec.setWidth 8 (badd (48#64) (x % 10#64)))]).drop 0).take 1) = bs [UInt8.ofNat (48 + x.toNat % 10)] := by
 show ByteArray.mk #[UInt8.ofBitVec (BitVec.setWidth 8 (48#64 + x % 10#64))] = ByteArray.mk #[UInt8.ofNat (48 + x.toNat % 10)]
 have e : ∀ d, d < 10 → BitVec.setWidth 8 (48#64 + BitVec.ofNat 64 d) = BitVec.ofNat 8 (48 + d) := by decide
 have e2 : x % 10#64 = BitVec.ofNat 64 (x.toNat % 10) := by
  apply BitVec.eq_of_toNat_eq
  rw [BitVec.toNat_umod, show (10#64).toNat = 10 from rfl, BitVec.toNat_ofNat]
  omega
 rw [e2, e _ (Nat.mod_lt _ (by decide))]
 rfl
theorem digits_ok (u : Nat) (hu : u < 18446744073709551616) : Ok 39 [.c (.u (BitVec.ofNat 64 u))] (.c (.s (bs (decDigits u)))) := by
 induction u using Nat.strongRecOn with
 | _ u ih =>
  have hx : (BitVec.ofNat 64 u).toNat = u := by rw [BitVec.toNat_ofNat]; omega
  have hn : nv (BitVec.ofNat 64 u) = (u : Int) := by show ((BitVec.ofNat 64 u).toNat : Int) = _; rw [hx]
  refine dg_all (u := bs (decDigits (u / 10))) (fun h => ?_) (fun h => ?_)
  ·rw [hn, decide_eq_true_eq] at h
   rw [dig_str, hx, dec_small (by omega), show u % 10 = u by omega]
  ·rw [hn, decide_eq_false_iff_not] at h
   have hl : (decDigits (u / 10)).length ≤ 20 := by rw [decDigits_length]; exact nDigits_le20 _ (by omega)
   refine ⟨?_, ?_, ?_⟩
   ·rw [dig_str, bs_size, bs_size]
    exact decide_eq_true (by simp only [List.length_cons, List.length_nil]; omega)
   ·have e : BitVec.ofNat 64 u / 10#64 = BitVec.ofNat 64 (u / 10) := by
     apply BitVec.eq_of_toNat_eq
     rw [BitVec.toNat_udiv, hx, show (10#64).toNat = 10 from rfl, BitVec.toNat_ofNat]
     omega
    rw [e]
    exact ih (u / 10) (by omega) (by omega)
   ·rw [dig_str, hx, bs_app, dec_big (u := u) (by omega)]
theorem digits_x (x : BitVec 64) : Ok 39 [.c (.u x)] (.c (.s (bs (decDigits x.toNat)))) := by
 have := digits_ok x.toNat (by have := x.isLt; omega)
 rwa [BitVec.ofNat_toNat, BitVec.setWidth_eq] at this
theorem ofInt_nat (n : Nat) : BitVec.ofInt 64 (n : Int) = BitVec.ofNat 64 n := by simp
theorem dec_len (u : Nat) (h : u < 18446744073709551616) : (decDigits u).length ≤ 20 := by rw [decDigits_length]; exact nDigits_le20 _ h
theorem bs_cons (a : UInt8) (l : List UInt8) : ByteArray.mk #[a] ++ bs l = bs (a :: l) := bs_app [a] l
theorem signed_ok (n : Int) (h0 : -64 ≤ n) (h1 : n ≤ 64) : Ok 40 [.c (.i n)] (.c (.s (bs (itoa n)))) := by
 refine sg_all (u := bs (decDigits n.natAbs)) (fun h => ?_) (fun h => ?_)
 ·rw [decide_eq_true_eq] at h
  have hl := dec_len n.natAbs (by omega)
  refine ⟨?_, ?_, ?_⟩
  ·rw [bs_size]; exact decide_eq_true (by omega)
  ·rw [IntKind.wrap_i64, show (0 - n + 9223372036854775808) % 18446744073709551616 - 9223372036854775808 = ((n.natAbs : Nat) : Int) by omega, ofInt_nat]
   exact digits_ok _ (by omega)
  ·rw [itoa, if_pos h]
   exact congrArg (fun l => AV.c (.s l)) (bs_cons 45 _)
 ·rw [decide_eq_false_iff_not] at h
  obtain ⟨k, rfl⟩ : ∃ k : Nat, n = k := ⟨n.toNat, by omega⟩
  refine ⟨?_, ?_⟩
  ·rw [ofInt_nat, Int.natAbs_natCast]
   exact digits_ok _ (by omega)
  ·rw [itoa, if_neg h, Int.natAbs_natCast, Int.toNat_natCast]
theorem reg_ok (n : Int) (h0 : 0 ≤ n) (h1 : n ≤ 64) : Ok 37 [.c (.i n)] (.c (.s (bs (114 :: itoa n)))) := by
 obtain ⟨k, rfl⟩ : ∃ k : Nat, n = k := ⟨n.toNat, by omega⟩
 have hl := dec_len k (by omega)
 have := rg_w0 (n1 := (k : Int)) (u := bs (decDigits k)) (and_yes (by rw [bs_size]; exact decide_eq_true (by omega)) rfl) (by rw [ofInt_nat]; exact digits_ok _ (by omega))
 rw [itoa, if_neg (by omega), Int.toNat_natCast, ← bs_cons]
 exact this
theorem srcT_ok {i : Ins} (hs : i.s = -1 ∨ 0 ≤ i.s ∧ i.s ≤ 64) : Ok 38 [.ag i.cs] (.c (.s (bs (wordW i 2)))) := by
 by_cases h : i.s = -1
 ·rw [show wordW i 2 = decDigits i.im.toNat by simp [wordW, h]]
  exact so_w0 (by simp [h]) (digits_x _)
 ·have h2 := hs.resolve_left h
  rw [show wordW i 2 = 114 :: itoa i.s by simp [wordW, h]]
  exact so_w1 (by simp [h]) (reg_ok _ h2.1 h2.2)
/- numbers read -/
theorem wrapJ {j : Nat} (h : j ≤ 5000) : IntKind.i64.wrap ((j : Int) + 1) = ((j + 1 : Nat) : Int) := by rw [IntKind.wrap_i64]; omega
theorem wrap1 {j : Nat} (h : j ≤ 5000) : pe (.c (.i (IntKind.i64.wrap ((j : Int) + 1)))) = pe (.c (.i (↑(j + 1) : Int))) := by rw [wrapJ h]
theorem vaLoop {t : ByteArray} {w : World} {β : Bs} {m : Nat} (ht : t.size ≤ 4096) (hF : ∀ k, (cx w β m []).F k → k < 0) : ∀ (n j : Nat) (x : BitVec 64), j + n = (t.data.toList.take 20).length → AR 47 Tryz.f47 (cx w β m []) 0 (vaRK t x j) (REff w β ⟨.c (.u (((t.data.toList.take 20).drop j).foldl digV x)), [], none⟩)
 | 0, j, x, hj => by
  rw [List.drop_eq_nil_of_le (by omega), List.foldl_nil]
  rw [List.length_take, sz_list] at hj
  by_cases h : j < t.size
  ·exact vaT_w0 (and_yes (decide_eq_true (by omega)) (and_yes (not_yes (decide_eq_false (by omega))) rfl))
  ·exact vaS_w0 (and_yes (not_yes (decide_eq_false (by omega))) rfl)
 | n + 1, j, x, hj => by
  have hl := hj
  rw [List.length_take, sz_list] at hl
  have hj2 : j < (t.data.toList.take 20).length := by omega
  rw [List.drop_eq_getElem_cons hj2, List.foldl_cons]
  refine vaR_w0 (and_yes (decide_eq_true (by omega)) (and_yes (decide_eq_true (by omega)) (and_yes (decide_eq_true (by omega)) rfl))) (wrap1 (by omega)) hF ?_
  have e : badd (bmul (10#64) x) (BitVec.setWidth 64 (byteAt t (j : Int).toNat - 48#8)) = digV x ((t.data.toList.take 20)[j]) := by
   rw [Int.toNat_natCast, byte_get t (by rw [sz_list]; omega), List.getElem_take]; rfl
  rw [e]
  exact vaLoop ht hF n (j + 1) _ (by omega)
theorem value_ok {t : ByteArray} (ht : t.size ≤ 4096) : Ok 47 [.c (.s t)] (.c (.u (valP t.data.toList))) :=
 read_of Tryz.func47 rfl rfl (begin0 rfl) rfl (fun _ _ h => (nomatch h)) fun _ _ => vaTop_w0 (fun _ h => h) (vaLoop ht (fun _ h => h) _ 0 _ (Nat.zero_add _))
theorem byte0 (t : ByteArray) (c : UInt8) (h : 0 < t.size) : (byteAt t 0 == c.toBitVec) = decide (t.data.toList.head? = some c) := by
 have h1 : 0 < t.data.toList.length := by rw [sz_list]; exact h
 have e : ∀ (l : List UInt8) (h : 0 < l.length), decide (l[0] = c) = decide (l.head? = some c) := fun l h => by
  cases l with
  | nil => simp at h
  | cons a r => simp
 rw [byte_get t h1, bits8]
 exact e _ h1
theorem tail_size (t : ByteArray) : (bs t.data.toList.tail).size ≤ t.size := by rw [bs_size, List.length_tail, sz_list]; omega
theorem small_ok {t : ByteArray} (ht : t.size ≤ 4096) : Ok 48 [.c (.s t)] (.c (.i (smallP t.data.toList))) := by
 have hs := sz_list t
 unfold smallP
 by_cases h4 : 4 < t.size
 ·rw [if_pos (by omega)]
  exact sm_w0 (and_yes (decide_eq_true (by omega)) rfl)
 ·rw [if_neg (by omega)]
  have d4 : (!decide (4 < (t.size : Int))) = true := not_yes (decide_eq_false (by omega))
  by_cases h0 : 0 < t.size
  ·have b0 := byte0 t 45 h0
   have d0 : decide (0 < (t.size : Int)) = true := decide_eq_true (by omega)
   by_cases h45 : t.data.toList.head? = some 45
   ·rw [if_pos h45]
    rw [decide_eq_true h45] at b0
    refine sm_w1 (and_yes d4 (and_yes d0 (and_yes (decide_eq_true h0) (and_yes b0 (and_yes (and_yes (decide_eq_true (by omega)) (decide_eq_true (Int.le_refl _))) rfl))))) ?_
    rw [ext_tail]
    exact value_ok (Nat.le_trans (tail_size t) ht)
   ·rw [if_neg h45]
    rw [decide_eq_false h45] at b0
    exact sm_w2 (and_yes d4 (and_yes d0 (and_yes (decide_eq_true h0) (and_yes (not_yes b0) rfl)))) (value_ok ht)
  ·have hl : t.data.toList = [] := List.length_eq_zero_iff.1 (by omega)
   rw [if_neg (by rw [hl]; simp)]
   exact sm_w3 (and_yes d4 (and_yes (not_yes (decide_eq_false (by omega))) rfl)) (value_ok ht)
theorem regOf_ok {t : ByteArray} (ht : t.size ≤ 4096) : Ok 46 [.c (.s t)] (.c (.i (regP t.data.toList))) := by
 have hs := sz_list t
 unfold regP
 by_cases h2 : t.size < 2
 ·rw [if_pos (by omega)]
  exact ro_w0 (and_yes (decide_eq_true (by omega)) rfl)
 ·rw [if_neg (by omega)]
  refine ro_w1 (and_yes (not_yes (decide_eq_false (by omega))) (and_yes (and_yes (decide_eq_true (by omega)) (decide_eq_true (Int.le_refl _))) rfl)) ?_
  rw [ext_tail]
  exact small_ok (Nat.le_trans (tail_size t) ht)
/- a text, cut -/
def wcell (ws : List (List UInt8)) : List AC := ws.map fun l => .s (bs l)
theorem wcell_ks (ws : List (List UInt8)) : (wcell ws).flatMap AC.ks = [] := by
 induction ws with
 | nil => rfl
 | cons a l ih => exact ih
theorem wcell_app (a : List (List UInt8)) (l : List UInt8) : wcell a ++ [.s (bs l)] = wcell (a ++ [l]) := by simp [wcell]
theorem wcell_len (ws : List (List UInt8)) : (wcell ws).length = ws.length := by simp [wcell]
theorem cuX_low (t : ByteArray) (c : BitVec 8) (q p j r : Nat) (ws : List (List UInt8)) : Kn.Low (cuKXK t c q p j r (wcell ws)) := low_n rfl rfl ⟨wcell_ks ws, trivial⟩
abbrev cuYK (t : ByteArray) (c : BitVec 8) (q p j r : Nat) (A : List AC) : Kn := ⟨[(0, .c (.s t)), (1, .c (.y c)), (2, .c (.i (q : Int))), (7, .c (.sx 78 r)), (8, .c (.i (p : Int))), (9, .c (.i (j : Int)))], [(78, Ent.mk true A 1)], 79⟩
theorem cuY_low (t : ByteArray) (c : BitVec 8) (q p j r : Nat) (ws : List (List UInt8)) : Kn.Low (cuYK t c q p j r (wcell ws)) := low_n rfl rfl ⟨wcell_ks ws, trivial⟩
theorem cu_ren (t : ByteArray) (c : BitVec 8) (q p j r : Nat) (ws : List (List UInt8)) : (cuYK t c q p j r (wcell ws)).ren (swp 50 78) 51 = cuKXK t c q p j r (wcell ws) := by
 unfold Kn.ren renH
 simp only [List.map_cons, List.map_nil, Ent.ren, ren_nk _ (wcell_ks ws)]
 rfl
abbrev cuEff (R : List (List UInt8)) : Eff := ⟨.c (.sx 50 R.length), [], some (50, ⟨true, wcell R, 1⟩)⟩
theorem cu_keys (R : List (List UInt8)) : EKeys 0 [] (some 50) (cuEff R) := by
 refine ⟨fun k hk => Or.inr ?_, fun _ _ hm => (nomatch hm), fun k en' h' => ?_, fun _ h => (nomatch h), fun k h => ⟨Nat.zero_le _, rfl⟩⟩
 ·rw [List.mem_singleton.1 hk]
 ·injection h' with h'; injection h' with _ h'; subst h'; exact wcell_ks R
/- what is left to be cut -/
def restL (c : UInt8) (l : List UInt8) (q p j : Nat) : List (List UInt8) := if j ≤ l.length then cutL c q ((l.drop p).take (j - p)) (l.drop j) else []
theorem rest_end (c : UInt8) (l : List UInt8) (k p : Nat) (ws : List (List UInt8)) : ws ++ restL c l (k + 1) p l.length = (ws ++ [(l.drop p).take (l.length - p)]) ++ restL c l k (l.length + 1) (l.length + 1) := by
 unfold restL
 rw [if_pos (Nat.le_refl _), if_neg (by omega), List.drop_length, cutL]
 simp
theorem rest_hit {c : UInt8} {l : List UInt8} {k p j : Nat} (hj : j < l.length) (h : l[j] = c) (ws : List (List UInt8)) : ws ++ restL c l (k + 1) p j = (ws ++ [(l.drop p).take (j - p)]) ++ restL c l k (j + 1) (j + 1) := by
 unfold restL
 rw [if_pos (by omega), if_pos (by omega), List.drop_eq_getElem_cons hj, cutL, if_pos h]
 simp
theorem rest_miss {c : UInt8} {l : List UInt8} {k p j : Nat} (hj : j < l.length) (hp : p ≤ j) (h : l[j] ≠ c) : restL c l (k + 1) p j = restL c l (k + 1) p (j + 1) := by
 unfold restL
 rw [if_pos (by omega), if_pos (by omega), List.drop_eq_getElem_cons hj, cutL, if_neg h]
 congr 1
 have e : j + 1 - p = (j - p) + 1 := by omega
 rw [e, List.take_add_one, List.getElem?_drop, show p + (j - p) = j by omega, List.getElem?_eq_getElem hj]
 rfl
theorem cuLoop {t : ByteArray} (ht : t.size ≤ 4096) (c : UInt8) {q : Nat} {w : World} {β : Bs} (hF : ∀ k, (cx w β 0 []).F k → k < 0) : ∀ (n j p : Nat) (ws : List (List UInt8)), j + n = t.size + 1 → p ≤ j → ws ≠ [] → ws.length ≤ q → q ≤ 100 →
  AR 23 Tryz.f23 (cx w β 0 []) 0 (cuKXK t c.toBitVec q p j ws.length (wcell ws)) (REff w β (cuEff (ws ++ restL c t.data.toList (q - ws.length) p j)))
 | 0, j, p, ws, hj, hp, hne, hq, _ => by
  have e : restL c t.data.toList (q - ws.length) p j = [] := by unfold restL; rw [if_neg (by rw [sz_list]; omega)]
  rw [e, List.append_nil]
  exact cuFX_w0 (and_yes (not_yes (decide_eq_false (by omega))) rfl) (cu_keys ws)
 | n + 1, j, p, ws, hj, hp, hne, hq, hq1 => by
  have hs := sz_list t
  have dj : decide ((j : Int) ≤ (t.size : Int)) = true := decide_eq_true (by omega)
  by_cases hr : ws.length < q
  ·obtain ⟨k, hk⟩ : ∃ k, q - ws.length = k + 1 := ⟨q - ws.length - 1, by omega⟩
   have dr : decide ((ws.length : Int) < (q : Int)) = true := decide_eq_true (by omega)
   have hw0 : 0 < ws.length := List.length_pos_iff.2 hne
   have da : (Nat.beq (ws.length * 1) (wcell ws).length && decide (ws.length + 1 ≤ 137438953472) && Nat.blt 0 ws.length) = true := by
    rw [wcell_len, Nat.mul_one, Nat.beq_refl, decide_eq_true (by omega)]
    simpa using hw0
   have dp : (decide ((p : Int) ≤ (j : Int)) && decide ((j : Int) ≤ (t.size : Int))) = true := and_yes (decide_eq_true (by omega)) dj
   have ea : Eff.mk (.c (.sx 78 (ws.length + 1))) [(50, [])] (some (51 + 10 + 11 + 6, Ent.mk true (wcell ws ++ ((splice (rows 1 [.s (ByteArray.mk #[])]) 0 [.s (ByteArray.extract t ((p : Int)).toNat ((j : Int)).toNat)]).drop 0).take 1) 1)) = Eff.mk (.c (.sx 78 (ws.length + 1))) [(50, [])] (some (78, Ent.mk true (wcell ws ++ [.s (ByteArray.extract t p j)]) 1)) := rfl
   have nx : ∀ ws' : List (List UInt8), ws' = ws ++ [(t.data.toList.drop p).take (j - p)] → AR 23 Tryz.f23 (cx w β 0 []) 0 (cuYK t c.toBitVec q (j + 1) (j + 1) (ws.length + 1) (wcell ws ++ [.s (ByteArray.extract t p j)])) (REff w β (cuEff (ws' ++ restL c t.data.toList k (j + 1) (j + 1)))) := fun ws' hw => by
    have hl : ws'.length = ws.length + 1 := by rw [hw]; simp
    rw [ext_bs, wcell_app, ← hw, ← hl]
    refine ART.ren (swp 50 78) 51 (swp_swp 50 78) (cu_ren _ _ _ _ _ _ _) (fun k hk => absurd (hF k hk) (by omega)) (cuX_low _ _ _ _ _ _ _) ?_
    rw [show k = q - ws'.length by omega]
    exact cuLoop ht c hF n (j + 1) (j + 1) ws' (by omega) (Nat.le_refl _) (by rw [hw]; simp) (by omega) hq1
   have lo : Kn.Low (cuYK t c.toBitVec q (j + 1) (j + 1) (ws.length + 1) (wcell ws ++ [.s (ByteArray.extract t p j)])) := by rw [ext_bs, wcell_app]; exact cuY_low _ _ _ _ _ _ _
   have hF' : ∀ k, (cx w β 0 []).F k → k < 79 := fun k hk => absurd (hF k hk) (by omega)
   rw [hk]
   by_cases he : j = t.size
   ·have de : ((j : Int) == (t.size : Int)) = true := by rw [he]; simp
    refine cuEX_w0 (and_yes dj (and_yes dr (and_yes de (and_yes dp (and_yes da rfl))))) ea (wrap1 (by omega)) (wrap1 (by omega)) lo hF' ?_
    have := nx _ rfl
    have e2 : j = t.data.toList.length := by omega
    rw [e2, ← rest_end, ← e2] at this
    exact this
   ·have de : (!((j : Int) == (t.size : Int))) = true := by simp; omega
    have hjl : j < t.data.toList.length := by omega
    have dl : decide ((j : Int).toNat < t.size) = true := decide_eq_true (by omega)
    have db : (byteAt t (j : Int).toNat == c.toBitVec) = decide (t.data.toList[j] = c) := by rw [Int.toNat_natCast, byte_get t hjl, bits8]
    by_cases hc : t.data.toList[j] = c
    ·rw [decide_eq_true hc] at db
     refine cuCX_w0 (and_yes dj (and_yes dr (and_yes de (and_yes dl (and_yes db (and_yes dp (and_yes da rfl))))))) ea (wrap1 (by omega)) (wrap1 (by omega)) lo hF' ?_
     rw [rest_hit hjl hc]
     exact nx _ rfl
    ·rw [decide_eq_false hc] at db
     refine cuKX_w0 (and_yes dj (and_yes dr (and_yes de (and_yes dl (and_yes (not_yes db) rfl))))) (wrap1 (by omega)) (cuX_low _ _ _ _ _ _ _) (fun k hk => absurd (hF k hk) (by omega)) ?_
     rw [rest_miss hjl hp hc, ← hk]
     exact cuLoop ht c hF n (j + 1) p ws (by omega) (by omega) hne hq hq1
  ·have e : q - ws.length = 0 := by omega
   have e2 : restL c t.data.toList 0 p j = [] := by unfold restL; split <;> simp [cutL]
   rw [e, e2, List.append_nil]
   exact cuMX_w0 (and_yes dj (and_yes (not_yes (decide_eq_false (by omega))) rfl)) (cu_keys ws)
theorem cuLoopN {t : ByteArray} (ht : t.size ≤ 4096) (c : UInt8) {k : Nat} (hk : k < 100) {w : World} {β : Bs} (hF : ∀ k, (cx w β 0 []).F k → k < 0) : ∀ (n j p : Nat), j + n = t.size → p ≤ j →
  AR 23 Tryz.f23 (cx w β 0 []) 0 (cuKNK t c.toBitVec (k + 1) p j) (REff w β (cuEff (restL c t.data.toList (k + 1) p j))) := fun n j p hj hp => by
 have hs := sz_list t
 have dj : decide ((j : Int) ≤ (t.size : Int)) = true := decide_eq_true (by omega)
 have dr : decide (0 < ((k + 1 : Nat) : Int)) = true := decide_eq_true (by omega)
 have dp : (decide ((p : Int) ≤ (j : Int)) && decide ((j : Int) ≤ (t.size : Int))) = true := and_yes (decide_eq_true (by omega)) dj
 have nx : AR 23 Tryz.f23 (cx w β 0 []) 0 (cuYK t c.toBitVec (k + 1) (j + 1) (j + 1) 1 [.s (ByteArray.extract t p j)]) (REff w β (cuEff ([(t.data.toList.drop p).take (j - p)] ++ restL c t.data.toList k (j + 1) (j + 1)))) := by
  rw [ext_bs]
  refine ART.ren (swp 50 78) 51 (swp_swp 50 78) (cu_ren _ _ _ _ _ _ [(t.data.toList.drop p).take (j - p)]) (fun k hk => absurd (hF k hk) (by omega)) (cuX_low _ _ _ _ _ _ _) ?_
  exact cuLoop ht c hF n (j + 1) (j + 1) [(t.data.toList.drop p).take (j - p)] (by omega) (Nat.le_refl _) (by simp) (by simp) (by omega)
 have lo : Kn.Low (cuYK t c.toBitVec (k + 1) (j + 1) (j + 1) 1 [.s (ByteArray.extract t p j)]) := by rw [ext_bs]; exact cuY_low _ _ _ _ _ _ [(t.data.toList.drop p).take (j - p)]
 have hF' : ∀ k, (cx w β 0 []).F k → k < 79 := fun k hk => absurd (hF k hk) (by omega)
 by_cases he : j = t.size
 ·have de : ((j : Int) == (t.size : Int)) = true := by rw [he]; simp
  refine cuEN_w0 (and_yes dj (and_yes dr (and_yes de (and_yes dp rfl)))) rfl (wrap1 (by omega)) (wrap1 (by omega)) lo hF' ?_
  have e2 : j = t.data.toList.length := by omega
  have := rest_end c t.data.toList k p []
  rw [← e2, List.nil_append, List.nil_append] at this
  rw [this]
  exact nx
 ·have de : (!((j : Int) == (t.size : Int))) = true := by simp; omega
  have hjl : j < t.data.toList.length := by omega
  have dl : decide ((j : Int).toNat < t.size) = true := decide_eq_true (by omega)
  have db : (byteAt t (j : Int).toNat == c.toBitVec) = decide (t.data.toList[j] = c) := by rw [Int.toNat_natCast, byte_get t hjl, bits8]
  by_cases hc : t.data.toList[j] = c
  ·rw [decide_eq_true hc] at db
   refine cuCN_w0 (and_yes dj (and_yes dr (and_yes de (and_yes dl (and_yes db (and_yes dp rfl)))))) rfl (wrap1 (by omega)) (wrap1 (by omega)) lo hF' ?_
   have := rest_hit (k := k) (p := p) hjl hc []
   rw [List.nil_append, List.nil_append] at this
   rw [this]
   exact nx
  ·rw [decide_eq_false hc] at db
   refine cuKN_w0 (and_yes dj (and_yes dr (and_yes de (and_yes dl (and_yes (not_yes db) rfl))))) (wrap1 (by omega)) (fun k hk => absurd (hF k hk) (by omega)) ?_
   rw [rest_miss hjl hp hc]
   match n, hj with
   | 0, hj => omega
   | n + 1, hj => exact cuLoopN ht c hk hF n (j + 1) p (by omega) (by omega)
 termination_by n => n
theorem cut_ok {t : ByteArray} (ht : t.size ≤ 4096) (c : UInt8) {k : Nat} (hk : k < 100) : CallOK Tryz.prog ⟨23, [.c (.s t), .c (.y c.toBitVec), .c (.i ((k + 1 : Nat) : Int))], [], cuEff (cutL c (k + 1) [] t.data.toList)⟩ := by
 refine new_of Tryz.func23 rfl rfl rfl rfl (wcell_ks _) fun w β _ => ?_
 have e : cutL c (k + 1) [] t.data.toList = restL c t.data.toList (k + 1) 0 0 := by unfold restL; rw [if_pos (by omega)]; rfl
 rw [e]
 exact cuTop_w0 (fun _ h => absurd h (by show ¬ _ < 0; omega)) (cuLoopN ht c hk (fun _ h => h) t.size 0 0 (by omega) (Nat.le_refl _))
theorem cut_at {t : ByteArray} (ht : t.size ≤ 4096) (c : UInt8) {k : Nat} (hk : k < 100) (K : Nat) : CallOK Tryz.prog ⟨23, [.c (.s t), .c (.y c.toBitVec), .c (.i ((k + 1 : Nat) : Int))], [], ⟨.c (.sx K (cutL c (k + 1) [] t.data.toList).length), [], some (K, ⟨true, wcell (cutL c (k + 1) [] t.data.toList), 1⟩)⟩⟩ := by
 refine ((cut_ok ht c hk).ren (swp 50 K) (swp_inj 50 K)).congr ?_
 unfold CallRec.ren Eff.ren renH
 simp only [List.map_cons, List.map_nil, Option.map_some, Ent.ren, ren_nk _ (wcell_ks _), AV.ren, AC.ren, swp_fst]
end Go.Proofs.YtkigmocchaikgaaGreatDoor
/- Ways of bodies, written by a program (ways.py): what each asks for, and hands back. -/
namespace Go.Proofs.YtkigmocchaikgaaGreatDoor
open Go.RowKit
section
abbrev ctRK (L : List Ins) (c j : Nat) (t : ByteArray) : Kn := ⟨[(0, .c (.sl 0 0 L.length c)), (3, .c (.s t)), (4, .c (.i (j : Int)))], [(0, Ent.mk false (pcell L) 0)], 1⟩
variable {i : Ins} {m u1 u2 u3 u4 t : ByteArray} {A : List AC} {L : List Ins} {c j n : Nat} {C : Cx} {R : Ending → World → Prop} {w : World} {β : Bs} {n1 : Int} {x : BitVec 64}
theorem itA_w0 (h : (decide (0 ≤ i.op) && decide (i.op < 16) && (AC.isS (A[0 + (i.op).toNat * 1]?.getD (.b false)) && Nat.blt (0 + (i.op).toNat * 1) A.length && (decide (ByteArray.size m + 1 ≤ 9223372036854775807) && (decide (ByteArray.size (m ++ ByteArray.mk #[OfNat.ofNat 32]) + ByteArray.size u1 ≤ 9223372036854775807) && (decide (ByteArray.size (m ++ ByteArray.mk #[OfNat.ofNat 32] ++ u1) + 1 ≤ 9223372036854775807) && (decide (ByteArray.size (m ++ ByteArray.mk #[OfNat.ofNat 32] ++ u1 ++ ByteArray.mk #[OfNat.ofNat 32]) + ByteArray.size u2 ≤ 9223372036854775807) && (decide (ByteArray.size (m ++ ByteArray.mk #[OfNat.ofNat 32] ++ u1 ++ ByteArray.mk #[OfNat.ofNat 32] ++ u2) + 1 ≤ 9223372036854775807) && true))))))) = true) (c0 : CO 36 [] [] (Eff.mk (.c (.sl 2 0 16 16)) [] (some (2, Ent.mk true A 0)))) (c1 : pe (.c (.s (AC.asS (A[0 + (i.op).toNat * 1]?.getD (.b false))))) = pe (.c (.s m))) (c2 : Ok 33 [.c (.i i.op)] (.c (.b true))) (c3 : Ok 37 [.c (.i i.d)] (.c (.s u1))) (c4 : Ok 38 [.ag i.cs] (.c (.s u2))) :
  Ok 21 [.ag i.cs] (.c (.s (m ++ ByteArray.mk #[OfNat.ofNat 32] ++ u1 ++ ByteArray.mk #[OfNat.ofNat 32] ++ u2 ++ ByteArray.mk #[OfNat.ofNat 10]))) :=
 val_run2 [true] ([]) [(1, 4)] Tryz.func21 rfl rfl rfl rfl (by kernel_rfl) h (cr_cons c0 (cr_same c1 (cr_cons c2 (cr_cons c3 (cr_cons c4 cr_nil)))))
theorem itL_w0 (h : (decide (0 ≤ i.op) && decide (i.op < 16) && (AC.isS (A[0 + (i.op).toNat * 1]?.getD (.b false)) && Nat.blt (0 + (i.op).toNat * 1) A.length && (i.op == 10 && (decide (ByteArray.size m + 1 ≤ 9223372036854775807) && (decide (ByteArray.size (m ++ ByteArray.mk #[OfNat.ofNat 32]) + ByteArray.size u1 ≤ 9223372036854775807) && (decide (ByteArray.size (m ++ ByteArray.mk #[OfNat.ofNat 32] ++ u1) + 1 ≤ 9223372036854775807) && (decide (ByteArray.size (m ++ ByteArray.mk #[OfNat.ofNat 32] ++ u1 ++ ByteArray.mk #[OfNat.ofNat 32]) + ByteArray.size u2 ≤ 9223372036854775807) && (decide (ByteArray.size (m ++ ByteArray.mk #[OfNat.ofNat 32] ++ u1 ++ ByteArray.mk #[OfNat.ofNat 32] ++ u2) + 1 ≤ 9223372036854775807) && (decide (ByteArray.size (m ++ ByteArray.mk #[OfNat.ofNat 32] ++ u1 ++ ByteArray.mk #[OfNat.ofNat 32] ++ u2 ++ ByteArray.mk #[OfNat.ofNat 32]) + ByteArray.size u3 ≤ 9223372036854775807) && (decide (ByteArray.size (m ++ ByteArray.mk #[OfNat.ofNat 32] ++ u1 ++ ByteArray.mk #[OfNat.ofNat 32] ++ u2 ++ ByteArray.mk #[OfNat.ofNat 32] ++ u3) + 1 ≤ 9223372036854775807) && (decide (ByteArray.size (m ++ ByteArray.mk #[OfNat.ofNat 32] ++ u1 ++ ByteArray.mk #[OfNat.ofNat 32] ++ u2 ++ ByteArray.mk #[OfNat.ofNat 32] ++ u3 ++ ByteArray.mk #[OfNat.ofNat 32]) + ByteArray.size u4 ≤ 9223372036854775807) && (decide (ByteArray.size (m ++ ByteArray.mk #[OfNat.ofNat 32] ++ u1 ++ ByteArray.mk #[OfNat.ofNat 32] ++ u2 ++ ByteArray.mk #[OfNat.ofNat 32] ++ u3 ++ ByteArray.mk #[OfNat.ofNat 32] ++ u4) + 1 ≤ 9223372036854775807) && true)))))))))))) = true) (c0 : CO 36 [] [] (Eff.mk (.c (.sl 2 0 16 16)) [] (some (2, Ent.mk true A 0)))) (c1 : pe (.c (.s (AC.asS (A[0 + (i.op).toNat * 1]?.getD (.b false))))) = pe (.c (.s m))) (c2 : Ok 33 [.c (.i i.op)] (.c (.b false))) (c3 : Ok 39 [.c (.u i.im)] (.c (.s u1))) (c4 : Ok 37 [.c (.i i.d)] (.c (.s u2))) (c5 : Ok 37 [.c (.i i.s)] (.c (.s u3))) (c6 : Ok 40 [.c (.i i.of)] (.c (.s u4))) :
  Ok 21 [.ag i.cs] (.c (.s (m ++ ByteArray.mk #[OfNat.ofNat 32] ++ u1 ++ ByteArray.mk #[OfNat.ofNat 32] ++ u2 ++ ByteArray.mk #[OfNat.ofNat 32] ++ u3 ++ ByteArray.mk #[OfNat.ofNat 32] ++ u4 ++ ByteArray.mk #[OfNat.ofNat 10]))) :=
 val_run2 [false, true] ([]) [(1, 4)] Tryz.func21 rfl rfl rfl rfl (by kernel_rfl) h (cr_cons c0 (cr_same c1 (cr_cons c2 (cr_cons c3 (cr_cons c4 (cr_cons c5 (cr_cons c6 cr_nil)))))))
theorem itS_w0 (h : (decide (0 ≤ i.op) && decide (i.op < 16) && (AC.isS (A[0 + (i.op).toNat * 1]?.getD (.b false)) && Nat.blt (0 + (i.op).toNat * 1) A.length && (!i.op == 10 && (i.op == 11 && (decide (ByteArray.size m + 1 ≤ 9223372036854775807) && (decide (ByteArray.size (m ++ ByteArray.mk #[OfNat.ofNat 32]) + ByteArray.size u1 ≤ 9223372036854775807) && (decide (ByteArray.size (m ++ ByteArray.mk #[OfNat.ofNat 32] ++ u1) + 1 ≤ 9223372036854775807) && (decide (ByteArray.size (m ++ ByteArray.mk #[OfNat.ofNat 32] ++ u1 ++ ByteArray.mk #[OfNat.ofNat 32]) + ByteArray.size u2 ≤ 9223372036854775807) && (decide (ByteArray.size (m ++ ByteArray.mk #[OfNat.ofNat 32] ++ u1 ++ ByteArray.mk #[OfNat.ofNat 32] ++ u2) + 1 ≤ 9223372036854775807) && (decide (ByteArray.size (m ++ ByteArray.mk #[OfNat.ofNat 32] ++ u1 ++ ByteArray.mk #[OfNat.ofNat 32] ++ u2 ++ ByteArray.mk #[OfNat.ofNat 32]) + ByteArray.size u3 ≤ 9223372036854775807) && (decide (ByteArray.size (m ++ ByteArray.mk #[OfNat.ofNat 32] ++ u1 ++ ByteArray.mk #[OfNat.ofNat 32] ++ u2 ++ ByteArray.mk #[OfNat.ofNat 32] ++ u3) + 1 ≤ 9223372036854775807) && (decide (ByteArray.size (m ++ ByteArray.mk #[OfNat.ofNat 32] ++ u1 ++ ByteArray.mk #[OfNat.ofNat 32] ++ u2 ++ ByteArray.mk #[OfNat.ofNat 32] ++ u3 ++ ByteArray.mk #[OfNat.ofNat 32]) + ByteArray.size u4 ≤ 9223372036854775807) && (decide (ByteArray.size (m ++ ByteArray.mk #[OfNat.ofNat 32] ++ u1 ++ ByteArray.mk #[OfNat.ofNat 32] ++ u2 ++ ByteArray.mk #[OfNat.ofNat 32] ++ u3 ++ ByteArray.mk #[OfNat.ofNat 32] ++ u4) + 1 ≤ 9223372036854775807) && true))))))))))))) = true) (c0 : CO 36 [] [] (Eff.mk (.c (.sl 2 0 16 16)) [] (some (2, Ent.mk true A 0)))) (c1 : pe (.c (.s (AC.asS (A[0 + (i.op).toNat * 1]?.getD (.b false))))) = pe (.c (.s m))) (c2 : Ok 33 [.c (.i i.op)] (.c (.b false))) (c3 : Ok 39 [.c (.u i.im)] (.c (.s u1))) (c4 : Ok 37 [.c (.i i.d)] (.c (.s u2))) (c5 : Ok 40 [.c (.i i.of)] (.c (.s u3))) (c6 : Ok 37 [.c (.i i.s)] (.c (.s u4))) :
  Ok 21 [.ag i.cs] (.c (.s (m ++ ByteArray.mk #[OfNat.ofNat 32] ++ u1 ++ ByteArray.mk #[OfNat.ofNat 32] ++ u2 ++ ByteArray.mk #[OfNat.ofNat 32] ++ u3 ++ ByteArray.mk #[OfNat.ofNat 32] ++ u4 ++ ByteArray.mk #[OfNat.ofNat 10]))) :=
 val_run2 [false, false, true] ([]) [(1, 4)] Tryz.func21 rfl rfl rfl rfl (by kernel_rfl) h (cr_cons c0 (cr_same c1 (cr_cons c2 (cr_cons c3 (cr_cons c4 (cr_cons c5 (cr_cons c6 cr_nil)))))))
theorem itB_w0 (h : (decide (0 ≤ i.op) && decide (i.op < 16) && (AC.isS (A[0 + (i.op).toNat * 1]?.getD (.b false)) && Nat.blt (0 + (i.op).toNat * 1) A.length && (!i.op == 10 && (!i.op == 11 && (decide (ByteArray.size m + 1 ≤ 9223372036854775807) && (decide (ByteArray.size (m ++ ByteArray.mk #[OfNat.ofNat 32]) + ByteArray.size u1 ≤ 9223372036854775807) && (decide (ByteArray.size (m ++ ByteArray.mk #[OfNat.ofNat 32] ++ u1) + 1 ≤ 9223372036854775807) && (decide (ByteArray.size (m ++ ByteArray.mk #[OfNat.ofNat 32] ++ u1 ++ ByteArray.mk #[OfNat.ofNat 32]) + ByteArray.size u2 ≤ 9223372036854775807) && (decide (ByteArray.size (m ++ ByteArray.mk #[OfNat.ofNat 32] ++ u1 ++ ByteArray.mk #[OfNat.ofNat 32] ++ u2) + 1 ≤ 9223372036854775807) && (decide (ByteArray.size (m ++ ByteArray.mk #[OfNat.ofNat 32] ++ u1 ++ ByteArray.mk #[OfNat.ofNat 32] ++ u2 ++ ByteArray.mk #[OfNat.ofNat 32]) + ByteArray.size u3 ≤ 9223372036854775807) && (decide (ByteArray.size (m ++ ByteArray.mk #[OfNat.ofNat 32] ++ u1 ++ ByteArray.mk #[OfNat.ofNat 32] ++ u2 ++ ByteArray.mk #[OfNat.ofNat 32] ++ u3) + 1 ≤ 9223372036854775807) && true))))))))))) = true) (c0 : CO 36 [] [] (Eff.mk (.c (.sl 2 0 16 16)) [] (some (2, Ent.mk true A 0)))) (c1 : pe (.c (.s (AC.asS (A[0 + (i.op).toNat * 1]?.getD (.b false))))) = pe (.c (.s m))) (c2 : Ok 33 [.c (.i i.op)] (.c (.b false))) (c3 : Ok 35 [.c (.i i.op)] (.c (.b true))) (c4 : Ok 37 [.c (.i i.d)] (.c (.s u1))) (c5 : Ok 38 [.ag i.cs] (.c (.s u2))) (c6 : Ok 40 [.c (.i i.of)] (.c (.s u3))) :
  Ok 21 [.ag i.cs] (.c (.s (m ++ ByteArray.mk #[OfNat.ofNat 32] ++ u1 ++ ByteArray.mk #[OfNat.ofNat 32] ++ u2 ++ ByteArray.mk #[OfNat.ofNat 32] ++ u3 ++ ByteArray.mk #[OfNat.ofNat 10]))) :=
 val_run2 [false, false, false, true] ([]) [(1, 4)] Tryz.func21 rfl rfl rfl rfl (by kernel_rfl) h (cr_cons c0 (cr_same c1 (cr_cons c2 (cr_cons c3 (cr_cons c4 (cr_cons c5 (cr_cons c6 cr_nil)))))))
theorem itJ_w0 (h : (decide (0 ≤ i.op) && decide (i.op < 16) && (AC.isS (A[0 + (i.op).toNat * 1]?.getD (.b false)) && Nat.blt (0 + (i.op).toNat * 1) A.length && (!i.op == 10 && (!i.op == 11 && (i.op == 12 && (decide (ByteArray.size m + 1 ≤ 9223372036854775807) && (decide (ByteArray.size (m ++ ByteArray.mk #[OfNat.ofNat 32]) + ByteArray.size u1 ≤ 9223372036854775807) && (decide (ByteArray.size (m ++ ByteArray.mk #[OfNat.ofNat 32] ++ u1) + 1 ≤ 9223372036854775807) && true)))))))) = true) (c0 : CO 36 [] [] (Eff.mk (.c (.sl 2 0 16 16)) [] (some (2, Ent.mk true A 0)))) (c1 : pe (.c (.s (AC.asS (A[0 + (i.op).toNat * 1]?.getD (.b false))))) = pe (.c (.s m))) (c2 : Ok 33 [.c (.i i.op)] (.c (.b false))) (c3 : Ok 35 [.c (.i i.op)] (.c (.b false))) (c4 : Ok 40 [.c (.i i.of)] (.c (.s u1))) :
  Ok 21 [.ag i.cs] (.c (.s (m ++ ByteArray.mk #[OfNat.ofNat 32] ++ u1 ++ ByteArray.mk #[OfNat.ofNat 10]))) :=
 val_run2 [false, false, false, false, true] ([]) [(1, 4)] Tryz.func21 rfl rfl rfl rfl (by kernel_rfl) h (cr_cons c0 (cr_same c1 (cr_cons c2 (cr_cons c3 (cr_cons c4 cr_nil)))))
theorem itE_w0 (h : (decide (0 ≤ i.op) && decide (i.op < 16) && (AC.isS (A[0 + (i.op).toNat * 1]?.getD (.b false)) && Nat.blt (0 + (i.op).toNat * 1) A.length && (!i.op == 10 && (!i.op == 11 && (!i.op == 12 && (decide (ByteArray.size m + 1 ≤ 9223372036854775807) && true)))))) = true) (c0 : CO 36 [] [] (Eff.mk (.c (.sl 2 0 16 16)) [] (some (2, Ent.mk true A 0)))) (c1 : pe (.c (.s (AC.asS (A[0 + (i.op).toNat * 1]?.getD (.b false))))) = pe (.c (.s m))) (c2 : Ok 33 [.c (.i i.op)] (.c (.b false))) (c3 : Ok 35 [.c (.i i.op)] (.c (.b false))) :
  Ok 21 [.ag i.cs] (.c (.s (m ++ ByteArray.mk #[OfNat.ofNat 10]))) :=
 val_run2 [false, false, false, false, false] ([]) [(1, 4)] Tryz.func21 rfl rfl rfl rfl (by kernel_rfl) h (cr_cons c0 (cr_same c1 (cr_cons c2 (cr_cons c3 cr_nil))))
theorem ctTop_w0 (lo : Kn.Low ⟨[(0, .c (.sl 0 0 L.length c)), (3, .c (.s (ByteArray.mk #[]))), (4, .c (.i 0))], [(0, Ent.mk false (pcell L) 0)], 1⟩) (hF : ∀ k, C.F k → k < 1) (z : AR 6 Tryz.f6 C 0 ⟨[(0, .c (.sl 0 0 L.length c)), (3, .c (.s (ByteArray.mk #[]))), (4, .c (.i 0))], [(0, Ent.mk false (pcell L) 0)], 1⟩ R) :
  BO 6 Tryz.f6 C [.c (.sl 0 0 L.length c)] [(0, Ent.mk false (pcell L) 0)] 1 R :=
 run_cut2 [] ([true]) [] Tryz.func6 (by kernel_rfl) rfl cr_nil lo hF z
theorem ctR_w0 (h : (decide ((j : Int) < (L.length : Int)) && (decide ((j : Int) < (L.length : Int)) && (Nat.ble (0 + (j : Int).toNat * 5 + 5) (pcell L).length && (decide (ByteArray.size t + ByteArray.size u1 ≤ 9223372036854775807) && true)))) = true) (c0 : pe (.ag (((pcell L).drop (0 + (j : Int).toNat * 5)).take 5)) = pe (.ag i.cs)) (c1 : Ok 21 [.ag i.cs] (.c (.s u1))) (c2 : pe (.c (.s (t ++ u1))) = pe (.c (.s m))) (c3 : pe (.c (.i (IntKind.i64.wrap ((j : Int) + 1)))) = pe (.c (.i (↑(j + 1) : Int)))) (lo : Kn.Low (ctRK L c (j + 1) m)) (hF : ∀ k, C.F k → k < 1) (z : AR 6 Tryz.f6 C 0 (ctRK L c (j + 1) m) R) :
  AR 6 Tryz.f6 C 0 (ctRK L c j t) R :=
 run_cut2 [true] ([true]) [(5, 4), (5, 6), (4, 1)] Tryz.func6 (by kernel_rfl) h (cr_same c0 (cr_cons c1 (cr_same c2 (cr_same c3 cr_nil)))) lo hF z
theorem ctE_w0 (h : (!decide ((j : Int) < (L.length : Int)) && true) = true) :
  AR 6 Tryz.f6 (cx w β n []) 0 (ctRK L c j t) (REff w β ⟨.c (.s t), [], none⟩) :=
 run_eff2 [] none [false] ([true]) [] Tryz.func6 (ekeys0 rfl n) (by kernel_rfl) h cr_nil
theorem gcR_w0 (h : (decide (0 < (↑(ByteArray.size t) : Int)) && (decide (0 < ByteArray.size t) && (byteAt t 0 == 114#8 && true))) = true) (c0 : Ok 46 [.c (.s t)] (.c (.i n1))) (hk : EKeys n [0] none ⟨.tu [], [(0, [.i i.op, .i i.d, .i n1, .u i.im, .i i.of])], none⟩) :
  BO 45 Tryz.f45 (cx w β n [0]) [.c (.s t), .c (.w 0)] [(0, Ent.mk true i.cs 0)] 1 (REff w β ⟨.tu [], [(0, [.i i.op, .i i.d, .i n1, .u i.im, .i i.of])], none⟩) :=
 run_eff2 [0] none [true, true] ([]) [] Tryz.func45 hk (by kernel_rfl) h (cr_cons c0 cr_nil)
theorem gcN_w0 (h : (decide (0 < (↑(ByteArray.size t) : Int)) && (decide (0 < ByteArray.size t) && (!byteAt t 0 == 114#8 && true))) = true) (c0 : Ok 47 [.c (.s t)] (.c (.u x))) (hk : EKeys n [0] none ⟨.tu [], [(0, [.i i.op, .i i.d, .i (-1), .u x, .i i.of])], none⟩) :
  BO 45 Tryz.f45 (cx w β n [0]) [.c (.s t), .c (.w 0)] [(0, Ent.mk true i.cs 0)] 1 (REff w β ⟨.tu [], [(0, [.i i.op, .i i.d, .i (-1), .u x, .i i.of])], none⟩) :=
 run_eff2 [0] none [true, false] ([]) [] Tryz.func45 hk (by kernel_rfl) h (cr_cons c0 cr_nil)
theorem gcZ_w0 (h : (!decide (0 < (↑(ByteArray.size t) : Int)) && true) = true) (c0 : Ok 47 [.c (.s t)] (.c (.u x))) (hk : EKeys n [0] none ⟨.tu [], [(0, [.i i.op, .i i.d, .i (-1), .u x, .i i.of])], none⟩) :
  BO 45 Tryz.f45 (cx w β n [0]) [.c (.s t), .c (.w 0)] [(0, Ent.mk true i.cs 0)] 1 (REff w β ⟨.tu [], [(0, [.i i.op, .i i.d, .i (-1), .u x, .i i.of])], none⟩) :=
 run_eff2 [0] none [false, false] ([]) [] Tryz.func45 hk (by kernel_rfl) h (cr_cons c0 cr_nil)
end
section
abbrev rcAK (L : List Ins) (c j : Nat) : Kn := ⟨[(0, .c (.sl 0 0 L.length c)), (3, .c (.i (j : Int)))], [(0, Ent.mk false (pcell L) 0)], 1⟩
abbrev rcBK (L : List Ins) (c j : Nat) : Kn := ⟨[(0, .c (.sl 0 0 L.length c)), (4, .c (.i (j : Int)))], [(0, Ent.mk false (pcell L) 0)], 1⟩
abbrev rcCK (L : List Ins) (c j : Nat) : Kn := ⟨[(0, .c (.sl 0 0 L.length c)), (5, .c (.i (j : Int)))], [(0, Ent.mk false (pcell L) 0)], 1⟩
variable {op a lo hi d q s of : Int} {V : AV} {i : Ins} {L : List Ins} {c n : Nat} {w : World} {β : Bs} {C : Cx} {R : Ending → World → Prop} {E : Eff} {m : Mach} {mem : ByteArray} {x im : BitVec 64}
theorem refBranches_w0 (h : (op == 13 && true) = true) :
  Ok 35 [.c (.i op)] (.c (.b true)) :=
 val_run2 [true] [] [] Tryz.func35 rfl rfl rfl rfl (by kernel_rfl) h cr_nil
theorem refBranches_w1 (h : (!op == 13 && true) = true) :
  Ok 35 [.c (.i op)] (.c (.b (op == 14))) :=
 val_run2 [false] [] [] Tryz.func35 rfl rfl rfl rfl (by kernel_rfl) h cr_nil
theorem refBranches_all
  (l0 : (op == 13) = true → (AV.c (.b true) = V))
  (l1 : (op == 13) = false → (AV.c (.b (op == 14)) = V)) :
  Ok 35 [.c (.i op)] V :=
 (tf (op == 13)).elim (fun h0 => (match l0 h0 with | e => ok_eq (refBranches_w0 (and_yes h0 rfl)) e)) (fun h0 => (match l1 h0 with | e => ok_eq (refBranches_w1 (and_yes (not_yes h0) rfl)) e))
theorem refReaches_w0 (h : (op == 10 && true) = true) :
  Ok 34 [.c (.i op)] (.c (.b true)) :=
 val_run2 [true] [] [] Tryz.func34 rfl rfl rfl rfl (by kernel_rfl) h cr_nil
theorem refReaches_w1 (h : (!op == 10 && true) = true) :
  Ok 34 [.c (.i op)] (.c (.b (op == 11))) :=
 val_run2 [false] [] [] Tryz.func34 rfl rfl rfl rfl (by kernel_rfl) h cr_nil
theorem refReaches_all
  (l0 : (op == 10) = true → (AV.c (.b true) = V))
  (l1 : (op == 10) = false → (AV.c (.b (op == 11)) = V)) :
  Ok 34 [.c (.i op)] V :=
 (tf (op == 10)).elim (fun h0 => (match l0 h0 with | e => ok_eq (refReaches_w0 (and_yes h0 rfl)) e)) (fun h0 => (match l1 h0 with | e => ok_eq (refReaches_w1 (and_yes (not_yes h0) rfl)) e))
theorem refReckons_w0 (c0 : Ok 18 [.c (.i op), .c (.i 1), .c (.i 9)] (.c (.b (decide (1 ≤ op) && decide (op ≤ 9))))) :
  Ok 33 [.c (.i op)] (.c (.b (decide (1 ≤ op) && decide (op ≤ 9)))) :=
 val_run2 [] [] [] Tryz.func33 rfl rfl rfl rfl (by kernel_rfl) rfl (cr_cons c0 cr_nil)
theorem refWithin_w0 (h : (decide (lo ≤ a) && true) = true) :
  Ok 18 [.c (.i a), .c (.i lo), .c (.i hi)] (.c (.b (decide (a ≤ hi)))) :=
 val_run2 [true] [] [] Tryz.func18 rfl rfl rfl rfl (by kernel_rfl) h cr_nil
theorem refWithin_w1 (h : (!decide (lo ≤ a) && true) = true) :
  Ok 18 [.c (.i a), .c (.i lo), .c (.i hi)] (.c (.b false)) :=
 val_run2 [false] [] [] Tryz.func18 rfl rfl rfl rfl (by kernel_rfl) h cr_nil
theorem refWithin_all
  (l0 : (decide (lo ≤ a)) = true → (AV.c (.b (decide (a ≤ hi))) = V))
  (l1 : (decide (lo ≤ a)) = false → (AV.c (.b false) = V)) :
  Ok 18 [.c (.i a), .c (.i lo), .c (.i hi)] V :=
 (tf (decide (lo ≤ a))).elim (fun h0 => (match l0 h0 with | e => ok_eq (refWithin_w0 (and_yes h0 rfl)) e)) (fun h0 => (match l1 h0 with | e => ok_eq (refWithin_w1 (and_yes (not_yes h0) rfl)) e))
theorem refReg_w0 (c0 : Ok 18 [.c (.i d), .c (.i 0), .c (.i 5)] (.c (.b (decide (0 ≤ d) && decide (d ≤ 5))))) :
  Ok 32 [.c (.i d)] (.c (.b (decide (0 ≤ d) && decide (d ≤ 5)))) :=
 val_run2 [] [] [] Tryz.func32 rfl rfl rfl rfl (by kernel_rfl) rfl (cr_cons c0 cr_nil)
theorem refFields_w0 (h : (decide (1 ≤ i.op) && decide (i.op ≤ 9) && (regB i.d && (regB i.s && true))) = true) (c0 : Ok 33 [.c (.i i.op)] (.c (.b (decide (1 ≤ i.op) && decide (i.op ≤ 9))))) (c1 : Ok 32 [.c (.i i.d)] (.c (.b (regB i.d)))) (c2 : Ok 32 [.c (.i i.s)] (.c (.b (regB i.s)))) :
  Ok 19 [.ag i.cs, .c (.i q)] (.c (.b true)) :=
 val_run2 [true, true, true] [] [] Tryz.func19 rfl rfl rfl rfl (by kernel_rfl) h (cr_cons c0 (cr_cons c1 (cr_cons c2 cr_nil)))
theorem refFields_w1 (h : (decide (1 ≤ i.op) && decide (i.op ≤ 9) && (regB i.d && (!regB i.s && true))) = true) (c0 : Ok 33 [.c (.i i.op)] (.c (.b (decide (1 ≤ i.op) && decide (i.op ≤ 9))))) (c1 : Ok 32 [.c (.i i.d)] (.c (.b (regB i.d)))) (c2 : Ok 32 [.c (.i i.s)] (.c (.b (regB i.s)))) :
  Ok 19 [.ag i.cs, .c (.i q)] (.c (.b (i.s == -1))) :=
 val_run2 [true, true, false] [] [] Tryz.func19 rfl rfl rfl rfl (by kernel_rfl) h (cr_cons c0 (cr_cons c1 (cr_cons c2 cr_nil)))
theorem refFields_w2 (h : (decide (1 ≤ i.op) && decide (i.op ≤ 9) && (!regB i.d && true)) = true) (c0 : Ok 33 [.c (.i i.op)] (.c (.b (decide (1 ≤ i.op) && decide (i.op ≤ 9))))) (c1 : Ok 32 [.c (.i i.d)] (.c (.b (regB i.d)))) :
  Ok 19 [.ag i.cs, .c (.i q)] (.c (.b false)) :=
 val_run2 [true, false] [] [] Tryz.func19 rfl rfl rfl rfl (by kernel_rfl) h (cr_cons c0 (cr_cons c1 cr_nil))
theorem refFields_w3 (h : (!(decide (1 ≤ i.op) && decide (i.op ≤ 9)) && ((i.op == 10 || i.op == 11) && (regB i.d && (regB i.s && (decide (-64 ≤ i.of) && decide (i.of ≤ 64) && (eqb i.im 1#64 && true)))))) = true) (c0 : Ok 33 [.c (.i i.op)] (.c (.b (decide (1 ≤ i.op) && decide (i.op ≤ 9))))) (c1 : Ok 34 [.c (.i i.op)] (.c (.b (i.op == 10 || i.op == 11)))) (c2 : Ok 32 [.c (.i i.d)] (.c (.b (regB i.d)))) (c3 : Ok 32 [.c (.i i.s)] (.c (.b (regB i.s)))) (c4 : Ok 18 [.c (.i i.of), .c (.i (-64)), .c (.i 64)] (.c (.b (decide (-64 ≤ i.of) && decide (i.of ≤ 64))))) :
  Ok 19 [.ag i.cs, .c (.i q)] (.c (.b true)) :=
 val_run2 [false, true, true, true, true, true, true, true] [] [] Tryz.func19 rfl rfl rfl rfl (by kernel_rfl) h (cr_cons c0 (cr_cons c1 (cr_cons c2 (cr_cons c3 (cr_cons c4 cr_nil)))))
theorem refFields_w4 (h : (!(decide (1 ≤ i.op) && decide (i.op ≤ 9)) && ((i.op == 10 || i.op == 11) && (regB i.d && (regB i.s && (decide (-64 ≤ i.of) && decide (i.of ≤ 64) && (!eqb i.im 1#64 && (eqb i.im 2#64 && true))))))) = true) (c0 : Ok 33 [.c (.i i.op)] (.c (.b (decide (1 ≤ i.op) && decide (i.op ≤ 9))))) (c1 : Ok 34 [.c (.i i.op)] (.c (.b (i.op == 10 || i.op == 11)))) (c2 : Ok 32 [.c (.i i.d)] (.c (.b (regB i.d)))) (c3 : Ok 32 [.c (.i i.s)] (.c (.b (regB i.s)))) (c4 : Ok 18 [.c (.i i.of), .c (.i (-64)), .c (.i 64)] (.c (.b (decide (-64 ≤ i.of) && decide (i.of ≤ 64))))) :
  Ok 19 [.ag i.cs, .c (.i q)] (.c (.b true)) :=
 val_run2 [false, true, true, true, true, false, true, true] [] [] Tryz.func19 rfl rfl rfl rfl (by kernel_rfl) h (cr_cons c0 (cr_cons c1 (cr_cons c2 (cr_cons c3 (cr_cons c4 cr_nil)))))
theorem refFields_w5 (h : (!(decide (1 ≤ i.op) && decide (i.op ≤ 9)) && ((i.op == 10 || i.op == 11) && (regB i.d && (regB i.s && (decide (-64 ≤ i.of) && decide (i.of ≤ 64) && (!eqb i.im 1#64 && (!eqb i.im 2#64 && (eqb i.im 4#64 && true)))))))) = true) (c0 : Ok 33 [.c (.i i.op)] (.c (.b (decide (1 ≤ i.op) && decide (i.op ≤ 9))))) (c1 : Ok 34 [.c (.i i.op)] (.c (.b (i.op == 10 || i.op == 11)))) (c2 : Ok 32 [.c (.i i.d)] (.c (.b (regB i.d)))) (c3 : Ok 32 [.c (.i i.s)] (.c (.b (regB i.s)))) (c4 : Ok 18 [.c (.i i.of), .c (.i (-64)), .c (.i 64)] (.c (.b (decide (-64 ≤ i.of) && decide (i.of ≤ 64))))) :
  Ok 19 [.ag i.cs, .c (.i q)] (.c (.b true)) :=
 val_run2 [false, true, true, true, true, false, false, true] [] [] Tryz.func19 rfl rfl rfl rfl (by kernel_rfl) h (cr_cons c0 (cr_cons c1 (cr_cons c2 (cr_cons c3 (cr_cons c4 cr_nil)))))
theorem refFields_w6 (h : (!(decide (1 ≤ i.op) && decide (i.op ≤ 9)) && ((i.op == 10 || i.op == 11) && (regB i.d && (regB i.s && (decide (-64 ≤ i.of) && decide (i.of ≤ 64) && (!eqb i.im 1#64 && (!eqb i.im 2#64 && (!eqb i.im 4#64 && true)))))))) = true) (c0 : Ok 33 [.c (.i i.op)] (.c (.b (decide (1 ≤ i.op) && decide (i.op ≤ 9))))) (c1 : Ok 34 [.c (.i i.op)] (.c (.b (i.op == 10 || i.op == 11)))) (c2 : Ok 32 [.c (.i i.d)] (.c (.b (regB i.d)))) (c3 : Ok 32 [.c (.i i.s)] (.c (.b (regB i.s)))) (c4 : Ok 18 [.c (.i i.of), .c (.i (-64)), .c (.i 64)] (.c (.b (decide (-64 ≤ i.of) && decide (i.of ≤ 64))))) :
  Ok 19 [.ag i.cs, .c (.i q)] (.c (.b (eqb i.im 8#64))) :=
 val_run2 [false, true, true, true, true, false, false, false] [] [] Tryz.func19 rfl rfl rfl rfl (by kernel_rfl) h (cr_cons c0 (cr_cons c1 (cr_cons c2 (cr_cons c3 (cr_cons c4 cr_nil)))))
theorem refFields_w7 (h : (!(decide (1 ≤ i.op) && decide (i.op ≤ 9)) && ((i.op == 10 || i.op == 11) && (regB i.d && (regB i.s && (!(decide (-64 ≤ i.of) && decide (i.of ≤ 64)) && true))))) = true) (c0 : Ok 33 [.c (.i i.op)] (.c (.b (decide (1 ≤ i.op) && decide (i.op ≤ 9))))) (c1 : Ok 34 [.c (.i i.op)] (.c (.b (i.op == 10 || i.op == 11)))) (c2 : Ok 32 [.c (.i i.d)] (.c (.b (regB i.d)))) (c3 : Ok 32 [.c (.i i.s)] (.c (.b (regB i.s)))) (c4 : Ok 18 [.c (.i i.of), .c (.i (-64)), .c (.i 64)] (.c (.b (decide (-64 ≤ i.of) && decide (i.of ≤ 64))))) :
  Ok 19 [.ag i.cs, .c (.i q)] (.c (.b false)) :=
 val_run2 [false, true, true, true, false] [] [] Tryz.func19 rfl rfl rfl rfl (by kernel_rfl) h (cr_cons c0 (cr_cons c1 (cr_cons c2 (cr_cons c3 (cr_cons c4 cr_nil)))))
theorem refFields_w8 (h : (!(decide (1 ≤ i.op) && decide (i.op ≤ 9)) && ((i.op == 10 || i.op == 11) && (regB i.d && (!regB i.s && true)))) = true) (c0 : Ok 33 [.c (.i i.op)] (.c (.b (decide (1 ≤ i.op) && decide (i.op ≤ 9))))) (c1 : Ok 34 [.c (.i i.op)] (.c (.b (i.op == 10 || i.op == 11)))) (c2 : Ok 32 [.c (.i i.d)] (.c (.b (regB i.d)))) (c3 : Ok 32 [.c (.i i.s)] (.c (.b (regB i.s)))) :
  Ok 19 [.ag i.cs, .c (.i q)] (.c (.b false)) :=
 val_run2 [false, true, true, false, false] [] [] Tryz.func19 rfl rfl rfl rfl (by kernel_rfl) h (cr_cons c0 (cr_cons c1 (cr_cons c2 (cr_cons c3 cr_nil))))
theorem refFields_w9 (h : (!(decide (1 ≤ i.op) && decide (i.op ≤ 9)) && ((i.op == 10 || i.op == 11) && (!regB i.d && true))) = true) (c0 : Ok 33 [.c (.i i.op)] (.c (.b (decide (1 ≤ i.op) && decide (i.op ≤ 9))))) (c1 : Ok 34 [.c (.i i.op)] (.c (.b (i.op == 10 || i.op == 11)))) (c2 : Ok 32 [.c (.i i.d)] (.c (.b (regB i.d)))) :
  Ok 19 [.ag i.cs, .c (.i q)] (.c (.b false)) :=
 val_run2 [false, true, false, false, false] [] [] Tryz.func19 rfl rfl rfl rfl (by kernel_rfl) h (cr_cons c0 (cr_cons c1 (cr_cons c2 cr_nil)))
theorem refFields_w10 (h : (!(decide (1 ≤ i.op) && decide (i.op ≤ 9)) && (!(i.op == 10 || i.op == 11) && ((i.op == 13 || i.op == 14) && (regB i.d && (regB i.s && true))))) = true) (c0 : Ok 33 [.c (.i i.op)] (.c (.b (decide (1 ≤ i.op) && decide (i.op ≤ 9))))) (c1 : Ok 34 [.c (.i i.op)] (.c (.b (i.op == 10 || i.op == 11)))) (c2 : Ok 35 [.c (.i i.op)] (.c (.b (i.op == 13 || i.op == 14)))) (c3 : Ok 32 [.c (.i i.d)] (.c (.b (regB i.d)))) (c4 : Ok 32 [.c (.i i.s)] (.c (.b (regB i.s)))) (c5 : Ok 18 [.c (.i i.of), .c (.i 0), .c (.i q)] (.c (.b (decide (0 ≤ i.of) && decide (i.of ≤ q))))) :
  Ok 19 [.ag i.cs, .c (.i q)] (.c (.b (decide (0 ≤ i.of) && decide (i.of ≤ q)))) :=
 val_run2 [false, false, true, true, true, true] [] [] Tryz.func19 rfl rfl rfl rfl (by kernel_rfl) h (cr_cons c0 (cr_cons c1 (cr_cons c2 (cr_cons c3 (cr_cons c4 (cr_cons c5 cr_nil))))))
theorem refFields_w11 (h : (!(decide (1 ≤ i.op) && decide (i.op ≤ 9)) && (!(i.op == 10 || i.op == 11) && ((i.op == 13 || i.op == 14) && (regB i.d && (!regB i.s && (i.s == -1 && true)))))) = true) (c0 : Ok 33 [.c (.i i.op)] (.c (.b (decide (1 ≤ i.op) && decide (i.op ≤ 9))))) (c1 : Ok 34 [.c (.i i.op)] (.c (.b (i.op == 10 || i.op == 11)))) (c2 : Ok 35 [.c (.i i.op)] (.c (.b (i.op == 13 || i.op == 14)))) (c3 : Ok 32 [.c (.i i.d)] (.c (.b (regB i.d)))) (c4 : Ok 32 [.c (.i i.s)] (.c (.b (regB i.s)))) (c5 : Ok 18 [.c (.i i.of), .c (.i 0), .c (.i q)] (.c (.b (decide (0 ≤ i.of) && decide (i.of ≤ q))))) :
  Ok 19 [.ag i.cs, .c (.i q)] (.c (.b (decide (0 ≤ i.of) && decide (i.of ≤ q)))) :=
 val_run2 [false, false, true, true, false, true] [] [] Tryz.func19 rfl rfl rfl rfl (by kernel_rfl) h (cr_cons c0 (cr_cons c1 (cr_cons c2 (cr_cons c3 (cr_cons c4 (cr_cons c5 cr_nil))))))
theorem refFields_w12 (h : (!(decide (1 ≤ i.op) && decide (i.op ≤ 9)) && (!(i.op == 10 || i.op == 11) && ((i.op == 13 || i.op == 14) && (regB i.d && (!regB i.s && (!i.s == -1 && true)))))) = true) (c0 : Ok 33 [.c (.i i.op)] (.c (.b (decide (1 ≤ i.op) && decide (i.op ≤ 9))))) (c1 : Ok 34 [.c (.i i.op)] (.c (.b (i.op == 10 || i.op == 11)))) (c2 : Ok 35 [.c (.i i.op)] (.c (.b (i.op == 13 || i.op == 14)))) (c3 : Ok 32 [.c (.i i.d)] (.c (.b (regB i.d)))) (c4 : Ok 32 [.c (.i i.s)] (.c (.b (regB i.s)))) :
  Ok 19 [.ag i.cs, .c (.i q)] (.c (.b false)) :=
 val_run2 [false, false, true, true, false, false] [] [] Tryz.func19 rfl rfl rfl rfl (by kernel_rfl) h (cr_cons c0 (cr_cons c1 (cr_cons c2 (cr_cons c3 (cr_cons c4 cr_nil)))))
theorem refFields_w13 (h : (!(decide (1 ≤ i.op) && decide (i.op ≤ 9)) && (!(i.op == 10 || i.op == 11) && ((i.op == 13 || i.op == 14) && (!regB i.d && true)))) = true) (c0 : Ok 33 [.c (.i i.op)] (.c (.b (decide (1 ≤ i.op) && decide (i.op ≤ 9))))) (c1 : Ok 34 [.c (.i i.op)] (.c (.b (i.op == 10 || i.op == 11)))) (c2 : Ok 35 [.c (.i i.op)] (.c (.b (i.op == 13 || i.op == 14)))) (c3 : Ok 32 [.c (.i i.d)] (.c (.b (regB i.d)))) :
  Ok 19 [.ag i.cs, .c (.i q)] (.c (.b false)) :=
 val_run2 [false, false, true, false, false] [] [] Tryz.func19 rfl rfl rfl rfl (by kernel_rfl) h (cr_cons c0 (cr_cons c1 (cr_cons c2 (cr_cons c3 cr_nil))))
theorem refFields_w14 (h : (!(decide (1 ≤ i.op) && decide (i.op ≤ 9)) && (!(i.op == 10 || i.op == 11) && (!(i.op == 13 || i.op == 14) && (i.op == 12 && true)))) = true) (c0 : Ok 33 [.c (.i i.op)] (.c (.b (decide (1 ≤ i.op) && decide (i.op ≤ 9))))) (c1 : Ok 34 [.c (.i i.op)] (.c (.b (i.op == 10 || i.op == 11)))) (c2 : Ok 35 [.c (.i i.op)] (.c (.b (i.op == 13 || i.op == 14)))) (c3 : Ok 18 [.c (.i i.of), .c (.i 0), .c (.i q)] (.c (.b (decide (0 ≤ i.of) && decide (i.of ≤ q))))) :
  Ok 19 [.ag i.cs, .c (.i q)] (.c (.b (decide (0 ≤ i.of) && decide (i.of ≤ q)))) :=
 val_run2 [false, false, false, true] [] [] Tryz.func19 rfl rfl rfl rfl (by kernel_rfl) h (cr_cons c0 (cr_cons c1 (cr_cons c2 (cr_cons c3 cr_nil))))
theorem refFields_w15 (h : (!(decide (1 ≤ i.op) && decide (i.op ≤ 9)) && (!(i.op == 10 || i.op == 11) && (!(i.op == 13 || i.op == 14) && (!i.op == 12 && true)))) = true) (c0 : Ok 33 [.c (.i i.op)] (.c (.b (decide (1 ≤ i.op) && decide (i.op ≤ 9))))) (c1 : Ok 34 [.c (.i i.op)] (.c (.b (i.op == 10 || i.op == 11)))) (c2 : Ok 35 [.c (.i i.op)] (.c (.b (i.op == 13 || i.op == 14)))) :
  Ok 19 [.ag i.cs, .c (.i q)] (.c (.b true)) :=
 val_run2 [false, false, false, false] [] [] Tryz.func19 rfl rfl rfl rfl (by kernel_rfl) h (cr_cons c0 (cr_cons c1 (cr_cons c2 cr_nil)))
theorem refFields_all
  (l0 : (decide (1 ≤ i.op) && decide (i.op ≤ 9)) = true → (regB i.d) = true → (regB i.s) = true → (Ok 33 [.c (.i i.op)] (.c (.b (decide (1 ≤ i.op) && decide (i.op ≤ 9))))) ∧ (Ok 32 [.c (.i i.d)] (.c (.b (regB i.d)))) ∧ (Ok 32 [.c (.i i.s)] (.c (.b (regB i.s)))) ∧ (AV.c (.b true) = V))
  (l1 : (decide (1 ≤ i.op) && decide (i.op ≤ 9)) = true → (regB i.d) = true → (regB i.s) = false → (Ok 33 [.c (.i i.op)] (.c (.b (decide (1 ≤ i.op) && decide (i.op ≤ 9))))) ∧ (Ok 32 [.c (.i i.d)] (.c (.b (regB i.d)))) ∧ (Ok 32 [.c (.i i.s)] (.c (.b (regB i.s)))) ∧ (AV.c (.b (i.s == -1)) = V))
  (l2 : (decide (1 ≤ i.op) && decide (i.op ≤ 9)) = true → (regB i.d) = false → (Ok 33 [.c (.i i.op)] (.c (.b (decide (1 ≤ i.op) && decide (i.op ≤ 9))))) ∧ (Ok 32 [.c (.i i.d)] (.c (.b (regB i.d)))) ∧ (AV.c (.b false) = V))
  (l3 : (decide (1 ≤ i.op) && decide (i.op ≤ 9)) = false → (i.op == 10 || i.op == 11) = true → (regB i.d) = true → (regB i.s) = true → (decide (-64 ≤ i.of) && decide (i.of ≤ 64)) = true → (eqb i.im 1#64) = true → (Ok 33 [.c (.i i.op)] (.c (.b (decide (1 ≤ i.op) && decide (i.op ≤ 9))))) ∧ (Ok 34 [.c (.i i.op)] (.c (.b (i.op == 10 || i.op == 11)))) ∧ (Ok 32 [.c (.i i.d)] (.c (.b (regB i.d)))) ∧ (Ok 32 [.c (.i i.s)] (.c (.b (regB i.s)))) ∧ (Ok 18 [.c (.i i.of), .c (.i (-64)), .c (.i 64)] (.c (.b (decide (-64 ≤ i.of) && decide (i.of ≤ 64))))) ∧ (AV.c (.b true) = V))
  (l4 : (decide (1 ≤ i.op) && decide (i.op ≤ 9)) = false → (i.op == 10 || i.op == 11) = true → (regB i.d) = true → (regB i.s) = true → (decide (-64 ≤ i.of) && decide (i.of ≤ 64)) = true → (eqb i.im 1#64) = false → (eqb i.im 2#64) = true → (Ok 33 [.c (.i i.op)] (.c (.b (decide (1 ≤ i.op) && decide (i.op ≤ 9))))) ∧ (Ok 34 [.c (.i i.op)] (.c (.b (i.op == 10 || i.op == 11)))) ∧ (Ok 32 [.c (.i i.d)] (.c (.b (regB i.d)))) ∧ (Ok 32 [.c (.i i.s)] (.c (.b (regB i.s)))) ∧ (Ok 18 [.c (.i i.of), .c (.i (-64)), .c (.i 64)] (.c (.b (decide (-64 ≤ i.of) && decide (i.of ≤ 64))))) ∧ (AV.c (.b true) = V))
  (l5 : (decide (1 ≤ i.op) && decide (i.op ≤ 9)) = false → (i.op == 10 || i.op == 11) = true → (regB i.d) = true → (regB i.s) = true → (decide (-64 ≤ i.of) && decide (i.of ≤ 64)) = true → (eqb i.im 1#64) = false → (eqb i.im 2#64) = false → (eqb i.im 4#64) = true → (Ok 33 [.c (.i i.op)] (.c (.b (decide (1 ≤ i.op) && decide (i.op ≤ 9))))) ∧ (Ok 34 [.c (.i i.op)] (.c (.b (i.op == 10 || i.op == 11)))) ∧ (Ok 32 [.c (.i i.d)] (.c (.b (regB i.d)))) ∧ (Ok 32 [.c (.i i.s)] (.c (.b (regB i.s)))) ∧ (Ok 18 [.c (.i i.of), .c (.i (-64)), .c (.i 64)] (.c (.b (decide (-64 ≤ i.of) && decide (i.of ≤ 64))))) ∧ (AV.c (.b true) = V))
  (l6 : (decide (1 ≤ i.op) && decide (i.op ≤ 9)) = false → (i.op == 10 || i.op == 11) = true → (regB i.d) = true → (regB i.s) = true → (decide (-64 ≤ i.of) && decide (i.of ≤ 64)) = true → (eqb i.im 1#64) = false → (eqb i.im 2#64) = false → (eqb i.im 4#64) = false → (Ok 33 [.c (.i i.op)] (.c (.b (decide (1 ≤ i.op) && decide (i.op ≤ 9))))) ∧ (Ok 34 [.c (.i i.op)] (.c (.b (i.op == 10 || i.op == 11)))) ∧ (Ok 32 [.c (.i i.d)] (.c (.b (regB i.d)))) ∧ (Ok 32 [.c (.i i.s)] (.c (.b (regB i.s)))) ∧ (Ok 18 [.c (.i i.of), .c (.i (-64)), .c (.i 64)] (.c (.b (decide (-64 ≤ i.of) && decide (i.of ≤ 64))))) ∧ (AV.c (.b (eqb i.im 8#64)) = V))
  (l7 : (decide (1 ≤ i.op) && decide (i.op ≤ 9)) = false → (i.op == 10 || i.op == 11) = true → (regB i.d) = true → (regB i.s) = true → (decide (-64 ≤ i.of) && decide (i.of ≤ 64)) = false → (Ok 33 [.c (.i i.op)] (.c (.b (decide (1 ≤ i.op) && decide (i.op ≤ 9))))) ∧ (Ok 34 [.c (.i i.op)] (.c (.b (i.op == 10 || i.op == 11)))) ∧ (Ok 32 [.c (.i i.d)] (.c (.b (regB i.d)))) ∧ (Ok 32 [.c (.i i.s)] (.c (.b (regB i.s)))) ∧ (Ok 18 [.c (.i i.of), .c (.i (-64)), .c (.i 64)] (.c (.b (decide (-64 ≤ i.of) && decide (i.of ≤ 64))))) ∧ (AV.c (.b false) = V))
  (l8 : (decide (1 ≤ i.op) && decide (i.op ≤ 9)) = false → (i.op == 10 || i.op == 11) = true → (regB i.d) = true → (regB i.s) = false → (Ok 33 [.c (.i i.op)] (.c (.b (decide (1 ≤ i.op) && decide (i.op ≤ 9))))) ∧ (Ok 34 [.c (.i i.op)] (.c (.b (i.op == 10 || i.op == 11)))) ∧ (Ok 32 [.c (.i i.d)] (.c (.b (regB i.d)))) ∧ (Ok 32 [.c (.i i.s)] (.c (.b (regB i.s)))) ∧ (AV.c (.b false) = V))
  (l9 : (decide (1 ≤ i.op) && decide (i.op ≤ 9)) = false → (i.op == 10 || i.op == 11) = true → (regB i.d) = false → (Ok 33 [.c (.i i.op)] (.c (.b (decide (1 ≤ i.op) && decide (i.op ≤ 9))))) ∧ (Ok 34 [.c (.i i.op)] (.c (.b (i.op == 10 || i.op == 11)))) ∧ (Ok 32 [.c (.i i.d)] (.c (.b (regB i.d)))) ∧ (AV.c (.b false) = V))
  (l10 : (decide (1 ≤ i.op) && decide (i.op ≤ 9)) = false → (i.op == 10 || i.op == 11) = false → (i.op == 13 || i.op == 14) = true → (regB i.d) = true → (regB i.s) = true → (Ok 33 [.c (.i i.op)] (.c (.b (decide (1 ≤ i.op) && decide (i.op ≤ 9))))) ∧ (Ok 34 [.c (.i i.op)] (.c (.b (i.op == 10 || i.op == 11)))) ∧ (Ok 35 [.c (.i i.op)] (.c (.b (i.op == 13 || i.op == 14)))) ∧ (Ok 32 [.c (.i i.d)] (.c (.b (regB i.d)))) ∧ (Ok 32 [.c (.i i.s)] (.c (.b (regB i.s)))) ∧ (Ok 18 [.c (.i i.of), .c (.i 0), .c (.i q)] (.c (.b (decide (0 ≤ i.of) && decide (i.of ≤ q))))) ∧ (AV.c (.b (decide (0 ≤ i.of) && decide (i.of ≤ q))) = V))
  (l11 : (decide (1 ≤ i.op) && decide (i.op ≤ 9)) = false → (i.op == 10 || i.op == 11) = false → (i.op == 13 || i.op == 14) = true → (regB i.d) = true → (regB i.s) = false → (i.s == -1) = true → (Ok 33 [.c (.i i.op)] (.c (.b (decide (1 ≤ i.op) && decide (i.op ≤ 9))))) ∧ (Ok 34 [.c (.i i.op)] (.c (.b (i.op == 10 || i.op == 11)))) ∧ (Ok 35 [.c (.i i.op)] (.c (.b (i.op == 13 || i.op == 14)))) ∧ (Ok 32 [.c (.i i.d)] (.c (.b (regB i.d)))) ∧ (Ok 32 [.c (.i i.s)] (.c (.b (regB i.s)))) ∧ (Ok 18 [.c (.i i.of), .c (.i 0), .c (.i q)] (.c (.b (decide (0 ≤ i.of) && decide (i.of ≤ q))))) ∧ (AV.c (.b (decide (0 ≤ i.of) && decide (i.of ≤ q))) = V))
  (l12 : (decide (1 ≤ i.op) && decide (i.op ≤ 9)) = false → (i.op == 10 || i.op == 11) = false → (i.op == 13 || i.op == 14) = true → (regB i.d) = true → (regB i.s) = false → (i.s == -1) = false → (Ok 33 [.c (.i i.op)] (.c (.b (decide (1 ≤ i.op) && decide (i.op ≤ 9))))) ∧ (Ok 34 [.c (.i i.op)] (.c (.b (i.op == 10 || i.op == 11)))) ∧ (Ok 35 [.c (.i i.op)] (.c (.b (i.op == 13 || i.op == 14)))) ∧ (Ok 32 [.c (.i i.d)] (.c (.b (regB i.d)))) ∧ (Ok 32 [.c (.i i.s)] (.c (.b (regB i.s)))) ∧ (AV.c (.b false) = V))
  (l13 : (decide (1 ≤ i.op) && decide (i.op ≤ 9)) = false → (i.op == 10 || i.op == 11) = false → (i.op == 13 || i.op == 14) = true → (regB i.d) = false → (Ok 33 [.c (.i i.op)] (.c (.b (decide (1 ≤ i.op) && decide (i.op ≤ 9))))) ∧ (Ok 34 [.c (.i i.op)] (.c (.b (i.op == 10 || i.op == 11)))) ∧ (Ok 35 [.c (.i i.op)] (.c (.b (i.op == 13 || i.op == 14)))) ∧ (Ok 32 [.c (.i i.d)] (.c (.b (regB i.d)))) ∧ (AV.c (.b false) = V))
  (l14 : (decide (1 ≤ i.op) && decide (i.op ≤ 9)) = false → (i.op == 10 || i.op == 11) = false → (i.op == 13 || i.op == 14) = false → (i.op == 12) = true → (Ok 33 [.c (.i i.op)] (.c (.b (decide (1 ≤ i.op) && decide (i.op ≤ 9))))) ∧ (Ok 34 [.c (.i i.op)] (.c (.b (i.op == 10 || i.op == 11)))) ∧ (Ok 35 [.c (.i i.op)] (.c (.b (i.op == 13 || i.op == 14)))) ∧ (Ok 18 [.c (.i i.of), .c (.i 0), .c (.i q)] (.c (.b (decide (0 ≤ i.of) && decide (i.of ≤ q))))) ∧ (AV.c (.b (decide (0 ≤ i.of) && decide (i.of ≤ q))) = V))
  (l15 : (decide (1 ≤ i.op) && decide (i.op ≤ 9)) = false → (i.op == 10 || i.op == 11) = false → (i.op == 13 || i.op == 14) = false → (i.op == 12) = false → (Ok 33 [.c (.i i.op)] (.c (.b (decide (1 ≤ i.op) && decide (i.op ≤ 9))))) ∧ (Ok 34 [.c (.i i.op)] (.c (.b (i.op == 10 || i.op == 11)))) ∧ (Ok 35 [.c (.i i.op)] (.c (.b (i.op == 13 || i.op == 14)))) ∧ (AV.c (.b true) = V)) :
  Ok 19 [.ag i.cs, .c (.i q)] V :=
 (tf (decide (1 ≤ i.op) && decide (i.op ≤ 9))).elim (fun h0 => (tf (regB i.d)).elim (fun h1 => (tf (regB i.s)).elim (fun h2 => (match l0 h0 h1 h2 with | ⟨c0, c1, c2, e⟩ => ok_eq (refFields_w0 (and_yes h0 (and_yes h1 (and_yes h2 rfl))) c0 c1 c2) e)) (fun h2 => (match l1 h0 h1 h2 with | ⟨c0, c1, c2, e⟩ => ok_eq (refFields_w1 (and_yes h0 (and_yes h1 (and_yes (not_yes h2) rfl))) c0 c1 c2) e))) (fun h1 => (match l2 h0 h1 with | ⟨c0, c1, e⟩ => ok_eq (refFields_w2 (and_yes h0 (and_yes (not_yes h1) rfl)) c0 c1) e))) (fun h0 => (tf (i.op == 10 || i.op == 11)).elim (fun h1 => (tf (regB i.d)).elim (fun h2 => (tf (regB i.s)).elim (fun h3 => (tf (decide (-64 ≤ i.of) && decide (i.of ≤ 64))).elim (fun h4 => (tf (eqb i.im 1#64)).elim (fun h5 => (match l3 h0 h1 h2 h3 h4 h5 with | ⟨c0, c1, c2, c3, c4, e⟩ => ok_eq (refFields_w3 (and_yes (not_yes h0) (and_yes h1 (and_yes h2 (and_yes h3 (and_yes h4 (and_yes h5 rfl)))))) c0 c1 c2 c3 c4) e)) (fun h5 => (tf (eqb i.im 2#64)).elim (fun h6 => (match l4 h0 h1 h2 h3 h4 h5 h6 with | ⟨c0, c1, c2, c3, c4, e⟩ => ok_eq (refFields_w4 (and_yes (not_yes h0) (and_yes h1 (and_yes h2 (and_yes h3 (and_yes h4 (and_yes (not_yes h5) (and_yes h6 rfl))))))) c0 c1 c2 c3 c4) e)) (fun h6 => (tf (eqb i.im 4#64)).elim (fun h7 => (match l5 h0 h1 h2 h3 h4 h5 h6 h7 with | ⟨c0, c1, c2, c3, c4, e⟩ => ok_eq (refFields_w5 (and_yes (not_yes h0) (and_yes h1 (and_yes h2 (and_yes h3 (and_yes h4 (and_yes (not_yes h5) (and_yes (not_yes h6) (and_yes h7 rfl)))))))) c0 c1 c2 c3 c4) e)) (fun h7 => (match l6 h0 h1 h2 h3 h4 h5 h6 h7 with | ⟨c0, c1, c2, c3, c4, e⟩ => ok_eq (refFields_w6 (and_yes (not_yes h0) (and_yes h1 (and_yes h2 (and_yes h3 (and_yes h4 (and_yes (not_yes h5) (and_yes (not_yes h6) (and_yes (not_yes h7) rfl)))))))) c0 c1 c2 c3 c4) e))))) (fun h4 => (match l7 h0 h1 h2 h3 h4 with | ⟨c0, c1, c2, c3, c4, e⟩ => ok_eq (refFields_w7 (and_yes (not_yes h0) (and_yes h1 (and_yes h2 (and_yes h3 (and_yes (not_yes h4) rfl))))) c0 c1 c2 c3 c4) e))) (fun h3 => (match l8 h0 h1 h2 h3 with | ⟨c0, c1, c2, c3, e⟩ => ok_eq (refFields_w8 (and_yes (not_yes h0) (and_yes h1 (and_yes h2 (and_yes (not_yes h3) rfl)))) c0 c1 c2 c3) e))) (fun h2 => (match l9 h0 h1 h2 with | ⟨c0, c1, c2, e⟩ => ok_eq (refFields_w9 (and_yes (not_yes h0) (and_yes h1 (and_yes (not_yes h2) rfl))) c0 c1 c2) e))) (fun h1 => (tf (i.op == 13 || i.op == 14)).elim (fun h2 => (tf (regB i.d)).elim (fun h3 => (tf (regB i.s)).elim (fun h4 => (match l10 h0 h1 h2 h3 h4 with | ⟨c0, c1, c2, c3, c4, c5, e⟩ => ok_eq (refFields_w10 (and_yes (not_yes h0) (and_yes (not_yes h1) (and_yes h2 (and_yes h3 (and_yes h4 rfl))))) c0 c1 c2 c3 c4 c5) e)) (fun h4 => (tf (i.s == -1)).elim (fun h5 => (match l11 h0 h1 h2 h3 h4 h5 with | ⟨c0, c1, c2, c3, c4, c5, e⟩ => ok_eq (refFields_w11 (and_yes (not_yes h0) (and_yes (not_yes h1) (and_yes h2 (and_yes h3 (and_yes (not_yes h4) (and_yes h5 rfl)))))) c0 c1 c2 c3 c4 c5) e)) (fun h5 => (match l12 h0 h1 h2 h3 h4 h5 with | ⟨c0, c1, c2, c3, c4, e⟩ => ok_eq (refFields_w12 (and_yes (not_yes h0) (and_yes (not_yes h1) (and_yes h2 (and_yes h3 (and_yes (not_yes h4) (and_yes (not_yes h5) rfl)))))) c0 c1 c2 c3 c4) e)))) (fun h3 => (match l13 h0 h1 h2 h3 with | ⟨c0, c1, c2, c3, e⟩ => ok_eq (refFields_w13 (and_yes (not_yes h0) (and_yes (not_yes h1) (and_yes h2 (and_yes (not_yes h3) rfl)))) c0 c1 c2 c3) e))) (fun h2 => (tf (i.op == 12)).elim (fun h3 => (match l14 h0 h1 h2 h3 with | ⟨c0, c1, c2, c3, e⟩ => ok_eq (refFields_w14 (and_yes (not_yes h0) (and_yes (not_yes h1) (and_yes (not_yes h2) (and_yes h3 rfl)))) c0 c1 c2 c3) e)) (fun h3 => (match l15 h0 h1 h2 h3 with | ⟨c0, c1, c2, e⟩ => ok_eq (refFields_w15 (and_yes (not_yes h0) (and_yes (not_yes h1) (and_yes (not_yes h2) (and_yes (not_yes h3) rfl)))) c0 c1 c2) e)))))
theorem refOthers_w0 (h : (decide (1 ≤ i.op) && decide (i.op ≤ 9) && (i.of == 0 && (i.s == -1 && true))) = true) (c0 : Ok 33 [.c (.i i.op)] (.c (.b (decide (1 ≤ i.op) && decide (i.op ≤ 9))))) :
  Ok 20 [.ag i.cs] (.c (.b true)) :=
 val_run2 [true, true, true] [] [] Tryz.func20 rfl rfl rfl rfl (by kernel_rfl) h (cr_cons c0 cr_nil)
theorem refOthers_w1 (h : (decide (1 ≤ i.op) && decide (i.op ≤ 9) && (i.of == 0 && (!i.s == -1 && true))) = true) (c0 : Ok 33 [.c (.i i.op)] (.c (.b (decide (1 ≤ i.op) && decide (i.op ≤ 9))))) :
  Ok 20 [.ag i.cs] (.c (.b (eqb i.im 0#64))) :=
 val_run2 [true, true, false] [] [] Tryz.func20 rfl rfl rfl rfl (by kernel_rfl) h (cr_cons c0 cr_nil)
theorem refOthers_w2 (h : (decide (1 ≤ i.op) && decide (i.op ≤ 9) && (!i.of == 0 && true)) = true) (c0 : Ok 33 [.c (.i i.op)] (.c (.b (decide (1 ≤ i.op) && decide (i.op ≤ 9))))) :
  Ok 20 [.ag i.cs] (.c (.b false)) :=
 val_run2 [true, false] [] [] Tryz.func20 rfl rfl rfl rfl (by kernel_rfl) h (cr_cons c0 cr_nil)
theorem refOthers_w3 (h : (!(decide (1 ≤ i.op) && decide (i.op ≤ 9)) && ((i.op == 13 || i.op == 14) && (i.s == -1 && true))) = true) (c0 : Ok 33 [.c (.i i.op)] (.c (.b (decide (1 ≤ i.op) && decide (i.op ≤ 9))))) (c1 : Ok 35 [.c (.i i.op)] (.c (.b (i.op == 13 || i.op == 14)))) :
  Ok 20 [.ag i.cs] (.c (.b true)) :=
 val_run2 [false, true, true] [] [] Tryz.func20 rfl rfl rfl rfl (by kernel_rfl) h (cr_cons c0 (cr_cons c1 cr_nil))
theorem refOthers_w4 (h : (!(decide (1 ≤ i.op) && decide (i.op ≤ 9)) && ((i.op == 13 || i.op == 14) && (!i.s == -1 && true))) = true) (c0 : Ok 33 [.c (.i i.op)] (.c (.b (decide (1 ≤ i.op) && decide (i.op ≤ 9))))) (c1 : Ok 35 [.c (.i i.op)] (.c (.b (i.op == 13 || i.op == 14)))) :
  Ok 20 [.ag i.cs] (.c (.b (eqb i.im 0#64))) :=
 val_run2 [false, true, false] [] [] Tryz.func20 rfl rfl rfl rfl (by kernel_rfl) h (cr_cons c0 (cr_cons c1 cr_nil))
theorem refOthers_w5 (h : (!(decide (1 ≤ i.op) && decide (i.op ≤ 9)) && (!(i.op == 13 || i.op == 14) && (i.op == 12 && (i.d == 0 && (i.s == 0 && true))))) = true) (c0 : Ok 33 [.c (.i i.op)] (.c (.b (decide (1 ≤ i.op) && decide (i.op ≤ 9))))) (c1 : Ok 35 [.c (.i i.op)] (.c (.b (i.op == 13 || i.op == 14)))) :
  Ok 20 [.ag i.cs] (.c (.b (eqb i.im 0#64))) :=
 val_run2 [false, false, true, true, true] [] [] Tryz.func20 rfl rfl rfl rfl (by kernel_rfl) h (cr_cons c0 (cr_cons c1 cr_nil))
theorem refOthers_w6 (h : (!(decide (1 ≤ i.op) && decide (i.op ≤ 9)) && (!(i.op == 13 || i.op == 14) && (i.op == 12 && (i.d == 0 && (!i.s == 0 && true))))) = true) (c0 : Ok 33 [.c (.i i.op)] (.c (.b (decide (1 ≤ i.op) && decide (i.op ≤ 9))))) (c1 : Ok 35 [.c (.i i.op)] (.c (.b (i.op == 13 || i.op == 14)))) :
  Ok 20 [.ag i.cs] (.c (.b false)) :=
 val_run2 [false, false, true, true, false] [] [] Tryz.func20 rfl rfl rfl rfl (by kernel_rfl) h (cr_cons c0 (cr_cons c1 cr_nil))
theorem refOthers_w7 (h : (!(decide (1 ≤ i.op) && decide (i.op ≤ 9)) && (!(i.op == 13 || i.op == 14) && (i.op == 12 && (!i.d == 0 && true)))) = true) (c0 : Ok 33 [.c (.i i.op)] (.c (.b (decide (1 ≤ i.op) && decide (i.op ≤ 9))))) (c1 : Ok 35 [.c (.i i.op)] (.c (.b (i.op == 13 || i.op == 14)))) :
  Ok 20 [.ag i.cs] (.c (.b false)) :=
 val_run2 [false, false, true, false, false] [] [] Tryz.func20 rfl rfl rfl rfl (by kernel_rfl) h (cr_cons c0 (cr_cons c1 cr_nil))
theorem refOthers_w8 (h : (!(decide (1 ≤ i.op) && decide (i.op ≤ 9)) && (!(i.op == 13 || i.op == 14) && (!i.op == 12 && (i.op == 15 && true)))) = true) (c0 : Ok 33 [.c (.i i.op)] (.c (.b (decide (1 ≤ i.op) && decide (i.op ≤ 9))))) (c1 : Ok 35 [.c (.i i.op)] (.c (.b (i.op == 13 || i.op == 14)))) :
  Ok 20 [.ag i.cs] (.c (.b (eqCs i.cs (splice [.i 0, .i 0, .i 0, .u 0#64, .i 0] 0 [.i 15])))) :=
 val_run2 [false, false, false, true] [] [] Tryz.func20 rfl rfl rfl rfl (by kernel_rfl) h (cr_cons c0 (cr_cons c1 cr_nil))
theorem refOthers_w9 (h : (!(decide (1 ≤ i.op) && decide (i.op ≤ 9)) && (!(i.op == 13 || i.op == 14) && (!i.op == 12 && (!i.op == 15 && true)))) = true) (c0 : Ok 33 [.c (.i i.op)] (.c (.b (decide (1 ≤ i.op) && decide (i.op ≤ 9))))) (c1 : Ok 35 [.c (.i i.op)] (.c (.b (i.op == 13 || i.op == 14)))) :
  Ok 20 [.ag i.cs] (.c (.b true)) :=
 val_run2 [false, false, false, false] [] [] Tryz.func20 rfl rfl rfl rfl (by kernel_rfl) h (cr_cons c0 (cr_cons c1 cr_nil))
theorem refOthers_all
  (l0 : (decide (1 ≤ i.op) && decide (i.op ≤ 9)) = true → (i.of == 0) = true → (i.s == -1) = true → (Ok 33 [.c (.i i.op)] (.c (.b (decide (1 ≤ i.op) && decide (i.op ≤ 9))))) ∧ (AV.c (.b true) = V))
  (l1 : (decide (1 ≤ i.op) && decide (i.op ≤ 9)) = true → (i.of == 0) = true → (i.s == -1) = false → (Ok 33 [.c (.i i.op)] (.c (.b (decide (1 ≤ i.op) && decide (i.op ≤ 9))))) ∧ (AV.c (.b (eqb i.im 0#64)) = V))
  (l2 : (decide (1 ≤ i.op) && decide (i.op ≤ 9)) = true → (i.of == 0) = false → (Ok 33 [.c (.i i.op)] (.c (.b (decide (1 ≤ i.op) && decide (i.op ≤ 9))))) ∧ (AV.c (.b false) = V))
  (l3 : (decide (1 ≤ i.op) && decide (i.op ≤ 9)) = false → (i.op == 13 || i.op == 14) = true → (i.s == -1) = true → (Ok 33 [.c (.i i.op)] (.c (.b (decide (1 ≤ i.op) && decide (i.op ≤ 9))))) ∧ (Ok 35 [.c (.i i.op)] (.c (.b (i.op == 13 || i.op == 14)))) ∧ (AV.c (.b true) = V))
  (l4 : (decide (1 ≤ i.op) && decide (i.op ≤ 9)) = false → (i.op == 13 || i.op == 14) = true → (i.s == -1) = false → (Ok 33 [.c (.i i.op)] (.c (.b (decide (1 ≤ i.op) && decide (i.op ≤ 9))))) ∧ (Ok 35 [.c (.i i.op)] (.c (.b (i.op == 13 || i.op == 14)))) ∧ (AV.c (.b (eqb i.im 0#64)) = V))
  (l5 : (decide (1 ≤ i.op) && decide (i.op ≤ 9)) = false → (i.op == 13 || i.op == 14) = false → (i.op == 12) = true → (i.d == 0) = true → (i.s == 0) = true → (Ok 33 [.c (.i i.op)] (.c (.b (decide (1 ≤ i.op) && decide (i.op ≤ 9))))) ∧ (Ok 35 [.c (.i i.op)] (.c (.b (i.op == 13 || i.op == 14)))) ∧ (AV.c (.b (eqb i.im 0#64)) = V))
  (l6 : (decide (1 ≤ i.op) && decide (i.op ≤ 9)) = false → (i.op == 13 || i.op == 14) = false → (i.op == 12) = true → (i.d == 0) = true → (i.s == 0) = false → (Ok 33 [.c (.i i.op)] (.c (.b (decide (1 ≤ i.op) && decide (i.op ≤ 9))))) ∧ (Ok 35 [.c (.i i.op)] (.c (.b (i.op == 13 || i.op == 14)))) ∧ (AV.c (.b false) = V))
  (l7 : (decide (1 ≤ i.op) && decide (i.op ≤ 9)) = false → (i.op == 13 || i.op == 14) = false → (i.op == 12) = true → (i.d == 0) = false → (Ok 33 [.c (.i i.op)] (.c (.b (decide (1 ≤ i.op) && decide (i.op ≤ 9))))) ∧ (Ok 35 [.c (.i i.op)] (.c (.b (i.op == 13 || i.op == 14)))) ∧ (AV.c (.b false) = V))
  (l8 : (decide (1 ≤ i.op) && decide (i.op ≤ 9)) = false → (i.op == 13 || i.op == 14) = false → (i.op == 12) = false → (i.op == 15) = true → (Ok 33 [.c (.i i.op)] (.c (.b (decide (1 ≤ i.op) && decide (i.op ≤ 9))))) ∧ (Ok 35 [.c (.i i.op)] (.c (.b (i.op == 13 || i.op == 14)))) ∧ (AV.c (.b (eqCs i.cs (splice [.i 0, .i 0, .i 0, .u 0#64, .i 0] 0 [.i 15]))) = V))
  (l9 : (decide (1 ≤ i.op) && decide (i.op ≤ 9)) = false → (i.op == 13 || i.op == 14) = false → (i.op == 12) = false → (i.op == 15) = false → (Ok 33 [.c (.i i.op)] (.c (.b (decide (1 ≤ i.op) && decide (i.op ≤ 9))))) ∧ (Ok 35 [.c (.i i.op)] (.c (.b (i.op == 13 || i.op == 14)))) ∧ (AV.c (.b true) = V)) :
  Ok 20 [.ag i.cs] V :=
 (tf (decide (1 ≤ i.op) && decide (i.op ≤ 9))).elim (fun h0 => (tf (i.of == 0)).elim (fun h1 => (tf (i.s == -1)).elim (fun h2 => (match l0 h0 h1 h2 with | ⟨c0, e⟩ => ok_eq (refOthers_w0 (and_yes h0 (and_yes h1 (and_yes h2 rfl))) c0) e)) (fun h2 => (match l1 h0 h1 h2 with | ⟨c0, e⟩ => ok_eq (refOthers_w1 (and_yes h0 (and_yes h1 (and_yes (not_yes h2) rfl))) c0) e))) (fun h1 => (match l2 h0 h1 with | ⟨c0, e⟩ => ok_eq (refOthers_w2 (and_yes h0 (and_yes (not_yes h1) rfl)) c0) e))) (fun h0 => (tf (i.op == 13 || i.op == 14)).elim (fun h1 => (tf (i.s == -1)).elim (fun h2 => (match l3 h0 h1 h2 with | ⟨c0, c1, e⟩ => ok_eq (refOthers_w3 (and_yes (not_yes h0) (and_yes h1 (and_yes h2 rfl))) c0 c1) e)) (fun h2 => (match l4 h0 h1 h2 with | ⟨c0, c1, e⟩ => ok_eq (refOthers_w4 (and_yes (not_yes h0) (and_yes h1 (and_yes (not_yes h2) rfl))) c0 c1) e))) (fun h1 => (tf (i.op == 12)).elim (fun h2 => (tf (i.d == 0)).elim (fun h3 => (tf (i.s == 0)).elim (fun h4 => (match l5 h0 h1 h2 h3 h4 with | ⟨c0, c1, e⟩ => ok_eq (refOthers_w5 (and_yes (not_yes h0) (and_yes (not_yes h1) (and_yes h2 (and_yes h3 (and_yes h4 rfl))))) c0 c1) e)) (fun h4 => (match l6 h0 h1 h2 h3 h4 with | ⟨c0, c1, e⟩ => ok_eq (refOthers_w6 (and_yes (not_yes h0) (and_yes (not_yes h1) (and_yes h2 (and_yes h3 (and_yes (not_yes h4) rfl))))) c0 c1) e))) (fun h3 => (match l7 h0 h1 h2 h3 with | ⟨c0, c1, e⟩ => ok_eq (refOthers_w7 (and_yes (not_yes h0) (and_yes (not_yes h1) (and_yes h2 (and_yes (not_yes h3) rfl)))) c0 c1) e))) (fun h2 => (tf (i.op == 15)).elim (fun h3 => (match l8 h0 h1 h2 h3 with | ⟨c0, c1, e⟩ => ok_eq (refOthers_w8 (and_yes (not_yes h0) (and_yes (not_yes h1) (and_yes (not_yes h2) (and_yes h3 rfl)))) c0 c1) e)) (fun h3 => (match l9 h0 h1 h2 h3 with | ⟨c0, c1, e⟩ => ok_eq (refOthers_w9 (and_yes (not_yes h0) (and_yes (not_yes h1) (and_yes (not_yes h2) (and_yes (not_yes h3) rfl)))) c0 c1) e)))))
theorem rcTop_w0 (h : (!(decide (1 ≤ (L.length : Int)) && decide ((L.length : Int) ≤ 64)) && true) = true) (c0 : Ok 18 [.c (.i (L.length : Int)), .c (.i 1), .c (.i 64)] (.c (.b (decide (1 ≤ (L.length : Int)) && decide ((L.length : Int) ≤ 64))))) :
  BO 5 Tryz.f5 (cx w β n []) [.c (.sl 0 0 L.length c)] [(0, Ent.mk false (pcell L) 0)] 1 (REff w β ⟨.c (.i 2), [], none⟩) :=
 run_eff2 [] none [true] [true] [] Tryz.func5 (ekeys0 rfl n) (by kernel_rfl) h (cr_cons c0 cr_nil)
theorem rcTop_w1 (h : (!!(decide (1 ≤ (L.length : Int)) && decide ((L.length : Int) ≤ 64)) && true) = true) (c0 : Ok 18 [.c (.i (L.length : Int)), .c (.i 1), .c (.i 64)] (.c (.b (decide (1 ≤ (L.length : Int)) && decide ((L.length : Int) ≤ 64))))) (lo : Kn.Low ⟨[(0, .c (.sl 0 0 L.length c)), (3, .c (.i 0))], [(0, Ent.mk false (pcell L) 0)], 1⟩) (hF : ∀ k, C.F k → k < 1) (z : AR 5 Tryz.f5 C 0 ⟨[(0, .c (.sl 0 0 L.length c)), (3, .c (.i 0))], [(0, Ent.mk false (pcell L) 0)], 1⟩ R) :
  BO 5 Tryz.f5 C [.c (.sl 0 0 L.length c)] [(0, Ent.mk false (pcell L) 0)] 1 R :=
 run_cut2 [false] [true] [] Tryz.func5 (by kernel_rfl) h (cr_cons c0 cr_nil) lo hF z
theorem rcTop_all (hn : n ≤ 1)
  (l0 : (!(decide (1 ≤ (L.length : Int)) && decide ((L.length : Int) ≤ 64))) = true → (Ok 18 [.c (.i (L.length : Int)), .c (.i 1), .c (.i 64)] (.c (.b (decide (1 ≤ (L.length : Int)) && decide ((L.length : Int) ≤ 64))))) ∧ ((⟨.c (.i 2), [], none⟩ : Eff) = E))
  (l1 : (!(decide (1 ≤ (L.length : Int)) && decide ((L.length : Int) ≤ 64))) = false → (Ok 18 [.c (.i (L.length : Int)), .c (.i 1), .c (.i 64)] (.c (.b (decide (1 ≤ (L.length : Int)) && decide ((L.length : Int) ≤ 64))))) ∧ Kn.Low ⟨[(0, .c (.sl 0 0 L.length c)), (3, .c (.i 0))], [(0, Ent.mk false (pcell L) 0)], 1⟩ ∧ AR 5 Tryz.f5 (cx w β n []) 0 ⟨[(0, .c (.sl 0 0 L.length c)), (3, .c (.i 0))], [(0, Ent.mk false (pcell L) 0)], 1⟩ (REff w β E)) :
  BO 5 Tryz.f5 (cx w β n []) [.c (.sl 0 0 L.length c)] [(0, Ent.mk false (pcell L) 0)] 1 (REff w β E) :=
 (tf (!(decide (1 ≤ (L.length : Int)) && decide ((L.length : Int) ≤ 64)))).elim (fun h0 => (match l0 h0 with | ⟨c0, e⟩ => art_eq (rcTop_w0 (and_yes h0 rfl) c0) e)) (fun h0 => (match l1 h0 with | ⟨c0, lo, z⟩ => rcTop_w1 (and_yes (not_yes h0) rfl) c0 lo (fun _ hk => Nat.lt_of_lt_of_le hk hn) z))
theorem rcA_w0 {j : Nat} (h : (decide ((j : Int) < (L.length : Int)) && (decide ((j : Int) < (L.length : Int)) && (AC.isI ((pcell L)[0 + (j : Int).toNat * 5 + 0]?.getD (.b false)) && Nat.blt (0 + (j : Int).toNat * 5 + 0) (pcell L).length && (!(decide (1 ≤ (elt L j).op) && decide ((elt L j).op ≤ 15)) && true)))) = true) (c0 : pe (.c (.i (AC.asI ((pcell L)[0 + (j : Int).toNat * 5 + 0]?.getD (.b false))))) = pe (.c (.i (elt L j).op))) (c1 : Ok 18 [.c (.i (elt L j).op), .c (.i 1), .c (.i 15)] (.c (.b (decide (1 ≤ (elt L j).op) && decide ((elt L j).op ≤ 15))))) :
  AR 5 Tryz.f5 (cx w β n []) 0 (rcAK L c j) (REff w β ⟨.c (.i 4), [], none⟩) :=
 run_eff2 [] none [true, true] [true] [(6, 4)] Tryz.func5 (ekeys0 rfl n) (by kernel_rfl) h (cr_same c0 (cr_cons c1 cr_nil))
theorem rcA_w1 {j : Nat} (h : (decide ((j : Int) < (L.length : Int)) && (decide ((j : Int) < (L.length : Int)) && (AC.isI ((pcell L)[0 + (j : Int).toNat * 5 + 0]?.getD (.b false)) && Nat.blt (0 + (j : Int).toNat * 5 + 0) (pcell L).length && (!!(decide (1 ≤ (elt L j).op) && decide ((elt L j).op ≤ 15)) && true)))) = true) (c0 : pe (.c (.i (AC.asI ((pcell L)[0 + (j : Int).toNat * 5 + 0]?.getD (.b false))))) = pe (.c (.i (elt L j).op))) (c1 : Ok 18 [.c (.i (elt L j).op), .c (.i 1), .c (.i 15)] (.c (.b (decide (1 ≤ (elt L j).op) && decide ((elt L j).op ≤ 15))))) (lo : Kn.Low ⟨[(0, .c (.sl 0 0 L.length c)), (3, .c (.i (IntKind.i64.wrap ((j : Int) + 1))))], [(0, Ent.mk false (pcell L) 0)], 1⟩) (hF : ∀ k, C.F k → k < 1) (z : AR 5 Tryz.f5 C 0 ⟨[(0, .c (.sl 0 0 L.length c)), (3, .c (.i (IntKind.i64.wrap ((j : Int) + 1))))], [(0, Ent.mk false (pcell L) 0)], 1⟩ R) :
  AR 5 Tryz.f5 C 0 (rcAK L c j) R :=
 run_cut2 [true, false] [true] [(6, 4)] Tryz.func5 (by kernel_rfl) h (cr_same c0 (cr_cons c1 cr_nil)) lo hF z
theorem rcA_all {j : Nat} (hn : n ≤ 1)
  (l0 : (!(decide (1 ≤ (elt L j).op) && decide ((elt L j).op ≤ 15))) = true → (decide ((j : Int) < (L.length : Int))) = true ∧ (decide ((j : Int) < (L.length : Int))) = true ∧ (AC.isI ((pcell L)[0 + (j : Int).toNat * 5 + 0]?.getD (.b false)) && Nat.blt (0 + (j : Int).toNat * 5 + 0) (pcell L).length) = true ∧ (pe (.c (.i (AC.asI ((pcell L)[0 + (j : Int).toNat * 5 + 0]?.getD (.b false))))) = pe (.c (.i (elt L j).op))) ∧ (Ok 18 [.c (.i (elt L j).op), .c (.i 1), .c (.i 15)] (.c (.b (decide (1 ≤ (elt L j).op) && decide ((elt L j).op ≤ 15))))) ∧ ((⟨.c (.i 4), [], none⟩ : Eff) = E))
  (l1 : (!(decide (1 ≤ (elt L j).op) && decide ((elt L j).op ≤ 15))) = false → (decide ((j : Int) < (L.length : Int))) = true ∧ (decide ((j : Int) < (L.length : Int))) = true ∧ (AC.isI ((pcell L)[0 + (j : Int).toNat * 5 + 0]?.getD (.b false)) && Nat.blt (0 + (j : Int).toNat * 5 + 0) (pcell L).length) = true ∧ (pe (.c (.i (AC.asI ((pcell L)[0 + (j : Int).toNat * 5 + 0]?.getD (.b false))))) = pe (.c (.i (elt L j).op))) ∧ (Ok 18 [.c (.i (elt L j).op), .c (.i 1), .c (.i 15)] (.c (.b (decide (1 ≤ (elt L j).op) && decide ((elt L j).op ≤ 15))))) ∧ Kn.Low ⟨[(0, .c (.sl 0 0 L.length c)), (3, .c (.i (IntKind.i64.wrap ((j : Int) + 1))))], [(0, Ent.mk false (pcell L) 0)], 1⟩ ∧ AR 5 Tryz.f5 (cx w β n []) 0 ⟨[(0, .c (.sl 0 0 L.length c)), (3, .c (.i (IntKind.i64.wrap ((j : Int) + 1))))], [(0, Ent.mk false (pcell L) 0)], 1⟩ (REff w β E)) :
  AR 5 Tryz.f5 (cx w β n []) 0 (rcAK L c j) (REff w β E) :=
 (tf (!(decide (1 ≤ (elt L j).op) && decide ((elt L j).op ≤ 15)))).elim (fun h0 => (match l0 h0 with | ⟨o0, o1, o2, c0, c1, e⟩ => art_eq (rcA_w0 (and_yes o0 (and_yes o1 (and_yes o2 (and_yes h0 rfl)))) c0 c1) e)) (fun h0 => (match l1 h0 with | ⟨o0, o1, o2, c0, c1, lo, z⟩ => rcA_w1 (and_yes o0 (and_yes o1 (and_yes o2 (and_yes (not_yes h0) rfl)))) c0 c1 lo (fun _ hk => Nat.lt_of_lt_of_le hk hn) z))
theorem rcAx_w0 {j : Nat} (h : (!decide ((j : Int) < (L.length : Int)) && true) = true) (lo : Kn.Low ⟨[(0, .c (.sl 0 0 L.length c)), (4, .c (.i 0))], [(0, Ent.mk false (pcell L) 0)], 1⟩) (hF : ∀ k, C.F k → k < 1) (z : AR 5 Tryz.f5 C 1 ⟨[(0, .c (.sl 0 0 L.length c)), (4, .c (.i 0))], [(0, Ent.mk false (pcell L) 0)], 1⟩ R) :
  AR 5 Tryz.f5 C 0 (rcAK L c j) R :=
 run_cut2 [false] [true] [] Tryz.func5 (by kernel_rfl) h cr_nil lo hF z
theorem rcB_w0 {j : Nat} (h : (decide ((j : Int) < (L.length : Int)) && (decide ((j : Int) < (L.length : Int)) && (Nat.ble (0 + (j : Int).toNat * 5 + 5) (pcell L).length && (!inB (elt L j) (↑(L.length - 1 - j) : Int) && true)))) = true) (c0 : pe (.ag (((pcell L).drop (0 + (j : Int).toNat * 5)).take 5)) = pe (.ag (elt L j).cs)) (c1 : pe (.c (.i (IntKind.i64.wrap (IntKind.i64.wrap ((L.length : Int) - 2) - (j : Int))))) = pe (.c (.i ((↑(L.length - 1 - j) : Int) - 1)))) (c2 : pe (.c (.b (inB (elt L j) ((↑(L.length - 1 - j) : Int) - 1 + 1)))) = pe (.c (.b (inB (elt L j) (↑(L.length - 1 - j) : Int))))) (c3 : Ok 19 [.ag (elt L j).cs, .c (.i ((↑(L.length - 1 - j) : Int) - 1))] (.c (.b (inB (elt L j) ((↑(L.length - 1 - j) : Int) - 1 + 1))))) :
  AR 5 Tryz.f5 (cx w β n []) 1 (rcBK L c j) (REff w β ⟨.c (.i 3), [], none⟩) :=
 run_eff [] none 2000 [pe (.ag (elt L j).cs), pe (.c (.i ((↑(L.length - 1 - j) : Int) - 1))), pe (.c (.b (inB (elt L j) ((↑(L.length - 1 - j) : Int) - 1 + 1)))), pe (.c (.b (inB (elt L j) (↑(L.length - 1 - j) : Int))))] [true, true] [true] [(11, 3), (11, 8), (11, 9)] Tryz.func5 (ekeys0 rfl n) (by kernel_rfl) h (cr_same c0 (cr_same c1 (cr_same c2 (cr_cons c3 cr_nil))))
theorem rcB_w1 {j : Nat} (h : (decide ((j : Int) < (L.length : Int)) && (decide ((j : Int) < (L.length : Int)) && (Nat.ble (0 + (j : Int).toNat * 5 + 5) (pcell L).length && (!!inB (elt L j) (↑(L.length - 1 - j) : Int) && true)))) = true) (c0 : pe (.ag (((pcell L).drop (0 + (j : Int).toNat * 5)).take 5)) = pe (.ag (elt L j).cs)) (c1 : pe (.c (.i (IntKind.i64.wrap (IntKind.i64.wrap ((L.length : Int) - 2) - (j : Int))))) = pe (.c (.i ((↑(L.length - 1 - j) : Int) - 1)))) (c2 : pe (.c (.b (inB (elt L j) ((↑(L.length - 1 - j) : Int) - 1 + 1)))) = pe (.c (.b (inB (elt L j) (↑(L.length - 1 - j) : Int))))) (c3 : Ok 19 [.ag (elt L j).cs, .c (.i ((↑(L.length - 1 - j) : Int) - 1))] (.c (.b (inB (elt L j) ((↑(L.length - 1 - j) : Int) - 1 + 1))))) (lo : Kn.Low ⟨[(0, .c (.sl 0 0 L.length c)), (4, .c (.i (IntKind.i64.wrap ((j : Int) + 1))))], [(0, Ent.mk false (pcell L) 0)], 1⟩) (hF : ∀ k, C.F k → k < 1) (z : AR 5 Tryz.f5 C 1 ⟨[(0, .c (.sl 0 0 L.length c)), (4, .c (.i (IntKind.i64.wrap ((j : Int) + 1))))], [(0, Ent.mk false (pcell L) 0)], 1⟩ R) :
  AR 5 Tryz.f5 C 1 (rcBK L c j) R :=
 run_cut ⟨[(0, .c (.sl 0 0 L.length c)), (4, .c (.i (IntKind.i64.wrap ((j : Int) + 1))))], [(0, Ent.mk false (pcell L) 0)], 1⟩ 2000 [pe (.ag (elt L j).cs), pe (.c (.i ((↑(L.length - 1 - j) : Int) - 1))), pe (.c (.b (inB (elt L j) ((↑(L.length - 1 - j) : Int) - 1 + 1)))), pe (.c (.b (inB (elt L j) (↑(L.length - 1 - j) : Int))))] [true, false] [true] [(11, 3), (11, 8), (11, 9)] Tryz.func5 (by kernel_rfl) h (cr_same c0 (cr_same c1 (cr_same c2 (cr_cons c3 cr_nil)))) lo hF z
theorem rcB_all {j : Nat} (hn : n ≤ 1)
  (l0 : (!inB (elt L j) (↑(L.length - 1 - j) : Int)) = true → (decide ((j : Int) < (L.length : Int))) = true ∧ (decide ((j : Int) < (L.length : Int))) = true ∧ (Nat.ble (0 + (j : Int).toNat * 5 + 5) (pcell L).length) = true ∧ (pe (.ag (((pcell L).drop (0 + (j : Int).toNat * 5)).take 5)) = pe (.ag (elt L j).cs)) ∧ (pe (.c (.i (IntKind.i64.wrap (IntKind.i64.wrap ((L.length : Int) - 2) - (j : Int))))) = pe (.c (.i ((↑(L.length - 1 - j) : Int) - 1)))) ∧ (pe (.c (.b (inB (elt L j) ((↑(L.length - 1 - j) : Int) - 1 + 1)))) = pe (.c (.b (inB (elt L j) (↑(L.length - 1 - j) : Int))))) ∧ (Ok 19 [.ag (elt L j).cs, .c (.i ((↑(L.length - 1 - j) : Int) - 1))] (.c (.b (inB (elt L j) ((↑(L.length - 1 - j) : Int) - 1 + 1))))) ∧ ((⟨.c (.i 3), [], none⟩ : Eff) = E))
  (l1 : (!inB (elt L j) (↑(L.length - 1 - j) : Int)) = false → (decide ((j : Int) < (L.length : Int))) = true ∧ (decide ((j : Int) < (L.length : Int))) = true ∧ (Nat.ble (0 + (j : Int).toNat * 5 + 5) (pcell L).length) = true ∧ (pe (.ag (((pcell L).drop (0 + (j : Int).toNat * 5)).take 5)) = pe (.ag (elt L j).cs)) ∧ (pe (.c (.i (IntKind.i64.wrap (IntKind.i64.wrap ((L.length : Int) - 2) - (j : Int))))) = pe (.c (.i ((↑(L.length - 1 - j) : Int) - 1)))) ∧ (pe (.c (.b (inB (elt L j) ((↑(L.length - 1 - j) : Int) - 1 + 1)))) = pe (.c (.b (inB (elt L j) (↑(L.length - 1 - j) : Int))))) ∧ (Ok 19 [.ag (elt L j).cs, .c (.i ((↑(L.length - 1 - j) : Int) - 1))] (.c (.b (inB (elt L j) ((↑(L.length - 1 - j) : Int) - 1 + 1))))) ∧ Kn.Low ⟨[(0, .c (.sl 0 0 L.length c)), (4, .c (.i (IntKind.i64.wrap ((j : Int) + 1))))], [(0, Ent.mk false (pcell L) 0)], 1⟩ ∧ AR 5 Tryz.f5 (cx w β n []) 1 ⟨[(0, .c (.sl 0 0 L.length c)), (4, .c (.i (IntKind.i64.wrap ((j : Int) + 1))))], [(0, Ent.mk false (pcell L) 0)], 1⟩ (REff w β E)) :
  AR 5 Tryz.f5 (cx w β n []) 1 (rcBK L c j) (REff w β E) :=
 (tf (!inB (elt L j) (↑(L.length - 1 - j) : Int))).elim (fun h0 => (match l0 h0 with | ⟨o0, o1, o2, c0, c1, c2, c3, e⟩ => art_eq (rcB_w0 (and_yes o0 (and_yes o1 (and_yes o2 (and_yes h0 rfl)))) c0 c1 c2 c3) e)) (fun h0 => (match l1 h0 with | ⟨o0, o1, o2, c0, c1, c2, c3, lo, z⟩ => rcB_w1 (and_yes o0 (and_yes o1 (and_yes o2 (and_yes (not_yes h0) rfl)))) c0 c1 c2 c3 lo (fun _ hk => Nat.lt_of_lt_of_le hk hn) z))
theorem rcBx_w0 {j : Nat} (h : (!decide ((j : Int) < (L.length : Int)) && true) = true) (lo : Kn.Low ⟨[(0, .c (.sl 0 0 L.length c)), (5, .c (.i 0))], [(0, Ent.mk false (pcell L) 0)], 1⟩) (hF : ∀ k, C.F k → k < 1) (z : AR 5 Tryz.f5 C 2 ⟨[(0, .c (.sl 0 0 L.length c)), (5, .c (.i 0))], [(0, Ent.mk false (pcell L) 0)], 1⟩ R) :
  AR 5 Tryz.f5 C 1 (rcBK L c j) R :=
 run_cut2 [false] [true] [] Tryz.func5 (by kernel_rfl) h cr_nil lo hF z
theorem rcC_w0 {j : Nat} (h : (decide ((j : Int) < (L.length : Int)) && (decide ((j : Int) < (L.length : Int)) && (Nat.ble (0 + (j : Int).toNat * 5 + 5) (pcell L).length && (!bareB (elt L j) && true)))) = true) (c0 : pe (.ag (((pcell L).drop (0 + (j : Int).toNat * 5)).take 5)) = pe (.ag (elt L j).cs)) (c1 : Ok 20 [.ag (elt L j).cs] (.c (.b (bareB (elt L j))))) :
  AR 5 Tryz.f5 (cx w β n []) 2 (rcCK L c j) (REff w β ⟨.c (.i 1), [], none⟩) :=
 run_eff2 [] none [true, true] [true] [(16, 3)] Tryz.func5 (ekeys0 rfl n) (by kernel_rfl) h (cr_same c0 (cr_cons c1 cr_nil))
theorem rcC_w1 {j : Nat} (h : (decide ((j : Int) < (L.length : Int)) && (decide ((j : Int) < (L.length : Int)) && (Nat.ble (0 + (j : Int).toNat * 5 + 5) (pcell L).length && (!!bareB (elt L j) && true)))) = true) (c0 : pe (.ag (((pcell L).drop (0 + (j : Int).toNat * 5)).take 5)) = pe (.ag (elt L j).cs)) (c1 : Ok 20 [.ag (elt L j).cs] (.c (.b (bareB (elt L j))))) (lo : Kn.Low ⟨[(0, .c (.sl 0 0 L.length c)), (5, .c (.i (IntKind.i64.wrap ((j : Int) + 1))))], [(0, Ent.mk false (pcell L) 0)], 1⟩) (hF : ∀ k, C.F k → k < 1) (z : AR 5 Tryz.f5 C 2 ⟨[(0, .c (.sl 0 0 L.length c)), (5, .c (.i (IntKind.i64.wrap ((j : Int) + 1))))], [(0, Ent.mk false (pcell L) 0)], 1⟩ R) :
  AR 5 Tryz.f5 C 2 (rcCK L c j) R :=
 run_cut2 [true, false] [true] [(16, 3)] Tryz.func5 (by kernel_rfl) h (cr_same c0 (cr_cons c1 cr_nil)) lo hF z
theorem rcC_all {j : Nat} (hn : n ≤ 1)
  (l0 : (!bareB (elt L j)) = true → (decide ((j : Int) < (L.length : Int))) = true ∧ (decide ((j : Int) < (L.length : Int))) = true ∧ (Nat.ble (0 + (j : Int).toNat * 5 + 5) (pcell L).length) = true ∧ (pe (.ag (((pcell L).drop (0 + (j : Int).toNat * 5)).take 5)) = pe (.ag (elt L j).cs)) ∧ (Ok 20 [.ag (elt L j).cs] (.c (.b (bareB (elt L j))))) ∧ ((⟨.c (.i 1), [], none⟩ : Eff) = E))
  (l1 : (!bareB (elt L j)) = false → (decide ((j : Int) < (L.length : Int))) = true ∧ (decide ((j : Int) < (L.length : Int))) = true ∧ (Nat.ble (0 + (j : Int).toNat * 5 + 5) (pcell L).length) = true ∧ (pe (.ag (((pcell L).drop (0 + (j : Int).toNat * 5)).take 5)) = pe (.ag (elt L j).cs)) ∧ (Ok 20 [.ag (elt L j).cs] (.c (.b (bareB (elt L j))))) ∧ Kn.Low ⟨[(0, .c (.sl 0 0 L.length c)), (5, .c (.i (IntKind.i64.wrap ((j : Int) + 1))))], [(0, Ent.mk false (pcell L) 0)], 1⟩ ∧ AR 5 Tryz.f5 (cx w β n []) 2 ⟨[(0, .c (.sl 0 0 L.length c)), (5, .c (.i (IntKind.i64.wrap ((j : Int) + 1))))], [(0, Ent.mk false (pcell L) 0)], 1⟩ (REff w β E)) :
  AR 5 Tryz.f5 (cx w β n []) 2 (rcCK L c j) (REff w β E) :=
 (tf (!bareB (elt L j))).elim (fun h0 => (match l0 h0 with | ⟨o0, o1, o2, c0, c1, e⟩ => art_eq (rcC_w0 (and_yes o0 (and_yes o1 (and_yes o2 (and_yes h0 rfl)))) c0 c1) e)) (fun h0 => (match l1 h0 with | ⟨o0, o1, o2, c0, c1, lo, z⟩ => rcC_w1 (and_yes o0 (and_yes o1 (and_yes o2 (and_yes (not_yes h0) rfl)))) c0 c1 lo (fun _ hk => Nat.lt_of_lt_of_le hk hn) z))
theorem rcCx_w0 {j : Nat} (h : (!decide ((j : Int) < (L.length : Int)) && (decide (0 ≤ IntKind.i64.wrap ((L.length : Int) - 1)) && decide (IntKind.i64.wrap ((L.length : Int) - 1) < (L.length : Int)) && (AC.isI ((pcell L)[0 + (IntKind.i64.wrap ((L.length : Int) - 1)).toNat * 5 + 0]?.getD (.b false)) && Nat.blt (0 + (IntKind.i64.wrap ((L.length : Int) - 1)).toNat * 5 + 0) (pcell L).length && (lastOp L != 15 && true)))) = true) (c0 : pe (.c (.i (AC.asI ((pcell L)[0 + (IntKind.i64.wrap ((L.length : Int) - 1)).toNat * 5 + 0]?.getD (.b false))))) = pe (.c (.i (lastOp L)))) :
  AR 5 Tryz.f5 (cx w β n []) 2 (rcCK L c j) (REff w β ⟨.c (.i 1), [], none⟩) :=
 run_eff2 [] none [false, true] [true] [(18, 6)] Tryz.func5 (ekeys0 rfl n) (by kernel_rfl) h (cr_same c0 cr_nil)
theorem rcCx_w1 {j : Nat} (h : (!decide ((j : Int) < (L.length : Int)) && (decide (0 ≤ IntKind.i64.wrap ((L.length : Int) - 1)) && decide (IntKind.i64.wrap ((L.length : Int) - 1) < (L.length : Int)) && (AC.isI ((pcell L)[0 + (IntKind.i64.wrap ((L.length : Int) - 1)).toNat * 5 + 0]?.getD (.b false)) && Nat.blt (0 + (IntKind.i64.wrap ((L.length : Int) - 1)).toNat * 5 + 0) (pcell L).length && (!lastOp L != 15 && true)))) = true) (c0 : pe (.c (.i (AC.asI ((pcell L)[0 + (IntKind.i64.wrap ((L.length : Int) - 1)).toNat * 5 + 0]?.getD (.b false))))) = pe (.c (.i (lastOp L)))) :
  AR 5 Tryz.f5 (cx w β n []) 2 (rcCK L c j) (REff w β ⟨.c (.i 0), [], none⟩) :=
 run_eff2 [] none [false, false] [true] [(18, 6)] Tryz.func5 (ekeys0 rfl n) (by kernel_rfl) h (cr_same c0 cr_nil)
theorem rcCx_all {j : Nat}
  (l0 : (lastOp L != 15) = true → (!decide ((j : Int) < (L.length : Int))) = true ∧ (decide (0 ≤ IntKind.i64.wrap ((L.length : Int) - 1)) && decide (IntKind.i64.wrap ((L.length : Int) - 1) < (L.length : Int))) = true ∧ (AC.isI ((pcell L)[0 + (IntKind.i64.wrap ((L.length : Int) - 1)).toNat * 5 + 0]?.getD (.b false)) && Nat.blt (0 + (IntKind.i64.wrap ((L.length : Int) - 1)).toNat * 5 + 0) (pcell L).length) = true ∧ (pe (.c (.i (AC.asI ((pcell L)[0 + (IntKind.i64.wrap ((L.length : Int) - 1)).toNat * 5 + 0]?.getD (.b false))))) = pe (.c (.i (lastOp L)))) ∧ ((⟨.c (.i 1), [], none⟩ : Eff) = E))
  (l1 : (lastOp L != 15) = false → (!decide ((j : Int) < (L.length : Int))) = true ∧ (decide (0 ≤ IntKind.i64.wrap ((L.length : Int) - 1)) && decide (IntKind.i64.wrap ((L.length : Int) - 1) < (L.length : Int))) = true ∧ (AC.isI ((pcell L)[0 + (IntKind.i64.wrap ((L.length : Int) - 1)).toNat * 5 + 0]?.getD (.b false)) && Nat.blt (0 + (IntKind.i64.wrap ((L.length : Int) - 1)).toNat * 5 + 0) (pcell L).length) = true ∧ (pe (.c (.i (AC.asI ((pcell L)[0 + (IntKind.i64.wrap ((L.length : Int) - 1)).toNat * 5 + 0]?.getD (.b false))))) = pe (.c (.i (lastOp L)))) ∧ ((⟨.c (.i 0), [], none⟩ : Eff) = E)) :
  AR 5 Tryz.f5 (cx w β n []) 2 (rcCK L c j) (REff w β E) :=
 (tf (lastOp L != 15)).elim (fun h0 => (match l0 h0 with | ⟨o0, o1, o2, c0, e⟩ => art_eq (rcCx_w0 (and_yes o0 (and_yes o1 (and_yes o2 (and_yes h0 rfl)))) c0) e)) (fun h0 => (match l1 h0 with | ⟨o0, o1, o2, c0, e⟩ => art_eq (rcCx_w1 (and_yes o0 (and_yes o1 (and_yes o2 (and_yes (not_yes h0) rfl)))) c0) e))
theorem rcNil_w0 (c0 : Ok 18 [.c (.i 0), .c (.i 1), .c (.i 64)] (.c (.b false))) :
  Ok 5 [.c nilSl] (.c (.i 2)) :=
 val_run2 [true] [] [] Tryz.func5 rfl rfl rfl rfl (by kernel_rfl) rfl (cr_cons c0 cr_nil)
end
section
variable {m : Mach} {w : World} {β : Bs} {n c : Nat} {C : Cx} {R : Ending → World → Prop} {E : Eff} {u : V6 Bool} {j e q : Int} {mem : ByteArray} {x : BitVec 64} {V : AV} {L : List Ins}
end
section
variable {i : Ins} {m : Mach} {jp : Bool} {V : AV} {d s of : Int} {im : BitVec 64}
end
section
variable {i : Ins} {m : Mach} {C : Cx} {R : Ending → World → Prop} {u : V6 Bool} {j d s of op : Int} {w : World} {β : Bs} {n : Nat} {E : Eff} {im : BitVec 64}
end

/- where a run is -/
theorem refBranches_ok (op : Int) : Ok 35 [.c (.i op)] (.c (.b (op == 13 || op == 14))) := by
 apply refBranches_all <;> (intros; simp_all)
theorem refReaches_ok (op : Int) : Ok 34 [.c (.i op)] (.c (.b (op == 10 || op == 11))) := by
 apply refReaches_all <;> (intros; simp_all)
theorem refWithin_ok (a lo hi : Int) : Ok 18 [.c (.i a), .c (.i lo), .c (.i hi)] (.c (.b (decide (lo ≤ a) && decide (a ≤ hi)))) := by
 apply refWithin_all <;> (intro h; rw [h]; rfl)
theorem refReckons_ok (op : Int) : Ok 33 [.c (.i op)] (.c (.b (decide (1 ≤ op) && decide (op ≤ 9)))) := refReckons_w0 (refWithin_ok _ _ _)
theorem within_reg (d : Int) : (decide (0 ≤ d) && decide (d ≤ 5)) = regB d := by
 unfold regB
 congr 1
 exact decide_eq_decide.2 (by omega)
theorem refReg_ok (d : Int) : Ok 32 [.c (.i d)] (.c (.b (regB d))) := by
 rw [← within_reg]
 exact refReg_w0 (refWithin_ok _ _ _)
theorem inB_two {i : Ins} {q : Int} (h : 1 ≤ i.op ∧ i.op ≤ 9) : inB i q = (regB i.d && srcB i.s) := by
 unfold inB
 rw [if_neg (by omega), if_neg (by omega), if_neg (by omega), if_neg (by omega)]
theorem bareB_two {i : Ins} (h : 1 ≤ i.op ∧ i.op ≤ 9) : bareB i = (decide (i.of = 0) && (decide (i.s = -1) || eqb i.im 0#64)) := by
 unfold bareB
 rw [if_neg (by omega), if_neg (by omega), if_neg (by omega), if_neg (by omega)]
theorem refFields_ok {i : Ins} (q : Int) (hk : kindB i = true) : Ok 19 [.ag i.cs, .c (.i q)] (.c (.b (inB i (q + 1)))) := by
 have hw : (decide (i.of < q + 1)) = decide (i.of ≤ q) := decide_eq_decide.2 (by omega)
 have hr := kind_iff.1 hk
 have hc : (1 ≤ i.op ∧ i.op ≤ 9) ∨ i.op = 10 ∨ i.op = 11 ∨ i.op = 12 ∨ i.op = 13 ∨ i.op = 14 ∨ i.op = 15 := by omega
 apply refFields_all
 all_goals intros
 all_goals repeat' apply And.intro
 all_goals first
  | exact refReg_ok _
  | exact refBranches_ok _
  | exact refReaches_ok _
  | exact refReckons_ok _
  | exact refWithin_ok _ _ _
  | skip
 all_goals (refine congrArg (fun b => AV.c (AC.b b)) ?_)
 all_goals
  rcases hc with hc | hc | hc | hc | hc | hc | hc
  ·rw [inB_two hc]
   simp_all [srcB]
   try first | rfl | omega
  all_goals (simp_all [inB, srcB, goesB, sizeB]; try first | rfl | omega)
theorem refOthers_ok {i : Ins} (hk : kindB i = true) : Ok 20 [.ag i.cs] (.c (.b (bareB i))) := by
 have hr := kind_iff.1 hk
 have hc : (1 ≤ i.op ∧ i.op ≤ 9) ∨ i.op = 10 ∨ i.op = 11 ∨ i.op = 12 ∨ i.op = 13 ∨ i.op = 14 ∨ i.op = 15 := by omega
 apply refOthers_all
 all_goals intros
 all_goals repeat' apply And.intro
 all_goals first
  | exact refBranches_ok _
  | exact refReckons_ok _
  | skip
 all_goals (refine congrArg (fun b => AV.c (AC.b b)) ?_)
 all_goals
  rcases hc with hc | hc | hc | hc | hc | hc | hc
  ·rw [bareB_two hc]
   simp_all
   try omega
  all_goals (simp_all [bareB, eqCs, eqC, splice, Ins.cs, Bool.and_assoc]; try rfl; try omega)
/- CheckCode -/
section
variable {L : List Ins} {c : Nat} {w : World} {β : Bs} {E : Eff}
abbrev rcKn (L : List Ins) (c a : Nat) (j : Int) : Kn := ⟨[(0, .c (.sl 0 0 L.length c)), (a, .c (.i j))], pH L, 1⟩
theorem elt_op {j : Nat} (h : j < L.length) : (pcell L)[0 + Int.toNat (j : Int) * 5 + 0]? = some (.i (elt L j).op) := by
 have h1 := pcell_op (L := L) (k := j) h (.b false)
 have h2 : j * 5 < (pcell L).length := by rw [pcell_length]; omega
 rw [List.getD_eq_getElem?_getD, List.getElem?_eq_getElem h2] at h1
 rw [show 0 + Int.toNat (j : Int) * 5 + 0 = j * 5 by omega, List.getElem?_eq_getElem h2]
 exact congrArg some h1
theorem rcA_loop (hL : L.length ≤ 64) : ∀ n j : Nat, j + n = L.length → ((L.drop j).all kindB = false → ⟨.c (.i 4), [], none⟩ = E) →
  ((L.drop j).all kindB = true → ART Tryz.prog 5 (cx w β 1 []) Tryz.f5.ntmps (cutAt Tryz.f5 1) (rcKn L c 4 0) (REff w β E)) →
  ART Tryz.prog 5 (cx w β 1 []) Tryz.f5.ntmps (cutAt Tryz.f5 0) (rcKn L c 3 j) (REff w β E)
 | 0, j, h, hy, hz => by
  refine rcAx_w0 (by rw [jn (by omega)]; rfl) (low_p rfl) (fun _ h => h) (hz ?_)
  rw [List.drop_eq_nil_of_le (by omega)]; rfl
 | n + 1, j, h, hy, hz => by
  have hj : j < L.length := by omega
  rw [drop_elt hj, List.all_cons] at hy hz
  have o2 : (AC.isI (Option.getD (pcell L)[0 + Int.toNat (j : Int) * 5 + 0]? (AC.b false)) && Nat.blt (0 + Int.toNat (j : Int) * 5 + 0) (pcell L).length) = true := by
   rw [elt_op hj, pcell_length]; simp [AC.isI]; omega
  have c0 : Eff.mk (AV.c (AC.i (AC.asI (Option.getD (pcell L)[0 + Int.toNat (j : Int) * 5 + 0]? (AC.b false))))) [] none = Eff.mk (AV.c (AC.i (elt L j).op)) [] none := by rw [elt_op hj]; rfl
  refine rcA_all (by omega) (fun a => ⟨jl hj, jl hj, o2, c0, refWithin_ok _ _ _, hy ?_⟩) (fun a => ⟨jl hj, jl hj, o2, c0, refWithin_ok _ _ _, low_p rfl, ?_⟩)
  ·have : kindB (elt L j) = false := by simp at a; simp [kindB]; omega
   rw [this]; rfl
  ·have : kindB (elt L j) = true := by simpa [kindB] using a
   rw [this] at hy hz
   rw [wrapS (by omega)]
   exact rcA_loop hL n (j + 1) (by omega) (fun h => hy h) (fun h => hz h)
theorem rcB_loop (hL : L.length ≤ 64) (hK : L.all kindB = true) : ∀ n j : Nat, j + n = L.length → (inAll (L.drop j) = false → ⟨.c (.i 3), [], none⟩ = E) →
  (inAll (L.drop j) = true → ART Tryz.prog 5 (cx w β 1 []) Tryz.f5.ntmps (cutAt Tryz.f5 2) (rcKn L c 5 0) (REff w β E)) →
  ART Tryz.prog 5 (cx w β 1 []) Tryz.f5.ntmps (cutAt Tryz.f5 1) (rcKn L c 4 j) (REff w β E)
 | 0, j, h, hy, hz => by
  refine rcBx_w0 (by rw [jn (by omega)]; rfl) (low_p rfl) (fun _ h => h) (hz ?_)
  rw [List.drop_eq_nil_of_le (by omega)]; rfl
 | n + 1, j, h, hy, hz => by
  have hj : j < L.length := by omega
  have el : ((L.drop (j + 1)).length : Int) = ((L.length - 1 - j : Nat) : Int) := by rw [List.length_drop]; omega
  rw [drop_elt hj, inAll, el] at hy hz
  have hk : kindB (elt L j) = true := all_at hK hj
  have ew : IntKind.wrap IntKind.i64 (IntKind.wrap IntKind.i64 ((L.length : Int) - 2) - (j : Int)) = ((L.length - 1 - j : Nat) : Int) - 1 := by
   rw [wrapN (n := (L.length : Int) - 2) (by omega) (by omega), wrapN (by omega) (by omega)]; omega
  have c1 : Eff.mk (AV.c (AC.i (IntKind.wrap IntKind.i64 (IntKind.wrap IntKind.i64 ((L.length : Int) - 2) - (j : Int))))) [] none = Eff.mk (AV.c (AC.i (((L.length - 1 - j : Nat) : Int) - 1))) [] none := by rw [ew]
  have c2 : Eff.mk (AV.c (AC.b (inB (elt L j) (((L.length - 1 - j : Nat) : Int) - 1 + 1)))) [] none = Eff.mk (AV.c (AC.b (inB (elt L j) ((L.length - 1 - j : Nat) : Int)))) [] none := by
   rw [show ((L.length - 1 - j : Nat) : Int) - 1 + 1 = ((L.length - 1 - j : Nat) : Int) by omega]
  refine rcB_all (by omega) (fun a => ⟨jl hj, jl hj, pble hj, elt_eff hj, c1, c2, refFields_ok _ hk, hy ?_⟩) (fun a => ⟨jl hj, jl hj, pble hj, elt_eff hj, c1, c2, refFields_ok _ hk, low_p rfl, ?_⟩)
  ·have : inB (elt L j) ((L.length - 1 - j : Nat) : Int) = false := by simpa using a
   rw [this]; rfl
  ·have : inB (elt L j) ((L.length - 1 - j : Nat) : Int) = true := by simpa using a
   rw [this] at hy hz
   rw [wrapS (by omega)]
   exact rcB_loop hL hK n (j + 1) (by omega) (fun h => hy h) (fun h => hz h)
theorem rcC_loop (h0 : 0 < L.length) (hL : L.length ≤ 64) (hK : L.all kindB = true) : ∀ n j : Nat, j + n = L.length → ((L.drop j).all bareB = false → ⟨.c (.i 1), [], none⟩ = E) →
  ((L.drop j).all bareB = true → ⟨.c (.i (if lastOp L ≠ 15 then 1 else 0)), [], none⟩ = E) →
  ART Tryz.prog 5 (cx w β 1 []) Tryz.f5.ntmps (cutAt Tryz.f5 2) (rcKn L c 5 j) (REff w β E)
 | 0, j, h, hy, hz => by
  have hz := hz (by rw [List.drop_eq_nil_of_le (by omega)]; rfl)
  have o0 : (!decide ((j : Int) < (L.length : Int))) = true := by rw [jn (by omega)]; rfl
  have o1 : (decide (0 ≤ IntKind.wrap IntKind.i64 ((L.length : Int) - 1)) && decide (IntKind.wrap IntKind.i64 ((L.length : Int) - 1) < (L.length : Int))) = true := by
   rw [wrapN (by omega) (by omega)]; simp; omega
  have o2 : (AC.isI (Option.getD (pcell L)[0 + Int.toNat (IntKind.wrap IntKind.i64 ((L.length : Int) - 1)) * 5 + 0]? (AC.b false)) && Nat.blt (0 + Int.toNat (IntKind.wrap IntKind.i64 ((L.length : Int) - 1)) * 5 + 0) (pcell L).length) = true := by
   rw [lastOp_eff h0 hL, wrapN (by omega) (by omega), pcell_length]; simp [AC.isI]; omega
  have c0 : Eff.mk (AV.c (AC.i (AC.asI (Option.getD (pcell L)[0 + Int.toNat (IntKind.wrap IntKind.i64 ((L.length : Int) - 1)) * 5 + 0]? (AC.b false))))) [] none = Eff.mk (AV.c (AC.i (lastOp L))) [] none := by rw [lastOp_eff h0 hL]; rfl
  refine rcCx_all (fun a => ⟨o0, o1, o2, c0, ?_⟩) (fun a => ⟨o0, o1, o2, c0, ?_⟩)
  ·rw [← hz, if_pos (by simpa using a)]
  ·rw [← hz, if_neg (by simpa using a)]
 | n + 1, j, h, hy, hz => by
  have hj : j < L.length := by omega
  have hk : kindB (elt L j) = true := all_at hK hj
  rw [drop_elt hj, List.all_cons] at hy hz
  refine rcC_all (by omega) (fun a => ⟨jl hj, jl hj, pble hj, elt_eff hj, refOthers_ok hk, hy ?_⟩) (fun a => ⟨jl hj, jl hj, pble hj, elt_eff hj, refOthers_ok hk, low_p rfl, ?_⟩)
  ·have : bareB (elt L j) = false := by simpa using a
   rw [this]; rfl
  ·have : bareB (elt L j) = true := by simpa using a
   rw [this] at hy hz
   rw [wrapS (by omega)]
   exact rcC_loop h0 hL hK n (j + 1) (by omega) (fun h => hy h) (fun h => hz h)
end
theorem checkCode_ok (L : List Ins) (c : Nat) : CallOK Tryz.prog ⟨5, [.c (.sl 0 0 L.length c)], pH L, ⟨.c (.i (codeErr L)), [], none⟩⟩ := by
 refine read_of Tryz.func5 rfl rfl (begin_p rfl) rfl ro_p fun w β => ?_
 refine rcTop_all (Nat.le_refl 1) (fun a => ⟨refWithin_ok _ _ _, ?_⟩) (fun a => ⟨refWithin_ok _ _ _, low_p rfl, ?_⟩)
 ·unfold codeErr
  rw [if_pos (by simp at a; omega)]
 ·have h : 1 ≤ (L.length : Int) ∧ (L.length : Int) ≤ 64 := by simpa using a
  have h0 : 0 < L.length := by omega
  have h1 : L.length ≤ 64 := by omega
  unfold codeErr
  rw [if_neg (by omega)]
  refine rcA_loop h1 L.length 0 (by omega) (fun h => ?_) (fun h => ?_)
  ·rw [if_pos (by simpa using h)]
  ·have hK : L.all kindB = true := by simpa using h
   rw [if_neg (by simpa using h)]
   refine rcB_loop h1 hK L.length 0 (by omega) (fun h => ?_) (fun h => ?_)
   ·rw [if_pos (by simpa using h)]
   ·rw [if_neg (by simpa using h)]
    refine rcC_loop h0 h1 hK L.length 0 (by omega) (fun h => ?_) (fun h => ?_)
    ·rw [if_pos (by simpa using h)]
    ·have e : ¬ (L.all bareB = false) := by simpa using h
     rw [if_neg e]
theorem checkCode_nil : Ok 5 [.c nilSl] (.c (.i (codeErr []))) := rcNil_w0 (refWithin_ok _ _ _)
/- CheckMachine, StartOf -/
/- uses -/
end Go.Proofs.YtkigmocchaikgaaGreatDoor
