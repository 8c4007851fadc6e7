import Derived.Test.YtkigmocchaikgabFo7
import Derived.Test.YtkigmocchaikgabFo4
import Derived.RangeFuncBox
import Derived.RangeFuncLeaves
import Derived.RangeFuncWrites
import Derived.Shelf.Abstract
import Derived.WalkKit
import Derived.OwnWalkIn
import Derived.TacticsInMore
import Derived.LoopNIn
import Derived.LoopIn
import Derived.Test.YtkigmocchaikgabProg
import Derived.Test.YtkigmocchaikgabFo2
/- Folding: the program that is folded is right, verifies as it did, and runs as it did: plain facts. -/
namespace Go.Proofs.Ytkigmocchaikgab

/- a machine's next -/
theorem zeroI (s : V6 Bool) (r : V6 (BitVec 64)) : zeroB s r = true ↔ ∀ i, i < 6 → (s.get i = true ∨ r.get i = 0#64) := by
  constructor
  · intro h
    simp only [zeroB, eqb, Bool.and_eq_true, Bool.or_eq_true, beq_iff_eq] at h
    obtain ⟨⟨⟨⟨⟨h0, h1⟩, h2⟩, h3⟩, h4⟩, h5⟩ := h
    exact lt6 h0 h1 h2 h3 h4 h5
  · intro h
    simp only [zeroB, eqb, Bool.and_eq_true, Bool.or_eq_true, beq_iff_eq]
    exact ⟨⟨⟨⟨⟨h 0 (by decide), h 1 (by decide)⟩, h 2 (by decide)⟩, h 3 (by decide)⟩, h 4 (by decide)⟩, h 5 (by decide)⟩
theorem zeroW {m : Mach} {d : Nat} {x : BitVec 64} (hd : d < 6) (h : zeroB m.s m.r = true) : zeroB (m.wth d x).s (m.wth d x).r = true := by
  rw [zeroI] at h ⊢
  intro i hi
  simp only [Mach.wth]
  rw [V6.get_set _ _ _ _ hd hi, V6.get_set _ _ _ _ hd hi]
  by_cases c : d = i
  · rw [if_pos c]; exact Or.inl rfl
  · rw [if_neg c, if_neg c]; exact h i hi
theorem zeroM {i : Ins} {n : Int} {m : Mach} (hr : Right i n) (h : zeroB m.s m.r = true) : zeroB (stepM i m).s (stepM i m).r = true := by
  have hd := reg_nat (right_regs hr).1
  unfold stepM
  by_cases c0 : lacks (useOf i) m.s = true
  · rw [if_pos c0]; exact h
  rw [if_neg c0]
  by_cases c1 : i.op = 10 ∨ i.op = 11
  · rw [if_pos c1]
    unfold reachM
    by_cases c2 : farB i m = true
    · rw [if_pos c2]; exact h
    rw [if_neg c2]
    by_cases c3 : i.op = 10
    · rw [if_pos c3]; exact zeroW hd h
    rw [if_neg c3]; exact h
  rw [if_neg c1]
  by_cases c2 : i.op = 12
  · rw [if_pos c2]; exact h
  rw [if_neg c2]
  by_cases c3 : i.op = 13
  · rw [if_pos c3]; exact h
  rw [if_neg c3]
  by_cases c4 : i.op = 14
  · rw [if_pos c4]; exact h
  rw [if_neg c4]
  by_cases c5 : i.op = 15
  · rw [if_pos c5]; exact h
  rw [if_neg c5]; exact zeroW hd h
theorem mach_zero {m : Mach} : machErr m = 0 ↔ m.mem.size = 64 ∧ (0 ≤ m.fin ∧ m.fin ≤ 3) ∧ (0 ≤ m.t ∧ m.t < 64) ∧ zeroB m.s m.r = true := by
  unfold machErr
  cases hz : zeroB m.s m.r with
  | false => simp
  | true =>
    cases hh : headB m with
    | false =>
      have : ¬ (m.mem.size = 64 ∧ (0 ≤ m.fin ∧ m.fin ≤ 3) ∧ (0 ≤ m.t ∧ m.t < 64)) := fun h => by
        have : headB m = true := by simp [headB, h.1]; omega
        rw [hh] at this; cases this
      simp
      intro a b c d
      by_cases f : m.t < 64
      · exact absurd ⟨a, ⟨b, c⟩, d, f⟩ this
      · omega
    | true =>
      have : m.mem.size = 64 ∧ (0 ≤ m.fin ∧ m.fin ≤ 3) ∧ (0 ≤ m.t ∧ m.t < 64) := by simpa [headB, and_assoc] using hh
      simp [this.1]; omega
/- a machine that runs in a program -/
structure Runs (L : List Ins) (m : Mach) : Prop where
  mach : machErr m = 0
  fin : m.fin = 0
  pos : 0 ≤ m.t
  lt : m.t < L.length
theorem runs_next {L : List Ins} {m : Mach} (hP : RightP L) (h : Runs L m) (h0 : (stepM (insAt L m.t) m).fin = 0) : Runs L (stepM (insAt L m.t) m) ∧ m.t < (stepM (insAt L m.t) m).t := by
  have hlt : m.t.toNat < L.length := by have := h.lt; have := h.pos; omega
  have hr := right_lt hP hlt
  have e : insAt L m.t = elt L m.t.toNat := rfl
  rw [← e] at hr
  have hl : (insAt L m.t).op = 15 ∨ (0 : Int) < ((L.length - 1 - m.t.toNat : Nat) : Int) := by
    by_cases c : m.t.toNat = L.length - 1
    · left
      rw [e, c]; exact last_op hP
    · right; omega
  obtain ⟨z1, _, _, z4⟩ := mach_zero.1 h.mach
  have h1 := h.pos
  have h2 := h.lt
  have hle := hP.le
  rcases stepM_at hr hl h.fin with h4 | ⟨_, h5, h6⟩
  · exact absurd h0 h4
  · exact ⟨⟨mach_zero.2 ⟨stepM_mem hr z1, by omega, by omega, zeroM hr z4⟩, h0, by omega, by omega⟩, h5⟩
theorem runs_start {L : List Ins} (hP : RightP L) {s : ByteArray} {x : BitVec 64} (hs : s.size = 64) : Runs L (startM s x) :=
  ⟨(begin_Has (x := x) hs).mach, rfl, Int.le_refl _, by have := hP.pos; show (0 : Int) < _; omega⟩
/- a machine that is had where it is, in a program without a trap, goes on so, till it stops -/
def Had (L : List Ins) (m : Mach) : Prop := m.fin = 0 → Runs L m ∧ (stAt (verifyS L).sts m.t.toNat).Has m
theorem had_start {L : List Ins} (hP : RightP L) {s : ByteArray} {x : BitVec 64} (hs : s.size = 64) : Had L (startM s x) := fun _ => by
  refine ⟨runs_start hP hs, ?_⟩
  show (stAt (verifyS L).sts 0).Has _
  rw [verify_first hP]
  exact begin_Has hs
theorem had_next {L : List Ins} (hP : RightP L) (h0 : (verifyS L).trap = 0) {m : Mach} (hf : m.fin = 0) (h : Had L m) : ((stepM (insAt L m.t) m).fin = 0 ∨ (stepM (insAt L m.t) m).fin = 3) ∧ Had L (stepM (insAt L m.t) m) := by
  obtain ⟨hr, hh⟩ := h hf
  rcases verify_step hP hr.pos hr.lt (Or.inl h0) hh with h1 | ⟨h1, h2⟩
  · exact ⟨Or.inr h1, fun h => by rw [h1] at h; exact absurd h (by decide)⟩
  · obtain ⟨h3, _⟩ := runs_next hP hr h1
    exact ⟨Or.inl h1, fun _ => ⟨h3, h2 h3.mach (Or.inl h0)⟩⟩
/- a run of a program without a trap stops -/
theorem run_stops {L : List Ins} (hP : RightP L) (h0 : (verifyS L).trap = 0) : ∀ (k : Nat) (m : Mach) (q : Nat), Had L m → (m.fin = 0 ∨ m.fin = 3) → (m.fin = 0 → (L.length : Int) ≤ m.t + k) → (runM L k m q).1.fin = 3 ∧ (runM L k m q).2 ≤ q + k
  | 0, m, q, hh, hf, hk => by
    refine ⟨?_, by unfold runM; exact Nat.le_refl _⟩
    unfold runM
    rcases hf with hf | hf
    · have := hk hf
      have := (hh hf).1.lt
      omega
    · exact hf
  | k + 1, m, q, hh, hf, hk => by
    unfold runM
    by_cases c : m.fin = 0
    · rw [if_pos c]
      obtain ⟨h1, h2⟩ := had_next hP h0 c hh
      have := run_stops hP h0 k (stepM (insAt L m.t) m) (q + 1) h2 h1 (fun h => by
        have h3 := (runs_next hP (hh c).1 h).2
        have := hk c
        omega)
      exact ⟨this.1, by omega⟩
    · rw [if_neg c]
      exact ⟨hf.resolve_left c, by omega⟩
/- a program that is right, step by step -/
theorem inAll_of {L : List Ins} : (∀ k, k < L.length → inB (elt L k) ((L.length - 1 - k : Nat) : Int) = true) → inAll L = true := by
  induction L with
  | nil => intro _; rfl
  | cons i l ih =>
    intro h
    rw [inAll, Bool.and_eq_true]
    refine ⟨?_, ih fun k hk => ?_⟩
    · have := h 0 (by simp)
      simpa [elt] using this
    · have := h (k + 1) (by simpa using hk)
      have e : elt (i :: l) (k + 1) = elt l k := rfl
      rw [e] at this
      rw [show (l.length - 1 - k) = ((i :: l).length - 1 - (k + 1)) by simp; omega]
      exact this
theorem all_of {L : List Ins} {p : Ins → Bool} (h : ∀ k, k < L.length → p (elt L k) = true) : L.all p = true := by
  rw [List.all_eq_true]
  intro x hx
  obtain ⟨k, hk, rfl⟩ := List.getElem_of_mem hx
  have := h k hk
  unfold elt at this
  rwa [List.getD_eq_getElem?_getD, List.getElem?_eq_getElem hk] at this
theorem codeErr_of {L : List Ins} (hP : RightP L) : codeErr L = 0 := by
  have hp := hP.pos
  have hl := hP.le
  have h1 : L.all kindB = true := all_of fun k hk => (right_lt hP hk).kind
  have h2 : inAll L = true := inAll_of fun k hk => (right_lt hP hk).fits
  have h3 : L.all bareB = true := all_of fun k hk => (right_lt hP hk).bare
  have h4 : lastOp L = 15 := by
    have := hP.last
    unfold lastOp
    rw [List.getLast?_eq_getElem?, List.getElem?_eq_getElem (by omega)]
    rw [List.getD_eq_getElem?_getD, List.getElem?_eq_getElem (by omega)] at this
    exact this
  unfold codeErr
  rw [if_neg (by omega), h1, h2, h3, h4]
  rfl
theorem elt_cons_succ (i : Ins) (l : List Ins) (k : Nat) : elt (i :: l) (k + 1) = elt l k := rfl
theorem foldL_at (S : List St) : ∀ (L : List Ins) (q : Nat), (foldL S L q).length = L.length ∧ ∀ k, elt (foldL S L q) k = if k + 1 < L.length then foldI (elt L k) (stAt S (q + k)) else elt L k
  | [], q => ⟨rfl, fun k => by rw [if_neg (by simp)]; rfl⟩
  | [i], q => ⟨rfl, fun k => by rw [if_neg (by simp)]; rfl⟩
  | i :: j :: l, q => by
    obtain ⟨h1, h2⟩ := foldL_at S (j :: l) (q + 1)
    refine ⟨by simp [foldL, h1], fun k => ?_⟩
    cases k with
    | zero => rw [if_pos (by simp)]; rfl
    | succ k =>
      show elt (foldL S (j :: l) (q + 1)) k = _
      rw [h2 k, elt_cons_succ]
      simp only [List.length_cons]
      by_cases c : k + 1 < l.length + 1
      · rw [if_pos c, if_pos (by omega), show q + 1 + k = q + (k + 1) by omega]
      · rw [if_neg c, if_neg (by omega)]
theorem onI_right {n : Int} (h : 0 < n) : Right onI n := by
  refine ⟨rfl, ?_, rfl⟩
  show goesB 0 n = true
  simp [goesB, h]
theorem foldI_right {i : Ins} {n : Int} {t : St} (h : 0 < n) (hr : Right i n) : Right (foldI i t) n := by
  unfold foldI
  by_cases hl : t.live = true
  · rw [if_pos hl]
    split
    · refine ⟨rfl, ?_, rfl⟩
      show (regB i.d && srcB (-1)) = true
      rw [(right_regs hr).1]; rfl
    · split
      · exact onI_right h
      · split
        · rename_i c
          rw [Bool.and_eq_true] at c
          have := fits_branch hr (branch_iff.1 c.1)
          refine ⟨rfl, ?_, rfl⟩
          show goesB i.of n = true
          simp [goesB]; omega
        · exact hr
  · rw [if_neg hl]; exact onI_right h
theorem foldL_right {L : List Ins} (hP : RightP L) (S : List St) : RightP (foldL S L 0) := by
  obtain ⟨h1, h2⟩ := foldL_at S L 0
  have hp := hP.pos
  refine ⟨by rw [h1]; exact hP.pos, by rw [h1]; exact hP.le, fun k hk => ?_, ?_⟩
  · rw [h1] at hk ⊢
    show Right (elt (foldL S L 0) k) _
    rw [h2 k]
    split
    · exact foldI_right (by omega) (right_lt hP hk)
    · exact right_lt hP hk
  · show (elt (foldL S L 0) ((foldL S L 0).length - 1)).op = 15
    rw [h1, h2, if_neg (by omega)]
    exact last_op hP
theorem verL_fold {L M : List Ins} (hP : RightP L) (hM : M.length = L.length) : ∀ (n k : Nat) (S : List St), k + n = L.length → S.length = L.length → (∀ j, (stAt S j).Ok) → (verL L n k S).trap = 0 →
    (∀ j, elt M j = if j + 1 < L.length then foldI (elt L j) (stAt (verL L n k S).sts j) else elt L j) → verL M n k S = verL L n k S
  | 0, _, _, _, _, _, _, _ => rfl
  | n + 1, k, S, hk, hS, hok, h0, hM' => by
    have hlt : k < L.length := by omega
    have hr := right_lt hP hlt
    have hout := verL_out hP (n + 1) k S hk hS hok
    have hsk := hout.same k (Nat.le_refl _) hlt
    have hq := (hout.step k (Nat.le_refl _) hlt (Or.inl h0)).1
    rw [hsk] at hq
    obtain ⟨q1, q2⟩ := stepS_Ok hr (hok k)
    have e1 : verL L (n + 1) k S = verL L n (k + 1) (addS (addS S (k + 1) (stepS (elt L k) (stAt S k)).1) (k + 1 + (elt L k).of.toNat) (stepS (elt L k) (stAt S k)).2.1) := by
      rw [verL, if_pos hq]
    have hk' := hM' k
    rw [hsk] at hk'
    have hadd : (stepS (elt M k) (stAt S k)).2.2 = 0 ∧ addS (addS S (k + 1) (stepS (elt M k) (stAt S k)).1) (k + 1 + (elt M k).of.toNat) (stepS (elt M k) (stAt S k)).2.1 = addS (addS S (k + 1) (stepS (elt L k) (stAt S k)).1) (k + 1 + (elt L k).of.toNat) (stepS (elt L k) (stAt S k)).2.1 := by
      by_cases c : k + 1 < L.length
      · rw [if_pos c] at hk'
        rw [hk']
        obtain ⟨a, b⟩ := fold_adds hr (hok k) hq
        exact ⟨a, b S k⟩
      · rw [if_neg c] at hk'
        rw [hk']
        exact ⟨hq, rfl⟩
    rw [e1, verL, if_pos hadd.1, hadd.2]
    rw [e1] at h0 hM'
    exact verL_fold hP hM n (k + 1) _ (by omega) (by rw [addS_len, addS_len]; exact hS) (addS_Ok (addS_Ok hok q1) q2) h0 hM'
theorem verify_fold {L : List Ins} (hP : RightP L) (h0 : (verifyS L).trap = 0) : verifyS (foldL (verifyS L).sts L 0) = verifyS L := by
  obtain ⟨h1, h2⟩ := foldL_at (verifyS L).sts L 0
  unfold verifyS
  rw [show (foldL (verL L L.length 0 (firstS L.length)).sts L 0).length = L.length from h1]
  refine verL_fold hP h1 L.length 0 _ (by omega) (firstS_len _) (firstS_Ok hP.pos) h0 fun j => ?_
  have := h2 j
  rw [Nat.zero_add] at this
  exact this
theorem run_fold {L : List Ins} (hP : RightP L) (h0 : (verifyS L).trap = 0) : ∀ (k : Nat) (m : Mach) (q : Nat), Had L m → runM (foldL (verifyS L).sts L 0) k m q = runM L k m q
  | 0, _, _, _ => rfl
  | k + 1, m, q, hh => by
    unfold runM
    by_cases c : m.fin = 0
    · rw [if_pos c, if_pos c]
      obtain ⟨hr, hs⟩ := hh c
      have hp := hr.pos
      have hl := hr.lt
      have hlt : m.t.toNat < L.length := by omega
      have e : stepM (insAt (foldL (verifyS L).sts L 0) m.t) m = stepM (insAt L m.t) m := by
        obtain ⟨_, h2⟩ := foldL_at (verifyS L).sts L 0
        show stepM (elt (foldL (verifyS L).sts L 0) m.t.toNat) m = stepM (elt L m.t.toNat) m
        rw [h2, Nat.zero_add]
        split
        · exact fold_step (right_lt hP hlt) ((verify_out hP).step m.t.toNat (Nat.zero_le _) hlt (Or.inl h0)).1 hs
        · rfl
      rw [e]
      exact run_fold hP h0 k _ _ (had_next hP h0 c hh).2
    · rw [if_neg c, if_neg c]
end Go.Proofs.Ytkigmocchaikgab

/- Ridding: the program that is rid of what is dead is right, has no trap, and runs as it did: plain facts. -/
namespace Go.Proofs.Ytkigmocchaikgab

theorem orS_get {a b : V6 Bool} : ∀ j, j < 6 → (orS a b).get j = (a.get j || b.get j) := lt6 rfl rfl rfl rfl rfl rfl
/- what is live behind the k-th -/
def liveK (i : Ins) (A : List (V6 Bool)) (k : Nat) : V6 Bool :=
  if i.op = 15 then no6 else if i.op = 12 then lvAt A (k + 1 + i.of.toNat) else if branchB i then orS (lvAt A (k + 1)) (lvAt A (k + 1 + i.of.toNat)) else lvAt A (k + 1)
theorem lvAt_cons (a : V6 Bool) (A : List (V6 Bool)) (k : Nat) : lvAt (a :: A) (k + 1) = lvAt A k := rfl
theorem liveK_zero (i : Ins) (a : V6 Bool) (A : List (V6 Bool)) : liveK i (a :: A) 0 = liveB i A := by
  unfold liveK liveB
  rw [show 0 + 1 + i.of.toNat = i.of.toNat + 1 by omega, lvAt_cons, show 0 + 1 = 0 + 1 from rfl, lvAt_cons]
theorem liveK_succ (i : Ins) (a : V6 Bool) (A : List (V6 Bool)) (k : Nat) : liveK i (a :: A) (k + 1) = liveK i A k := by
  unfold liveK
  rw [show k + 1 + 1 + i.of.toNat = (k + 1 + i.of.toNat) + 1 by omega, lvAt_cons, lvAt_cons]
theorem ridR_at : ∀ L : List Ins, (ridR L).1.length = L.length ∧ ∀ k, k < L.length → elt (ridR L).1 k = deadI (elt L k) (liveK (elt L k) (ridR L).2 k) ∧ lvAt (ridR L).2 k = liveA (elt (ridR L).1 k) (liveK (elt L k) (ridR L).2 k)
  | [] => ⟨rfl, fun k hk => absurd hk (by simp)⟩
  | i :: l => by
    obtain ⟨h1, h2⟩ := ridR_at l
    refine ⟨by simp [ridR, h1], fun k hk => ?_⟩
    cases k with
    | zero =>
      have e : liveK (elt (i :: l) 0) (ridR (i :: l)).2 0 = liveB i (ridR l).2 := liveK_zero i _ _
      rw [e]
      exact ⟨rfl, rfl⟩
    | succ k =>
      have e : liveK (elt (i :: l) (k + 1)) (ridR (i :: l)).2 (k + 1) = liveK (elt l k) (ridR l).2 k := liveK_succ _ _ _ k
      rw [e]
      exact h2 k (by simpa using hk)
theorem deadI_right {i : Ins} {n : Int} {b : V6 Bool} (h : 0 < n ∨ i.op = 15) (hr : Right i n) : Right (deadI i b) n := by
  unfold deadI
  split
  · rename_i c
    rw [Bool.and_eq_true, decide_eq_true_eq] at c
    exact onI_right (h.resolve_right (by omega))
  · exact hr
theorem rid_right {L : List Ins} (hP : RightP L) : RightP (ridR L).1 := by
  obtain ⟨h1, h2⟩ := ridR_at L
  have hp := hP.pos
  refine ⟨by rw [h1]; exact hP.pos, by rw [h1]; exact hP.le, fun k hk => ?_, ?_⟩
  · rw [h1] at hk ⊢
    show Right (elt (ridR L).1 k) _
    rw [(h2 k hk).1]
    refine deadI_right ?_ (right_lt hP hk)
    by_cases c : k = L.length - 1
    · right; rw [c]; exact last_op hP
    · left; omega
  · show (elt (ridR L).1 ((ridR L).1.length - 1)).op = 15
    rw [h1, (h2 _ (by omega)).1]
    unfold deadI
    rw [last_op hP]
    simp [last_op hP]

/- the same as far as it is live -/
structure RelM (A : V6 Bool) (m m' : Mach) : Prop where
  t : m.t = m'.t
  mem : m.mem = m'.mem
  fin : m.fin = m'.fin
  reg : ∀ j, j < 6 → A.get j = true → m.s.get j = m'.s.get j ∧ m.r.get j = m'.r.get j
theorem RelM.sub {A B : V6 Bool} {m m' : Mach} (h : RelM A m m') (hs : ∀ j, j < 6 → B.get j = true → A.get j = true) : RelM B m m' := ⟨h.t, h.mem, h.fin, fun j hj hb => h.reg j hj (hs j hj hb)⟩
theorem lacks_congr {u s s' : V6 Bool} (h : ∀ j, j < 6 → u.get j = true → s.get j = s'.get j) : lacks u s = lacks u s' := by
  cases h1 : lacks u s' with
  | false => exact lacks_of fun j hj hu => by rw [h j hj hu]; exact lacks_no h1 j hj hu
  | true =>
    cases h2 : lacks u s with
    | true => rfl
    | false =>
      have := lacks_of (u := u) (s := s') fun j hj hu => by rw [← h j hj hu]; exact lacks_no h2 j hj hu
      rw [this] at h1; cases h1
/- what is live ahead of a step that is kept: what it uses, and what is live behind it but for what it sets -/
theorem live_use {i : Ins} {b : V6 Bool} {j : Nat} (hj : j < 6) (h : (useOf i).get j = true) : (liveA i b).get j = true := by
  unfold liveA; rw [orS_get j hj, h]; rfl
theorem live_behind {i : Ins} {n : Int} {b : V6 Bool} {j : Nat} (hr : Right i n) (hj : j < 6) (h : b.get j = true) (hd : i.op ≤ 10 → j ≠ i.d.toNat) : (liveA i b).get j = true := by
  unfold liveA
  rw [orS_get j hj]
  split
  · rename_i c
    rw [V6.get_set _ _ _ _ (reg_nat (right_regs hr).1) hj, if_neg (fun e => hd c e.symm), h]
    cases (useOf i).get j <;> rfl
  · rw [h]; cases (useOf i).get j <;> rfl
theorem srcN_rel {i : Ins} {n : Int} {b : V6 Bool} {m m' : Mach} (hr : Right i n) (h : RelM (liveA i b) m m') (h1 : i.op ≠ 12) (h2 : i.op ≠ 15) : srcN i m = srcN i m' := by
  unfold srcN
  by_cases c : i.s = -1
  · rw [if_pos c, if_pos c]
  · rw [if_neg c, if_neg c]
    have hs := (srcB_iff.1 (right_regs hr).2).resolve_left c
    exact (h.reg _ (reg_nat hs) (live_use (reg_nat hs) (use_s h1 h2 hs))).2
theorem dstN_rel {i : Ins} {n : Int} {b : V6 Bool} {m m' : Mach} (hr : Right i n) (h : RelM (liveA i b) m m') (h1 : i.op ≠ 12) (h2 : i.op ≠ 15) (h3 : i.op ≠ 1) (h4 : i.op ≠ 10) : m.r.get i.d.toNat = m'.r.get i.d.toNat := by
  have hg := right_regs hr
  exact (h.reg _ (reg_nat hg.1) (live_use (reg_nat hg.1) (use_d h1 h2 h3 h4 hg.1 hg.2))).2
theorem RelM.wth {i : Ins} {n : Int} {b : V6 Bool} {m m' : Mach} {x : BitVec 64} {o : Int} (hr : Right i n) (h : RelM (liveA i b) m m') : RelM b ((m.wth i.d.toNat x).on o) ((m'.wth i.d.toNat x).on o) := by
  have hd := reg_nat (right_regs hr).1
  refine ⟨by simp only [Mach.on, Mach.wth]; rw [h.t], h.mem, h.fin, fun j hj hb => ?_⟩
  simp only [Mach.on, Mach.wth]
  rw [V6.get_set _ _ _ _ hd hj, V6.get_set _ _ _ _ hd hj, V6.get_set _ _ _ _ hd hj, V6.get_set _ _ _ _ hd hj]
  by_cases c : i.d.toNat = j
  · rw [if_pos c, if_pos c, if_pos c, if_pos c]; exact ⟨rfl, rfl⟩
  · rw [if_neg c, if_neg c, if_neg c, if_neg c]
    exact h.reg j hj (live_behind hr hj hb fun _ e => c e.symm)
theorem RelM.on {i : Ins} {n : Int} {b : V6 Bool} {m m' : Mach} {o : Int} (hr : Right i n) (h : RelM (liveA i b) m m') (ho : 10 < i.op) : RelM b (m.on o) (m'.on o) :=
  ⟨by simp only [Mach.on]; rw [h.t], h.mem, h.fin, fun j hj hb => h.reg j hj (live_behind hr hj hb fun c => by omega)⟩
theorem liveK_jump {i : Ins} {A : List (V6 Bool)} {k : Nat} (h : i.op = 12) : liveK i A k = lvAt A (k + 1 + i.of.toNat) := by unfold liveK; rw [if_neg (by omega), if_pos h]
theorem liveK_branch {i : Ins} {A : List (V6 Bool)} {k : Nat} (h : i.op = 13 ∨ i.op = 14) : liveK i A k = orS (lvAt A (k + 1)) (lvAt A (k + 1 + i.of.toNat)) := by
  unfold liveK; rw [if_neg (by omega), if_neg (by omega), if_pos (branch_iff.2 h)]
theorem liveK_plain {i : Ins} {A : List (V6 Bool)} {k : Nat} (h : i.op ≤ 11) : liveK i A k = lvAt A (k + 1) := by
  unfold liveK; rw [if_neg (by omega), if_neg (by omega), if_neg (by rw [branch_iff]; omega)]
theorem fromN_rel {i : Ins} {n : Int} {b : V6 Bool} {m m' : Mach} (hr : Right i n) (h : RelM (liveA i b) m m') (ho : i.op = 10 ∨ i.op = 11) : fromN i m = fromN i m' := by
  obtain ⟨_, hs, _⟩ := fits_reach hr ho
  unfold fromN
  by_cases c2 : i.op = 11
  · simp only [if_pos c2]
    rw [dstN_rel hr h (by omega) (by omega) (by omega) (by omega)]
  · simp only [if_neg c2]
    rw [(h.reg _ (reg_nat hs) (live_use (reg_nat hs) (use_s (by omega) (by omega) hs))).2]
/- a step that is kept -/
theorem kept_step {i : Ins} {n : Int} {b : V6 Bool} {m m' : Mach} (hr : Right i n) (hf : m.fin = 0) (h : RelM (liveA i b) m m') (hn : (stepM i m).fin = 0 ∨ (stepM i m).fin = 3) :
    ((stepM i m).fin = 0 ∧ RelM b (stepM i m) (stepM i m')) ∨ ((stepM i m).fin = 3 ∧ (stepM i m').fin = 3 ∧ (stepM i m).t = (stepM i m').t ∧ (stepM i m).mem = (stepM i m').mem ∧ (stepM i m).r.x0 = (stepM i m').r.x0) := by
  have el : lacks (useOf i) m.s = lacks (useOf i) m'.s := lacks_congr fun j hj hu => (h.reg j hj (live_use hj hu)).1
  have c0 : lacks (useOf i) m.s = false := by
    cases c : lacks (useOf i) m.s with
    | false => rfl
    | true =>
      rw [stepM_lacks c] at hn
      rcases hn with hn | hn
      · exact absurd (show (1 : Int) = 0 from hn) (by decide)
      · exact absurd (show (1 : Int) = 3 from hn) (by decide)
  have c0' : lacks (useOf i) m'.s = false := by rw [← el]; exact c0
  have far : i.op = 10 ∨ i.op = 11 → farB i m = false ∧ farB i m' = false := fun ho => by
    have ef : farB i m = farB i m' := by unfold farB; rw [fromN_rel hr h ho]
    rw [← ef]
    cases c : farB i m with
    | false => exact ⟨rfl, rfl⟩
    | true =>
      rw [stepM_reach c0 ho, reachM_far c] at hn
      rcases hn with hn | hn
      · exact absurd (show (2 : Int) = 0 from hn) (by decide)
      · exact absurd (show (2 : Int) = 3 from hn) (by decide)
  rcases ops_of hr with c | c | c | c | c | c | c | c
  · obtain ⟨f1, f2⟩ := far (Or.inl c)
    rw [stepM_reach c0 (Or.inl c), stepM_reach c0' (Or.inl c), reachM_load f1 c, reachM_load f2 c, fromN_rel hr h (Or.inl c), h.mem]
    exact Or.inl ⟨hf, RelM.wth hr h⟩
  · obtain ⟨f1, f2⟩ := far (Or.inr c)
    obtain ⟨_, hs, _⟩ := fits_reach hr (Or.inr c)
    rw [stepM_reach c0 (Or.inr c), stepM_reach c0' (Or.inr c), reachM_store f1 c, reachM_store f2 c, fromN_rel hr h (Or.inr c), h.mem, (h.reg _ (reg_nat hs) (live_use (reg_nat hs) (use_s (by omega) (by omega) hs))).2]
    exact Or.inl ⟨hf, ⟨by simp only [Mach.on]; rw [h.t], rfl, h.fin, fun j hj hb => h.reg j hj (live_behind hr hj hb fun c => by omega)⟩⟩
  · rw [stepM_jump c0 c, stepM_jump c0' c]
    exact Or.inl ⟨hf, RelM.on hr h (by omega)⟩
  · rw [stepM_eq c0 c, stepM_eq c0' c, srcN_rel hr h (by omega) (by omega), dstN_rel hr h (by omega) (by omega) (by omega) (by omega)]
    exact Or.inl ⟨hf, RelM.on hr h (by omega)⟩
  · rw [stepM_lt c0 c, stepM_lt c0' c, srcN_rel hr h (by omega) (by omega), dstN_rel hr h (by omega) (by omega) (by omega) (by omega)]
    exact Or.inl ⟨hf, RelM.on hr h (by omega)⟩
  · rw [stepM_exit c0 c, stepM_exit c0' c]
    refine Or.inr ⟨rfl, rfl, h.t, h.mem, ?_⟩
    have : (useOf i).get 0 = true := by
      unfold useOf
      rw [if_neg (by omega), if_pos c]; rfl
    exact (h.reg 0 (by decide) (live_use (by decide) this)).2
  · rw [stepM_two c0 (by omega), stepM_two c0' (by omega), numN_mov c, numN_mov c, srcN_rel hr h (by omega) (by omega)]
    exact Or.inl ⟨hf, RelM.wth hr h⟩
  · rw [stepM_two c0 (by omega), stepM_two c0' (by omega), srcN_rel hr h (by omega) (by omega), dstN_rel hr h (by omega) (by omega) (by omega) (by omega)]
    exact Or.inl ⟨hf, RelM.wth hr h⟩
/- a step that sets something and goes on -/
theorem sets_m {i : Ins} {n : Int} {m : Mach} (hr : Right i n) (ho : i.op ≤ 10) (hn : (stepM i m).fin = 0 ∨ (stepM i m).fin = 3) : ∃ x, stepM i m = (m.wth i.d.toNat x).on 0 := by
  have hk := kind_iff.1 hr.kind
  have c0 : lacks (useOf i) m.s = false := by
    cases c : lacks (useOf i) m.s with
    | false => rfl
    | true =>
      rw [stepM_lacks c] at hn
      rcases hn with hn | hn
      · exact absurd (show (1 : Int) = 0 from hn) (by decide)
      · exact absurd (show (1 : Int) = 3 from hn) (by decide)
  by_cases c1 : i.op = 10
  · rw [stepM_reach c0 (Or.inl c1)] at hn ⊢
    cases c : farB i m with
    | false => exact ⟨_, reachM_load c c1⟩
    | true =>
      rw [reachM_far c] at hn
      rcases hn with hn | hn
      · exact absurd (show (2 : Int) = 0 from hn) (by decide)
      · exact absurd (show (2 : Int) = 3 from hn) (by decide)
  · exact ⟨_, two_m hr c0 (by omega)⟩
theorem dead_iff {i : Ins} {b : V6 Bool} : (decide (i.op ≤ 10) && !b.get i.d.toNat) = true ↔ i.op ≤ 10 ∧ b.get i.d.toNat = false := by simp
theorem onI_live {b : V6 Bool} {j : Nat} (hj : j < 6) : (liveA onI b).get j = b.get j := by
  unfold liveA
  rw [orS_get j hj, if_neg (by decide), show useOf onI = no6 from rfl, no6_get j hj]; rfl
theorem rid_step {i : Ins} {n : Int} {b : V6 Bool} {m m' : Mach} (hr : Right i n) (hf : m.fin = 0) (h : RelM (liveA (deadI i b) b) m m') (hn : (stepM i m).fin = 0 ∨ (stepM i m).fin = 3) :
    ((stepM i m).fin = 0 ∧ RelM b (stepM i m) (stepM (deadI i b) m')) ∨ ((stepM i m).fin = 3 ∧ (stepM (deadI i b) m').fin = 3 ∧ (stepM i m).t = (stepM (deadI i b) m').t ∧ (stepM i m).mem = (stepM (deadI i b) m').mem ∧ (stepM i m).r.x0 = (stepM (deadI i b) m').r.x0) := by
  unfold deadI at h ⊢
  by_cases c : (decide (i.op ≤ 10) && !b.get i.d.toNat) = true
  · rw [if_pos c] at h ⊢
    obtain ⟨h1, h2⟩ := dead_iff.1 c
    obtain ⟨x, hx⟩ := sets_m hr h1 hn
    have hd := reg_nat (right_regs hr).1
    rw [hx, show stepM onI m' = m'.on 0 from jump_m]
    refine Or.inl ⟨hf, ⟨by simp only [Mach.on, Mach.wth]; rw [h.t], h.mem, h.fin, fun j hj hb => ?_⟩⟩
    simp only [Mach.on, Mach.wth]
    have hne : ¬ i.d.toNat = j := fun e => by rw [e, hb] at h2; cases h2
    rw [V6.get_set _ _ _ _ hd hj, V6.get_set _ _ _ _ hd hj, if_neg hne, if_neg hne]
    exact h.reg j hj (by rw [onI_live hj]; exact hb)
  · rw [if_neg c] at h ⊢
    exact kept_step hr hf h hn
/- where a machine comes to, all is live behind that is live ahead there -/
theorem live_next {i : Ins} {n : Int} {A : List (V6 Bool)} {k : Nat} {m : Mach} (hr : Right i n) (hk : m.t = k) (hf : (stepM i m).fin = 0) (_hm : m.fin = 0) : ∀ j, j < 6 → (lvAt A (stepM i m).t.toNat).get j = true → (liveK i A k).get j = true := by
  have c0 : lacks (useOf i) m.s = false := by
    cases c : lacks (useOf i) m.s with
    | false => rfl
    | true => rw [stepM_lacks c] at hf; exact absurd (show (1 : Int) = 0 from hf) (by decide)
  have far : i.op = 10 ∨ i.op = 11 → farB i m = false := fun ho => by
    cases c : farB i m with
    | false => rfl
    | true => rw [stepM_reach c0 ho, reachM_far c] at hf; exact absurd (show (2 : Int) = 0 from hf) (by decide)
  have one : ∀ m' : Mach, stepM i m = m'.on 0 → m'.t = m.t → i.op ≤ 11 → ∀ j, j < 6 → (lvAt A (stepM i m).t.toNat).get j = true → (liveK i A k).get j = true := by
    intro m' e2 e1 ho j _ h
    rw [e2, show (m'.on 0).t.toNat = k + 1 by show (m'.t + 1 + 0).toNat = k + 1; omega] at h
    rw [liveK_plain ho]; exact h
  have two : ∀ (o : Int), (o = i.of ∨ o = 0) → stepM i m = m.on o → (i.op = 13 ∨ i.op = 14) → ∀ j, j < 6 → (lvAt A (stepM i m).t.toNat).get j = true → (liveK i A k).get j = true := by
    intro o ho e hb j hj h
    have hof := (fits_branch hr hb).2.2.1
    rw [liveK_branch hb, orS_get j hj]
    rw [e, show (m.on o).t = m.t + 1 + o from rfl] at h
    rcases ho with rfl | rfl
    · rw [show (m.t + 1 + i.of).toNat = k + 1 + i.of.toNat by omega] at h
      rw [h]; cases (lvAt A (k + 1)).get j <;> rfl
    · rw [show (m.t + 1 + 0).toNat = k + 1 by omega] at h
      rw [h]; rfl
  rcases ops_of hr with c | c | c | c | c | c | c | c
  · exact one _ ((stepM_reach c0 (Or.inl c)).trans (reachM_load (far (Or.inl c)) c)) rfl (by omega)
  · exact one _ ((stepM_reach c0 (Or.inr c)).trans (reachM_store (far (Or.inr c)) c)) rfl (by omega)
  · intro j _ h
    have hof := (fits_jump hr c).1
    rw [stepM_jump c0 c, show (m.on i.of).t.toNat = k + 1 + i.of.toNat by show (m.t + 1 + i.of).toNat = _; omega] at h
    rw [liveK_jump c]; exact h
  · exact two _ (by split <;> simp) (stepM_eq c0 c) (Or.inl c)
  · exact two _ (by split <;> simp) (stepM_lt c0 c) (Or.inr c)
  · rw [stepM_exit c0 c] at hf; exact absurd (show (3 : Int) = 0 from hf) (by decide)
  · exact one _ (stepM_two c0 (by omega)) rfl (by omega)
  · exact one _ (stepM_two c0 (by omega)) rfl (by omega)
theorem run_rid {L : List Ins} (hP : RightP L) (h0 : (verifyS L).trap = 0) : ∀ (k : Nat) (m m' : Mach) (q : Nat), Had L m → m.fin = 0 → RelM (lvAt (ridR L).2 m.t.toNat) m m' → (L.length : Int) ≤ m.t + k → outOf (runM (ridR L).1 k m' q) = outOf (runM L k m q)
  | 0, m, _, _, hh, hf, _, hk => by
    have := (hh hf).1.lt
    omega
  | k + 1, m, m', q, hh, hf, hrel, hk => by
    obtain ⟨h1, h2⟩ := ridR_at L
    obtain ⟨hr, hs⟩ := hh hf
    have hp := hr.pos
    have hl := hr.lt
    have hlt : m.t.toNat < L.length := by omega
    obtain ⟨hn, hh'⟩ := had_next hP h0 hf hh
    have hri := right_lt hP hlt
    obtain ⟨e1, e2⟩ := h2 _ hlt
    have ei : insAt (ridR L).1 m'.t = deadI (elt L m.t.toNat) (liveK (elt L m.t.toNat) (ridR L).2 m.t.toNat) := by
      rw [← e1, ← hrel.t]; rfl
    rw [e2, e1] at hrel
    unfold runM
    rw [if_pos hf, if_pos (by rw [← hrel.fin]; exact hf), ei]
    have ei' : insAt L m.t = elt L m.t.toNat := rfl
    rw [ei'] at hn hh' ⊢
    have done : ∀ (P : List Ins) (x : Mach) (q : Nat), ¬ x.fin = 0 → runM P k x q = (x, q) := fun P x q hx => by
      cases k with
      | zero => rfl
      | succ k => unfold runM; rw [if_neg hx]
    rcases rid_step hri hf hrel hn with ⟨g0, g1⟩ | ⟨g0, g1, g2, g3, g4⟩
    · have hnx := runs_next hP hr (by rw [ei']; exact g0)
      rw [ei'] at hnx
      refine run_rid hP h0 k _ _ (q + 1) hh' g0 (g1.sub (live_next hri (by omega) g0 hf)) ?_
      have := hnx.2
      omega
    · rw [done _ _ _ (by rw [g1]; decide), done _ _ _ (by rw [g0]; decide)]
      unfold outOf
      simp only
      rw [g0, g1, g2, g3, g4]
theorem RelM.refl (A : V6 Bool) (m : Mach) : RelM A m m := ⟨rfl, rfl, rfl, fun _ _ _ => ⟨rfl, rfl⟩⟩
end Go.Proofs.Ytkigmocchaikgab

/- Ridding: the program that is rid of what is dead has no trap either; what comes of folding and ridding: plain facts. -/
namespace Go.Proofs.Ytkigmocchaikgab

structure RelS (A : V6 Bool) (t t' : St) : Prop where
  live : t.live = t'.live
  reg : ∀ j, j < 6 → A.get j = true → t.s.get j = t'.s.get j ∧ t.r.get j = t'.r.get j
theorem RelS.refl (A : V6 Bool) (t : St) : RelS A t t := ⟨rfl, fun _ _ _ => ⟨rfl, rfl⟩⟩
theorem RelS.sub {A B : V6 Bool} {t t' : St} (h : RelS A t t') (hs : ∀ j, j < 6 → B.get j = true → A.get j = true) : RelS B t t' := ⟨h.live, fun j hj hb => h.reg j hj (hs j hj hb)⟩
theorem RelS.join {A : V6 Bool} {t t' u u' : St} (h : RelS A t t') (k : RelS A u u') : RelS A (t.join u) (t'.join u') := by
  by_cases h1 : t.live = true
  · have h1' : t'.live = true := by rw [← h.live]; exact h1
    by_cases h2 : u.live = true
    · have h2' : u'.live = true := by rw [← k.live]; exact h2
      obtain ⟨a1, a2⟩ := St.join_live h1 h2
      obtain ⟨b1, b2⟩ := St.join_live h1' h2'
      refine ⟨a1.trans b1.symm, fun j hj hA => ?_⟩
      obtain ⟨x1, x2⟩ := a2 j hj
      obtain ⟨y1, y2⟩ := b2 j hj
      rw [x1, x2, y1, y2, (h.reg j hj hA).1, (h.reg j hj hA).2, (k.reg j hj hA).1, (k.reg j hj hA).2]
      exact ⟨rfl, rfl⟩
    · have h2' : ¬ u'.live = true := by rw [← k.live]; exact h2
      unfold St.join
      rw [if_pos h1, if_neg h2, if_pos h1', if_neg h2']; exact h
  · have h1' : ¬ t'.live = true := by rw [← h.live]; exact h1
    unfold St.join
    rw [if_neg h1, if_neg h1']; exact k
theorem RelS.wth {i : Ins} {n : Int} {b : V6 Bool} {t t' : St} {a : V4} (hr : Right i n) (h : RelS (liveA i b) t t') : RelS b (t.wth i.d.toNat a) (t'.wth i.d.toNat a) := by
  have hd := reg_nat (right_regs hr).1
  refine ⟨h.live, fun j hj hb => ?_⟩
  rw [St.wth_s hd hj, St.wth_s hd hj, St.wth_r hd hj, St.wth_r hd hj]
  by_cases c : i.d.toNat = j
  · rw [if_pos c, if_pos c, if_pos c, if_pos c]; exact ⟨rfl, rfl⟩
  · rw [if_neg c, if_neg c, if_neg c, if_neg c]
    exact h.reg j hj (live_behind hr hj hb fun _ e => c e.symm)
theorem RelS.wth' {b : V6 Bool} {t t' : St} {d : Nat} {a : V4} (hd : d < 6) (h : RelS b t t') : RelS b (t.wth d a) (t'.wth d a) := by
  refine ⟨h.live, fun j hj hb => ?_⟩
  rw [St.wth_s hd hj, St.wth_s hd hj, St.wth_r hd hj, St.wth_r hd hj, (h.reg j hj hb).1, (h.reg j hj hb).2]
  exact ⟨rfl, rfl⟩
def RelL (A : List (V6 Bool)) (S S' : List St) : Prop := S.length = S'.length ∧ ∀ j, RelS (lvAt A j) (stAt S j) (stAt S' j)
theorem RelL.add {A : List (V6 Bool)} {S S' : List St} {k : Nat} {t t' : St} (h : RelL A S S') (ht : RelS (lvAt A k) t t') : RelL A (addS S k t) (addS S' k t') := by
  refine ⟨by rw [addS_len, addS_len]; exact h.1, fun j => ?_⟩
  rw [stAt_addS, stAt_addS, ← ht.live, ← h.1]
  by_cases c : t.live = true ∧ k = j ∧ k < S.length
  · rw [if_pos c, if_pos c]
    obtain ⟨_, rfl, _⟩ := c
    exact (h.2 k).join ht
  · rw [if_neg c, if_neg c]; exact h.2 j
theorem srcV_rel {i : Ins} {n : Int} {b : V6 Bool} {t t' : St} (hr : Right i n) (h : RelS (liveA i b) t t') (h1 : i.op ≠ 12) (h2 : i.op ≠ 15) : srcV i t = srcV i t' := by
  unfold srcV
  by_cases c : i.s = -1
  · rw [if_pos c, if_pos c]
  · rw [if_neg c, if_neg c]
    have hs := (srcB_iff.1 (right_regs hr).2).resolve_left c
    exact (h.reg _ (reg_nat hs) (live_use (reg_nat hs) (use_s h1 h2 hs))).2
theorem dstV_rel {i : Ins} {n : Int} {b : V6 Bool} {t t' : St} (hr : Right i n) (h : RelS (liveA i b) t t') (h1 : i.op ≠ 12) (h2 : i.op ≠ 15) (h3 : i.op ≠ 1) (h4 : i.op ≠ 10) : t.r.get i.d.toNat = t'.r.get i.d.toNat := by
  have hg := right_regs hr
  exact (h.reg _ (reg_nat hg.1) (live_use (reg_nat hg.1) (use_d h1 h2 h3 h4 hg.1 hg.2))).2
theorem trap_rel {i : Ins} {n : Int} {b : V6 Bool} {t t' : St} (hr : Right i n) (h : RelS (liveA i b) t t') : trapS i t = trapS i t' := by
  have el : lacks (useOf i) t.s = lacks (useOf i) t'.s := lacks_congr fun j hj hu => (h.reg j hj (live_use hj hu)).1
  unfold trapS
  rw [← el]
  by_cases c0 : lacks (useOf i) t.s = true
  · rw [if_pos c0, if_pos c0]
  rw [if_neg c0, if_neg c0]
  by_cases c1 : i.op = 10
  · obtain ⟨_, hs, _⟩ := fits_reach hr (Or.inl c1)
    rw [if_pos c1, if_pos c1, (h.reg _ (reg_nat hs) (live_use (reg_nat hs) (use_s (by omega) (by omega) hs))).2]
  rw [if_neg c1, if_neg c1]
  by_cases c2 : i.op = 11
  · rw [if_pos c2, if_pos c2, dstV_rel hr h (by omega) (by omega) (by omega) (by omega)]
  rw [if_neg c2, if_neg c2]
theorem left_rel {i : Ins} {n : Int} {b : V6 Bool} {t t' : St} {x : V4 × V4 × Bool} (hr : Right i n) (h : RelS (liveA i b) t t') : RelS b (leftS i t x) (leftS i t' x) := by
  have hg := right_regs hr
  unfold leftS
  by_cases c : x.2.2 = true
  · rw [if_pos c, if_pos c]
    by_cases cs : i.s = -1
    · rw [if_pos cs, if_pos cs]; exact RelS.wth hr h
    · rw [if_neg cs, if_neg cs]
      exact RelS.wth' (reg_nat ((srcB_iff.1 hg.2).resolve_left cs)) (RelS.wth hr h)
  · rw [if_neg c, if_neg c]; exact RelS.refl _ _
theorem live_all {i : Ins} {n : Int} {b : V6 Bool} {t t' : St} (hr : Right i n) (h : RelS (liveA i b) t t') (ho : 10 < i.op) : RelS b t t' := h.sub fun j hj hb => live_behind hr hj hb fun c => by omega
/- what a step that is kept adds -/
theorem kept_go {i : Ins} {n : Int} {A : List (V6 Bool)} {k : Nat} {t t' : St} (hr : Right i n) (h : RelS (liveA i (liveK i A k)) t t') : RelS (lvAt A (k + 1)) (goS i t).1 (goS i t').1 ∧ RelS (lvAt A (k + 1 + i.of.toNat)) (goS i t).2 (goS i t').2 := by
  have z : ∀ B, RelS B St.z St.z := fun B => RelS.refl B _
  have plain : ∀ a, i.op ≤ 10 → RelS (lvAt A (k + 1)) (t.wth i.d.toNat a) (t'.wth i.d.toNat a) := fun a ho => by
    have := RelS.wth (a := a) hr h
    rwa [liveK_plain (by omega)] at this
  have s1 : i.op = 13 ∨ i.op = 14 → ∀ j, j < 6 → (lvAt A (k + 1)).get j = true → (liveK i A k).get j = true := fun ho j hj hb => by rw [liveK_branch ho, orS_get j hj, hb]; rfl
  have s2 : i.op = 13 ∨ i.op = 14 → ∀ j, j < 6 → (lvAt A (k + 1 + i.of.toNat)).get j = true → (liveK i A k).get j = true := fun ho j hj hb => by rw [liveK_branch ho, orS_get j hj, hb]; cases (lvAt A (k + 1)).get j <;> rfl
  rcases ops_of hr with c | c | c | c | c | c | c | c
  · rw [goS_load c, goS_load c]
    exact ⟨plain _ (by omega), z _⟩
  · rw [goS_store c, goS_store c]
    have := live_all hr h (by omega)
    rw [liveK_plain (by omega)] at this
    exact ⟨this, z _⟩
  · rw [goS_jump c, goS_jump c]
    have := live_all hr h (by omega)
    rw [liveK_jump c] at this
    exact ⟨z _, this⟩
  · rw [goS_eq c, goS_eq c, srcV_rel hr h (by omega) (by omega), dstV_rel hr h (by omega) (by omega) (by omega) (by omega)]
    exact ⟨(left_rel hr h).sub (s1 (Or.inl c)), (left_rel hr h).sub (s2 (Or.inl c))⟩
  · rw [goS_lt c, goS_lt c, srcV_rel hr h (by omega) (by omega), dstV_rel hr h (by omega) (by omega) (by omega) (by omega)]
    exact ⟨(left_rel hr h).sub (s1 (Or.inr c)), (left_rel hr h).sub (s2 (Or.inr c))⟩
  · rw [goS_exit c, goS_exit c]
    exact ⟨z _, z _⟩
  · rw [goS_mov c, goS_mov c, srcV_rel hr h (by omega) (by omega)]
    exact ⟨plain _ (by omega), z _⟩
  · rw [goS_two c, goS_two c, srcV_rel hr h (by omega) (by omega), dstV_rel hr h (by omega) (by omega) (by omega) (by omega)]
    exact ⟨plain _ (by omega), z _⟩
theorem sets_go {i : Ins} {n : Int} {t : St} (hr : Right i n) (ho : i.op ≤ 10) : ∃ a, goS i t = (t.wth i.d.toNat a, St.z) := by
  have hk := kind_iff.1 hr.kind
  by_cases c1 : i.op = 10
  · exact ⟨_, goS_load c1⟩
  by_cases c7 : i.op = 1
  · exact ⟨_, goS_mov c7⟩
  · exact ⟨_, goS_two (by omega)⟩
theorem rid_adds {i : Ins} {n : Int} {A : List (V6 Bool)} {k : Nat} {t t' : St} {S S' : List St} (hr : Right i n) (h : RelS (liveA (deadI i (liveK i A k)) (liveK i A k)) t t') (h0 : (stepS i t).2.2 = 0) (hS : RelL A S S') :
    (stepS (deadI i (liveK i A k)) t').2.2 = 0 ∧ RelL A (addS (addS S (k + 1) (stepS i t).1) (k + 1 + i.of.toNat) (stepS i t).2.1) (addS (addS S' (k + 1) (stepS (deadI i (liveK i A k)) t').1) (k + 1 + (deadI i (liveK i A k)).of.toNat) (stepS (deadI i (liveK i A k)) t').2.1) := by
  have zadd : ∀ (S : List St) k, addS S k St.z = S := fun S k => by unfold addS; rfl
  have hk := kind_iff.1 hr.kind
  by_cases hl : t.live = true
  · have hl' : t'.live = true := by rw [← h.live]; exact hl
    obtain ⟨t0, e1, e2⟩ := stepS_live hl h0
    rw [e1, e2]
    unfold deadI at h ⊢
    by_cases c : (decide (i.op ≤ 10) && !(liveK i A k).get i.d.toNat) = true
    · rw [if_pos c] at h ⊢
      obtain ⟨h1, h2⟩ := dead_iff.1 c
      obtain ⟨a, ha⟩ := sets_go (t := t) hr h1
      have hd := reg_nat (right_regs hr).1
      unfold onI
      rw [jump_step, if_pos hl', ha]
      refine ⟨rfl, ?_⟩
      simp only
      rw [zadd, zadd]
      refine hS.add ⟨?_, fun j hj hb => ?_⟩
      · show t.live = t'.live
        exact h.live
      · have eb : liveK i A k = lvAt A (k + 1) := by unfold liveK; rw [if_neg (by omega), if_neg (by omega), if_neg (by rw [branch_iff]; omega)]
        have hne : ¬ i.d.toNat = j := fun e => by rw [eb, e, hb] at h2; cases h2
        rw [St.wth_s hd hj, St.wth_r hd hj, if_neg hne, if_neg hne]
        exact h.reg j hj (by rw [onI_live hj, eb]; exact hb)
    · rw [if_neg c] at h ⊢
      have t0' : trapS i t' = 0 := by rw [← trap_rel hr h]; exact t0
      have h0' : (stepS i t').2.2 = 0 := by unfold stepS; rw [if_pos hl', if_pos t0']
      obtain ⟨_, e3, e4⟩ := stepS_live hl' h0'
      rw [e3, e4]
      obtain ⟨g1, g2⟩ := kept_go hr h
      exact ⟨h0', (hS.add g1).add g2⟩
  · have hl' : ¬ t'.live = true := by rw [← h.live]; exact hl
    have e1 : stepS i t = (St.z, St.z, 0) := by unfold stepS; rw [if_neg hl]
    have e2 : ∀ i', stepS i' t' = (St.z, St.z, 0) := fun i' => by unfold stepS; rw [if_neg hl']
    rw [e1, e2]
    simp only
    rw [zadd, zadd, zadd, zadd]
    exact ⟨trivial, hS⟩
theorem verL_rid {L : List Ins} (hP : RightP L) : ∀ (n k : Nat) (S S' : List St), k + n = L.length → RelL (ridR L).2 S S' → (verL L n k S).trap = 0 → (verL (ridR L).1 n k S').trap = 0
  | 0, _, _, _, _, _, _ => rfl
  | n + 1, k, S, S', hk, hS, h0 => by
    have hlt : k < L.length := by omega
    have hr := right_lt hP hlt
    obtain ⟨_, h2⟩ := ridR_at L
    obtain ⟨e1, e2⟩ := h2 k hlt
    rw [verL] at h0
    by_cases hq : (stepS (elt L k) (stAt S k)).2.2 = 0
    · rw [if_pos hq] at h0
      have hrel := hS.2 k
      rw [e2, e1] at hrel
      obtain ⟨g1, g2⟩ := rid_adds hr hrel hq hS
      rw [verL, e1, if_pos g1]
      exact verL_rid hP n (k + 1) _ _ (by omega) g2 h0
    · rw [if_neg hq] at h0
      exact absurd h0 hq
theorem verify_rid {L : List Ins} (hP : RightP L) (h0 : (verifyS L).trap = 0) : (verifyS (ridR L).1).trap = 0 := by
  unfold verifyS
  rw [(ridR_at L).1]
  exact verL_rid hP L.length 0 _ _ (by omega) ⟨rfl, fun j => RelS.refl _ _⟩ h0
/- what runs come to -/
theorem runOut_rid {L : List Ins} (hP : RightP L) (h0 : (verifyS L).trap = 0) {s : ByteArray} (hs : s.size = 64) (x : BitVec 64) : runOut (ridR L).1 s x = runOut L s x := by
  unfold runOut
  rw [(ridR_at L).1]
  exact run_rid hP h0 L.length _ _ 0 (had_start hP hs) rfl (RelM.refl _ _) (by show _ ≤ (0 : Int) + _; omega)
theorem runOut_fold {L : List Ins} (hP : RightP L) (h0 : (verifyS L).trap = 0) {s : ByteArray} (hs : s.size = 64) (x : BitVec 64) : runOut (foldL (verifyS L).sts L 0) s x = runOut L s x := by
  unfold runOut
  rw [(foldL_at (verifyS L).sts L 0).1, run_fold hP h0 _ _ _ (had_start hP hs)]
theorem runOut_stops {L : List Ins} (hP : RightP L) (h0 : (verifyS L).trap = 0) {s : ByteArray} (hs : s.size = 64) (x : BitVec 64) : (runOut L s x).fin = 3 ∧ (runOut L s x).n ≤ L.length := by
  have := run_stops hP h0 L.length (startM s x) 0 (had_start hP hs) (Or.inl rfl) (fun _ => by show _ ≤ (0 : Int) + _; omega)
  unfold runOut outOf
  simp only
  exact ⟨this.1, by omega⟩
/- a program without traps, folded, rid, and both -/
structure Same (L M : List Ins) : Prop where
  right : RightP M
  trap : (verifyS M).trap = 0
  run : ∀ s x, s.size = 64 → runOut M s x = runOut L s x
theorem fold_same {L : List Ins} (hP : RightP L) (h0 : (verifyS L).trap = 0) : Same L (foldS L) := by
  unfold foldS
  rw [if_pos h0]
  exact ⟨foldL_right hP _, by rw [verify_fold hP h0]; exact h0, fun s x hs => runOut_fold hP h0 hs x⟩
theorem rid_same {L : List Ins} (hP : RightP L) (h0 : (verifyS L).trap = 0) : Same L (deadS L) := by
  unfold deadS
  rw [if_pos h0]
  exact ⟨rid_right hP, verify_rid hP h0, fun s x hs => runOut_rid hP h0 hs x⟩
theorem both_same {L : List Ins} (hP : RightP L) (h0 : (verifyS L).trap = 0) : Same L (deadS (foldS L)) := by
  have h1 := fold_same hP h0
  have h2 := rid_same h1.right h1.trap
  exact ⟨h2.right, h2.trap, fun s x hs => (h2.run s x hs).trans (h1.run s x hs)⟩
end Go.Proofs.Ytkigmocchaikgab

/- fold's liveBehind, liveAhead, fromBehind; Fold's closure, change, Fold. -/
namespace Go.Proofs.Ytkigmocchaikgab
open Go.RowKit

theorem rcell_len (A : List (V6 Bool)) : (rcell A).length = A.length * 6 := flat_len (f := bcs) (fun _ => rfl) A
theorem rcell_ks (A : List (V6 Bool)) : (rcell A).flatMap AC.ks = [] := flat_ks (f := bcs) (fun _ => rfl) A
theorem rcell_at {A : List (V6 Bool)} {k : Nat} (h : k < A.length) : List.take 6 (List.drop (k * 6) (rcell A)) = bcs (lvAt A k) := flat_at (f := bcs) (fun _ => rfl) no6 h
theorem rcell_set {A : List (V6 Bool)} {k : Nat} (t : V6 Bool) (h : k < A.length) : splice (rcell A) (k * 6) (bcs t) = rcell (A.set k t) := flat_set (f := bcs) (fun _ => rfl) t h
theorem rcell_rows (n : Nat) : rows n (bcs no6) = rcell (List.replicate n no6) := flat_rows (f := bcs) no6 n
theorem begin_one {cs : List AC} {args : List AV} {b : Bool} {r : Nat} (ha : (keysOf args).all (fun k => Nat.blt k 1) = true) (hcs : cs.flatMap AC.ks = []) : Begin args [(0, ⟨b, cs, r⟩)] 1 := by
  refine ⟨fun v hv k hk => ?_, fun k e he => ?_⟩
  · have h2 := List.all_eq_true.1 ha k (List.mem_flatMap.2 ⟨v, hv, hk⟩)
    simpa using h2
  · obtain ⟨rfl, rfl⟩ := one_look he
    exact ⟨by decide, fun c hc j hj => (nk_of hcs hc hj).elim⟩
theorem goes_on {i : Ins} {n : Int} (hr : Right i n) (h : i.op = 12 ∨ i.op = 13 ∨ i.op = 14) : 0 ≤ i.of ∧ i.of < n := by
  rcases h with h | h
  · exact ⟨(fits_jump hr h).1, (fits_jump hr h).2.1⟩
  · exact (fits_branch hr h).2.2
theorem liveBehind_ok {i : Ins} {A : List (V6 Bool)} {x c : Nat} (hx : x < A.length) (hA : A.length ≤ 64) (hr : Right i ((A.length - 1 - x : Nat) : Int)) (hl : i.op = 15 ∨ x + 1 < A.length) :
    CallOK Try.prog ⟨88, [.ag i.cs, .c (.sl 0 (x * 6) (A.length - x) c)], [(0, ⟨false, rcell A, 0⟩)], ⟨.ag (bcs (liveK i A x)), [], none⟩⟩ := by
  refine read_of Try.func88 rfl rfl (begin_one rfl (rcell_ks A)) rfl (fun k en h => by obtain ⟨_, rfl⟩ := one_look h; rfl) fun w β => ?_
  have c0 := branches_ok i
  have n15 : (i.op == 15) = false → x + 1 < A.length := fun h => by
    rcases hl with h1 | h1
    · rw [h1] at h; cases h
    · exact h1
  have hbr : branchB i = true → i.op = 13 ∨ i.op = 14 := fun h => by unfold branchB at h; simpa using h
  have q1 : x + 1 < A.length → decide (1 < ((A.length - x : Nat) : Int)) = true ∧ Nat.ble (x * 6 + 6 + 6) (rcell A).length = true ∧ Eff.mk (AV.ag (List.take 6 (List.drop (x * 6 + 6) (rcell A)))) [] none = Eff.mk (AV.ag (bcs (lvAt A (x + 1)))) [] none := fun h => by
    refine ⟨decide_eq_true (by omega), ?_, ?_⟩
    · rw [rcell_len, Nat.ble_eq]; omega
    · rw [show x * 6 + 6 = (x + 1) * 6 by omega, rcell_at h]
  have q2 : (i.op = 12 ∨ i.op = 13 ∨ i.op = 14) → (decide (0 ≤ 1 + i.of) && decide (1 + i.of < ((A.length - x : Nat) : Int))) = true ∧ Nat.ble (x * 6 + Int.toNat (1 + i.of) * 6 + 6) (rcell A).length = true ∧ Eff.mk (AV.c (AC.i (IntKind.wrap IntKind.i64 (1 + i.of)))) [] none = Eff.mk (AV.c (AC.i (1 + i.of))) [] none ∧ Eff.mk (AV.ag (List.take 6 (List.drop (x * 6 + Int.toNat (1 + i.of) * 6) (rcell A)))) [] none = Eff.mk (AV.ag (bcs (lvAt A (x + 1 + i.of.toNat)))) [] none := fun h => by
    obtain ⟨h1, h2⟩ := goes_on hr h
    refine ⟨and_yes (decide_eq_true (by omega)) (decide_eq_true (by omega)), ?_, ?_, ?_⟩
    · rw [rcell_len, Nat.ble_eq]; omega
    · rw [wrapN (by omega) (by omega)]
    · rw [show x * 6 + Int.toNat (1 + i.of) * 6 = (x + 1 + i.of.toNat) * 6 by omega, rcell_at (by omega)]
  refine flb_all (u := lvAt A (x + 1)) (v := lvAt A (x + 1 + i.of.toNat)) (fun a => ?_) (fun a b => ?_) (fun a b d => ?_) (fun a b d => ?_)
  · have : i.op = 15 := by simpa using a
    unfold liveK; rw [if_pos this]; rfl
  · have h1 : i.op = 12 := by simpa using b
    have h0 : ¬ i.op = 15 := by simpa using a
    obtain ⟨f1, f2, f3, f4⟩ := q2 (Or.inl h1)
    exact ⟨f1, f2, f3, f4, by unfold liveK; rw [if_neg h0, if_pos h1]⟩
  · have h1 : ¬ i.op = 12 := by simpa using b
    have h0 : ¬ i.op = 15 := by simpa using a
    obtain ⟨f1, f2, f3, f4⟩ := q2 (Or.inr (hbr d))
    obtain ⟨g1, g2, g3⟩ := q1 (n15 a)
    exact ⟨g1, g2, f1, f2, c0, g3, f3, f4, either_ok _ _, by unfold liveK; rw [if_neg h0, if_neg h1, if_pos d]; rfl⟩
  · have h1 : ¬ i.op = 12 := by simpa using b
    have h0 : ¬ i.op = 15 := by simpa using a
    obtain ⟨g1, g2, g3⟩ := q1 (n15 a)
    exact ⟨g1, g2, c0, g3, by unfold liveK; rw [if_neg h0, if_neg h1, if_neg (by rw [d]; decide)]⟩
theorem uses_in {i : Ins} {n : Int} (hr : Right i n) : i.op = 12 ∨ i.op = 15 ∨ (regB i.d = true ∧ srcB i.s = true) := by
  rcases ops_of hr with c | c | c | c | c | c | c | c
  · have := fits_reach hr (Or.inl c); exact Or.inr (Or.inr ⟨this.1, srcB_iff.2 (Or.inr this.2.1)⟩)
  · have := fits_reach hr (Or.inr c); exact Or.inr (Or.inr ⟨this.1, srcB_iff.2 (Or.inr this.2.1)⟩)
  · exact Or.inl c
  · have := fits_branch hr (Or.inl c); exact Or.inr (Or.inr ⟨this.1, this.2.1⟩)
  · have := fits_branch hr (Or.inr c); exact Or.inr (Or.inr ⟨this.1, this.2.1⟩)
  · exact Or.inr (Or.inl c)
  · have := fits_two hr (by omega); exact Or.inr (Or.inr ⟨this.1, this.2.1⟩)
  · have := fits_two hr (by omega); exact Or.inr (Or.inr ⟨this.1, this.2.1⟩)
theorem sets_reg {i : Ins} {n : Int} (hr : Right i n) (h : i.op ≤ 10) : regB i.d = true := by
  by_cases h1 : i.op ≤ 9
  · exact (fits_two hr h1).1
  · exact (fits_reach hr (Or.inl (by omega))).1
theorem liveAhead_ok {i : Ins} {n : Int} (hr : Right i n) (b : V6 Bool) : Ok 90 [.ag i.cs, .ag (bcs b)] (.ag (bcs (liveA i b))) := by
  have c1 := use_of_ok (uses_in hr)
  refine fla_all (fun a => ?_) (fun a => ?_)
  · have h := of_decide_eq_true a
    have hB := sets_reg hr h
    exact ⟨hB, by rw [bw_ok b hB]; rfl, sets_ok i, by rw [bw_eff b false hB], c1, either_ok _ _, by unfold liveA; rw [if_pos h]; rfl⟩
  · have h := of_decide_eq_false a
    exact ⟨sets_ok i, c1, either_ok _ _, by unfold liveA; rw [if_neg h]; rfl⟩
theorem fromBehind_ok (p : Int) : CallOK Try.prog ⟨87, [.c (.i p)], [], ⟨.c (.f 121 [0]), [], some (0, ⟨true, [.i p], 0⟩)⟩⟩ :=
  new_of Try.func87 rfl rfl rfl rfl rfl fun _ _ hk => ffb_w0 hk

/- a list that is made over from its head on -/
theorem mix_set {α : Type} {X L : List α} {j : Nat} (d : α) (hX : j < X.length) (hL : j < L.length) : (X.take j ++ L.drop j).set j (X.getD j d) = X.take (j + 1) ++ L.drop (j + 1) := by
  have h1 : (X.take j).length = j := by rw [List.length_take]; omega
  rw [List.set_append_right _ _ (by omega), h1, Nat.sub_self, List.drop_eq_getElem_cons hL, List.set_cons_zero, List.take_succ_eq_append_getElem hX, List.append_assoc, List.getD_eq_getElem?_getD, List.getElem?_eq_getElem hX]
  rfl
theorem mix_at {α : Type} {X L : List α} {j : Nat} (d : α) (hX : j ≤ X.length) : (X.take j ++ L.drop j).getD j d = L.getD j d := by
  have h1 : (X.take j).length = j := by rw [List.length_take]; omega
  rw [List.getD_eq_getElem?_getD, List.getD_eq_getElem?_getD, List.getElem?_append_right (by omega), h1, Nat.sub_self, List.getElem?_drop, Nat.add_zero]
theorem wr2_of {P : Program} {f : FuncId} {fn : Func} {args : List AV} {cs cs' ds : List AC} {v : AV} {r : Nat} (hf : P.funcs[f]? = some fn) (hb : fn.body.isSome = true) (hN : Nat.ble args.length fn.ntmps = true) (ha : (keysOf args).all (fun k => Nat.blt k 2) = true) (hcs : cs.flatMap AC.ks = []) (hds : ds.flatMap AC.ks = []) (hne : cs ≠ []) (hv : v.ks = []) (hc : cs'.flatMap AC.ks = [])
    (h : ∀ w β, EKeys 2 [0] none ⟨v, [(0, cs')], none⟩ → ART P f (cx w β 2 [0]) fn.ntmps [.code (bodyOf fn)] (Kn.start args [(0, ⟨true, cs, r⟩), (1, ⟨false, ds, 0⟩)] 2) (REff w β ⟨v, [(0, cs')], none⟩)) : CallOK P ⟨f, args, [(0, ⟨true, cs, r⟩), (1, ⟨false, ds, 0⟩)], ⟨v, [(0, cs')], none⟩⟩ := by
  have e : EKeys 2 [0] none ⟨v, [(0, cs')], none⟩ := by
    refine ⟨fun k hk => ?_, fun k cs hm => ?_, fun _ _ h' => (nomatch h'), fun k h => ?_, fun _ h => (nomatch h)⟩
    · simp only at hk; rw [hv] at hk; cases hk
    · have := List.mem_singleton.1 hm; injection this with _ h2; subst h2; exact hc
    · rw [List.mem_singleton.1 h]; decide
  have two : ∀ {k : Nat} {en : Ent}, look [(0, ⟨true, cs, r⟩), (1, ⟨false, ds, 0⟩)] k = some en → (k = 0 ∧ en = ⟨true, cs, r⟩) ∨ (k = 1 ∧ en = ⟨false, ds, 0⟩) := fun {k en} he => by
    rw [look_cons] at he
    split at he
    · rename_i hk; injection he with he; exact Or.inl ⟨hk, he.symm⟩
    · exact Or.inr (one_look he)
  have hB : Begin args [(0, ⟨true, cs, r⟩), (1, ⟨false, ds, 0⟩)] 2 := by
    refine ⟨fun v hv k hk => ?_, fun k e he => ?_⟩
    · have h2 := List.all_eq_true.1 ha k (List.mem_flatMap.2 ⟨v, hv, hk⟩)
      simpa using h2
    · rcases two he with ⟨rfl, rfl⟩ | ⟨rfl, rfl⟩
      · exact ⟨by decide, fun c hc j hj => (nk_of hcs hc hj).elim⟩
      · exact ⟨by decide, fun c hc j hj => (nk_of hds hc hj).elim⟩
  refine eff_of [0] none hf hb hN hB (fun k hk => ?_) (fun _ _ h' => (nomatch h')) (fun _ h => (nomatch h)) e (fun k cs' hm => ?_) (fun k en h1 h2 => ?_) fun w β _ => h w β e
  · simp only at hk; rw [hv] at hk; cases hk
  · have := List.mem_singleton.1 hm; injection this with h1 h2; subst h1
    exact ⟨⟨true, cs, r⟩, rfl, rfl, hne⟩
  · rcases two h1 with ⟨rfl, _⟩ | ⟨rfl, rfl⟩
    · exact List.mem_singleton.2 rfl
    · cases h2
theorem pcell_ne {L : List Ins} (h : 0 < L.length) : pcell L ≠ [] := fun e => by
  have := congrArg List.length e
  rw [pcell_length] at this
  simp at this; omega
abbrev f1Kn (L : List Ins) (S : List St) (p r j : Nat) : Kn := ⟨[(0, .c (.sx 0 p)), (1, .c (.sl 1 0 p p)), (7, .c (.i ((p : Int) - 1))), (8, .c (.i (j : Int)))], [(0, ⟨true, pcell L, r⟩), (1, ⟨false, scell S, 0⟩)], 2⟩
theorem f1_low (L : List Ins) (S : List St) (p r j : Nat) : Kn.Low (f1Kn L S p r j) := low_n rfl rfl ⟨pcell_ks L, scell_ks S, trivial⟩
theorem f1Loop {L : List Ins} {S : List St} (hP : RightP L) (hS : S.length = L.length) (hok : ∀ j, (stAt S j).Ok) {w : World} {β : Bs} (hk : EKeys 2 [0] none ⟨.tu [], [(0, pcell (foldL S L 0))], none⟩) : ∀ (m j r : Nat), j + m + 1 = L.length →
    ART Try.prog 51 (cx w β 2 [0]) Try.f51.ntmps (cutAt Try.f51 0) (f1Kn ((foldL S L 0).take j ++ L.drop j) S L.length r j) (REff w β ⟨.tu [], [(0, pcell (foldL S L 0))], none⟩)
  | 0, j, r, hj => by
    obtain ⟨hl, hat⟩ := foldL_at S L 0
    have e : (foldL S L 0).take j ++ L.drop j = foldL S L 0 := by
      have hj' : j < L.length := by omega
      have h1 := hat j
      rw [if_neg (by omega)] at h1
      conv => rhs; rw [← List.take_append_drop j (foldL S L 0)]
      congr 1
      rw [List.drop_eq_getElem_cons hj', List.drop_eq_getElem_cons (by omega : j < (foldL S L 0).length), List.drop_of_length_le (by omega), List.drop_of_length_le (by omega)]
      unfold elt at h1
      rw [List.getD_eq_getElem?_getD, List.getD_eq_getElem?_getD, List.getElem?_eq_getElem hj', List.getElem?_eq_getElem (by omega : j < (foldL S L 0).length)] at h1
      simp only [Option.getD_some] at h1
      rw [h1]
    rw [e]
    exact f1End_w0 (and_yes (by rw [decide_eq_false (by omega)]; rfl) rfl) hk
  | m + 1, j, r, hj => by
    obtain ⟨hl, hat⟩ := foldL_at S L 0
    have hle := hP.le
    have hjL : j < L.length := by omega
    have h1 := hat j
    rw [if_pos (by omega), Nat.zero_add] at h1
    have hlen : ((foldL S L 0).take j ++ L.drop j).length = L.length := by rw [List.length_append, List.length_take, List.length_drop]; omega
    have ea : elt ((foldL S L 0).take j ++ L.drop j) j = elt L j := mix_at _ (by omega)
    have es : ((foldL S L 0).take j ++ L.drop j).set j (foldI (elt L j) (stAt S j)) = (foldL S L 0).take (j + 1) ++ L.drop (j + 1) := by
      rw [← h1]; exact mix_set _ (by omega) hjL
    have d1 : decide ((j : Int) < (L.length : Int)) = true := jl hjL
    have d2 : Nat.ble (Int.toNat (j : Int) * 5 + 5) (pcell ((foldL S L 0).take j ++ L.drop j)).length = true := by rw [pcell_length, hlen, Nat.ble_eq]; omega
    have d3 : Nat.ble (0 + Int.toNat (j : Int) * 31 + 31) (scell S).length = true := by rw [scell_len, Nat.ble_eq]; omega
    refine f1Round_w0 (f := foldI (elt L j) (stAt S j)) (and_yes (decide_eq_true (by omega)) (and_yes d1 (and_yes d2 (and_yes d1 (and_yes d3 (and_yes d1 (by rw [show List.length (Ins.cs (foldI (elt L j) (stAt S j))) = 5 from rfl, d2]; rfl))))))) ?_ ?_ ?_ ?_ (by rw [wrapS (by omega)]) (low_n rfl rfl ⟨pcell_ks _, scell_ks S, trivial⟩) (fun k hk => hk) ?_
    · rw [Int.toNat_natCast, pcell_elt (by omega), ea]
    · rw [Int.toNat_natCast]; exact sat_eff (by omega)
    · rw [ea]; exact folded_ok hP hjL (hok j)
    · rw [Int.toNat_natCast, pcell_set _ (by omega)]
    · rw [es]
      exact f1Loop hP hS hok hk m (j + 1) 0 (by omega)
theorem fold1_ok {L : List Ins} {S : List St} (hP : RightP L) (hS : S.length = L.length) (hok : ∀ j, (stAt S j).Ok) : CallOK Try.prog ⟨51, [.c (.sx 0 L.length), .c (.sl 1 0 L.length L.length)], [(0, ⟨true, pcell L, 5⟩), (1, ⟨false, scell S, 0⟩)], ⟨.tu [], [(0, pcell (foldL S L 0))], none⟩⟩ := by
  have hpos := hP.pos
  have hle := hP.le
  refine wr2_of Try.func51 rfl rfl rfl (pcell_ks L) (scell_ks S) (pcell_ne hpos) rfl (pcell_ks _) fun w β hk => f1Top_w0 (by rw [wrapN (by omega) (by omega)]) (f1_low _ _ _ _ 0) (fun k hk => hk) (f1Loop hP hS hok hk (L.length - 1) 0 5 (by omega))
end Go.Proofs.Ytkigmocchaikgab

/- Ridding as the program does it: round by round, from behind. -/
namespace Go.Proofs.Ytkigmocchaikgab
open Go.RowKit

theorem mixR_set {α : Type} {A B : List α} {x : Nat} (d : α) (hA : x < A.length) (hB : x < B.length) : (A.take (x + 1) ++ B.drop (x + 1)).set x (B.getD x d) = A.take x ++ B.drop x := by
  have h1 : (A.take x).length = x := by rw [List.length_take]; omega
  rw [List.take_succ_eq_append_getElem hA, List.append_assoc, List.set_append_right _ _ (by omega), h1, Nat.sub_self, List.drop_eq_getElem_cons hB, List.getD_eq_getElem?_getD, List.getElem?_eq_getElem hB]
  rfl
theorem mixR_low {α : Type} {A B : List α} {m j : Nat} (d : α) (hA : m ≤ A.length) (h : j < m) : (A.take m ++ B.drop m).getD j d = A.getD j d := by
  have h1 : (A.take m).length = m := by rw [List.length_take]; omega
  rw [List.getD_eq_getElem?_getD, List.getD_eq_getElem?_getD, List.getElem?_append_left (by omega), List.getElem?_take_of_lt h]
theorem mixR_high {α : Type} {A B : List α} {m j : Nat} (d : α) (hA : m ≤ A.length) (h : m ≤ j) : (A.take m ++ B.drop m).getD j d = B.getD j d := by
  have h1 : (A.take m).length = m := by rw [List.length_take]; omega
  rw [List.getD_eq_getElem?_getD, List.getD_eq_getElem?_getD, List.getElem?_append_right (by omega), h1, List.getElem?_drop, show m + (j - m) = j by omega]
theorem ridR_len : ∀ L : List Ins, (ridR L).2.length = L.length
  | [] => rfl
  | _ :: L => by
    show (ridR L).2.length + 1 = L.length + 1
    rw [ridR_len L]
theorem liveK_congr {i : Ins} {A B : List (V6 Bool)} {k : Nat} (h : ∀ j, k + 1 ≤ j → lvAt A j = lvAt B j) : liveK i A k = liveK i B k := by
  unfold liveK
  rw [h (k + 1) (Nat.le_refl _), h (k + 1 + i.of.toNat) (by omega)]
def stepD (s : List Ins × List (V6 Bool)) (x : Nat) : List Ins × List (V6 Bool) :=
  (s.1.set x (deadI (elt s.1 x) (liveK (elt s.1 x) s.2 x)), s.2.set x (liveA (deadI (elt s.1 x) (liveK (elt s.1 x) s.2 x)) (liveK (elt s.1 x) s.2 x)))
structure DOk (n : Nat) (s : List Ins × List (V6 Bool)) : Prop where
  l1 : s.1.length = n
  l2 : s.2.length = n
  right : ∀ k, k < n → Right (elt s.1 k) ((n - 1 - k : Nat) : Int)
  last : ∀ k, k < n → (elt s.1 k).op = 15 ∨ k + 1 < n
theorem DOk.start {L : List Ins} (hP : RightP L) : DOk L.length (L, List.replicate L.length no6) := by
  refine ⟨rfl, List.length_replicate, fun k hk => hP.step k hk, fun k hk => ?_⟩
  by_cases h : k + 1 < L.length
  · exact Or.inr h
  · have : k = L.length - 1 := by omega
    subst this
    exact Or.inl hP.last
theorem elt_set {L : List Ins} {x k : Nat} {i : Ins} (hx : x < L.length) : elt (L.set x i) k = if k = x then i else elt L k := by
  unfold elt
  rw [List.getD_eq_getElem?_getD, List.getD_eq_getElem?_getD, List.getElem?_set]
  by_cases h : x = k
  · subst h; rw [if_pos rfl, if_pos hx, if_pos rfl]; rfl
  · rw [if_neg h, if_neg (Ne.symm h)]
theorem DOk.step {n : Nat} {s : List Ins × List (V6 Bool)} (h : DOk n s) {x : Nat} (hx : x < n) : DOk n (stepD s x) := by
  have hr := h.right x hx
  have hl := h.last x hx
  refine ⟨?_, ?_, fun k hk => ?_, fun k hk => ?_⟩
  · show (s.1.set _ _).length = n; rw [List.length_set]; exact h.l1
  · show (s.2.set _ _).length = n; rw [List.length_set]; exact h.l2
  · show Right (elt (s.1.set _ _) k) _
    rw [elt_set (by rw [h.l1]; exact hx)]
    by_cases e : k = x
    · subst e
      rw [if_pos rfl]
      refine deadI_right ?_ hr
      rcases hl with h1 | h1
      · exact Or.inr h1
      · exact Or.inl (by omega)
    · rw [if_neg e]; exact h.right k hk
  · show (elt (s.1.set _ _) k).op = 15 ∨ _
    rw [elt_set (by rw [h.l1]; exact hx)]
    by_cases e : k = x
    · subst e
      rw [if_pos rfl]
      rcases hl with h1 | h1
      · refine Or.inl ?_
        unfold deadI
        rw [if_neg (by simp [h1])]
        exact h1
      · exact Or.inr h1
    · rw [if_neg e]; exact h.last k hk
def runD (L : List Ins) (pre : List Nat) : List Ins × List (V6 Bool) := pre.foldl stepD (L, List.replicate L.length no6)
theorem runD_snoc (L : List Ins) (pre : List Nat) (x : Nat) : runD L (pre ++ [x]) = stepD (runD L pre) x := by unfold runD; rw [List.foldl_append]; rfl
theorem runD_ok {L : List Ins} (hP : RightP L) : ∀ pre : List Nat, (∀ x, x ∈ pre → x < L.length) → DOk L.length (runD L pre) := by
  have : ∀ (pre : List Nat) (s : List Ins × List (V6 Bool)), DOk L.length s → (∀ x, x ∈ pre → x < L.length) → DOk L.length (pre.foldl stepD s) := by
    intro pre
    induction pre with
    | nil => intro s h _; exact h
    | cons x pre ih => intro s h hx; exact ih _ (h.step (hx x (by simp))) fun y hy => hx y (by simp [hy])
  exact fun pre h => this pre _ (DOk.start hP) h
theorem runD_down {L : List Ins} : ∀ k, k ≤ L.length → runD L ((List.range k).map fun j => L.length - 1 - j) = (L.take (L.length - k) ++ (ridR L).1.drop (L.length - k), (List.replicate L.length no6).take (L.length - k) ++ (ridR L).2.drop (L.length - k))
  | 0, _ => by
    obtain ⟨h1, _⟩ := ridR_at L
    show (L, List.replicate L.length no6) = _
    rw [Nat.sub_zero, List.drop_of_length_le (by omega), List.drop_of_length_le (by rw [ridR_len]; omega), List.append_nil, List.append_nil, List.take_of_length_le (Nat.le_refl _), List.take_of_length_le (by rw [List.length_replicate]; omega)]
  | k + 1, hk => by
    obtain ⟨h1, h2⟩ := ridR_at L
    have hl := ridR_len L
    rw [List.range_succ, List.map_append, List.map_cons, List.map_nil, runD_snoc, runD_down k (by omega)]
    have e : L.length - k = (L.length - (k + 1)) + 1 := by omega
    have e2 : L.length - 1 - k = L.length - (k + 1) := by omega
    rw [e, e2]
    have hx : L.length - (k + 1) < L.length := by omega
    generalize L.length - (k + 1) = x at *
    obtain ⟨g1, g2⟩ := h2 x hx
    have a1 : elt (L.take (x + 1) ++ (ridR L).1.drop (x + 1)) x = elt L x := mixR_low _ (by omega) (by omega)
    have a2 : ∀ i, liveK i ((List.replicate L.length no6).take (x + 1) ++ (ridR L).2.drop (x + 1)) x = liveK i (ridR L).2 x := fun i => liveK_congr fun j hj => mixR_high _ (by rw [List.length_replicate]; omega) hj
    unfold stepD
    simp only [a1, a2]
    rw [← g1, ← g2]
    exact Prod.ext (mixR_set _ (by omega) (by omega)) (mixR_set _ (by rw [List.length_replicate]; omega) (by omega))
theorem runD_all (L : List Ins) : (runD L ((List.range L.length).map fun j => L.length - 1 - j)).1 = (ridR L).1 := by
  rw [runD_down L.length (Nat.le_refl _), Nat.sub_self]
  rfl
end Go.Proofs.Ytkigmocchaikgab

/- fold.rid: a round of its range over a function. -/
namespace Go.Proofs.Ytkigmocchaikgab
open Go.RowKit

abbrev rdH (L : List Ins) (A : List (V6 Bool)) (p r : Nat) : List (Nat × Ent) := [(0, ⟨true, pcell L, r⟩), (1, ⟨true, [.sx 0 p], 0⟩), (4, ⟨true, rcell A, 0⟩), (5, ⟨true, [.sl 4 0 p p], 0⟩)]
abbrev rdKn (L : List Ins) (A : List (V6 Bool)) (p r x : Nat) : Kn := ⟨[(1, .c (.w 1)), (2, .c (.w 5)), (3, .c (.i (x : Int)))], rdH L A p r, 10⟩
abbrev rdEnd (L : List Ins) (A : List (V6 Bool)) (p r : Nat) : Kn := ⟨[(1, .c (.w 1)), (2, .c (.w 5))], rdH L A p r, 10⟩
theorem rdH_look {L : List Ins} {A : List (V6 Bool)} {p r k : Nat} {e : Ent} (h : look (rdH L A p r) k = some e) : (k = 0 ∧ e = ⟨true, pcell L, r⟩) ∨ (k = 1 ∧ e = ⟨true, [.sx 0 p], 0⟩) ∨ (k = 4 ∧ e = ⟨true, rcell A, 0⟩) ∨ (k = 5 ∧ e = ⟨true, [.sl 4 0 p p], 0⟩) := by
  rw [look_cons] at h
  split at h
  · rename_i hk; injection h with h; exact Or.inl ⟨hk, h.symm⟩
  · rw [look_cons] at h
    split at h
    · rename_i hk; injection h with h; exact Or.inr (Or.inl ⟨hk, h.symm⟩)
    · rw [look_cons] at h
      split at h
      · rename_i hk; injection h with h; exact Or.inr (Or.inr (Or.inl ⟨hk, h.symm⟩))
      · exact Or.inr (Or.inr (Or.inr (one_look h)))
theorem rdH_low {L : List Ins} {A : List (V6 Bool)} {p r k : Nat} {e : Ent} (h : look (rdH L A p r) k = some e) : k < 10 ∧ ∀ c, c ∈ e.cells → ∀ j, j ∈ c.ks → j < 10 := by
  rcases rdH_look h with ⟨rfl, rfl⟩ | ⟨rfl, rfl⟩ | ⟨rfl, rfl⟩ | ⟨rfl, rfl⟩
  · exact ⟨by decide, fun c hc j hj => (nk_of (pcell_ks L) hc hj).elim⟩
  · refine ⟨by decide, fun c hc j hj => ?_⟩
    rw [List.mem_singleton.1 hc] at hj
    rw [List.mem_singleton.1 hj]; decide
  · exact ⟨by decide, fun c hc j hj => (nk_of (rcell_ks A) hc hj).elim⟩
  · refine ⟨by decide, fun c hc j hj => ?_⟩
    rw [List.mem_singleton.1 hc] at hj
    rw [List.mem_singleton.1 hj]; decide
theorem low_t {T : List (Nat × AV)} {n : Nat} (h : (T.flatMap fun x => x.2.ks).all (fun k => Nat.blt k n) = true) (t : Nat) (v : AV) (hv : look T t = some v) (k : Nat) (hk : k ∈ v.ks) : k < n := by
  have h1 : k ∈ T.flatMap fun x => x.2.ks := List.mem_flatMap.2 ⟨(t, v), look_mem hv, hk⟩
  have h2 := List.all_eq_true.1 h k h1
  simpa using h2
theorem rd_low (L : List Ins) (A : List (V6 Bool)) (p r : Nat) : Kn.Low (rdEnd L A p r) := ⟨low_t rfl, fun _ _ h => rdH_low h⟩
theorem liveBehind_4 {i : Ins} {A : List (V6 Bool)} {x c : Nat} (hx : x < A.length) (hA : A.length ≤ 64) (hr : Right i ((A.length - 1 - x : Nat) : Int)) (hl : i.op = 15 ∨ x + 1 < A.length) :
    CallOK Try.prog ⟨88, [.ag i.cs, .c (.sl 4 (x * 6) (A.length - x) c)], [(4, ⟨true, rcell A, 0⟩)], ⟨.ag (bcs (liveK i A x)), [], none⟩⟩ := by
  refine CallOK.more (H := [(4, ⟨false, rcell A, 0⟩)]) ?_ ⟨fun j en hj => ?_⟩
  · refine ((liveBehind_ok (c := c) hx hA hr hl).ren (swp 0 4) (swp_inj 0 4)).congr ?_
    unfold CallRec.ren Eff.ren renH
    simp only [List.map_cons, List.map_nil, Option.map_none, Ent.ren, ren_nk _ (rcell_ks _)]
    rfl
  · obtain ⟨rfl, rfl⟩ := one_look hj
    exact ⟨⟨true, rcell A, 0⟩, rfl, rfl, fun h => (by cases h), Or.inl rfl⟩
theorem set_self {L : List Ins} {x : Nat} (h : x < L.length) : L.set x (elt L x) = L := by
  unfold elt
  rw [List.getD_eq_getElem?_getD, List.getElem?_eq_getElem h]
  exact List.set_getElem_self h
theorem round_in {n r x : Nat} {s : List Ins × List (V6 Bool)} (h : DOk n s) (hn : n ≤ 64) (hx : x < n) {C : Cx} (hF : ∀ k, C.F k → k < 10) :
    ∃ r', PartIn Try.prog C Try.f54.ntmps [Item.code (bodyR Try.f54), Item.inLoop Code.skip] (rdKn s.1 s.2 n r x) (rdEnd (stepD s x).1 (stepD s x).2 n r') := by
  obtain ⟨L, A⟩ := s
  have h1 : L.length = n := h.l1
  have h2 : A.length = n := h.l2
  have hr : Right (elt L x) ((n - 1 - x : Nat) : Int) := h.right x hx
  have hl : (elt L x).op = 15 ∨ x + 1 < n := h.last x hx
  have hd : Right (deadI (elt L x) (liveK (elt L x) A x)) ((n - 1 - x : Nat) : Int) := by
    have := (h.step hx).right x hx
    change Right (elt (L.set x _) x) _ at this
    rwa [elt_set (by omega), if_pos rfl] at this
  have cB := liveBehind_4 (i := elt L x) (A := A) (x := x) (c := n - x) (by omega) (by omega) (by rw [h2]; exact hr) (by rw [h2]; exact hl)
  rw [h2] at cB
  have cA := liveAhead_ok hd (liveK (elt L x) A x)
  show ∃ r', PartIn _ _ _ _ _ (rdEnd (L.set x (deadI (elt L x) (liveK (elt L x) A x))) (A.set x (liveA (deadI (elt L x) (liveK (elt L x) A x)) (liveK (elt L x) A x))) n r')
  generalize liveK (elt L x) A x = b at *
  have d0 : decide ((x : Int) < (n : Int)) = true := decide_eq_true (by omega)
  have d1 : ∀ M : List Ins, M.length = n → Nat.ble (Int.toNat (x : Int) * 5 + 5) (pcell M).length = true := fun M hM => by rw [pcell_length, hM, Nat.ble_eq]; omega
  have d2 : (decide ((x : Int) ≤ (n : Int)) && decide ((n : Int) ≤ (n : Int)) && decide ((n : Int) ≤ (n : Int)) && decide ((x : Int) < (n : Int))) = true := by simp; omega
  have d3 : ∀ u : V6 Bool, (Nat.ble (0 + Int.toNat (x : Int) * 6 + List.length (bcs u)) (rcell A).length && true && true) = true := fun u => by
    rw [show List.length (bcs u) = 6 from rfl, rcell_len, Bool.and_true, Bool.and_true, Nat.ble_eq]; omega
  have e0 : ∀ M : List Ins, M.length = n → Eff.mk (AV.ag (List.take 5 (List.drop (Int.toNat (x : Int) * 5) (pcell M)))) [] none = Eff.mk (AV.ag (elt M x).cs) [] none := fun M hM => by rw [Int.toNat_natCast, pcell_elt (by omega)]
  have e1 : Eff.mk (AV.c (AC.sl 4 (0 + Int.toNat (x : Int) * 6) (Int.toNat (n : Int) - Int.toNat (x : Int)) (Int.toNat (n : Int) - Int.toNat (x : Int)))) [] none = Eff.mk (AV.c (AC.sl 4 (x * 6) (n - x) (n - x))) [] none := by
    rw [Int.toNat_natCast, Int.toNat_natCast, Nat.zero_add]
  have e2 : ∀ u : V6 Bool, Eff.mk (AV.raw undef) [(4, splice (rcell A) (0 + Int.toNat (x : Int) * 6) (bcs u))] none = Eff.mk (AV.raw undef) [(4, rcell (A.set x u))] none := fun u => by rw [Nat.zero_add, Int.toNat_natCast, rcell_set u (by omega)]
  have cS := sets_ok (elt L x)
  have hI : (elt L x).op ≤ 10 → (AC.isI (Option.getD (pcell L)[Int.toNat (x : Int) * 5 + 1]? (AC.b false)) && Nat.blt (Int.toNat (x : Int) * 5 + 1) (pcell L).length) = true ∧ Eff.mk (AV.c (AC.i (AC.asI (Option.getD (pcell L)[Int.toNat (x : Int) * 5 + 1]? (AC.b false))))) [] none = Eff.mk (AV.c (AC.i (elt L x).d)) [] none := fun _ => by
    have : (pcell L)[Int.toNat (x : Int) * 5 + 1]? = some (AC.i (elt L x).d) := by
      have := pcell_elt (L := L) (k := x) (by omega)
      have h3 := congrArg (fun l => l[1]?) this
      simp only [List.getElem?_take, List.getElem?_drop] at h3
      rw [if_pos (by decide)] at h3
      rw [Int.toNat_natCast]
      exact h3
    rw [this]
    refine ⟨?_, rfl⟩
    rw [Bool.and_eq_true]
    refine ⟨rfl, ?_⟩
    rw [pcell_length, h1, Nat.blt_eq]; omega
  by_cases ho : (elt L x).op ≤ 10
  · have hB := sets_reg hr ho
    obtain ⟨g1, g2⟩ := hI ho
    cases hg : b.get (elt L x).d.toNat with
    | false =>
      have eD : deadI (elt L x) b = onI := by unfold deadI; rw [hg, decide_eq_true ho]; rfl
      rw [eD] at cA ⊢
      have hs : elt (L.set x onI) x = onI := by rw [elt_set (by omega), if_pos rfl]
      refine ⟨0, rdD_w0 (b := b) (a1 := liveA onI b) (and_yes d0 (and_yes (d1 L h1) (and_yes d2 (and_yes d0 (and_yes (d1 L h1) (and_yes (decide_eq_true ho) (and_yes d0 (and_yes g1 (and_yes hB (and_yes (be_ok b hB) (and_yes (by rw [hg]; rfl) (and_yes d0 (and_yes (by rw [d1 L h1]; rfl) (and_yes d0 (and_yes (d1 _ (by rw [List.length_set]; exact h1)) (and_yes d0 (d3 _))))))))))))))))) (e0 L h1) e1 cB (e0 L h1) cS g2 (b_eff b hB) on_ok (by rw [Int.toNat_natCast]; exact congrArg (fun l => Eff.mk (AV.raw undef) [(0, l)] none) (pcell_set (L := L) onI (by omega))) (by rw [e0 _ (by rw [List.length_set]; exact h1), hs]) cA (e2 _) (rd_low _ _ _ _) hF⟩
    | true =>
      have eD : deadI (elt L x) b = elt L x := by unfold deadI; rw [hg, if_neg (by simp)]
      rw [eD] at cA ⊢
      rw [set_self (by omega)]
      exact ⟨r, rdK_w0 (b := b) (a1 := liveA (elt L x) b) (and_yes d0 (and_yes (d1 L h1) (and_yes d2 (and_yes d0 (and_yes (d1 L h1) (and_yes (decide_eq_true ho) (and_yes d0 (and_yes g1 (and_yes hB (and_yes (be_ok b hB) (and_yes (by rw [hg]; rfl) (and_yes d0 (and_yes (d1 L h1) (and_yes d0 (d3 _))))))))))))))) (e0 L h1) e1 cB (e0 L h1) cS g2 (b_eff b hB) (e0 L h1) cA (e2 _) (rd_low _ _ _ _) hF⟩
  · have eD : deadI (elt L x) b = elt L x := by unfold deadI; rw [decide_eq_false ho, if_neg (by simp)]
    rw [eD] at cA ⊢
    rw [set_self (by omega)]
    exact ⟨r, rdN_w0 (b := b) (a1 := liveA (elt L x) b) (and_yes d0 (and_yes (d1 L h1) (and_yes d2 (and_yes d0 (and_yes (d1 L h1) (and_yes (by rw [decide_eq_false ho]; rfl) (and_yes d0 (and_yes (d1 L h1) (and_yes d0 (d3 _)))))))))) (e0 L h1) e1 cB (e0 L h1) cS (e0 L h1) cA (e2 _) (rd_low _ _ _ _) hF⟩
end Go.Proofs.Ytkigmocchaikgab

/- fold.fromBehind's closure: the numbers of n steps, from the last one to the first one, for every loop. -/
namespace Go.Proofs.Ytkigmocchaikgab
open Go.RowKit Go.Shelf

section
attribute [local go_sem] Oper.semAt_some
abbrev Upto (n : Nat) : Type := { x : Nat // x < n }
def downN (n : Nat) (h : 0 < n) (j : Nat) : Upto n := ⟨n - 1 - j, by omega⟩
def down (n : Nat) (h : 0 < n) (k : Nat) : List (Upto n) := (List.range k).map (downN n h)
theorem down_succ (n : Nat) (h : 0 < n) (k : Nat) : down n h (k + 1) = down n h k ++ [downN n h k] := by simp [down, List.range_succ]
theorem down_length (n : Nat) (h : 0 < n) (k : Nat) : (down n h k).length = k := by simp [down]
abbrev encN {n : Nat} (x : Upto n) : Array Value := #[Value.int .i64 (x.1 : Int)]
set_option maxRecDepth 100000 in
set_option maxHeartbeats 2000000 in
theorem behind_in {n : Nat} (hn : 0 < n) (h64 : n ≤ 64) (m l : Nat) (p : Addr) (hm : 1 ≤ m) (J Jx : List (Upto n) → World → Prop)
    (hY : ∀ pre x W, J pre W → pre.length < n → YieldAt Fence.wide (m - 1) Try.prog l (encN x) W fun e W' =>
      (e = .returned (.bool true) ∧ J (pre ++ [x]) W' ∧ True) ∨ (e = .returned (.bool false) ∧ Jx (pre ++ [x]) W'))
    (W : World) (hB : W.cell? p = some (.int .i64 (n : Int))) (h0 : J [] W) :
    CallsIn Fence.wide m Try.prog 121 #[.func (.yield l) #[] #[], .pointer (some p)] W fun e W' => (∃ v, e = .returned v) ∧
      ((∃ ys, ys = down n hn n ∧ J ys W') ∨ (∃ pre, True ∧ Jx pre W')) := by
  refine callsIn_of_wp Try.func121 rfl trivial ?_ rfl
  simp only [Try.ntmps121, List.size_toArray, List.length_cons, List.length_nil, Nat.reduceAdd, Nat.reduceSub, Array.replicate_succ, Array.replicate_zero, List.push_toArray, List.append_toArray, List.nil_append, List.cons_append]
  gi_wp2
  gi_loopw [3] (fun i wr => ∃ k : Nat, k ≤ n ∧ i = .int .i64 ((n : Int) - 1 - k) ∧ J (down n hn k) wr)
    (fun i _ => ((intOf i) + 1).toNat)
  case atStart => exact ⟨0, Nat.zero_le _, by simp, h0⟩
  case round =>
    obtain ⟨k, hk, rfl, hJs⟩ := hrel
    by_cases hlt : k < n
    · obtain ⟨fn, tmps, assign, body, hy, hR⟩ := hY _ (downN n hn k) wr hJs (by rw [down_length]; exact hlt)
      have e1 : ((n - 1 - k : Nat) : Int) = (n : Int) - 1 - k := by omega
      simp only [encN, downN, e1] at hy
      gi_wp2
      refine hR.mono ?_
      rintro e W3 (⟨rfl, hJ3, _⟩ | ⟨rfl, hJx3⟩)
      · gi_wp2
        go_roundw
        case rel => exact ⟨k + 1, by omega, by simp; omega, by rw [down_succ]; exact hJ3⟩
        case measure => simp [intOf]; omega
      · gi_wp2
        refine bodyPost_ret (results_none rfl _ _ _) rfl ?_
        exact ⟨⟨_, rfl⟩, .inr ⟨_, trivial, hJx3⟩⟩
    · obtain rfl : k = n := by omega
      gi_wp2
      go_end0
      exact ⟨⟨_, rfl⟩, .inl ⟨_, rfl, hJs⟩⟩
theorem behind_stops {n : Nat} (hn : 0 < n) (h64 : n ≤ 64) (m : Nat) (p : Addr) (hm : 1 ≤ m) (w : World) (hB : p.block < w.heap.size) (hc : w.cell? p = some (.int .i64 (n : Int))) :
    SeqStopsK Fence.wide m Try.prog 121 #[.pointer (some p)] (encN (n := n)) (fun _ _ => True) (fun ys => ys = down n hn n) (fun _ => True) n w := fun l J Jx W hW _ _ hY h0 =>
  behind_in hn h64 m l p hm J Jx hY W ((hW.cell (p := p) hB).trans hc) h0
end
end Go.Proofs.Ytkigmocchaikgab

/- fold.rid: how a round begins. -/
namespace Go.Proofs.Ytkigmocchaikgab
open Go.RowKit Go.Shelf

def asR (fn : Func) : Code :=
  match bodyOf fn with
  | .seq _ (.seq _ (.seq _ (.block _ (.rangeFunc _ _ c _)))) => c
  | c => c
theorem assign_in {l m : Nat} {t : Array Value} {v : Value} {W : World} {K : Act → World → Prop} (h11 : t[11]? = some v) (hK : K { tmps := t.setIfInBounds 3 v, defers := [] } W) : (asR Try.f54).wpIn (FW (some l)) m Try.prog (Exit.then K (fun _ _ _ => False)) { tmps := t, defers := [] } W := by
  have e : asR Try.f54 = Code.region 3 #[{ dst := some 3, op := .assign (.tmp 11), type := 3, pos := "dead.go:16", after := #[], guard := none }] false := by kernel_rfl
  rw [e]
  refine wpIn_region ?_
  simp [wpOpsIn, Oper.wpIn, Oper.uponIn, Region.wanted, Oper.semAt, execOp, go_sem, Act.put]
  rw [h11]
  exact hK
end Go.Proofs.Ytkigmocchaikgab

/- fold.rid. -/
namespace Go.Proofs.Ytkigmocchaikgab
open Go.RowKit Go.Shelf

/- between two rounds -/
structure RI (β : Bs) (L : List Ins) (w1 : World) (pre : List (Upto L.length)) (W : World) : Prop where
  blk : ∃ r, ∀ k e, look (rdH (runD L (pre.map (·.1))).1 (runD L (pre.map (·.1))).2 L.length r) k = some e → Blk β W k e
  fr : Fr (fun B => ∃ k, k ∈ [0, 1, 4, 5] ∧ B = (β k).1) w1 W
theorem rdH_in {L : List Ins} {A : List (V6 Bool)} {p r k : Nat} {e : Ent} (h : look (rdH L A p r) k = some e) : k ∈ [0, 1, 4, 5] := by
  rcases rdH_look h with ⟨rfl, rfl⟩ | ⟨rfl, rfl⟩ | ⟨rfl, rfl⟩ | ⟨rfl, rfl⟩ <;> decide
theorem RI.below {β : Bs} {L : List Ins} {w1 W W' : World} {pre : List (Upto L.length)} (h : RI β L w1 pre W) (hlt : ∀ k, k ∈ [0, 1, 4, 5] → (β k).1 < w1.heap.size) (hb : Below w1.heap.size W W') : RI β L w1 pre W' := by
  obtain ⟨r, hr⟩ := h.blk
  refine ⟨⟨r, fun k e he => (hr k e he).congr rfl hb.size (hb.block _ (hlt k (rdH_in he))) fun _ _ _ _ => rfl⟩, ⟨hb.os.trans h.fr.os, hb.tape.trans h.fr.tape, hb.output.trans h.fr.output, Nat.le_trans h.fr.size hb.size, fun k hk hx => (hb.block k hk).trans (h.fr.block k hk hx)⟩⟩
theorem rdT_look {β : Bs} {a : Act} {x t : Nat} {v : AV} (h1 : a.tmps[1]? = some ((AV.c (AC.w 1)).g β)) (h2 : a.tmps[2]? = some ((AV.c (AC.w 5)).g β)) (h3 : a.tmps[3]? = some (.int .i64 (x : Int))) (h : look [(1, AV.c (.w 1)), (2, .c (.w 5)), (3, .c (.i (x : Int)))] t = some v) : a.tmps[t]? = some (v.g β) := by
  rw [look_cons] at h
  split at h
  · rename_i hk; injection h with h; subst h; rw [hk]; exact h1
  · rw [look_cons] at h
    split at h
    · rename_i hk; injection h with h; subst h; rw [hk]; exact h2
    · rw [look_cons] at h
      split at h
      · rename_i hk; injection h with h; subst h; rw [hk]; exact h3
      · cases h
theorem RI.round {β : Bs} {L : List Ins} (hP : RightP L) {w1 : World} {pre : List (Upto L.length)} {x : Upto L.length} {W : World} (h : RI β L w1 pre W) {a : Act} (hsz : a.tmps.size = Try.f54.ntmps) (hd : a.defers = []) (h1 : a.tmps[1]? = some ((AV.c (AC.w 1)).g β)) (h2 : a.tmps[2]? = some ((AV.c (AC.w 5)).g β)) (h3 : a.tmps[3]? = some (.int .i64 (x.1 : Int)))
    (hlt : ∀ k, k ∈ [0, 1, 4, 5] → (β k).1 < w1.heap.size) (hinj : ∀ i j, i ∈ [0, 1, 4, 5] → j ∈ [0, 1, 4, 5] → i ≠ j → (β i).1 ≠ (β j).1) (l m : Nat) :
    (bodyR Try.f54).wpIn (FW (some l)) m Try.prog (ownPostG w1.heap.size (fun _ _ => True) (RI β L w1) (fun _ _ _ => False) (pre ++ [x]) W) a W := by
  obtain ⟨r, hr⟩ := h.blk
  have hs := runD_ok hP (pre.map (·.1)) (fun y hy => by obtain ⟨z, _, rfl⟩ := List.mem_map.1 hy; exact z.2)
  obtain ⟨r', hp⟩ := round_in (r := r) hs hP.le x.2 (C := cx W β 10 [0, 1, 4, 5]) (fun k hk => hk)
  unfold PartIn at hp
  simp only at hp
  have hrel : Rel (cx W β 10 [0, 1, 4, 5]) Try.f54.ntmps β (fun k => k < 10) (rdKn (runD L (pre.map (·.1))).1 (runD L (pre.map (·.1))).2 L.length r x.1) a W :=
    ⟨hsz, hd, fun t v hv => ⟨rdT_look h1 h2 h3 hv, low_t rfl t v hv⟩, fun k e he => ⟨(rdH_low he).1, hr k e he, (rdH_low he).2, fun _ => Or.inr ⟨k, rdH_in he, rfl⟩⟩, fun k e k' e' he he' hne _ _ _ => hinj k k' (rdH_in he) (rdH_in he') hne, Fr.refl _ _, fun k hk => ⟨hk, rfl⟩⟩
  refine wpIn_mono (hp (some l) m β a W hrel) fun e a' W' hl => ?_
  obtain ⟨rfl, β', h'⟩ := hl
  have hfix : ∀ k, k < 10 → β' k = β k := fun k hk => (h'.fix k hk).2
  refine ⟨⟨h'.frame.size, fun k o hB hk _ => ?_⟩, trivial, ⟨⟨r', fun k e he => ?_⟩, h.fr.trans h'.frame⟩⟩
  · refine (h'.frame.block k (Array.getElem?_eq_some_iff.1 hk).1 ?_).trans hk
    rintro ⟨j, hj, rfl⟩
    have := hlt j hj
    omega
  · rw [List.map_append, List.map_cons, List.map_nil, runD_snoc] at he
    exact (h'.blk k e he).2.1.congr (hfix k (rdH_low he).1).symm (Nat.le_refl _) rfl fun c hc j hj => (hfix j ((rdH_low he).2 c hc j hj)).symm
theorem rid_ok {L : List Ins} (hP : RightP L) : CallOK Try.prog ⟨54, [.c (.sx 0 L.length)], [(0, ⟨true, pcell L, 5⟩)], ⟨.tu [], [(0, pcell (ridR L).1)], none⟩⟩ := by
  have hpos := hP.pos
  have hle := hP.le
  refine ⟨⟨fun k hk => (nomatch hk), fun k cs hm c hc j hj => ?_, fun _ _ h => (nomatch h)⟩, fun k cs hm => ?_, fun β w hB hI => ?_⟩
  · have := List.mem_singleton.1 hm; injection this with _ h2; subst h2
    exact (nk_of (pcell_ks _) hc hj).elim
  · have := List.mem_singleton.1 hm; injection this with h1 _; subst h1
    exact ⟨⟨true, pcell L, 5⟩, rfl, rfl, pcell_ne hpos⟩
  have hrel := rel_start (N := Try.f54.ntmps) (args := [.c (.sx 0 L.length)]) (begin_one (b := true) (r := 5) (cs := pcell L) rfl (pcell_ks L)) (Nat.le_of_ble_eq_true rfl) hB hI (fun B => ∃ k, k ∈ [0] ∧ B = (β k).1) (fun k e he _ => by obtain ⟨rfl, _⟩ := one_look he; exact ⟨0, by simp, rfl⟩)
  refine (callsIn_wide (n := 4)).1 (callsIn_of_wp_marks (c := bodyOf Try.f54) Try.func54 rfl trivial ?_ rfl)
  have hb : bodyOf Try.f54 = .seq (match headR Try.f54 with | .seq x _ => x | c => c) (.seq (match headR Try.f54 with | .seq _ (.seq y _) => y | c => c) (.seq (match headR Try.f54 with | .seq _ (.seq _ z) => z | c => c) (.block 0 (.rangeFunc (.tmp 10) #[11] (asR Try.f54) (bodyR Try.f54))))) := by kernel_rfl
  rw [hb]
  have cF : CallOK Try.prog ⟨87, [.c (.i (L.length : Int))], [], ⟨.c (.f 121 [9]), [], some (9, ⟨true, [.i (L.length : Int)], 0⟩)⟩⟩ :=
    ((fromBehind_ok (L.length : Int)).ren (swp 0 9) (swp_inj 0 9)).congr rfl
  have hlow : Kn.Low ⟨[(1, AV.c (AC.w 1)), (2, AV.c (AC.w 5)), (10, AV.c (AC.f 121 [9]))], [(0, Ent.mk true (pcell L) 5), (1, Ent.mk true [AC.sx 0 L.length] 0), (4, Ent.mk true (rcell (List.replicate L.length no6)) 0), (5, Ent.mk true [AC.sl 4 0 L.length L.length] 0), (9, Ent.mk true [AC.i (L.length : Int)] 0)], 10⟩ := by
    refine ⟨low_t rfl, fun k e he => ?_⟩
    by_cases h9 : k = 9
    · subst h9
      injection he with he; subst he
      refine ⟨show 9 < 10 by decide, fun c hc j hj => ?_⟩
      rw [List.mem_singleton.1 hc] at hj; cases hj
    · refine rdH_low (L := L) (A := List.replicate L.length no6) (p := L.length) (r := 5) (e := e) ?_
      simp only [look_cons] at he ⊢
      rw [if_neg h9] at he
      exact he
  have hhead := rdTop_w0 (L := L) (p := L.length) (C := cx w β 1 [0]) (by simp; omega) (by rw [Int.toNat_natCast, ← rcell_rows]; rfl) cF hlow (fun k hk => Nat.lt_of_lt_of_le hk (by decide))
  refine hhead none 4 _ _ (fun β1 a w1 hr1 => ?_) β _ w hrel
  have lift : ∀ {k : Nat} {e : Ent}, look (rdH L (List.replicate L.length no6) L.length 5) k = some e → look [(0, Ent.mk true (pcell L) 5), (1, Ent.mk true [AC.sx 0 L.length] 0), (4, Ent.mk true (rcell (List.replicate L.length no6)) 0), (5, Ent.mk true [AC.sl 4 0 L.length L.length] 0), (9, Ent.mk true [AC.i (L.length : Int)] 0)] k = some e := fun {k e} he => by
    rcases rdH_look he with ⟨rfl, rfl⟩ | ⟨rfl, rfl⟩ | ⟨rfl, rfl⟩ | ⟨rfl, rfl⟩ <;> rfl
  have cne : ∀ {k : Nat} {e : Ent}, look (rdH L (List.replicate L.length no6) L.length 5) k = some e → e.cells ≠ [] := fun {k e} he => by
    rcases rdH_look he with ⟨rfl, rfl⟩ | ⟨rfl, rfl⟩ | ⟨rfl, rfl⟩ | ⟨rfl, rfl⟩
    · exact pcell_ne hpos
    · exact List.cons_ne_nil _ _
    · intro h0
      have := congrArg List.length h0
      simp only [rcell_len, List.length_replicate, List.length_nil] at this
      omega
    · exact List.cons_ne_nil _ _
  have hk : ∀ k e, look (rdH L (List.replicate L.length no6) L.length 5) k = some e → Blk β1 w1 k e ∧ (w.heap.size ≤ (β1 k).1 ∨ (β1 k).1 = (β 0).1) := fun k e he => by
    have hx := hr1.blk k e (lift he)
    refine ⟨hx.2.1, ?_⟩
    rcases hx.2.2.2 (by rcases rdH_look he with ⟨rfl, rfl⟩ | ⟨rfl, rfl⟩ | ⟨rfl, rfl⟩ | ⟨rfl, rfl⟩ <;> rfl) with h | ⟨j, hj, h⟩
    · exact Or.inl h
    · rw [List.mem_singleton.1 hj] at h; exact Or.inr h
  have hkk : ∀ k, k ∈ [0, 1, 4, 5] → ∃ e, look (rdH L (List.replicate L.length no6) L.length 5) k = some e := fun k hk => by
    simp only [List.mem_cons, List.not_mem_nil, or_false] at hk
    rcases hk with rfl | rfl | rfl | rfl <;> exact ⟨_, rfl⟩
  have hlt : ∀ k, k ∈ [0, 1, 4, 5] → (β1 k).1 < w1.heap.size := fun k h => by
    obtain ⟨e, he⟩ := hkk k h
    exact (hk k e he).1.lt
  have hinj : ∀ i j, i ∈ [0, 1, 4, 5] → j ∈ [0, 1, 4, 5] → i ≠ j → (β1 i).1 ≠ (β1 j).1 := fun i j hi hj hne => by
    obtain ⟨e, he⟩ := hkk i hi
    obtain ⟨e', he'⟩ := hkk j hj
    refine hr1.inj i e j e' (lift he) (lift he') hne ?_ (cne he) (cne he')
    rcases rdH_look he with ⟨rfl, rfl⟩ | ⟨rfl, rfl⟩ | ⟨rfl, rfl⟩ | ⟨rfl, rfl⟩ <;> rfl
  have h9 := hr1.blk 9 _ rfl
  have t1 := (hr1.tmp 1 _ rfl).1
  have t2 := (hr1.tmp 2 _ rfl).1
  have h48 : a.tmps.size = 48 := hr1.size
  refine wpIn_block (wpIn_rangeFunc_ownG (F := Fence.wide) (n := 4) (α := Upto L.length) rfl (by decide) (gf := 121) (lb := #[.pointer (some (ptr β1 9 0))]) ((hr1.ev (x := .tmp 10) rfl).1) trivial (enters_of Try.func121 (by kernel_rfl) rfl) (behind_stops hpos hle 3 (ptr β1 9 0) (by decide) w1 h9.2.1.lt (h9.2.1.cell 0 _ rfl)) (fun _ _ => trivial) (fun _ _ _ _ _ _ _ _ => trivial) (Below.refl _ _) (fun _ => rfl) (RI β1 L w1) (fun _ _ _ => False) ?own (fun _ _ _ _ _ h _ _ => h) ?h0 (fun x => ⟨(a.tmps.setIfInBounds 11 (.int .i64 (x.1 : Int))).setIfInBounds 3 (.int .i64 (x.1 : Int)), []⟩) ?assign ?body ?done ?stop)
  case own => exact fun s W W' row hs hg hr => hs.below hlt ((Below.refl _ W).grown hg hs.fr.size (fun k e => (hr k e).1))
  case h0 => exact ⟨⟨5, fun k e he => (hk k e he).1⟩, Fr.refl _ _⟩
  case assign =>
    intro l x W K hK
    have e : Array.foldl (fun t (x : Tmp × Value) => match x with | (p, v) => t.setIfInBounds p v) a.tmps (#[11].zip (encN x)) = a.tmps.setIfInBounds 11 (.int .i64 (x.1 : Int)) := by simp [encN]
    have := assign_in (l := l) (m := 2) (t := a.tmps.setIfInBounds 11 (.int .i64 (x.1 : Int))) (v := .int .i64 (x.1 : Int)) (W := W) (K := K) (by simp [h48]) hK
    rw [← e] at this
    exact this
  case body =>
    intro l pre x W hI hlen
    refine RI.round hP hI ?_ rfl ?_ ?_ ?_ hlt hinj l 2
    · simp [h48]
    · simp; exact t1
    · simp; exact t2
    · simp [h48]
  case done =>
    rintro D xs W hD rfl hI hK
    show LeavesInM Fence.wide 4 Try.prog Try.f54 a.tmps _ (_ :: a.defers) .returning W
    rw [hr1.defers]
    refine ⟨by simp, .inl ⟨_, _, rfl, run_takeDeferred hK, ?_⟩⟩
    refine ⟨_, results_none rfl _ _ _, ?_⟩
    have hw1 := hr1.frame.size
    have hW := hI.fr.size
    have hne : ∀ k, k < w1.heap.size → (W.putObj D (.deferred none)).heap[k]? = W.heap[k]? := fun k hk => World.putObj_heap_other (by omega)
    have hps : (W.putObj D (.deferred none)).heap.size = W.heap.size := by simp [World.putObj]
    have b0 : β1 0 = β 0 := (hr1.fix 0 (show 0 < 1 by decide)).2
    refine ⟨β, rfl, ⟨hI.fr.os.trans hr1.frame.os, hI.fr.tape.trans hr1.frame.tape, hI.fr.output.trans hr1.frame.output, by rw [hps]; exact Nat.le_trans hw1 hW, fun k hkw hx => ?_⟩, fun k cs hm => ?_, rfl⟩
    · have hx0 : ¬ k = (β 0).1 := fun e => hx ⟨0, _, List.mem_singleton.2 rfl, e⟩
      refine (hne k (Nat.lt_of_lt_of_le hkw hw1)).trans ((hI.fr.block k (Nat.lt_of_lt_of_le hkw hw1) ?_).trans (hr1.frame.block k hkw ?_))
      · rintro ⟨j, hj, rfl⟩
        obtain ⟨e, he⟩ := hkk j hj
        rcases (hk j e he).2 with h | h
        · change w.heap.size ≤ _ at h
          exact absurd hkw (by change ¬ _ < w.heap.size; omega)
        · exact hx0 h
      · rintro ⟨j, hj, rfl⟩
        rw [List.mem_singleton.1 hj] at hx0
        exact hx0 rfl
    · have := List.mem_singleton.1 hm
      injection this with h1 h2
      subst h1 h2
      obtain ⟨r, hr⟩ := hI.blk
      have hb := hr 0 _ rfl
      have hm : (down L.length hpos L.length).map (·.1) = (List.range L.length).map fun j => L.length - 1 - j := by
        unfold down
        rw [List.map_map]; rfl
      rw [hm, runD_all] at hb
      have hb' := hb.congr (β' := β) (w' := W.putObj D (.deferred none)) b0.symm (by rw [hps]; exact Nat.le_refl _) (hne _ (hlt 0 (by decide))) fun c hc j hj => (nk_of (pcell_ks _) hc hj).elim
      exact ⟨hb'.lt, hb'.cell, hb'.free, fun h => absurd rfl h⟩
  case stop =>
    rintro D c pre W _ _ h _
    exact h.elim
end Go.Proofs.Ytkigmocchaikgab

/- Ways of bodies, written by a program (ways.py): what each asks for, and hands back. -/
namespace Go.Proofs.Ytkigmocchaikgab
open Go.RowKit

end Go.Proofs.Ytkigmocchaikgab

/- The law VerifySound, as a contract. -/
namespace Go.Proofs.Ytkigmocchaikgab
open Go.RowKit

theorem outc_3 {r : Outc} (h : r.fin = 3) : r = ⟨3, r.t, r.n, r.ret, r.mem⟩ := by cases r; simp_all
end Go.Proofs.Ytkigmocchaikgab

/- change, Fold, Dead; foldBegun; the law FoldSame, as a contract. -/
namespace Go.Proofs.Ytkigmocchaikgab
open Go.RowKit

def foldE (K n : Nat) (L : List Ins) : Eff := ⟨.tu [.c (.sx K n), .c (.i 0)], [], some (K, ⟨true, pcell L, 0⟩)⟩
theorem foldE_ren (ρ : Nat → Nat) (K n : Nat) (L : List Ins) : (foldE K n L).ren ρ = foldE (ρ K) n L := by
  unfold foldE Eff.ren
  simp only [Option.map_some, Ent.ren, ren_nk ρ (pcell_ks L)]
  rfl
theorem clone_14 {L : List Ins} {c : Nat} (hP : RightP L) : CallOK Try.prog ⟨83, [.c (.sl 0 0 L.length c)], pH L, ⟨.c (.sx 14 L.length), [], some (14, ⟨true, pcell L, 5⟩)⟩⟩ := by
  refine ((cloneI_ok (c := c) hP.pos hP.le).ren (swp 6 14) (swp_inj 6 14)).congr ?_
  unfold CallRec.ren Eff.ren renH
  simp only [List.map_cons, List.map_nil, Option.map_some, Ent.ren, ren_nk _ (pcell_ks _)]
  rfl
theorem two_to {f n : Nat} {L M : List Ins} {S : List St} (h : CallOK Try.prog ⟨f, [.c (.sx 0 n), .c (.sl 1 0 n n)], [(0, ⟨true, pcell L, 5⟩), (1, ⟨false, scell S, 0⟩)], ⟨.tu [], [(0, pcell M)], none⟩⟩) :
    CallOK Try.prog ⟨f, [.c (.sx 14 n), .c (.sl 4 0 n n)], [(14, ⟨true, pcell L, 5⟩), (4, ⟨true, scell S, 0⟩)], ⟨.tu [], [(14, pcell M)], none⟩⟩ := by
  refine CallOK.more (H := [(14, ⟨true, pcell L, 5⟩), (4, ⟨false, scell S, 0⟩)]) ?_ ⟨fun j en hj => ?_⟩
  · refine ((h.ren (swp 1 4) (swp_inj 1 4)).ren (swp 0 14) (swp_inj 0 14)).congr ?_
    unfold CallRec.ren Eff.ren renH
    simp only [List.map_cons, List.map_nil, Option.map_none, Ent.ren, ren_nk _ (pcell_ks _), ren_nk _ (scell_ks _)]
    rfl
  · rw [look_cons] at hj
    split at hj
    · rename_i hk; injection hj with hj; subst hj hk
      exact ⟨⟨true, pcell L, 5⟩, rfl, rfl, fun h => h, Or.inr rfl⟩
    · obtain ⟨rfl, rfl⟩ := one_look hj
      exact ⟨⟨true, scell S, 0⟩, rfl, rfl, fun h => (by cases h), Or.inl rfl⟩
theorem dead1_ok {L : List Ins} {S : List St} (hP : RightP L) : CallOK Try.prog ⟨53, [.c (.sx 0 L.length), .c (.sl 1 0 L.length L.length)], [(0, ⟨true, pcell L, 5⟩), (1, ⟨false, scell S, 0⟩)], ⟨.tu [], [(0, pcell (ridR L).1)], none⟩⟩ :=
  wr2_of Try.func53 rfl rfl rfl (pcell_ks L) (scell_ks S) (pcell_ne hP.pos) rfl (pcell_ks _) fun _ _ hk => d1_w0 (rid_ok hP) hk
theorem changeF_ok {L : List Ins} {c : Nat} (hL : codeErr L = 0) (h0 : (verifyS L).trap = 0) : CallOK Try.prog ⟨50, [.c (.sl 0 0 L.length c), .c (.f 51 [])], pH L, foldE 14 L.length (foldS L)⟩ := by
  have hP := codeErr_zero hL
  have hout := verify_out hP
  have e : foldS L = foldL (verifyS L).sts L 0 := by unfold foldS; rw [if_pos h0]
  rw [e]
  exact rnew_of Try.func50 rfl rfl rfl (pcell_ks L) (by decide) rfl (pcell_ks _) fun _ _ hk => chFOk_w0 (verify_okK hL h0 (by decide)) (clone_14 hP) (two_to (fold1_ok hP (hout.none h0).2 hout.ok)) hk
theorem changeD_ok {L : List Ins} {c : Nat} (hL : codeErr L = 0) (h0 : (verifyS L).trap = 0) : CallOK Try.prog ⟨50, [.c (.sl 0 0 L.length c), .c (.f 53 [])], pH L, foldE 14 L.length (deadS L)⟩ := by
  have hP := codeErr_zero hL
  have e : deadS L = (ridR L).1 := by unfold deadS; rw [if_pos h0]
  rw [e]
  exact rnew_of Try.func50 rfl rfl rfl (pcell_ks L) (by decide) rfl (pcell_ks _) fun _ _ hk => chDOk_w0 (verify_okK hL h0 (by decide)) (clone_14 hP) (two_to (dead1_ok hP)) hk
theorem toK {f a : Nat} {L M : List Ins} {n c : Nat} (h : CallOK Try.prog ⟨f, [.c (.sl 0 0 n c)], pH L, foldE a n M⟩) (ha : a ≠ 0) {K : Nat} (hK : K ≠ 0) : CallOK Try.prog ⟨f, [.c (.sl 0 0 n c)], pH L, foldE K n M⟩ := by
  have h2 := h.ren (swp a K) (swp_inj a K)
  have e0 : swp a K 0 = 0 := swp_other (Ne.symm ha) (Ne.symm hK)
  unfold CallRec.ren at h2
  simp only [foldE_ren, swp_fst, pH_ren e0] at h2
  refine h2.congr ?_
  show CallRec.mk _ [AV.c (AC.sl 0 0 n c)] _ _ = CallRec.mk _ [AV.c (AC.sl (swp a K 0) 0 n c)] _ _
  rw [e0]
theorem toK2 {f g a : Nat} {L M : List Ins} {n c : Nat} (h : CallOK Try.prog ⟨f, [.c (.sl 0 0 n c), .c (.f g [])], pH L, foldE a n M⟩) (ha : a ≠ 0) {K : Nat} (hK : K ≠ 0) : CallOK Try.prog ⟨f, [.c (.sl 0 0 n c), .c (.f g [])], pH L, foldE K n M⟩ := by
  have h2 := h.ren (swp a K) (swp_inj a K)
  have e0 : swp a K 0 = 0 := swp_other (Ne.symm ha) (Ne.symm hK)
  unfold CallRec.ren at h2
  simp only [foldE_ren, swp_fst, pH_ren e0] at h2
  refine h2.congr ?_
  show CallRec.mk _ [AV.c (AC.sl 0 0 n c), AV.c (AC.f g [])] _ _ = CallRec.mk _ [AV.c (AC.sl (swp a K 0) 0 n c), AV.c (AC.f g [])] _ _
  rw [e0]
theorem fold_ok {L : List Ins} {c : Nat} (hL : codeErr L = 0) (h0 : (verifyS L).trap = 0) {K : Nat} (hK : K ≠ 0) : CallOK Try.prog ⟨26, [.c (.sl 0 0 L.length c)], pH L, foldE K L.length (foldS L)⟩ :=
  toK (a := 4) (rnew_of Try.func26 rfl rfl rfl (pcell_ks L) (by decide) rfl (pcell_ks _) fun _ _ hk => foF_w0 (toK2 (changeF_ok hL h0) (by decide) (by decide)) hk) (by decide) hK
theorem dead_ok {L : List Ins} {c : Nat} (hL : codeErr L = 0) (h0 : (verifyS L).trap = 0) {K : Nat} (hK : K ≠ 0) : CallOK Try.prog ⟨27, [.c (.sl 0 0 L.length c)], pH L, foldE K L.length (deadS L)⟩ :=
  toK (a := 4) (rnew_of Try.func27 rfl rfl rfl (pcell_ks L) (by decide) rfl (pcell_ks _) fun _ _ hk => foD_w0 (toK2 (changeD_ok hL h0) (by decide) (by decide)) hk) (by decide) hK
theorem folding_ok (K : Nat) : CallOK Try.prog ⟨49, [], [], ⟨.c (.sl K 0 6 6), [], some (K, ⟨true, pcell fL, 0⟩)⟩⟩ := by
  have key : CallOK Try.prog ⟨49, [], [], ⟨.c (.sl 7 0 6 6), [], some (7, ⟨true, pcell fL, 0⟩)⟩⟩ :=
    new_of Try.func49 rfl rfl rfl rfl rfl fun w β hk => folding_w0 hk
  refine (key.ren (swp 7 K) (swp_inj 7 K)).congr ?_
  unfold CallRec.ren Eff.ren renH
  simp only [List.map_nil, Option.map_some, Ent.ren, ren_nk _ (pcell_ks _), swp_fst]
  show _ = CallRec.mk _ _ _ (Eff.mk (.c (.sl (swp 7 K 7) 0 6 6)) _ _)
  rw [swp_fst]
theorem fL_trap : (verifyS fL).trap = 0 := by kernel_rfl
theorem fL_fold : foldS fL = fF := by kernel_rfl
theorem fF_dead : deadS fF = fD := by kernel_rfl
theorem foldBegun_ok : Ok 25 [] (.c (.b true)) := by
  have hL : codeErr fL = 0 := by kernel_rfl
  have hF : codeErr fF = 0 := by kernel_rfl
  have h1 := fold_same (codeErr_zero hL) fL_trap
  rw [fL_fold] at h1
  have r1 : CallOK Try.prog ⟨26, [.c (.sl 1 0 6 6)], [(1, ⟨true, pcell fL, 0⟩)], foldE 2 6 fF⟩ := by
    have := fold_ok (L := fL) (c := 6) hL fL_trap (K := 2) (by decide)
    rw [fL_fold] at this
    exact p_to this 1 true rfl (by rw [foldE_ren]; rfl)
  have r2 : CallOK Try.prog ⟨27, [.c (.sx 2 6)], [(2, ⟨true, pcell fF, 0⟩)], foldE 9 6 fD⟩ := by
    refine CallOK.of_cap (xs := []) (bs := []) fun c => ?_
    have := dead_ok (L := fF) (c := c) hF h1.trap (K := 9) (by decide)
    rw [fF_dead] at this
    exact p_to this 2 true rfl (by rw [foldE_ren]; rfl)
  exact fBegun_w0 (folding_ok 1) r1 r2
end Go.Proofs.Ytkigmocchaikgab

/- The law FoldSame, as a contract. -/
namespace Go.Proofs.Ytkigmocchaikgab
open Go.RowKit

theorem oC_cons {a : AC} {l : List AC} (h : eqC a a = true) (k : eqCs l l = true) : eqCs (a :: l) (a :: l) = true := by rw [eqCs, h, k]; rfl
theorem oC_i (x : Int) : eqC (.i x) (.i x) = true := by simp [eqC]
theorem oC_u (x : BitVec 64) : eqC (.u x) (.u x) = true := by simp [eqC, eqb]
theorem oC_s (x : ByteArray) : eqC (.s x) (.s x) = true := by simp [eqC]
theorem oCs (r : Outc) : eqCs r.cs r.cs = true := oC_cons (oC_i _) (oC_cons (oC_i _) (oC_cons (oC_i _) (oC_cons (oC_u _) (oC_cons (oC_s _) rfl))))
theorem sx_read {f n K : Nat} {L : List Ins} {bs : List AV} {v : AV} (h : ∀ c, CallOK Try.prog ⟨f, .c (.sl 0 0 n c) :: bs, pH L, ⟨v, [], none⟩⟩) (hb : bs.map (AV.ren (swp 0 K)) = bs) (hv : v.ren (swp 0 K) = v) : CallOK Try.prog ⟨f, .c (.sx K n) :: bs, [(K, ⟨true, pcell L, 0⟩)], ⟨v, [], none⟩⟩ :=
  CallOK.of_cap (xs := []) fun c => p_to (h c) K true (by rw [List.map_cons, hb]; rfl) (by show Eff.mk (v.ren _) _ _ = _; rw [hv]; rfl)
theorem sx_fold {f n K K' : Nat} {L M : List Ins} (h : ∀ c, CallOK Try.prog ⟨f, [.c (.sl 0 0 n c)], pH L, foldE K' n M⟩) (h0 : K' ≠ 0) (hK : K' ≠ K) : CallOK Try.prog ⟨f, [.c (.sx K n)], [(K, ⟨true, pcell L, 0⟩)], foldE K' n M⟩ :=
  CallOK.of_cap (xs := []) (bs := []) fun c => p_to (h c) K true rfl (by rw [foldE_ren, swp_other h0 hK])
theorem sx_ver {n K K' : Nat} {L : List Ins} {S : List St} (h : ∀ c, CallOK Try.prog ⟨23, [.c (.sl 0 0 n c)], pH L, okE K' n S⟩) (h0 : K' ≠ 0) (hK : K' ≠ K) : CallOK Try.prog ⟨23, [.c (.sx K n)], [(K, ⟨true, pcell L, 0⟩)], okE K' n S⟩ :=
  CallOK.of_cap (xs := []) (bs := []) fun c => p_to (h c) K true rfl (by rw [okE_ren, swp_other h0 hK])
theorem foldS_len (L : List Ins) : (foldS L).length = L.length := by
  unfold foldS
  split
  · exact (foldL_at _ _ _).1
  · rfl
theorem deadS_len (L : List Ins) : (deadS L).length = L.length := by
  unfold deadS
  split
  · exact (ridR_at _).1
  · rfl
theorem run_same {L M : List Ins} {c : Nat} {s : ByteArray} {x : BitVec 64} (h : Same L M) (hl : M.length = L.length) (hs : s.size = 64) : CallOK Try.prog ⟨9, [.c (.sl 0 0 L.length c), .c (.s s), .c (.u x)], pH M, ⟨.tu [.ag (runOut L s x).cs, .c (.i 0)], [], none⟩⟩ := by
  have hr := run_ok M c s x
  have hM := codeErr_of h.right
  have hE : runErr M s = 0 := by unfold runErr; rw [if_neg (by simpa using hM), if_neg (by simpa using hs)]
  unfold runRes at hr
  rwa [hE, if_neg (by decide), h.run s x hs, hl] at hr
theorem foldSame_ok (L : List Ins) (c : Nat) (s : ByteArray) (x : BitVec 64) : CallOK Try.prog ⟨8, [.c (.sl 0 0 L.length c), .c (.s s), .c (.u x)], pH L, ⟨.c (.b true), [], none⟩⟩ := by
  refine read_of Try.func8 rfl rfl (begin_p rfl) rfl ro_p fun w β => ?_
  have hb := foldBegun_ok
  have hr := run_ok L c s x
  by_cases hL : codeErr L = 0
  · have hP := codeErr_zero hL
    by_cases hs : s.size = 64
    · have hE : runErr L s = 0 := by unfold runErr; rw [if_neg (by simpa using hL), if_neg (by simpa using hs)]
      unfold runRes at hr
      rw [hE, if_neg (by decide)] at hr
      by_cases h0 : (verifyS L).trap = 0
      · have hv := verify_okK (c := c) hL h0 (K := 3) (by decide)
        obtain ⟨h3, _⟩ := runOut_stops hP h0 hs x
        have sF := fold_same hP h0
        have sD := rid_same hP h0
        have sB := both_same hP h0
        have lF := foldS_len L
        have lD := deadS_len L
        have lB := (deadS_len (foldS L)).trans lF
        have eF := codeErr_of sF.right
        have eD := codeErr_of sD.right
        have c3 : CallOK Try.prog ⟨27, [.c (.sx 32 L.length)], [(32, ⟨true, pcell (foldS L), 0⟩)], foldE 39 L.length (deadS (foldS L))⟩ :=
          sx_fold (fun c => by have := dead_ok (c := c) eF sF.trap (K := 39) (by decide); rwa [lF] at this) (by decide) (by decide)
        have r1 : ∀ M, Same L M → M.length = L.length → ∀ K, CallOK Try.prog ⟨9, [.c (.sx K L.length), .c (.s s), .c (.u x)], [(K, ⟨true, pcell M, 0⟩)], ⟨.tu [.ag (runOut L s x).cs, .c (.i 0)], [], none⟩⟩ :=
          fun M hM hl K => sx_read (bs := [.c (.s s), .c (.u x)]) (fun c => run_same hM hl hs) rfl rfl
        have c8 : CallOK Try.prog ⟨23, [.c (.sx 32 L.length)], [(32, ⟨true, pcell (foldS L), 0⟩)], okE 83 L.length (verifyS (foldS L)).sts⟩ :=
          sx_ver (fun c => by have := verify_okK (c := c) eF sF.trap (K := 83) (by decide); rwa [lF] at this) (by decide) (by decide)
        have c9 : CallOK Try.prog ⟨23, [.c (.sx 46 L.length)], [(46, ⟨true, pcell (deadS L), 0⟩)], okE 91 L.length (verifyS (deadS L)).sts⟩ :=
          sx_ver (fun c => by have := verify_okK (c := c) eD sD.trap (K := 91) (by decide); rwa [lD] at this) (by decide) (by decide)
        have c5 := r1 _ sF lF 32
        have c6 := r1 _ sB lB 39
        have c7 := r1 _ sD lD 46
        rw [outc_3 h3] at hr c5 c6 c7
        have hq := oCs
        refine art_eq (fsOk_w0 (and_yes (hq _) (and_yes (hq _) rfl)) hv hr (fold_ok hL h0 (by decide)) c3 (dead_ok hL h0 (by decide)) c5 c6 c7 c8 c9 hb) ?_
        rw [hq]
      · have hv := verify_trK (c := c) hL h0 (K := 3) (by decide)
        exact fsTr_w0 (and_yes (by simpa using h0) rfl) hv hr hb
    · have hE : runErr L s = 1 := by unfold runErr; rw [if_neg (by simpa using hL), if_pos hs]
      rw [hE] at hr
      by_cases h0 : (verifyS L).trap = 0
      · exact fsOkF_w0 rfl (verify_okK (c := c) hL h0 (K := 3) (by decide)) hr hb
      · exact fsTrF_w0 rfl (verify_trK (c := c) hL h0 (K := 3) (by decide)) hr hb
  · exact fsErr_w0 (and_yes (by simpa using hL) rfl) (verify_err hL) hr hb
theorem foldSame_nil (s : ByteArray) (x : BitVec 64) : Ok 8 [.c nilSl, .c (.s s), .c (.u x)] (.c (.b true)) :=
  fsNil_w0 rfl verify_nil (run_nil s x) foldBegun_ok
end Go.Proofs.Ytkigmocchaikgab
