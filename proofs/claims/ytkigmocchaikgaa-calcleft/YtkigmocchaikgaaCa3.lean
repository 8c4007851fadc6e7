import Derived.Test.YtkigmocchaikgaaCa2
import Derived.Laws.MathBits
import Derived.Laws.StructEq
import Derived.Deep.RegionWith
import Derived.Deep.CutBlock
import Derived.Deep.DeepCutAuto
/- That the reference's answers, put together bit by bit, are package bits' own: plain facts. -/
namespace Go.Proofs.Ytkigmocchaikgaa

theorem rightP {av am bv bm : BitVec 64} (hr : (eqb (band av am) zero && eqb (band bv bm) zero) = true) : (∀ j, (bit av j && bit am j) = false) ∧ (∀ j, (bit bv j && bit bm j) = false) := by
  rw [Bool.and_eq_true] at hr
  exact ⟨(right_iff _ _).1 hr.1, (right_iff _ _).1 hr.2⟩

theorem meet_eq {av am bv bm : BitVec 64} (hr : (eqb (band av am) zero && eqb (band bv bm) zero) = true) (hm : eqb (bandn (bxor av bv) (bor am bm)) zero = true) :
    (∀ j, j < 64 → meetOk av am bv bm j = true) ∧ meetV av am bv bm 64 = bor av bv ∧ meetM av am bv bm 64 = band am bm := by
  obtain ⟨ha, hb⟩ := rightP hr
  rw [eqb_zero_iff] at hm
  refine ⟨?_, ?_, ?_⟩
  · intro j hj
    have h1 := ha j; have h2 := hb j; have h3 := hm j hj
    rw [bit_andn _ _ _ hj, bit_xor, bit_or] at h3
    simp only [meetOk, mo, mz]
    revert h1 h2 h3
    cases bit av j <;> cases bit am j <;> cases bit bv j <;> cases bit bm j <;> simp
  · apply acc_eq; intro j hj
    have h1 := ha j; have h2 := hb j; have h3 := hm j hj
    rw [bit_andn _ _ _ hj, bit_xor, bit_or] at h3
    simp only [mo, mz, bit_or]
    revert h1 h2 h3
    cases bit av j <;> cases bit am j <;> cases bit bv j <;> cases bit bm j <;> simp
  · apply acc_eq; intro j hj
    have h1 := ha j; have h2 := hb j; have h3 := hm j hj
    rw [bit_andn _ _ _ hj, bit_xor, bit_or] at h3
    simp only [mo, mz, bit_and']
    revert h1 h2 h3
    cases bit av j <;> cases bit am j <;> cases bit bv j <;> cases bit bm j <;> simp
theorem meet_ne {av am bv bm : BitVec 64} (hm : eqb (bandn (bxor av bv) (bor am bm)) zero = false) :
    ∃ j, j < 64 ∧ meetOk av am bv bm j = false ∧ ∀ i, i < j → meetOk av am bv bm i = true := by
  rcases first_no (meetOk av am bv bm) 64 with h | h
  · exfalso
    have : eqb (bandn (bxor av bv) (bor am bm)) zero = true := by
      rw [eqb_zero_iff]; intro j hj
      have h1 := h j hj
      rw [bit_andn _ _ _ hj, bit_xor, bit_or]
      simp only [meetOk, mo, mz] at h1
      revert h1
      cases bit av j <;> cases bit am j <;> cases bit bv j <;> cases bit bm j <;> simp
    rw [this] at hm; cases hm
  · exact h

theorem sh_up_eq {v m : BitVec 64} (hr : eqb (band v m) zero = true) (n : Nat) : shV true v m n 64 = bshl v n ∧ shM true v m n 64 = bshl m n := by
  have ha := (right_iff _ _).1 hr
  have key : ∀ j, j < 64 → (sho true v m n j = (decide (n ≤ j) && (bit v (j - n) || bit m (j - n)))) ∧ (shz true v n j = (!decide (n ≤ j) || !bit v (j - n))) := by
    intro j hj
    by_cases h : n ≤ j
    · have e := sh_in true v m n j (j - n) (by simp [shFrom]; omega) (by omega)
      rw [← e.1, ← e.2]; simp [h, mz, mo]
    · have e := sh_out true v m n j (by simp [shFrom]; omega)
      rw [← e.1, ← e.2]; simp [h]
  constructor
  · apply acc_eq; intro j hj
    rw [(key j hj).1, (key j hj).2, bit_shl _ _ _ hj]
    have h1 := ha (j - n)
    revert h1
    cases decide (n ≤ j) <;> cases bit v (j - n) <;> cases bit m (j - n) <;> simp
  · apply acc_eq; intro j hj
    rw [(key j hj).1, (key j hj).2, bit_shl _ _ _ hj]
    have h1 := ha (j - n)
    revert h1
    cases decide (n ≤ j) <;> cases bit v (j - n) <;> cases bit m (j - n) <;> simp
theorem sh_down_eq {v m : BitVec 64} (hr : eqb (band v m) zero = true) (n : Nat) : shV false v m n 64 = bshr v n ∧ shM false v m n 64 = bshr m n := by
  have ha := (right_iff _ _).1 hr
  have key : ∀ j, j < 64 → (sho false v m n j = (bit v (n + j) || bit m (n + j))) ∧ (shz false v n j = !bit v (n + j)) := by
    intro j hj
    by_cases h : n + j < 64
    · have e := sh_in false v m n j (n + j) (by simp [shFrom]; omega) h
      rw [← e.1, ← e.2]; simp [mz, mo]
    · have e := sh_out false v m n j (by simp [shFrom]; omega)
      rw [← e.1, ← e.2, bit_big v _ (by omega), bit_big m _ (by omega)]; simp
  constructor
  · apply acc_eq; intro j hj
    rw [(key j hj).1, (key j hj).2, bit_shr]
    have h1 := ha (n + j)
    revert h1
    cases bit v (n + j) <;> cases bit m (n + j) <;> simp
  · apply acc_eq; intro j hj
    rw [(key j hj).1, (key j hj).2, bit_shr]
    have h1 := ha (n + j)
    revert h1
    cases bit v (n + j) <;> cases bit m (n + j) <;> simp

/- how many bits a number wants -/
theorem aux_lt : ∀ (f x : Nat), x < 2 ^ f → x < 2 ^ Lib.bitLenAux f x
  | 0, x, h => by simpa [Lib.bitLenAux] using h
  | f + 1, x, h => by
    simp only [Lib.bitLenAux]
    split
    · subst_vars; simp
    · have := aux_lt f (x / 2) (by rw [Nat.pow_succ] at h; omega)
      rw [Nat.add_comm 1, Nat.pow_succ]
      omega
theorem blen_iff (x : BitVec 64) (k : Nat) (hk : k ≤ 64) : blen x ≤ k ↔ x.toNat < 2 ^ k := by
  have e : (nv x).toNat = x.toNat := by unfold nv; rw [Int.toNat_natCast]
  unfold blen
  rw [e]
  constructor
  · intro h
    exact Nat.lt_of_lt_of_le (aux_lt 64 x.toNat x.isLt) (Nat.pow_le_pow_right (by decide) h)
  · intro h
    exact Lib.bitLen_le _ k hk h
theorem lt_iff_bits (x : BitVec 64) (k : Nat) : x.toNat < 2 ^ k ↔ ∀ j, k ≤ j → bit x j = false := by
  constructor
  · intro h j hj
    unfold bit BitVec.getLsbD
    exact Nat.testBit_lt_two_pow (Nat.lt_of_lt_of_le h (Nat.pow_le_pow_right (by decide) hj))
  · intro h
    exact Nat.lt_pow_two_of_testBit _ fun j hj => h j hj
theorem blen_bits (x : BitVec 64) (k : Nat) (hk : k ≤ 64) : blen x ≤ k ↔ ∀ j, k ≤ j → bit x j = false := by
  rw [blen_iff x k hk, lt_iff_bits]
theorem lowMask_bit (n j : Nat) (hn : n ≤ 64) (_hj : j < 64) : bit (lowMask n) j = decide (j < n) := by
  have h : (lowMask n).toNat = 2 ^ n - 1 := by
    unfold lowMask bsub bshl one
    by_cases e : n = 64
    · subst e; decide
    · have hlt : 2 ^ n < 2 ^ 64 := Nat.pow_lt_pow_right (by decide) (by omega)
      have h1 : 1 ≤ 2 ^ n := Nat.one_le_two_pow
      have e1 : (1#64 <<< n).toNat = 2 ^ n := by
        rw [BitVec.toNat_shiftLeft, Nat.shiftLeft_eq]; rw [show (1#64).toNat = 1 from rfl, Nat.one_mul]; exact Nat.mod_eq_of_lt hlt
      rw [BitVec.toNat_sub, e1]
      simp only [BitVec.toNat_ofNat]
      omega
  unfold bit BitVec.getLsbD
  rw [h, Nat.testBit_two_pow_sub_one]

theorem sameB_iff (l h : BitVec 64) (c : Nat) (hc : c ≤ 64) : sameB l h c = true ↔ ∀ j, 64 - c ≤ j → bit (bxor l h) j = false := by
  induction c with
  | zero => simp only [sameB, true_iff]; intro j hj; exact bit_big _ _ (by omega)
  | succ c ih =>
    have ih := ih (by omega)
    simp only [sameB, Bool.and_eq_true, ih, beq_iff_eq]
    constructor
    · rintro ⟨h1, h2⟩ j hj
      by_cases e : j = 63 - c
      · subst e; rw [bit_xor, h2]; simp
      · exact h1 j (by omega)
    · intro h1
      refine ⟨fun j hj => h1 j (by omega), ?_⟩
      have := h1 (63 - c) (by omega)
      rw [bit_xor] at this
      revert this
      cases bit l (63 - c) <;> cases bit h (63 - c) <;> simp
theorem span_eq (l h : BitVec 64) : spanV l h 64 = bandn l (sM l h) ∧ spanM l h 64 = sM l h := by
  have key : ∀ j, j < 64 → bit (sM l h) j = !sameB l h (64 - j) := by
    intro j hj
    unfold sM
    rw [lowMask_bit _ _ (blen_le _) hj]
    have h1 := sameB_iff l h (64 - j) (by omega)
    rw [show 64 - (64 - j) = j by omega, ← blen_bits _ j (by omega)] at h1
    cases hs : sameB l h (64 - j)
    · rw [hs] at h1; simp at h1; simp [h1]
    · rw [hs] at h1; simp at h1; simp; omega
  constructor
  · apply accd_eq; intro j hj
    rw [bit_andn _ _ _ hj, key j hj]
    simp only [spo, spz]
    cases sameB l h (64 - j) <;> cases bit l j <;> simp
  · apply accd_eq; intro j hj
    rw [key j hj]
    simp only [spo, spz]
    cases sameB l h (64 - j) <;> cases bit l j <;> simp

end Go.Proofs.Ytkigmocchaikgaa

/- Has, Two, Join, Meet, Inside and Shift: who has which numbers: plain facts. -/
namespace Go.Proofs.Ytkigmocchaikgaa

theorem rt_iff (v m : BitVec 64) : eqb (band v m) zero = true ↔ RtB v m := right_iff v m
theorem hasB_iff (v m x : BitVec 64) : hasB v m x = true ↔ RtB v m ∧ InB v m x := by
  unfold hasB
  rw [Bool.and_eq_true, rt_iff, has_iff]; rfl

theorem sound_two {op : Int} {av am bv bm x y : BitVec 64} (hop : 2 ≤ op ∧ op ≤ 7) (hx : hasB av am x = true) (hy : hasB bv bm y = true) :
    hasB (twoP op av am bv bm).1 (twoP op av am bv bm).2 (numB op x y) = true := by
  rw [hasB_iff] at hx hy ⊢
  exact ⟨two_rt hop, two_sound hop hx.1 hy.1 hx.2 hy.2⟩
theorem sound_meet {av am bv bm x : BitVec 64} (ha : RtB av am) (hb : RtB bv bm) :
    (hasB av am x && hasB bv bm x) = (eqb (bandn (bxor av bv) (bor am bm)) zero && hasB (bor av bv) (band am bm) x) := by
  rw [Bool.eq_iff_iff, Bool.and_eq_true, Bool.and_eq_true, hasB_iff, hasB_iff, hasB_iff]
  have key : eqb (bandn (bxor av bv) (bor am bm)) zero = true ↔ ∀ j, j < 64 → ((bit av j ^^ bit bv j) && !(bit am j || bit bm j)) = false := by
    unfold eqb
    rw [beq_iff_eq]
    constructor
    · intro h j hj
      rw [← bit_xor, ← bit_or, ← bit_andn _ _ _ hj, h, bit_zero]
    · intro h
      apply BitVec.eq_of_getLsbD_eq
      intro j hj
      have := h j hj
      rw [← bit_xor, ← bit_or, ← bit_andn _ _ _ hj] at this
      unfold bit at this
      rw [this]
      exact (bit_zero j).symm
  rw [key]
  constructor
  · rintro ⟨⟨_, h1⟩, ⟨_, h2⟩⟩
    refine ⟨fun j hj => ?_, fun j => ?_, fun j hj => ?_⟩
    · have a1 := h1 j hj; have a2 := h2 j hj
      revert a1 a2
      cases bit x j <;> cases bit av j <;> cases bit am j <;> cases bit bv j <;> cases bit bm j <;> simp
    · rw [bit_or, bit_and']
      have h3 := ha j; have h4 := hb j
      revert h3 h4
      cases bit av j <;> cases bit am j <;> cases bit bv j <;> cases bit bm j <;> simp
    · rw [bit_or, bit_and']
      have a1 := h1 j hj; have a2 := h2 j hj; have h3 := ha j; have h4 := hb j
      revert a1 a2 h3 h4
      cases bit x j <;> cases bit av j <;> cases bit am j <;> cases bit bv j <;> cases bit bm j <;> simp
  · rintro ⟨h0, _, h1⟩
    refine ⟨⟨ha, fun j hj => ?_⟩, ⟨hb, fun j hj => ?_⟩⟩
    all_goals
      have a0 := h0 j hj; have a1 := h1 j hj; have h3 := ha j; have h4 := hb j
      rw [bit_or, bit_and'] at a1
      revert a0 a1 h3 h4
      cases bit x j <;> cases bit av j <;> cases bit am j <;> cases bit bv j <;> cases bit bm j <;> simp
theorem ins_iff (av am bv bm : BitVec 64) : insB av am bv bm = true ↔ RtB av am ∧ RtB bv bm ∧ ∀ j, j < 64 → (bit am j && !bit bm j) = false ∧ (bit av j && !bit bm j) = bit bv j := by
  unfold insB
  have : eqb (bandn am bm) zero = true ↔ ∀ j, j < 64 → (bit am j && !bit bm j) = false := by
    rw [has_iff]
    constructor
    · intro h j hj; rw [h j hj, bit_zero]
    · intro h j hj; rw [h j hj, bit_zero]
  rw [Bool.and_eq_true, Bool.and_eq_true, Bool.and_eq_true, rt_iff, rt_iff, this, has_iff, and_assoc]
  exact ⟨fun ⟨h1, h2, h3, h4⟩ => ⟨h1, h2, fun j hj => ⟨h3 j hj, h4 j hj⟩⟩, fun ⟨h1, h2, h3⟩ => ⟨h1, h2, fun j hj => (h3 j hj).1, fun j hj => (h3 j hj).2⟩⟩
theorem sound_shl {v m x : BitVec 64} (hx : hasB v m x = true) (n : Nat) : hasB (bshl v n) (bshl m n) (bshl x n) = true := by
  rw [hasB_iff] at hx ⊢
  exact ⟨shl_rt hx.1 n, shl_in hx.2 n⟩
theorem sound_shr {v m x : BitVec 64} (hx : hasB v m x = true) (n : Nat) : hasB (bshr v n) (bshr m n) (bshr x n) = true := by
  rw [hasB_iff] at hx ⊢
  refine ⟨fun j => ?_, fun j hj => ?_⟩
  · rw [bit_shr, bit_shr]; exact hx.1 _
  · rw [bit_shr, bit_shr, bit_shr]
    by_cases h : n + j < 64
    · exact hx.2 _ h
    · rw [bit_big x _ (by omega), bit_big v _ (by omega)]; rfl

end Go.Proofs.Ytkigmocchaikgaa

/- The least number of bits that is not below another one; the greatest that is not above: plain facts. -/
namespace Go.Proofs.Ytkigmocchaikgaa

def bneg (x : BitVec 64) : BitVec 64 := - x
theorem w_neg (x : BitVec 64) : IntKind.u64.wrap (- nv x) = nv (bneg x) := by
  rw [wrap_ofInt, BitVec.ofInt_neg, ofInt_nv]; rfl
theorem nv_not (x : BitVec 64) : nv (bnot x) = 18446744073709551615 - nv x := by
  unfold nv bnot
  rw [BitVec.toNat_not]
  have := x.isLt
  omega
theorem w_not (x : BitVec 64) : bits .xor .u64 IntKind.u64.max (nv x) = nv (bnot x) := by
  rw [show IntKind.u64.max = nv top by rw [nv_top]; rfl, w_xor]
  refine congrArg nv ?_
  apply BitVec.eq_of_getLsbD_eq
  intro j hj
  show bit (bxor top x) j = bit (bnot x) j
  rw [bit_xor, bit_not _ _ hj, bit_top _ hj]; cases bit x j <;> rfl
theorem bext {x y : BitVec 64} (h : ∀ j, j < 64 → bit x j = bit y j) : x = y :=
  BitVec.eq_of_getLsbD_eq h
theorem neg_not (x : BitVec 64) : bneg x = bnot (bsub x one) := by
  rw [sub_not]
  unfold bneg bnot badd one
  rw [BitVec.not_not, BitVec.neg_eq_not_add]

/- which is less: by the highest bit in which they differ -/
theorem lt_of_bits {a b : BitVec 64} (h : Nat) (ha : bit a h = false) (hb : bit b h = true) (hj : ∀ j, h < j → j < 64 → bit a j = bit b j) : nv a < nv b := by
  unfold nv
  have hall : ∀ j, h < j → a.toNat.testBit j = b.toNat.testBit j := by
    intro j hhj
    by_cases e : j < 64
    · exact hj j hhj e
    · have h1 := bit_big a j (by omega)
      have h2 := bit_big b j (by omega)
      unfold bit BitVec.getLsbD at h1 h2
      rw [h1, h2]
  have e : a.toNat / 2 ^ (h + 1) = b.toNat / 2 ^ (h + 1) := Nat.eq_of_testBit_eq fun i => by
    rw [Nat.testBit_div_two_pow, Nat.testBit_div_two_pow]; exact hall _ (by omega)
  rw [Nat.pow_succ, ← Nat.div_div_eq_div_mul, ← Nat.div_div_eq_div_mul] at e
  have ea : a.toNat / 2 ^ h % 2 ≠ 1 := by
    unfold bit BitVec.getLsbD at ha
    rw [Nat.testBit_eq_decide_div_mod_eq, decide_eq_false_iff_not] at ha; exact ha
  have eb : b.toNat / 2 ^ h % 2 = 1 := by
    unfold bit BitVec.getLsbD at hb
    rw [Nat.testBit_eq_decide_div_mod_eq, decide_eq_true_eq] at hb; exact hb
  have : a.toNat < b.toNat := by
    rcases Nat.lt_or_ge a.toNat b.toNat with g | g
    · exact g
    · exfalso
      have := Nat.div_le_div_right (c := 2 ^ h) g
      omega
  omega
theorem high_bit {x : BitVec 64} (hx : eqb x zero = false) : ∃ h, h < 64 ∧ blen x = h + 1 ∧ bit x h = true ∧ ∀ j, h < j → bit x j = false := by
  have hle := blen_le x
  have h0 : blen x ≠ 0 := by
    intro e
    have := (blen_bits x 0 (by omega)).1 (by omega)
    have h1 : eqb x zero = true := (eqb_zero_iff x).2 fun j _ => this j (by omega)
    rw [h1] at hx; cases hx
  refine ⟨blen x - 1, by omega, by omega, ?_, fun j hj => (blen_bits x (blen x) hle).1 (Nat.le_refl _) j (by omega)⟩
  cases hb : bit x (blen x - 1)
  · exfalso
    have := (blen_bits x (blen x - 1) (by omega)).2 fun j hj => by
      by_cases e : j = blen x - 1
      · rw [e, hb]
      · exact (blen_bits x (blen x) hle).1 (Nat.le_refl _) j (by omega)
    omega
  · rfl
theorem bits_of_lt {a b : BitVec 64} (hlt : nv a < nv b) : ∃ h, h < 64 ∧ bit a h = false ∧ bit b h = true ∧ ∀ j, h < j → j < 64 → bit a j = bit b j := by
  have hne : eqb (bxor a b) zero = false := by
    cases e : eqb (bxor a b) zero
    · rfl
    · exfalso
      have : a = b := bext fun j hj => by
        have := (eqb_zero_iff _).1 e j hj
        rw [bit_xor] at this
        revert this
        cases bit a j <;> cases bit b j <;> simp
      rw [this] at hlt; omega
  obtain ⟨h, h1, _, h3, h4⟩ := high_bit hne
  rw [bit_xor] at h3
  have h5 : ∀ j, h < j → j < 64 → bit a j = bit b j := by
    intro j hj _
    have := h4 j hj
    rw [bit_xor] at this
    revert this
    cases bit a j <;> cases bit b j <;> simp
  cases ha : bit a h
  · rw [ha] at h3
    exact ⟨h, h1, ha, by revert h3; cases bit b h <;> simp, h5⟩
  · exfalso
    rw [ha] at h3
    have hb : bit b h = false := by revert h3; cases bit b h <;> simp
    have := lt_of_bits h hb ha fun j hj hj2 => (h5 j hj hj2).symm
    omega

/- the lowest bit that is 1 -/
theorem low_bw {x : BitVec 64} {k : Nat} (hk : k < 64) (h1 : bit x k = true) (h0 : ∀ j, j < k → bit x j = false) (i : Nat) (hi : i ≤ 64) : bw x one i = decide (1 ≤ i ∧ i ≤ k) := by
  induction i with
  | zero => rw [bw_zero]; simp
  | succ i ih =>
    rw [bw_succ _ _ _ (by omega), ih (by omega)]
    have ho : bit one i = decide (i = 0) := by
      have := bit_one_shl 0 i (by omega)
      rw [show bshl one 0 = one by unfold bshl; simp] at this
      exact this
    rw [ho]
    by_cases e : i = 0
    · subst e
      by_cases ek : k = 0
      · subst ek; rw [h1]; simp
      · rw [h0 0 (by omega)]; simp; omega
    · rcases Nat.lt_trichotomy i k with h | h | h
      · have e1 : 1 ≤ i ∧ i ≤ k := by omega
        have e2 : 1 ≤ i + 1 ∧ i + 1 ≤ k := by omega
        rw [h0 i h, decide_eq_true e1, decide_eq_true e2, decide_eq_false e]; rfl
      · subst h
        have e2 : ¬ (1 ≤ i + 1 ∧ i + 1 ≤ i) := by omega
        rw [h1, decide_eq_false e2, decide_eq_false e]; simp
      · have e1 : ¬ (1 ≤ i ∧ i ≤ k) := by omega
        have e2 : ¬ (1 ≤ i + 1 ∧ i + 1 ≤ k) := by omega
        rw [decide_eq_false e1, decide_eq_false e2, decide_eq_false e]; simp
theorem low_one {x : BitVec 64} {k : Nat} (hk : k < 64) (h1 : bit x k = true) (h0 : ∀ j, j < k → bit x j = false) : band x (bneg x) = bshl one k := by
  apply bext
  intro j hj
  rw [bit_and', neg_not, bit_not _ _ hj, bit_sub _ _ _ hj, low_bw hk h1 h0 j (by omega), bit_one_shl _ _ hk]
  have ho : bit one j = decide (j = 0) := by
    have := bit_one_shl 0 j (by omega)
    rw [show bshl one 0 = one by unfold bshl; simp] at this
    exact this
  rw [ho]
  rcases Nat.lt_trichotomy j k with h | h | h
  · rw [h0 j h]; simp; omega
  · subst h; rw [h1]
    by_cases e : j = 0
    · subst e; simp
    · simp [e]; omega
  · have e1 : ¬ (1 ≤ j ∧ j ≤ k) := by omega
    have e2 : ¬ j = 0 := by omega
    have e3 : ¬ j = k := by omega
    simp [e1, e2, e3]

/- the reference's trials -/
def candL (v x : BitVec 64) (i : Nat) : BitVec 64 := bor (bor (bshl (bshr x i) i) (bshl one i)) (band v (lowMask i))
def okL (v m x : BitVec 64) (i : Nat) : Bool := !bit x i && hasB v m (candL v x i)
theorem cand_bit (v x : BitVec 64) (i j : Nat) (hi : i < 64) (hj : j < 64) : bit (candL v x i) j = if j < i then bit v j else if j = i then true else bit x j := by
  unfold candL
  rw [bit_or, bit_or, bit_and', bit_shl _ _ _ hj, bit_shr, bit_one_shl _ _ hi, lowMask_bit _ _ (by omega) hj]
  rcases Nat.lt_trichotomy j i with h | h | h
  · have h1 : ¬ i ≤ j := by omega
    have h2 : ¬ j = i := by omega
    simp [h, h1, h2]
  · subst h; simp
  · have h1 : i ≤ j := by omega
    have h2 : ¬ j = i := by omega
    have h3 : ¬ j < i := by omega
    rw [show i + (j - i) = j by omega]
    simp [h1, h2, h3]
theorem okL_iff {v m : BitVec 64} (hr : RtB v m) (x : BitVec 64) (i : Nat) (hi : i < 64) : okL v m x i = true ↔ bit x i = false ∧ (bit v i || bit m i) = true ∧ ∀ j, i < j → j < 64 → (bit x j && !bit m j) = bit v j := by
  unfold okL
  rw [Bool.and_eq_true, hasB_iff]
  constructor
  · rintro ⟨h1, _, h2⟩
    refine ⟨by simpa using h1, ?_, fun j hj hj2 => ?_⟩
    · have := h2 i hi
      rw [cand_bit _ _ _ _ hi hi] at this
      have h3 := hr i
      revert this h3
      cases bit v i <;> cases bit m i <;> simp
    · have := h2 j hj2
      rw [cand_bit _ _ _ _ hi hj2, if_neg (by omega), if_neg (by omega)] at this
      exact this
  · rintro ⟨h1, h2, h3⟩
    refine ⟨by simp [h1], hr, fun j hj => ?_⟩
    rw [cand_bit _ _ _ _ hi hj]
    have h4 := hr j
    rcases Nat.lt_trichotomy j i with h | h | h
    · rw [if_pos h]
      revert h4
      cases bit v j <;> cases bit m j <;> simp
    · subst h
      rw [if_neg (by omega), if_pos rfl]
      revert h2 h4
      cases bit v j <;> cases bit m j <;> simp
    · rw [if_neg (by omega), if_neg (by omega)]
      exact h3 j h hj

/- package val's way -/
def wrongB (v m x : BitVec 64) : BitVec 64 := bandn (bxor x v) m
def restB (v m x : BitVec 64) : BitVec 64 := lowMask (blen (wrongB v m x))
def freeB (v m x : BitVec 64) : BitVec 64 := bandn (bandn m x) (restB v m x)
def lowB (x : BitVec 64) : BitVec 64 := band x (bneg x)
def leastV (v m x : BitVec 64) : BitVec 64 × Bool :=
  if eqb (wrongB v m x) zero then (x, true)
  else if nv (band x (restB v m x)) < nv (band v (restB v m x)) then (bor (bandn x (restB v m x)) (band v (restB v m x)), true)
  else if eqb (freeB v m x) zero then (zero, false)
  else (bor (bor (bandn x (bsub (lowB (freeB v m x)) one)) (lowB (freeB v m x))) (band v (bsub (lowB (freeB v m x)) one)), true)
theorem wrong_has {v m : BitVec 64} (hr : RtB v m) (x : BitVec 64) : eqb (wrongB v m x) zero = hasB v m x := by
  rw [Bool.eq_iff_iff, eqb_zero_iff, hasB_iff]
  constructor
  · intro h
    refine ⟨hr, fun j hj => ?_⟩
    have h1 := h j hj
    unfold wrongB at h1
    rw [bit_andn _ _ _ hj, bit_xor] at h1
    have h2 := hr j
    revert h1 h2
    cases bit x j <;> cases bit v j <;> cases bit m j <;> simp
  · rintro ⟨_, h⟩ j hj
    have h1 := h j hj
    unfold wrongB
    rw [bit_andn _ _ _ hj, bit_xor]
    have h2 := hr j
    revert h1 h2
    cases bit x j <;> cases bit v j <;> cases bit m j <;> simp

def LeastIs (v m x : BitVec 64) (r : BitVec 64 × Bool) (d : BitVec 64) : Prop :=
  (hasB v m x = true ∧ r = (x, true))
  ∨ (hasB v m x = false ∧ ∃ k, k < 64 ∧ okL v m x k = true ∧ (∀ j, j < k → okL v m x j = false) ∧ r = (candL v x k, true))
  ∨ (hasB v m x = false ∧ (∀ j, j < 64 → okL v m x j = false) ∧ r = (d, false))

theorem least_is {v m : BitVec 64} (hr : RtB v m) (x : BitVec 64) : LeastIs v m x (leastV v m x) zero := by
  unfold LeastIs leastV
  cases hw : eqb (wrongB v m x) zero
  · have hh : hasB v m x = false := by rw [← wrong_has hr, hw]
    refine Or.inr ?_
    obtain ⟨h, h64, hbl, hb1, hb0⟩ := high_bit hw
    have e1 := hb1
    unfold wrongB at e1
    rw [bit_andn _ _ _ h64, bit_xor] at e1
    have e0 : ∀ j, h < j → j < 64 → (bit x j && !bit m j) = bit v j := by
      intro j hj hj2
      have := hb0 j hj
      unfold wrongB at this
      rw [bit_andn _ _ _ hj2, bit_xor] at this
      have h2 := hr j
      revert this h2
      cases bit x j <;> cases bit v j <;> cases bit m j <;> simp
    have hbelow : ∀ j, j < h → okL v m x j = false := by
      intro j hj
      cases ho : okL v m x j
      · rfl
      · exfalso
        have := ((okL_iff hr x j (by omega)).1 ho).2.2 h hj h64
        revert this e1
        cases bit x h <;> cases bit v h <;> cases bit m h <;> simp
    have hrest : ∀ j, j < 64 → bit (restB v m x) j = decide (j ≤ h) := by
      intro j hj
      unfold restB
      rw [hbl, lowMask_bit _ _ (by omega) hj]
      simp [Nat.lt_succ_iff]
    cases hv : bit v h
    · -- x has a 1 there
      have hx : bit x h = true := by
        rw [hv] at e1; revert e1; cases bit x h <;> simp
      have hnl : ¬ nv (band x (restB v m x)) < nv (band v (restB v m x)) := by
        have : nv (band v (restB v m x)) < nv (band x (restB v m x)) := by
          refine lt_of_bits h ?_ ?_ fun j hj hj2 => ?_
          · rw [bit_and', hv]; rfl
          · rw [bit_and', hx, hrest h h64]; simp
          · rw [bit_and', bit_and', hrest j hj2]
            have : ¬ j ≤ h := by omega
            simp [this]
        omega
      have hoh : okL v m x h = false := by
        cases ho : okL v m x h
        · rfl
        · have := ((okL_iff hr x h h64).1 ho).1
          rw [hx] at this; cases this
      have hfree : ∀ j, j < 64 → bit (freeB v m x) j = ((bit m j && !bit x j) && !decide (j ≤ h)) := by
        intro j hj
        unfold freeB
        rw [bit_andn _ _ _ hj, bit_andn _ _ _ hj, hrest j hj]
      have hok : ∀ j, h < j → j < 64 → okL v m x j = bit (freeB v m x) j := by
        intro j hj hj2
        rw [Bool.eq_iff_iff, okL_iff hr x j hj2, hfree j hj2]
        have h1 : ¬ j ≤ h := by omega
        simp only [h1, decide_false, Bool.not_false, Bool.and_true, Bool.and_eq_true, Bool.not_eq_true']
        have h3 := e0 j hj hj2
        constructor
        · rintro ⟨g1, g2, _⟩
          refine ⟨?_, g1⟩
          rw [g1] at h3
          revert g2 h3
          cases bit v j <;> cases bit m j <;> simp
        · rintro ⟨g1, g2⟩
          refine ⟨g2, by rw [g1]; simp, fun i hi hi2 => e0 i (by omega) hi2⟩
      rw [if_neg (by simp), if_neg hnl]
      cases hf : eqb (freeB v m x) zero
      · rw [if_neg (by simp)]
        refine Or.inl ⟨hh, ?_⟩
        rcases first_no (fun j => !bit (freeB v m x) j) 64 with hall | ⟨k, hk, hkf, hkb⟩
        · exfalso
          have : eqb (freeB v m x) zero = true := (eqb_zero_iff _).2 fun j hj => by simpa using hall j hj
          rw [this] at hf; cases hf
        · have hk1 : bit (freeB v m x) k = true := by simpa using hkf
          have hk0 : ∀ j, j < k → bit (freeB v m x) j = false := fun j hj => by simpa using hkb j hj
          have hkh : h < k := by
            have := hk1
            rw [hfree k hk] at this
            by_cases e : k ≤ h
            · simp [e] at this
            · omega
          refine ⟨k, hk, by rw [hok k hkh hk]; exact hk1, fun j hj => ?_, ?_⟩
          · rcases Nat.lt_trichotomy j h with g | g | g
            · exact hbelow j g
            · rw [g]; exact hoh
            · rw [hok j g (by omega)]; exact hk0 j hj
          · have hone : lowB (freeB v m x) = bshl one k := low_one hk hk1 hk0
            rw [hone]
            have hxk : bit x k = false := by
              have := hk1
              rw [hfree k hk] at this
              revert this
              cases bit m k <;> cases bit x k <;> simp
            congr 1
            apply bext
            intro j hj
            rw [cand_bit _ _ _ _ hk hj, bit_or, bit_or, bit_and', bit_andn _ _ _ hj, bit_one_shl _ _ hk]
            have hl := lowMask_bit k j (by omega) hj
            unfold lowMask at hl
            rw [hl]
            rcases Nat.lt_trichotomy j k with g | g | g
            · have g2 : ¬ j = k := by omega
              simp [g, g2]
            · subst g; simp
            · have g2 : ¬ j = k := by omega
              have g3 : ¬ j < k := by omega
              simp [g2, g3]
      · rw [if_pos rfl]
        refine Or.inr ⟨hh, fun j hj => ?_, rfl⟩
        rcases Nat.lt_trichotomy j h with g | g | g
        · exact hbelow j g
        · rw [g]; exact hoh
        · rw [hok j g hj]; exact (eqb_zero_iff _).1 hf j hj
    · -- x has a 0 there
      have hx : bit x h = false := by
        rw [hv] at e1; revert e1; cases bit x h <;> simp
      have hl : nv (band x (restB v m x)) < nv (band v (restB v m x)) := by
        refine lt_of_bits h ?_ ?_ fun j hj hj2 => ?_
        · rw [bit_and', hx]; rfl
        · rw [bit_and', hv, hrest h h64]; simp
        · rw [bit_and', bit_and', hrest j hj2]
          have : ¬ j ≤ h := by omega
          simp [this]
      rw [if_neg (by simp), if_pos hl]
      refine Or.inl ⟨hh, h, h64, (okL_iff hr x h h64).2 ⟨hx, by rw [hv]; rfl, e0⟩, hbelow, ?_⟩
      congr 1
      apply bext
      intro j hj
      rw [cand_bit _ _ _ _ h64 hj, bit_or, bit_andn _ _ _ hj, bit_and', hrest j hj]
      rcases Nat.lt_trichotomy j h with g | g | g
      · have g2 : j ≤ h := by omega
        simp [g, g2]
      · subst g; simp [hv]
      · have g2 : ¬ j ≤ h := by omega
        have g3 : ¬ j = h := by omega
        have g4 : ¬ j < h := by omega
        simp [g2, g3, g4]
  · exact Or.inl ⟨by rw [← wrong_has hr, hw], by simp⟩

/- the greatest -/
def candG (v m x : BitVec 64) (i : Nat) : BitVec 64 := bor (bshl (bshr x (i + 1)) (i + 1)) (band (bor v m) (lowMask i))
def okG (v m x : BitVec 64) (i : Nat) : Bool := bit x i && hasB v m (candG v m x i)
def turn (v m : BitVec 64) : BitVec 64 := bnot (bor v m)
theorem turn_rt (v m : BitVec 64) : RtB (turn v m) m := by
  intro j
  by_cases hj : j < 64
  · unfold turn; rw [bit_not _ _ hj, bit_or]; cases bit v j <;> cases bit m j <;> rfl
  · rw [bit_big _ _ (by omega)]; rfl
theorem not_not (x : BitVec 64) : bnot (bnot x) = x := by unfold bnot; exact BitVec.not_not
theorem turn_has {v m : BitVec 64} (hr : RtB v m) (x : BitVec 64) : hasB (turn v m) m (bnot x) = hasB v m x := by
  rw [Bool.eq_iff_iff, hasB_iff, hasB_iff]
  constructor
  · rintro ⟨_, h⟩
    refine ⟨hr, fun j hj => ?_⟩
    have h1 := h j hj
    unfold turn at h1
    rw [bit_not _ _ hj, bit_not _ _ hj, bit_or] at h1
    have h2 := hr j
    revert h1 h2
    cases bit x j <;> cases bit v j <;> cases bit m j <;> simp
  · rintro ⟨_, h⟩
    refine ⟨turn_rt v m, fun j hj => ?_⟩
    have h1 := h j hj
    unfold turn
    rw [bit_not _ _ hj, bit_not _ _ hj, bit_or]
    have h2 := hr j
    revert h1 h2
    cases bit x j <;> cases bit v j <;> cases bit m j <;> simp
theorem candG_eq (v m x : BitVec 64) (i : Nat) (hi : i < 64) : candG v m x i = bnot (candL (turn v m) (bnot x) i) := by
  apply bext
  intro j hj
  rw [bit_not _ _ hj, cand_bit _ _ _ _ hi hj]
  unfold candG turn
  rw [bit_or, bit_and', bit_or, bit_shl _ _ _ hj, bit_shr, lowMask_bit _ _ (by omega) hj, bit_not _ _ hj, bit_not _ _ hj, bit_or]
  rcases Nat.lt_trichotomy j i with h | h | h
  · have h1 : ¬ i + 1 ≤ j := by omega
    simp [h, h1]
  · subst h
    have h1 : ¬ j + 1 ≤ j := by omega
    simp [h1]
  · have h1 : i + 1 ≤ j := by omega
    have h2 : ¬ j = i := by omega
    have h3 : ¬ j < i := by omega
    rw [show i + 1 + (j - (i + 1)) = j by omega]
    simp [h1, h2, h3]
theorem okG_eq {v m : BitVec 64} (hr : RtB v m) (x : BitVec 64) (i : Nat) (hi : i < 64) : okG v m x i = okL (turn v m) m (bnot x) i := by
  unfold okG okL
  rw [bit_not _ _ hi, Bool.not_not, candG_eq _ _ _ _ hi]
  have := turn_has hr (bnot (candL (turn v m) (bnot x) i))
  rw [not_not] at this
  rw [← this]
def greatV (v m x : BitVec 64) : BitVec 64 × Bool := if (leastV (turn v m) m (bnot x)).2 then (bnot (leastV (turn v m) m (bnot x)).1, true) else (zero, false)
def GreatIs (v m x : BitVec 64) (r : BitVec 64 × Bool) (d : BitVec 64) : Prop :=
  (hasB v m x = true ∧ r = (x, true))
  ∨ (hasB v m x = false ∧ ∃ k, k < 64 ∧ okG v m x k = true ∧ (∀ j, j < k → okG v m x j = false) ∧ r = (candG v m x k, true))
  ∨ (hasB v m x = false ∧ (∀ j, j < 64 → okG v m x j = false) ∧ r = (d, false))
theorem great_is {v m : BitVec 64} (hr : RtB v m) (x : BitVec 64) : GreatIs v m x (greatV v m x) zero := by
  have h := least_is (turn_rt v m) (bnot x)
  unfold LeastIs at h
  rw [turn_has hr] at h
  unfold GreatIs greatV
  rcases h with ⟨h1, h2⟩ | ⟨h1, k, hk, h2, h3, h4⟩ | ⟨h1, h2, h3⟩
  · exact Or.inl ⟨h1, by rw [h2]; simp [not_not]⟩
  · refine Or.inr (Or.inl ⟨h1, k, hk, by rw [okG_eq hr _ _ hk]; exact h2, fun j hj => by rw [okG_eq hr _ _ (by omega)]; exact h3 j hj, ?_⟩)
    rw [h4, candG_eq _ _ _ _ hk]; simp
  · refine Or.inr (Or.inr ⟨h1, fun j hj => by rw [okG_eq hr _ _ hj]; exact h2 j hj, by rw [h3]; simp⟩)

end Go.Proofs.Ytkigmocchaikgaa

/- The reference's search for the least and for the greatest number, as plain functions; they answer as package val does. -/
namespace Go.Proofs.Ytkigmocchaikgaa

def scanL (v m x : BitVec 64) : Nat → BitVec 64 × Bool
  | 0 => (x, hasB v m x)
  | k + 1 => if (scanL v m x k).2 then scanL v m x k else if okL v m x k then (candL v x k, true) else scanL v m x k
def scanG (v m x : BitVec 64) : Nat → BitVec 64 × Bool
  | 0 => (x, hasB v m x)
  | k + 1 => if (scanG v m x k).2 then scanG v m x k else if okG v m x k then (candG v m x k, true) else scanG v m x k

theorem scanL_stay (v m x : BitVec 64) (k n : Nat) (h : (scanL v m x k).2 = true) (hn : k ≤ n) : scanL v m x n = scanL v m x k := by
  induction n with
  | zero => have : k = 0 := by omega
            rw [this]
  | succ n ih =>
    by_cases e : k = n + 1
    · rw [e]
    · have := ih (by omega)
      rw [scanL, this, if_pos h]
theorem scanG_stay (v m x : BitVec 64) (k n : Nat) (h : (scanG v m x k).2 = true) (hn : k ≤ n) : scanG v m x n = scanG v m x k := by
  induction n with
  | zero => have : k = 0 := by omega
            rw [this]
  | succ n ih =>
    by_cases e : k = n + 1
    · rw [e]
    · have := ih (by omega)
      rw [scanG, this, if_pos h]
theorem scanL_no (v m x : BitVec 64) (hh : hasB v m x = false) (n : Nat) (h : ∀ j, j < n → okL v m x j = false) : scanL v m x n = (x, false) := by
  induction n with
  | zero => rw [scanL, hh]
  | succ n ih =>
    have := ih fun j hj => h j (by omega)
    rw [scanL, this, h n (by omega)]; simp
theorem scanG_no (v m x : BitVec 64) (hh : hasB v m x = false) (n : Nat) (h : ∀ j, j < n → okG v m x j = false) : scanG v m x n = (x, false) := by
  induction n with
  | zero => rw [scanG, hh]
  | succ n ih =>
    have := ih fun j hj => h j (by omega)
    rw [scanG, this, h n (by omega)]; simp

/- the two searches answer the same, if they find something -/
theorem least_same {v m : BitVec 64} (hr : RtB v m) (x : BitVec 64) : (scanL v m x 64).2 = (leastV v m x).2 ∧ ((leastV v m x).2 = true → (scanL v m x 64).1 = (leastV v m x).1) := by
  rcases least_is hr x with ⟨h1, h2⟩ | ⟨h1, k, hk, h2, h3, h4⟩ | ⟨h1, h2, h3⟩
  · have : (scanL v m x 0) = (x, true) := by rw [scanL, h1]
    rw [scanL_stay v m x 0 64 (by rw [this]) (by omega), this, h2]
    exact ⟨rfl, fun _ => rfl⟩
  · have e0 := scanL_no v m x h1 k h3
    have : (scanL v m x (k + 1)) = (candL v x k, true) := by rw [scanL, e0, h2]; simp
    rw [scanL_stay v m x (k + 1) 64 (by rw [this]) (by omega), this, h4]
    exact ⟨rfl, fun _ => rfl⟩
  · rw [scanL_no v m x h1 64 h2, h3]
    exact ⟨rfl, fun h => by cases h⟩
theorem great_same {v m : BitVec 64} (hr : RtB v m) (x : BitVec 64) : (scanG v m x 64).2 = (greatV v m x).2 ∧ ((greatV v m x).2 = true → (scanG v m x 64).1 = (greatV v m x).1) := by
  rcases great_is hr x with ⟨h1, h2⟩ | ⟨h1, k, hk, h2, h3, h4⟩ | ⟨h1, h2, h3⟩
  · have : (scanG v m x 0) = (x, true) := by rw [scanG, h1]
    rw [scanG_stay v m x 0 64 (by rw [this]) (by omega), this, h2]
    exact ⟨rfl, fun _ => rfl⟩
  · have e0 := scanG_no v m x h1 k h3
    have : (scanG v m x (k + 1)) = (candG v m x k, true) := by rw [scanG, e0, h2]; simp
    rw [scanG_stay v m x (k + 1) 64 (by rw [this]) (by omega), this, h4]
    exact ⟨rfl, fun _ => rfl⟩
  · rw [scanG_no v m x h1 64 h2, h3]
    exact ⟨rfl, fun h => by cases h⟩

/- what is found is one of the numbers, and none is nearer -/
theorem cand_gt {v m x : BitVec 64} {k : Nat} (hr : RtB v m) (hk : k < 64) (ho : okL v m x k = true) : nv x < nv (candL v x k) := by
  have h := (okL_iff hr x k hk).1 ho
  refine lt_of_bits k h.1 ?_ fun j hj hj2 => ?_
  · rw [cand_bit _ _ _ _ hk hk, if_neg (by omega), if_pos rfl]
  · rw [cand_bit _ _ _ _ hk hj2, if_neg (by omega), if_neg (by omega)]
theorem le_of_bits {a b : BitVec 64} (h : ∀ i, bit b i = false → bit a i = true → ∃ j, i < j ∧ j < 64 ∧ bit a j = false ∧ bit b j = true) : nv a ≤ nv b := by
  by_cases hlt : nv b < nv a
  · exfalso
    obtain ⟨i, hi, h1, h2, h3⟩ := bits_of_lt hlt
    obtain ⟨j, hj, hj2, h4, h5⟩ := h i h1 h2
    have := h3 j hj hj2
    rw [h4, h5] at this; cases this
  · omega
theorem has_cand {v m x y : BitVec 64} (hr : RtB v m) (hy : hasB v m y = true) (hlt : nv x < nv y) : ∃ i, i < 64 ∧ okL v m x i = true ∧ nv (candL v x i) ≤ nv y := by
  obtain ⟨i, hi, h1, h2, h3⟩ := bits_of_lt hlt
  have hin := ((hasB_iff v m y).1 hy).2
  refine ⟨i, hi, (okL_iff hr x i hi).2 ⟨h1, ?_, fun j hj hj2 => ?_⟩, ?_⟩
  · have := hin i hi
    rw [h2] at this
    revert this
    cases bit m i <;> cases bit v i <;> simp
  · rw [h3 j hj hj2]; exact hin j hj2
  · apply le_of_bits
    intro k hk1 hk2
    exfalso
    by_cases hk64 : k < 64
    · rw [cand_bit _ _ _ _ hi hk64] at hk2
      rcases Nat.lt_trichotomy k i with g | g | g
      · rw [if_pos g] at hk2
        have := hin k hk64
        rw [hk1, hk2] at this; simp at this
      · rw [g, h2] at hk1; cases hk1
      · rw [if_neg (by omega), if_neg (by omega), h3 k g hk64, hk1] at hk2; cases hk2
    · rw [bit_big _ _ (by omega)] at hk2; cases hk2
theorem cand_le {v m x : BitVec 64} {i k : Nat} (hr : RtB v m) (hk : k < i) (hi : i < 64) (hoi : okL v m x i = true) : nv (candL v x k) ≤ nv (candL v x i) := by
  have h := (okL_iff hr x i hi).1 hoi
  have : nv (candL v x k) < nv (candL v x i) := by
    refine lt_of_bits i ?_ ?_ fun j hj hj2 => ?_
    · rw [cand_bit _ _ _ _ (by omega) hi, if_neg (by omega), if_neg (by omega)]; exact h.1
    · rw [cand_bit _ _ _ _ hi hi, if_neg (by omega), if_pos rfl]
    · rw [cand_bit _ _ _ _ (by omega) hj2, cand_bit _ _ _ _ hi hj2, if_neg (by omega), if_neg (by omega), if_neg (by omega), if_neg (by omega)]
  omega
theorem least_yes {v m : BitVec 64} (hr : RtB v m) {x : BitVec 64} (h : (leastV v m x).2 = true) : hasB v m (leastV v m x).1 = true ∧ nv x ≤ nv (leastV v m x).1 ∧ ∀ y, hasB v m y = true → nv x ≤ nv y → nv (leastV v m x).1 ≤ nv y := by
  rcases least_is hr x with ⟨h1, h2⟩ | ⟨h1, k, hk, h2, h3, h4⟩ | ⟨h1, h2, h3⟩
  · rw [h2]; exact ⟨h1, Int.le_refl _, fun y _ h => h⟩
  · rw [h4]
    have hc := h2
    unfold okL at hc
    rw [Bool.and_eq_true] at hc
    refine ⟨hc.2, Int.le_of_lt (cand_gt hr hk h2), fun y hy hle => ?_⟩
    have hlt : nv x < nv y := by
      rcases Int.lt_or_eq_of_le hle with g | g
      · exact g
      · exfalso
        have := nv_inj _ _ g
        rw [this, hy] at h1; cases h1
    obtain ⟨i, hi, g1, g2⟩ := has_cand hr hy hlt
    show nv (candL v x k) ≤ nv y
    rcases Nat.lt_trichotomy i k with g | g | g
    · rw [h3 i g] at g1; cases g1
    · rw [← g]; exact g2
    · exact Int.le_trans (cand_le hr g hi g1) g2
  · rw [h3] at h; cases h
theorem great_yes {v m : BitVec 64} (hr : RtB v m) {x : BitVec 64} (h : (greatV v m x).2 = true) : hasB v m (greatV v m x).1 = true ∧ nv (greatV v m x).1 ≤ nv x ∧ ∀ y, hasB v m y = true → nv y ≤ nv x → nv y ≤ nv (greatV v m x).1 := by
  unfold greatV at h ⊢
  cases hl : (leastV (turn v m) m (bnot x)).2
  · rw [hl] at h; simp at h
  · obtain ⟨h1, h2, h3⟩ := least_yes (turn_rt v m) hl
    simp only [if_pos]
    refine ⟨?_, ?_, fun y hy hle => ?_⟩
    · rw [← turn_has hr, not_not]; exact h1
    · rw [nv_not] at h2 ⊢; omega
    · have := h3 (bnot y) (by rw [turn_has hr]; exact hy) (by rw [nv_not, nv_not]; omega)
      rw [nv_not] at this ⊢; omega
end Go.Proofs.Ytkigmocchaikgaa

/- Norm, Check, Join and Inside of package val as plain functions; what is right is what Norm leaves as it is. -/
namespace Go.Proofs.Ytkigmocchaikgaa

def nLo (v m l : BitVec 64) : BitVec 64 := (leastV v m l).1
def nHi (v m h : BitVec 64) : BitVec 64 := (greatV v m h).1
def normOk (v m l h : BitVec 64) : Bool := (leastV v m l).2 && ((greatV v m h).2 && decide (nv (nLo v m l) ≤ nv (nHi v m h)))
def spV (l h : BitVec 64) : BitVec 64 := bandn l (sM l h)
def nV (v m l h : BitVec 64) : BitVec 64 := bor v (spV (nLo v m l) (nHi v m h))
def nM (m l h : BitVec 64) : BitVec 64 := band m (sM l h)
def valB (v m l h : BitVec 64) : Bool := hasB v m l && (hasB v m h && (decide (nv l ≤ nv h) && insB v m (spV l h) (sM l h)))

theorem sM_bit (l h : BitVec 64) (j : Nat) (hj : j < 64) : bit (sM l h) j = false ↔ ∀ i, j ≤ i → bit l i = bit h i := by
  unfold sM
  rw [lowMask_bit _ _ (blen_le _) hj, decide_eq_false_iff_not, Nat.not_lt, blen_bits _ _ (by omega)]
  constructor
  · intro h1 i hi
    have := h1 i hi
    rw [bit_xor] at this
    revert this
    cases bit l i <;> cases bit h i <;> simp
  · intro h1 i hi
    rw [bit_xor, h1 i hi]; simp
theorem span_rt (l h : BitVec 64) : RtB (spV l h) (sM l h) := by
  intro j
  by_cases hj : j < 64
  · unfold spV; rw [bit_andn _ _ _ hj]; cases bit l j <;> cases bit (sM l h) j <;> rfl
  · rw [bit_big _ _ (by omega)]; rfl
/- what lies between is one of the numbers of the span -/
theorem span_has {l h x : BitVec 64} (h1 : nv l ≤ nv x) (h2 : nv x ≤ nv h) : hasB (spV l h) (sM l h) x = true := by
  rw [hasB_iff]
  refine ⟨span_rt l h, fun j hj => ?_⟩
  unfold spV
  rw [bit_andn _ _ _ hj]
  cases hs : bit (sM l h) j
  · have hlh := (sM_bit l h j hj).1 hs
    have hx : ∀ i, j ≤ i → bit x i = bit l i := by
      intro i hi
      by_cases hlt : nv l < nv x
      · obtain ⟨a, ha, g1, g2, g3⟩ := bits_of_lt hlt
        by_cases hai : a < i
        · by_cases h64 : i < 64
          · exact (g3 i hai h64).symm
          · rw [bit_big _ _ (by omega), bit_big _ _ (by omega)]
        · exfalso
          -- x is above h then
          have : nv h < nv x := by
            refine lt_of_bits a ?_ g2 fun b hb hb2 => ?_
            · rw [← hlh a (by omega)]; exact g1
            · rw [← hlh b (by omega)]; exact g3 b hb hb2
          omega
      · have : nv l = nv x := by omega
        rw [nv_inj _ _ this]
    rw [hx j (Nat.le_refl _)]
  · simp
/- the meeting of the bits and the span -/
theorem meet_span {v m l h x : BitVec 64} (hr : RtB v m) (hx : hasB v m x = true) (h1 : nv l ≤ nv x) (h2 : nv x ≤ nv h) : eqb (bandn (bxor v (spV l h)) (bor m (sM l h))) zero = true := by
  have := sound_meet (x := x) hr (span_rt l h)
  rw [hx, span_has h1 h2] at this
  revert this
  cases eqb (bandn (bxor v (spV l h)) (bor m (sM l h))) zero <;> simp

/- right is what Norm leaves -/
theorem norm_self {v m l h : BitVec 64} (hr : RtB v m) (h1 : hasB v m l = true) (h2 : hasB v m h = true) : leastV v m l = (l, true) ∧ greatV v m h = (h, true) := by
  constructor
  · rcases least_is hr l with ⟨_, g⟩ | ⟨g, _⟩ | ⟨g, _⟩
    · exact g
    · rw [h1] at g; cases g
    · rw [h1] at g; cases g
  · rcases great_is hr h with ⟨_, g⟩ | ⟨g, _⟩ | ⟨g, _⟩
    · exact g
    · rw [h2] at g; cases g
    · rw [h2] at g; cases g
def normSame (v m l h : BitVec 64) : Bool := eqb (nV v m l h) v && (eqb (nM m (nLo v m l) (nHi v m h)) m && (eqb (nLo v m l) l && eqb (nHi v m h) h))
theorem val_iff {v m : BitVec 64} (hr : RtB v m) (l h : BitVec 64) : valB v m l h = (normOk v m l h && normSame v m l h) := by
  have key : ∀ (_ : hasB v m l = true), (insB v m (spV l h) (sM l h) = true ↔ eqb (bor v (spV l h)) v = true ∧ eqb (nM m l h) m = true) := by
    intro hl
    have hin := ((hasB_iff v m l).1 hl).2
    rw [ins_iff, eqb_iff, eqb_iff]
    constructor
    · rintro ⟨_, _, g⟩
      constructor
      · apply bext; intro j hj
        rw [bit_or, ← (g j hj).2]
        cases bit v j <;> cases bit (sM l h) j <;> rfl
      · apply bext; intro j hj
        unfold nM
        rw [bit_and']
        have := (g j hj).1
        revert this
        cases bit m j <;> cases bit (sM l h) j <;> simp
    · rintro ⟨g1, g2⟩
      refine ⟨hr, span_rt l h, fun j hj => ⟨?_, ?_⟩⟩
      · have : bit (nM m l h) j = bit m j := by rw [g2]
        unfold nM at this
        rw [bit_and'] at this
        revert this
        cases bit m j <;> cases bit (sM l h) j <;> simp
      · have h3 : bit (bor v (spV l h)) j = bit v j := by rw [g1]
        rw [bit_or] at h3
        have h4 := hin j hj
        have h5 : bit (spV l h) j = (bit l j && !bit (sM l h) j) := by unfold spV; rw [bit_andn _ _ _ hj]
        rw [h5] at h3 ⊢
        revert h3 h4
        cases bit v j <;> cases bit (sM l h) j <;> cases bit l j <;> cases bit m j <;> simp
  rw [Bool.eq_iff_iff]
  unfold valB normOk normSame
  simp only [Bool.and_eq_true, decide_eq_true_eq]
  constructor
  · rintro ⟨h1, h2, h3, h4⟩
    obtain ⟨e1, e2⟩ := norm_self hr h1 h2
    have a1 : nLo v m l = l := by unfold nLo; rw [e1]
    have a2 : nHi v m h = h := by unfold nHi; rw [e2]
    have a3 : nV v m l h = bor v (spV l h) := by unfold nV; rw [a1, a2]
    rw [a3, a1, a2, e1, e2]
    have := (key h1).1 h4
    exact ⟨⟨rfl, rfl, h3⟩, this.1, this.2, eqb_self l, eqb_self h⟩
  · rintro ⟨⟨h1, h2, h3⟩, h4, h5, h6, h7⟩
    have a1 : nLo v m l = l := (eqb_iff _ _).1 h6
    have a2 : nHi v m h = h := (eqb_iff _ _).1 h7
    have b1 := (least_yes hr h1).1
    have b2 := (great_yes hr h2).1
    have b1' : hasB v m (nLo v m l) = true := b1
    have b2' : hasB v m (nHi v m h) = true := b2
    rw [a1] at b1'
    rw [a2] at b2'
    have a3 : nV v m l h = bor v (spV l h) := by unfold nV; rw [a1, a2]
    rw [a3] at h4
    rw [a1, a2] at h5 h3
    exact ⟨b1', b2', h3, (key b1').2 ⟨h4, h5⟩⟩
theorem val_wrong {v m l h : BitVec 64} (hr : eqb (band v m) zero = false) : valB v m l h = false := by
  unfold valB hasB
  rw [hr]; rfl

end Go.Proofs.Ytkigmocchaikgaa

/- What Norm answers has just the same numbers, and stays; Join has what one has: plain facts. -/
namespace Go.Proofs.Ytkigmocchaikgaa

def hasV (v m l h x : BitVec 64) : Bool := valB v m l h && (hasB v m x && (decide (nv l ≤ nv x) && decide (nv x ≤ nv h)))
def rawV (v m l h x : BitVec 64) : Bool := hasB v m x && (decide (nv l ≤ nv x) && decide (nv x ≤ nv h))
theorem norm_facts {v m l h : BitVec 64} (hr : RtB v m) (ho : normOk v m l h = true) :
    hasB v m (nLo v m l) = true ∧ hasB v m (nHi v m h) = true ∧ nv (nLo v m l) ≤ nv (nHi v m h) ∧ nv l ≤ nv (nLo v m l) ∧ nv (nHi v m h) ≤ nv h
    ∧ (∀ x, hasB (nV v m l h) (nM m (nLo v m l) (nHi v m h)) x = (hasB v m x && hasB (spV (nLo v m l) (nHi v m h)) (sM (nLo v m l) (nHi v m h)) x)) := by
  unfold normOk at ho
  simp only [Bool.and_eq_true, decide_eq_true_eq] at ho
  obtain ⟨h1, h2, h3⟩ := ho
  obtain ⟨a1, a2, _⟩ := least_yes hr h1
  obtain ⟨b1, b2, _⟩ := great_yes hr h2
  refine ⟨a1, b1, h3, a2, b2, fun x => ?_⟩
  have hs := sound_meet (x := x) hr (span_rt (nLo v m l) (nHi v m h))
  rw [meet_span hr (x := nLo v m l) a1 (Int.le_refl _) h3, Bool.true_and] at hs
  exact hs.symm
/- right ones -/
theorem val_facts {v m l h : BitVec 64} (hv : valB v m l h = true) : RtB v m ∧ hasB v m l = true ∧ hasB v m h = true ∧ nv l ≤ nv h ∧ insB v m (spV l h) (sM l h) = true := by
  unfold valB at hv
  simp only [Bool.and_eq_true, decide_eq_true_eq] at hv
  obtain ⟨h1, h2, h3, h4⟩ := hv
  exact ⟨((hasB_iff _ _ _).1 h1).1, h1, h2, h3, h4⟩
theorem norm_stays {v m l h : BitVec 64} (hv : valB v m l h = true) : normOk v m l h = true ∧ nV v m l h = v ∧ nM m (nLo v m l) (nHi v m h) = m ∧ nLo v m l = l ∧ nHi v m h = h := by
  have hr := (val_facts hv).1
  have := val_iff hr l h
  rw [hv] at this
  have h2 := this.symm
  unfold normSame at h2
  simp only [Bool.and_eq_true, eqb_iff] at h2
  exact ⟨h2.1, h2.2.1, h2.2.2.1, h2.2.2.2.1, h2.2.2.2.2⟩
/- a right one inside of bits and bounds is inside of what Norm makes of them -/
end Go.Proofs.Ytkigmocchaikgaa

/- The lesser and the greater of two; Join of two right ones: plain facts. -/
namespace Go.Proofs.Ytkigmocchaikgaa

theorem w_min (x y : BitVec 64) : min (nv x) (nv y) = nv (bmin x y) := by
  unfold bmin; split <;> omega
theorem w_max (x y : BitVec 64) : max (nv x) (nv y) = nv (bmax x y) := by
  unfold bmax; split <;> omega
theorem le_bmin {x y z : BitVec 64} (h1 : nv z ≤ nv x) (h2 : nv z ≤ nv y) : nv z ≤ nv (bmin x y) := by rw [← w_min]; omega
theorem bmax_le {x y z : BitVec 64} (h1 : nv x ≤ nv z) (h2 : nv y ≤ nv z) : nv (bmax x y) ≤ nv z := by rw [← w_max]; omega

end Go.Proofs.Ytkigmocchaikgaa

/- The reference's Number, and val's and calc's plain numbers: x op y. -/
namespace Go.Proofs.Ytkigmocchaikgaa
open Go.RowKit
attribute [local go_sem] w_and w_or w_xor w_andNot w_and1 w_and63 w_add w_sub w_mul w_sub1 w_add1 w_shl w_shl1 w_shr c_beq c_bne c_beq0 c_bne0 c_beq1 c_bne1 wrap_nv

theorem hasC {v m x : BitVec 64} {b : Bool} (h : hasB v m x = b) (w : World) :
    Calls Try.prog 24 #[Bt v m, U x] w fun e w' => e = .returned (.bool b) ∧ Below w.heap.size w w' := h ▸ has_any v m x w
theorem insC {av am bv bm : BitVec 64} {b : Bool} (h : insB av am bv bm = b) (w : World) :
    Calls Try.prog 26 #[Bt av am, Bt bv bm] w fun e w' => e = .returned (.bool b) ∧ Below w.heap.size w w' := h ▸ inside_any av am bv bm w

end Go.Proofs.Ytkigmocchaikgaa

/- Bounds of what is reckoned of two numbers: plain facts. -/
namespace Go.Proofs.Ytkigmocchaikgaa

theorem nv_add (x y : BitVec 64) : nv (badd x y) = (nv x + nv y) % 18446744073709551616 := by
  unfold nv badd; rw [BitVec.toNat_add]; omega
theorem nv_sub (x y : BitVec 64) : nv (bsub x y) = (nv x - nv y) % 18446744073709551616 := by
  rw [← w_sub, IntKind.wrap_u64]
theorem nv_mul (x y : BitVec 64) : nv (bmul x y) = (nv x * nv y) % 18446744073709551616 := by
  rw [← w_mul, IntKind.wrap_u64]
theorem nv_shl (x : BitVec 64) (n : Nat) : nv (bshl x n) = (nv x * 2 ^ n) % 18446744073709551616 := by
  rw [← w_shl, IntKind.wrap_u64]
theorem nv_shr (x : BitVec 64) (n : Nat) : nv (bshr x n) = nv x / 2 ^ n := (w_shr x n).symm

def addB (l h l' h' : BitVec 64) : BitVec 64 × BitVec 64 := if decide (nv (badd l l') < nv l) = decide (nv (badd h h') < nv h) then (badd l l', badd h h') else (zero, top)
def subB (l h l' h' : BitVec 64) : BitVec 64 × BitVec 64 := if decide (nv l < nv h') = decide (nv h < nv l') then (bsub l h', bsub h l') else (zero, top)
def overB (x y : BitVec 64) : Bool := !eqb y zero && decide (18446744073709551615 / nv y < nv x)
def mulB (l h l' h' : BitVec 64) : BitVec 64 × BitVec 64 := if overB h h' then (zero, top) else (bmul l l', bmul h h')
def boundsP (op : Int) (l h l' h' : BitVec 64) : BitVec 64 × BitVec 64 :=
  if op = 2 then addB l h l' h' else if op = 3 then subB l h l' h' else if op = 4 then mulB l h l' h'
  else if op = 5 then (zero, bmin h h') else if op = 6 then (bmax l l', top) else (zero, top)
def shlB (l h : BitVec 64) (n : Nat) : BitVec 64 × BitVec 64 := if eqb (bshr (bshl h n) n) h then (bshl l n, bshl h n) else (zero, top)

theorem ends (x : BitVec 64) : nv zero ≤ nv x ∧ nv x ≤ nv top := by
  rw [nv_zero, nv_top]
  have := nv_nonneg x
  have := nv_lt x
  omega
theorem add_bounds {l h l' h' x y : BitVec 64} (h1 : nv l ≤ nv x) (h2 : nv x ≤ nv h) (h3 : nv l' ≤ nv y) (h4 : nv y ≤ nv h') : nv (addB l h l' h').1 ≤ nv (badd x y) ∧ nv (badd x y) ≤ nv (addB l h l' h').2 := by
  unfold addB
  split
  · rename_i he
    have a1 := nv_nonneg l; have a2 := nv_lt h; have a3 := nv_nonneg l'; have a4 := nv_lt h'
    have he' : nv (badd l l') < nv l ↔ nv (badd h h') < nv h := by simpa using he
    simp only [nv_add] at he' ⊢
    omega
  · exact ends _
theorem sub_bounds {l h l' h' x y : BitVec 64} (h1 : nv l ≤ nv x) (h2 : nv x ≤ nv h) (h3 : nv l' ≤ nv y) (h4 : nv y ≤ nv h') : nv (subB l h l' h').1 ≤ nv (bsub x y) ∧ nv (bsub x y) ≤ nv (subB l h l' h').2 := by
  unfold subB
  split
  · rename_i he
    have a1 := nv_nonneg l; have a2 := nv_lt h; have a3 := nv_nonneg l'; have a4 := nv_lt h'
    have he' : nv l < nv h' ↔ nv h < nv l' := by simpa using he
    simp only [nv_sub]
    omega
  · exact ends _
theorem mul_bounds {l h l' h' x y : BitVec 64} (h1 : nv l ≤ nv x) (h2 : nv x ≤ nv h) (h3 : nv l' ≤ nv y) (h4 : nv y ≤ nv h') : nv (mulB l h l' h').1 ≤ nv (bmul x y) ∧ nv (bmul x y) ≤ nv (mulB l h l' h').2 := by
  unfold mulB
  split
  · exact ends _
  · rename_i ho
    have a1 := nv_nonneg l; have a3 := nv_nonneg l'
    have hx0 : 0 ≤ nv x := by omega
    have hy0 : 0 ≤ nv y := by omega
    have hbig : nv h * nv h' ≤ 18446744073709551615 := by
      unfold overB at ho
      cases hz : eqb h' zero
      · rw [hz] at ho
        simp only [Bool.not_false, Bool.true_and, decide_eq_true_eq, Int.not_lt] at ho
        have hp : 0 < nv h' := by
          have hne : h' ≠ zero := (eqb_false _ _).1 hz
          have : nv h' ≠ 0 := fun e => hne (nv_inj _ _ (by rw [e, nv_zero]))
          have := nv_nonneg h'
          omega
        have hm : nv h * nv h' ≤ (18446744073709551615 / nv h') * nv h' := Int.mul_le_mul_of_nonneg_right ho (by omega)
        have hd : (18446744073709551615 / nv h') * nv h' ≤ 18446744073709551615 := Int.ediv_mul_le _ (by omega)
        omega
      · rw [(eqb_iff _ _).1 hz, nv_zero]; omega
    have hlo : nv l * nv l' ≤ nv x * nv y := Int.mul_le_mul h1 h3 a3 hx0
    have hhi : nv x * nv y ≤ nv h * nv h' := Int.mul_le_mul h2 h4 hy0 (by omega)
    have h00 : 0 ≤ nv l * nv l' := Int.mul_nonneg a1 a3
    simp only [nv_mul]
    generalize nv l * nv l' = p at *
    generalize nv x * nv y = q at *
    generalize nv h * nv h' = r at *
    omega
theorem and_le (x y : BitVec 64) : nv (band x y) ≤ nv x ∧ nv (band x y) ≤ nv y := by
  unfold nv band
  rw [BitVec.toNat_and]
  have h1 : x.toNat &&& y.toNat ≤ x.toNat := Nat.and_le_left
  have h2 : x.toNat &&& y.toNat ≤ y.toNat := Nat.and_le_right
  omega
theorem le_or (x y : BitVec 64) : nv x ≤ nv (bor x y) ∧ nv y ≤ nv (bor x y) := by
  unfold nv bor
  rw [BitVec.toNat_or]
  have h1 : x.toNat ≤ x.toNat ||| y.toNat := Nat.left_le_or
  have h2 : y.toNat ≤ x.toNat ||| y.toNat := Nat.right_le_or
  omega
theorem bounds_sound {op : Int} (hop : 2 ≤ op ∧ op ≤ 7) {l h l' h' x y : BitVec 64} (h1 : nv l ≤ nv x) (h2 : nv x ≤ nv h) (h3 : nv l' ≤ nv y) (h4 : nv y ≤ nv h') :
    nv (boundsP op l h l' h').1 ≤ nv (numB op x y) ∧ nv (numB op x y) ≤ nv (boundsP op l h l' h').2 := by
  rcases op_cases hop with rfl | rfl | rfl | rfl | rfl | rfl
  · exact add_bounds h1 h2 h3 h4
  · exact sub_bounds h1 h2 h3 h4
  · exact mul_bounds h1 h2 h3 h4
  · show nv zero ≤ nv (band x y) ∧ nv (band x y) ≤ nv (bmin h h')
    have ha := and_le x y
    exact ⟨(ends _).1, le_bmin (by omega) (by omega)⟩
  · show nv (bmax l l') ≤ nv (bor x y) ∧ nv (bor x y) ≤ nv top
    have ha := le_or x y
    exact ⟨bmax_le (by omega) (by omega), (ends _).2⟩
  · exact ends _
theorem shr_bounds {l h x : BitVec 64} (n : Nat) (h1 : nv l ≤ nv x) (h2 : nv x ≤ nv h) : nv (bshr l n) ≤ nv (bshr x n) ∧ nv (bshr x n) ≤ nv (bshr h n) := by
  simp only [nv_shr]
  have hp : (0 : Int) < 2 ^ n := Int.pow_pos (by decide)
  exact ⟨Int.ediv_le_ediv hp h1, Int.ediv_le_ediv hp h2⟩
theorem shr_le (x : BitVec 64) (n : Nat) : nv (bshr x n) ≤ nv x := by
  rw [nv_shr]
  exact Int.ediv_le_self _ (nv_nonneg x)
theorem shl_bounds {l h x : BitVec 64} (n : Nat) (h1 : nv l ≤ nv x) (h2 : nv x ≤ nv h) : nv (shlB l h n).1 ≤ nv (bshl x n) ∧ nv (bshl x n) ≤ nv (shlB l h n).2 := by
  unfold shlB
  split
  · rename_i he
    have he' := (eqb_iff _ _).1 he
    have hn : nv (bshr (bshl h n) n) = nv h := by rw [he']
    rw [nv_shr, nv_shl] at hn
    have hp : (0 : Int) < 2 ^ n := Int.pow_pos (by decide)
    have hh0 := nv_nonneg h
    have hlt : nv h * 2 ^ n < 18446744073709551616 := by
      have hd := Int.ediv_mul_le (nv h * 2 ^ n % 18446744073709551616) (b := 2 ^ n) (by omega)
      rw [hn] at hd
      have hm := Int.emod_lt_of_pos (nv h * 2 ^ n) (show (0 : Int) < 18446744073709551616 by decide)
      omega
    have a1 := nv_nonneg l
    have g1 : nv l * 2 ^ n ≤ nv x * 2 ^ n := Int.mul_le_mul_of_nonneg_right h1 (by omega)
    have g2 : nv x * 2 ^ n ≤ nv h * 2 ^ n := Int.mul_le_mul_of_nonneg_right h2 (by omega)
    have g0 : 0 ≤ nv l * 2 ^ n := Int.mul_nonneg a1 (by omega)
    simp only [nv_shl]
    generalize nv l * 2 ^ n = p at *
    generalize nv x * 2 ^ n = q at *
    generalize nv h * 2 ^ n = r at *
    omega
  · exact ends _

/- what is left of both -/
end Go.Proofs.Ytkigmocchaikgaa

/- The contracts of package calc's bounds. -/
namespace Go.Proofs.Ytkigmocchaikgaa
open Go.RowKit
attribute [local go_sem] w_and w_or w_xor w_andNot w_and1 w_and63 w_add w_sub w_mul w_sub1 w_add1 w_shl w_shl1 w_shr c_beq c_bne c_beq0 c_bne0 c_beq1 c_bne1 wrap_nv

set_option maxHeartbeats 1000000 in
theorem addBounds_any (v m l h v' m' l' h' : BitVec 64) (w : World) :
    Calls Try.prog 126 #[Vl v m l h, Vl v' m' l' h'] w fun e w' => e = .returned (.tuple #[U (addB l h l' h').1, U (addB l h l' h').2]) ∧ Below w.heap.size w w' := by
  have Ha : Hid (addB l h l' h' = if decide (nv (badd l l') < nv l) = decide (nv (badd h h') < nv h) then (badd l l', badd h h') else (zero, top)) := rfl
  obtain ⟨p, hp⟩ : ∃ b, decide (nv (badd l l') < nv l) = b := ⟨_, rfl⟩
  obtain ⟨q, hq⟩ : ∃ b, decide (nv (badd h h') < nv h) = b := ⟨_, rfl⟩
  rw [hp, hq] at Ha
  cases p <;> cases q
  all_goals
    go_enter Try.func126, Try.ntmps126
    go_wp2_with fail
    go_quiet (fail)
    go_wp2_with fail
    go_quiet (fail)
    go_wp2_with fail
    go_ret2
    rw [Ha.out]
    exact ⟨rfl, (by repeat (first | exact Below.refl _ _ | assumption | refine below_drewN ?_ _ | refine Below.drew ?_ | refine Below.alloc ?_ (by first | exact Nat.le_refl _ | (simp; done) | (simp; omega) | omega) _ | refine Below.setCell ?_ (by first | exact Nat.le_refl _ | (simp; done) | (simp; omega) | omega) _ | refine Below.trans ?_ (Below.mono (by assumption) (by first | exact Nat.le_refl _ | (simp; done) | (simp; omega) | omega))))⟩
set_option maxHeartbeats 1000000 in
theorem subBounds_any (v m l h v' m' l' h' : BitVec 64) (w : World) :
    Calls Try.prog 127 #[Vl v m l h, Vl v' m' l' h'] w fun e w' => e = .returned (.tuple #[U (subB l h l' h').1, U (subB l h l' h').2]) ∧ Below w.heap.size w w' := by
  have Ha : Hid (subB l h l' h' = if decide (nv l < nv h') = decide (nv h < nv l') then (bsub l h', bsub h l') else (zero, top)) := rfl
  obtain ⟨p, hp⟩ : ∃ b, decide (nv l < nv h') = b := ⟨_, rfl⟩
  obtain ⟨q, hq⟩ : ∃ b, decide (nv h < nv l') = b := ⟨_, rfl⟩
  rw [hp, hq] at Ha
  cases p <;> cases q
  all_goals
    go_enter Try.func127, Try.ntmps127
    go_wp2_with fail
    go_quiet (fail)
    go_wp2_with fail
    first | (go_quiet (fail); go_wp2_with fail) | skip
    go_ret2
    rw [Ha.out]
    exact ⟨rfl, (by repeat (first | exact Below.refl _ _ | assumption | refine below_drewN ?_ _ | refine Below.drew ?_ | refine Below.alloc ?_ (by first | exact Nat.le_refl _ | (simp; done) | (simp; omega) | omega) _ | refine Below.setCell ?_ (by first | exact Nat.le_refl _ | (simp; done) | (simp; omega) | omega) _ | refine Below.trans ?_ (Below.mono (by assumption) (by first | exact Nat.le_refl _ | (simp; done) | (simp; omega) | omega))))⟩
set_option maxRecDepth 100000 in
set_option maxHeartbeats 1000000 in
theorem mulBounds_any (v m l h v' m' l' h' : BitVec 64) (w : World) :
    Calls Try.prog 128 #[Vl v m l h, Vl v' m' l' h'] w fun e w' => e = .returned (.tuple #[U (mulB l h l' h').1, U (mulB l h l' h').2]) ∧ Below w.heap.size w w' := by
  have Ha : Hid (mulB l h l' h' = if overB h h' then (zero, top) else (bmul l l', bmul h h')) := rfl
  have Ho : Hid (overB h h' = (!eqb h' zero && decide (18446744073709551615 / nv h' < nv h))) := rfl
  obtain ⟨z, hz⟩ : ∃ b, eqb h' zero = b := ⟨_, rfl⟩
  rw [hz] at Ho
  rw [Ho.out] at Ha
  cases z
  · have hne : nv h' ≠ 0 := fun e => by
      have := nv_inj h' zero (by rw [e, nv_zero])
      rw [this] at hz; revert hz; decide
    have hpos : 0 < nv h' := by have := nv_nonneg h'; omega
    have hnn : 0 ≤ nv h' := by omega
    have hcv := nv_lt h'
    obtain ⟨D, hD⟩ : ∃ D, 18446744073709551615 / nv h' = D := ⟨_, rfl⟩
    rw [hD] at Ha
    by_cases hd : D < nv h
    · have Hd : Hid (decide (D < nv h) = true) := decide_eq_true hd
      rw [Hd.out] at Ha
      go_enter Try.func128, Try.ntmps128
      go_wp2_with fail
      go_quiet (fail)
      go_wp2_with fail
      go_ret2
      rw [Ha.out]
      exact ⟨rfl, (by repeat (first | exact Below.refl _ _ | assumption | refine below_drewN ?_ _ | refine Below.drew ?_ | refine Below.alloc ?_ (by first | exact Nat.le_refl _ | (simp; done) | (simp; omega) | omega) _ | refine Below.setCell ?_ (by first | exact Nat.le_refl _ | (simp; done) | (simp; omega) | omega) _ | refine Below.trans ?_ (Below.mono (by assumption) (by first | exact Nat.le_refl _ | (simp; done) | (simp; omega) | omega))))⟩
    · have Hd : Hid (decide (D < nv h) = false) := decide_eq_false hd
      rw [Hd.out] at Ha
      have hle : decide (D < nv h) = false := decide_eq_false hd
      clear hd
      go_enter Try.func128, Try.ntmps128
      go_wp2_with fail
      go_quiet (fail)
      go_wp2_with fail
      go_quiet (fail)
      go_wp2_with fail
      go_ret2
      rw [Ha.out]
      exact ⟨rfl, (by repeat (first | exact Below.refl _ _ | assumption | refine below_drewN ?_ _ | refine Below.drew ?_ | refine Below.alloc ?_ (by first | exact Nat.le_refl _ | (simp; done) | (simp; omega) | omega) _ | refine Below.setCell ?_ (by first | exact Nat.le_refl _ | (simp; done) | (simp; omega) | omega) _ | refine Below.trans ?_ (Below.mono (by assumption) (by first | exact Nat.le_refl _ | (simp; done) | (simp; omega) | omega))))⟩
  · go_enter Try.func128, Try.ntmps128
    go_wp2_with fail
    go_quiet (fail)
    go_wp2_with fail
    go_quiet (fail)
    go_wp2_with fail
    go_ret2
    rw [Ha.out]
    exact ⟨rfl, (by repeat (first | exact Below.refl _ _ | assumption | refine below_drewN ?_ _ | refine Below.drew ?_ | refine Below.alloc ?_ (by first | exact Nat.le_refl _ | (simp; done) | (simp; omega) | omega) _ | refine Below.setCell ?_ (by first | exact Nat.le_refl _ | (simp; done) | (simp; omega) | omega) _ | refine Below.trans ?_ (Below.mono (by assumption) (by first | exact Nat.le_refl _ | (simp; done) | (simp; omega) | omega))))⟩

end Go.Proofs.Ytkigmocchaikgaa

/- Boxes: blocks of the call's own, each with the values that it holds; they stay as they are while others work. -/
namespace Go.Proofs.Ytkigmocchaikgaa
open Go.RowKit

def BoxAt (w : World) (b : Nat) (vs : List Value) : Prop :=
  (∀ i v, vs[i]? = some v → w.cell? ⟨b, i, none⟩ = some v) ∧ (∀ i v, vs[i]? = some v → w.frozen? ⟨b, i, none⟩ = false) ∧ b < w.heap.size

def Boxes (w : World) : List (Nat × List Value) → Prop
  | [] => True
  | p :: L => BoxAt w p.1 p.2 ∧ (∀ q, q ∈ L → q.1 < p.1) ∧ Boxes w L

theorem BoxAt.keep {w w' : World} {b : Nat} {vs : List Value} (h : BoxAt w b vs) (hb : Below w.heap.size w w') : BoxAt w' b vs :=
  ⟨fun i v e => (hb.cell (p := ⟨b, i, none⟩) h.2.2).trans (h.1 i v e), fun i v e => (hb.frozen (p := ⟨b, i, none⟩) h.2.2).trans (h.2.1 i v e), Nat.lt_of_lt_of_le h.2.2 hb.size⟩
theorem Boxes.keep {w w' : World} : ∀ {L : List (Nat × List Value)}, Boxes w L → Below w.heap.size w w' → Boxes w' L
  | [], _, _ => trivial
  | _ :: _, h, hb => ⟨h.1.keep hb, h.2.1, Boxes.keep h.2.2 hb⟩
theorem Boxes.nil (w : World) : Boxes w [] := trivial
theorem Boxes.lt {w : World} : ∀ {L : List (Nat × List Value)}, Boxes w L → ∀ q, q ∈ L → q.1 < w.heap.size
  | [], _, _, hq => absurd hq (by simp)
  | p :: L, h, q, hq => by
    rcases List.mem_cons.1 hq with e | e
    · rw [e]; exact h.1.2.2
    · exact Boxes.lt h.2.2 q e
theorem Boxes.add {w : World} {L : List (Nat × List Value)} (h : Boxes w L) (cs : List Value) (t : TypeId) : Boxes (w.alloc (.cells cs.toArray t)) ((w.heap.size, cs) :: L) := by
  refine ⟨⟨fun i v e => ?_, fun i v e => ?_, by simp⟩, fun q hq => h.lt q hq, h.keep ((Below.refl _ _).alloc (Nat.le_refl _) _)⟩
  · rw [World.cell?_alloc_new]; simpa using e
  · rw [World.frozen?_alloc_new]
theorem Boxes.add2 {w : World} {L : List (Nat × List Value)} (h : Boxes w L) (x y : Value) (t : TypeId) : Boxes (w.alloc (.cells #[x, y] t)) ((w.heap.size, [x, y]) :: L) := h.add [x, y] t
theorem Boxes.add4 {w : World} {L : List (Nat × List Value)} (h : Boxes w L) (x y z u : Value) (t : TypeId) : Boxes (w.alloc (.cells #[x, y, z, u] t)) ((w.heap.size, [x, y, z, u]) :: L) := h.add [x, y, z, u] t
theorem Boxes.drew {w : World} {L : List (Nat × List Value)} (h : Boxes w L) (n : Nat) : Boxes (w.drewN n) L := h.keep (below_drewN (Below.refl _ _) n)

/- a box is written anew, as a whole -/
theorem BoxAt.other {w : World} {b b' i : Nat} {v : Value} {vs : List Value} (h : BoxAt w b vs) (hne : b ≠ b') : BoxAt (w.setCell ⟨b', i, none⟩ v) b vs := by
  refine ⟨fun j u e => ?_, fun j u e => ?_, by simpa using h.2.2⟩
  · rw [World.cell?_setCell_other _ _ _ _ (by intro h; injection h with h1; exact hne h1.symm)]; exact h.1 j u e
  · rw [World.frozen?_setCell]; exact h.2.1 j u e
theorem Boxes.other {w : World} {b' i : Nat} {v : Value} : ∀ {L : List (Nat × List Value)}, Boxes w L → (∀ q, q ∈ L → q.1 ≠ b') → Boxes (w.setCell ⟨b', i, none⟩ v) L
  | [], _, _ => trivial
  | p :: _, h, hn => ⟨h.1.other (hn p (by simp)), h.2.1, Boxes.other h.2.2 fun q hq => hn q (by simp [hq])⟩
theorem BoxAt.setOne {w : World} {b i : Nat} {v u : Value} {vs : List Value} (h : BoxAt w b vs) (hi : vs[i]? = some u) : BoxAt (w.setCell ⟨b, i, none⟩ v) b (vs.set i v) := by
  have hlt : i < vs.length := by
    rcases Nat.lt_or_ge i vs.length with h1 | h1
    · exact h1
    · rw [List.getElem?_eq_none h1] at hi; cases hi
  refine ⟨fun j y e => ?_, fun j y e => ?_, by simpa using h.2.2⟩
  · by_cases hj : i = j
    · subst hj
      rw [List.getElem?_set_self hlt] at e
      rw [World.cell?_setCell_same _ _ _ (h.1 i u hi)]; exact e
    · rw [List.getElem?_set_ne hj] at e
      rw [World.cell?_setCell_other _ _ _ _ (by intro h; injection h with _ h2; exact hj h2)]; exact h.1 j y e
  · rw [World.frozen?_setCell]
    by_cases hj : i = j
    · subst hj; exact h.2.1 i u hi
    · rw [List.getElem?_set_ne hj] at e; exact h.2.1 j y e
theorem Boxes.setOne {w : World} {b i : Nat} {v u : Value} {vs : List Value} : ∀ {L : List (Nat × List Value)} (k : Nat), Boxes w L → L[k]? = some (b, vs) → vs[i]? = some u → Boxes (w.setCell ⟨b, i, none⟩ v) (L.set k (b, vs.set i v))
  | [], _, _, e, _ => by simp at e
  | p :: L, 0, h, e, hi => by
    simp only [List.getElem?_cons_zero, Option.some.injEq] at e
    subst e
    exact ⟨h.1.setOne hi, h.2.1, h.2.2.other fun q hq => Nat.ne_of_lt (h.2.1 q hq)⟩
  | p :: L, k + 1, h, e, hi => by
    simp only [List.getElem?_cons_succ] at e
    have hm : (b, vs) ∈ L := List.mem_of_getElem? e
    refine ⟨h.1.other (Nat.ne_of_gt (h.2.1 _ hm)), fun q hq => ?_, Boxes.setOne k h.2.2 e hi⟩
    rcases List.mem_or_eq_of_mem_set hq with h1 | h1
    · exact h.2.1 q h1
    · rw [h1]; have := h.2.1 (b, vs) hm; exact this
theorem Boxes.set2 {w : World} {b : Nat} {x y u0 u1 : Value} {L : List (Nat × List Value)} (k : Nat) (h : Boxes w L) (e : L[k]? = some (b, [u0, u1])) :
    Boxes ((w.setCell ⟨b, 0, none⟩ x).setCell ⟨b, 1, none⟩ y) (L.set k (b, [x, y])) := by
  have h1 := Boxes.setOne (i := 0) (v := x) k h e rfl
  have e1 : (L.set k (b, [u0, u1].set 0 x))[k]? = some (b, [x, u1]) := by
    have : k < L.length := by
      rcases Nat.lt_or_ge k L.length with h2 | h2
      · exact h2
      · rw [List.getElem?_eq_none h2] at e; cases e
    rw [List.getElem?_set_self this]; rfl
  have h2 := Boxes.setOne (i := 1) (v := y) k h1 e1 rfl
  rw [List.set_set] at h2
  exact h2
theorem Boxes.set4 {w : World} {b : Nat} {x y z t u0 u1 u2 u3 : Value} {L : List (Nat × List Value)} (k : Nat) (h : Boxes w L) (e : L[k]? = some (b, [u0, u1, u2, u3])) :
    Boxes ((((w.setCell ⟨b, 0, none⟩ x).setCell ⟨b, 1, none⟩ y).setCell ⟨b, 2, none⟩ z).setCell ⟨b, 3, none⟩ t) (L.set k (b, [x, y, z, t])) := by
  have hk : k < L.length := by
    rcases Nat.lt_or_ge k L.length with h2 | h2
    · exact h2
    · rw [List.getElem?_eq_none h2] at e; cases e
  have h1 := Boxes.setOne (i := 0) (v := x) k h e rfl
  have h2 := Boxes.setOne (i := 1) (v := y) (vs := [x, u1, u2, u3]) k h1 (by rw [List.getElem?_set_self hk]; rfl) rfl
  rw [List.set_set] at h2
  have h3 := Boxes.setOne (i := 2) (v := z) (vs := [x, y, u2, u3]) k h2 (by rw [List.getElem?_set_self hk]; rfl) rfl
  rw [List.set_set] at h3
  have h4 := Boxes.setOne (i := 3) (v := t) (vs := [x, y, z, u3]) k h3 (by rw [List.getElem?_set_self hk]; rfl) rfl
  rw [List.set_set] at h4
  exact h4

/- what the walk wants of a box -/
theorem BoxAt.one {w : World} {b : Nat} {x : Value} (h : BoxAt w b [x]) : w.cell? ⟨b, 0, none⟩ = some x ∧ w.frozen? ⟨b, 0, none⟩ = false ∧ b < w.heap.size :=
  ⟨h.1 0 x rfl, h.2.1 0 x rfl, h.2.2⟩
theorem BoxAt.two {w : World} {b : Nat} {x y : Value} (h : BoxAt w b [x, y]) : w.cell? ⟨b, 0, none⟩ = some x ∧ w.cell? ⟨b, 1, none⟩ = some y ∧ w.frozen? ⟨b, 0, none⟩ = false ∧ w.frozen? ⟨b, 1, none⟩ = false ∧ b < w.heap.size :=
  ⟨h.1 0 x rfl, h.1 1 y rfl, h.2.1 0 x rfl, h.2.1 1 y rfl, h.2.2⟩
theorem BoxAt.four {w : World} {b : Nat} {x y z t : Value} (h : BoxAt w b [x, y, z, t]) : w.cell? ⟨b, 0, none⟩ = some x ∧ w.cell? ⟨b, 1, none⟩ = some y ∧ w.cell? ⟨b, 2, none⟩ = some z ∧ w.cell? ⟨b, 3, none⟩ = some t
    ∧ w.frozen? ⟨b, 0, none⟩ = false ∧ w.frozen? ⟨b, 1, none⟩ = false ∧ w.frozen? ⟨b, 2, none⟩ = false ∧ w.frozen? ⟨b, 3, none⟩ = false ∧ b < w.heap.size :=
  ⟨h.1 0 x rfl, h.1 1 y rfl, h.1 2 z rfl, h.1 3 t rfl, h.2.1 0 x rfl, h.2.1 1 y rfl, h.2.1 2 z rfl, h.2.1 3 t rfl, h.2.2⟩
theorem Boxes.head {w : World} {p : Nat × List Value} {L : List (Nat × List Value)} (h : Boxes w (p :: L)) : BoxAt w p.1 p.2 := h.1
theorem Boxes.tail {w : World} {p : Nat × List Value} {L : List (Nat × List Value)} (h : Boxes w (p :: L)) : Boxes w L := h.2.2

/- the call's own boxes, and that nothing older has turned -/
structure Kp (w0 w : World) (L : List (Nat × List Value)) : Prop where
  bel : Below w0.heap.size w0 w
  box : Boxes w L
  lo : ∀ p, p ∈ L → w0.heap.size ≤ p.1
theorem Kp.start (w : World) : Kp w w [] := ⟨Below.refl _ _, trivial, by simp⟩
theorem Kp.keep {w0 w w' : World} {L : List (Nat × List Value)} (h : Kp w0 w L) (hb : Below w.heap.size w w') : Kp w0 w' L := ⟨h.bel.trans (hb.mono h.bel.size), h.box.keep hb, h.lo⟩
theorem Kp.drew {w0 w : World} {L : List (Nat × List Value)} (h : Kp w0 w L) (n : Nat) : Kp w0 (w.drewN n) L := h.keep (below_drewN (Below.refl _ _) n)
theorem Kp.add2 {w0 w : World} {L : List (Nat × List Value)} (h : Kp w0 w L) (x y : Value) (t : TypeId) : Kp w0 (w.alloc (.cells #[x, y] t)) ((w.heap.size, [x, y]) :: L) :=
  ⟨h.bel.alloc h.bel.size _, h.box.add2 x y t, fun p hp => by
    rcases List.mem_cons.1 hp with e | e
    · rw [e]; exact h.bel.size
    · exact h.lo p e⟩
theorem Kp.add4 {w0 w : World} {L : List (Nat × List Value)} (h : Kp w0 w L) (x y z u : Value) (t : TypeId) : Kp w0 (w.alloc (.cells #[x, y, z, u] t)) ((w.heap.size, [x, y, z, u]) :: L) :=
  ⟨h.bel.alloc h.bel.size _, h.box.add4 x y z u t, fun p hp => by
    rcases List.mem_cons.1 hp with e | e
    · rw [e]; exact h.bel.size
    · exact h.lo p e⟩
/- a block that is not kept in mind -/
theorem Kp.skip {w0 w : World} {L : List (Nat × List Value)} (h : Kp w0 w L) (o : Obj) : Kp w0 (w.alloc o) L := h.keep ((Below.refl _ _).alloc (Nat.le_refl _) _)
theorem Kp.set2 {w0 w : World} {b : Nat} {x y u0 u1 : Value} {L : List (Nat × List Value)} (k : Nat) (h : Kp w0 w L) (e : L[k]? = some (b, [u0, u1])) :
    Kp w0 ((w.setCell ⟨b, 0, none⟩ x).setCell ⟨b, 1, none⟩ y) (L.set k (b, [x, y])) := by
  have hlo : w0.heap.size ≤ b := h.lo _ (List.mem_of_getElem? e)
  refine ⟨(h.bel.setCell hlo x).setCell hlo y, h.box.set2 k e, fun p hp => ?_⟩
  rcases List.mem_or_eq_of_mem_set hp with h1 | h1
  · exact h.lo p h1
  · rw [h1]; exact hlo
theorem Kp.set4 {w0 w : World} {b : Nat} {x y z t u0 u1 u2 u3 : Value} {L : List (Nat × List Value)} (k : Nat) (h : Kp w0 w L) (e : L[k]? = some (b, [u0, u1, u2, u3])) :
    Kp w0 ((((w.setCell ⟨b, 0, none⟩ x).setCell ⟨b, 1, none⟩ y).setCell ⟨b, 2, none⟩ z).setCell ⟨b, 3, none⟩ t) (L.set k (b, [x, y, z, t])) := by
  have hlo : w0.heap.size ≤ b := h.lo _ (List.mem_of_getElem? e)
  refine ⟨(((h.bel.setCell hlo x).setCell hlo y).setCell hlo z).setCell hlo t, h.box.set4 k e, fun p hp => ?_⟩
  rcases List.mem_or_eq_of_mem_set hp with h1 | h1
  · exact h.lo p h1
  · rw [h1]; exact hlo

end Go.Proofs.Ytkigmocchaikgaa

/- The contracts of package val's least and greatest. -/
namespace Go.Proofs.Ytkigmocchaikgaa
open Go.RowKit
attribute [local go_sem] w_and w_or w_xor w_andNot w_and1 w_and63 w_add w_sub w_mul w_sub1 w_add1 w_shl w_shl1 w_shr c_beq c_bne c_beq0 c_bne0 c_beq1 c_bne1 wrap_nv
attribute [local go_sem] w_neg w_not

set_option maxHeartbeats 1000000 in
theorem valLeast_any (v m x : BitVec 64) (w : World) :
    Calls Try.prog 82 #[Bt v m, U x] w fun e w' => e = .returned (.tuple #[U (leastV v m x).1, .bool (leastV v m x).2]) ∧ Below w.heap.size w w' := by
  have Hl : Hid (leastV v m x = if eqb (wrongB v m x) zero then (x, true)
    else if nv (band x (restB v m x)) < nv (band v (restB v m x)) then (bor (bandn x (restB v m x)) (band v (restB v m x)), true)
    else if eqb (freeB v m x) zero then (zero, false)
    else (bor (bor (bandn x (bsub (lowB (freeB v m x)) one)) (lowB (freeB v m x))) (band v (bsub (lowB (freeB v m x)) one)), true)) := rfl
  obtain ⟨c1, h1⟩ : ∃ b, eqb (bandn (bxor x v) m) zero = b := ⟨_, rfl⟩
  have H1 : Hid (eqb (wrongB v m x) zero = c1) := h1
  rw [H1.out] at Hl
  cases c1
  · have h64 := blen_le (bandn (bxor x v) m)
    obtain ⟨n, hn⟩ : ∃ n, Hid (blen (bandn (bxor x v) m) = n) := ⟨_, rfl⟩
    have hn64 : n ≤ 64 := by rw [← hn.out]; exact h64
    clear h64
    have Hr : Hid (restB v m x = bsub (bshl one n) one) := by show lowMask (blen (bandn (bxor x v) m)) = _; rw [hn.out]; rfl
    have Hf : Hid (freeB v m x = bandn (bandn m x) (bsub (bshl one n) one)) := by show bandn (bandn m x) (restB v m x) = _; rw [Hr.out]
    rw [Hr.out, Hf.out] at Hl
    go_enter Try.func82, Try.ntmps82
    go_wp2_with fail
    refine (len_u _ _).mono ?_
    rintro e w1 ⟨rfl, rfl⟩
    rw [hn.out]
    by_cases hlt : nv (band x (bsub (bshl one n) one)) < nv (band v (bsub (bshl one n) one))
    · rw [if_pos hlt] at Hl
      go_wp2_with fail
      go_ret2
      rw [Hl.out]
      exact ⟨rfl, (by repeat (first | exact Below.refl _ _ | assumption | refine below_drewN ?_ _ | refine Below.drew ?_ | refine Below.alloc ?_ (by first | exact Nat.le_refl _ | (simp; done) | (simp; omega) | omega) _ | refine Below.setCell ?_ (by first | exact Nat.le_refl _ | (simp; done) | (simp; omega) | omega) _ | refine Below.trans ?_ (Below.mono (by assumption) (by first | exact Nat.le_refl _ | (simp; done) | (simp; omega) | omega))))⟩
    · rw [if_neg hlt] at Hl
      have hle : nv (band v (bsub (bshl one n) one)) ≤ nv (band x (bsub (bshl one n) one)) := by omega
      clear hlt
      obtain ⟨c2, h2⟩ : ∃ b, eqb (bandn (bandn m x) (bsub (bshl one n) one)) zero = b := ⟨_, rfl⟩
      rw [h2] at Hl
      cases c2
      · go_wp2_with fail
        go_ret2
        rw [Hl.out]
        exact ⟨rfl, (by repeat (first | exact Below.refl _ _ | assumption | refine below_drewN ?_ _ | refine Below.drew ?_ | refine Below.alloc ?_ (by first | exact Nat.le_refl _ | (simp; done) | (simp; omega) | omega) _ | refine Below.setCell ?_ (by first | exact Nat.le_refl _ | (simp; done) | (simp; omega) | omega) _ | refine Below.trans ?_ (Below.mono (by assumption) (by first | exact Nat.le_refl _ | (simp; done) | (simp; omega) | omega))))⟩
      · go_wp2_with fail
        go_ret2
        rw [Hl.out]
        exact ⟨rfl, (by repeat (first | exact Below.refl _ _ | assumption | refine below_drewN ?_ _ | refine Below.drew ?_ | refine Below.alloc ?_ (by first | exact Nat.le_refl _ | (simp; done) | (simp; omega) | omega) _ | refine Below.setCell ?_ (by first | exact Nat.le_refl _ | (simp; done) | (simp; omega) | omega) _ | refine Below.trans ?_ (Below.mono (by assumption) (by first | exact Nat.le_refl _ | (simp; done) | (simp; omega) | omega))))⟩
  · go_enter Try.func82, Try.ntmps82
    go_wp2_with fail
    go_ret2
    rw [Hl.out]
    exact ⟨rfl, (by repeat (first | exact Below.refl _ _ | assumption | refine below_drewN ?_ _ | refine Below.drew ?_ | refine Below.alloc ?_ (by first | exact Nat.le_refl _ | (simp; done) | (simp; omega) | omega) _ | refine Below.setCell ?_ (by first | exact Nat.le_refl _ | (simp; done) | (simp; omega) | omega) _ | refine Below.trans ?_ (Below.mono (by assumption) (by first | exact Nat.le_refl _ | (simp; done) | (simp; omega) | omega))))⟩

set_option maxHeartbeats 1000000 in
theorem valGreat_any (v m x : BitVec 64) (w : World) :
    Calls Try.prog 83 #[Bt v m, U x] w fun e w' => e = .returned (.tuple #[U (greatV v m x).1, .bool (greatV v m x).2]) ∧ Below w.heap.size w w' := by
  have Hg : Hid (greatV v m x = if (leastV (turn v m) m (bnot x)).2 then (bnot (leastV (turn v m) m (bnot x)).1, true) else (zero, false)) := rfl
  have Hc : Hid (∀ w, Calls Try.prog 82 #[Bt (bnot (bor v m)) m, U (bnot x)] w fun e w' => e = .returned (.tuple #[U (leastV (turn v m) m (bnot x)).1, .bool (leastV (turn v m) m (bnot x)).2]) ∧ Below w.heap.size w w') := fun w => valLeast_any (turn v m) m (bnot x) w
  generalize leastV (turn v m) m (bnot x) = S at Hg Hc
  obtain ⟨sb, sf⟩ := S
  cases sf
  all_goals
    go_enter Try.func83, Try.ntmps83
    go_wp2_with fail
    refine (Hc.out _).mono ?_
    rintro e w1 ⟨rfl, hb1⟩
    go_wp2_with fail
    go_ret2
    rw [Hg.out]
    exact ⟨rfl, (by repeat (first | exact Below.refl _ _ | assumption | refine below_drewN ?_ _ | refine Below.drew ?_ | refine Below.alloc ?_ (by first | exact Nat.le_refl _ | (simp; done) | (simp; omega) | omega) _ | refine Below.setCell ?_ (by first | exact Nat.le_refl _ | (simp; done) | (simp; omega) | omega) _ | refine Below.trans ?_ (Below.mono (by assumption) (by first | exact Nat.le_refl _ | (simp; done) | (simp; omega) | omega))))⟩

end Go.Proofs.Ytkigmocchaikgaa

/- The contracts of package val's Norm and Check. -/
namespace Go.Proofs.Ytkigmocchaikgaa
open Go.RowKit
attribute [local go_sem] w_and w_or w_xor w_andNot w_and1 w_and63 w_add w_sub w_mul w_sub1 w_add1 w_shl w_shl1 w_shr c_beq c_bne c_beq0 c_bne0 c_beq1 c_bne1 wrap_nv

abbrev V0 : Value := Vl zero zero zero zero
set_option maxHeartbeats 1000000 in
theorem norm_none {v m l h : BitVec 64} (hr : Hid (eqb (band v m) zero = true)) (ho : Hid (normOk v m l h = false)) (w : World) :
    Calls Try.prog 31 #[Vl v m l h] w fun e w' => e = .returned (.tuple #[V0, .bool false, N 0]) ∧ Below w.heap.size w w' := by
  have HL : Hid (∀ w, Calls Try.prog 82 #[Bt v m, U l] w fun e w' => e = .returned (.tuple #[U (leastV v m l).1, .bool (leastV v m l).2]) ∧ Below w.heap.size w w') := fun w => valLeast_any v m l w
  have HG : Hid (∀ w, Calls Try.prog 83 #[Bt v m, U h] w fun e w' => e = .returned (.tuple #[U (greatV v m h).1, .bool (greatV v m h).2]) ∧ Below w.heap.size w w') := fun w => valGreat_any v m h w
  have Ho : Hid (((leastV v m l).2 && ((greatV v m h).2 && decide (nv (leastV v m l).1 ≤ nv (greatV v m h).1))) = false) := ho
  clear ho
  generalize leastV v m l = L at HL Ho
  generalize greatV v m h = G at HG Ho
  obtain ⟨lo, lb⟩ := L
  obtain ⟨hi, gb⟩ := G
  go_enter Try.func31, Try.ntmps31
  go_wp2_with fail
  refine (check_any hr _).mono ?_
  rintro e w1 ⟨rfl, hb1⟩
  have hK := (((Kp.start w).add4 _ _ _ _ _).add4 _ _ _ _ _).keep hb1
  simp only [World.size_alloc] at hK
  obtain ⟨r0, r1, r2, r3, r4, r5, r6, r7, r8⟩ := hK.box.head.four
  obtain ⟨a0, a1, a2, a3, a4, a5, a6, a7, a8⟩ := hK.box.tail.head.four
  first | rw [er_t] | rw [er_f]
  go_wp2_with fail
  refine (HL.out _).mono ?_
  rintro e w2 ⟨rfl, hb2⟩
  have hK2 := hK.keep hb2
  clear r0 r1 r2 r3 r4 r5 r6 r7 r8 a0 a1 a2 a3 a4 a5 a6 a7 a8
  obtain ⟨r0, r1, r2, r3, r4, r5, r6, r7, r8⟩ := hK2.box.head.four
  obtain ⟨a0, a1, a2, a3, a4, a5, a6, a7, a8⟩ := hK2.box.tail.head.four
  go_wp2_with fail
  refine (HG.out _).mono ?_
  rintro e w3 ⟨rfl, hb3⟩
  have hK3 := hK2.keep hb3
  clear r0 r1 r2 r3 r4 r5 r6 r7 r8 a0 a1 a2 a3 a4 a5 a6 a7 a8
  obtain ⟨r0, r1, r2, r3, r4, r5, r6, r7, r8⟩ := hK3.box.head.four
  obtain ⟨a0, a1, a2, a3, a4, a5, a6, a7, a8⟩ := hK3.box.tail.head.four
  cases lb
  · go_wp2_with fail
    exact bodyPost_ret (v := .tuple #[V0, .bool false, N 0]) (by simp [results, Try.results31, go_sem, nv_zero, r0, r1, r2, r3]) rfl ⟨rfl, (hK3.set4 0 rfl).bel⟩
  · cases gb
    · go_wp2_with fail
      exact bodyPost_ret (v := .tuple #[V0, .bool false, N 0]) (by simp [results, Try.results31, go_sem, nv_zero, r0, r1, r2, r3]) rfl ⟨rfl, (hK3.set4 0 rfl).bel⟩
    · have hlt : nv hi < nv lo := by
        have := Ho.out
        simp only [Bool.true_and, decide_eq_false_iff_not] at this
        omega
      clear Ho
      go_wp2_with fail
      exact bodyPost_ret (v := .tuple #[V0, .bool false, N 0]) (by simp [results, Try.results31, go_sem, nv_zero, r0, r1, r2, r3]) rfl ⟨rfl, (hK3.set4 0 rfl).bel⟩

theorem both_right {v m v' m' : BitVec 64} (h1 : RtB v m) (h2 : RtB v' m') : Hid ((eqb (band v m) zero && eqb (band v' m') zero) = true) := by
  show _ = true
  rw [(rt_iff _ _).2 h1, (rt_iff _ _).2 h2]; rfl
set_option maxHeartbeats 1000000 in
theorem norm_yes {v m l h : BitVec 64} (hr : Hid (eqb (band v m) zero = true)) (ho : Hid (normOk v m l h = true)) (w : World) :
    Calls Try.prog 31 #[Vl v m l h] w fun e w' => e = .returned (.tuple #[Vl (nV v m l h) (nM m (nLo v m l) (nHi v m h)) (nLo v m l) (nHi v m h), .bool true, N 0]) ∧ Below w.heap.size w w' := by
  have hrt := (rt_iff v m).1 hr.out
  have hfa := norm_facts hrt ho.out
  have ho' := ho.out
  unfold normOk at ho'
  simp only [Bool.and_eq_true] at ho'
  have HL : Hid (∀ w, Calls Try.prog 82 #[Bt v m, U l] w fun e w' => e = .returned (.tuple #[U (nLo v m l), .bool true]) ∧ Below w.heap.size w w') := fun w => by
    have := valLeast_any v m l w; rw [ho'.1] at this; exact this
  have HG : Hid (∀ w, Calls Try.prog 83 #[Bt v m, U h] w fun e w' => e = .returned (.tuple #[U (nHi v m h), .bool true]) ∧ Below w.heap.size w w') := fun w => by
    have := valGreat_any v m h w; rw [ho'.2.1] at this; exact this
  have HS : Hid (∀ w, Calls Try.prog 16 #[U (nLo v m l), U (nHi v m h)] w fun e w' => e = .returned (.tuple #[Bt (spV (nLo v m l) (nHi v m h)) (sM (nLo v m l) (nHi v m h)), N 0]) ∧ Below w.heap.size w w') := fun w => span_ok hfa.2.2.1 w
  have HM : Hid (∀ w, Calls Try.prog 14 #[Bt v m, Bt (spV (nLo v m l) (nHi v m h)) (sM (nLo v m l) (nHi v m h))] w fun e w' => e = .returned (.tuple #[Bt (nV v m l h) (nM m (nLo v m l) (nHi v m h)), .bool true, N 0]) ∧ Below w.heap.size w w') := fun w =>
    meet_ok (both_right hrt (span_rt _ _)) (meet_span hrt hfa.1 (Int.le_refl _) hfa.2.2.1) w
  have hle := hfa.2.2.1
  clear hfa ho' ho hrt
  generalize nV v m l h = rv at HM ⊢
  generalize nM m (nLo v m l) (nHi v m h) = rm at HM ⊢
  generalize spV (nLo v m l) (nHi v m h) = sv at HM HS
  generalize sM (nLo v m l) (nHi v m h) = sm at HM HS
  generalize nLo v m l = lo at HL HS hle ⊢
  generalize nHi v m h = hi at HG HS hle ⊢
  go_enter Try.func31, Try.ntmps31
  go_wp2_with fail
  refine (check_any hr _).mono ?_
  rintro e w1 ⟨rfl, hb1⟩
  have hK := (((Kp.start w).add4 _ _ _ _ _).add4 _ _ _ _ _).keep hb1
  simp only [World.size_alloc] at hK
  obtain ⟨r0, r1, r2, r3, r4, r5, r6, r7, r8⟩ := hK.box.head.four
  obtain ⟨a0, a1, a2, a3, a4, a5, a6, a7, a8⟩ := hK.box.tail.head.four
  first | rw [er_t] | rw [er_f]
  go_wp2_with fail
  refine (HL.out _).mono ?_
  rintro e w2 ⟨rfl, hb2⟩
  have hK2 := hK.keep hb2
  clear r0 r1 r2 r3 r4 r5 r6 r7 r8 a0 a1 a2 a3 a4 a5 a6 a7 a8
  obtain ⟨r0, r1, r2, r3, r4, r5, r6, r7, r8⟩ := hK2.box.head.four
  obtain ⟨a0, a1, a2, a3, a4, a5, a6, a7, a8⟩ := hK2.box.tail.head.four
  go_wp2_with fail
  refine (HG.out _).mono ?_
  rintro e w3 ⟨rfl, hb3⟩
  have hK3 := hK2.keep hb3
  clear r0 r1 r2 r3 r4 r5 r6 r7 r8 a0 a1 a2 a3 a4 a5 a6 a7 a8
  obtain ⟨r0, r1, r2, r3, r4, r5, r6, r7, r8⟩ := hK3.box.head.four
  obtain ⟨a0, a1, a2, a3, a4, a5, a6, a7, a8⟩ := hK3.box.tail.head.four
  go_wp2_with fail
  refine (HS.out _).mono ?_
  rintro e w4 ⟨rfl, hb4⟩
  have hK4 := hK3.keep hb4
  clear r0 r1 r2 r3 r4 r5 r6 r7 r8 a0 a1 a2 a3 a4 a5 a6 a7 a8
  obtain ⟨r0, r1, r2, r3, r4, r5, r6, r7, r8⟩ := hK4.box.head.four
  obtain ⟨a0, a1, a2, a3, a4, a5, a6, a7, a8⟩ := hK4.box.tail.head.four
  go_wp2_with fail
  refine (HM.out _).mono ?_
  rintro e w5 ⟨rfl, hb5⟩
  have hK5 := (hK4.add2 _ _ _).keep hb5
  clear r0 r1 r2 r3 r4 r5 r6 r7 r8 a0 a1 a2 a3 a4 a5 a6 a7 a8
  obtain ⟨s0, s1, s2, s3, s4⟩ := hK5.box.head.two
  obtain ⟨r0, r1, r2, r3, r4, r5, r6, r7, r8⟩ := hK5.box.tail.head.four
  obtain ⟨a0, a1, a2, a3, a4, a5, a6, a7, a8⟩ := hK5.box.tail.tail.head.four
  go_wp2_with fail
  exact bodyPost_ret (v := .tuple #[Vl rv rm lo hi, .bool true, N 0]) (by simp [results, Try.results31, go_sem, r0, r1, r2, r3, r8]) rfl ⟨rfl, ((hK5.set4 1 rfl).add2 _ _ _).bel⟩

end Go.Proofs.Ytkigmocchaikgaa

/- The contracts of the reference's least and greatest. -/
namespace Go.Proofs.Ytkigmocchaikgaa
open Go.RowKit
attribute [local go_sem] w_and w_or w_xor w_andNot w_and1 w_and63 w_add w_sub w_mul w_sub1 w_add1 w_shl w_shl1 w_shr c_beq c_bne c_beq0 c_bne0 c_beq1 c_bne1 wrap_nv

theorem shr_and0 (v : BitVec 64) (i : Nat) : eqb (band (bshr v i) one) zero = !bit v i := by
  cases hb : bit v i
  · have h : ∀ j, bit (band (bshr v i) one) j = false := by
      intro j
      rw [bit_and', bit_shr]
      have ho : bit one j = decide (j = 0) := by
        have := bit_one_shl 0 j (by omega)
        rw [show bshl one 0 = one by unfold bshl; simp] at this
        exact this
      rw [ho]
      by_cases e : j = 0
      · subst e; rw [Nat.add_zero, hb]; rfl
      · simp [e]
    rw [(eqb_zero_iff _).2 fun j _ => h j]; rfl
  · have := shr_and1 v i
    rw [hb, eqb_iff] at this
    rw [this]; rfl
theorem has_is {v m x : BitVec 64} {b : Bool} (h : hasB v m x = b) (w : World) :
    Calls Try.prog 25 #[Bt v m, U x] w fun e w' => e = .returned (.bool b) ∧ Below w.heap.size w w' := h ▸ bitsHave_any v m x w

set_option maxRecDepth 100000 in
set_option maxHeartbeats 1000000 in
theorem refLeast_any (v m x : BitVec 64) (w : World) :
    Calls Try.prog 84 #[Bt v m, U x] w fun e w' => e = .returned (.tuple #[U (scanL v m x 64).1, .bool (scanL v m x 64).2]) ∧ Below w.heap.size w w' := by
  obtain ⟨hh, Hh⟩ : ∃ b, Hid (hasB v m x = b) := ⟨_, rfl⟩
  go_enter Try.func84, Try.ntmps84
  go_wp2_with fail
  refine (has_is Hh.out _).mono ?_
  rintro e w1 ⟨rfl, hb1⟩
  have hK := ((Kp.start w).add2 _ _ _).keep hb1
  go_wp2_with fail
  go_loopw [6, 7, 8] (fun b f i wr => ∃ k : Nat, k ≤ 64 ∧ i = N k ∧ b = U (scanL v m x k).1 ∧ f = .bool (scanL v m x k).2 ∧ Kp w wr [(w.heap.size, [U v, U m])]) (fun _ _ i _ => 64 - (intOf i).toNat)
  case atStart => exact ⟨0, by omega, rfl, rfl, by rw [scanL, Hh.out], hK⟩
  case round =>
    clear hK hb1
    obtain ⟨k, hk, rfl, rfl, rfl, hK⟩ := hrel
    obtain ⟨a0, a1, a2, a3, a4⟩ := hK.box.head.two
    have Hs : Hid (k < 64 → scanL v m x (k + 1) = if (scanL v m x k).2 then scanL v m x k else if okL v m x k then (candL v x k, true) else scanL v m x k) := fun _ => rfl
    have Ht : Hid ((scanL v m x k).2 = true → scanL v m x 64 = scanL v m x k) := fun h => scanL_stay v m x k 64 h hk
    have Hu : Hid (k = 64 → scanL v m x 64 = scanL v m x k) := fun h => by rw [h]
    generalize scanL v m x k = S at Hs Ht Hu ⊢
    obtain ⟨sb, sf⟩ := S
    by_cases hlt : k < 64
    · cases sf
      · have hA := shr_and1 x k
        have Hn := Hs.out hlt
        have Hok : Hid (okL v m x k = (!bit x k && hasB v m (candL v x k))) := rfl
        clear Hs Ht Hu
        have Hn : Hid _ := Hn
        obtain ⟨bx, hbx⟩ : ∃ b, Hid (bit x k = b) := ⟨_, rfl⟩
        rw [hbx.out] at hA Hok
        obtain ⟨bc, hbc⟩ : ∃ b, Hid (hasB v m (candL v x k) = b) := ⟨_, rfl⟩
        rw [hbc.out] at Hok
        cases bx
        · go_wp2_with fail
          go_quiet (fail)
          go_wp2_with fail
          go_quiet (fail)
          go_wp2_with fail
          refine (has_is (b := bc) hbc.out _).mono ?_
          rintro e w2 ⟨rfl, hb2⟩
          have hK2 := (hK.drew _).keep hb2
          cases bc
          · go_wp2_with fail
            exact ⟨⟨k + 1, by omega, by go_num, by rw [Hn.out, Hok.out]; rfl, by rw [Hn.out, Hok.out]; rfl, hK2⟩, by simp [intOf]; omega⟩
          · go_wp2_with fail
            exact ⟨⟨k + 1, by omega, by go_num, by rw [Hn.out, Hok.out]; rfl, by rw [Hn.out, Hok.out]; rfl, hK2⟩, by simp [intOf]; omega⟩
        · go_wp2_with fail
          exact ⟨⟨k + 1, by omega, by go_num, by rw [Hn.out, Hok.out]; rfl, by rw [Hn.out, Hok.out]; rfl, hK⟩, by simp [intOf]; omega⟩
      · have He : Hid _ := Ht.out rfl
        clear Hs Ht Hu
        go_wp2_with fail
        go_ret2
        rw [He.out]
        exact ⟨rfl, hK.bel⟩
    · have hk64 : k = 64 := by omega
      have He : Hid _ := Hu.out hk64
      clear Hs Ht Hu
      subst hk64
      go_wp2_with fail
      go_ret2
      rw [He.out]
      exact ⟨rfl, hK.bel⟩

set_option maxRecDepth 100000 in
set_option maxHeartbeats 1000000 in
theorem refGreat_any (v m x : BitVec 64) (w : World) :
    Calls Try.prog 85 #[Bt v m, U x] w fun e w' => e = .returned (.tuple #[U (scanG v m x 64).1, .bool (scanG v m x 64).2]) ∧ Below w.heap.size w w' := by
  obtain ⟨hh, Hh⟩ : ∃ b, Hid (hasB v m x = b) := ⟨_, rfl⟩
  go_enter Try.func85, Try.ntmps85
  go_wp2_with fail
  refine (has_is Hh.out _).mono ?_
  rintro e w1 ⟨rfl, hb1⟩
  have hK := ((Kp.start w).add2 _ _ _).keep hb1
  go_wp2_with fail
  go_loopw [6, 7, 8] (fun b f i wr => ∃ k : Nat, k ≤ 64 ∧ i = N k ∧ b = U (scanG v m x k).1 ∧ f = .bool (scanG v m x k).2 ∧ Kp w wr [(w.heap.size, [U v, U m])]) (fun _ _ i _ => 64 - (intOf i).toNat)
  case atStart => exact ⟨0, by omega, rfl, rfl, by rw [scanG, Hh.out], hK⟩
  case round =>
    clear hK hb1
    obtain ⟨k, hk, rfl, rfl, rfl, hK⟩ := hrel
    obtain ⟨a0, a1, a2, a3, a4⟩ := hK.box.head.two
    have Hs : Hid (k < 64 → scanG v m x (k + 1) = if (scanG v m x k).2 then scanG v m x k else if okG v m x k then (candG v m x k, true) else scanG v m x k) := fun _ => rfl
    have Ht : Hid ((scanG v m x k).2 = true → scanG v m x 64 = scanG v m x k) := fun h => scanG_stay v m x k 64 h hk
    have Hu : Hid (k = 64 → scanG v m x 64 = scanG v m x k) := fun h => by rw [h]
    generalize scanG v m x k = S at Hs Ht Hu ⊢
    obtain ⟨sb, sf⟩ := S
    by_cases hlt : k < 64
    · cases sf
      · have hA := shr_and0 x k
        have Hn := Hs.out hlt
        have Hok : Hid (okG v m x k = (bit x k && hasB v m (candG v m x k))) := rfl
        clear Hs Ht Hu
        have Hn : Hid _ := Hn
        obtain ⟨bx, hbx⟩ : ∃ b, Hid (bit x k = b) := ⟨_, rfl⟩
        rw [hbx.out] at hA Hok
        obtain ⟨bc, hbc⟩ : ∃ b, Hid (hasB v m (candG v m x k) = b) := ⟨_, rfl⟩
        rw [hbc.out] at Hok
        cases bx
        · go_wp2_with fail
          exact ⟨⟨k + 1, by omega, by go_num, by rw [Hn.out, Hok.out]; rfl, by rw [Hn.out, Hok.out]; rfl, hK⟩, by simp [intOf]; omega⟩
        · go_wp2_with fail
          go_quiet (fail)
          go_wp2_with fail
          refine (has_is (b := bc) hbc.out _).mono ?_
          rintro e w2 ⟨rfl, hb2⟩
          have hK2 := (hK.drew _).keep hb2
          cases bc
          · go_wp2_with fail
            exact ⟨⟨k + 1, by omega, by go_num, by rw [Hn.out, Hok.out]; rfl, by rw [Hn.out, Hok.out]; rfl, hK2⟩, by simp [intOf]; omega⟩
          · go_wp2_with fail
            exact ⟨⟨k + 1, by omega, by go_num, by rw [Hn.out, Hok.out]; rfl, by rw [Hn.out, Hok.out]; rfl, hK2⟩, by simp [intOf]; omega⟩
      · have He : Hid _ := Ht.out rfl
        clear Hs Ht Hu
        go_wp2_with fail
        go_ret2
        rw [He.out]
        exact ⟨rfl, hK.bel⟩
    · have hk64 : k = 64 := by omega
      have He : Hid _ := Hu.out hk64
      clear Hs Ht Hu
      subst hk64
      go_wp2_with fail
      go_ret2
      rw [He.out]
      exact ⟨rfl, hK.bel⟩

end Go.Proofs.Ytkigmocchaikgaa

/- The contracts of the reference's loops over the 64 bits. -/
namespace Go.Proofs.Ytkigmocchaikgaa
open Go.RowKit
attribute [local go_sem] w_and w_or w_xor w_andNot w_and1 w_and63 w_add w_sub w_mul w_sub1 w_add1 w_shl w_shl1 w_shr c_beq c_bne c_beq0 c_bne0 c_beq1 c_bne1 wrap_nv

set_option maxHeartbeats 600000 in
theorem meetBits_ok (av am bv bm : BitVec 64) (hok : Hid (∀ j, j < 64 → meetOk av am bv bm j = true)) (w : World) :
    Calls Try.prog 19 #[Bt av am, Bt bv bm] w fun e w' => e = .returned (.tuple #[Bt (meetV av am bv bm 64) (meetM av am bv bm 64), .bool true]) ∧ Below w.heap.size w w' := by
  go_enter Try.func19, Try.ntmps19
  go_wp2
  go_loopw [7] (fun i wr => ∃ k : Nat, k ≤ 64 ∧ i = N k
      ∧ Below (w.heap.size + 1 + 1 + 1) (((w.alloc (.cells #[U av, U am] 24)).alloc (.cells #[U bv, U bm] 24)).alloc (.cells #[.int .u64 0, .int .u64 0] 24)) wr
      ∧ wr.cell? ⟨w.heap.size + 1 + 1 + 1, 0, none⟩ = some (U (meetV av am bv bm k)) ∧ wr.cell? ⟨w.heap.size + 1 + 1 + 1, 1, none⟩ = some (U (meetM av am bv bm k))
      ∧ (∀ o, wr.frozen? ⟨w.heap.size + 1 + 1 + 1, o, none⟩ = false)
      ∧ w.heap.size + 1 + 1 + 1 + 1 ≤ wr.heap.size) (fun i _ => 64 - (intOf i).toNat)
  case atStart =>
    exact ⟨0, by omega, rfl, (by repeat (first | exact Below.refl _ _ | assumption | refine below_drewN ?_ _ | refine Below.drew ?_ | refine Below.alloc ?_ (by first | exact Nat.le_refl _ | (simp; done) | (simp; omega) | omega) _ | refine Below.setCell ?_ (by first | exact Nat.le_refl _ | (simp; done) | (simp; omega) | omega) _ | refine Below.trans ?_ (Below.mono (by assumption) (by first | exact Nat.le_refl _ | (simp; done) | (simp; omega) | omega)))), by simp [meetV, acc, nv_zero, go_sem], by simp [meetM, acc, nv_zero, go_sem], by simp [go_sem], by simp⟩
  case round =>
    obtain ⟨k, hk, rfl, hbel, ho0, ho1, hfo, hsz⟩ := hrel
    obtain ⟨hc, hf⟩ := bl hbel
    by_cases hlt : k < 64
    · obtain ⟨z1, o1, H1, H2⟩ := may_eq av am k
      obtain ⟨z2, o2, H3, H4⟩ := may_eq bv bm k
      have Hok : Hid (((z1 && z2) || (o1 && o2)) = true) := by rw [H1.out, H2.out, H3.out, H4.out]; exact hok.out k hlt
      go_wp2_with fail
      refine (may_any hlt H1 H2 _).mono ?_
      rintro e w1 ⟨rfl, hb1⟩
      obtain ⟨hc1, hf1, hs1⟩ := bk _ hb1 hsz
      go_wp2_with fail
      refine (may_any hlt H3 H4 _).mono ?_
      rintro e w2 ⟨rfl, hb2⟩
      obtain ⟨hc2, hf2, hs2⟩ := bk _ hb2 hs1
      cases z1 <;> cases o1 <;> cases z2 <;> cases o2 <;> first
        | exact absurd Hok.out (by decide)
        | (clear Hok
           go_wp2_with fail
           refine (put_any _ _ k hlt _ _ _).mono ?_
           rintro e w3 ⟨rfl, hb3⟩
           obtain ⟨hc3, hf3, hs3⟩ := bk _ hb3 hs2
           go_wp2_with fail
           exact ⟨⟨k + 1, by omega, by go_num, out_rel hbel ((hb1.trans (hb2.mono hb1.size)).trans (hb3.mono (Nat.le_trans hb1.size hb2.size))) hsz ho0 ho1 hfo
             (by rw [← meetV_succ, ← H1.out, ← H2.out, ← H3.out, ← H4.out]; rfl) (by rw [← meetM_succ, ← H1.out, ← H2.out, ← H3.out, ← H4.out]; rfl)⟩, by simp [intOf]; omega⟩)
    · have hk64 : k = 64 := by omega
      subst hk64
      go_wp2_with fail
      exact bodyPost_ret (v := .tuple #[Bt (meetV av am bv bm 64) (meetM av am bv bm 64), .bool true]) (by simp [results, Try.results19, go_sem, hc]) rfl ⟨rfl, (by repeat (first | exact Below.refl _ _ | assumption | refine below_drewN ?_ _ | refine Below.drew ?_ | refine Below.alloc ?_ (by first | exact Nat.le_refl _ | (simp; done) | (simp; omega) | omega) _ | refine Below.setCell ?_ (by first | exact Nat.le_refl _ | (simp; done) | (simp; omega) | omega) _ | refine Below.trans ?_ (Below.mono (by assumption) (by first | exact Nat.le_refl _ | (simp; done) | (simp; omega) | omega))))⟩

set_option maxHeartbeats 600000 in
theorem meetBits_no (av am bv bm : BitVec 64) (j0 : Nat) (hj : j0 < 64) (hno : Hid (meetOk av am bv bm j0 = false)) (hok : Hid (∀ j, j < j0 → meetOk av am bv bm j = true)) (w : World) :
    Calls Try.prog 19 #[Bt av am, Bt bv bm] w fun e w' => e = .returned (.tuple #[Bt zero zero, .bool false]) ∧ Below w.heap.size w w' := by
  go_enter Try.func19, Try.ntmps19
  go_wp2
  go_loopw [7] (fun i wr => ∃ k : Nat, k ≤ j0 ∧ i = N k
      ∧ Below (w.heap.size + 1 + 1 + 1) (((w.alloc (.cells #[U av, U am] 24)).alloc (.cells #[U bv, U bm] 24)).alloc (.cells #[.int .u64 0, .int .u64 0] 24)) wr
      ∧ wr.cell? ⟨w.heap.size + 1 + 1 + 1, 0, none⟩ = some (U (meetV av am bv bm k)) ∧ wr.cell? ⟨w.heap.size + 1 + 1 + 1, 1, none⟩ = some (U (meetM av am bv bm k))
      ∧ (∀ o, wr.frozen? ⟨w.heap.size + 1 + 1 + 1, o, none⟩ = false)
      ∧ w.heap.size + 1 + 1 + 1 + 1 ≤ wr.heap.size) (fun i _ => 64 - (intOf i).toNat)
  case atStart =>
    exact ⟨0, by omega, rfl, (by repeat (first | exact Below.refl _ _ | assumption | refine below_drewN ?_ _ | refine Below.drew ?_ | refine Below.alloc ?_ (by first | exact Nat.le_refl _ | (simp; done) | (simp; omega) | omega) _ | refine Below.setCell ?_ (by first | exact Nat.le_refl _ | (simp; done) | (simp; omega) | omega) _ | refine Below.trans ?_ (Below.mono (by assumption) (by first | exact Nat.le_refl _ | (simp; done) | (simp; omega) | omega)))), by simp [meetV, acc, nv_zero, go_sem], by simp [meetM, acc, nv_zero, go_sem], by simp [go_sem], by simp⟩
  case round =>
    obtain ⟨k, hk, rfl, hbel, ho0, ho1, hfo, hsz⟩ := hrel
    obtain ⟨hc, hf⟩ := bl hbel
    have hlt : k < 64 := by omega
    obtain ⟨z1, o1, H1, H2⟩ := may_eq av am k
    obtain ⟨z2, o2, H3, H4⟩ := may_eq bv bm k
    by_cases hlj : k < j0
    · have Hok : Hid (((z1 && z2) || (o1 && o2)) = true) := by rw [H1.out, H2.out, H3.out, H4.out]; exact hok.out k hlj
      go_wp2_with fail
      refine (may_any hlt H1 H2 _).mono ?_
      rintro e w1 ⟨rfl, hb1⟩
      obtain ⟨hc1, hf1, hs1⟩ := bk _ hb1 hsz
      go_wp2_with fail
      refine (may_any hlt H3 H4 _).mono ?_
      rintro e w2 ⟨rfl, hb2⟩
      obtain ⟨hc2, hf2, hs2⟩ := bk _ hb2 hs1
      cases z1 <;> cases o1 <;> cases z2 <;> cases o2 <;> first
        | exact absurd Hok.out (by decide)
        | (clear Hok
           go_wp2_with fail
           refine (put_any _ _ k hlt _ _ _).mono ?_
           rintro e w3 ⟨rfl, hb3⟩
           obtain ⟨hc3, hf3, hs3⟩ := bk _ hb3 hs2
           go_wp2_with fail
           exact ⟨⟨k + 1, by omega, by go_num, out_rel hbel ((hb1.trans (hb2.mono hb1.size)).trans (hb3.mono (Nat.le_trans hb1.size hb2.size))) hsz ho0 ho1 hfo
             (by rw [← meetV_succ, ← H1.out, ← H2.out, ← H3.out, ← H4.out]; rfl) (by rw [← meetM_succ, ← H1.out, ← H2.out, ← H3.out, ← H4.out]; rfl)⟩, by simp [intOf]; omega⟩)
    · have ek : k = j0 := by omega
      have Hno : Hid (((z1 && z2) || (o1 && o2)) = false) := by rw [H1.out, H2.out, H3.out, H4.out, ek]; exact hno.out
      clear ek
      go_wp2_with fail
      refine (may_any hlt H1 H2 _).mono ?_
      rintro e w1 ⟨rfl, hb1⟩
      obtain ⟨hc1, hf1, hs1⟩ := bk _ hb1 hsz
      go_wp2_with fail
      refine (may_any hlt H3 H4 _).mono ?_
      rintro e w2 ⟨rfl, hb2⟩
      obtain ⟨hc2, hf2, hs2⟩ := bk _ hb2 hs1
      cases z1 <;> cases o1 <;> cases z2 <;> cases o2 <;> first
        | exact absurd Hno.out (by decide)
        | (clear Hno
           go_wp2_with fail
           exact bodyPost_ret (v := .tuple #[Bt zero zero, .bool false]) (by simp [results, Try.results19, go_sem, hc, hc1, hc2, nv_zero]) rfl ⟨rfl, (by repeat (first | exact Below.refl _ _ | assumption | refine below_drewN ?_ _ | refine Below.drew ?_ | refine Below.alloc ?_ (by first | exact Nat.le_refl _ | (simp; done) | (simp; omega) | omega) _ | refine Below.setCell ?_ (by first | exact Nat.le_refl _ | (simp; done) | (simp; omega) | omega) _ | refine Below.trans ?_ (Below.mono (by assumption) (by first | exact Nat.le_refl _ | (simp; done) | (simp; omega) | omega))))⟩)

end Go.Proofs.Ytkigmocchaikgaa

/- The contracts of the reference's ShiftBits, SpanBits, InsideBits, BitsHave. -/
namespace Go.Proofs.Ytkigmocchaikgaa
open Go.RowKit
attribute [local go_sem] w_and w_or w_xor w_andNot w_and1 w_and63 w_add w_sub w_mul w_sub1 w_add1 w_shl w_shl1 w_shr c_beq c_bne c_beq0 c_bne0 c_beq1 c_bne1 wrap_nv

/- a round of ShiftBits: the source lies within, or it doesn't -/
set_option maxHeartbeats 600000 in
theorem shiftBits_any (up : Bool) (op : Int) (hop : op = if up then 8 else 9) (v m : BitVec 64) (n : Nat) (hn : n < 64) (w : World) :
    Calls Try.prog 20 #[N op, Bt v m, N n] w fun e w' => e = .returned (Bt (shV up v m n 64) (shM up v m n 64)) ∧ Below w.heap.size w w' := by
  have hop9 : (op == 9) = !up := by cases up <;> simp [hop]
  clear hop
  go_enter Try.func20, Try.ntmps20
  go_wp2
  go_loopw [8] (fun i wr => ∃ k : Nat, k ≤ 64 ∧ i = N k
      ∧ Below (w.heap.size + 1 + 1) ((w.alloc (.cells #[U v, U m] 24)).alloc (.cells #[.int .u64 0, .int .u64 0] 24)) wr
      ∧ wr.cell? ⟨w.heap.size + 1 + 1, 0, none⟩ = some (U (shV up v m n k)) ∧ wr.cell? ⟨w.heap.size + 1 + 1, 1, none⟩ = some (U (shM up v m n k))
      ∧ (∀ o, wr.frozen? ⟨w.heap.size + 1 + 1, o, none⟩ = false)
      ∧ w.heap.size + 1 + 1 + 1 ≤ wr.heap.size) (fun i _ => 64 - (intOf i).toNat)
  case atStart =>
    exact ⟨0, by omega, rfl, (by repeat (first | exact Below.refl _ _ | assumption | refine below_drewN ?_ _ | refine Below.drew ?_ | refine Below.alloc ?_ (by first | exact Nat.le_refl _ | (simp; done) | (simp; omega) | omega) _ | refine Below.setCell ?_ (by first | exact Nat.le_refl _ | (simp; done) | (simp; omega) | omega) _ | refine Below.trans ?_ (Below.mono (by assumption) (by first | exact Nat.le_refl _ | (simp; done) | (simp; omega) | omega)))), by simp [shV, acc, nv_zero, go_sem], by simp [shM, acc, nv_zero, go_sem], by simp [go_sem], by simp⟩
  case round =>
    obtain ⟨k, hk, rfl, hbel, ho0, ho1, hfo, hsz⟩ := hrel
    obtain ⟨hc, hf⟩ := bl hbel
    by_cases hlt : k < 64
    · cases up
      · by_cases hin : k + n < 64
        · obtain ⟨z1, o1, H1, H2⟩ := may_eq v m (k + n)
          have hs := sh_in false v m n k (k + n) (by simp [shFrom]) hin
          have Hz : Hid (z1 = shz false v n k) := H1.out.trans hs.1
          have Ho : Hid (o1 = sho false v m n k) := H2.out.trans hs.2
          clear hs
          go_wp2_with fail
          refine (within_yes (by omega) _).mono ?_
          rintro e w0 ⟨rfl, rfl⟩
          go_wp2_with fail
          rw [show (k : Int) + (n : Int) = ((k + n : Nat) : Int) from by omega]
          refine (may_any hin H1 H2 _).mono ?_
          rintro e w1 ⟨rfl, hb1⟩
          obtain ⟨hc1, hf1, hs1⟩ := bk _ hb1 hsz
          go_wp2_with fail
          refine (put_any _ _ k hlt _ _ _).mono ?_
          rintro e w3 ⟨rfl, hb3⟩
          obtain ⟨hc3, hf3, hs3⟩ := bk _ hb3 hs1
          go_wp2_with fail
          exact ⟨⟨k + 1, by omega, by go_num, out_rel hbel (hb1.trans (hb3.mono hb1.size)) hsz ho0 ho1 hfo
            (by rw [← shV_succ, ← Hz.out, ← Ho.out]) (by rw [← shM_succ, ← Hz.out, ← Ho.out])⟩, by simp [intOf]; omega⟩
        · have hs := sh_out false v m n k (by simp [shFrom]; omega)
          have Hz : Hid (true = shz false v n k) := hs.1
          have Ho : Hid (false = sho false v m n k) := hs.2
          clear hs
          go_wp2_with fail
          refine (within_no (by omega) _).mono ?_
          rintro e w0 ⟨rfl, rfl⟩
          go_wp2_with fail
          refine (put_any _ _ k hlt _ _ _).mono ?_
          rintro e w3 ⟨rfl, hb3⟩
          obtain ⟨hc3, hf3, hs3⟩ := bk _ hb3 hsz
          go_wp2_with fail
          exact ⟨⟨k + 1, by omega, by go_num, out_rel hbel hb3 hsz ho0 ho1 hfo
            (by rw [← shV_succ, ← Hz.out, ← Ho.out]) (by rw [← shM_succ, ← Hz.out, ← Ho.out])⟩, by simp [intOf]; omega⟩
      · by_cases hin : n ≤ k
        · obtain ⟨z1, o1, H1, H2⟩ := may_eq v m (k - n)
          have hs := sh_in true v m n k (k - n) (by simp [shFrom]; omega) (by omega)
          have Hz : Hid (z1 = shz true v n k) := H1.out.trans hs.1
          have Ho : Hid (o1 = sho true v m n k) := H2.out.trans hs.2
          clear hs
          go_wp2_with fail
          refine (within_yes (by omega) _).mono ?_
          rintro e w0 ⟨rfl, rfl⟩
          go_wp2_with fail
          rw [show (k : Int) - (n : Int) = ((k - n : Nat) : Int) from by omega]
          refine (may_any (by omega) H1 H2 _).mono ?_
          rintro e w1 ⟨rfl, hb1⟩
          obtain ⟨hc1, hf1, hs1⟩ := bk _ hb1 hsz
          go_wp2_with fail
          refine (put_any _ _ k hlt _ _ _).mono ?_
          rintro e w3 ⟨rfl, hb3⟩
          obtain ⟨hc3, hf3, hs3⟩ := bk _ hb3 hs1
          go_wp2_with fail
          exact ⟨⟨k + 1, by omega, by go_num, out_rel hbel (hb1.trans (hb3.mono hb1.size)) hsz ho0 ho1 hfo
            (by rw [← shV_succ, ← Hz.out, ← Ho.out]) (by rw [← shM_succ, ← Hz.out, ← Ho.out])⟩, by simp [intOf]; omega⟩
        · have hs := sh_out true v m n k (by simp [shFrom]; omega)
          have Hz : Hid (true = shz true v n k) := hs.1
          have Ho : Hid (false = sho true v m n k) := hs.2
          clear hs
          go_wp2_with fail
          refine (within_no (by omega) _).mono ?_
          rintro e w0 ⟨rfl, rfl⟩
          go_wp2_with fail
          refine (put_any _ _ k hlt _ _ _).mono ?_
          rintro e w3 ⟨rfl, hb3⟩
          obtain ⟨hc3, hf3, hs3⟩ := bk _ hb3 hsz
          go_wp2_with fail
          exact ⟨⟨k + 1, by omega, by go_num, out_rel hbel hb3 hsz ho0 ho1 hfo
            (by rw [← shV_succ, ← Hz.out, ← Ho.out]) (by rw [← shM_succ, ← Hz.out, ← Ho.out])⟩, by simp [intOf]; omega⟩
    · have hk64 : k = 64 := by omega
      subst hk64
      go_wp2_with fail
      exact bodyPost_ret (v := Bt (shV up v m n 64) (shM up v m n 64)) (by simp [results, Try.results20, go_sem, hc]) rfl ⟨rfl, (by repeat (first | exact Below.refl _ _ | assumption | refine below_drewN ?_ _ | refine Below.drew ?_ | refine Below.alloc ?_ (by first | exact Nat.le_refl _ | (simp; done) | (simp; omega) | omega) _ | refine Below.setCell ?_ (by first | exact Nat.le_refl _ | (simp; done) | (simp; omega) | omega) _ | refine Below.trans ?_ (Below.mono (by assumption) (by first | exact Nat.le_refl _ | (simp; done) | (simp; omega) | omega))))⟩

/- SpanBits: from the highest bit down -/
set_option maxHeartbeats 600000 in
theorem spanBits_any (l h : BitVec 64) (w : World) :
    Calls Try.prog 21 #[U l, U h] w fun e w' => e = .returned (Bt (spanV l h 64) (spanM l h 64)) ∧ Below w.heap.size w w' := by
  go_enter Try.func21, Try.ntmps21
  go_wp2
  go_loopw [6, 7] (fun s i wr => ∃ (c : Nat) (t : Int), c ≤ 64 ∧ s = .bool (sameB l h c) ∧ i = N t ∧ t = 63 - c
      ∧ Below (w.heap.size + 1) (w.alloc (.cells #[.int .u64 0, .int .u64 0] 24)) wr
      ∧ wr.cell? ⟨w.heap.size + 1, 0, none⟩ = some (U (spanV l h c)) ∧ wr.cell? ⟨w.heap.size + 1, 1, none⟩ = some (U (spanM l h c))
      ∧ (∀ o, wr.frozen? ⟨w.heap.size + 1, o, none⟩ = false)
      ∧ w.heap.size + 1 + 1 ≤ wr.heap.size) (fun _ i _ => (intOf i + 1).toNat)
  case atStart =>
    exact ⟨0, 63, by omega, rfl, rfl, by omega, (by repeat (first | exact Below.refl _ _ | assumption | refine below_drewN ?_ _ | refine Below.drew ?_ | refine Below.alloc ?_ (by first | exact Nat.le_refl _ | (simp; done) | (simp; omega) | omega) _ | refine Below.setCell ?_ (by first | exact Nat.le_refl _ | (simp; done) | (simp; omega) | omega) _ | refine Below.trans ?_ (Below.mono (by assumption) (by first | exact Nat.le_refl _ | (simp; done) | (simp; omega) | omega)))), by simp [spanV, accd, nv_zero, go_sem], by simp [spanM, accd, nv_zero, go_sem], by simp [go_sem], by simp⟩
  case round =>
    obtain ⟨c, t, hc, rfl, rfl, ht, hbel, ho0, ho1, hfo, hsz⟩ := hrel
    obtain ⟨hcc, hf⟩ := bl hbel
    by_cases hlt : c < 64
    · obtain ⟨i, rfl⟩ := Int.eq_ofNat_of_zero_le (show 0 ≤ t by omega)
      have hi : i = 63 - c := by omega
      have hi64 : i < 64 := by omega
      have hi0 : (0 : Int) ≤ (i : Int) := by omega
      have Hi : Hid (i = 63 - c) := hi
      have hstep := sp_step l h c i hi hlt
      have hl := low_bit l i
      have hh := low_bit h i
      obtain ⟨s, hs⟩ : ∃ s, s = sameB l h c := ⟨_, rfl⟩
      obtain ⟨bl, hbl⟩ : ∃ b, b = bit l i := ⟨_, rfl⟩
      obtain ⟨bh, hbh⟩ : ∃ b, b = bit h i := ⟨_, rfl⟩
      rw [← hbl, ← hbh, ← hs] at hstep
      rw [← hbl] at hl
      rw [← hbh] at hh
      rw [← hs]
      clear hi ht hs hbl hbh
      have H1 : Hid _ := hstep.1
      have H2 : Hid _ := hstep.2.1
      have H3 : Hid _ := hstep.2.2
      clear hstep
      have q1 := eqb_oo
      have q2 := eqb_oz
      have q3 := eqb_zo
      have q4 := eqb_zz
      cases s <;> cases bl <;> cases bh
      all_goals
        simp only [if_true, if_false, Bool.false_eq_true] at hl hh
        go_wp2_with fail
        go_quiet (fail)
        go_wp2_with fail
        refine (put_any _ _ i hi64 _ _ _).mono ?_
        rintro e w3 ⟨rfl, hb3⟩
        have hb3' : Below wr.heap.size wr w3 := (below_drewN (Below.refl _ wr) _).trans hb3
        obtain ⟨hc3, hf3, hs3⟩ := bk _ hb3' hsz
        clear hb3
        go_wp2_with fail
        exact ⟨⟨c + 1, _, by omega, by rw [H1.out]; rfl, rfl, by have := Hi.out; omega, out_rel hbel hb3' hsz ho0 ho1 hfo
          (by rw [← spanV_succ l h c i Hi.out, H2.out, H3.out]; rfl) (by rw [← spanM_succ l h c i Hi.out, H2.out, H3.out]; rfl)⟩, by simp [intOf]⟩
    · have ec : c = 64 := by omega
      subst ec
      have ht' : t = -1 := by omega
      subst ht'
      go_wp2_with fail
      exact bodyPost_ret (v := Bt (spanV l h 64) (spanM l h 64)) (by simp [results, Try.results21, go_sem, hcc]) rfl ⟨rfl, (by repeat (first | exact Below.refl _ _ | assumption | refine below_drewN ?_ _ | refine Below.drew ?_ | refine Below.alloc ?_ (by first | exact Nat.le_refl _ | (simp; done) | (simp; omega) | omega) _ | refine Below.setCell ?_ (by first | exact Nat.le_refl _ | (simp; done) | (simp; omega) | omega) _ | refine Below.trans ?_ (Below.mono (by assumption) (by first | exact Nat.le_refl _ | (simp; done) | (simp; omega) | omega))))⟩

end Go.Proofs.Ytkigmocchaikgaa

/- The contracts of package bits: Shift, Len64, Span. -/
namespace Go.Proofs.Ytkigmocchaikgaa
open Go.RowKit
attribute [local go_sem] w_and w_or w_xor w_andNot w_and1 w_and63 w_add w_sub w_mul w_sub1 w_add1 w_shl w_shl1 w_shr c_beq c_bne c_beq0 c_bne0 c_beq1 c_bne1 wrap_nv

set_option maxHeartbeats 400000 in
theorem shift_up {n : Nat} {v m : BitVec 64} (hr : Hid (eqb (band v m) zero = true)) (hn : n < 64) (w : World) :
    Calls Try.prog 15 #[N 8, Bt v m, N n] w fun e w' => e = .returned (.tuple #[Bt (bshl v n) (bshl m n), N 0]) ∧ Below w.heap.size w w' := by
  go_enter Try.func15, Try.ntmps15
  go_wp2_with fail
  refine (check1_is hr (by simp) (by simp [go_sem]) (by simp [go_sem])).mono ?_
  rintro e w1 ⟨rfl, hb1⟩
  obtain ⟨hc1, hf1, hs1⟩ := bk (w.heap.size + 1 + 1) hb1 (by simp)
  first | rw [er_t] | rw [er_f]
  go_wp2_with fail
  refine (up_any _ _ n hn _).mono ?_
  rintro e w2 ⟨rfl, hb2⟩
  obtain ⟨hc2, hf2, hs2⟩ := bk _ hb2 hs1
  go_wp2_with fail
  exact bodyPost_ret (v := .tuple #[Bt (bshl v n) (bshl m n), N 0]) (by simp [results, Try.results15, go_sem, hc1, hc2]) rfl ⟨rfl, (by repeat (first | exact Below.refl _ _ | assumption | refine below_drewN ?_ _ | refine Below.drew ?_ | refine Below.alloc ?_ (by first | exact Nat.le_refl _ | (simp; done) | (simp; omega) | omega) _ | refine Below.setCell ?_ (by first | exact Nat.le_refl _ | (simp; done) | (simp; omega) | omega) _ | refine Below.trans ?_ (Below.mono (by assumption) (by first | exact Nat.le_refl _ | (simp; done) | (simp; omega) | omega))))⟩
set_option maxHeartbeats 400000 in
theorem shift_down {n : Nat} {v m : BitVec 64} (hr : Hid (eqb (band v m) zero = true)) (hn : n < 64) (w : World) :
    Calls Try.prog 15 #[N 9, Bt v m, N n] w fun e w' => e = .returned (.tuple #[Bt (bshr v n) (bshr m n), N 0]) ∧ Below w.heap.size w w' := by
  go_enter Try.func15, Try.ntmps15
  go_wp2_with fail
  refine (check1_is hr (by simp) (by simp [go_sem]) (by simp [go_sem])).mono ?_
  rintro e w1 ⟨rfl, hb1⟩
  obtain ⟨hc1, hf1, hs1⟩ := bk (w.heap.size + 1 + 1) hb1 (by simp)
  first | rw [er_t] | rw [er_f]
  go_wp2_with fail
  exact bodyPost_ret (v := .tuple #[Bt (bshr v n) (bshr m n), N 0]) (by simp [results, Try.results15, go_sem, hc1]) rfl ⟨rfl, (by repeat (first | exact Below.refl _ _ | assumption | refine below_drewN ?_ _ | refine Below.drew ?_ | refine Below.alloc ?_ (by first | exact Nat.le_refl _ | (simp; done) | (simp; omega) | omega) _ | refine Below.setCell ?_ (by first | exact Nat.le_refl _ | (simp; done) | (simp; omega) | omega) _ | refine Below.trans ?_ (Below.mono (by assumption) (by first | exact Nat.le_refl _ | (simp; done) | (simp; omega) | omega))))⟩

end Go.Proofs.Ytkigmocchaikgaa

/- bitsBegun: what must be in any case. -/
namespace Go.Proofs.Ytkigmocchaikgaa
open Go.RowKit
attribute [local go_sem] w_and w_or w_xor w_andNot w_and1 w_and63 w_add w_sub w_mul w_sub1 w_add1 w_shl w_shl1 w_shr c_beq c_bne c_beq0 c_bne0 c_beq1 c_bne1 wrap_nv

abbrev I (n : Int) : Value := .int .u64 n
end Go.Proofs.Ytkigmocchaikgaa

/- BitsTells: what the program and the reference answer, side by side, each pair under one name. -/
namespace Go.Proofs.Ytkigmocchaikgaa
open Go.RowKit

theorem hid {p : Prop} (h : p) : Hid p := h

/- the same, whatever is handed in -/
end Go.Proofs.Ytkigmocchaikgaa

/- The contracts of package val's Check, and of the reference's NormVal and RightVal. -/
namespace Go.Proofs.Ytkigmocchaikgaa
open Go.RowKit
attribute [local go_sem] w_and w_or w_xor w_andNot w_and1 w_and63 w_add w_sub w_mul w_sub1 w_add1 w_shl w_shl1 w_shr c_beq c_bne c_beq0 c_bne0 c_beq1 c_bne1 wrap_nv

set_option maxHeartbeats 1000000 in
theorem valCheck_any (v m l h : BitVec 64) (w : World) :
    Calls Try.prog 37 #[Vl v m l h] w fun e w' => e = .returned (N (er (valB v m l h))) ∧ Below w.heap.size w w' := by
  have Hv : Hid (valB v m l h = (hasB v m l && (hasB v m h && (decide (nv l ≤ nv h) && insB v m (spV l h) (sM l h))))) := rfl
  obtain ⟨b1, H1⟩ : ∃ b, Hid (hasB v m l = b) := ⟨_, rfl⟩
  obtain ⟨b2, H2⟩ : ∃ b, Hid (hasB v m h = b) := ⟨_, rfl⟩
  obtain ⟨b3, H3⟩ : ∃ b, Hid (insB v m (spV l h) (sM l h) = b) := ⟨_, rfl⟩
  rw [H1.out, H2.out, H3.out] at Hv
  go_enter Try.func37, Try.ntmps37
  go_wp2_with fail
  refine (hasC H1.out _).mono ?_
  rintro e w1 ⟨rfl, hb1⟩
  have hK := ((Kp.start w).add4 _ _ _ _ _).keep hb1
  obtain ⟨a0, a1, a2, a3, a4, a5, a6, a7, a8⟩ := hK.box.head.four
  cases b1
  · go_wp2_with fail
    go_ret
    rw [Hv.out]
    exact ⟨rfl, hK.bel⟩
  · go_wp2_with fail
    refine (hasC H2.out _).mono ?_
    rintro e w2 ⟨rfl, hb2⟩
    have hK2 := hK.keep hb2
    clear a0 a1 a2 a3 a4 a5 a6 a7 a8
    obtain ⟨a0, a1, a2, a3, a4, a5, a6, a7, a8⟩ := hK2.box.head.four
    cases b2
    · go_wp2_with fail
      go_ret
      rw [Hv.out]
      exact ⟨rfl, hK2.bel⟩
    · by_cases hle : nv l ≤ nv h
      · have Hd : Hid (decide (nv l ≤ nv h) = true) := decide_eq_true hle
        have HS : Hid (∀ w, Calls Try.prog 16 #[U l, U h] w fun e w' => e = .returned (.tuple #[Bt (spV l h) (sM l h), N 0]) ∧ Below w.heap.size w w') := fun w => span_ok hle w
        rw [Hd.out] at Hv
        clear hle Hd
        generalize spV l h = sv at HS H3
        generalize sM l h = sm at HS H3
        go_wp2_with fail
        refine (HS.out _).mono ?_
        rintro e w3 ⟨rfl, hb3⟩
        have hK3 := hK2.keep hb3
        clear a0 a1 a2 a3 a4 a5 a6 a7 a8
        obtain ⟨a0, a1, a2, a3, a4, a5, a6, a7, a8⟩ := hK3.box.head.four
        go_wp2_with fail
        refine (insC H3.out _).mono ?_
        rintro e w4 ⟨rfl, hb4⟩
        have hK4 := (hK3.add2 _ _ _).keep hb4
        cases b3
        all_goals
          go_wp2_with fail
          go_ret
          rw [Hv.out]
          exact ⟨rfl, hK4.bel⟩
      · have Hd : Hid (decide (nv l ≤ nv h) = false) := decide_eq_false hle
        have HS : Hid (∀ w, Calls Try.prog 16 #[U l, U h] w fun e w' => e = .returned (.tuple #[Bt zero zero, N 3]) ∧ Below w.heap.size w w') := fun w => span_no (by omega) w
        rw [Hd.out] at Hv
        clear hle Hd
        go_wp2_with fail
        refine (HS.out _).mono ?_
        rintro e w3 ⟨rfl, hb3⟩
        have hK3 := hK2.keep hb3
        go_wp2_with fail
        go_ret
        rw [Hv.out]
        exact ⟨rfl, (hK3.add2 _ _ _).bel⟩

/- the reference's -/
set_option maxHeartbeats 1000000 in
theorem normVal_none {v m l h : BitVec 64} (hr : Hid (eqb (band v m) zero = true)) (ho : Hid (normOk v m l h = false)) (w : World) :
    Calls Try.prog 33 #[Vl v m l h] w fun e w' => e = .returned (.tuple #[V0, .bool false]) ∧ Below w.heap.size w w' := by
  have hrt := (rt_iff v m).1 hr.out
  have hs := least_same hrt l
  have hg := great_same hrt h
  have HL : Hid (∀ w, Calls Try.prog 84 #[Bt v m, U l] w fun e w' => e = .returned (.tuple #[U (scanL v m l 64).1, .bool (scanL v m l 64).2]) ∧ Below w.heap.size w w') := fun w => refLeast_any v m l w
  have HG : Hid (∀ w, Calls Try.prog 85 #[Bt v m, U h] w fun e w' => e = .returned (.tuple #[U (scanG v m h 64).1, .bool (scanG v m h 64).2]) ∧ Below w.heap.size w w') := fun w => refGreat_any v m h w
  have Ho : Hid (((scanL v m l 64).2 && ((scanG v m h 64).2 && decide (nv (scanL v m l 64).1 ≤ nv (scanG v m h 64).1))) = false) := by
    have := ho.out
    unfold normOk nLo nHi at this
    show _ = false
    rw [hs.1, hg.1]
    cases e1 : (leastV v m l).2
    · rfl
    · cases e2 : (greatV v m h).2
      · rfl
      · rw [hs.2 e1, hg.2 e2]
        rw [e1, e2] at this
        exact this
  clear ho hs hg hrt hr
  generalize scanL v m l 64 = L at HL Ho
  generalize scanG v m h 64 = G at HG Ho
  obtain ⟨lo, lb⟩ := L
  obtain ⟨hi, gb⟩ := G
  go_enter Try.func33, Try.ntmps33
  go_wp2_with fail
  refine (HL.out _).mono ?_
  rintro e w2 ⟨rfl, hb2⟩
  have hK2 := (((Kp.start w).add4 _ _ _ _ _).add4 _ _ _ _ _).keep hb2
  simp only [World.size_alloc] at hK2
  obtain ⟨r0, r1, r2, r3, r4, r5, r6, r7, r8⟩ := hK2.box.head.four
  obtain ⟨a0, a1, a2, a3, a4, a5, a6, a7, a8⟩ := hK2.box.tail.head.four
  go_wp2_with fail
  refine (HG.out _).mono ?_
  rintro e w3 ⟨rfl, hb3⟩
  have hK3 := hK2.keep hb3
  clear r0 r1 r2 r3 r4 r5 r6 r7 r8 a0 a1 a2 a3 a4 a5 a6 a7 a8
  obtain ⟨r0, r1, r2, r3, r4, r5, r6, r7, r8⟩ := hK3.box.head.four
  obtain ⟨a0, a1, a2, a3, a4, a5, a6, a7, a8⟩ := hK3.box.tail.head.four
  cases lb
  · go_wp2_with fail
    exact bodyPost_ret (v := .tuple #[V0, .bool false]) (by simp [results, Try.results33, go_sem, nv_zero, r0, r1, r2, r3]) rfl ⟨rfl, (hK3.set4 0 rfl).bel⟩
  · cases gb
    · go_wp2_with fail
      exact bodyPost_ret (v := .tuple #[V0, .bool false]) (by simp [results, Try.results33, go_sem, nv_zero, r0, r1, r2, r3]) rfl ⟨rfl, (hK3.set4 0 rfl).bel⟩
    · have hlt : nv hi < nv lo := by
        have := Ho.out
        simp only [Bool.true_and, decide_eq_false_iff_not] at this
        omega
      clear Ho
      go_wp2_with fail
      exact bodyPost_ret (v := .tuple #[V0, .bool false]) (by simp [results, Try.results33, go_sem, nv_zero, r0, r1, r2, r3]) rfl ⟨rfl, (hK3.set4 0 rfl).bel⟩

set_option maxRecDepth 100000 in
set_option maxHeartbeats 8000000 in
theorem normVal_yes {v m l h : BitVec 64} (hr : Hid (eqb (band v m) zero = true)) (ho : Hid (normOk v m l h = true)) (w : World) :
    Calls Try.prog 33 #[Vl v m l h] w fun e w' => e = .returned (.tuple #[Vl (nV v m l h) (nM m (nLo v m l) (nHi v m h)) (nLo v m l) (nHi v m h), .bool true]) ∧ Below w.heap.size w w' := by
  have hrt := (rt_iff v m).1 hr.out
  have hfa := norm_facts hrt ho.out
  have ho' := ho.out
  unfold normOk at ho'
  simp only [Bool.and_eq_true] at ho'
  have hs := least_same hrt l
  have hg := great_same hrt h
  have HL : Hid (∀ w, Calls Try.prog 84 #[Bt v m, U l] w fun e w' => e = .returned (.tuple #[U (nLo v m l), .bool true]) ∧ Below w.heap.size w w') := fun w => by
    have := refLeast_any v m l w; rw [hs.1, hs.2 ho'.1, ho'.1] at this; exact this
  have HG : Hid (∀ w, Calls Try.prog 85 #[Bt v m, U h] w fun e w' => e = .returned (.tuple #[U (nHi v m h), .bool true]) ∧ Below w.heap.size w w') := fun w => by
    have := refGreat_any v m h w; rw [hg.1, hg.2 ho'.2.1, ho'.2.1] at this; exact this
  have HS : Hid (∀ w, Calls Try.prog 21 #[U (nLo v m l), U (nHi v m h)] w fun e w' => e = .returned (Bt (spV (nLo v m l) (nHi v m h)) (sM (nLo v m l) (nHi v m h))) ∧ Below w.heap.size w w') := fun w => by
    have hh := spanBits_any (nLo v m l) (nHi v m h) w
    rw [(span_eq _ _).1, (span_eq _ _).2] at hh
    exact hh
  have HM : Hid (∀ w, Calls Try.prog 19 #[Bt v m, Bt (spV (nLo v m l) (nHi v m h)) (sM (nLo v m l) (nHi v m h))] w fun e w' => e = .returned (.tuple #[Bt (nV v m l h) (nM m (nLo v m l) (nHi v m h)), .bool true]) ∧ Below w.heap.size w w') := fun w => by
    obtain ⟨h1, h2, h3⟩ := meet_eq (both_right hrt (span_rt (nLo v m l) (nHi v m h))).out (meet_span hrt hfa.1 (Int.le_refl _) hfa.2.2.1)
    have h := meetBits_ok v m _ _ h1 w
    rw [h2, h3] at h
    exact h
  have hle := hfa.2.2.1
  clear hfa ho' ho hrt hs hg hr
  generalize nV v m l h = rv at HM ⊢
  generalize nM m (nLo v m l) (nHi v m h) = rm at HM ⊢
  generalize spV (nLo v m l) (nHi v m h) = sv at HM HS
  generalize sM (nLo v m l) (nHi v m h) = sm at HM HS
  generalize nLo v m l = lo at HL HS hle ⊢
  generalize nHi v m h = hi at HG HS hle ⊢
  go_enter Try.func33, Try.ntmps33
  go_wp2_with fail
  refine (HL.out _).mono ?_
  rintro e w2 ⟨rfl, hb2⟩
  have hK2 := (((Kp.start w).add4 _ _ _ _ _).add4 _ _ _ _ _).keep hb2
  simp only [World.size_alloc] at hK2
  obtain ⟨r0, r1, r2, r3, r4, r5, r6, r7, r8⟩ := hK2.box.head.four
  obtain ⟨a0, a1, a2, a3, a4, a5, a6, a7, a8⟩ := hK2.box.tail.head.four
  go_wp2_with fail
  refine (HG.out _).mono ?_
  rintro e w3 ⟨rfl, hb3⟩
  have hK3 := hK2.keep hb3
  clear r0 r1 r2 r3 r4 r5 r6 r7 r8 a0 a1 a2 a3 a4 a5 a6 a7 a8
  obtain ⟨r0, r1, r2, r3, r4, r5, r6, r7, r8⟩ := hK3.box.head.four
  obtain ⟨a0, a1, a2, a3, a4, a5, a6, a7, a8⟩ := hK3.box.tail.head.four
  go_wp2_with fail
  go_cut [8, 9] (fun p f wc => ∃ b, p = .pointer (some ⟨b, 0, none⟩) ∧ f = .bool true ∧ Kp w wc [(b, [U rv, U rm]), (w.heap.size + 1, [.int .u64 0, .int .u64 0, .int .u64 0, .int .u64 0]), (w.heap.size, [U v, U m, U l, U h])])
  case first =>
    go_region_with (first
        | (go_at_call 21; refine (HS.out _).mono ?_; rintro e w4 ⟨rfl, hb4⟩; clear r0 r1 r2 r3 r4 r5 r6 r7 a0 a1 a2 a3 a4 a5 a6 a7; first | (have hK4 := (hK3.keep (Below.drew (Below.refl _ _))).keep hb4; obtain ⟨r0, r1, r2, r3, r4, r5, r6, r7, r8⟩ := hK4.box.head.four; obtain ⟨a0, a1, a2, a3, a4, a5, a6, a7, a8⟩ := hK4.box.tail.head.four) | (have hK4 := ((hK3.keep (Below.drew (Below.refl _ _))).add2 _ _ _).keep hb4; rw [show w3.drew.heap.size = w3.heap.size from rfl] at hK4; obtain ⟨q0, q1, q2, q3, q4⟩ := hK4.box.head.two; obtain ⟨r0, r1, r2, r3, r4, r5, r6, r7, r8⟩ := hK4.box.tail.head.four; obtain ⟨a0, a1, a2, a3, a4, a5, a6, a7, a8⟩ := hK4.box.tail.tail.head.four))
        | (go_at_call 19; refine (HM.out _).mono ?_; rintro e w5 ⟨rfl, hb5⟩; clear r0 r1 r2 r3 r4 r5 r6 r7 a0 a1 a2 a3 a4 a5 a6 a7; first | (have hK5 := hK4.keep hb5; obtain ⟨q0, q1, q2, q3, q4⟩ := hK5.box.head.two; obtain ⟨r0, r1, r2, r3, r4, r5, r6, r7, r8⟩ := hK5.box.tail.head.four; obtain ⟨a0, a1, a2, a3, a4, a5, a6, a7, a8⟩ := hK5.box.tail.tail.head.four) | (have hK5 := hK4.keep hb5; obtain ⟨r0, r1, r2, r3, r4, r5, r6, r7, r8⟩ := hK5.box.head.four; obtain ⟨a0, a1, a2, a3, a4, a5, a6, a7, a8⟩ := hK5.box.tail.head.four) | (have hK5 := (hK4.add2 _ _ _).keep hb5; obtain ⟨q0, q1, q2, q3, q4⟩ := hK5.box.head.two; obtain ⟨r0, r1, r2, r3, r4, r5, r6, r7, r8⟩ := hK5.box.tail.head.four; obtain ⟨a0, a1, a2, a3, a4, a5, a6, a7, a8⟩ := hK5.box.tail.tail.head.four)))
    all_goals
      go_wp2_with fail
      go_meet
      case rel => first | exact ⟨_, rfl, rfl, hK5.add2 _ _ _⟩ | exact ⟨_, rfl, rfl, hK5.set2 0 rfl⟩
  case rest =>
    clear r0 r1 r2 r3 r4 r5 r6 r7 r8 a0 a1 a2 a3 a4 a5 a6 a7 a8
    obtain ⟨b, rfl, rfl, hK6⟩ := hcut
    obtain ⟨q0, q1, q2, q3, q4⟩ := hK6.box.head.two
    obtain ⟨r0, r1, r2, r3, r4, r5, r6, r7, r8⟩ := hK6.box.tail.head.four
    obtain ⟨a0, a1, a2, a3, a4, a5, a6, a7, a8⟩ := hK6.box.tail.tail.head.four
    have hne : w.heap.size + 1 < b := hK6.box.2.1 _ (List.Mem.head _)
    go_wp2_with fail
    exact bodyPost_ret (v := .tuple #[Vl rv rm lo hi, .bool true]) (by simp [results, Try.results33, go_sem, r0, r1, r2, r3]) rfl ⟨rfl, (hK6.set4 1 rfl).bel⟩

end Go.Proofs.Ytkigmocchaikgaa

/- The contracts of package val's Has, Inside, Of, Any and Join, and of the reference's RightVal, ValHas, InsideVal, ValOf, ValAny. -/
namespace Go.Proofs.Ytkigmocchaikgaa
open Go.RowKit
attribute [local go_sem] w_and w_or w_xor w_andNot w_and1 w_and63 w_add w_sub w_mul w_sub1 w_add1 w_shl w_shl1 w_shr c_beq c_bne c_beq0 c_bne0 c_beq1 c_bne1 wrap_nv
attribute [local go_sem] eqb_self

theorem checkV {v m l h : BitVec 64} {b : Bool} (hv : valB v m l h = b) (w : World) :
    Calls Try.prog 37 #[Vl v m l h] w fun e w' => e = .returned (N (er b)) ∧ Below w.heap.size w w' := hv ▸ valCheck_any v m l h w

set_option maxHeartbeats 1000000 in
theorem rightVal_any (v m l h : BitVec 64) (w : World) :
    Calls Try.prog 34 #[Vl v m l h] w fun e w' => e = .returned (.bool (valB v m l h)) ∧ Below w.heap.size w w' := by
  obtain ⟨r, hr⟩ : ∃ r, Hid (eqb (band v m) zero = r) := ⟨_, rfl⟩
  cases r
  · have Hv : Hid (valB v m l h = false) := val_wrong hr.out
    rw [Hv.out]
    go_enter Try.func34, Try.ntmps34
    go_wp2_with fail
    refine (right_is hr.out _).mono ?_
    rintro e w1 ⟨rfl, hb1⟩
    have hK := ((Kp.start w).add4 _ _ _ _ _).keep hb1
    go_wp2_with fail
    go_ret
    exact ⟨rfl, hK.bel⟩
  · have hrt := (rt_iff v m).1 hr.out
    obtain ⟨o, ho⟩ : ∃ o, Hid (normOk v m l h = o) := ⟨_, rfl⟩
    have Hv : Hid (valB v m l h = (normOk v m l h && normSame v m l h)) := val_iff hrt l h
    rw [ho.out] at Hv
    cases o
    · have HN : Hid (∀ w, Calls Try.prog 33 #[Vl v m l h] w fun e w' => e = .returned (.tuple #[V0, .bool false]) ∧ Below w.heap.size w w') := fun w => normVal_none hr ho w
      rw [Hv.out]
      clear Hv ho hrt
      go_enter Try.func34, Try.ntmps34
      go_wp2_with fail
      refine (right_is hr.out _).mono ?_
      rintro e w1 ⟨rfl, hb1⟩
      have hK := ((Kp.start w).add4 _ _ _ _ _).keep hb1
      obtain ⟨a0, a1, a2, a3, a4, a5, a6, a7, a8⟩ := hK.box.head.four
      go_wp2_with fail
      refine (HN.out _).mono ?_
      rintro e w2 ⟨rfl, hb2⟩
      have hK2 := hK.keep hb2
      go_wp2_with fail
      go_ret
      exact ⟨rfl, (hK2.add4 _ _ _ _ _).bel⟩
    · have HN : Hid (∀ w, Calls Try.prog 33 #[Vl v m l h] w fun e w' => e = .returned (.tuple #[Vl (nV v m l h) (nM m (nLo v m l) (nHi v m h)) (nLo v m l) (nHi v m h), .bool true]) ∧ Below w.heap.size w w') := fun w => normVal_yes hr ho w
      have Hs : Hid (normSame v m l h = (eqb (nV v m l h) v && (eqb (nM m (nLo v m l) (nHi v m h)) m && (eqb (nLo v m l) l && eqb (nHi v m h) h)))) := rfl
      rw [Hs.out] at Hv
      rw [Hv.out]
      clear Hv Hs ho hrt
      generalize nM m (nLo v m l) (nHi v m h) = rm at HN ⊢
      generalize nV v m l h = rv at HN ⊢
      generalize nLo v m l = lo at HN ⊢
      generalize nHi v m h = hi at HN ⊢
      go_enter Try.func34, Try.ntmps34
      go_wp2_with fail
      refine (right_is hr.out _).mono ?_
      rintro e w1 ⟨rfl, hb1⟩
      have hK := ((Kp.start w).add4 _ _ _ _ _).keep hb1
      obtain ⟨a0, a1, a2, a3, a4, a5, a6, a7, a8⟩ := hK.box.head.four
      go_wp2_with fail
      refine (HN.out _).mono ?_
      rintro e w2 ⟨rfl, hb2⟩
      have hK2 := hK.keep hb2
      clear a0 a1 a2 a3 a4 a5 a6 a7 a8
      obtain ⟨a0, a1, a2, a3, a4, a5, a6, a7, a8⟩ := hK2.box.head.four
      cases h1 : eqb rv v
      · go_wp2_with fail
        go_ret
        exact ⟨by rw [h1]; rfl, (hK2.add4 _ _ _ _ _).bel⟩
      cases h2 : eqb rm m
      · go_wp2_with fail
        go_ret
        exact ⟨by rw [h1, h2]; rfl, (hK2.add4 _ _ _ _ _).bel⟩
      cases h3 : eqb lo l
      · go_wp2_with fail
        go_ret
        exact ⟨by rw [h1, h2, h3]; rfl, (hK2.add4 _ _ _ _ _).bel⟩
      cases h4 : eqb hi h
      all_goals
        go_wp2_with fail
        go_ret
        exact ⟨by rw [h1, h2, h3, h4]; rfl, (hK2.add4 _ _ _ _ _).bel⟩
set_option maxHeartbeats 1000000 in
theorem valOf_any (x : BitVec 64) (w : World) :
    Calls Try.prog 40 #[U x] w fun e w' => e = .returned (Vl x zero x x) ∧ Below w.heap.size w w' := by
  go_enter Try.func40, Try.ntmps40
  go_wp2_with fail
  exact bodyPost_ret (v := Vl x zero x x) (by simp [results, Try.results40, go_sem, nv_zero]) rfl ⟨rfl, (by repeat (first | exact Below.refl _ _ | assumption | refine below_drewN ?_ _ | refine Below.drew ?_ | refine Below.alloc ?_ (by first | exact Nat.le_refl _ | (simp; done) | (simp; omega) | omega) _ | refine Below.setCell ?_ (by first | exact Nat.le_refl _ | (simp; done) | (simp; omega) | omega) _ | refine Below.trans ?_ (Below.mono (by assumption) (by first | exact Nat.le_refl _ | (simp; done) | (simp; omega) | omega))))⟩
set_option maxHeartbeats 1000000 in
theorem refValAny_any (w : World) :
    Calls Try.prog 43 #[] w fun e w' => e = .returned (Vl zero top zero top) ∧ Below w.heap.size w w' := by
  go_enter Try.func43, Try.ntmps43
  go_wp2_with fail
  exact bodyPost_ret (v := Vl zero top zero top) (by simp [results, Try.results43, go_sem, nv_zero, nv_top]) rfl ⟨rfl, (by repeat (first | exact Below.refl _ _ | assumption | refine below_drewN ?_ _ | refine Below.drew ?_ | refine Below.alloc ?_ (by first | exact Nat.le_refl _ | (simp; done) | (simp; omega) | omega) _ | refine Below.setCell ?_ (by first | exact Nat.le_refl _ | (simp; done) | (simp; omega) | omega) _ | refine Below.trans ?_ (Below.mono (by assumption) (by first | exact Nat.le_refl _ | (simp; done) | (simp; omega) | omega))))⟩

end Go.Proofs.Ytkigmocchaikgaa

/- The contracts of package val's Inside and Join, and of the reference's InsideVal. -/
namespace Go.Proofs.Ytkigmocchaikgaa
open Go.RowKit
attribute [local go_sem] w_and w_or w_xor w_andNot w_and1 w_and63 w_add w_sub w_mul w_sub1 w_add1 w_shl w_shl1 w_shr c_beq c_bne c_beq0 c_bne0 c_beq1 c_bne1 wrap_nv

end Go.Proofs.Ytkigmocchaikgaa

/- The contract of package val's Join. -/
namespace Go.Proofs.Ytkigmocchaikgaa
open Go.RowKit
attribute [local go_sem] w_and w_or w_xor w_andNot w_and1 w_and63 w_add w_sub w_mul w_sub1 w_add1 w_shl w_shl1 w_shr c_beq c_bne c_beq0 c_bne0 c_beq1 c_bne1 wrap_nv

end Go.Proofs.Ytkigmocchaikgaa

/- The contracts of package calc's alone, shiftBounds, bounds, shift. -/
namespace Go.Proofs.Ytkigmocchaikgaa
open Go.RowKit
attribute [local go_sem] w_and w_or w_xor w_andNot w_and1 w_and63 w_add w_sub w_mul w_sub1 w_add1 w_shl w_shl1 w_shr c_beq c_bne c_beq0 c_bne0 c_beq1 c_bne1 wrap_nv

set_option maxHeartbeats 400000 in
theorem alone_any (v m l h : BitVec 64) (w : World) :
    Calls Try.prog 94 #[Vl v m l h] w fun e w' => e = .returned (.bool (eqb l h)) ∧ Below w.heap.size w w' := by
  go_enter Try.func94, Try.ntmps94
  go_wp2_with fail
  go_ret
  exact ⟨rfl, (by repeat (first | exact Below.refl _ _ | assumption | refine below_drewN ?_ _ | refine Below.drew ?_ | refine Below.alloc ?_ (by first | exact Nat.le_refl _ | (simp; done) | (simp; omega) | omega) _ | refine Below.setCell ?_ (by first | exact Nat.le_refl _ | (simp; done) | (simp; omega) | omega) _ | refine Below.trans ?_ (Below.mono (by assumption) (by first | exact Nat.le_refl _ | (simp; done) | (simp; omega) | omega))))⟩
theorem alone_is {v m l h : BitVec 64} {b : Bool} (hb : eqb l h = b) (w : World) :
    Calls Try.prog 94 #[Vl v m l h] w fun e w' => e = .returned (.bool b) ∧ Below w.heap.size w w' := hb ▸ alone_any v m l h w

set_option maxRecDepth 100000 in
set_option maxHeartbeats 1000000 in
theorem shiftBounds_shr (v m l h : BitVec 64) (y : BitVec 64) (w : World) :
    Calls Try.prog 125 #[N 9, Vl v m l h, U (band y 63#64)] w fun e w' => e = .returned (.tuple #[U (bshr l (six y)), U (bshr h (six y))]) ∧ Below w.heap.size w w' := by
  have h6 := six_nv y
  have h7 := six_lt y
  go_enter Try.func125, Try.ntmps125
  go_wp2_with fail
  go_quiet (fail)
  go_wp2_with fail
  go_ret2
  exact ⟨rfl, (by repeat (first | exact Below.refl _ _ | assumption | refine below_drewN ?_ _ | refine Below.drew ?_ | refine Below.alloc ?_ (by first | exact Nat.le_refl _ | (simp; done) | (simp; omega) | omega) _ | refine Below.setCell ?_ (by first | exact Nat.le_refl _ | (simp; done) | (simp; omega) | omega) _ | refine Below.trans ?_ (Below.mono (by assumption) (by first | exact Nat.le_refl _ | (simp; done) | (simp; omega) | omega))))⟩
set_option maxRecDepth 100000 in
set_option maxHeartbeats 1000000 in
theorem shiftBounds_shl (v m l h : BitVec 64) (y : BitVec 64) (w : World) :
    Calls Try.prog 125 #[N 8, Vl v m l h, U (band y 63#64)] w fun e w' => e = .returned (.tuple #[U (shlB l h (six y)).1, U (shlB l h (six y)).2]) ∧ Below w.heap.size w w' := by
  have h6 := six_nv y
  have h7 := six_lt y
  have Ha : Hid (shlB l h (six y) = if eqb (bshr (bshl h (six y)) (six y)) h then (bshl l (six y), bshl h (six y)) else (zero, top)) := rfl
  obtain ⟨p, hp⟩ : ∃ b, eqb (bshr (bshl h (six y)) (six y)) h = b := ⟨_, rfl⟩
  rw [hp] at Ha
  cases p
  · go_enter Try.func125, Try.ntmps125
    go_wp2_with fail
    go_ret2
    rw [Ha.out]
    exact ⟨rfl, (by repeat (first | exact Below.refl _ _ | assumption | refine below_drewN ?_ _ | refine Below.drew ?_ | refine Below.alloc ?_ (by first | exact Nat.le_refl _ | (simp; done) | (simp; omega) | omega) _ | refine Below.setCell ?_ (by first | exact Nat.le_refl _ | (simp; done) | (simp; omega) | omega) _ | refine Below.trans ?_ (Below.mono (by assumption) (by first | exact Nat.le_refl _ | (simp; done) | (simp; omega) | omega))))⟩
  · go_enter Try.func125, Try.ntmps125
    go_wp2_with fail
    go_quiet (fail)
    go_wp2_with fail
    go_ret2
    rw [Ha.out]
    exact ⟨rfl, (by repeat (first | exact Below.refl _ _ | assumption | refine below_drewN ?_ _ | refine Below.drew ?_ | refine Below.alloc ?_ (by first | exact Nat.le_refl _ | (simp; done) | (simp; omega) | omega) _ | refine Below.setCell ?_ (by first | exact Nat.le_refl _ | (simp; done) | (simp; omega) | omega) _ | refine Below.trans ?_ (Below.mono (by assumption) (by first | exact Nat.le_refl _ | (simp; done) | (simp; omega) | omega))))⟩

set_option maxRecDepth 100000 in
set_option maxHeartbeats 1000000 in
theorem bounds_any {op : Int} (hop : Hid (2 ≤ op ∧ op ≤ 7)) (v m l h v' m' l' h' : BitVec 64) (w : World) :
    Calls Try.prog 113 #[N op, Vl v m l h, Vl v' m' l' h'] w fun e w' => e = .returned (.tuple #[U (boundsP op l h l' h').1, U (boundsP op l h l' h').2]) ∧ Below w.heap.size w w' := by
  rcases op_cases hop.out with rfl | rfl | rfl | rfl | rfl | rfl
  · clear hop
    go_enter Try.func113, Try.ntmps113
    go_wp2_with fail
    refine (addBounds_any v m l h v' m' l' h' _).mono ?_
    rintro e w1 ⟨rfl, hb1⟩
    have hK := (((Kp.start w).add4 _ _ _ _ _).add4 _ _ _ _ _).keep hb1
    go_wp2_with fail
    go_ret2
    exact ⟨rfl, hK.bel⟩
  · clear hop
    go_enter Try.func113, Try.ntmps113
    go_wp2_with fail
    refine (subBounds_any v m l h v' m' l' h' _).mono ?_
    rintro e w1 ⟨rfl, hb1⟩
    have hK := (((Kp.start w).add4 _ _ _ _ _).add4 _ _ _ _ _).keep hb1
    go_wp2_with fail
    go_ret2
    exact ⟨rfl, hK.bel⟩
  · clear hop
    go_enter Try.func113, Try.ntmps113
    go_wp2_with fail
    refine (mulBounds_any v m l h v' m' l' h' _).mono ?_
    rintro e w1 ⟨rfl, hb1⟩
    have hK := (((Kp.start w).add4 _ _ _ _ _).add4 _ _ _ _ _).keep hb1
    go_wp2_with fail
    go_ret2
    exact ⟨rfl, hK.bel⟩
  · clear hop
    have Hb : Hid (boundsP 5 l h l' h' = (zero, bmin h h')) := rfl
    rw [Hb.out]
    by_cases h1 : nv h' < nv h
    · have e1 : Hid (bmin h h' = h') := if_pos h1
      rw [e1.out]
      go_enter Try.func113, Try.ntmps113
      go_wp2_with fail
      first | (go_quiet (fail); go_wp2_with fail) | skip
      go_ret2
      exact ⟨rfl, (by repeat (first | exact Below.refl _ _ | assumption | refine below_drewN ?_ _ | refine Below.drew ?_ | refine Below.alloc ?_ (by first | exact Nat.le_refl _ | (simp; done) | (simp; omega) | omega) _ | refine Below.setCell ?_ (by first | exact Nat.le_refl _ | (simp; done) | (simp; omega) | omega) _ | refine Below.trans ?_ (Below.mono (by assumption) (by first | exact Nat.le_refl _ | (simp; done) | (simp; omega) | omega))))⟩
    · have e1 : Hid (bmin h h' = h) := if_neg h1
      have h1' : nv h ≤ nv h' := by omega
      clear h1
      rw [e1.out]
      go_enter Try.func113, Try.ntmps113
      go_wp2_with fail
      first | (go_quiet (fail); go_wp2_with fail) | skip
      go_ret2
      exact ⟨rfl, (by repeat (first | exact Below.refl _ _ | assumption | refine below_drewN ?_ _ | refine Below.drew ?_ | refine Below.alloc ?_ (by first | exact Nat.le_refl _ | (simp; done) | (simp; omega) | omega) _ | refine Below.setCell ?_ (by first | exact Nat.le_refl _ | (simp; done) | (simp; omega) | omega) _ | refine Below.trans ?_ (Below.mono (by assumption) (by first | exact Nat.le_refl _ | (simp; done) | (simp; omega) | omega))))⟩
  · clear hop
    have Hb : Hid (boundsP 6 l h l' h' = (bmax l l', top)) := rfl
    rw [Hb.out]
    by_cases h1 : nv l < nv l'
    · have e1 : Hid (bmax l l' = l') := if_pos h1
      rw [e1.out]
      go_enter Try.func113, Try.ntmps113
      go_wp2_with fail
      go_ret2
      exact ⟨rfl, (by repeat (first | exact Below.refl _ _ | assumption | refine below_drewN ?_ _ | refine Below.drew ?_ | refine Below.alloc ?_ (by first | exact Nat.le_refl _ | (simp; done) | (simp; omega) | omega) _ | refine Below.setCell ?_ (by first | exact Nat.le_refl _ | (simp; done) | (simp; omega) | omega) _ | refine Below.trans ?_ (Below.mono (by assumption) (by first | exact Nat.le_refl _ | (simp; done) | (simp; omega) | omega))))⟩
    · have e1 : Hid (bmax l l' = l) := if_neg h1
      have h1' : nv l' ≤ nv l := by omega
      clear h1
      rw [e1.out]
      go_enter Try.func113, Try.ntmps113
      go_wp2_with fail
      go_ret2
      exact ⟨rfl, (by repeat (first | exact Below.refl _ _ | assumption | refine below_drewN ?_ _ | refine Below.drew ?_ | refine Below.alloc ?_ (by first | exact Nat.le_refl _ | (simp; done) | (simp; omega) | omega) _ | refine Below.setCell ?_ (by first | exact Nat.le_refl _ | (simp; done) | (simp; omega) | omega) _ | refine Below.trans ?_ (Below.mono (by assumption) (by first | exact Nat.le_refl _ | (simp; done) | (simp; omega) | omega))))⟩
  · clear hop
    go_enter Try.func113, Try.ntmps113
    go_wp2_with fail
    go_ret2
    exact ⟨rfl, (by repeat (first | exact Below.refl _ _ | assumption | refine below_drewN ?_ _ | refine Below.drew ?_ | refine Below.alloc ?_ (by first | exact Nat.le_refl _ | (simp; done) | (simp; omega) | omega) _ | refine Below.setCell ?_ (by first | exact Nat.le_refl _ | (simp; done) | (simp; omega) | omega) _ | refine Below.trans ?_ (Below.mono (by assumption) (by first | exact Nat.le_refl _ | (simp; done) | (simp; omega) | omega))))⟩

end Go.Proofs.Ytkigmocchaikgaa

/- The contracts of package calc's shift and reckon. -/
namespace Go.Proofs.Ytkigmocchaikgaa
open Go.RowKit
attribute [local go_sem] w_and w_or w_xor w_andNot w_and1 w_and63 w_add w_sub w_mul w_sub1 w_add1 w_shl w_shl1 w_shr c_beq c_bne c_beq0 c_bne0 c_beq1 c_bne1 wrap_nv

set_option maxRecDepth 100000 in
set_option maxHeartbeats 1000000 in
theorem shift_wide8 {v m l g v' m' l' g' : BitVec 64} (ha : Hid (eqb l' g' = false)) (w : World) :
    Calls Try.prog 112 #[N 8, Vl v m l g, Vl v' m' l' g'] w fun e w' => e = .returned (Vl zero top zero top) ∧ Below w.heap.size w w' := by
  go_enter Try.func112, Try.ntmps112
  go_wp2_with fail
  refine (alone_is ha.out _).mono ?_
  rintro e w1 ⟨rfl, hb1⟩
  have hK := ((((Kp.start w).add4 _ _ _ _ _).add4 _ _ _ _ _).add4 _ _ _ _ _).keep hb1
  simp only [World.size_alloc] at hK
  obtain ⟨r0, r1, r2, r3, r4, r5, r6, r7, r8⟩ := hK.box.head.four
  obtain ⟨b0, b1, b2, b3, b4, b5, b6, b7, b8⟩ := hK.box.tail.head.four
  obtain ⟨a0, a1, a2, a3, a4, a5, a6, a7, a8⟩ := hK.box.tail.tail.head.four
  go_wp2_with fail
  exact bodyPost_ret (v := Vl zero top zero top) (by simp [results, Try.results112, go_sem, nv_zero, nv_top, r0, r1, r2, r3]) rfl ⟨rfl, (hK.set4 0 rfl).bel⟩
set_option maxRecDepth 100000 in
set_option maxHeartbeats 1000000 in
theorem shift_wide9 {v m l g v' m' l' g' : BitVec 64} (ha : Hid (eqb l' g' = false)) (w : World) :
    Calls Try.prog 112 #[N 9, Vl v m l g, Vl v' m' l' g'] w fun e w' => e = .returned (Vl zero top zero g) ∧ Below w.heap.size w w' := by
  go_enter Try.func112, Try.ntmps112
  go_wp2_with fail
  refine (alone_is ha.out _).mono ?_
  rintro e w1 ⟨rfl, hb1⟩
  have hK := ((((Kp.start w).add4 _ _ _ _ _).add4 _ _ _ _ _).add4 _ _ _ _ _).keep hb1
  simp only [World.size_alloc] at hK
  obtain ⟨r0, r1, r2, r3, r4, r5, r6, r7, r8⟩ := hK.box.head.four
  obtain ⟨b0, b1, b2, b3, b4, b5, b6, b7, b8⟩ := hK.box.tail.head.four
  obtain ⟨a0, a1, a2, a3, a4, a5, a6, a7, a8⟩ := hK.box.tail.tail.head.four
  go_wp2_with fail
  exact bodyPost_ret (v := Vl zero top zero g) (by simp [results, Try.results112, go_sem, nv_zero, nv_top, r0, r1, r2, r3]) rfl ⟨rfl, (hK.set4 0 rfl).bel⟩
set_option maxRecDepth 100000 in
set_option maxHeartbeats 1000000 in
theorem shift_one8 {v m l h v' m' l' h' : BitVec 64} (hr : Hid (eqb (band v m) zero = true)) (ha : Hid (eqb l' h' = true)) (w : World) :
    Calls Try.prog 112 #[N 8, Vl v m l h, Vl v' m' l' h'] w fun e w' => e = .returned (Vl (bshl v (six l')) (bshl m (six l')) (shlB l h (six l')).1 (shlB l h (six l')).2) ∧ Below w.heap.size w w' := by
  have h6 := six_nv l'
  have h7 := six_lt l'
  have HS : Hid (∀ w, Calls Try.prog 15 #[N 8, Bt v m, N (six l')] w fun e w' => e = .returned (.tuple #[Bt (bshl v (six l')) (bshl m (six l')), N 0]) ∧ Below w.heap.size w w') := fun w => shift_up hr h7 w
  have HB : Hid (∀ w, Calls Try.prog 125 #[N 8, Vl v m l h, U (band l' 63#64)] w fun e w' => e = .returned (.tuple #[U (shlB l h (six l')).1, U (shlB l h (six l')).2]) ∧ Below w.heap.size w w') := fun w => shiftBounds_shl v m l h l' w
  generalize shlB l h (six l') = S at HB ⊢
  obtain ⟨lo, hi⟩ := S
  generalize bshl v (six l') = sv at HS ⊢
  generalize bshl m (six l') = sm at HS ⊢
  go_enter Try.func112, Try.ntmps112
  go_wp2_with fail
  refine (alone_is ha.out _).mono ?_
  rintro e w1 ⟨rfl, hb1⟩
  have hK := ((((Kp.start w).add4 _ _ _ _ _).add4 _ _ _ _ _).add4 _ _ _ _ _).keep hb1
  simp only [World.size_alloc] at hK
  obtain ⟨r0, r1, r2, r3, r4, r5, r6, r7, r8⟩ := hK.box.head.four
  obtain ⟨b0, b1, b2, b3, b4, b5, b6, b7, b8⟩ := hK.box.tail.head.four
  obtain ⟨a0, a1, a2, a3, a4, a5, a6, a7, a8⟩ := hK.box.tail.tail.head.four
  go_wp2_with fail
  refine (HS.out _).mono ?_
  rintro e w2 ⟨rfl, hb2⟩
  have hK2 := hK.keep hb2
  clear r0 r1 r2 r3 r4 r5 r6 r7 r8 b0 b1 b2 b3 b4 b5 b6 b7 b8 a0 a1 a2 a3 a4 a5 a6 a7 a8
  obtain ⟨r0, r1, r2, r3, r4, r5, r6, r7, r8⟩ := hK2.box.head.four
  obtain ⟨b0, b1, b2, b3, b4, b5, b6, b7, b8⟩ := hK2.box.tail.head.four
  obtain ⟨a0, a1, a2, a3, a4, a5, a6, a7, a8⟩ := hK2.box.tail.tail.head.four
  go_wp2_with fail
  refine (HB.out _).mono ?_
  rintro e w3 ⟨rfl, hb3⟩
  have hK3 := (hK2.add2 _ _ _).keep hb3
  clear r0 r1 r2 r3 r4 r5 r6 r7 r8 b0 b1 b2 b3 b4 b5 b6 b7 b8 a0 a1 a2 a3 a4 a5 a6 a7 a8
  obtain ⟨s0, s1, s2, s3, s4⟩ := hK3.box.head.two
  obtain ⟨r0, r1, r2, r3, r4, r5, r6, r7, r8⟩ := hK3.box.tail.head.four
  obtain ⟨b0, b1, b2, b3, b4, b5, b6, b7, b8⟩ := hK3.box.tail.tail.head.four
  obtain ⟨a0, a1, a2, a3, a4, a5, a6, a7, a8⟩ := hK3.box.tail.tail.tail.head.four
  go_wp2_with fail
  exact bodyPost_ret (v := Vl sv sm lo hi) (by simp [results, Try.results112, go_sem, r0, r1, r2, r3]) rfl ⟨rfl, (hK3.set4 1 rfl).bel⟩
set_option maxRecDepth 100000 in
set_option maxHeartbeats 1000000 in
theorem shift_one9 {v m l h v' m' l' h' : BitVec 64} (hr : Hid (eqb (band v m) zero = true)) (ha : Hid (eqb l' h' = true)) (w : World) :
    Calls Try.prog 112 #[N 9, Vl v m l h, Vl v' m' l' h'] w fun e w' => e = .returned (Vl (bshr v (six l')) (bshr m (six l')) (bshr l (six l')) (bshr h (six l'))) ∧ Below w.heap.size w w' := by
  have h6 := six_nv l'
  have h7 := six_lt l'
  have HS : Hid (∀ w, Calls Try.prog 15 #[N 9, Bt v m, N (six l')] w fun e w' => e = .returned (.tuple #[Bt (bshr v (six l')) (bshr m (six l')), N 0]) ∧ Below w.heap.size w w') := fun w => shift_down hr h7 w
  have HB : Hid (∀ w, Calls Try.prog 125 #[N 9, Vl v m l h, U (band l' 63#64)] w fun e w' => e = .returned (.tuple #[U (bshr l (six l')), U (bshr h (six l'))]) ∧ Below w.heap.size w w') := fun w => shiftBounds_shr v m l h l' w
  generalize bshr l (six l') = lo at HB ⊢
  generalize bshr h (six l') = hi at HB ⊢
  generalize bshr v (six l') = sv at HS ⊢
  generalize bshr m (six l') = sm at HS ⊢
  go_enter Try.func112, Try.ntmps112
  go_wp2_with fail
  refine (alone_is ha.out _).mono ?_
  rintro e w1 ⟨rfl, hb1⟩
  have hK := ((((Kp.start w).add4 _ _ _ _ _).add4 _ _ _ _ _).add4 _ _ _ _ _).keep hb1
  simp only [World.size_alloc] at hK
  obtain ⟨r0, r1, r2, r3, r4, r5, r6, r7, r8⟩ := hK.box.head.four
  obtain ⟨b0, b1, b2, b3, b4, b5, b6, b7, b8⟩ := hK.box.tail.head.four
  obtain ⟨a0, a1, a2, a3, a4, a5, a6, a7, a8⟩ := hK.box.tail.tail.head.four
  go_wp2_with fail
  refine (HS.out _).mono ?_
  rintro e w2 ⟨rfl, hb2⟩
  have hK2 := hK.keep hb2
  clear r0 r1 r2 r3 r4 r5 r6 r7 r8 b0 b1 b2 b3 b4 b5 b6 b7 b8 a0 a1 a2 a3 a4 a5 a6 a7 a8
  obtain ⟨r0, r1, r2, r3, r4, r5, r6, r7, r8⟩ := hK2.box.head.four
  obtain ⟨b0, b1, b2, b3, b4, b5, b6, b7, b8⟩ := hK2.box.tail.head.four
  obtain ⟨a0, a1, a2, a3, a4, a5, a6, a7, a8⟩ := hK2.box.tail.tail.head.four
  go_wp2_with fail
  refine (HB.out _).mono ?_
  rintro e w3 ⟨rfl, hb3⟩
  have hK3 := (hK2.add2 _ _ _).keep hb3
  clear r0 r1 r2 r3 r4 r5 r6 r7 r8 b0 b1 b2 b3 b4 b5 b6 b7 b8 a0 a1 a2 a3 a4 a5 a6 a7 a8
  obtain ⟨s0, s1, s2, s3, s4⟩ := hK3.box.head.two
  obtain ⟨r0, r1, r2, r3, r4, r5, r6, r7, r8⟩ := hK3.box.tail.head.four
  obtain ⟨b0, b1, b2, b3, b4, b5, b6, b7, b8⟩ := hK3.box.tail.tail.head.four
  obtain ⟨a0, a1, a2, a3, a4, a5, a6, a7, a8⟩ := hK3.box.tail.tail.tail.head.four
  go_wp2_with fail
  exact bodyPost_ret (v := Vl sv sm lo hi) (by simp [results, Try.results112, go_sem, r0, r1, r2, r3]) rfl ⟨rfl, (hK3.set4 1 rfl).bel⟩

end Go.Proofs.Ytkigmocchaikgaa

/- The contracts of package calc's reckon, checkAll and Two. -/
namespace Go.Proofs.Ytkigmocchaikgaa
open Go.RowKit
attribute [local go_sem] w_and w_or w_xor w_andNot w_and1 w_and63 w_add w_sub w_mul w_sub1 w_add1 w_shl w_shl1 w_shr c_beq c_bne c_beq0 c_bne0 c_beq1 c_bne1 wrap_nv

def rk (op : Int) (v m l h v' m' l' h' : BitVec 64) : BitVec 64 × BitVec 64 × BitVec 64 × BitVec 64 :=
  if op = 8 then (if eqb l' h' then (bshl v (six l'), bshl m (six l'), (shlB l h (six l')).1, (shlB l h (six l')).2) else (zero, top, zero, top))
  else if op = 9 then (if eqb l' h' then (bshr v (six l'), bshr m (six l'), bshr l (six l'), bshr h (six l')) else (zero, top, zero, h))
  else ((twoP op v m v' m').1, (twoP op v m v' m').2, (boundsP op l h l' h').1, (boundsP op l h l' h').2)

theorem shift_is {op : Int} (hop : op = 8 ∨ op = 9) {v m l h : BitVec 64} (v' m' l' h' : BitVec 64) (hr : Hid (eqb (band v m) zero = true)) (w : World) :
    Calls Try.prog 112 #[N op, Vl v m l h, Vl v' m' l' h'] w fun e w' => e = .returned (Vl (rk op v m l h v' m' l' h').1 (rk op v m l h v' m' l' h').2.1 (rk op v m l h v' m' l' h').2.2.1 (rk op v m l h v' m' l' h').2.2.2) ∧ Below w.heap.size w w' := by
  rcases hop with rfl | rfl
  · cases ha : eqb l' h'
    · have e : rk 8 v m l h v' m' l' h' = (zero, top, zero, top) := by unfold rk; rw [if_pos rfl, ha]; rfl
      rw [e]; exact shift_wide8 ha w
    · have e : rk 8 v m l h v' m' l' h' = (bshl v (six l'), bshl m (six l'), (shlB l h (six l')).1, (shlB l h (six l')).2) := by unfold rk; rw [if_pos rfl, ha]; rfl
      rw [e]; exact shift_one8 hr ha w
  · cases ha : eqb l' h'
    · have e : rk 9 v m l h v' m' l' h' = (zero, top, zero, h) := by unfold rk; rw [if_neg (by decide), if_pos rfl, ha]; rfl
      rw [e]; exact shift_wide9 ha w
    · have e : rk 9 v m l h v' m' l' h' = (bshr v (six l'), bshr m (six l'), bshr l (six l'), bshr h (six l')) := by unfold rk; rw [if_neg (by decide), if_pos rfl, ha]; rfl
      rw [e]; exact shift_one9 hr ha w

set_option maxRecDepth 100000 in
set_option maxHeartbeats 1000000 in
theorem reckon_shift {op : Int} (hop : op = 8 ∨ op = 9) {v m l g : BitVec 64} (v' m' l' g' : BitVec 64) (hr : Hid (eqb (band v m) zero = true)) (w : World) :
    Calls Try.prog 88 #[N op, Vl v m l g, Vl v' m' l' g'] w fun e w' => e = .returned (.tuple #[Vl (rk op v m l g v' m' l' g').1 (rk op v m l g v' m' l' g').2.1 (rk op v m l g v' m' l' g').2.2.1 (rk op v m l g v' m' l' g').2.2.2, N 0]) ∧ Below w.heap.size w w' := by
  have HS : Hid (∀ w, Calls Try.prog 112 #[N op, Vl v m l g, Vl v' m' l' g'] w fun e w' => e = .returned (Vl (rk op v m l g v' m' l' g').1 (rk op v m l g v' m' l' g').2.1 (rk op v m l g v' m' l' g').2.2.1 (rk op v m l g v' m' l' g').2.2.2) ∧ Below w.heap.size w w') := fun w => shift_is hop v' m' l' g' hr w
  generalize rk op v m l g v' m' l' g' = S at HS ⊢
  obtain ⟨sa, sb, sc, sd⟩ := S
  rcases hop with rfl | rfl
  all_goals
    go_enter Try.func88, Try.ntmps88
    go_wp2_with fail
    refine (HS.out _).mono ?_
    rintro e w1 ⟨rfl, hb1⟩
    have hK := ((((Kp.start w).add4 _ _ _ _ _).add4 _ _ _ _ _).add4 _ _ _ _ _).keep hb1
    simp only [World.size_alloc] at hK
    obtain ⟨r0, r1, r2, r3, r4, r5, r6, r7, r8⟩ := hK.box.head.four
    obtain ⟨b0, b1, b2, b3, b4, b5, b6, b7, b8⟩ := hK.box.tail.head.four
    obtain ⟨a0, a1, a2, a3, a4, a5, a6, a7, a8⟩ := hK.box.tail.tail.head.four
    go_wp2_with fail
    exact bodyPost_ret (v := .tuple #[Vl sa sb sc sd, N 0]) (by simp [results, Try.results88, go_sem, r0, r1, r2, r3]) rfl ⟨rfl, (hK.set4 0 rfl).bel⟩
set_option maxRecDepth 100000 in
set_option maxHeartbeats 1000000 in
theorem reckon_two {op : Int} (hop : Hid (2 ≤ op ∧ op ≤ 7)) {v m l g v' m' l' g' : BitVec 64} (hr : Hid ((eqb (band v m) zero && eqb (band v' m') zero) = true)) (w : World) :
    Calls Try.prog 88 #[N op, Vl v m l g, Vl v' m' l' g'] w fun e w' => e = .returned (.tuple #[Vl (rk op v m l g v' m' l' g').1 (rk op v m l g v' m' l' g').2.1 (rk op v m l g v' m' l' g').2.2.1 (rk op v m l g v' m' l' g').2.2.2, N 0]) ∧ Below w.heap.size w w' := by
  have h8 : (op == 8) = false := by have := hop.out; simp; omega
  have h9 : (op == 9) = false := by have := hop.out; simp; omega
  have Hk : Hid (rk op v m l g v' m' l' g' = ((twoP op v m v' m').1, (twoP op v m v' m').2, (boundsP op l g l' g').1, (boundsP op l g l' g').2)) := by
    show _ = _
    unfold rk; rw [if_neg (by have := hop.out; omega), if_neg (by have := hop.out; omega)]
  rw [Hk.out]
  have HT : Hid (∀ w, Calls Try.prog 28 #[N op, Bt v m, Bt v' m'] w fun e w' => e = .returned (.tuple #[Bt (twoP op v m v' m').1 (twoP op v m v' m').2, N 0]) ∧ Below w.heap.size w w') := fun w => two_ok hr hop.out w
  have HB : Hid (∀ w, Calls Try.prog 113 #[N op, Vl v m l g, Vl v' m' l' g'] w fun e w' => e = .returned (.tuple #[U (boundsP op l g l' g').1, U (boundsP op l g l' g').2]) ∧ Below w.heap.size w w') := fun w => bounds_any hop v m l g v' m' l' g' w
  clear Hk
  generalize twoP op v m v' m' = T at HT ⊢
  generalize boundsP op l g l' g' = B at HB ⊢
  obtain ⟨ta, tb⟩ := T
  obtain ⟨ba, bb⟩ := B
  go_enter Try.func88, Try.ntmps88
  go_wp2_with fail
  refine (HT.out _).mono ?_
  rintro e w1 ⟨rfl, hb1⟩
  have hK := ((((Kp.start w).add4 _ _ _ _ _).add4 _ _ _ _ _).add4 _ _ _ _ _).keep hb1
  simp only [World.size_alloc] at hK
  obtain ⟨r0, r1, r2, r3, r4, r5, r6, r7, r8⟩ := hK.box.head.four
  obtain ⟨b0, b1, b2, b3, b4, b5, b6, b7, b8⟩ := hK.box.tail.head.four
  obtain ⟨a0, a1, a2, a3, a4, a5, a6, a7, a8⟩ := hK.box.tail.tail.head.four
  go_wp2_with fail
  refine (HB.out _).mono ?_
  rintro e w2 ⟨rfl, hb2⟩
  have hK2 := (hK.add2 _ _ _).keep hb2
  clear r0 r1 r2 r3 r4 r5 r6 r7 r8 b0 b1 b2 b3 b4 b5 b6 b7 b8 a0 a1 a2 a3 a4 a5 a6 a7 a8
  obtain ⟨k0, k1, k2, k3, k4⟩ := hK2.box.head.two
  obtain ⟨r0, r1, r2, r3, r4, r5, r6, r7, r8⟩ := hK2.box.tail.head.four
  obtain ⟨b0, b1, b2, b3, b4, b5, b6, b7, b8⟩ := hK2.box.tail.tail.head.four
  obtain ⟨a0, a1, a2, a3, a4, a5, a6, a7, a8⟩ := hK2.box.tail.tail.tail.head.four
  go_wp2_with fail
  exact bodyPost_ret (v := .tuple #[Vl ta tb ba bb, N 0]) (by simp [results, Try.results88, go_sem, r0, r1, r2, r3]) rfl ⟨rfl, (hK2.set4 1 rfl).bel⟩
set_option maxRecDepth 100000 in
set_option maxHeartbeats 1000000 in
theorem reckon_kind {op : Int} (hop : Hid (op < 2 ∨ 9 < op)) {v m l g v' m' l' g' : BitVec 64} (hr : Hid ((eqb (band v m) zero && eqb (band v' m') zero) = true)) (w : World) :
    Calls Try.prog 88 #[N op, Vl v m l g, Vl v' m' l' g'] w fun e w' => e = .returned (.tuple #[V0, N 4]) ∧ Below w.heap.size w w' := by
  have h8 : (op == 8) = false := by have := hop.out; simp; omega
  have h9 : (op == 9) = false := by have := hop.out; simp; omega
  have HT : Hid (∀ w, Calls Try.prog 28 #[N op, Bt v m, Bt v' m'] w fun e w' => e = .returned (.tuple #[Bt zero zero, N 4]) ∧ Below w.heap.size w w') := fun w => two_kind hr (by have := hop.out; omega) w
  go_enter Try.func88, Try.ntmps88
  go_wp2_with fail
  refine (HT.out _).mono ?_
  rintro e w1 ⟨rfl, hb1⟩
  have hK := ((((Kp.start w).add4 _ _ _ _ _).add4 _ _ _ _ _).add4 _ _ _ _ _).keep hb1
  simp only [World.size_alloc] at hK
  obtain ⟨r0, r1, r2, r3, r4, r5, r6, r7, r8⟩ := hK.box.head.four
  obtain ⟨b0, b1, b2, b3, b4, b5, b6, b7, b8⟩ := hK.box.tail.head.four
  obtain ⟨a0, a1, a2, a3, a4, a5, a6, a7, a8⟩ := hK.box.tail.tail.head.four
  go_wp2_with fail
  exact bodyPost_ret (v := .tuple #[V0, N 4]) (by simp [results, Try.results88, go_sem, nv_zero, r0, r1, r2, r3, r8]) rfl ⟨rfl, ((hK.set4 0 rfl).add2 _ _ _).bel⟩

end Go.Proofs.Ytkigmocchaikgaa

/- The contracts of package calc's checkAll and Two. -/
namespace Go.Proofs.Ytkigmocchaikgaa
open Go.RowKit
attribute [local go_sem] w_and w_or w_xor w_andNot w_and1 w_and63 w_add w_sub w_mul w_sub1 w_add1 w_shl w_shl1 w_shr c_beq c_bne c_beq0 c_bne0 c_beq1 c_bne1 wrap_nv

set_option maxRecDepth 100000 in
set_option maxHeartbeats 1000000 in
theorem vcheck2 {v m l g v' m' l' g' : BitVec 64} {r1 r2 : Bool} (h1 : Hid (valB v m l g = r1)) (h2 : Hid (valB v' m' l' g' = r2)) {b c : Nat} {w : World} (hbw : b < w.heap.size)
    (c0 : w.cell? ⟨b, 0, none⟩ = some (U v)) (c1 : w.cell? ⟨b, 1, none⟩ = some (U m)) (c2 : w.cell? ⟨b, 2, none⟩ = some (U l)) (c3 : w.cell? ⟨b, 3, none⟩ = some (U g))
    (c4 : w.cell? ⟨b, 4, none⟩ = some (U v')) (c5 : w.cell? ⟨b, 5, none⟩ = some (U m')) (c6 : w.cell? ⟨b, 6, none⟩ = some (U l')) (c7 : w.cell? ⟨b, 7, none⟩ = some (U g')) :
    Calls Try.prog 87 #[.slice (some ⟨b, 0, none⟩) 2 c] w fun e w' => e = .returned (N (er (r1 && r2))) ∧ Below w.heap.size w w' := by
  go_enter Try.func87, Try.ntmps87
  go_wp2_with fail
  refine wp_loop_rounds 3 ?_
  rw [rounds_succ]
  go_wp2_with fail
  refine (checkV h1.out _).mono ?_
  rintro e w1 ⟨rfl, hb1⟩
  obtain ⟨hc1, hf1, hs1⟩ := bk (b + 1) hb1 (by simp; omega)
  cases r1
  · rw [er_f]
    go_wp2_with fail
    go_ret
    exact ⟨rfl, (by repeat (first | exact Below.refl _ _ | assumption | refine below_drewN ?_ _ | refine Below.drew ?_ | refine Below.alloc ?_ (by first | exact Nat.le_refl _ | (simp; done) | (simp; omega) | omega) _ | refine Below.setCell ?_ (by first | exact Nat.le_refl _ | (simp; done) | (simp; omega) | omega) _ | refine Below.trans ?_ (Below.mono (by assumption) (by first | exact Nat.le_refl _ | (simp; done) | (simp; omega) | omega))))⟩
  · rw [er_t]
    go_wp2_with fail
    rw [rounds_succ]
    go_wp2_with fail
    refine (checkV h2.out _).mono ?_
    rintro e w2 ⟨rfl, hb2⟩
    have hz1 : w.heap.size ≤ w1.heap.size := Nat.le_trans (by simp) hb1.size
    cases r2
    · rw [er_f]
      go_wp2_with fail
      go_ret
      exact ⟨rfl, (by repeat (first | exact Below.refl _ _ | assumption | refine below_drewN ?_ _ | refine Below.drew ?_ | refine Below.alloc ?_ (by first | exact Nat.le_refl _ | (simp; done) | (simp; omega) | omega) _ | refine Below.setCell ?_ (by first | exact Nat.le_refl _ | (simp; done) | (simp; omega) | omega) _ | refine Below.trans ?_ (Below.mono (by assumption) (by first | exact Nat.le_refl _ | (simp; done) | (simp; omega) | omega))))⟩
    · rw [er_t]
      go_wp2_with fail
      rw [rounds_succ]
      go_wp2_with fail
      go_ret
      exact ⟨rfl, (by repeat (first | exact Below.refl _ _ | assumption | refine below_drewN ?_ _ | refine Below.drew ?_ | refine Below.alloc ?_ (by first | exact Nat.le_refl _ | (simp; done) | (simp; omega) | omega) _ | refine Below.setCell ?_ (by first | exact Nat.le_refl _ | (simp; done) | (simp; omega) | omega) _ | refine Below.trans ?_ (Below.mono (by assumption) (by first | exact Nat.le_refl _ | (simp; done) | (simp; omega) | omega))))⟩

theorem two_checked {v m l g v' m' l' g' : BitVec 64} (hr : (valB v m l g && valB v' m' l' g') = true) : (eqb (band v m) zero && eqb (band v' m') zero) = true := by
  rw [Bool.and_eq_true] at hr
  rw [(rt_iff _ _).2 (val_facts hr.1).1, (rt_iff _ _).2 (val_facts hr.2).1]; rfl
set_option maxRecDepth 100000 in
set_option maxHeartbeats 1000000 in
theorem calcTwo_wrong {op : Int} {v m l g v' m' l' g' : BitVec 64} (hr : Hid ((valB v m l g && valB v' m' l' g') = false)) (w : World) :
    Calls Try.prog 46 #[N op, Vl v m l g, Vl v' m' l' g'] w fun e w' => e = .returned (.tuple #[V0, N 1]) ∧ Below w.heap.size w w' := by
  obtain ⟨z1, H1⟩ : ∃ b, Hid (valB v m l g = b) := ⟨_, rfl⟩
  obtain ⟨z2, H2⟩ : ∃ b, Hid (valB v' m' l' g' = b) := ⟨_, rfl⟩
  rw [H1.out, H2.out] at hr
  go_enter Try.func46, Try.ntmps46
  go_wp2_with fail
  refine (vcheck2 H1 H2 (by simp) (by simp [go_sem]) (by simp [go_sem]) (by simp [go_sem]) (by simp [go_sem]) (by simp [go_sem]) (by simp [go_sem]) (by simp [go_sem]) (by simp [go_sem])).mono ?_
  rw [hr.out, er_f]
  rintro e w1 ⟨rfl, hb1⟩
  have hK := (((((Kp.start w).add4 _ _ _ _ _).add4 _ _ _ _ _).add4 _ _ _ _ _).keep ((Below.refl _ _).alloc (Nat.le_refl _) _)).keep hb1
  simp only [World.size_alloc] at hK
  obtain ⟨r0, r1, r2, r3, r4, r5, r6, r7, r8⟩ := hK.box.head.four
  obtain ⟨b0, b1, b2, b3, b4, b5, b6, b7, b8⟩ := hK.box.tail.head.four
  obtain ⟨a0, a1, a2, a3, a4, a5, a6, a7, a8⟩ := hK.box.tail.tail.head.four
  go_wp2_with fail
  exact bodyPost_ret (v := .tuple #[V0, N 1]) (by simp [results, Try.results46, go_sem, nv_zero, r0, r1, r2, r3]) rfl ⟨rfl, (hK.set4 0 rfl).bel⟩

set_option maxRecDepth 100000 in
set_option maxHeartbeats 1000000 in
theorem calcTwo_kind {op : Int} (hop : Hid (op < 2 ∨ 9 < op)) {v m l g v' m' l' g' : BitVec 64} (hr : Hid ((valB v m l g && valB v' m' l' g') = true))  (w : World) :
    Calls Try.prog 46 #[N op, Vl v m l g, Vl v' m' l' g'] w fun e w' => e = .returned (.tuple #[V0, N 4]) ∧ Below w.heap.size w w' := by
  obtain ⟨z1, H1⟩ : ∃ b, Hid (valB v m l g = b) := ⟨_, rfl⟩
  obtain ⟨z2, H2⟩ : ∃ b, Hid (valB v' m' l' g' = b) := ⟨_, rfl⟩
  have HR : Hid (∀ w, Calls Try.prog 88 #[N op, Vl v m l g, Vl v' m' l' g'] w fun e w' => e = .returned (.tuple #[V0, N 4]) ∧ Below w.heap.size w w') := fun w => reckon_kind hop (two_checked hr.out) w
  rw [H1.out, H2.out] at hr
  go_enter Try.func46, Try.ntmps46
  go_wp2_with fail
  refine (vcheck2 H1 H2 (by simp) (by simp [go_sem]) (by simp [go_sem]) (by simp [go_sem]) (by simp [go_sem]) (by simp [go_sem]) (by simp [go_sem]) (by simp [go_sem]) (by simp [go_sem])).mono ?_
  rw [hr.out, er_t]
  rintro e w1 ⟨rfl, hb1⟩
  have hK := (((((Kp.start w).add4 _ _ _ _ _).add4 _ _ _ _ _).add4 _ _ _ _ _).keep ((Below.refl _ _).alloc (Nat.le_refl _) _)).keep hb1
  simp only [World.size_alloc] at hK
  obtain ⟨r0, r1, r2, r3, r4, r5, r6, r7, r8⟩ := hK.box.head.four
  obtain ⟨b0, b1, b2, b3, b4, b5, b6, b7, b8⟩ := hK.box.tail.head.four
  obtain ⟨a0, a1, a2, a3, a4, a5, a6, a7, a8⟩ := hK.box.tail.tail.head.four
  go_wp2_with fail
  refine (HR.out _).mono ?_
  rintro e w2 ⟨rfl, hb2⟩
  have hK2 := hK.keep hb2
  clear r0 r1 r2 r3 r4 r5 r6 r7 r8 b0 b1 b2 b3 b4 b5 b6 b7 b8 a0 a1 a2 a3 a4 a5 a6 a7 a8
  obtain ⟨r0, r1, r2, r3, r4, r5, r6, r7, r8⟩ := hK2.box.head.four
  obtain ⟨b0, b1, b2, b3, b4, b5, b6, b7, b8⟩ := hK2.box.tail.head.four
  obtain ⟨a0, a1, a2, a3, a4, a5, a6, a7, a8⟩ := hK2.box.tail.tail.head.four
  go_wp2_with fail
  exact bodyPost_ret (v := .tuple #[V0, N 4]) (by simp [results, Try.results46, go_sem, nv_zero, r0, r1, r2, r3, r8]) rfl ⟨rfl, ((hK2.set4 0 rfl).add4 _ _ _ _ _).bel⟩

set_option maxRecDepth 100000 in
set_option maxHeartbeats 1000000 in
theorem calcTwo_none {op : Int}  {v m l g v' m' l' g' : BitVec 64} (hr : Hid ((valB v m l g && valB v' m' l' g') = true)) (hop : Hid (2 ≤ op ∧ op ≤ 9)) (hrr : Hid (eqb (band (rk op v m l g v' m' l' g').1 (rk op v m l g v' m' l' g').2.1) zero = true)) (ho : Hid (normOk (rk op v m l g v' m' l' g').1 (rk op v m l g v' m' l' g').2.1 (rk op v m l g v' m' l' g').2.2.1 (rk op v m l g v' m' l' g').2.2.2 = false)) (w : World) :
    Calls Try.prog 46 #[N op, Vl v m l g, Vl v' m' l' g'] w fun e w' => e = .returned (.tuple #[V0, N 0]) ∧ Below w.heap.size w w' := by
  obtain ⟨z1, H1⟩ : ∃ b, Hid (valB v m l g = b) := ⟨_, rfl⟩
  obtain ⟨z2, H2⟩ : ∃ b, Hid (valB v' m' l' g' = b) := ⟨_, rfl⟩
  have hb := two_checked hr.out
  have hb' := hb
  rw [Bool.and_eq_true] at hb'
  have HR : Hid (∀ w, Calls Try.prog 88 #[N op, Vl v m l g, Vl v' m' l' g'] w fun e w' => e = .returned (.tuple #[Vl (rk op v m l g v' m' l' g').1 (rk op v m l g v' m' l' g').2.1 (rk op v m l g v' m' l' g').2.2.1 (rk op v m l g v' m' l' g').2.2.2, N 0]) ∧ Below w.heap.size w w') := fun w => by
    by_cases h : op = 8 ∨ op = 9
    · exact reckon_shift h v' m' l' g' hb'.1 w
    · exact reckon_two (hid (by have := hop.out; omega)) hb w
  clear hb hb' hop
  generalize rk op v m l g v' m' l' g' = S at HR hrr ho ⊢
  obtain ⟨sa, sb, sc, sd⟩ := S
  dsimp only at HR hrr ho ⊢
  have HN : Hid (∀ w, Calls Try.prog 31 #[Vl sa sb sc sd] w fun e w' => e = .returned (.tuple #[V0, .bool false, N 0]) ∧ Below w.heap.size w w') := fun w => norm_none hrr ho w
  rw [H1.out, H2.out] at hr
  go_enter Try.func46, Try.ntmps46
  go_wp2_with fail
  refine (vcheck2 H1 H2 (by simp) (by simp [go_sem]) (by simp [go_sem]) (by simp [go_sem]) (by simp [go_sem]) (by simp [go_sem]) (by simp [go_sem]) (by simp [go_sem]) (by simp [go_sem])).mono ?_
  rw [hr.out, er_t]
  rintro e w1 ⟨rfl, hb1⟩
  have hK := (((((Kp.start w).add4 _ _ _ _ _).add4 _ _ _ _ _).add4 _ _ _ _ _).keep ((Below.refl _ _).alloc (Nat.le_refl _) _)).keep hb1
  simp only [World.size_alloc] at hK
  obtain ⟨r0, r1, r2, r3, r4, r5, r6, r7, r8⟩ := hK.box.head.four
  obtain ⟨b0, b1, b2, b3, b4, b5, b6, b7, b8⟩ := hK.box.tail.head.four
  obtain ⟨a0, a1, a2, a3, a4, a5, a6, a7, a8⟩ := hK.box.tail.tail.head.four
  go_wp2_with fail
  refine (HR.out _).mono ?_
  rintro e w2 ⟨rfl, hb2⟩
  have hK2 := hK.keep hb2
  clear r0 r1 r2 r3 r4 r5 r6 r7 r8 b0 b1 b2 b3 b4 b5 b6 b7 b8 a0 a1 a2 a3 a4 a5 a6 a7 a8
  obtain ⟨r0, r1, r2, r3, r4, r5, r6, r7, r8⟩ := hK2.box.head.four
  obtain ⟨b0, b1, b2, b3, b4, b5, b6, b7, b8⟩ := hK2.box.tail.head.four
  obtain ⟨a0, a1, a2, a3, a4, a5, a6, a7, a8⟩ := hK2.box.tail.tail.head.four
  go_wp2_with fail
  refine (HN.out _).mono ?_
  rintro e w3 ⟨rfl, hb3⟩
  have hK3 := (hK2.add4 _ _ _ _ _).keep hb3
  clear r0 r1 r2 r3 r4 r5 r6 r7 r8 b0 b1 b2 b3 b4 b5 b6 b7 b8 a0 a1 a2 a3 a4 a5 a6 a7 a8
  obtain ⟨k0, k1, k2, k3, k4, k5, k6, k7, k8⟩ := hK3.box.head.four
  obtain ⟨r0, r1, r2, r3, r4, r5, r6, r7, r8⟩ := hK3.box.tail.head.four
  obtain ⟨b0, b1, b2, b3, b4, b5, b6, b7, b8⟩ := hK3.box.tail.tail.head.four
  obtain ⟨a0, a1, a2, a3, a4, a5, a6, a7, a8⟩ := hK3.box.tail.tail.tail.head.four
  go_wp2_with fail
  exact bodyPost_ret (v := .tuple #[V0, N 0]) (by simp [results, Try.results46, go_sem, nv_zero, r0, r1, r2, r3, r8]) rfl ⟨rfl, ((hK3.set4 1 rfl).add4 _ _ _ _ _).bel⟩

set_option maxRecDepth 100000 in
set_option maxHeartbeats 1000000 in
theorem calcTwo_yes {op : Int}  {v m l g v' m' l' g' : BitVec 64} (hr : Hid ((valB v m l g && valB v' m' l' g') = true)) (hop : Hid (2 ≤ op ∧ op ≤ 9)) (hrr : Hid (eqb (band (rk op v m l g v' m' l' g').1 (rk op v m l g v' m' l' g').2.1) zero = true)) (ho : Hid (normOk (rk op v m l g v' m' l' g').1 (rk op v m l g v' m' l' g').2.1 (rk op v m l g v' m' l' g').2.2.1 (rk op v m l g v' m' l' g').2.2.2 = true)) (w : World) :
    Calls Try.prog 46 #[N op, Vl v m l g, Vl v' m' l' g'] w fun e w' => e = .returned (.tuple #[Vl (nV (rk op v m l g v' m' l' g').1 (rk op v m l g v' m' l' g').2.1 (rk op v m l g v' m' l' g').2.2.1 (rk op v m l g v' m' l' g').2.2.2) (nM (rk op v m l g v' m' l' g').2.1 (nLo (rk op v m l g v' m' l' g').1 (rk op v m l g v' m' l' g').2.1 (rk op v m l g v' m' l' g').2.2.1) (nHi (rk op v m l g v' m' l' g').1 (rk op v m l g v' m' l' g').2.1 (rk op v m l g v' m' l' g').2.2.2)) (nLo (rk op v m l g v' m' l' g').1 (rk op v m l g v' m' l' g').2.1 (rk op v m l g v' m' l' g').2.2.1) (nHi (rk op v m l g v' m' l' g').1 (rk op v m l g v' m' l' g').2.1 (rk op v m l g v' m' l' g').2.2.2), N 0]) ∧ Below w.heap.size w w' := by
  obtain ⟨z1, H1⟩ : ∃ b, Hid (valB v m l g = b) := ⟨_, rfl⟩
  obtain ⟨z2, H2⟩ : ∃ b, Hid (valB v' m' l' g' = b) := ⟨_, rfl⟩
  have hb := two_checked hr.out
  have hb' := hb
  rw [Bool.and_eq_true] at hb'
  have HR : Hid (∀ w, Calls Try.prog 88 #[N op, Vl v m l g, Vl v' m' l' g'] w fun e w' => e = .returned (.tuple #[Vl (rk op v m l g v' m' l' g').1 (rk op v m l g v' m' l' g').2.1 (rk op v m l g v' m' l' g').2.2.1 (rk op v m l g v' m' l' g').2.2.2, N 0]) ∧ Below w.heap.size w w') := fun w => by
    by_cases h : op = 8 ∨ op = 9
    · exact reckon_shift h v' m' l' g' hb'.1 w
    · exact reckon_two (hid (by have := hop.out; omega)) hb w
  clear hb hb' hop
  generalize rk op v m l g v' m' l' g' = S at HR hrr ho ⊢
  obtain ⟨sa, sb, sc, sd⟩ := S
  dsimp only at HR hrr ho ⊢
  have HN : Hid (∀ w, Calls Try.prog 31 #[Vl sa sb sc sd] w fun e w' => e = .returned (.tuple #[Vl (nV sa sb sc sd) (nM sb (nLo sa sb sc) (nHi sa sb sd)) (nLo sa sb sc) (nHi sa sb sd), .bool true, N 0]) ∧ Below w.heap.size w w') := fun w => norm_yes hrr ho w
  generalize nV sa sb sc sd = na at HN ⊢
  generalize nM sb (nLo sa sb sc) (nHi sa sb sd) = nb at HN ⊢
  generalize nLo sa sb sc = nc at HN ⊢
  generalize nHi sa sb sd = nd at HN ⊢
  rw [H1.out, H2.out] at hr
  go_enter Try.func46, Try.ntmps46
  go_wp2_with fail
  refine (vcheck2 H1 H2 (by simp) (by simp [go_sem]) (by simp [go_sem]) (by simp [go_sem]) (by simp [go_sem]) (by simp [go_sem]) (by simp [go_sem]) (by simp [go_sem]) (by simp [go_sem])).mono ?_
  rw [hr.out, er_t]
  rintro e w1 ⟨rfl, hb1⟩
  have hK := (((((Kp.start w).add4 _ _ _ _ _).add4 _ _ _ _ _).add4 _ _ _ _ _).keep ((Below.refl _ _).alloc (Nat.le_refl _) _)).keep hb1
  simp only [World.size_alloc] at hK
  obtain ⟨r0, r1, r2, r3, r4, r5, r6, r7, r8⟩ := hK.box.head.four
  obtain ⟨b0, b1, b2, b3, b4, b5, b6, b7, b8⟩ := hK.box.tail.head.four
  obtain ⟨a0, a1, a2, a3, a4, a5, a6, a7, a8⟩ := hK.box.tail.tail.head.four
  go_wp2_with fail
  refine (HR.out _).mono ?_
  rintro e w2 ⟨rfl, hb2⟩
  have hK2 := hK.keep hb2
  clear r0 r1 r2 r3 r4 r5 r6 r7 r8 b0 b1 b2 b3 b4 b5 b6 b7 b8 a0 a1 a2 a3 a4 a5 a6 a7 a8
  obtain ⟨r0, r1, r2, r3, r4, r5, r6, r7, r8⟩ := hK2.box.head.four
  obtain ⟨b0, b1, b2, b3, b4, b5, b6, b7, b8⟩ := hK2.box.tail.head.four
  obtain ⟨a0, a1, a2, a3, a4, a5, a6, a7, a8⟩ := hK2.box.tail.tail.head.four
  go_wp2_with fail
  refine (HN.out _).mono ?_
  rintro e w3 ⟨rfl, hb3⟩
  have hK3 := (hK2.add4 _ _ _ _ _).keep hb3
  clear r0 r1 r2 r3 r4 r5 r6 r7 r8 b0 b1 b2 b3 b4 b5 b6 b7 b8 a0 a1 a2 a3 a4 a5 a6 a7 a8
  obtain ⟨k0, k1, k2, k3, k4, k5, k6, k7, k8⟩ := hK3.box.head.four
  obtain ⟨r0, r1, r2, r3, r4, r5, r6, r7, r8⟩ := hK3.box.tail.head.four
  obtain ⟨b0, b1, b2, b3, b4, b5, b6, b7, b8⟩ := hK3.box.tail.tail.head.four
  obtain ⟨a0, a1, a2, a3, a4, a5, a6, a7, a8⟩ := hK3.box.tail.tail.tail.head.four
  go_wp2_with fail
  exact bodyPost_ret (v := .tuple #[Vl na nb nc nd, N 0]) (by simp [results, Try.results46, go_sem, r0, r1, r2, r3, r8]) rfl ⟨rfl, ((hK3.set4 1 rfl).add4 _ _ _ _ _).bel⟩

end Go.Proofs.Ytkigmocchaikgaa

/- The contracts of package calc's between and without. -/
namespace Go.Proofs.Ytkigmocchaikgaa
open Go.RowKit
attribute [local go_sem] w_and w_or w_xor w_andNot w_and1 w_and63 w_add w_sub w_mul w_sub1 w_add1 w_shl w_shl1 w_shr c_beq c_bne c_beq0 c_bne0 c_beq1 c_bne1 wrap_nv

set_option maxRecDepth 100000 in
set_option maxHeartbeats 1000000 in
theorem between_any (v m l g lo hi : BitVec 64) (w : World) :
    Calls Try.prog 97 #[Vl v m l g, U lo, U hi] w fun e w' => e = .returned (Vl v m (bmax l lo) (bmin g hi)) ∧ Below w.heap.size w w' := by
  by_cases h1 : nv l < nv lo <;> by_cases h2 : nv hi < nv g
  · have e1 : Hid (bmax l lo = lo) := if_pos h1
    have e2 : Hid (bmin g hi = hi) := if_pos h2
    rw [e1.out, e2.out]
    go_enter Try.func97, Try.ntmps97
    go_wp2_with fail
    exact bodyPost_ret (v := Vl v m lo hi) (by simp [results, Try.results97, go_sem]) rfl ⟨rfl, (by repeat (first | exact Below.refl _ _ | assumption | refine below_drewN ?_ _ | refine Below.drew ?_ | refine Below.alloc ?_ (by first | exact Nat.le_refl _ | (simp; done) | (simp; omega) | omega) _ | refine Below.setCell ?_ (by first | exact Nat.le_refl _ | (simp; done) | (simp; omega) | omega) _ | refine Below.trans ?_ (Below.mono (by assumption) (by first | exact Nat.le_refl _ | (simp; done) | (simp; omega) | omega))))⟩
  · have e1 : Hid (bmax l lo = lo) := if_pos h1
    have e2 : Hid (bmin g hi = g) := if_neg h2
    have h2' : nv g ≤ nv hi := by omega
    clear h2
    rw [e1.out, e2.out]
    go_enter Try.func97, Try.ntmps97
    go_wp2_with fail
    exact bodyPost_ret (v := Vl v m lo g) (by simp [results, Try.results97, go_sem]) rfl ⟨rfl, (by repeat (first | exact Below.refl _ _ | assumption | refine below_drewN ?_ _ | refine Below.drew ?_ | refine Below.alloc ?_ (by first | exact Nat.le_refl _ | (simp; done) | (simp; omega) | omega) _ | refine Below.setCell ?_ (by first | exact Nat.le_refl _ | (simp; done) | (simp; omega) | omega) _ | refine Below.trans ?_ (Below.mono (by assumption) (by first | exact Nat.le_refl _ | (simp; done) | (simp; omega) | omega))))⟩
  · have e1 : Hid (bmax l lo = l) := if_neg h1
    have e2 : Hid (bmin g hi = hi) := if_pos h2
    have h1' : nv lo ≤ nv l := by omega
    clear h1
    rw [e1.out, e2.out]
    go_enter Try.func97, Try.ntmps97
    go_wp2_with fail
    exact bodyPost_ret (v := Vl v m l hi) (by simp [results, Try.results97, go_sem]) rfl ⟨rfl, (by repeat (first | exact Below.refl _ _ | assumption | refine below_drewN ?_ _ | refine Below.drew ?_ | refine Below.alloc ?_ (by first | exact Nat.le_refl _ | (simp; done) | (simp; omega) | omega) _ | refine Below.setCell ?_ (by first | exact Nat.le_refl _ | (simp; done) | (simp; omega) | omega) _ | refine Below.trans ?_ (Below.mono (by assumption) (by first | exact Nat.le_refl _ | (simp; done) | (simp; omega) | omega))))⟩
  · have e1 : Hid (bmax l lo = l) := if_neg h1
    have e2 : Hid (bmin g hi = g) := if_neg h2
    have h1' : nv lo ≤ nv l := by omega
    have h2' : nv g ≤ nv hi := by omega
    clear h1 h2
    rw [e1.out, e2.out]
    go_enter Try.func97, Try.ntmps97
    go_wp2_with fail
    exact bodyPost_ret (v := Vl v m l g) (by simp [results, Try.results97, go_sem]) rfl ⟨rfl, (by repeat (first | exact Below.refl _ _ | assumption | refine below_drewN ?_ _ | refine Below.drew ?_ | refine Below.alloc ?_ (by first | exact Nat.le_refl _ | (simp; done) | (simp; omega) | omega) _ | refine Below.setCell ?_ (by first | exact Nat.le_refl _ | (simp; done) | (simp; omega) | omega) _ | refine Below.trans ?_ (Below.mono (by assumption) (by first | exact Nat.le_refl _ | (simp; done) | (simp; omega) | omega))))⟩

def woL (l l' h' : BitVec 64) : BitVec 64 := if eqb l' h' && eqb l l' then badd l one else l
def woH (l h l' h' : BitVec 64) : BitVec 64 := if eqb l' h' && (!eqb l l' && eqb h l') then bsub h one else h
set_option maxRecDepth 100000 in
set_option maxHeartbeats 1000000 in
theorem without_is (v m l g v' m' l' g' : BitVec 64) (w : World) :
    Calls Try.prog 95 #[Vl v m l g, Vl v' m' l' g'] w fun e w' => e = .returned (Vl v m (woL l l' g') (woH l g l' g')) ∧ Below w.heap.size w w' := by
  have H1 : Hid (woL l l' g' = if eqb l' g' && eqb l l' then badd l one else l) := rfl
  have H2 : Hid (woH l g l' g' = if eqb l' g' && (!eqb l l' && eqb g l') then bsub g one else g) := rfl
  obtain ⟨z1, ha⟩ : ∃ b, Hid (eqb l' g' = b) := ⟨_, rfl⟩
  obtain ⟨z2, hb⟩ : ∃ b, eqb l l' = b := ⟨_, rfl⟩
  obtain ⟨z3, hc⟩ : ∃ b, eqb g l' = b := ⟨_, rfl⟩
  rw [ha.out, hb] at H1
  rw [ha.out, hb, hc] at H2
  cases z1
  · rw [H1.out, H2.out]
    go_enter Try.func95, Try.ntmps95
    go_wp2_with fail
    refine (alone_is ha.out _).mono ?_
    rintro e w1 ⟨rfl, hb1⟩
    have hK := ((((Kp.start w).add4 _ _ _ _ _).add4 _ _ _ _ _).add4 _ _ _ _ _).keep hb1
    simp only [World.size_alloc] at hK
    obtain ⟨r0, r1, r2, r3, r4, r5, r6, r7, r8⟩ := hK.box.head.four
    obtain ⟨b0, b1, b2, b3, b4, b5, b6, b7, b8⟩ := hK.box.tail.head.four
    obtain ⟨a0, a1, a2, a3, a4, a5, a6, a7, a8⟩ := hK.box.tail.tail.head.four
    go_wp2_with fail
    exact bodyPost_ret (v := Vl v m l g) (by simp [results, Try.results95, go_sem, r0, r1, r2, r3]) rfl ⟨rfl, (hK.set4 0 rfl).bel⟩
  · cases z2
    · cases z3
      · rw [H1.out, H2.out]
        go_enter Try.func95, Try.ntmps95
        go_wp2_with fail
        refine (alone_is ha.out _).mono ?_
        rintro e w1 ⟨rfl, hb1⟩
        have hK := ((((Kp.start w).add4 _ _ _ _ _).add4 _ _ _ _ _).add4 _ _ _ _ _).keep hb1
        simp only [World.size_alloc] at hK
        obtain ⟨r0, r1, r2, r3, r4, r5, r6, r7, r8⟩ := hK.box.head.four
        obtain ⟨b0, b1, b2, b3, b4, b5, b6, b7, b8⟩ := hK.box.tail.head.four
        obtain ⟨a0, a1, a2, a3, a4, a5, a6, a7, a8⟩ := hK.box.tail.tail.head.four
        go_wp2_with fail
        exact bodyPost_ret (v := Vl v m l g) (by simp [results, Try.results95, go_sem, r0, r1, r2, r3]) rfl ⟨rfl, (hK.set4 0 rfl).bel⟩
      · rw [H1.out, H2.out]
        go_enter Try.func95, Try.ntmps95
        go_wp2_with fail
        refine (alone_is ha.out _).mono ?_
        rintro e w1 ⟨rfl, hb1⟩
        have hK := ((((Kp.start w).add4 _ _ _ _ _).add4 _ _ _ _ _).add4 _ _ _ _ _).keep hb1
        simp only [World.size_alloc] at hK
        obtain ⟨r0, r1, r2, r3, r4, r5, r6, r7, r8⟩ := hK.box.head.four
        obtain ⟨b0, b1, b2, b3, b4, b5, b6, b7, b8⟩ := hK.box.tail.head.four
        obtain ⟨a0, a1, a2, a3, a4, a5, a6, a7, a8⟩ := hK.box.tail.tail.head.four
        go_wp2_with fail
        refine bodyPost_ret (v := Vl v m l (bsub g one)) (by simp [results, Try.results95, go_sem, r0, r1, r2, r3]) rfl ⟨rfl, ?_⟩
        exact ((((hK.bel.setCell (by dsimp only; omega) _).setCell (by dsimp only; omega) _).setCell (by dsimp only; omega) _).setCell (by dsimp only; omega) _).setCell (by dsimp only; omega) _
    · rw [H1.out, H2.out]
      go_enter Try.func95, Try.ntmps95
      go_wp2_with fail
      refine (alone_is ha.out _).mono ?_
      rintro e w1 ⟨rfl, hb1⟩
      have hK := ((((Kp.start w).add4 _ _ _ _ _).add4 _ _ _ _ _).add4 _ _ _ _ _).keep hb1
      simp only [World.size_alloc] at hK
      obtain ⟨r0, r1, r2, r3, r4, r5, r6, r7, r8⟩ := hK.box.head.four
      obtain ⟨b0, b1, b2, b3, b4, b5, b6, b7, b8⟩ := hK.box.tail.head.four
      obtain ⟨a0, a1, a2, a3, a4, a5, a6, a7, a8⟩ := hK.box.tail.tail.head.four
      go_wp2_with fail
      refine bodyPost_ret (v := Vl v m (badd l one) g) (by simp [results, Try.results95, go_sem, r0, r1, r2, r3]) rfl ⟨rfl, ?_⟩
      exact ((((hK.bel.setCell (by dsimp only; omega) _).setCell (by dsimp only; omega) _).setCell (by dsimp only; omega) _).setCell (by dsimp only; omega) _).setCell (by dsimp only; omega) _

end Go.Proofs.Ytkigmocchaikgaa
