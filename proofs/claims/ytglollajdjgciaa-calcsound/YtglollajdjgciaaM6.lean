/- The least number of bits that is not below another one; the greatest that is not above: plain facts. -/
import Derived.Test.YtglollajdjgciaaM5
namespace Go.Proofs.Ytglollajdjgciaa

def bneg (x : BitVec 64) : BitVec 64 := - x
theorem w_neg (x : BitVec 64) : IntKind.u64.wrap (- nv x) = nv (bneg x) := by
  rw [wrap_ofInt, BitVec.ofInt_neg, ofInt_nv]; rfl
theorem nv_not (x : BitVec 64) : nv (bnot x) = 18446744073709551615 - nv x := by
  unfold nv bnot
  rw [BitVec.toNat_not]
  have := x.isLt
  omega
theorem w_not (x : BitVec 64) : bits .xor .u64 IntKind.u64.max (nv x) = nv (bnot x) := by
  rw [show IntKind.u64.max = nv top by rw [nv_top]; rfl, w_xor]
  refine congrArg nv ?_
  apply BitVec.eq_of_getLsbD_eq
  intro j hj
  show bit (bxor top x) j = bit (bnot x) j
  rw [bit_xor, bit_not _ _ hj, bit_top _ hj]; cases bit x j <;> rfl
theorem bext {x y : BitVec 64} (h : ∀ j, j < 64 → bit x j = bit y j) : x = y :=
  BitVec.eq_of_getLsbD_eq h
theorem neg_not (x : BitVec 64) : bneg x = bnot (bsub x one) := by
  rw [sub_not]
  unfold bneg bnot badd one
  rw [BitVec.not_not, BitVec.neg_eq_not_add]

/- which is less: by the highest bit in which they differ -/
theorem lt_of_bits {a b : BitVec 64} (h : Nat) (ha : bit a h = false) (hb : bit b h = true) (hj : ∀ j, h < j → j < 64 → bit a j = bit b j) : nv a < nv b := by
  unfold nv
  have hall : ∀ j, h < j → a.toNat.testBit j = b.toNat.testBit j := by
    intro j hhj
    by_cases e : j < 64
    · exact hj j hhj e
    · have h1 := bit_big a j (by omega)
      have h2 := bit_big b j (by omega)
      unfold bit BitVec.getLsbD at h1 h2
      rw [h1, h2]
  have e : a.toNat / 2 ^ (h + 1) = b.toNat / 2 ^ (h + 1) := Nat.eq_of_testBit_eq fun i => by
    rw [Nat.testBit_div_two_pow, Nat.testBit_div_two_pow]; exact hall _ (by omega)
  rw [Nat.pow_succ, ← Nat.div_div_eq_div_mul, ← Nat.div_div_eq_div_mul] at e
  have ea : a.toNat / 2 ^ h % 2 ≠ 1 := by
    unfold bit BitVec.getLsbD at ha
    rw [Nat.testBit_eq_decide_div_mod_eq, decide_eq_false_iff_not] at ha; exact ha
  have eb : b.toNat / 2 ^ h % 2 = 1 := by
    unfold bit BitVec.getLsbD at hb
    rw [Nat.testBit_eq_decide_div_mod_eq, decide_eq_true_eq] at hb; exact hb
  have : a.toNat < b.toNat := by
    rcases Nat.lt_or_ge a.toNat b.toNat with g | g
    · exact g
    · exfalso
      have := Nat.div_le_div_right (c := 2 ^ h) g
      omega
  omega
theorem high_bit {x : BitVec 64} (hx : eqb x zero = false) : ∃ h, h < 64 ∧ blen x = h + 1 ∧ bit x h = true ∧ ∀ j, h < j → bit x j = false := by
  have hle := blen_le x
  have h0 : blen x ≠ 0 := by
    intro e
    have := (blen_bits x 0 (by omega)).1 (by omega)
    have h1 : eqb x zero = true := (eqb_zero_iff x).2 fun j _ => this j (by omega)
    rw [h1] at hx; cases hx
  refine ⟨blen x - 1, by omega, by omega, ?_, fun j hj => (blen_bits x (blen x) hle).1 (Nat.le_refl _) j (by omega)⟩
  cases hb : bit x (blen x - 1)
  · exfalso
    have := (blen_bits x (blen x - 1) (by omega)).2 fun j hj => by
      by_cases e : j = blen x - 1
      · rw [e, hb]
      · exact (blen_bits x (blen x) hle).1 (Nat.le_refl _) j (by omega)
    omega
  · rfl
theorem bits_of_lt {a b : BitVec 64} (hlt : nv a < nv b) : ∃ h, h < 64 ∧ bit a h = false ∧ bit b h = true ∧ ∀ j, h < j → j < 64 → bit a j = bit b j := by
  have hne : eqb (bxor a b) zero = false := by
    cases e : eqb (bxor a b) zero
    · rfl
    · exfalso
      have : a = b := bext fun j hj => by
        have := (eqb_zero_iff _).1 e j hj
        rw [bit_xor] at this
        revert this
        cases bit a j <;> cases bit b j <;> simp
      rw [this] at hlt; omega
  obtain ⟨h, h1, _, h3, h4⟩ := high_bit hne
  rw [bit_xor] at h3
  have h5 : ∀ j, h < j → j < 64 → bit a j = bit b j := by
    intro j hj _
    have := h4 j hj
    rw [bit_xor] at this
    revert this
    cases bit a j <;> cases bit b j <;> simp
  cases ha : bit a h
  · rw [ha] at h3
    exact ⟨h, h1, ha, by revert h3; cases bit b h <;> simp, h5⟩
  · exfalso
    rw [ha] at h3
    have hb : bit b h = false := by revert h3; cases bit b h <;> simp
    have := lt_of_bits h hb ha fun j hj hj2 => (h5 j hj hj2).symm
    omega

/- the lowest bit that is 1 -/
theorem low_bw {x : BitVec 64} {k : Nat} (hk : k < 64) (h1 : bit x k = true) (h0 : ∀ j, j < k → bit x j = false) (i : Nat) (hi : i ≤ 64) : bw x one i = decide (1 ≤ i ∧ i ≤ k) := by
  induction i with
  | zero => rw [bw_zero]; simp
  | succ i ih =>
    rw [bw_succ _ _ _ (by omega), ih (by omega)]
    have ho : bit one i = decide (i = 0) := by
      have := bit_one_shl 0 i (by omega)
      rw [show bshl one 0 = one by unfold bshl; simp] at this
      exact this
    rw [ho]
    by_cases e : i = 0
    · subst e
      by_cases ek : k = 0
      · subst ek; rw [h1]; simp
      · rw [h0 0 (by omega)]; simp; omega
    · rcases Nat.lt_trichotomy i k with h | h | h
      · have e1 : 1 ≤ i ∧ i ≤ k := by omega
        have e2 : 1 ≤ i + 1 ∧ i + 1 ≤ k := by omega
        rw [h0 i h, decide_eq_true e1, decide_eq_true e2, decide_eq_false e]; rfl
      · subst h
        have e2 : ¬ (1 ≤ i + 1 ∧ i + 1 ≤ i) := by omega
        rw [h1, decide_eq_false e2, decide_eq_false e]; simp
      · have e1 : ¬ (1 ≤ i ∧ i ≤ k) := by omega
        have e2 : ¬ (1 ≤ i + 1 ∧ i + 1 ≤ k) := by omega
        rw [decide_eq_false e1, decide_eq_false e2, decide_eq_false e]; simp
theorem low_one {x : BitVec 64} {k : Nat} (hk : k < 64) (h1 : bit x k = true) (h0 : ∀ j, j < k → bit x j = false) : band x (bneg x) = bshl one k := by
  apply bext
  intro j hj
  rw [bit_and', neg_not, bit_not _ _ hj, bit_sub _ _ _ hj, low_bw hk h1 h0 j (by omega), bit_one_shl _ _ hk]
  have ho : bit one j = decide (j = 0) := by
    have := bit_one_shl 0 j (by omega)
    rw [show bshl one 0 = one by unfold bshl; simp] at this
    exact this
  rw [ho]
  rcases Nat.lt_trichotomy j k with h | h | h
  · rw [h0 j h]; simp; omega
  · subst h; rw [h1]
    by_cases e : j = 0
    · subst e; simp
    · simp [e]; omega
  · have e1 : ¬ (1 ≤ j ∧ j ≤ k) := by omega
    have e2 : ¬ j = 0 := by omega
    have e3 : ¬ j = k := by omega
    simp [e1, e2, e3]

/- the reference's trials -/
def candL (v x : BitVec 64) (i : Nat) : BitVec 64 := bor (bor (bshl (bshr x i) i) (bshl one i)) (band v (lowMask i))
def okL (v m x : BitVec 64) (i : Nat) : Bool := !bit x i && hasB v m (candL v x i)
theorem cand_bit (v x : BitVec 64) (i j : Nat) (hi : i < 64) (hj : j < 64) : bit (candL v x i) j = if j < i then bit v j else if j = i then true else bit x j := by
  unfold candL
  rw [bit_or, bit_or, bit_and', bit_shl _ _ _ hj, bit_shr, bit_one_shl _ _ hi, lowMask_bit _ _ (by omega) hj]
  rcases Nat.lt_trichotomy j i with h | h | h
  · have h1 : ¬ i ≤ j := by omega
    have h2 : ¬ j = i := by omega
    simp [h, h1, h2]
  · subst h; simp
  · have h1 : i ≤ j := by omega
    have h2 : ¬ j = i := by omega
    have h3 : ¬ j < i := by omega
    rw [show i + (j - i) = j by omega]
    simp [h1, h2, h3]
theorem okL_iff {v m : BitVec 64} (hr : RtB v m) (x : BitVec 64) (i : Nat) (hi : i < 64) : okL v m x i = true ↔ bit x i = false ∧ (bit v i || bit m i) = true ∧ ∀ j, i < j → j < 64 → (bit x j && !bit m j) = bit v j := by
  unfold okL
  rw [Bool.and_eq_true, hasB_iff]
  constructor
  · rintro ⟨h1, _, h2⟩
    refine ⟨by simpa using h1, ?_, fun j hj hj2 => ?_⟩
    · have := h2 i hi
      rw [cand_bit _ _ _ _ hi hi] at this
      have h3 := hr i
      revert this h3
      cases bit v i <;> cases bit m i <;> simp
    · have := h2 j hj2
      rw [cand_bit _ _ _ _ hi hj2, if_neg (by omega), if_neg (by omega)] at this
      exact this
  · rintro ⟨h1, h2, h3⟩
    refine ⟨by simp [h1], hr, fun j hj => ?_⟩
    rw [cand_bit _ _ _ _ hi hj]
    have h4 := hr j
    rcases Nat.lt_trichotomy j i with h | h | h
    · rw [if_pos h]
      revert h4
      cases bit v j <;> cases bit m j <;> simp
    · subst h
      rw [if_neg (by omega), if_pos rfl]
      revert h2 h4
      cases bit v j <;> cases bit m j <;> simp
    · rw [if_neg (by omega), if_neg (by omega)]
      exact h3 j h hj

/- package val's way -/
def wrongB (v m x : BitVec 64) : BitVec 64 := bandn (bxor x v) m
def restB (v m x : BitVec 64) : BitVec 64 := lowMask (blen (wrongB v m x))
def freeB (v m x : BitVec 64) : BitVec 64 := bandn (bandn m x) (restB v m x)
def lowB (x : BitVec 64) : BitVec 64 := band x (bneg x)
def leastV (v m x : BitVec 64) : BitVec 64 × Bool :=
  if eqb (wrongB v m x) zero then (x, true)
  else if nv (band x (restB v m x)) < nv (band v (restB v m x)) then (bor (bandn x (restB v m x)) (band v (restB v m x)), true)
  else if eqb (freeB v m x) zero then (zero, false)
  else (bor (bor (bandn x (bsub (lowB (freeB v m x)) one)) (lowB (freeB v m x))) (band v (bsub (lowB (freeB v m x)) one)), true)
theorem wrong_has {v m : BitVec 64} (hr : RtB v m) (x : BitVec 64) : eqb (wrongB v m x) zero = hasB v m x := by
  rw [Bool.eq_iff_iff, eqb_zero_iff, hasB_iff]
  constructor
  · intro h
    refine ⟨hr, fun j hj => ?_⟩
    have h1 := h j hj
    unfold wrongB at h1
    rw [bit_andn _ _ _ hj, bit_xor] at h1
    have h2 := hr j
    revert h1 h2
    cases bit x j <;> cases bit v j <;> cases bit m j <;> simp
  · rintro ⟨_, h⟩ j hj
    have h1 := h j hj
    unfold wrongB
    rw [bit_andn _ _ _ hj, bit_xor]
    have h2 := hr j
    revert h1 h2
    cases bit x j <;> cases bit v j <;> cases bit m j <;> simp

def LeastIs (v m x : BitVec 64) (r : BitVec 64 × Bool) (d : BitVec 64) : Prop :=
  (hasB v m x = true ∧ r = (x, true))
  ∨ (hasB v m x = false ∧ ∃ k, k < 64 ∧ okL v m x k = true ∧ (∀ j, j < k → okL v m x j = false) ∧ r = (candL v x k, true))
  ∨ (hasB v m x = false ∧ (∀ j, j < 64 → okL v m x j = false) ∧ r = (d, false))

theorem least_is {v m : BitVec 64} (hr : RtB v m) (x : BitVec 64) : LeastIs v m x (leastV v m x) zero := by
  unfold LeastIs leastV
  cases hw : eqb (wrongB v m x) zero
  · have hh : hasB v m x = false := by rw [← wrong_has hr, hw]
    refine Or.inr ?_
    obtain ⟨h, h64, hbl, hb1, hb0⟩ := high_bit hw
    have e1 := hb1
    unfold wrongB at e1
    rw [bit_andn _ _ _ h64, bit_xor] at e1
    have e0 : ∀ j, h < j → j < 64 → (bit x j && !bit m j) = bit v j := by
      intro j hj hj2
      have := hb0 j hj
      unfold wrongB at this
      rw [bit_andn _ _ _ hj2, bit_xor] at this
      have h2 := hr j
      revert this h2
      cases bit x j <;> cases bit v j <;> cases bit m j <;> simp
    have hbelow : ∀ j, j < h → okL v m x j = false := by
      intro j hj
      cases ho : okL v m x j
      · rfl
      · exfalso
        have := ((okL_iff hr x j (by omega)).1 ho).2.2 h hj h64
        revert this e1
        cases bit x h <;> cases bit v h <;> cases bit m h <;> simp
    have hrest : ∀ j, j < 64 → bit (restB v m x) j = decide (j ≤ h) := by
      intro j hj
      unfold restB
      rw [hbl, lowMask_bit _ _ (by omega) hj]
      simp [Nat.lt_succ_iff]
    cases hv : bit v h
    · -- x has a 1 there
      have hx : bit x h = true := by
        rw [hv] at e1; revert e1; cases bit x h <;> simp
      have hnl : ¬ nv (band x (restB v m x)) < nv (band v (restB v m x)) := by
        have : nv (band v (restB v m x)) < nv (band x (restB v m x)) := by
          refine lt_of_bits h ?_ ?_ fun j hj hj2 => ?_
          · rw [bit_and', hv]; rfl
          · rw [bit_and', hx, hrest h h64]; simp
          · rw [bit_and', bit_and', hrest j hj2]
            have : ¬ j ≤ h := by omega
            simp [this]
        omega
      have hoh : okL v m x h = false := by
        cases ho : okL v m x h
        · rfl
        · have := ((okL_iff hr x h h64).1 ho).1
          rw [hx] at this; cases this
      have hfree : ∀ j, j < 64 → bit (freeB v m x) j = ((bit m j && !bit x j) && !decide (j ≤ h)) := by
        intro j hj
        unfold freeB
        rw [bit_andn _ _ _ hj, bit_andn _ _ _ hj, hrest j hj]
      have hok : ∀ j, h < j → j < 64 → okL v m x j = bit (freeB v m x) j := by
        intro j hj hj2
        rw [Bool.eq_iff_iff, okL_iff hr x j hj2, hfree j hj2]
        have h1 : ¬ j ≤ h := by omega
        simp only [h1, decide_false, Bool.not_false, Bool.and_true, Bool.and_eq_true, Bool.not_eq_true']
        have h3 := e0 j hj hj2
        constructor
        · rintro ⟨g1, g2, _⟩
          refine ⟨?_, g1⟩
          rw [g1] at h3
          revert g2 h3
          cases bit v j <;> cases bit m j <;> simp
        · rintro ⟨g1, g2⟩
          refine ⟨g2, by rw [g1]; simp, fun i hi hi2 => e0 i (by omega) hi2⟩
      rw [if_neg (by simp), if_neg hnl]
      cases hf : eqb (freeB v m x) zero
      · rw [if_neg (by simp)]
        refine Or.inl ⟨hh, ?_⟩
        rcases first_no (fun j => !bit (freeB v m x) j) 64 with hall | ⟨k, hk, hkf, hkb⟩
        · exfalso
          have : eqb (freeB v m x) zero = true := (eqb_zero_iff _).2 fun j hj => by simpa using hall j hj
          rw [this] at hf; cases hf
        · have hk1 : bit (freeB v m x) k = true := by simpa using hkf
          have hk0 : ∀ j, j < k → bit (freeB v m x) j = false := fun j hj => by simpa using hkb j hj
          have hkh : h < k := by
            have := hk1
            rw [hfree k hk] at this
            by_cases e : k ≤ h
            · simp [e] at this
            · omega
          refine ⟨k, hk, by rw [hok k hkh hk]; exact hk1, fun j hj => ?_, ?_⟩
          · rcases Nat.lt_trichotomy j h with g | g | g
            · exact hbelow j g
            · rw [g]; exact hoh
            · rw [hok j g (by omega)]; exact hk0 j hj
          · have hone : lowB (freeB v m x) = bshl one k := low_one hk hk1 hk0
            rw [hone]
            have hxk : bit x k = false := by
              have := hk1
              rw [hfree k hk] at this
              revert this
              cases bit m k <;> cases bit x k <;> simp
            congr 1
            apply bext
            intro j hj
            rw [cand_bit _ _ _ _ hk hj, bit_or, bit_or, bit_and', bit_andn _ _ _ hj, bit_one_shl _ _ hk]
            have hl := lowMask_bit k j (by omega) hj
            unfold lowMask at hl
            rw [hl]
            rcases Nat.lt_trichotomy j k with g | g | g
            · have g2 : ¬ j = k := by omega
              simp [g, g2]
            · subst g; simp
            · have g2 : ¬ j = k := by omega
              have g3 : ¬ j < k := by omega
              simp [g2, g3]
      · rw [if_pos rfl]
        refine Or.inr ⟨hh, fun j hj => ?_, rfl⟩
        rcases Nat.lt_trichotomy j h with g | g | g
        · exact hbelow j g
        · rw [g]; exact hoh
        · rw [hok j g hj]; exact (eqb_zero_iff _).1 hf j hj
    · -- x has a 0 there
      have hx : bit x h = false := by
        rw [hv] at e1; revert e1; cases bit x h <;> simp
      have hl : nv (band x (restB v m x)) < nv (band v (restB v m x)) := by
        refine lt_of_bits h ?_ ?_ fun j hj hj2 => ?_
        · rw [bit_and', hx]; rfl
        · rw [bit_and', hv, hrest h h64]; simp
        · rw [bit_and', bit_and', hrest j hj2]
          have : ¬ j ≤ h := by omega
          simp [this]
      rw [if_neg (by simp), if_pos hl]
      refine Or.inl ⟨hh, h, h64, (okL_iff hr x h h64).2 ⟨hx, by rw [hv]; rfl, e0⟩, hbelow, ?_⟩
      congr 1
      apply bext
      intro j hj
      rw [cand_bit _ _ _ _ h64 hj, bit_or, bit_andn _ _ _ hj, bit_and', hrest j hj]
      rcases Nat.lt_trichotomy j h with g | g | g
      · have g2 : j ≤ h := by omega
        simp [g, g2]
      · subst g; simp [hv]
      · have g2 : ¬ j ≤ h := by omega
        have g3 : ¬ j = h := by omega
        have g4 : ¬ j < h := by omega
        simp [g2, g3, g4]
  · exact Or.inl ⟨by rw [← wrong_has hr, hw], by simp⟩

/- the greatest -/
def candG (v m x : BitVec 64) (i : Nat) : BitVec 64 := bor (bshl (bshr x (i + 1)) (i + 1)) (band (bor v m) (lowMask i))
def okG (v m x : BitVec 64) (i : Nat) : Bool := bit x i && hasB v m (candG v m x i)
def turn (v m : BitVec 64) : BitVec 64 := bnot (bor v m)
theorem turn_rt (v m : BitVec 64) : RtB (turn v m) m := by
  intro j
  by_cases hj : j < 64
  · unfold turn; rw [bit_not _ _ hj, bit_or]; cases bit v j <;> cases bit m j <;> rfl
  · rw [bit_big _ _ (by omega)]; rfl
theorem not_not (x : BitVec 64) : bnot (bnot x) = x := by unfold bnot; exact BitVec.not_not
theorem turn_has {v m : BitVec 64} (hr : RtB v m) (x : BitVec 64) : hasB (turn v m) m (bnot x) = hasB v m x := by
  rw [Bool.eq_iff_iff, hasB_iff, hasB_iff]
  constructor
  · rintro ⟨_, h⟩
    refine ⟨hr, fun j hj => ?_⟩
    have h1 := h j hj
    unfold turn at h1
    rw [bit_not _ _ hj, bit_not _ _ hj, bit_or] at h1
    have h2 := hr j
    revert h1 h2
    cases bit x j <;> cases bit v j <;> cases bit m j <;> simp
  · rintro ⟨_, h⟩
    refine ⟨turn_rt v m, fun j hj => ?_⟩
    have h1 := h j hj
    unfold turn
    rw [bit_not _ _ hj, bit_not _ _ hj, bit_or]
    have h2 := hr j
    revert h1 h2
    cases bit x j <;> cases bit v j <;> cases bit m j <;> simp
theorem candG_eq (v m x : BitVec 64) (i : Nat) (hi : i < 64) : candG v m x i = bnot (candL (turn v m) (bnot x) i) := by
  apply bext
  intro j hj
  rw [bit_not _ _ hj, cand_bit _ _ _ _ hi hj]
  unfold candG turn
  rw [bit_or, bit_and', bit_or, bit_shl _ _ _ hj, bit_shr, lowMask_bit _ _ (by omega) hj, bit_not _ _ hj, bit_not _ _ hj, bit_or]
  rcases Nat.lt_trichotomy j i with h | h | h
  · have h1 : ¬ i + 1 ≤ j := by omega
    simp [h, h1]
  · subst h
    have h1 : ¬ j + 1 ≤ j := by omega
    simp [h1]
  · have h1 : i + 1 ≤ j := by omega
    have h2 : ¬ j = i := by omega
    have h3 : ¬ j < i := by omega
    rw [show i + 1 + (j - (i + 1)) = j by omega]
    simp [h1, h2, h3]
theorem okG_eq {v m : BitVec 64} (hr : RtB v m) (x : BitVec 64) (i : Nat) (hi : i < 64) : okG v m x i = okL (turn v m) m (bnot x) i := by
  unfold okG okL
  rw [bit_not _ _ hi, Bool.not_not, candG_eq _ _ _ _ hi]
  have := turn_has hr (bnot (candL (turn v m) (bnot x) i))
  rw [not_not] at this
  rw [← this]
def greatV (v m x : BitVec 64) : BitVec 64 × Bool := if (leastV (turn v m) m (bnot x)).2 then (bnot (leastV (turn v m) m (bnot x)).1, true) else (zero, false)
def GreatIs (v m x : BitVec 64) (r : BitVec 64 × Bool) (d : BitVec 64) : Prop :=
  (hasB v m x = true ∧ r = (x, true))
  ∨ (hasB v m x = false ∧ ∃ k, k < 64 ∧ okG v m x k = true ∧ (∀ j, j < k → okG v m x j = false) ∧ r = (candG v m x k, true))
  ∨ (hasB v m x = false ∧ (∀ j, j < 64 → okG v m x j = false) ∧ r = (d, false))
theorem great_is {v m : BitVec 64} (hr : RtB v m) (x : BitVec 64) : GreatIs v m x (greatV v m x) zero := by
  have h := least_is (turn_rt v m) (bnot x)
  unfold LeastIs at h
  rw [turn_has hr] at h
  unfold GreatIs greatV
  rcases h with ⟨h1, h2⟩ | ⟨h1, k, hk, h2, h3, h4⟩ | ⟨h1, h2, h3⟩
  · exact Or.inl ⟨h1, by rw [h2]; simp [not_not]⟩
  · refine Or.inr (Or.inl ⟨h1, k, hk, by rw [okG_eq hr _ _ hk]; exact h2, fun j hj => by rw [okG_eq hr _ _ (by omega)]; exact h3 j hj, ?_⟩)
    rw [h4, candG_eq _ _ _ _ hk]; simp
  · refine Or.inr (Or.inr ⟨h1, fun j hj => by rw [okG_eq hr _ _ hj]; exact h2 j hj, by rw [h3]; simp⟩)

end Go.Proofs.Ytglollajdjgciaa
