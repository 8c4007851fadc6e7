import Derived.Test.YtkigmocchaikgaaBun2
import Derived.Test.YtkigmocchaikgaaBun1
import Derived.Deep.RegionWith
import Derived.Deep.CutBlock
import Derived.Deep.DeepCutAuto
/- The least number of bits that is not below another one; the greatest that is not above: plain facts. -/
namespace Go.Proofs.Ytkigmocchaikgaa

def bneg (x : BitVec 64) : BitVec 64 := - x
theorem w_neg (x : BitVec 64) : IntKind.u64.wrap (- nv x) = nv (bneg x) := by
  rw [wrap_ofInt, BitVec.ofInt_neg, ofInt_nv]; rfl
theorem nv_not (x : BitVec 64) : nv (bnot x) = 18446744073709551615 - nv x := by
  unfold nv bnot
  rw [BitVec.toNat_not]
  have := x.isLt
  omega
theorem w_not (x : BitVec 64) : bits .xor .u64 IntKind.u64.max (nv x) = nv (bnot x) := by
  rw [show IntKind.u64.max = nv top by rw [nv_top]; rfl, w_xor]
  refine congrArg nv ?_
  apply BitVec.eq_of_getLsbD_eq
  intro j hj
  show bit (bxor top x) j = bit (bnot x) j
  rw [bit_xor, bit_not _ _ hj, bit_top _ hj]; cases bit x j <;> rfl
theorem bext {x y : BitVec 64} (h : ∀ j, j < 64 → bit x j = bit y j) : x = y :=
  BitVec.eq_of_getLsbD_eq h
theorem neg_not (x : BitVec 64) : bneg x = bnot (bsub x one) := by
  rw [sub_not]
  unfold bneg bnot badd one
  rw [BitVec.not_not, BitVec.neg_eq_not_add]

/- which is less: by the highest bit in which they differ -/
theorem lt_of_bits {a b : BitVec 64} (h : Nat) (ha : bit a h = false) (hb : bit b h = true) (hj : ∀ j, h < j → j < 64 → bit a j = bit b j) : nv a < nv b := by
  unfold nv
  have hall : ∀ j, h < j → a.toNat.testBit j = b.toNat.testBit j := by
    intro j hhj
    by_cases e : j < 64
    · exact hj j hhj e
    · have h1 := bit_big a j (by omega)
      have h2 := bit_big b j (by omega)
      unfold bit BitVec.getLsbD at h1 h2
      rw [h1, h2]
  have e : a.toNat / 2 ^ (h + 1) = b.toNat / 2 ^ (h + 1) := Nat.eq_of_testBit_eq fun i => by
    rw [Nat.testBit_div_two_pow, Nat.testBit_div_two_pow]; exact hall _ (by omega)
  rw [Nat.pow_succ, ← Nat.div_div_eq_div_mul, ← Nat.div_div_eq_div_mul] at e
  have ea : a.toNat / 2 ^ h % 2 ≠ 1 := by
    unfold bit BitVec.getLsbD at ha
    rw [Nat.testBit_eq_decide_div_mod_eq, decide_eq_false_iff_not] at ha; exact ha
  have eb : b.toNat / 2 ^ h % 2 = 1 := by
    unfold bit BitVec.getLsbD at hb
    rw [Nat.testBit_eq_decide_div_mod_eq, decide_eq_true_eq] at hb; exact hb
  have : a.toNat < b.toNat := by
    rcases Nat.lt_or_ge a.toNat b.toNat with g | g
    · exact g
    · exfalso
      have := Nat.div_le_div_right (c := 2 ^ h) g
      omega
  omega
theorem high_bit {x : BitVec 64} (hx : eqb x zero = false) : ∃ h, h < 64 ∧ blen x = h + 1 ∧ bit x h = true ∧ ∀ j, h < j → bit x j = false := by
  have hle := blen_le x
  have h0 : blen x ≠ 0 := by
    intro e
    have := (blen_bits x 0 (by omega)).1 (by omega)
    have h1 : eqb x zero = true := (eqb_zero_iff x).2 fun j _ => this j (by omega)
    rw [h1] at hx; cases hx
  refine ⟨blen x - 1, by omega, by omega, ?_, fun j hj => (blen_bits x (blen x) hle).1 (Nat.le_refl _) j (by omega)⟩
  cases hb : bit x (blen x - 1)
  · exfalso
    have := (blen_bits x (blen x - 1) (by omega)).2 fun j hj => by
      by_cases e : j = blen x - 1
      · rw [e, hb]
      · exact (blen_bits x (blen x) hle).1 (Nat.le_refl _) j (by omega)
    omega
  · rfl
theorem bits_of_lt {a b : BitVec 64} (hlt : nv a < nv b) : ∃ h, h < 64 ∧ bit a h = false ∧ bit b h = true ∧ ∀ j, h < j → j < 64 → bit a j = bit b j := by
  have hne : eqb (bxor a b) zero = false := by
    cases e : eqb (bxor a b) zero
    · rfl
    · exfalso
      have : a = b := bext fun j hj => by
        have := (eqb_zero_iff _).1 e j hj
        rw [bit_xor] at this
        revert this
        cases bit a j <;> cases bit b j <;> simp
      rw [this] at hlt; omega
  obtain ⟨h, h1, _, h3, h4⟩ := high_bit hne
  rw [bit_xor] at h3
  have h5 : ∀ j, h < j → j < 64 → bit a j = bit b j := by
    intro j hj _
    have := h4 j hj
    rw [bit_xor] at this
    revert this
    cases bit a j <;> cases bit b j <;> simp
  cases ha : bit a h
  · rw [ha] at h3
    exact ⟨h, h1, ha, by revert h3; cases bit b h <;> simp, h5⟩
  · exfalso
    rw [ha] at h3
    have hb : bit b h = false := by revert h3; cases bit b h <;> simp
    have := lt_of_bits h hb ha fun j hj hj2 => (h5 j hj hj2).symm
    omega

/- the lowest bit that is 1 -/
theorem low_bw {x : BitVec 64} {k : Nat} (hk : k < 64) (h1 : bit x k = true) (h0 : ∀ j, j < k → bit x j = false) (i : Nat) (hi : i ≤ 64) : bw x one i = decide (1 ≤ i ∧ i ≤ k) := by
  induction i with
  | zero => rw [bw_zero]; simp
  | succ i ih =>
    rw [bw_succ _ _ _ (by omega), ih (by omega)]
    have ho : bit one i = decide (i = 0) := by
      have := bit_one_shl 0 i (by omega)
      rw [show bshl one 0 = one by unfold bshl; simp] at this
      exact this
    rw [ho]
    by_cases e : i = 0
    · subst e
      by_cases ek : k = 0
      · subst ek; rw [h1]; simp
      · rw [h0 0 (by omega)]; simp; omega
    · rcases Nat.lt_trichotomy i k with h | h | h
      · have e1 : 1 ≤ i ∧ i ≤ k := by omega
        have e2 : 1 ≤ i + 1 ∧ i + 1 ≤ k := by omega
        rw [h0 i h, decide_eq_true e1, decide_eq_true e2, decide_eq_false e]; rfl
      · subst h
        have e2 : ¬ (1 ≤ i + 1 ∧ i + 1 ≤ i) := by omega
        rw [h1, decide_eq_false e2, decide_eq_false e]; simp
      · have e1 : ¬ (1 ≤ i ∧ i ≤ k) := by omega
        have e2 : ¬ (1 ≤ i + 1 ∧ i + 1 ≤ k) := by omega
        rw [decide_eq_false e1, decide_eq_false e2, decide_eq_false e]; simp
theorem low_one {x : BitVec 64} {k : Nat} (hk : k < 64) (h1 : bit x k = true) (h0 : ∀ j, j < k → bit x j = false) : band x (bneg x) = bshl one k := by
  apply bext
  intro j hj
  rw [bit_and', neg_not, bit_not _ _ hj, bit_sub _ _ _ hj, low_bw hk h1 h0 j (by omega), bit_one_shl _ _ hk]
  have ho : bit one j = decide (j = 0) := by
    have := bit_one_shl 0 j (by omega)
    rw [show bshl one 0 = one by unfold bshl; simp] at this
    exact this
  rw [ho]
  rcases Nat.lt_trichotomy j k with h | h | h
  · rw [h0 j h]; simp; omega
  · subst h; rw [h1]
    by_cases e : j = 0
    · subst e; simp
    · simp [e]; omega
  · have e1 : ¬ (1 ≤ j ∧ j ≤ k) := by omega
    have e2 : ¬ j = 0 := by omega
    have e3 : ¬ j = k := by omega
    simp [e1, e2, e3]

/- the reference's trials -/
def candL (v x : BitVec 64) (i : Nat) : BitVec 64 := bor (bor (bshl (bshr x i) i) (bshl one i)) (band v (lowMask i))
def okL (v m x : BitVec 64) (i : Nat) : Bool := !bit x i && hasB v m (candL v x i)
theorem cand_bit (v x : BitVec 64) (i j : Nat) (hi : i < 64) (hj : j < 64) : bit (candL v x i) j = if j < i then bit v j else if j = i then true else bit x j := by
  unfold candL
  rw [bit_or, bit_or, bit_and', bit_shl _ _ _ hj, bit_shr, bit_one_shl _ _ hi, lowMask_bit _ _ (by omega) hj]
  rcases Nat.lt_trichotomy j i with h | h | h
  · have h1 : ¬ i ≤ j := by omega
    have h2 : ¬ j = i := by omega
    simp [h, h1, h2]
  · subst h; simp
  · have h1 : i ≤ j := by omega
    have h2 : ¬ j = i := by omega
    have h3 : ¬ j < i := by omega
    rw [show i + (j - i) = j by omega]
    simp [h1, h2, h3]
theorem okL_iff {v m : BitVec 64} (hr : RtB v m) (x : BitVec 64) (i : Nat) (hi : i < 64) : okL v m x i = true ↔ bit x i = false ∧ (bit v i || bit m i) = true ∧ ∀ j, i < j → j < 64 → (bit x j && !bit m j) = bit v j := by
  unfold okL
  rw [Bool.and_eq_true, hasB_iff]
  constructor
  · rintro ⟨h1, _, h2⟩
    refine ⟨by simpa using h1, ?_, fun j hj hj2 => ?_⟩
    · have := h2 i hi
      rw [cand_bit _ _ _ _ hi hi] at this
      have h3 := hr i
      revert this h3
      cases bit v i <;> cases bit m i <;> simp
    · have := h2 j hj2
      rw [cand_bit _ _ _ _ hi hj2, if_neg (by omega), if_neg (by omega)] at this
      exact this
  · rintro ⟨h1, h2, h3⟩
    refine ⟨by simp [h1], hr, fun j hj => ?_⟩
    rw [cand_bit _ _ _ _ hi hj]
    have h4 := hr j
    rcases Nat.lt_trichotomy j i with h | h | h
    · rw [if_pos h]
      revert h4
      cases bit v j <;> cases bit m j <;> simp
    · subst h
      rw [if_neg (by omega), if_pos rfl]
      revert h2 h4
      cases bit v j <;> cases bit m j <;> simp
    · rw [if_neg (by omega), if_neg (by omega)]
      exact h3 j h hj

/- package val's way -/
def wrongB (v m x : BitVec 64) : BitVec 64 := bandn (bxor x v) m
def restB (v m x : BitVec 64) : BitVec 64 := lowMask (blen (wrongB v m x))
def freeB (v m x : BitVec 64) : BitVec 64 := bandn (bandn m x) (restB v m x)
def lowB (x : BitVec 64) : BitVec 64 := band x (bneg x)
def leastV (v m x : BitVec 64) : BitVec 64 × Bool :=
  if eqb (wrongB v m x) zero then (x, true)
  else if nv (band x (restB v m x)) < nv (band v (restB v m x)) then (bor (bandn x (restB v m x)) (band v (restB v m x)), true)
  else if eqb (freeB v m x) zero then (zero, false)
  else (bor (bor (bandn x (bsub (lowB (freeB v m x)) one)) (lowB (freeB v m x))) (band v (bsub (lowB (freeB v m x)) one)), true)
theorem wrong_has {v m : BitVec 64} (hr : RtB v m) (x : BitVec 64) : eqb (wrongB v m x) zero = hasB v m x := by
  rw [Bool.eq_iff_iff, eqb_zero_iff, hasB_iff]
  constructor
  · intro h
    refine ⟨hr, fun j hj => ?_⟩
    have h1 := h j hj
    unfold wrongB at h1
    rw [bit_andn _ _ _ hj, bit_xor] at h1
    have h2 := hr j
    revert h1 h2
    cases bit x j <;> cases bit v j <;> cases bit m j <;> simp
  · rintro ⟨_, h⟩ j hj
    have h1 := h j hj
    unfold wrongB
    rw [bit_andn _ _ _ hj, bit_xor]
    have h2 := hr j
    revert h1 h2
    cases bit x j <;> cases bit v j <;> cases bit m j <;> simp

def LeastIs (v m x : BitVec 64) (r : BitVec 64 × Bool) (d : BitVec 64) : Prop :=
  (hasB v m x = true ∧ r = (x, true))
  ∨ (hasB v m x = false ∧ ∃ k, k < 64 ∧ okL v m x k = true ∧ (∀ j, j < k → okL v m x j = false) ∧ r = (candL v x k, true))
  ∨ (hasB v m x = false ∧ (∀ j, j < 64 → okL v m x j = false) ∧ r = (d, false))

theorem least_is {v m : BitVec 64} (hr : RtB v m) (x : BitVec 64) : LeastIs v m x (leastV v m x) zero := by
  unfold LeastIs leastV
  cases hw : eqb (wrongB v m x) zero
  · have hh : hasB v m x = false := by rw [← wrong_has hr, hw]
    refine Or.inr ?_
    obtain ⟨h, h64, hbl, hb1, hb0⟩ := high_bit hw
    have e1 := hb1
    unfold wrongB at e1
    rw [bit_andn _ _ _ h64, bit_xor] at e1
    have e0 : ∀ j, h < j → j < 64 → (bit x j && !bit m j) = bit v j := by
      intro j hj hj2
      have := hb0 j hj
      unfold wrongB at this
      rw [bit_andn _ _ _ hj2, bit_xor] at this
      have h2 := hr j
      revert this h2
      cases bit x j <;> cases bit v j <;> cases bit m j <;> simp
    have hbelow : ∀ j, j < h → okL v m x j = false := by
      intro j hj
      cases ho : okL v m x j
      · rfl
      · exfalso
        have := ((okL_iff hr x j (by omega)).1 ho).2.2 h hj h64
        revert this e1
        cases bit x h <;> cases bit v h <;> cases bit m h <;> simp
    have hrest : ∀ j, j < 64 → bit (restB v m x) j = decide (j ≤ h) := by
      intro j hj
      unfold restB
      rw [hbl, lowMask_bit _ _ (by omega) hj]
      simp [Nat.lt_succ_iff]
    cases hv : bit v h
    · -- x has a 1 there
      have hx : bit x h = true := by
        rw [hv] at e1; revert e1; cases bit x h <;> simp
      have hnl : ¬ nv (band x (restB v m x)) < nv (band v (restB v m x)) := by
        have : nv (band v (restB v m x)) < nv (band x (restB v m x)) := by
          refine lt_of_bits h ?_ ?_ fun j hj hj2 => ?_
          · rw [bit_and', hv]; rfl
          · rw [bit_and', hx, hrest h h64]; simp
          · rw [bit_and', bit_and', hrest j hj2]
            have : ¬ j ≤ h := by omega
            simp [this]
        omega
      have hoh : okL v m x h = false := by
        cases ho : okL v m x h
        · rfl
        · have := ((okL_iff hr x h h64).1 ho).1
          rw [hx] at this; cases this
      have hfree : ∀ j, j < 64 → bit (freeB v m x) j = ((bit m j && !bit x j) && !decide (j ≤ h)) := by
        intro j hj
        unfold freeB
        rw [bit_andn _ _ _ hj, bit_andn _ _ _ hj, hrest j hj]
      have hok : ∀ j, h < j → j < 64 → okL v m x j = bit (freeB v m x) j := by
        intro j hj hj2
        rw [Bool.eq_iff_iff, okL_iff hr x j hj2, hfree j hj2]
        have h1 : ¬ j ≤ h := by omega
        simp only [h1, decide_false, Bool.not_false, Bool.and_true, Bool.and_eq_true, Bool.not_eq_true']
        have h3 := e0 j hj hj2
        constructor
        · rintro ⟨g1, g2, _⟩
          refine ⟨?_, g1⟩
          rw [g1] at h3
          revert g2 h3
          cases bit v j <;> cases bit m j <;> simp
        · rintro ⟨g1, g2⟩
          refine ⟨g2, by rw [g1]; simp, fun i hi hi2 => e0 i (by omega) hi2⟩
      rw [if_neg (by simp), if_neg hnl]
      cases hf : eqb (freeB v m x) zero
      · rw [if_neg (by simp)]
        refine Or.inl ⟨hh, ?_⟩
        rcases first_no (fun j => !bit (freeB v m x) j) 64 with hall | ⟨k, hk, hkf, hkb⟩
        · exfalso
          have : eqb (freeB v m x) zero = true := (eqb_zero_iff _).2 fun j hj => by simpa using hall j hj
          rw [this] at hf; cases hf
        · have hk1 : bit (freeB v m x) k = true := by simpa using hkf
          have hk0 : ∀ j, j < k → bit (freeB v m x) j = false := fun j hj => by simpa using hkb j hj
          have hkh : h < k := by
            have := hk1
            rw [hfree k hk] at this
            by_cases e : k ≤ h
            · simp [e] at this
            · omega
          refine ⟨k, hk, by rw [hok k hkh hk]; exact hk1, fun j hj => ?_, ?_⟩
          · rcases Nat.lt_trichotomy j h with g | g | g
            · exact hbelow j g
            · rw [g]; exact hoh
            · rw [hok j g (by omega)]; exact hk0 j hj
          · have hone : lowB (freeB v m x) = bshl one k := low_one hk hk1 hk0
            rw [hone]
            have hxk : bit x k = false := by
              have := hk1
              rw [hfree k hk] at this
              revert this
              cases bit m k <;> cases bit x k <;> simp
            congr 1
            apply bext
            intro j hj
            rw [cand_bit _ _ _ _ hk hj, bit_or, bit_or, bit_and', bit_andn _ _ _ hj, bit_one_shl _ _ hk]
            have hl := lowMask_bit k j (by omega) hj
            unfold lowMask at hl
            rw [hl]
            rcases Nat.lt_trichotomy j k with g | g | g
            · have g2 : ¬ j = k := by omega
              simp [g, g2]
            · subst g; simp
            · have g2 : ¬ j = k := by omega
              have g3 : ¬ j < k := by omega
              simp [g2, g3]
      · rw [if_pos rfl]
        refine Or.inr ⟨hh, fun j hj => ?_, rfl⟩
        rcases Nat.lt_trichotomy j h with g | g | g
        · exact hbelow j g
        · rw [g]; exact hoh
        · rw [hok j g hj]; exact (eqb_zero_iff _).1 hf j hj
    · -- x has a 0 there
      have hx : bit x h = false := by
        rw [hv] at e1; revert e1; cases bit x h <;> simp
      have hl : nv (band x (restB v m x)) < nv (band v (restB v m x)) := by
        refine lt_of_bits h ?_ ?_ fun j hj hj2 => ?_
        · rw [bit_and', hx]; rfl
        · rw [bit_and', hv, hrest h h64]; simp
        · rw [bit_and', bit_and', hrest j hj2]
          have : ¬ j ≤ h := by omega
          simp [this]
      rw [if_neg (by simp), if_pos hl]
      refine Or.inl ⟨hh, h, h64, (okL_iff hr x h h64).2 ⟨hx, by rw [hv]; rfl, e0⟩, hbelow, ?_⟩
      congr 1
      apply bext
      intro j hj
      rw [cand_bit _ _ _ _ h64 hj, bit_or, bit_andn _ _ _ hj, bit_and', hrest j hj]
      rcases Nat.lt_trichotomy j h with g | g | g
      · have g2 : j ≤ h := by omega
        simp [g, g2]
      · subst g; simp [hv]
      · have g2 : ¬ j ≤ h := by omega
        have g3 : ¬ j = h := by omega
        have g4 : ¬ j < h := by omega
        simp [g2, g3, g4]
  · exact Or.inl ⟨by rw [← wrong_has hr, hw], by simp⟩

/- the greatest -/
def candG (v m x : BitVec 64) (i : Nat) : BitVec 64 := bor (bshl (bshr x (i + 1)) (i + 1)) (band (bor v m) (lowMask i))
def okG (v m x : BitVec 64) (i : Nat) : Bool := bit x i && hasB v m (candG v m x i)
def turn (v m : BitVec 64) : BitVec 64 := bnot (bor v m)
theorem turn_rt (v m : BitVec 64) : RtB (turn v m) m := by
  intro j
  by_cases hj : j < 64
  · unfold turn; rw [bit_not _ _ hj, bit_or]; cases bit v j <;> cases bit m j <;> rfl
  · rw [bit_big _ _ (by omega)]; rfl
theorem not_not (x : BitVec 64) : bnot (bnot x) = x := by unfold bnot; exact BitVec.not_not
theorem turn_has {v m : BitVec 64} (hr : RtB v m) (x : BitVec 64) : hasB (turn v m) m (bnot x) = hasB v m x := by
  rw [Bool.eq_iff_iff, hasB_iff, hasB_iff]
  constructor
  · rintro ⟨_, h⟩
    refine ⟨hr, fun j hj => ?_⟩
    have h1 := h j hj
    unfold turn at h1
    rw [bit_not _ _ hj, bit_not _ _ hj, bit_or] at h1
    have h2 := hr j
    revert h1 h2
    cases bit x j <;> cases bit v j <;> cases bit m j <;> simp
  · rintro ⟨_, h⟩
    refine ⟨turn_rt v m, fun j hj => ?_⟩
    have h1 := h j hj
    unfold turn
    rw [bit_not _ _ hj, bit_not _ _ hj, bit_or]
    have h2 := hr j
    revert h1 h2
    cases bit x j <;> cases bit v j <;> cases bit m j <;> simp
theorem candG_eq (v m x : BitVec 64) (i : Nat) (hi : i < 64) : candG v m x i = bnot (candL (turn v m) (bnot x) i) := by
  apply bext
  intro j hj
  rw [bit_not _ _ hj, cand_bit _ _ _ _ hi hj]
  unfold candG turn
  rw [bit_or, bit_and', bit_or, bit_shl _ _ _ hj, bit_shr, lowMask_bit _ _ (by omega) hj, bit_not _ _ hj, bit_not _ _ hj, bit_or]
  rcases Nat.lt_trichotomy j i with h | h | h
  · have h1 : ¬ i + 1 ≤ j := by omega
    simp [h, h1]
  · subst h
    have h1 : ¬ j + 1 ≤ j := by omega
    simp [h1]
  · have h1 : i + 1 ≤ j := by omega
    have h2 : ¬ j = i := by omega
    have h3 : ¬ j < i := by omega
    rw [show i + 1 + (j - (i + 1)) = j by omega]
    simp [h1, h2, h3]
theorem okG_eq {v m : BitVec 64} (hr : RtB v m) (x : BitVec 64) (i : Nat) (hi : i < 64) : okG v m x i = okL (turn v m) m (bnot x) i := by
  unfold okG okL
  rw [bit_not _ _ hi, Bool.not_not, candG_eq _ _ _ _ hi]
  have := turn_has hr (bnot (candL (turn v m) (bnot x) i))
  rw [not_not] at this
  rw [← this]
def greatV (v m x : BitVec 64) : BitVec 64 × Bool := if (leastV (turn v m) m (bnot x)).2 then (bnot (leastV (turn v m) m (bnot x)).1, true) else (zero, false)
def GreatIs (v m x : BitVec 64) (r : BitVec 64 × Bool) (d : BitVec 64) : Prop :=
  (hasB v m x = true ∧ r = (x, true))
  ∨ (hasB v m x = false ∧ ∃ k, k < 64 ∧ okG v m x k = true ∧ (∀ j, j < k → okG v m x j = false) ∧ r = (candG v m x k, true))
  ∨ (hasB v m x = false ∧ (∀ j, j < 64 → okG v m x j = false) ∧ r = (d, false))
theorem great_is {v m : BitVec 64} (hr : RtB v m) (x : BitVec 64) : GreatIs v m x (greatV v m x) zero := by
  have h := least_is (turn_rt v m) (bnot x)
  unfold LeastIs at h
  rw [turn_has hr] at h
  unfold GreatIs greatV
  rcases h with ⟨h1, h2⟩ | ⟨h1, k, hk, h2, h3, h4⟩ | ⟨h1, h2, h3⟩
  · exact Or.inl ⟨h1, by rw [h2]; simp [not_not]⟩
  · refine Or.inr (Or.inl ⟨h1, k, hk, by rw [okG_eq hr _ _ hk]; exact h2, fun j hj => by rw [okG_eq hr _ _ (by omega)]; exact h3 j hj, ?_⟩)
    rw [h4, candG_eq _ _ _ _ hk]; simp
  · refine Or.inr (Or.inr ⟨h1, fun j hj => by rw [okG_eq hr _ _ hj]; exact h2 j hj, by rw [h3]; simp⟩)

end Go.Proofs.Ytkigmocchaikgaa

/- The reference's search for the least and for the greatest number, as plain functions; they answer as package val does. -/
namespace Go.Proofs.Ytkigmocchaikgaa

def scanL (v m x : BitVec 64) : Nat → BitVec 64 × Bool
  | 0 => (x, hasB v m x)
  | k + 1 => if (scanL v m x k).2 then scanL v m x k else if okL v m x k then (candL v x k, true) else scanL v m x k
def scanG (v m x : BitVec 64) : Nat → BitVec 64 × Bool
  | 0 => (x, hasB v m x)
  | k + 1 => if (scanG v m x k).2 then scanG v m x k else if okG v m x k then (candG v m x k, true) else scanG v m x k

theorem scanL_stay (v m x : BitVec 64) (k n : Nat) (h : (scanL v m x k).2 = true) (hn : k ≤ n) : scanL v m x n = scanL v m x k := by
  induction n with
  | zero => have : k = 0 := by omega
            rw [this]
  | succ n ih =>
    by_cases e : k = n + 1
    · rw [e]
    · have := ih (by omega)
      rw [scanL, this, if_pos h]
theorem scanG_stay (v m x : BitVec 64) (k n : Nat) (h : (scanG v m x k).2 = true) (hn : k ≤ n) : scanG v m x n = scanG v m x k := by
  induction n with
  | zero => have : k = 0 := by omega
            rw [this]
  | succ n ih =>
    by_cases e : k = n + 1
    · rw [e]
    · have := ih (by omega)
      rw [scanG, this, if_pos h]
theorem scanL_no (v m x : BitVec 64) (hh : hasB v m x = false) (n : Nat) (h : ∀ j, j < n → okL v m x j = false) : scanL v m x n = (x, false) := by
  induction n with
  | zero => rw [scanL, hh]
  | succ n ih =>
    have := ih fun j hj => h j (by omega)
    rw [scanL, this, h n (by omega)]; simp
theorem scanG_no (v m x : BitVec 64) (hh : hasB v m x = false) (n : Nat) (h : ∀ j, j < n → okG v m x j = false) : scanG v m x n = (x, false) := by
  induction n with
  | zero => rw [scanG, hh]
  | succ n ih =>
    have := ih fun j hj => h j (by omega)
    rw [scanG, this, h n (by omega)]; simp

/- the two searches answer the same, if they find something -/
theorem least_same {v m : BitVec 64} (hr : RtB v m) (x : BitVec 64) : (scanL v m x 64).2 = (leastV v m x).2 ∧ ((leastV v m x).2 = true → (scanL v m x 64).1 = (leastV v m x).1) := by
  rcases least_is hr x with ⟨h1, h2⟩ | ⟨h1, k, hk, h2, h3, h4⟩ | ⟨h1, h2, h3⟩
  · have : (scanL v m x 0) = (x, true) := by rw [scanL, h1]
    rw [scanL_stay v m x 0 64 (by rw [this]) (by omega), this, h2]
    exact ⟨rfl, fun _ => rfl⟩
  · have e0 := scanL_no v m x h1 k h3
    have : (scanL v m x (k + 1)) = (candL v x k, true) := by rw [scanL, e0, h2]; simp
    rw [scanL_stay v m x (k + 1) 64 (by rw [this]) (by omega), this, h4]
    exact ⟨rfl, fun _ => rfl⟩
  · rw [scanL_no v m x h1 64 h2, h3]
    exact ⟨rfl, fun h => by cases h⟩
theorem great_same {v m : BitVec 64} (hr : RtB v m) (x : BitVec 64) : (scanG v m x 64).2 = (greatV v m x).2 ∧ ((greatV v m x).2 = true → (scanG v m x 64).1 = (greatV v m x).1) := by
  rcases great_is hr x with ⟨h1, h2⟩ | ⟨h1, k, hk, h2, h3, h4⟩ | ⟨h1, h2, h3⟩
  · have : (scanG v m x 0) = (x, true) := by rw [scanG, h1]
    rw [scanG_stay v m x 0 64 (by rw [this]) (by omega), this, h2]
    exact ⟨rfl, fun _ => rfl⟩
  · have e0 := scanG_no v m x h1 k h3
    have : (scanG v m x (k + 1)) = (candG v m x k, true) := by rw [scanG, e0, h2]; simp
    rw [scanG_stay v m x (k + 1) 64 (by rw [this]) (by omega), this, h4]
    exact ⟨rfl, fun _ => rfl⟩
  · rw [scanG_no v m x h1 64 h2, h3]
    exact ⟨rfl, fun h => by cases h⟩

/- what is found is one of the numbers, and none is nearer -/
theorem cand_gt {v m x : BitVec 64} {k : Nat} (hr : RtB v m) (hk : k < 64) (ho : okL v m x k = true) : nv x < nv (candL v x k) := by
  have h := (okL_iff hr x k hk).1 ho
  refine lt_of_bits k h.1 ?_ fun j hj hj2 => ?_
  · rw [cand_bit _ _ _ _ hk hk, if_neg (by omega), if_pos rfl]
  · rw [cand_bit _ _ _ _ hk hj2, if_neg (by omega), if_neg (by omega)]
theorem le_of_bits {a b : BitVec 64} (h : ∀ i, bit b i = false → bit a i = true → ∃ j, i < j ∧ j < 64 ∧ bit a j = false ∧ bit b j = true) : nv a ≤ nv b := by
  by_cases hlt : nv b < nv a
  · exfalso
    obtain ⟨i, hi, h1, h2, h3⟩ := bits_of_lt hlt
    obtain ⟨j, hj, hj2, h4, h5⟩ := h i h1 h2
    have := h3 j hj hj2
    rw [h4, h5] at this; cases this
  · omega
theorem has_cand {v m x y : BitVec 64} (hr : RtB v m) (hy : hasB v m y = true) (hlt : nv x < nv y) : ∃ i, i < 64 ∧ okL v m x i = true ∧ nv (candL v x i) ≤ nv y := by
  obtain ⟨i, hi, h1, h2, h3⟩ := bits_of_lt hlt
  have hin := ((hasB_iff v m y).1 hy).2
  refine ⟨i, hi, (okL_iff hr x i hi).2 ⟨h1, ?_, fun j hj hj2 => ?_⟩, ?_⟩
  · have := hin i hi
    rw [h2] at this
    revert this
    cases bit m i <;> cases bit v i <;> simp
  · rw [h3 j hj hj2]; exact hin j hj2
  · apply le_of_bits
    intro k hk1 hk2
    exfalso
    by_cases hk64 : k < 64
    · rw [cand_bit _ _ _ _ hi hk64] at hk2
      rcases Nat.lt_trichotomy k i with g | g | g
      · rw [if_pos g] at hk2
        have := hin k hk64
        rw [hk1, hk2] at this; simp at this
      · rw [g, h2] at hk1; cases hk1
      · rw [if_neg (by omega), if_neg (by omega), h3 k g hk64, hk1] at hk2; cases hk2
    · rw [bit_big _ _ (by omega)] at hk2; cases hk2
theorem cand_le {v m x : BitVec 64} {i k : Nat} (hr : RtB v m) (hk : k < i) (hi : i < 64) (hoi : okL v m x i = true) : nv (candL v x k) ≤ nv (candL v x i) := by
  have h := (okL_iff hr x i hi).1 hoi
  have : nv (candL v x k) < nv (candL v x i) := by
    refine lt_of_bits i ?_ ?_ fun j hj hj2 => ?_
    · rw [cand_bit _ _ _ _ (by omega) hi, if_neg (by omega), if_neg (by omega)]; exact h.1
    · rw [cand_bit _ _ _ _ hi hi, if_neg (by omega), if_pos rfl]
    · rw [cand_bit _ _ _ _ (by omega) hj2, cand_bit _ _ _ _ hi hj2, if_neg (by omega), if_neg (by omega), if_neg (by omega), if_neg (by omega)]
  omega
theorem least_yes {v m : BitVec 64} (hr : RtB v m) {x : BitVec 64} (h : (leastV v m x).2 = true) : hasB v m (leastV v m x).1 = true ∧ nv x ≤ nv (leastV v m x).1 ∧ ∀ y, hasB v m y = true → nv x ≤ nv y → nv (leastV v m x).1 ≤ nv y := by
  rcases least_is hr x with ⟨h1, h2⟩ | ⟨h1, k, hk, h2, h3, h4⟩ | ⟨h1, h2, h3⟩
  · rw [h2]; exact ⟨h1, Int.le_refl _, fun y _ h => h⟩
  · rw [h4]
    have hc := h2
    unfold okL at hc
    rw [Bool.and_eq_true] at hc
    refine ⟨hc.2, Int.le_of_lt (cand_gt hr hk h2), fun y hy hle => ?_⟩
    have hlt : nv x < nv y := by
      rcases Int.lt_or_eq_of_le hle with g | g
      · exact g
      · exfalso
        have := nv_inj _ _ g
        rw [this, hy] at h1; cases h1
    obtain ⟨i, hi, g1, g2⟩ := has_cand hr hy hlt
    show nv (candL v x k) ≤ nv y
    rcases Nat.lt_trichotomy i k with g | g | g
    · rw [h3 i g] at g1; cases g1
    · rw [← g]; exact g2
    · exact Int.le_trans (cand_le hr g hi g1) g2
  · rw [h3] at h; cases h
theorem least_none {v m : BitVec 64} (hr : RtB v m) {x : BitVec 64} (h : (leastV v m x).2 = false) (y : BitVec 64) (hy : hasB v m y = true) : nv y < nv x := by
  rcases least_is hr x with ⟨h1, h2⟩ | ⟨h1, k, hk, h2, h3, h4⟩ | ⟨h1, h2, h3⟩
  · rw [h2] at h; cases h
  · rw [h4] at h; cases h
  · by_cases hlt : nv x < nv y
    · obtain ⟨i, hi, g1, _⟩ := has_cand hr hy hlt
      rw [h2 i hi] at g1; cases g1
    · by_cases e : nv x = nv y
      · have := nv_inj _ _ e
        rw [this, hy] at h1; cases h1
      · omega
theorem great_yes {v m : BitVec 64} (hr : RtB v m) {x : BitVec 64} (h : (greatV v m x).2 = true) : hasB v m (greatV v m x).1 = true ∧ nv (greatV v m x).1 ≤ nv x ∧ ∀ y, hasB v m y = true → nv y ≤ nv x → nv y ≤ nv (greatV v m x).1 := by
  unfold greatV at h ⊢
  cases hl : (leastV (turn v m) m (bnot x)).2
  · rw [hl] at h; simp at h
  · obtain ⟨h1, h2, h3⟩ := least_yes (turn_rt v m) hl
    simp only [if_pos]
    refine ⟨?_, ?_, fun y hy hle => ?_⟩
    · rw [← turn_has hr, not_not]; exact h1
    · rw [nv_not] at h2 ⊢; omega
    · have := h3 (bnot y) (by rw [turn_has hr]; exact hy) (by rw [nv_not, nv_not]; omega)
      rw [nv_not] at this ⊢; omega
theorem great_none {v m : BitVec 64} (hr : RtB v m) {x : BitVec 64} (h : (greatV v m x).2 = false) (y : BitVec 64) (hy : hasB v m y = true) : nv x < nv y := by
  unfold greatV at h
  cases hl : (leastV (turn v m) m (bnot x)).2
  · have := least_none (turn_rt v m) hl (bnot y) (by rw [turn_has hr]; exact hy)
    rw [nv_not, nv_not] at this; omega
  · rw [hl] at h; simp at h

end Go.Proofs.Ytkigmocchaikgaa

/- Norm, Check, Join and Inside of package val as plain functions; what is right is what Norm leaves as it is. -/
namespace Go.Proofs.Ytkigmocchaikgaa

def nLo (v m l : BitVec 64) : BitVec 64 := (leastV v m l).1
def nHi (v m h : BitVec 64) : BitVec 64 := (greatV v m h).1
def normOk (v m l h : BitVec 64) : Bool := (leastV v m l).2 && ((greatV v m h).2 && decide (nv (nLo v m l) ≤ nv (nHi v m h)))
def spV (l h : BitVec 64) : BitVec 64 := bandn l (sM l h)
def nV (v m l h : BitVec 64) : BitVec 64 := bor v (spV (nLo v m l) (nHi v m h))
def nM (m l h : BitVec 64) : BitVec 64 := band m (sM l h)
def valB (v m l h : BitVec 64) : Bool := hasB v m l && (hasB v m h && (decide (nv l ≤ nv h) && insB v m (spV l h) (sM l h)))

theorem sM_bit (l h : BitVec 64) (j : Nat) (hj : j < 64) : bit (sM l h) j = false ↔ ∀ i, j ≤ i → bit l i = bit h i := by
  unfold sM
  rw [lowMask_bit _ _ (blen_le _) hj, decide_eq_false_iff_not, Nat.not_lt, blen_bits _ _ (by omega)]
  constructor
  · intro h1 i hi
    have := h1 i hi
    rw [bit_xor] at this
    revert this
    cases bit l i <;> cases bit h i <;> simp
  · intro h1 i hi
    rw [bit_xor, h1 i hi]; simp
theorem span_rt (l h : BitVec 64) : RtB (spV l h) (sM l h) := by
  intro j
  by_cases hj : j < 64
  · unfold spV; rw [bit_andn _ _ _ hj]; cases bit l j <;> cases bit (sM l h) j <;> rfl
  · rw [bit_big _ _ (by omega)]; rfl
/- what lies between is one of the numbers of the span -/
theorem span_has {l h x : BitVec 64} (h1 : nv l ≤ nv x) (h2 : nv x ≤ nv h) : hasB (spV l h) (sM l h) x = true := by
  rw [hasB_iff]
  refine ⟨span_rt l h, fun j hj => ?_⟩
  unfold spV
  rw [bit_andn _ _ _ hj]
  cases hs : bit (sM l h) j
  · have hlh := (sM_bit l h j hj).1 hs
    have hx : ∀ i, j ≤ i → bit x i = bit l i := by
      intro i hi
      by_cases hlt : nv l < nv x
      · obtain ⟨a, ha, g1, g2, g3⟩ := bits_of_lt hlt
        by_cases hai : a < i
        · by_cases h64 : i < 64
          · exact (g3 i hai h64).symm
          · rw [bit_big _ _ (by omega), bit_big _ _ (by omega)]
        · exfalso
          -- x is above h then
          have : nv h < nv x := by
            refine lt_of_bits a ?_ g2 fun b hb hb2 => ?_
            · rw [← hlh a (by omega)]; exact g1
            · rw [← hlh b (by omega)]; exact g3 b hb hb2
          omega
      · have : nv l = nv x := by omega
        rw [nv_inj _ _ this]
    rw [hx j (Nat.le_refl _)]
  · simp
theorem span_l {l h : BitVec 64} (hle : nv l ≤ nv h) : hasB (spV l h) (sM l h) l = true := span_has (Int.le_refl _) hle

/- the meeting of the bits and the span -/
theorem meet_span {v m l h x : BitVec 64} (hr : RtB v m) (hx : hasB v m x = true) (h1 : nv l ≤ nv x) (h2 : nv x ≤ nv h) : eqb (bandn (bxor v (spV l h)) (bor m (sM l h))) zero = true := by
  have := sound_meet (x := x) hr (span_rt l h)
  rw [hx, span_has h1 h2] at this
  revert this
  cases eqb (bandn (bxor v (spV l h)) (bor m (sM l h))) zero <;> simp

/- right is what Norm leaves -/
theorem norm_self {v m l h : BitVec 64} (hr : RtB v m) (h1 : hasB v m l = true) (h2 : hasB v m h = true) : leastV v m l = (l, true) ∧ greatV v m h = (h, true) := by
  constructor
  · rcases least_is hr l with ⟨_, g⟩ | ⟨g, _⟩ | ⟨g, _⟩
    · exact g
    · rw [h1] at g; cases g
    · rw [h1] at g; cases g
  · rcases great_is hr h with ⟨_, g⟩ | ⟨g, _⟩ | ⟨g, _⟩
    · exact g
    · rw [h2] at g; cases g
    · rw [h2] at g; cases g
def normSame (v m l h : BitVec 64) : Bool := eqb (nV v m l h) v && (eqb (nM m (nLo v m l) (nHi v m h)) m && (eqb (nLo v m l) l && eqb (nHi v m h) h))
theorem val_iff {v m : BitVec 64} (hr : RtB v m) (l h : BitVec 64) : valB v m l h = (normOk v m l h && normSame v m l h) := by
  have key : ∀ (_ : hasB v m l = true), (insB v m (spV l h) (sM l h) = true ↔ eqb (bor v (spV l h)) v = true ∧ eqb (nM m l h) m = true) := by
    intro hl
    have hin := ((hasB_iff v m l).1 hl).2
    rw [ins_iff, eqb_iff, eqb_iff]
    constructor
    · rintro ⟨_, _, g⟩
      constructor
      · apply bext; intro j hj
        rw [bit_or, ← (g j hj).2]
        cases bit v j <;> cases bit (sM l h) j <;> rfl
      · apply bext; intro j hj
        unfold nM
        rw [bit_and']
        have := (g j hj).1
        revert this
        cases bit m j <;> cases bit (sM l h) j <;> simp
    · rintro ⟨g1, g2⟩
      refine ⟨hr, span_rt l h, fun j hj => ⟨?_, ?_⟩⟩
      · have : bit (nM m l h) j = bit m j := by rw [g2]
        unfold nM at this
        rw [bit_and'] at this
        revert this
        cases bit m j <;> cases bit (sM l h) j <;> simp
      · have h3 : bit (bor v (spV l h)) j = bit v j := by rw [g1]
        rw [bit_or] at h3
        have h4 := hin j hj
        have h5 : bit (spV l h) j = (bit l j && !bit (sM l h) j) := by unfold spV; rw [bit_andn _ _ _ hj]
        rw [h5] at h3 ⊢
        revert h3 h4
        cases bit v j <;> cases bit (sM l h) j <;> cases bit l j <;> cases bit m j <;> simp
  rw [Bool.eq_iff_iff]
  unfold valB normOk normSame
  simp only [Bool.and_eq_true, decide_eq_true_eq]
  constructor
  · rintro ⟨h1, h2, h3, h4⟩
    obtain ⟨e1, e2⟩ := norm_self hr h1 h2
    have a1 : nLo v m l = l := by unfold nLo; rw [e1]
    have a2 : nHi v m h = h := by unfold nHi; rw [e2]
    have a3 : nV v m l h = bor v (spV l h) := by unfold nV; rw [a1, a2]
    rw [a3, a1, a2, e1, e2]
    have := (key h1).1 h4
    exact ⟨⟨rfl, rfl, h3⟩, this.1, this.2, eqb_self l, eqb_self h⟩
  · rintro ⟨⟨h1, h2, h3⟩, h4, h5, h6, h7⟩
    have a1 : nLo v m l = l := (eqb_iff _ _).1 h6
    have a2 : nHi v m h = h := (eqb_iff _ _).1 h7
    have b1 := (least_yes hr h1).1
    have b2 := (great_yes hr h2).1
    have b1' : hasB v m (nLo v m l) = true := b1
    have b2' : hasB v m (nHi v m h) = true := b2
    rw [a1] at b1'
    rw [a2] at b2'
    have a3 : nV v m l h = bor v (spV l h) := by unfold nV; rw [a1, a2]
    rw [a3] at h4
    rw [a1, a2] at h5 h3
    exact ⟨b1', b2', h3, (key b1').2 ⟨h4, h5⟩⟩
theorem val_wrong {v m l h : BitVec 64} (hr : eqb (band v m) zero = false) : valB v m l h = false := by
  unfold valB hasB
  rw [hr]; rfl

end Go.Proofs.Ytkigmocchaikgaa

/- What Norm answers has just the same numbers, and stays; Join has what one has: plain facts. -/
namespace Go.Proofs.Ytkigmocchaikgaa

def hasV (v m l h x : BitVec 64) : Bool := valB v m l h && (hasB v m x && (decide (nv l ≤ nv x) && decide (nv x ≤ nv h)))
def rawV (v m l h x : BitVec 64) : Bool := hasB v m x && (decide (nv l ≤ nv x) && decide (nv x ≤ nv h))
def insV (v m l h v' m' l' h' : BitVec 64) : Bool := valB v m l h && (valB v' m' l' h' && (insB v m v' m' && (decide (nv l' ≤ nv l) && decide (nv h ≤ nv h'))))

theorem norm_facts {v m l h : BitVec 64} (hr : RtB v m) (ho : normOk v m l h = true) :
    hasB v m (nLo v m l) = true ∧ hasB v m (nHi v m h) = true ∧ nv (nLo v m l) ≤ nv (nHi v m h) ∧ nv l ≤ nv (nLo v m l) ∧ nv (nHi v m h) ≤ nv h
    ∧ (∀ x, hasB (nV v m l h) (nM m (nLo v m l) (nHi v m h)) x = (hasB v m x && hasB (spV (nLo v m l) (nHi v m h)) (sM (nLo v m l) (nHi v m h)) x)) := by
  unfold normOk at ho
  simp only [Bool.and_eq_true, decide_eq_true_eq] at ho
  obtain ⟨h1, h2, h3⟩ := ho
  obtain ⟨a1, a2, _⟩ := least_yes hr h1
  obtain ⟨b1, b2, _⟩ := great_yes hr h2
  refine ⟨a1, b1, h3, a2, b2, fun x => ?_⟩
  have hs := sound_meet (x := x) hr (span_rt (nLo v m l) (nHi v m h))
  rw [meet_span hr (x := nLo v m l) a1 (Int.le_refl _) h3, Bool.true_and] at hs
  exact hs.symm
theorem norm_right {v m l h : BitVec 64} (hr : RtB v m) (ho : normOk v m l h = true) : valB (nV v m l h) (nM m (nLo v m l) (nHi v m h)) (nLo v m l) (nHi v m h) = true := by
  obtain ⟨h1, h2, h3, h4, h5, h6⟩ := norm_facts hr ho
  unfold valB
  rw [h6, h6, h1, h2, span_has (Int.le_refl _) h3, span_has h3 (Int.le_refl _)]
  simp only [Bool.true_and, Bool.and_eq_true, decide_eq_true_eq]
  refine ⟨h3, (ins_iff _ _ _ _).2 ⟨?_, span_rt _ _, fun j hj => ?_⟩⟩
  · intro j
    have g1 := hr j
    have g2 := span_rt (nLo v m l) (nHi v m h) j
    unfold nV nM
    rw [bit_or, bit_and']
    revert g1 g2
    cases bit v j <;> cases bit m j <;> cases bit (spV (nLo v m l) (nHi v m h)) j <;> cases bit (sM (nLo v m l) (nHi v m h)) j <;> simp
  · have g1 := ((hasB_iff _ _ _).1 h1).2 j hj
    have g2 : bit (spV (nLo v m l) (nHi v m h)) j = (bit (nLo v m l) j && !bit (sM (nLo v m l) (nHi v m h)) j) := by unfold spV; rw [bit_andn _ _ _ hj]
    unfold nV nM
    rw [bit_or, bit_and', g2]
    revert g1
    cases bit v j <;> cases bit m j <;> cases bit (nLo v m l) j <;> cases bit (sM (nLo v m l) (nHi v m h)) j <;> simp
theorem norm_has {v m l h : BitVec 64} (hr : RtB v m) (x : BitVec 64) :
    rawV v m l h x = (normOk v m l h && hasV (nV v m l h) (nM m (nLo v m l) (nHi v m h)) (nLo v m l) (nHi v m h) x) := by
  rw [Bool.eq_iff_iff]
  constructor
  · intro hx
    unfold rawV at hx
    simp only [Bool.and_eq_true, decide_eq_true_eq] at hx
    obtain ⟨h1, h2, h3⟩ := hx
    have ho1 : (leastV v m l).2 = true := by
      cases e : (leastV v m l).2
      · have := least_none hr e x h1; omega
      · rfl
    have ho2 : (greatV v m h).2 = true := by
      cases e : (greatV v m h).2
      · have := great_none hr e x h1; omega
      · rfl
    have g1 : nv (nLo v m l) ≤ nv x := (least_yes hr ho1).2.2 x h1 h2
    have g2 : nv x ≤ nv (nHi v m h) := (great_yes hr ho2).2.2 x h1 h3
    have ho : normOk v m l h = true := by
      unfold normOk
      rw [ho1, ho2]
      simp only [Bool.true_and, decide_eq_true_eq]; omega
    rw [ho, Bool.true_and]
    unfold hasV
    rw [norm_right hr ho, (norm_facts hr ho).2.2.2.2.2 x, h1, span_has g1 g2]
    simp [g1, g2]
  · intro hx
    rw [Bool.and_eq_true] at hx
    obtain ⟨ho, hx⟩ := hx
    obtain ⟨_, _, _, h4, h5, h6⟩ := norm_facts hr ho
    unfold hasV at hx
    rw [norm_right hr ho, h6 x] at hx
    simp only [Bool.true_and, Bool.and_eq_true, decide_eq_true_eq] at hx
    unfold rawV
    simp only [Bool.and_eq_true, decide_eq_true_eq]
    exact ⟨hx.1.1, by omega, by omega⟩
theorem norm_ends {v m l h : BitVec 64} (hr : RtB v m) (ho : normOk v m l h = true) :
    hasV (nV v m l h) (nM m (nLo v m l) (nHi v m h)) (nLo v m l) (nHi v m h) (nLo v m l) = true ∧ hasV (nV v m l h) (nM m (nLo v m l) (nHi v m h)) (nLo v m l) (nHi v m h) (nHi v m h) = true := by
  obtain ⟨h1, h2, h3, h4, h5, h6⟩ := norm_facts hr ho
  unfold hasV
  rw [norm_right hr ho, h6, h6, h1, h2, span_has (Int.le_refl _) h3, span_has h3 (Int.le_refl _)]
  simp [h3]

/- right ones -/
theorem val_facts {v m l h : BitVec 64} (hv : valB v m l h = true) : RtB v m ∧ hasB v m l = true ∧ hasB v m h = true ∧ nv l ≤ nv h ∧ insB v m (spV l h) (sM l h) = true := by
  unfold valB at hv
  simp only [Bool.and_eq_true, decide_eq_true_eq] at hv
  obtain ⟨h1, h2, h3, h4⟩ := hv
  exact ⟨((hasB_iff _ _ _).1 h1).1, h1, h2, h3, h4⟩
theorem norm_stays {v m l h : BitVec 64} (hv : valB v m l h = true) : normOk v m l h = true ∧ nV v m l h = v ∧ nM m (nLo v m l) (nHi v m h) = m ∧ nLo v m l = l ∧ nHi v m h = h := by
  have hr := (val_facts hv).1
  have := val_iff hr l h
  rw [hv] at this
  have h2 := this.symm
  unfold normSame at h2
  simp only [Bool.and_eq_true, eqb_iff] at h2
  exact ⟨h2.1, h2.2.1, h2.2.2.1, h2.2.2.2.1, h2.2.2.2.2⟩
theorem ins_of_all {av am bv bm : BitVec 64} (ha : RtB av am) (hb : RtB bv bm) (hall : ∀ x, hasB av am x = true → hasB bv bm x = true) : insB av am bv bm = true := by
  rw [ins_iff]
  refine ⟨ha, hb, fun j hj => ?_⟩
  have h1 : hasB av am av = true := by
    rw [hasB_iff]; refine ⟨ha, fun i _ => ?_⟩
    have := ha i; revert this; cases bit av i <;> cases bit am i <;> simp
  have h2 : hasB av am (bor av am) = true := by
    rw [hasB_iff]; refine ⟨ha, fun i _ => ?_⟩
    rw [bit_or]
    have := ha i; revert this; cases bit av i <;> cases bit am i <;> simp
  have g1 := ((hasB_iff _ _ _).1 (hall _ h1)).2 j hj
  have g2 := ((hasB_iff _ _ _).1 (hall _ h2)).2 j hj
  rw [bit_or] at g2
  have g3 := ha j; have g4 := hb j
  revert g1 g2 g3 g4
  cases bit av j <;> cases bit am j <;> cases bit bv j <;> cases bit bm j <;> simp
theorem ins_all {av am bv bm : BitVec 64} (hi : insB av am bv bm = true) (x : BitVec 64) (hx : hasB av am x = true) : hasB bv bm x = true := sound_inside hi hx
theorem span_wider {l h l' h' : BitVec 64} (h1 : nv l' ≤ nv l) (h2 : nv l ≤ nv h) (h3 : nv h ≤ nv h') : insB (spV l h) (sM l h) (spV l' h') (sM l' h') = true := by
  have hl := ((hasB_iff _ _ _).1 (span_has (l := l') (h := h') (x := l) h1 (by omega))).2
  have hh := ((hasB_iff _ _ _).1 (span_has (l := l') (h := h') (x := h) (by omega) h3)).2
  rw [ins_iff]
  refine ⟨span_rt _ _, span_rt _ _, fun j hj => ?_⟩
  have g0 : bit (spV l h) j = (bit l j && !bit (sM l h) j) := by unfold spV; rw [bit_andn _ _ _ hj]
  rw [g0]
  cases hs : bit (sM l' h') j
  · have hsl : bit (sM l h) j = false := by
      rw [sM_bit _ _ _ hj]
      intro i hi
      by_cases h64 : i < 64
      · have hsi : bit (sM l' h') i = false := by
          rw [sM_bit _ _ _ h64]
          exact fun k hk => (sM_bit _ _ _ hj).1 hs k (by omega)
        have a := hl i h64
        have b := hh i h64
        rw [hsi] at a b
        simp only [Bool.not_false, Bool.and_true] at a b
        rw [a, b]
      · rw [bit_big _ _ (by omega), bit_big _ _ (by omega)]
    have a := hl j hj
    rw [hs] at a
    simp only [Bool.not_false, Bool.and_true] at a
    rw [hsl, a]; simp
  · have := span_rt l' h' j
    rw [hs] at this
    simp at this
    simp [this]
/- a right one inside of bits and bounds is inside of what Norm makes of them -/
theorem inside_norm {v m l h v' m' l' h' : BitVec 64} (hv : valB v m l h = true) (hr : RtB v' m') (hi : insB v m v' m' = true) (h1 : nv l' ≤ nv l) (h2 : nv h ≤ nv h') :
    normOk v' m' l' h' = true ∧ insV v m l h (nV v' m' l' h') (nM m' (nLo v' m' l') (nHi v' m' h')) (nLo v' m' l') (nHi v' m' h') = true := by
  obtain ⟨a1, a2, a3, a4, a5⟩ := val_facts hv
  have b2 := ins_all hi _ a2
  have b3 := ins_all hi _ a3
  have hx := norm_has hr (l := l') (h := h') l
  have hraw : rawV v' m' l' h' l = true := by
    unfold rawV; rw [b2]; simp only [Bool.true_and, Bool.and_eq_true, decide_eq_true_eq]; omega
  rw [hraw] at hx
  have hx := hx.symm
  rw [Bool.and_eq_true] at hx
  have ho := hx.1
  have hx2 := norm_has hr (l := l') (h := h') h
  have hraw2 : rawV v' m' l' h' h = true := by
    unfold rawV; rw [b3]; simp only [Bool.true_and, Bool.and_eq_true, decide_eq_true_eq]; omega
  rw [hraw2] at hx2
  have hx2 := hx2.symm
  rw [Bool.and_eq_true] at hx2
  have g1 := hx.2
  have g2 := hx2.2
  unfold hasV at g1 g2
  simp only [Bool.and_eq_true, decide_eq_true_eq] at g1 g2
  refine ⟨ho, ?_⟩
  unfold insV
  rw [hv, norm_right hr ho]
  simp only [Bool.true_and, Bool.and_eq_true, decide_eq_true_eq]
  refine ⟨ins_of_all a1 (val_facts (norm_right hr ho)).1 fun x hx => ?_, g1.2.2.1, g2.2.2.2⟩
  rw [(norm_facts hr ho).2.2.2.2.2 x, ins_all hi _ hx, Bool.true_and]
  exact ins_all (span_wider g1.2.2.1 a4 g2.2.2.2) _ (ins_all a5 _ hx)

end Go.Proofs.Ytkigmocchaikgaa

/- The contracts of package val's least and greatest. -/
namespace Go.Proofs.Ytkigmocchaikgaa
open Go.RowKit
attribute [local go_sem] w_and w_or w_xor w_andNot w_and1 w_and63 w_add w_sub w_mul w_sub1 w_add1 w_shl w_shl1 w_shr c_beq c_bne c_beq0 c_bne0 c_beq1 c_bne1 wrap_nv
attribute [local go_sem] w_neg w_not

set_option maxHeartbeats 1000000 in
theorem valLeast_any (v m x : BitVec 64) (w : World) :
    Calls Try.prog 82 #[Bt v m, U x] w fun e w' => e = .returned (.tuple #[U (leastV v m x).1, .bool (leastV v m x).2]) ∧ Below w.heap.size w w' := by
  have Hl : Hid (leastV v m x = if eqb (wrongB v m x) zero then (x, true)
    else if nv (band x (restB v m x)) < nv (band v (restB v m x)) then (bor (bandn x (restB v m x)) (band v (restB v m x)), true)
    else if eqb (freeB v m x) zero then (zero, false)
    else (bor (bor (bandn x (bsub (lowB (freeB v m x)) one)) (lowB (freeB v m x))) (band v (bsub (lowB (freeB v m x)) one)), true)) := rfl
  obtain ⟨c1, h1⟩ : ∃ b, eqb (bandn (bxor x v) m) zero = b := ⟨_, rfl⟩
  have H1 : Hid (eqb (wrongB v m x) zero = c1) := h1
  rw [H1.out] at Hl
  cases c1
  · have h64 := blen_le (bandn (bxor x v) m)
    obtain ⟨n, hn⟩ : ∃ n, Hid (blen (bandn (bxor x v) m) = n) := ⟨_, rfl⟩
    have hn64 : n ≤ 64 := by rw [← hn.out]; exact h64
    clear h64
    have Hr : Hid (restB v m x = bsub (bshl one n) one) := by show lowMask (blen (bandn (bxor x v) m)) = _; rw [hn.out]; rfl
    have Hf : Hid (freeB v m x = bandn (bandn m x) (bsub (bshl one n) one)) := by show bandn (bandn m x) (restB v m x) = _; rw [Hr.out]
    rw [Hr.out, Hf.out] at Hl
    go_enter Try.func82, Try.ntmps82
    go_wp2_with fail
    refine (len_u _ _).mono ?_
    rintro e w1 ⟨rfl, rfl⟩
    rw [hn.out]
    by_cases hlt : nv (band x (bsub (bshl one n) one)) < nv (band v (bsub (bshl one n) one))
    · rw [if_pos hlt] at Hl
      go_wp2_with fail
      go_ret2
      rw [Hl.out]
      exact ⟨rfl, (by repeat (first | exact Below.refl _ _ | assumption | refine below_drewN ?_ _ | refine Below.drew ?_ | refine Below.alloc ?_ (by first | exact Nat.le_refl _ | (simp; done) | (simp; omega) | omega) _ | refine Below.setCell ?_ (by first | exact Nat.le_refl _ | (simp; done) | (simp; omega) | omega) _ | refine Below.trans ?_ (Below.mono (by assumption) (by first | exact Nat.le_refl _ | (simp; done) | (simp; omega) | omega))))⟩
    · rw [if_neg hlt] at Hl
      have hle : nv (band v (bsub (bshl one n) one)) ≤ nv (band x (bsub (bshl one n) one)) := by omega
      clear hlt
      obtain ⟨c2, h2⟩ : ∃ b, eqb (bandn (bandn m x) (bsub (bshl one n) one)) zero = b := ⟨_, rfl⟩
      rw [h2] at Hl
      cases c2
      · go_wp2_with fail
        go_ret2
        rw [Hl.out]
        exact ⟨rfl, (by repeat (first | exact Below.refl _ _ | assumption | refine below_drewN ?_ _ | refine Below.drew ?_ | refine Below.alloc ?_ (by first | exact Nat.le_refl _ | (simp; done) | (simp; omega) | omega) _ | refine Below.setCell ?_ (by first | exact Nat.le_refl _ | (simp; done) | (simp; omega) | omega) _ | refine Below.trans ?_ (Below.mono (by assumption) (by first | exact Nat.le_refl _ | (simp; done) | (simp; omega) | omega))))⟩
      · go_wp2_with fail
        go_ret2
        rw [Hl.out]
        exact ⟨rfl, (by repeat (first | exact Below.refl _ _ | assumption | refine below_drewN ?_ _ | refine Below.drew ?_ | refine Below.alloc ?_ (by first | exact Nat.le_refl _ | (simp; done) | (simp; omega) | omega) _ | refine Below.setCell ?_ (by first | exact Nat.le_refl _ | (simp; done) | (simp; omega) | omega) _ | refine Below.trans ?_ (Below.mono (by assumption) (by first | exact Nat.le_refl _ | (simp; done) | (simp; omega) | omega))))⟩
  · go_enter Try.func82, Try.ntmps82
    go_wp2_with fail
    go_ret2
    rw [Hl.out]
    exact ⟨rfl, (by repeat (first | exact Below.refl _ _ | assumption | refine below_drewN ?_ _ | refine Below.drew ?_ | refine Below.alloc ?_ (by first | exact Nat.le_refl _ | (simp; done) | (simp; omega) | omega) _ | refine Below.setCell ?_ (by first | exact Nat.le_refl _ | (simp; done) | (simp; omega) | omega) _ | refine Below.trans ?_ (Below.mono (by assumption) (by first | exact Nat.le_refl _ | (simp; done) | (simp; omega) | omega))))⟩

set_option maxHeartbeats 1000000 in
theorem valGreat_any (v m x : BitVec 64) (w : World) :
    Calls Try.prog 83 #[Bt v m, U x] w fun e w' => e = .returned (.tuple #[U (greatV v m x).1, .bool (greatV v m x).2]) ∧ Below w.heap.size w w' := by
  have Hg : Hid (greatV v m x = if (leastV (turn v m) m (bnot x)).2 then (bnot (leastV (turn v m) m (bnot x)).1, true) else (zero, false)) := rfl
  have Hc : Hid (∀ w, Calls Try.prog 82 #[Bt (bnot (bor v m)) m, U (bnot x)] w fun e w' => e = .returned (.tuple #[U (leastV (turn v m) m (bnot x)).1, .bool (leastV (turn v m) m (bnot x)).2]) ∧ Below w.heap.size w w') := fun w => valLeast_any (turn v m) m (bnot x) w
  generalize leastV (turn v m) m (bnot x) = S at Hg Hc
  obtain ⟨sb, sf⟩ := S
  cases sf
  all_goals
    go_enter Try.func83, Try.ntmps83
    go_wp2_with fail
    refine (Hc.out _).mono ?_
    rintro e w1 ⟨rfl, hb1⟩
    go_wp2_with fail
    go_ret2
    rw [Hg.out]
    exact ⟨rfl, (by repeat (first | exact Below.refl _ _ | assumption | refine below_drewN ?_ _ | refine Below.drew ?_ | refine Below.alloc ?_ (by first | exact Nat.le_refl _ | (simp; done) | (simp; omega) | omega) _ | refine Below.setCell ?_ (by first | exact Nat.le_refl _ | (simp; done) | (simp; omega) | omega) _ | refine Below.trans ?_ (Below.mono (by assumption) (by first | exact Nat.le_refl _ | (simp; done) | (simp; omega) | omega))))⟩

end Go.Proofs.Ytkigmocchaikgaa

/- The contracts of package val's Norm and Check. -/
namespace Go.Proofs.Ytkigmocchaikgaa
open Go.RowKit
attribute [local go_sem] w_and w_or w_xor w_andNot w_and1 w_and63 w_add w_sub w_mul w_sub1 w_add1 w_shl w_shl1 w_shr c_beq c_bne c_beq0 c_bne0 c_beq1 c_bne1 wrap_nv

abbrev V0 : Value := Vl zero zero zero zero
set_option maxHeartbeats 1000000 in
theorem norm_wrong {v m l h : BitVec 64} (hr : Hid (eqb (band v m) zero = false)) (w : World) :
    Calls Try.prog 31 #[Vl v m l h] w fun e w' => e = .returned (.tuple #[V0, .bool false, N 1]) ∧ Below w.heap.size w w' := by
  go_enter Try.func31, Try.ntmps31
  go_wp2_with fail
  refine (check_any hr _).mono ?_
  rintro e w1 ⟨rfl, hb1⟩
  have hK := (((Kp.start w).add4 _ _ _ _ _).add4 _ _ _ _ _).keep hb1
  simp only [World.size_alloc] at hK
  obtain ⟨r0, r1, r2, r3, r4, r5, r6, r7, r8⟩ := hK.box.head.four
  obtain ⟨a0, a1, a2, a3, a4, a5, a6, a7, a8⟩ := hK.box.tail.head.four
  first | rw [er_t] | rw [er_f]
  go_wp2_with fail
  exact bodyPost_ret (v := .tuple #[V0, .bool false, N 1]) (by simp [results, Try.results31, go_sem, nv_zero, r0, r1, r2, r3]) rfl ⟨rfl, (hK.set4 0 rfl).bel⟩
set_option maxHeartbeats 1000000 in
theorem norm_none {v m l h : BitVec 64} (hr : Hid (eqb (band v m) zero = true)) (ho : Hid (normOk v m l h = false)) (w : World) :
    Calls Try.prog 31 #[Vl v m l h] w fun e w' => e = .returned (.tuple #[V0, .bool false, N 0]) ∧ Below w.heap.size w w' := by
  have HL : Hid (∀ w, Calls Try.prog 82 #[Bt v m, U l] w fun e w' => e = .returned (.tuple #[U (leastV v m l).1, .bool (leastV v m l).2]) ∧ Below w.heap.size w w') := fun w => valLeast_any v m l w
  have HG : Hid (∀ w, Calls Try.prog 83 #[Bt v m, U h] w fun e w' => e = .returned (.tuple #[U (greatV v m h).1, .bool (greatV v m h).2]) ∧ Below w.heap.size w w') := fun w => valGreat_any v m h w
  have Ho : Hid (((leastV v m l).2 && ((greatV v m h).2 && decide (nv (leastV v m l).1 ≤ nv (greatV v m h).1))) = false) := ho
  clear ho
  generalize leastV v m l = L at HL Ho
  generalize greatV v m h = G at HG Ho
  obtain ⟨lo, lb⟩ := L
  obtain ⟨hi, gb⟩ := G
  go_enter Try.func31, Try.ntmps31
  go_wp2_with fail
  refine (check_any hr _).mono ?_
  rintro e w1 ⟨rfl, hb1⟩
  have hK := (((Kp.start w).add4 _ _ _ _ _).add4 _ _ _ _ _).keep hb1
  simp only [World.size_alloc] at hK
  obtain ⟨r0, r1, r2, r3, r4, r5, r6, r7, r8⟩ := hK.box.head.four
  obtain ⟨a0, a1, a2, a3, a4, a5, a6, a7, a8⟩ := hK.box.tail.head.four
  first | rw [er_t] | rw [er_f]
  go_wp2_with fail
  refine (HL.out _).mono ?_
  rintro e w2 ⟨rfl, hb2⟩
  have hK2 := hK.keep hb2
  clear r0 r1 r2 r3 r4 r5 r6 r7 r8 a0 a1 a2 a3 a4 a5 a6 a7 a8
  obtain ⟨r0, r1, r2, r3, r4, r5, r6, r7, r8⟩ := hK2.box.head.four
  obtain ⟨a0, a1, a2, a3, a4, a5, a6, a7, a8⟩ := hK2.box.tail.head.four
  go_wp2_with fail
  refine (HG.out _).mono ?_
  rintro e w3 ⟨rfl, hb3⟩
  have hK3 := hK2.keep hb3
  clear r0 r1 r2 r3 r4 r5 r6 r7 r8 a0 a1 a2 a3 a4 a5 a6 a7 a8
  obtain ⟨r0, r1, r2, r3, r4, r5, r6, r7, r8⟩ := hK3.box.head.four
  obtain ⟨a0, a1, a2, a3, a4, a5, a6, a7, a8⟩ := hK3.box.tail.head.four
  cases lb
  · go_wp2_with fail
    exact bodyPost_ret (v := .tuple #[V0, .bool false, N 0]) (by simp [results, Try.results31, go_sem, nv_zero, r0, r1, r2, r3]) rfl ⟨rfl, (hK3.set4 0 rfl).bel⟩
  · cases gb
    · go_wp2_with fail
      exact bodyPost_ret (v := .tuple #[V0, .bool false, N 0]) (by simp [results, Try.results31, go_sem, nv_zero, r0, r1, r2, r3]) rfl ⟨rfl, (hK3.set4 0 rfl).bel⟩
    · have hlt : nv hi < nv lo := by
        have := Ho.out
        simp only [Bool.true_and, decide_eq_false_iff_not] at this
        omega
      clear Ho
      go_wp2_with fail
      exact bodyPost_ret (v := .tuple #[V0, .bool false, N 0]) (by simp [results, Try.results31, go_sem, nv_zero, r0, r1, r2, r3]) rfl ⟨rfl, (hK3.set4 0 rfl).bel⟩

theorem both_right {v m v' m' : BitVec 64} (h1 : RtB v m) (h2 : RtB v' m') : Hid ((eqb (band v m) zero && eqb (band v' m') zero) = true) := by
  show _ = true
  rw [(rt_iff _ _).2 h1, (rt_iff _ _).2 h2]; rfl
set_option maxHeartbeats 1000000 in
theorem norm_yes {v m l h : BitVec 64} (hr : Hid (eqb (band v m) zero = true)) (ho : Hid (normOk v m l h = true)) (w : World) :
    Calls Try.prog 31 #[Vl v m l h] w fun e w' => e = .returned (.tuple #[Vl (nV v m l h) (nM m (nLo v m l) (nHi v m h)) (nLo v m l) (nHi v m h), .bool true, N 0]) ∧ Below w.heap.size w w' := by
  have hrt := (rt_iff v m).1 hr.out
  have hfa := norm_facts hrt ho.out
  have ho' := ho.out
  unfold normOk at ho'
  simp only [Bool.and_eq_true] at ho'
  have HL : Hid (∀ w, Calls Try.prog 82 #[Bt v m, U l] w fun e w' => e = .returned (.tuple #[U (nLo v m l), .bool true]) ∧ Below w.heap.size w w') := fun w => by
    have := valLeast_any v m l w; rw [ho'.1] at this; exact this
  have HG : Hid (∀ w, Calls Try.prog 83 #[Bt v m, U h] w fun e w' => e = .returned (.tuple #[U (nHi v m h), .bool true]) ∧ Below w.heap.size w w') := fun w => by
    have := valGreat_any v m h w; rw [ho'.2.1] at this; exact this
  have HS : Hid (∀ w, Calls Try.prog 16 #[U (nLo v m l), U (nHi v m h)] w fun e w' => e = .returned (.tuple #[Bt (spV (nLo v m l) (nHi v m h)) (sM (nLo v m l) (nHi v m h)), N 0]) ∧ Below w.heap.size w w') := fun w => span_ok hfa.2.2.1 w
  have HM : Hid (∀ w, Calls Try.prog 14 #[Bt v m, Bt (spV (nLo v m l) (nHi v m h)) (sM (nLo v m l) (nHi v m h))] w fun e w' => e = .returned (.tuple #[Bt (nV v m l h) (nM m (nLo v m l) (nHi v m h)), .bool true, N 0]) ∧ Below w.heap.size w w') := fun w =>
    meet_ok (both_right hrt (span_rt _ _)) (meet_span hrt hfa.1 (Int.le_refl _) hfa.2.2.1) w
  have hle := hfa.2.2.1
  clear hfa ho' ho hrt
  generalize nV v m l h = rv at HM ⊢
  generalize nM m (nLo v m l) (nHi v m h) = rm at HM ⊢
  generalize spV (nLo v m l) (nHi v m h) = sv at HM HS
  generalize sM (nLo v m l) (nHi v m h) = sm at HM HS
  generalize nLo v m l = lo at HL HS hle ⊢
  generalize nHi v m h = hi at HG HS hle ⊢
  go_enter Try.func31, Try.ntmps31
  go_wp2_with fail
  refine (check_any hr _).mono ?_
  rintro e w1 ⟨rfl, hb1⟩
  have hK := (((Kp.start w).add4 _ _ _ _ _).add4 _ _ _ _ _).keep hb1
  simp only [World.size_alloc] at hK
  obtain ⟨r0, r1, r2, r3, r4, r5, r6, r7, r8⟩ := hK.box.head.four
  obtain ⟨a0, a1, a2, a3, a4, a5, a6, a7, a8⟩ := hK.box.tail.head.four
  first | rw [er_t] | rw [er_f]
  go_wp2_with fail
  refine (HL.out _).mono ?_
  rintro e w2 ⟨rfl, hb2⟩
  have hK2 := hK.keep hb2
  clear r0 r1 r2 r3 r4 r5 r6 r7 r8 a0 a1 a2 a3 a4 a5 a6 a7 a8
  obtain ⟨r0, r1, r2, r3, r4, r5, r6, r7, r8⟩ := hK2.box.head.four
  obtain ⟨a0, a1, a2, a3, a4, a5, a6, a7, a8⟩ := hK2.box.tail.head.four
  go_wp2_with fail
  refine (HG.out _).mono ?_
  rintro e w3 ⟨rfl, hb3⟩
  have hK3 := hK2.keep hb3
  clear r0 r1 r2 r3 r4 r5 r6 r7 r8 a0 a1 a2 a3 a4 a5 a6 a7 a8
  obtain ⟨r0, r1, r2, r3, r4, r5, r6, r7, r8⟩ := hK3.box.head.four
  obtain ⟨a0, a1, a2, a3, a4, a5, a6, a7, a8⟩ := hK3.box.tail.head.four
  go_wp2_with fail
  refine (HS.out _).mono ?_
  rintro e w4 ⟨rfl, hb4⟩
  have hK4 := hK3.keep hb4
  clear r0 r1 r2 r3 r4 r5 r6 r7 r8 a0 a1 a2 a3 a4 a5 a6 a7 a8
  obtain ⟨r0, r1, r2, r3, r4, r5, r6, r7, r8⟩ := hK4.box.head.four
  obtain ⟨a0, a1, a2, a3, a4, a5, a6, a7, a8⟩ := hK4.box.tail.head.four
  go_wp2_with fail
  refine (HM.out _).mono ?_
  rintro e w5 ⟨rfl, hb5⟩
  have hK5 := (hK4.add2 _ _ _).keep hb5
  clear r0 r1 r2 r3 r4 r5 r6 r7 r8 a0 a1 a2 a3 a4 a5 a6 a7 a8
  obtain ⟨s0, s1, s2, s3, s4⟩ := hK5.box.head.two
  obtain ⟨r0, r1, r2, r3, r4, r5, r6, r7, r8⟩ := hK5.box.tail.head.four
  obtain ⟨a0, a1, a2, a3, a4, a5, a6, a7, a8⟩ := hK5.box.tail.tail.head.four
  go_wp2_with fail
  exact bodyPost_ret (v := .tuple #[Vl rv rm lo hi, .bool true, N 0]) (by simp [results, Try.results31, go_sem, r0, r1, r2, r3, r8]) rfl ⟨rfl, ((hK5.set4 1 rfl).add2 _ _ _).bel⟩

end Go.Proofs.Ytkigmocchaikgaa

/- The contracts of the reference's least and greatest. -/
namespace Go.Proofs.Ytkigmocchaikgaa
open Go.RowKit
attribute [local go_sem] w_and w_or w_xor w_andNot w_and1 w_and63 w_add w_sub w_mul w_sub1 w_add1 w_shl w_shl1 w_shr c_beq c_bne c_beq0 c_bne0 c_beq1 c_bne1 wrap_nv

theorem shr_and0 (v : BitVec 64) (i : Nat) : eqb (band (bshr v i) one) zero = !bit v i := by
  cases hb : bit v i
  · have h : ∀ j, bit (band (bshr v i) one) j = false := by
      intro j
      rw [bit_and', bit_shr]
      have ho : bit one j = decide (j = 0) := by
        have := bit_one_shl 0 j (by omega)
        rw [show bshl one 0 = one by unfold bshl; simp] at this
        exact this
      rw [ho]
      by_cases e : j = 0
      · subst e; rw [Nat.add_zero, hb]; rfl
      · simp [e]
    rw [(eqb_zero_iff _).2 fun j _ => h j]; rfl
  · have := shr_and1 v i
    rw [hb, eqb_iff] at this
    rw [this]; rfl
theorem has_is {v m x : BitVec 64} {b : Bool} (h : hasB v m x = b) (w : World) :
    Calls Try.prog 25 #[Bt v m, U x] w fun e w' => e = .returned (.bool b) ∧ Below w.heap.size w w' := h ▸ bitsHave_any v m x w

set_option maxRecDepth 100000 in
set_option maxHeartbeats 1000000 in
theorem refLeast_any (v m x : BitVec 64) (w : World) :
    Calls Try.prog 84 #[Bt v m, U x] w fun e w' => e = .returned (.tuple #[U (scanL v m x 64).1, .bool (scanL v m x 64).2]) ∧ Below w.heap.size w w' := by
  obtain ⟨hh, Hh⟩ : ∃ b, Hid (hasB v m x = b) := ⟨_, rfl⟩
  go_enter Try.func84, Try.ntmps84
  go_wp2_with fail
  refine (has_is Hh.out _).mono ?_
  rintro e w1 ⟨rfl, hb1⟩
  have hK := ((Kp.start w).add2 _ _ _).keep hb1
  go_wp2_with fail
  go_loopw [6, 7, 8] (fun b f i wr => ∃ k : Nat, k ≤ 64 ∧ i = N k ∧ b = U (scanL v m x k).1 ∧ f = .bool (scanL v m x k).2 ∧ Kp w wr [(w.heap.size, [U v, U m])]) (fun _ _ i _ => 64 - (intOf i).toNat)
  case atStart => exact ⟨0, by omega, rfl, rfl, by rw [scanL, Hh.out], hK⟩
  case round =>
    clear hK hb1
    obtain ⟨k, hk, rfl, rfl, rfl, hK⟩ := hrel
    obtain ⟨a0, a1, a2, a3, a4⟩ := hK.box.head.two
    have Hs : Hid (k < 64 → scanL v m x (k + 1) = if (scanL v m x k).2 then scanL v m x k else if okL v m x k then (candL v x k, true) else scanL v m x k) := fun _ => rfl
    have Ht : Hid ((scanL v m x k).2 = true → scanL v m x 64 = scanL v m x k) := fun h => scanL_stay v m x k 64 h hk
    have Hu : Hid (k = 64 → scanL v m x 64 = scanL v m x k) := fun h => by rw [h]
    generalize scanL v m x k = S at Hs Ht Hu ⊢
    obtain ⟨sb, sf⟩ := S
    by_cases hlt : k < 64
    · cases sf
      · have hA := shr_and1 x k
        have Hn := Hs.out hlt
        have Hok : Hid (okL v m x k = (!bit x k && hasB v m (candL v x k))) := rfl
        clear Hs Ht Hu
        have Hn : Hid _ := Hn
        obtain ⟨bx, hbx⟩ : ∃ b, Hid (bit x k = b) := ⟨_, rfl⟩
        rw [hbx.out] at hA Hok
        obtain ⟨bc, hbc⟩ : ∃ b, Hid (hasB v m (candL v x k) = b) := ⟨_, rfl⟩
        rw [hbc.out] at Hok
        cases bx
        · go_wp2_with fail
          go_quiet (fail)
          go_wp2_with fail
          go_quiet (fail)
          go_wp2_with fail
          refine (has_is (b := bc) hbc.out _).mono ?_
          rintro e w2 ⟨rfl, hb2⟩
          have hK2 := (hK.drew _).keep hb2
          cases bc
          · go_wp2_with fail
            exact ⟨⟨k + 1, by omega, by go_num, by rw [Hn.out, Hok.out]; rfl, by rw [Hn.out, Hok.out]; rfl, hK2⟩, by simp [intOf]; omega⟩
          · go_wp2_with fail
            exact ⟨⟨k + 1, by omega, by go_num, by rw [Hn.out, Hok.out]; rfl, by rw [Hn.out, Hok.out]; rfl, hK2⟩, by simp [intOf]; omega⟩
        · go_wp2_with fail
          exact ⟨⟨k + 1, by omega, by go_num, by rw [Hn.out, Hok.out]; rfl, by rw [Hn.out, Hok.out]; rfl, hK⟩, by simp [intOf]; omega⟩
      · have He : Hid _ := Ht.out rfl
        clear Hs Ht Hu
        go_wp2_with fail
        go_ret2
        rw [He.out]
        exact ⟨rfl, hK.bel⟩
    · have hk64 : k = 64 := by omega
      have He : Hid _ := Hu.out hk64
      clear Hs Ht Hu
      subst hk64
      go_wp2_with fail
      go_ret2
      rw [He.out]
      exact ⟨rfl, hK.bel⟩

set_option maxRecDepth 100000 in
set_option maxHeartbeats 1000000 in
theorem refGreat_any (v m x : BitVec 64) (w : World) :
    Calls Try.prog 85 #[Bt v m, U x] w fun e w' => e = .returned (.tuple #[U (scanG v m x 64).1, .bool (scanG v m x 64).2]) ∧ Below w.heap.size w w' := by
  obtain ⟨hh, Hh⟩ : ∃ b, Hid (hasB v m x = b) := ⟨_, rfl⟩
  go_enter Try.func85, Try.ntmps85
  go_wp2_with fail
  refine (has_is Hh.out _).mono ?_
  rintro e w1 ⟨rfl, hb1⟩
  have hK := ((Kp.start w).add2 _ _ _).keep hb1
  go_wp2_with fail
  go_loopw [6, 7, 8] (fun b f i wr => ∃ k : Nat, k ≤ 64 ∧ i = N k ∧ b = U (scanG v m x k).1 ∧ f = .bool (scanG v m x k).2 ∧ Kp w wr [(w.heap.size, [U v, U m])]) (fun _ _ i _ => 64 - (intOf i).toNat)
  case atStart => exact ⟨0, by omega, rfl, rfl, by rw [scanG, Hh.out], hK⟩
  case round =>
    clear hK hb1
    obtain ⟨k, hk, rfl, rfl, rfl, hK⟩ := hrel
    obtain ⟨a0, a1, a2, a3, a4⟩ := hK.box.head.two
    have Hs : Hid (k < 64 → scanG v m x (k + 1) = if (scanG v m x k).2 then scanG v m x k else if okG v m x k then (candG v m x k, true) else scanG v m x k) := fun _ => rfl
    have Ht : Hid ((scanG v m x k).2 = true → scanG v m x 64 = scanG v m x k) := fun h => scanG_stay v m x k 64 h hk
    have Hu : Hid (k = 64 → scanG v m x 64 = scanG v m x k) := fun h => by rw [h]
    generalize scanG v m x k = S at Hs Ht Hu ⊢
    obtain ⟨sb, sf⟩ := S
    by_cases hlt : k < 64
    · cases sf
      · have hA := shr_and0 x k
        have Hn := Hs.out hlt
        have Hok : Hid (okG v m x k = (bit x k && hasB v m (candG v m x k))) := rfl
        clear Hs Ht Hu
        have Hn : Hid _ := Hn
        obtain ⟨bx, hbx⟩ : ∃ b, Hid (bit x k = b) := ⟨_, rfl⟩
        rw [hbx.out] at hA Hok
        obtain ⟨bc, hbc⟩ : ∃ b, Hid (hasB v m (candG v m x k) = b) := ⟨_, rfl⟩
        rw [hbc.out] at Hok
        cases bx
        · go_wp2_with fail
          exact ⟨⟨k + 1, by omega, by go_num, by rw [Hn.out, Hok.out]; rfl, by rw [Hn.out, Hok.out]; rfl, hK⟩, by simp [intOf]; omega⟩
        · go_wp2_with fail
          go_quiet (fail)
          go_wp2_with fail
          refine (has_is (b := bc) hbc.out _).mono ?_
          rintro e w2 ⟨rfl, hb2⟩
          have hK2 := (hK.drew _).keep hb2
          cases bc
          · go_wp2_with fail
            exact ⟨⟨k + 1, by omega, by go_num, by rw [Hn.out, Hok.out]; rfl, by rw [Hn.out, Hok.out]; rfl, hK2⟩, by simp [intOf]; omega⟩
          · go_wp2_with fail
            exact ⟨⟨k + 1, by omega, by go_num, by rw [Hn.out, Hok.out]; rfl, by rw [Hn.out, Hok.out]; rfl, hK2⟩, by simp [intOf]; omega⟩
      · have He : Hid _ := Ht.out rfl
        clear Hs Ht Hu
        go_wp2_with fail
        go_ret2
        rw [He.out]
        exact ⟨rfl, hK.bel⟩
    · have hk64 : k = 64 := by omega
      have He : Hid _ := Hu.out hk64
      clear Hs Ht Hu
      subst hk64
      go_wp2_with fail
      go_ret2
      rw [He.out]
      exact ⟨rfl, hK.bel⟩

end Go.Proofs.Ytkigmocchaikgaa

/- The contracts of package val's Check, and of the reference's NormVal and RightVal. -/
namespace Go.Proofs.Ytkigmocchaikgaa
open Go.RowKit
attribute [local go_sem] w_and w_or w_xor w_andNot w_and1 w_and63 w_add w_sub w_mul w_sub1 w_add1 w_shl w_shl1 w_shr c_beq c_bne c_beq0 c_bne0 c_beq1 c_bne1 wrap_nv

set_option maxHeartbeats 1000000 in
theorem valCheck_any (v m l h : BitVec 64) (w : World) :
    Calls Try.prog 37 #[Vl v m l h] w fun e w' => e = .returned (N (er (valB v m l h))) ∧ Below w.heap.size w w' := by
  have Hv : Hid (valB v m l h = (hasB v m l && (hasB v m h && (decide (nv l ≤ nv h) && insB v m (spV l h) (sM l h))))) := rfl
  obtain ⟨b1, H1⟩ : ∃ b, Hid (hasB v m l = b) := ⟨_, rfl⟩
  obtain ⟨b2, H2⟩ : ∃ b, Hid (hasB v m h = b) := ⟨_, rfl⟩
  obtain ⟨b3, H3⟩ : ∃ b, Hid (insB v m (spV l h) (sM l h) = b) := ⟨_, rfl⟩
  rw [H1.out, H2.out, H3.out] at Hv
  go_enter Try.func37, Try.ntmps37
  go_wp2_with fail
  refine (hasC H1.out _).mono ?_
  rintro e w1 ⟨rfl, hb1⟩
  have hK := ((Kp.start w).add4 _ _ _ _ _).keep hb1
  obtain ⟨a0, a1, a2, a3, a4, a5, a6, a7, a8⟩ := hK.box.head.four
  cases b1
  · go_wp2_with fail
    go_ret
    rw [Hv.out]
    exact ⟨rfl, hK.bel⟩
  · go_wp2_with fail
    refine (hasC H2.out _).mono ?_
    rintro e w2 ⟨rfl, hb2⟩
    have hK2 := hK.keep hb2
    clear a0 a1 a2 a3 a4 a5 a6 a7 a8
    obtain ⟨a0, a1, a2, a3, a4, a5, a6, a7, a8⟩ := hK2.box.head.four
    cases b2
    · go_wp2_with fail
      go_ret
      rw [Hv.out]
      exact ⟨rfl, hK2.bel⟩
    · by_cases hle : nv l ≤ nv h
      · have Hd : Hid (decide (nv l ≤ nv h) = true) := decide_eq_true hle
        have HS : Hid (∀ w, Calls Try.prog 16 #[U l, U h] w fun e w' => e = .returned (.tuple #[Bt (spV l h) (sM l h), N 0]) ∧ Below w.heap.size w w') := fun w => span_ok hle w
        rw [Hd.out] at Hv
        clear hle Hd
        generalize spV l h = sv at HS H3
        generalize sM l h = sm at HS H3
        go_wp2_with fail
        refine (HS.out _).mono ?_
        rintro e w3 ⟨rfl, hb3⟩
        have hK3 := hK2.keep hb3
        clear a0 a1 a2 a3 a4 a5 a6 a7 a8
        obtain ⟨a0, a1, a2, a3, a4, a5, a6, a7, a8⟩ := hK3.box.head.four
        go_wp2_with fail
        refine (insC H3.out _).mono ?_
        rintro e w4 ⟨rfl, hb4⟩
        have hK4 := (hK3.add2 _ _ _).keep hb4
        cases b3
        all_goals
          go_wp2_with fail
          go_ret
          rw [Hv.out]
          exact ⟨rfl, hK4.bel⟩
      · have Hd : Hid (decide (nv l ≤ nv h) = false) := decide_eq_false hle
        have HS : Hid (∀ w, Calls Try.prog 16 #[U l, U h] w fun e w' => e = .returned (.tuple #[Bt zero zero, N 3]) ∧ Below w.heap.size w w') := fun w => span_no (by omega) w
        rw [Hd.out] at Hv
        clear hle Hd
        go_wp2_with fail
        refine (HS.out _).mono ?_
        rintro e w3 ⟨rfl, hb3⟩
        have hK3 := hK2.keep hb3
        go_wp2_with fail
        go_ret
        rw [Hv.out]
        exact ⟨rfl, (hK3.add2 _ _ _).bel⟩

/- the reference's -/
set_option maxHeartbeats 1000000 in
theorem normVal_none {v m l h : BitVec 64} (hr : Hid (eqb (band v m) zero = true)) (ho : Hid (normOk v m l h = false)) (w : World) :
    Calls Try.prog 33 #[Vl v m l h] w fun e w' => e = .returned (.tuple #[V0, .bool false]) ∧ Below w.heap.size w w' := by
  have hrt := (rt_iff v m).1 hr.out
  have hs := least_same hrt l
  have hg := great_same hrt h
  have HL : Hid (∀ w, Calls Try.prog 84 #[Bt v m, U l] w fun e w' => e = .returned (.tuple #[U (scanL v m l 64).1, .bool (scanL v m l 64).2]) ∧ Below w.heap.size w w') := fun w => refLeast_any v m l w
  have HG : Hid (∀ w, Calls Try.prog 85 #[Bt v m, U h] w fun e w' => e = .returned (.tuple #[U (scanG v m h 64).1, .bool (scanG v m h 64).2]) ∧ Below w.heap.size w w') := fun w => refGreat_any v m h w
  have Ho : Hid (((scanL v m l 64).2 && ((scanG v m h 64).2 && decide (nv (scanL v m l 64).1 ≤ nv (scanG v m h 64).1))) = false) := by
    have := ho.out
    unfold normOk nLo nHi at this
    show _ = false
    rw [hs.1, hg.1]
    cases e1 : (leastV v m l).2
    · rfl
    · cases e2 : (greatV v m h).2
      · rfl
      · rw [hs.2 e1, hg.2 e2]
        rw [e1, e2] at this
        exact this
  clear ho hs hg hrt hr
  generalize scanL v m l 64 = L at HL Ho
  generalize scanG v m h 64 = G at HG Ho
  obtain ⟨lo, lb⟩ := L
  obtain ⟨hi, gb⟩ := G
  go_enter Try.func33, Try.ntmps33
  go_wp2_with fail
  refine (HL.out _).mono ?_
  rintro e w2 ⟨rfl, hb2⟩
  have hK2 := (((Kp.start w).add4 _ _ _ _ _).add4 _ _ _ _ _).keep hb2
  simp only [World.size_alloc] at hK2
  obtain ⟨r0, r1, r2, r3, r4, r5, r6, r7, r8⟩ := hK2.box.head.four
  obtain ⟨a0, a1, a2, a3, a4, a5, a6, a7, a8⟩ := hK2.box.tail.head.four
  go_wp2_with fail
  refine (HG.out _).mono ?_
  rintro e w3 ⟨rfl, hb3⟩
  have hK3 := hK2.keep hb3
  clear r0 r1 r2 r3 r4 r5 r6 r7 r8 a0 a1 a2 a3 a4 a5 a6 a7 a8
  obtain ⟨r0, r1, r2, r3, r4, r5, r6, r7, r8⟩ := hK3.box.head.four
  obtain ⟨a0, a1, a2, a3, a4, a5, a6, a7, a8⟩ := hK3.box.tail.head.four
  cases lb
  · go_wp2_with fail
    exact bodyPost_ret (v := .tuple #[V0, .bool false]) (by simp [results, Try.results33, go_sem, nv_zero, r0, r1, r2, r3]) rfl ⟨rfl, (hK3.set4 0 rfl).bel⟩
  · cases gb
    · go_wp2_with fail
      exact bodyPost_ret (v := .tuple #[V0, .bool false]) (by simp [results, Try.results33, go_sem, nv_zero, r0, r1, r2, r3]) rfl ⟨rfl, (hK3.set4 0 rfl).bel⟩
    · have hlt : nv hi < nv lo := by
        have := Ho.out
        simp only [Bool.true_and, decide_eq_false_iff_not] at this
        omega
      clear Ho
      go_wp2_with fail
      exact bodyPost_ret (v := .tuple #[V0, .bool false]) (by simp [results, Try.results33, go_sem, nv_zero, r0, r1, r2, r3]) rfl ⟨rfl, (hK3.set4 0 rfl).bel⟩

set_option maxRecDepth 100000 in
set_option maxHeartbeats 8000000 in
theorem normVal_yes {v m l h : BitVec 64} (hr : Hid (eqb (band v m) zero = true)) (ho : Hid (normOk v m l h = true)) (w : World) :
    Calls Try.prog 33 #[Vl v m l h] w fun e w' => e = .returned (.tuple #[Vl (nV v m l h) (nM m (nLo v m l) (nHi v m h)) (nLo v m l) (nHi v m h), .bool true]) ∧ Below w.heap.size w w' := by
  have hrt := (rt_iff v m).1 hr.out
  have hfa := norm_facts hrt ho.out
  have ho' := ho.out
  unfold normOk at ho'
  simp only [Bool.and_eq_true] at ho'
  have hs := least_same hrt l
  have hg := great_same hrt h
  have HL : Hid (∀ w, Calls Try.prog 84 #[Bt v m, U l] w fun e w' => e = .returned (.tuple #[U (nLo v m l), .bool true]) ∧ Below w.heap.size w w') := fun w => by
    have := refLeast_any v m l w; rw [hs.1, hs.2 ho'.1, ho'.1] at this; exact this
  have HG : Hid (∀ w, Calls Try.prog 85 #[Bt v m, U h] w fun e w' => e = .returned (.tuple #[U (nHi v m h), .bool true]) ∧ Below w.heap.size w w') := fun w => by
    have := refGreat_any v m h w; rw [hg.1, hg.2 ho'.2.1, ho'.2.1] at this; exact this
  have HS : Hid (∀ w, Calls Try.prog 21 #[U (nLo v m l), U (nHi v m h)] w fun e w' => e = .returned (Bt (spV (nLo v m l) (nHi v m h)) (sM (nLo v m l) (nHi v m h))) ∧ Below w.heap.size w w') := fun w => by
    have hh := spanBits_any (nLo v m l) (nHi v m h) w
    rw [(span_eq _ _).1, (span_eq _ _).2] at hh
    exact hh
  have HM : Hid (∀ w, Calls Try.prog 19 #[Bt v m, Bt (spV (nLo v m l) (nHi v m h)) (sM (nLo v m l) (nHi v m h))] w fun e w' => e = .returned (.tuple #[Bt (nV v m l h) (nM m (nLo v m l) (nHi v m h)), .bool true]) ∧ Below w.heap.size w w') := fun w => by
    obtain ⟨h1, h2, h3⟩ := meet_eq (both_right hrt (span_rt (nLo v m l) (nHi v m h))).out (meet_span hrt hfa.1 (Int.le_refl _) hfa.2.2.1)
    have h := meetBits_ok v m _ _ h1 w
    rw [h2, h3] at h
    exact h
  have hle := hfa.2.2.1
  clear hfa ho' ho hrt hs hg hr
  generalize nV v m l h = rv at HM ⊢
  generalize nM m (nLo v m l) (nHi v m h) = rm at HM ⊢
  generalize spV (nLo v m l) (nHi v m h) = sv at HM HS
  generalize sM (nLo v m l) (nHi v m h) = sm at HM HS
  generalize nLo v m l = lo at HL HS hle ⊢
  generalize nHi v m h = hi at HG HS hle ⊢
  go_enter Try.func33, Try.ntmps33
  go_wp2_with fail
  refine (HL.out _).mono ?_
  rintro e w2 ⟨rfl, hb2⟩
  have hK2 := (((Kp.start w).add4 _ _ _ _ _).add4 _ _ _ _ _).keep hb2
  simp only [World.size_alloc] at hK2
  obtain ⟨r0, r1, r2, r3, r4, r5, r6, r7, r8⟩ := hK2.box.head.four
  obtain ⟨a0, a1, a2, a3, a4, a5, a6, a7, a8⟩ := hK2.box.tail.head.four
  go_wp2_with fail
  refine (HG.out _).mono ?_
  rintro e w3 ⟨rfl, hb3⟩
  have hK3 := hK2.keep hb3
  clear r0 r1 r2 r3 r4 r5 r6 r7 r8 a0 a1 a2 a3 a4 a5 a6 a7 a8
  obtain ⟨r0, r1, r2, r3, r4, r5, r6, r7, r8⟩ := hK3.box.head.four
  obtain ⟨a0, a1, a2, a3, a4, a5, a6, a7, a8⟩ := hK3.box.tail.head.four
  go_wp2_with fail
  go_cut [8, 9] (fun p f wc => ∃ b, p = .pointer (some ⟨b, 0, none⟩) ∧ f = .bool true ∧ Kp w wc [(b, [U rv, U rm]), (w.heap.size + 1, [.int .u64 0, .int .u64 0, .int .u64 0, .int .u64 0]), (w.heap.size, [U v, U m, U l, U h])])
  case first =>
    go_region_with (first
        | (go_at_call 21; refine (HS.out _).mono ?_; rintro e w4 ⟨rfl, hb4⟩; clear r0 r1 r2 r3 r4 r5 r6 r7 a0 a1 a2 a3 a4 a5 a6 a7; first | (have hK4 := (hK3.keep (Below.drew (Below.refl _ _))).keep hb4; obtain ⟨r0, r1, r2, r3, r4, r5, r6, r7, r8⟩ := hK4.box.head.four; obtain ⟨a0, a1, a2, a3, a4, a5, a6, a7, a8⟩ := hK4.box.tail.head.four) | (have hK4 := ((hK3.keep (Below.drew (Below.refl _ _))).add2 _ _ _).keep hb4; rw [show w3.drew.heap.size = w3.heap.size from rfl] at hK4; obtain ⟨q0, q1, q2, q3, q4⟩ := hK4.box.head.two; obtain ⟨r0, r1, r2, r3, r4, r5, r6, r7, r8⟩ := hK4.box.tail.head.four; obtain ⟨a0, a1, a2, a3, a4, a5, a6, a7, a8⟩ := hK4.box.tail.tail.head.four))
        | (go_at_call 19; refine (HM.out _).mono ?_; rintro e w5 ⟨rfl, hb5⟩; clear r0 r1 r2 r3 r4 r5 r6 r7 a0 a1 a2 a3 a4 a5 a6 a7; first | (have hK5 := hK4.keep hb5; obtain ⟨q0, q1, q2, q3, q4⟩ := hK5.box.head.two; obtain ⟨r0, r1, r2, r3, r4, r5, r6, r7, r8⟩ := hK5.box.tail.head.four; obtain ⟨a0, a1, a2, a3, a4, a5, a6, a7, a8⟩ := hK5.box.tail.tail.head.four) | (have hK5 := hK4.keep hb5; obtain ⟨r0, r1, r2, r3, r4, r5, r6, r7, r8⟩ := hK5.box.head.four; obtain ⟨a0, a1, a2, a3, a4, a5, a6, a7, a8⟩ := hK5.box.tail.head.four) | (have hK5 := (hK4.add2 _ _ _).keep hb5; obtain ⟨q0, q1, q2, q3, q4⟩ := hK5.box.head.two; obtain ⟨r0, r1, r2, r3, r4, r5, r6, r7, r8⟩ := hK5.box.tail.head.four; obtain ⟨a0, a1, a2, a3, a4, a5, a6, a7, a8⟩ := hK5.box.tail.tail.head.four)))
    all_goals
      go_wp2_with fail
      go_meet
      case rel => first | exact ⟨_, rfl, rfl, hK5.add2 _ _ _⟩ | exact ⟨_, rfl, rfl, hK5.set2 0 rfl⟩
  case rest =>
    clear r0 r1 r2 r3 r4 r5 r6 r7 r8 a0 a1 a2 a3 a4 a5 a6 a7 a8
    obtain ⟨b, rfl, rfl, hK6⟩ := hcut
    obtain ⟨q0, q1, q2, q3, q4⟩ := hK6.box.head.two
    obtain ⟨r0, r1, r2, r3, r4, r5, r6, r7, r8⟩ := hK6.box.tail.head.four
    obtain ⟨a0, a1, a2, a3, a4, a5, a6, a7, a8⟩ := hK6.box.tail.tail.head.four
    have hne : w.heap.size + 1 < b := hK6.box.2.1 _ (List.Mem.head _)
    go_wp2_with fail
    exact bodyPost_ret (v := .tuple #[Vl rv rm lo hi, .bool true]) (by simp [results, Try.results33, go_sem, r0, r1, r2, r3]) rfl ⟨rfl, (hK6.set4 1 rfl).bel⟩

end Go.Proofs.Ytkigmocchaikgaa

/- The contracts of package val's Has, Inside, Of, Any and Join, and of the reference's RightVal, ValHas, InsideVal, ValOf, ValAny. -/
namespace Go.Proofs.Ytkigmocchaikgaa
open Go.RowKit
attribute [local go_sem] w_and w_or w_xor w_andNot w_and1 w_and63 w_add w_sub w_mul w_sub1 w_add1 w_shl w_shl1 w_shr c_beq c_bne c_beq0 c_bne0 c_beq1 c_bne1 wrap_nv
attribute [local go_sem] eqb_self

theorem checkV {v m l h : BitVec 64} {b : Bool} (hv : valB v m l h = b) (w : World) :
    Calls Try.prog 37 #[Vl v m l h] w fun e w' => e = .returned (N (er b)) ∧ Below w.heap.size w w' := hv ▸ valCheck_any v m l h w

set_option maxHeartbeats 1000000 in
theorem rightVal_any (v m l h : BitVec 64) (w : World) :
    Calls Try.prog 34 #[Vl v m l h] w fun e w' => e = .returned (.bool (valB v m l h)) ∧ Below w.heap.size w w' := by
  obtain ⟨r, hr⟩ : ∃ r, Hid (eqb (band v m) zero = r) := ⟨_, rfl⟩
  cases r
  · have Hv : Hid (valB v m l h = false) := val_wrong hr.out
    rw [Hv.out]
    go_enter Try.func34, Try.ntmps34
    go_wp2_with fail
    refine (right_is hr.out _).mono ?_
    rintro e w1 ⟨rfl, hb1⟩
    have hK := ((Kp.start w).add4 _ _ _ _ _).keep hb1
    go_wp2_with fail
    go_ret
    exact ⟨rfl, hK.bel⟩
  · have hrt := (rt_iff v m).1 hr.out
    obtain ⟨o, ho⟩ : ∃ o, Hid (normOk v m l h = o) := ⟨_, rfl⟩
    have Hv : Hid (valB v m l h = (normOk v m l h && normSame v m l h)) := val_iff hrt l h
    rw [ho.out] at Hv
    cases o
    · have HN : Hid (∀ w, Calls Try.prog 33 #[Vl v m l h] w fun e w' => e = .returned (.tuple #[V0, .bool false]) ∧ Below w.heap.size w w') := fun w => normVal_none hr ho w
      rw [Hv.out]
      clear Hv ho hrt
      go_enter Try.func34, Try.ntmps34
      go_wp2_with fail
      refine (right_is hr.out _).mono ?_
      rintro e w1 ⟨rfl, hb1⟩
      have hK := ((Kp.start w).add4 _ _ _ _ _).keep hb1
      obtain ⟨a0, a1, a2, a3, a4, a5, a6, a7, a8⟩ := hK.box.head.four
      go_wp2_with fail
      refine (HN.out _).mono ?_
      rintro e w2 ⟨rfl, hb2⟩
      have hK2 := hK.keep hb2
      go_wp2_with fail
      go_ret
      exact ⟨rfl, (hK2.add4 _ _ _ _ _).bel⟩
    · have HN : Hid (∀ w, Calls Try.prog 33 #[Vl v m l h] w fun e w' => e = .returned (.tuple #[Vl (nV v m l h) (nM m (nLo v m l) (nHi v m h)) (nLo v m l) (nHi v m h), .bool true]) ∧ Below w.heap.size w w') := fun w => normVal_yes hr ho w
      have Hs : Hid (normSame v m l h = (eqb (nV v m l h) v && (eqb (nM m (nLo v m l) (nHi v m h)) m && (eqb (nLo v m l) l && eqb (nHi v m h) h)))) := rfl
      rw [Hs.out] at Hv
      rw [Hv.out]
      clear Hv Hs ho hrt
      generalize nM m (nLo v m l) (nHi v m h) = rm at HN ⊢
      generalize nV v m l h = rv at HN ⊢
      generalize nLo v m l = lo at HN ⊢
      generalize nHi v m h = hi at HN ⊢
      go_enter Try.func34, Try.ntmps34
      go_wp2_with fail
      refine (right_is hr.out _).mono ?_
      rintro e w1 ⟨rfl, hb1⟩
      have hK := ((Kp.start w).add4 _ _ _ _ _).keep hb1
      obtain ⟨a0, a1, a2, a3, a4, a5, a6, a7, a8⟩ := hK.box.head.four
      go_wp2_with fail
      refine (HN.out _).mono ?_
      rintro e w2 ⟨rfl, hb2⟩
      have hK2 := hK.keep hb2
      clear a0 a1 a2 a3 a4 a5 a6 a7 a8
      obtain ⟨a0, a1, a2, a3, a4, a5, a6, a7, a8⟩ := hK2.box.head.four
      cases h1 : eqb rv v
      · go_wp2_with fail
        go_ret
        exact ⟨by rw [h1]; rfl, (hK2.add4 _ _ _ _ _).bel⟩
      cases h2 : eqb rm m
      · go_wp2_with fail
        go_ret
        exact ⟨by rw [h1, h2]; rfl, (hK2.add4 _ _ _ _ _).bel⟩
      cases h3 : eqb lo l
      · go_wp2_with fail
        go_ret
        exact ⟨by rw [h1, h2, h3]; rfl, (hK2.add4 _ _ _ _ _).bel⟩
      cases h4 : eqb hi h
      all_goals
        go_wp2_with fail
        go_ret
        exact ⟨by rw [h1, h2, h3, h4]; rfl, (hK2.add4 _ _ _ _ _).bel⟩
theorem rightV {v m l h : BitVec 64} {b : Bool} (hv : valB v m l h = b) (w : World) :
    Calls Try.prog 34 #[Vl v m l h] w fun e w' => e = .returned (.bool b) ∧ Below w.heap.size w w' := hv ▸ rightVal_any v m l h w

set_option maxHeartbeats 1000000 in
theorem valHas_any (v m l h x : BitVec 64) (w : World) :
    Calls Try.prog 38 #[Vl v m l h, U x] w fun e w' => e = .returned (.bool (hasV v m l h x)) ∧ Below w.heap.size w w' := by
  have Hh : Hid (hasV v m l h x = (valB v m l h && (hasB v m x && (decide (nv l ≤ nv x) && decide (nv x ≤ nv h))))) := rfl
  obtain ⟨b1, H1⟩ : ∃ b, Hid (valB v m l h = b) := ⟨_, rfl⟩
  obtain ⟨b2, H2⟩ : ∃ b, Hid (hasB v m x = b) := ⟨_, rfl⟩
  rw [H1.out, H2.out] at Hh
  rw [Hh.out]
  clear Hh
  go_enter Try.func38, Try.ntmps38
  go_wp2_with fail
  refine (checkV H1.out _).mono ?_
  rintro e w1 ⟨rfl, hb1⟩
  have hK := ((Kp.start w).add4 _ _ _ _ _).keep hb1
  obtain ⟨a0, a1, a2, a3, a4, a5, a6, a7, a8⟩ := hK.box.head.four
  cases b1
  · rw [er_f]
    go_wp2_with fail
    go_ret
    exact ⟨rfl, hK.bel⟩
  · rw [er_t]
    go_wp2_with fail
    refine (hasC H2.out _).mono ?_
    rintro e w2 ⟨rfl, hb2⟩
    have hK2 := hK.keep hb2
    clear a0 a1 a2 a3 a4 a5 a6 a7 a8
    obtain ⟨a0, a1, a2, a3, a4, a5, a6, a7, a8⟩ := hK2.box.head.four
    cases b2
    · go_wp2_with fail
      go_ret
      exact ⟨rfl, hK2.bel⟩
    · by_cases h1 : nv l ≤ nv x
      · go_wp2_with fail
        go_ret
        exact ⟨by simp <;> omega, hK2.bel⟩
      · have h1' : nv x < nv l := by omega
        go_wp2_with fail
        go_ret
        exact ⟨by simp <;> omega, hK2.bel⟩
set_option maxHeartbeats 1000000 in
theorem refValHas_any (v m l h x : BitVec 64) (w : World) :
    Calls Try.prog 39 #[Vl v m l h, U x] w fun e w' => e = .returned (.bool (hasV v m l h x)) ∧ Below w.heap.size w w' := by
  have Hh : Hid (hasV v m l h x = (valB v m l h && (hasB v m x && (decide (nv l ≤ nv x) && decide (nv x ≤ nv h))))) := rfl
  obtain ⟨b1, H1⟩ : ∃ b, Hid (valB v m l h = b) := ⟨_, rfl⟩
  obtain ⟨b2, H2⟩ : ∃ b, Hid (hasB v m x = b) := ⟨_, rfl⟩
  rw [H1.out, H2.out] at Hh
  rw [Hh.out]
  clear Hh
  go_enter Try.func39, Try.ntmps39
  go_wp2_with fail
  refine (rightV H1.out _).mono ?_
  rintro e w1 ⟨rfl, hb1⟩
  have hK := ((Kp.start w).add4 _ _ _ _ _).keep hb1
  obtain ⟨a0, a1, a2, a3, a4, a5, a6, a7, a8⟩ := hK.box.head.four
  cases b1
  · go_wp2_with fail
    go_ret
    exact ⟨rfl, hK.bel⟩
  · go_wp2_with fail
    refine (has_is H2.out _).mono ?_
    rintro e w2 ⟨rfl, hb2⟩
    have hK2 := hK.keep hb2
    clear a0 a1 a2 a3 a4 a5 a6 a7 a8
    obtain ⟨a0, a1, a2, a3, a4, a5, a6, a7, a8⟩ := hK2.box.head.four
    cases b2
    · go_wp2_with fail
      go_ret
      exact ⟨rfl, hK2.bel⟩
    · by_cases h1 : nv l ≤ nv x
      · go_wp2_with fail
        go_ret
        exact ⟨by simp <;> omega, hK2.bel⟩
      · have h1' : nv x < nv l := by omega
        go_wp2_with fail
        go_ret
        exact ⟨by simp <;> omega, hK2.bel⟩
set_option maxHeartbeats 1000000 in
theorem valOf_any (x : BitVec 64) (w : World) :
    Calls Try.prog 40 #[U x] w fun e w' => e = .returned (Vl x zero x x) ∧ Below w.heap.size w w' := by
  go_enter Try.func40, Try.ntmps40
  go_wp2_with fail
  exact bodyPost_ret (v := Vl x zero x x) (by simp [results, Try.results40, go_sem, nv_zero]) rfl ⟨rfl, (by repeat (first | exact Below.refl _ _ | assumption | refine below_drewN ?_ _ | refine Below.drew ?_ | refine Below.alloc ?_ (by first | exact Nat.le_refl _ | (simp; done) | (simp; omega) | omega) _ | refine Below.setCell ?_ (by first | exact Nat.le_refl _ | (simp; done) | (simp; omega) | omega) _ | refine Below.trans ?_ (Below.mono (by assumption) (by first | exact Nat.le_refl _ | (simp; done) | (simp; omega) | omega))))⟩
set_option maxHeartbeats 1000000 in
theorem refValOf_any (x : BitVec 64) (w : World) :
    Calls Try.prog 41 #[U x] w fun e w' => e = .returned (Vl x zero x x) ∧ Below w.heap.size w w' := by
  go_enter Try.func41, Try.ntmps41
  go_wp2_with fail
  exact bodyPost_ret (v := Vl x zero x x) (by simp [results, Try.results41, go_sem, nv_zero]) rfl ⟨rfl, (by repeat (first | exact Below.refl _ _ | assumption | refine below_drewN ?_ _ | refine Below.drew ?_ | refine Below.alloc ?_ (by first | exact Nat.le_refl _ | (simp; done) | (simp; omega) | omega) _ | refine Below.setCell ?_ (by first | exact Nat.le_refl _ | (simp; done) | (simp; omega) | omega) _ | refine Below.trans ?_ (Below.mono (by assumption) (by first | exact Nat.le_refl _ | (simp; done) | (simp; omega) | omega))))⟩
set_option maxHeartbeats 1000000 in
theorem valAny_any (w : World) :
    Calls Try.prog 42 #[] w fun e w' => e = .returned (Vl zero top zero top) ∧ Below w.heap.size w w' := by
  go_enter Try.func42, Try.ntmps42
  go_wp2_with fail
  exact bodyPost_ret (v := Vl zero top zero top) (by simp [results, Try.results42, go_sem, nv_zero, nv_top]) rfl ⟨rfl, (by repeat (first | exact Below.refl _ _ | assumption | refine below_drewN ?_ _ | refine Below.drew ?_ | refine Below.alloc ?_ (by first | exact Nat.le_refl _ | (simp; done) | (simp; omega) | omega) _ | refine Below.setCell ?_ (by first | exact Nat.le_refl _ | (simp; done) | (simp; omega) | omega) _ | refine Below.trans ?_ (Below.mono (by assumption) (by first | exact Nat.le_refl _ | (simp; done) | (simp; omega) | omega))))⟩
set_option maxHeartbeats 1000000 in
theorem refValAny_any (w : World) :
    Calls Try.prog 43 #[] w fun e w' => e = .returned (Vl zero top zero top) ∧ Below w.heap.size w w' := by
  go_enter Try.func43, Try.ntmps43
  go_wp2_with fail
  exact bodyPost_ret (v := Vl zero top zero top) (by simp [results, Try.results43, go_sem, nv_zero, nv_top]) rfl ⟨rfl, (by repeat (first | exact Below.refl _ _ | assumption | refine below_drewN ?_ _ | refine Below.drew ?_ | refine Below.alloc ?_ (by first | exact Nat.le_refl _ | (simp; done) | (simp; omega) | omega) _ | refine Below.setCell ?_ (by first | exact Nat.le_refl _ | (simp; done) | (simp; omega) | omega) _ | refine Below.trans ?_ (Below.mono (by assumption) (by first | exact Nat.le_refl _ | (simp; done) | (simp; omega) | omega))))⟩

end Go.Proofs.Ytkigmocchaikgaa

/- The contracts of package val's Inside and Join, and of the reference's InsideVal. -/
namespace Go.Proofs.Ytkigmocchaikgaa
open Go.RowKit
attribute [local go_sem] w_and w_or w_xor w_andNot w_and1 w_and63 w_add w_sub w_mul w_sub1 w_add1 w_shl w_shl1 w_shr c_beq c_bne c_beq0 c_bne0 c_beq1 c_bne1 wrap_nv

theorem insideBits_any (av am bv bm : BitVec 64) (w : World) :
    Calls Try.prog 27 #[Bt av am, Bt bv bm] w fun e w' => e = .returned (.bool (insB av am bv bm)) ∧ Below w.heap.size w w' := by
  cases hr : (eqb (band av am) zero && eqb (band bv bm) zero)
  · have e : insB av am bv bm = false := by unfold insB; rw [hr]; rfl
    rw [e]; exact insideBits_wrong av am bv bm hr w
  · have hi := inside_eq hr
    rw [Bool.and_eq_true] at hr
    rcases first_no (insOk av am bv bm) 64 with h | ⟨j, hj, hno, hok⟩
    · rw [hi.2 h]; exact insideBits_yes av am bv bm hr.1 hr.2 h w
    · have e : insB av am bv bm = false := by
        cases hx : insB av am bv bm
        · rfl
        · rw [hi.1 hx j hj] at hno; cases hno
      rw [e]; exact insideBits_no av am bv bm hr.1 hr.2 j hj hno hok w
theorem insR {av am bv bm : BitVec 64} {b : Bool} (h : insB av am bv bm = b) (w : World) :
    Calls Try.prog 27 #[Bt av am, Bt bv bm] w fun e w' => e = .returned (.bool b) ∧ Below w.heap.size w w' := h ▸ insideBits_any av am bv bm w

set_option maxHeartbeats 1000000 in
theorem valInside_any (v m l h v' m' l' h' : BitVec 64) (w : World) :
    Calls Try.prog 44 #[Vl v m l h, Vl v' m' l' h'] w fun e w' => e = .returned (.bool (insV v m l h v' m' l' h')) ∧ Below w.heap.size w w' := by
  have Hh : Hid (insV v m l h v' m' l' h' = (valB v m l h && (valB v' m' l' h' && (insB v m v' m' && (decide (nv l' ≤ nv l) && decide (nv h ≤ nv h')))))) := rfl
  obtain ⟨z1, H1⟩ : ∃ b, Hid (valB v m l h = b) := ⟨_, rfl⟩
  obtain ⟨z2, H2⟩ : ∃ b, Hid (valB v' m' l' h' = b) := ⟨_, rfl⟩
  obtain ⟨z3, H3⟩ : ∃ b, Hid (insB v m v' m' = b) := ⟨_, rfl⟩
  rw [H1.out, H2.out, H3.out] at Hh
  rw [Hh.out]
  clear Hh
  go_enter Try.func44, Try.ntmps44
  go_wp2_with fail
  refine (checkV H1.out _).mono ?_
  rintro e w1 ⟨rfl, hb1⟩
  have hK := (((Kp.start w).add4 _ _ _ _ _).add4 _ _ _ _ _).keep hb1
  simp only [World.size_alloc] at hK
  obtain ⟨b0, b1, b2, b3, b4, b5, b6, b7, b8⟩ := hK.box.head.four
  obtain ⟨a0, a1, a2, a3, a4, a5, a6, a7, a8⟩ := hK.box.tail.head.four
  cases z1
  · rw [er_f]
    go_wp2_with fail
    go_ret
    exact ⟨rfl, hK.bel⟩
  · rw [er_t]
    go_wp2_with fail
    refine (checkV H2.out _).mono ?_
    rintro e w2 ⟨rfl, hb2⟩
    have hK2 := hK.keep hb2
    clear b0 b1 b2 b3 b4 b5 b6 b7 b8 a0 a1 a2 a3 a4 a5 a6 a7 a8
    obtain ⟨b0, b1, b2, b3, b4, b5, b6, b7, b8⟩ := hK2.box.head.four
    obtain ⟨a0, a1, a2, a3, a4, a5, a6, a7, a8⟩ := hK2.box.tail.head.four
    cases z2
    · rw [er_f]
      go_wp2_with fail
      go_ret
      exact ⟨rfl, hK2.bel⟩
    · rw [er_t]
      go_wp2_with fail
      refine (insC H3.out _).mono ?_
      rintro e w3 ⟨rfl, hb3⟩
      have hK3 := hK2.keep hb3
      clear b0 b1 b2 b3 b4 b5 b6 b7 b8 a0 a1 a2 a3 a4 a5 a6 a7 a8
      obtain ⟨b0, b1, b2, b3, b4, b5, b6, b7, b8⟩ := hK3.box.head.four
      obtain ⟨a0, a1, a2, a3, a4, a5, a6, a7, a8⟩ := hK3.box.tail.head.four
      cases z3
      · go_wp2_with fail
        go_ret
        exact ⟨rfl, hK3.bel⟩
      · by_cases h1 : nv l' ≤ nv l
        · go_wp2_with fail
          go_ret
          exact ⟨by simp <;> omega, hK3.bel⟩
        · have h1' : nv l < nv l' := by omega
          go_wp2_with fail
          go_ret
          exact ⟨by simp <;> omega, hK3.bel⟩
set_option maxHeartbeats 1000000 in
theorem insideVal_any (v m l h v' m' l' h' : BitVec 64) (w : World) :
    Calls Try.prog 45 #[Vl v m l h, Vl v' m' l' h'] w fun e w' => e = .returned (.bool (insV v m l h v' m' l' h')) ∧ Below w.heap.size w w' := by
  have Hh : Hid (insV v m l h v' m' l' h' = (valB v m l h && (valB v' m' l' h' && (insB v m v' m' && (decide (nv l' ≤ nv l) && decide (nv h ≤ nv h')))))) := rfl
  obtain ⟨z1, H1⟩ : ∃ b, Hid (valB v m l h = b) := ⟨_, rfl⟩
  obtain ⟨z2, H2⟩ : ∃ b, Hid (valB v' m' l' h' = b) := ⟨_, rfl⟩
  obtain ⟨z3, H3⟩ : ∃ b, Hid (insB v m v' m' = b) := ⟨_, rfl⟩
  rw [H1.out, H2.out, H3.out] at Hh
  rw [Hh.out]
  clear Hh
  go_enter Try.func45, Try.ntmps45
  go_wp2_with fail
  refine (rightV H1.out _).mono ?_
  rintro e w1 ⟨rfl, hb1⟩
  have hK := (((Kp.start w).add4 _ _ _ _ _).add4 _ _ _ _ _).keep hb1
  simp only [World.size_alloc] at hK
  obtain ⟨b0, b1, b2, b3, b4, b5, b6, b7, b8⟩ := hK.box.head.four
  obtain ⟨a0, a1, a2, a3, a4, a5, a6, a7, a8⟩ := hK.box.tail.head.four
  cases z1
  · go_wp2_with fail
    go_ret
    exact ⟨rfl, hK.bel⟩
  · go_wp2_with fail
    refine (rightV H2.out _).mono ?_
    rintro e w2 ⟨rfl, hb2⟩
    have hK2 := hK.keep hb2
    clear b0 b1 b2 b3 b4 b5 b6 b7 b8 a0 a1 a2 a3 a4 a5 a6 a7 a8
    obtain ⟨b0, b1, b2, b3, b4, b5, b6, b7, b8⟩ := hK2.box.head.four
    obtain ⟨a0, a1, a2, a3, a4, a5, a6, a7, a8⟩ := hK2.box.tail.head.four
    cases z2
    · go_wp2_with fail
      go_ret
      exact ⟨rfl, hK2.bel⟩
    · go_wp2_with fail
      refine (insR H3.out _).mono ?_
      rintro e w3 ⟨rfl, hb3⟩
      have hK3 := hK2.keep hb3
      clear b0 b1 b2 b3 b4 b5 b6 b7 b8 a0 a1 a2 a3 a4 a5 a6 a7 a8
      obtain ⟨b0, b1, b2, b3, b4, b5, b6, b7, b8⟩ := hK3.box.head.four
      obtain ⟨a0, a1, a2, a3, a4, a5, a6, a7, a8⟩ := hK3.box.tail.head.four
      cases z3
      · go_wp2_with fail
        go_ret
        exact ⟨rfl, hK3.bel⟩
      · by_cases h1 : nv l' ≤ nv l
        · go_wp2_with fail
          go_ret
          exact ⟨by simp <;> omega, hK3.bel⟩
        · have h1' : nv l < nv l' := by omega
          go_wp2_with fail
          go_ret
          exact ⟨by simp <;> omega, hK3.bel⟩

end Go.Proofs.Ytkigmocchaikgaa

/- The lesser and the greater of two; Join of two right ones: plain facts. -/
namespace Go.Proofs.Ytkigmocchaikgaa

theorem w_min (x y : BitVec 64) : min (nv x) (nv y) = nv (bmin x y) := by
  unfold bmin; split <;> omega
theorem w_max (x y : BitVec 64) : max (nv x) (nv y) = nv (bmax x y) := by
  unfold bmax; split <;> omega
theorem bmin_le (x y : BitVec 64) : nv (bmin x y) ≤ nv x ∧ nv (bmin x y) ≤ nv y := by rw [← w_min]; omega
theorem le_bmax (x y : BitVec 64) : nv x ≤ nv (bmax x y) ∧ nv y ≤ nv (bmax x y) := by rw [← w_max]; omega
theorem le_bmin {x y z : BitVec 64} (h1 : nv z ≤ nv x) (h2 : nv z ≤ nv y) : nv z ≤ nv (bmin x y) := by rw [← w_min]; omega
theorem bmax_le {x y z : BitVec 64} (h1 : nv x ≤ nv z) (h2 : nv y ≤ nv z) : nv (bmax x y) ≤ nv z := by rw [← w_max]; omega

def jV (av am bv bm : BitVec 64) : BitVec 64 := bandn av (jM av am bv bm)
theorem join_rt (av am bv bm : BitVec 64) : RtB (jV av am bv bm) (jM av am bv bm) := by
  intro j
  unfold jV
  by_cases hj : j < 64
  · rw [bit_andn _ _ _ hj]; cases bit av j <;> cases bit (jM av am bv bm) j <;> rfl
  · rw [bit_big _ _ (by omega)]; rfl
theorem join_ins {av am bv bm : BitVec 64} (ha : RtB av am) (hb : RtB bv bm) : insB av am (jV av am bv bm) (jM av am bv bm) = true ∧ insB bv bm (jV av am bv bm) (jM av am bv bm) = true :=
  ⟨ins_of_all ha (join_rt _ _ _ _) fun x hx => sound_join ha hb (by rw [hx]; rfl), ins_of_all hb (join_rt _ _ _ _) fun x hx => sound_join ha hb (by rw [hx]; cases hasB av am x <;> rfl)⟩
theorem insV_has {v m l h v' m' l' h' x : BitVec 64} (hi : insV v m l h v' m' l' h' = true) (hx : hasV v m l h x = true) : hasV v' m' l' h' x = true := by
  unfold insV at hi
  unfold hasV at hx ⊢
  simp only [Bool.and_eq_true, decide_eq_true_eq] at hi hx ⊢
  exact ⟨hi.2.1, ins_all hi.2.2.1 _ hx.2.1, by omega, by omega⟩
theorem join_facts {v m l h v' m' l' h' : BitVec 64} (hv : valB v m l h = true) (hw : valB v' m' l' h' = true) :
    normOk (jV v m v' m') (jM v m v' m') (bmin l l') (bmax h h') = true
    ∧ insV v m l h (nV (jV v m v' m') (jM v m v' m') (bmin l l') (bmax h h')) (nM (jM v m v' m') (nLo (jV v m v' m') (jM v m v' m') (bmin l l')) (nHi (jV v m v' m') (jM v m v' m') (bmax h h'))) (nLo (jV v m v' m') (jM v m v' m') (bmin l l')) (nHi (jV v m v' m') (jM v m v' m') (bmax h h')) = true
    ∧ insV v' m' l' h' (nV (jV v m v' m') (jM v m v' m') (bmin l l') (bmax h h')) (nM (jM v m v' m') (nLo (jV v m v' m') (jM v m v' m') (bmin l l')) (nHi (jV v m v' m') (jM v m v' m') (bmax h h'))) (nLo (jV v m v' m') (jM v m v' m') (bmin l l')) (nHi (jV v m v' m') (jM v m v' m') (bmax h h')) = true := by
  have ha := (val_facts hv).1
  have hb := (val_facts hw).1
  have h1 := inside_norm hv (join_rt v m v' m') (join_ins ha hb).1 (bmin_le l l').1 (le_bmax h h').1
  have h2 := inside_norm hw (join_rt v m v' m') (join_ins ha hb).2 (bmin_le l l').2 (le_bmax h h').2
  exact ⟨h1.1, h1.2, h2.2⟩

end Go.Proofs.Ytkigmocchaikgaa

/- The contract of package val's Join. -/
namespace Go.Proofs.Ytkigmocchaikgaa
open Go.RowKit
attribute [local go_sem] w_and w_or w_xor w_andNot w_and1 w_and63 w_add w_sub w_mul w_sub1 w_add1 w_shl w_shl1 w_shr c_beq c_bne c_beq0 c_bne0 c_beq1 c_bne1 wrap_nv

set_option maxHeartbeats 1000000 in
theorem valJoin_no {v m l h v' m' l' h' : BitVec 64} (hr : Hid ((valB v m l h && valB v' m' l' h') = false)) (w : World) :
    Calls Try.prog 32 #[Vl v m l h, Vl v' m' l' h'] w fun e w' => e = .returned (.tuple #[V0, N 1]) ∧ Below w.heap.size w w' := by
  obtain ⟨z1, H1⟩ : ∃ b, Hid (valB v m l h = b) := ⟨_, rfl⟩
  obtain ⟨z2, H2⟩ : ∃ b, Hid (valB v' m' l' h' = b) := ⟨_, rfl⟩
  rw [H1.out, H2.out] at hr
  go_enter Try.func32, Try.ntmps32
  go_wp2_with fail
  refine (checkV H1.out _).mono ?_
  rintro e w1 ⟨rfl, hb1⟩
  have hK := ((((Kp.start w).add4 _ _ _ _ _).add4 _ _ _ _ _).add4 _ _ _ _ _).keep hb1
  simp only [World.size_alloc] at hK
  obtain ⟨r0, r1, r2, r3, r4, r5, r6, r7, r8⟩ := hK.box.head.four
  obtain ⟨b0, b1, b2, b3, b4, b5, b6, b7, b8⟩ := hK.box.tail.head.four
  obtain ⟨a0, a1, a2, a3, a4, a5, a6, a7, a8⟩ := hK.box.tail.tail.head.four
  cases z1
  · rw [er_f]
    go_wp2_with fail
    exact bodyPost_ret (v := .tuple #[V0, N 1]) (by simp [results, Try.results32, go_sem, nv_zero, r0, r1, r2, r3]) rfl ⟨rfl, (hK.set4 0 rfl).bel⟩
  · obtain rfl : z2 = false := hr.out
    rw [er_t]
    go_wp2_with fail
    refine (checkV H2.out _).mono ?_
    rintro e w2 ⟨rfl, hb2⟩
    have hK2 := hK.keep hb2
    clear r0 r1 r2 r3 r4 r5 r6 r7 r8 b0 b1 b2 b3 b4 b5 b6 b7 b8 a0 a1 a2 a3 a4 a5 a6 a7 a8
    obtain ⟨r0, r1, r2, r3, r4, r5, r6, r7, r8⟩ := hK2.box.head.four
    obtain ⟨b0, b1, b2, b3, b4, b5, b6, b7, b8⟩ := hK2.box.tail.head.four
    obtain ⟨a0, a1, a2, a3, a4, a5, a6, a7, a8⟩ := hK2.box.tail.tail.head.four
    rw [er_f]
    go_wp2_with fail
    exact bodyPost_ret (v := .tuple #[V0, N 1]) (by simp [results, Try.results32, go_sem, nv_zero, r0, r1, r2, r3]) rfl ⟨rfl, (hK2.set4 0 rfl).bel⟩
set_option maxHeartbeats 2000000 in
theorem valJoin_yes {v m l h v' m' l' h' : BitVec 64} (hr : Hid ((valB v m l h && valB v' m' l' h') = true)) (w : World) :
    Calls Try.prog 32 #[Vl v m l h, Vl v' m' l' h'] w fun e w' => e = .returned (.tuple #[Vl (nV (jV v m v' m') (jM v m v' m') (bmin l l') (bmax h h')) (nM (jM v m v' m') (nLo (jV v m v' m') (jM v m v' m') (bmin l l')) (nHi (jV v m v' m') (jM v m v' m') (bmax h h'))) (nLo (jV v m v' m') (jM v m v' m') (bmin l l')) (nHi (jV v m v' m') (jM v m v' m') (bmax h h')), N 0]) ∧ Below w.heap.size w w' := by
  have hr' := hr.out
  rw [Bool.and_eq_true] at hr'
  have H1 : Hid (valB v m l h = true) := hr'.1
  have H2 : Hid (valB v' m' l' h' = true) := hr'.2
  have hf := join_facts hr'.1 hr'.2
  have ha := (val_facts hr'.1).1
  have hb := (val_facts hr'.2).1
  have HJ : Hid (∀ w, Calls Try.prog 13 #[Bt v m, Bt v' m'] w fun e w' => e = .returned (.tuple #[Bt (jV v m v' m') (jM v m v' m'), N 0]) ∧ Below w.heap.size w w') := fun w => join_ok (both_right ha hb) w
  have HN : Hid (∀ w, Calls Try.prog 31 #[Vl (jV v m v' m') (jM v m v' m') (bmin l l') (bmax h h')] w fun e w' => e = .returned (.tuple #[Vl (nV (jV v m v' m') (jM v m v' m') (bmin l l') (bmax h h')) (nM (jM v m v' m') (nLo (jV v m v' m') (jM v m v' m') (bmin l l')) (nHi (jV v m v' m') (jM v m v' m') (bmax h h'))) (nLo (jV v m v' m') (jM v m v' m') (bmin l l')) (nHi (jV v m v' m') (jM v m v' m') (bmax h h')), .bool true, N 0]) ∧ Below w.heap.size w w') := fun w =>
    norm_yes ((rt_iff _ _).2 (join_rt v m v' m')) hf.1 w
  clear hf ha hb hr hr'
  generalize nV (jV v m v' m') (jM v m v' m') (bmin l l') (bmax h h') = rv at HN ⊢
  generalize nM (jM v m v' m') (nLo (jV v m v' m') (jM v m v' m') (bmin l l')) (nHi (jV v m v' m') (jM v m v' m') (bmax h h')) = rm at HN ⊢
  generalize nLo (jV v m v' m') (jM v m v' m') (bmin l l') = lo at HN ⊢
  generalize nHi (jV v m v' m') (jM v m v' m') (bmax h h') = hi at HN ⊢
  generalize jV v m v' m' = jv at HN HJ
  generalize jM v m v' m' = jm at HN HJ
  go_enter Try.func32, Try.ntmps32
  go_wp2_with fail
  refine (checkV H1.out _).mono ?_
  rintro e w1 ⟨rfl, hb1⟩
  have hK := ((((Kp.start w).add4 _ _ _ _ _).add4 _ _ _ _ _).add4 _ _ _ _ _).keep hb1
  simp only [World.size_alloc] at hK
  obtain ⟨r0, r1, r2, r3, r4, r5, r6, r7, r8⟩ := hK.box.head.four
  obtain ⟨b0, b1, b2, b3, b4, b5, b6, b7, b8⟩ := hK.box.tail.head.four
  obtain ⟨a0, a1, a2, a3, a4, a5, a6, a7, a8⟩ := hK.box.tail.tail.head.four
  rw [er_t]
  go_wp2_with fail
  refine (checkV H2.out _).mono ?_
  rintro e w2 ⟨rfl, hb2⟩
  have hK2 := hK.keep hb2
  clear r0 r1 r2 r3 r4 r5 r6 r7 r8 b0 b1 b2 b3 b4 b5 b6 b7 b8 a0 a1 a2 a3 a4 a5 a6 a7 a8
  obtain ⟨r0, r1, r2, r3, r4, r5, r6, r7, r8⟩ := hK2.box.head.four
  obtain ⟨b0, b1, b2, b3, b4, b5, b6, b7, b8⟩ := hK2.box.tail.head.four
  obtain ⟨a0, a1, a2, a3, a4, a5, a6, a7, a8⟩ := hK2.box.tail.tail.head.four
  rw [er_t]
  go_wp2_with fail
  refine (HJ.out _).mono ?_
  rintro e w3 ⟨rfl, hb3⟩
  have hK3 := hK2.keep hb3
  clear r0 r1 r2 r3 r4 r5 r6 r7 r8 b0 b1 b2 b3 b4 b5 b6 b7 b8 a0 a1 a2 a3 a4 a5 a6 a7 a8
  obtain ⟨r0, r1, r2, r3, r4, r5, r6, r7, r8⟩ := hK3.box.head.four
  obtain ⟨b0, b1, b2, b3, b4, b5, b6, b7, b8⟩ := hK3.box.tail.head.four
  obtain ⟨a0, a1, a2, a3, a4, a5, a6, a7, a8⟩ := hK3.box.tail.tail.head.four
  by_cases h1 : nv l' < nv l <;> by_cases h2 : nv h < nv h'
  · have e1 : bmin l l' = l' := if_pos h1
    have e2 : bmax h h' = h' := if_pos h2
    rw [e1, e2] at HN
    clear e1 e2
    go_wp2_with fail
    refine (HN.out _).mono ?_
    rintro e w4 ⟨rfl, hb4⟩
    have hK4 := (hK3.add2 _ _ _).keep hb4
    clear r0 r1 r2 r3 r4 r5 r6 r7 r8 b0 b1 b2 b3 b4 b5 b6 b7 b8 a0 a1 a2 a3 a4 a5 a6 a7 a8
    obtain ⟨j0, j1, j2, j3, j4⟩ := hK4.box.head.two
    obtain ⟨r0, r1, r2, r3, r4, r5, r6, r7, r8⟩ := hK4.box.tail.head.four
    obtain ⟨b0, b1, b2, b3, b4, b5, b6, b7, b8⟩ := hK4.box.tail.tail.head.four
    obtain ⟨a0, a1, a2, a3, a4, a5, a6, a7, a8⟩ := hK4.box.tail.tail.tail.head.four
    go_wp2_with fail
    exact bodyPost_ret (v := .tuple #[Vl rv rm lo hi, N 0]) (by simp [results, Try.results32, go_sem, r0, r1, r2, r3, r8]) rfl ⟨rfl, ((hK4.set4 1 rfl).add4 _ _ _ _ _).bel⟩
  · have e1 : bmin l l' = l' := if_pos h1
    have e2 : bmax h h' = h := if_neg h2
    rw [e1, e2] at HN
    clear e1 e2
    have h2' : nv h' ≤ nv h := by omega
    clear h2
    go_wp2_with fail
    refine (HN.out _).mono ?_
    rintro e w4 ⟨rfl, hb4⟩
    have hK4 := (hK3.add2 _ _ _).keep hb4
    clear r0 r1 r2 r3 r4 r5 r6 r7 r8 b0 b1 b2 b3 b4 b5 b6 b7 b8 a0 a1 a2 a3 a4 a5 a6 a7 a8
    obtain ⟨j0, j1, j2, j3, j4⟩ := hK4.box.head.two
    obtain ⟨r0, r1, r2, r3, r4, r5, r6, r7, r8⟩ := hK4.box.tail.head.four
    obtain ⟨b0, b1, b2, b3, b4, b5, b6, b7, b8⟩ := hK4.box.tail.tail.head.four
    obtain ⟨a0, a1, a2, a3, a4, a5, a6, a7, a8⟩ := hK4.box.tail.tail.tail.head.four
    go_wp2_with fail
    exact bodyPost_ret (v := .tuple #[Vl rv rm lo hi, N 0]) (by simp [results, Try.results32, go_sem, r0, r1, r2, r3, r8]) rfl ⟨rfl, ((hK4.set4 1 rfl).add4 _ _ _ _ _).bel⟩
  · have e1 : bmin l l' = l := if_neg h1
    have e2 : bmax h h' = h' := if_pos h2
    rw [e1, e2] at HN
    clear e1 e2
    have h1' : nv l ≤ nv l' := by omega
    clear h1
    go_wp2_with fail
    refine (HN.out _).mono ?_
    rintro e w4 ⟨rfl, hb4⟩
    have hK4 := (hK3.add2 _ _ _).keep hb4
    clear r0 r1 r2 r3 r4 r5 r6 r7 r8 b0 b1 b2 b3 b4 b5 b6 b7 b8 a0 a1 a2 a3 a4 a5 a6 a7 a8
    obtain ⟨j0, j1, j2, j3, j4⟩ := hK4.box.head.two
    obtain ⟨r0, r1, r2, r3, r4, r5, r6, r7, r8⟩ := hK4.box.tail.head.four
    obtain ⟨b0, b1, b2, b3, b4, b5, b6, b7, b8⟩ := hK4.box.tail.tail.head.four
    obtain ⟨a0, a1, a2, a3, a4, a5, a6, a7, a8⟩ := hK4.box.tail.tail.tail.head.four
    go_wp2_with fail
    exact bodyPost_ret (v := .tuple #[Vl rv rm lo hi, N 0]) (by simp [results, Try.results32, go_sem, r0, r1, r2, r3, r8]) rfl ⟨rfl, ((hK4.set4 1 rfl).add4 _ _ _ _ _).bel⟩
  · have e1 : bmin l l' = l := if_neg h1
    have e2 : bmax h h' = h := if_neg h2
    rw [e1, e2] at HN
    clear e1 e2
    have h1' : nv l ≤ nv l' := by omega
    clear h1
    have h2' : nv h' ≤ nv h := by omega
    clear h2
    go_wp2_with fail
    refine (HN.out _).mono ?_
    rintro e w4 ⟨rfl, hb4⟩
    have hK4 := (hK3.add2 _ _ _).keep hb4
    clear r0 r1 r2 r3 r4 r5 r6 r7 r8 b0 b1 b2 b3 b4 b5 b6 b7 b8 a0 a1 a2 a3 a4 a5 a6 a7 a8
    obtain ⟨j0, j1, j2, j3, j4⟩ := hK4.box.head.two
    obtain ⟨r0, r1, r2, r3, r4, r5, r6, r7, r8⟩ := hK4.box.tail.head.four
    obtain ⟨b0, b1, b2, b3, b4, b5, b6, b7, b8⟩ := hK4.box.tail.tail.head.four
    obtain ⟨a0, a1, a2, a3, a4, a5, a6, a7, a8⟩ := hK4.box.tail.tail.tail.head.four
    go_wp2_with fail
    exact bodyPost_ret (v := .tuple #[Vl rv rm lo hi, N 0]) (by simp [results, Try.results32, go_sem, r0, r1, r2, r3, r8]) rfl ⟨rfl, ((hK4.set4 1 rfl).add4 _ _ _ _ _).bel⟩

end Go.Proofs.Ytkigmocchaikgaa

/- valBegun: what must be in any case. -/
namespace Go.Proofs.Ytkigmocchaikgaa
open Go.RowKit Go.BigFrame
attribute [local go_sem] w_and w_or w_xor w_andNot w_and1 w_and63 w_add w_sub w_mul w_sub1 w_add1 w_shl w_shl1 w_shr c_beq c_bne c_beq0 c_bne0 c_beq1 c_bne1 wrap_nv

abbrev J4 (a b c d : Int) : Value := .agg #[I a, I b, I c, I d]
theorem vb1 : normOk 1#64 18446744073709551614#64 2#64 10#64 = true := by decide +kernel
theorem vb2 : nLo 1#64 18446744073709551614#64 2#64 = 3#64 ∧ nHi 1#64 18446744073709551614#64 10#64 = 9#64 := by decide +kernel
theorem vb3 : nV 1#64 18446744073709551614#64 2#64 10#64 = 1#64 ∧ nM 18446744073709551614#64 3#64 9#64 = 14#64 := by decide +kernel
theorem vb4 : normOk 8#64 0#64 1#64 7#64 = false := by decide +kernel
theorem vb5 : (valB 4#64 0#64 4#64 4#64 && valB 1#64 14#64 3#64 9#64) = true := by decide +kernel
theorem vb6 : jV 4#64 0#64 1#64 14#64 = 0#64 ∧ jM 4#64 0#64 1#64 14#64 = 15#64 ∧ bmin 4#64 3#64 = 3#64 ∧ bmax 4#64 9#64 = 9#64 := by decide +kernel
theorem vb7 : nLo 0#64 15#64 3#64 = 3#64 ∧ nHi 0#64 15#64 9#64 = 9#64 ∧ nV 0#64 15#64 3#64 9#64 = 0#64 ∧ nM 15#64 3#64 9#64 = 15#64 := by decide +kernel
theorem vc1 (w : World) : Calls Try.prog 31 #[J4 1 18446744073709551614 2 10] w fun e w' => e = .returned (.tuple #[J4 1 14 3 9, .bool true, N 0]) ∧ Below w.heap.size w w' := by
  have h := norm_yes (v := 1#64) (m := 18446744073709551614#64) (l := 2#64) (h := 10#64) (show _ = true by decide) vb1 w
  rw [vb2.1, vb2.2, vb3.1, vb3.2] at h; exact h
theorem vc2 (w : World) : Calls Try.prog 31 #[J4 8 0 1 7] w fun e w' => e = .returned (.tuple #[J4 0 0 0 0, .bool false, N 0]) ∧ Below w.heap.size w w' := by
  exact norm_none (v := 8#64) (m := 0#64) (l := 1#64) (h := 7#64) (show _ = true by decide) vb4 w
theorem vc3 (w : World) : Calls Try.prog 40 #[I 4] w fun e w' => e = .returned (J4 4 0 4 4) ∧ Below w.heap.size w w' := valOf_any 4#64 w
set_option maxHeartbeats 400000 in
theorem odd_any (w : World) : Calls Try.prog 86 #[] w fun e w' => e = .returned (J4 1 14 3 9) ∧ Below w.heap.size w w' := by
  go_enter Try.func86, Try.ntmps86
  go_wp2_with fail
  exact bodyPost_ret (v := J4 1 14 3 9) (by simp [results, Try.results86, go_sem]) rfl ⟨rfl, (by repeat (first | exact Below.refl _ _ | assumption | refine below_drewN ?_ _ | refine Below.drew ?_ | refine Below.alloc ?_ (by first | exact Nat.le_refl _ | (simp; done) | (simp; omega) | omega) _ | refine Below.setCell ?_ (by first | exact Nat.le_refl _ | (simp; done) | (simp; omega) | omega) _ | refine Below.trans ?_ (Below.mono (by assumption) (by first | exact Nat.le_refl _ | (simp; done) | (simp; omega) | omega))))⟩
theorem vc5 (w : World) : Calls Try.prog 32 #[J4 4 0 4 4, J4 1 14 3 9] w fun e w' => e = .returned (.tuple #[J4 0 15 3 9, N 0]) ∧ Below w.heap.size w w' := by
  have h := valJoin_yes (v := 4#64) (m := 0#64) (l := 4#64) (h := 4#64) (v' := 1#64) (m' := 14#64) (l' := 3#64) (h' := 9#64) vb5 w
  rw [vb6.1, vb6.2.1, vb6.2.2.1, vb6.2.2.2, vb7.1, vb7.2.1, vb7.2.2.1, vb7.2.2.2] at h; exact h
theorem vc6 (w : World) : Calls Try.prog 38 #[J4 1 14 3 9, I 5] w fun e w' => e = .returned (.bool true) ∧ Below w.heap.size w w' := by
  have h := valHas_any 1#64 14#64 3#64 9#64 5#64 w
  rw [show hasV 1#64 14#64 3#64 9#64 5#64 = true by decide +kernel] at h; exact h
theorem vc7 (w : World) : Calls Try.prog 38 #[J4 1 14 3 9, I 4] w fun e w' => e = .returned (.bool false) ∧ Below w.heap.size w w' := by
  have h := valHas_any 1#64 14#64 3#64 9#64 4#64 w
  rw [show hasV 1#64 14#64 3#64 9#64 4#64 = false by decide +kernel] at h; exact h
theorem vc8 (w : World) : Calls Try.prog 38 #[J4 1 14 3 9, I 11] w fun e w' => e = .returned (.bool false) ∧ Below w.heap.size w w' := by
  have h := valHas_any 1#64 14#64 3#64 9#64 11#64 w
  rw [show hasV 1#64 14#64 3#64 9#64 11#64 = false by decide +kernel] at h; exact h
theorem vc9 (w : World) : Calls Try.prog 42 #[] w fun e w' => e = .returned (J4 0 18446744073709551615 0 18446744073709551615) ∧ Below w.heap.size w w' := by
  have h := valAny_any w
  exact h
theorem vc10 (w : World) : Calls Try.prog 44 #[J4 1 14 3 9, J4 0 18446744073709551615 0 18446744073709551615] w fun e w' => e = .returned (.bool true) ∧ Below w.heap.size w w' := by
  have h := valInside_any 1#64 14#64 3#64 9#64 zero top zero top w
  rw [show insV 1#64 14#64 3#64 9#64 zero top zero top = true by decide +kernel] at h; exact h
theorem vc11 (w : World) : Calls Try.prog 37 #[J4 0 0 1 0] w fun e w' => e = .returned (N 1) ∧ Below w.heap.size w w' := by
  have h := valCheck_any 0#64 0#64 1#64 0#64 w
  rw [show valB 0#64 0#64 1#64 0#64 = false by decide +kernel] at h; exact h

set_option maxRecDepth 100000 in
set_option maxHeartbeats 4000000 in
theorem valBegun_any (w : World) : Calls Try.prog 36 #[] w fun e w' => e = .returned (.bool true) ∧ Below w.heap.size w w' := by
  go_enter Try.func36, Try.ntmps36
  go_wp2_with fail
  refine (vc1 _).mono ?_
  rintro e w1 ⟨rfl, hb1⟩
  go_wp2_with fail
  refine (vc2 _).mono ?_
  rintro e w2 ⟨rfl, hb2⟩
  have hB2 := (((Kp.start w).keep hb1).add4 _ _ _ _ _).keep hb2
  go_wp2_with fail
  refine (vc3 _).mono ?_
  rintro e w3 ⟨rfl, hb3⟩
  have hB3 := (hB2.add4 _ _ _ _ _).keep hb3
  go_wp2_with fail
  refine (odd_any _).mono ?_
  rintro e w4 ⟨rfl, hb4⟩
  have hB4 := hB3.keep hb4
  go_wp2_with fail
  refine (vc5 _).mono ?_
  rintro e w5 ⟨rfl, hb5⟩
  have hB5 := hB4.keep hb5
  have hB6 := hB5.add4 (I 0) (I 15) (I 3) (I 9) 49
  go_upto_region 4 with fail
  clear hb1 hb2 hb3 hb4 hb5 hB2 hB3 hB4 hB5
  refine region_class (fun w' => ∃ n : Cl w [(w5.heap.size, [I 0, I 15, I 3, I 9]), (w2.heap.size, [I 0, I 0, I 0, I 0]), (w1.heap.size, [I 1, I 14, I 3, I 9])], w' = n.val) (by kernel_rfl) (by kernel_rfl) (Cl.start hB6) ?_
  haveI : Nonempty (Cl w [(w5.heap.size, [I 0, I 15, I 3, I 9]), (w2.heap.size, [I 0, I 0, I 0, I 0]), (w1.heap.size, [I 1, I 14, I 3, I 9])]) := Cl.some hB6
  have hq0x0 : ∀ n : Cl w [(w5.heap.size, [I 0, I 15, I 3, I 9]), (w2.heap.size, [I 0, I 0, I 0, I 0]), (w1.heap.size, [I 1, I 14, I 3, I 9])], n.val.cell? ⟨w5.heap.size, 0, none⟩ = some (I 0) := fun n => (n.kp.box.head.four).1
  have hq0x1 : ∀ n : Cl w [(w5.heap.size, [I 0, I 15, I 3, I 9]), (w2.heap.size, [I 0, I 0, I 0, I 0]), (w1.heap.size, [I 1, I 14, I 3, I 9])], n.val.cell? ⟨w5.heap.size, 1, none⟩ = some (I 15) := fun n => (n.kp.box.head.four).2.1
  have hq0x2 : ∀ n : Cl w [(w5.heap.size, [I 0, I 15, I 3, I 9]), (w2.heap.size, [I 0, I 0, I 0, I 0]), (w1.heap.size, [I 1, I 14, I 3, I 9])], n.val.cell? ⟨w5.heap.size, 2, none⟩ = some (I 3) := fun n => (n.kp.box.head.four).2.2.1
  have hq0x3 : ∀ n : Cl w [(w5.heap.size, [I 0, I 15, I 3, I 9]), (w2.heap.size, [I 0, I 0, I 0, I 0]), (w1.heap.size, [I 1, I 14, I 3, I 9])], n.val.cell? ⟨w5.heap.size, 3, none⟩ = some (I 9) := fun n => (n.kp.box.head.four).2.2.2.1
  have hq2x0 : ∀ n : Cl w [(w5.heap.size, [I 0, I 15, I 3, I 9]), (w2.heap.size, [I 0, I 0, I 0, I 0]), (w1.heap.size, [I 1, I 14, I 3, I 9])], n.val.cell? ⟨w1.heap.size, 0, none⟩ = some (I 1) := fun n => (n.kp.box.tail.tail.head.four).1
  have hq2x1 : ∀ n : Cl w [(w5.heap.size, [I 0, I 15, I 3, I 9]), (w2.heap.size, [I 0, I 0, I 0, I 0]), (w1.heap.size, [I 1, I 14, I 3, I 9])], n.val.cell? ⟨w1.heap.size, 1, none⟩ = some (I 14) := fun n => (n.kp.box.tail.tail.head.four).2.1
  have hq2x2 : ∀ n : Cl w [(w5.heap.size, [I 0, I 15, I 3, I 9]), (w2.heap.size, [I 0, I 0, I 0, I 0]), (w1.heap.size, [I 1, I 14, I 3, I 9])], n.val.cell? ⟨w1.heap.size, 2, none⟩ = some (I 3) := fun n => (n.kp.box.tail.tail.head.four).2.2.1
  have hq2x3 : ∀ n : Cl w [(w5.heap.size, [I 0, I 15, I 3, I 9]), (w2.heap.size, [I 0, I 0, I 0, I 0]), (w1.heap.size, [I 1, I 14, I 3, I 9])], n.val.cell? ⟨w1.heap.size, 3, none⟩ = some (I 9) := fun n => (n.kp.box.tail.tail.head.four).2.2.2.1
  repeat (go_big_quiet_step (first | (go_at_call 86; exact Cl.of (odd_any _)) | (go_at_call_of 38 ((5 : Int)); exact Cl.of (vc6 _)) | (go_at_call_of 38 ((4 : Int)); exact Cl.of (vc7 _)) | (go_at_call_of 38 ((11 : Int)); exact Cl.of (vc8 _)) | (go_at_call 42; exact Cl.of (vc9 _)) | (go_at_call 44; exact Cl.of (vc10 _)) | (go_at_call 37; exact Cl.of (vc11 _))))
  refine wpQuiet_nil ?_
  rintro _ ⟨⟨wq, hq⟩, rfl⟩
  go_wp2_with fail
  go_ret
  exact ⟨rfl, hq.bel⟩
end Go.Proofs.Ytkigmocchaikgaa

/- ValTrue, walked. -/
namespace Go.Proofs.Ytkigmocchaikgaa
open Go.RowKit
attribute [local go_sem] w_and w_or w_xor w_andNot w_and1 w_and63 w_add w_sub w_mul w_sub1 w_add1 w_shl w_shl1 w_shr c_beq c_bne c_beq0 c_bne0 c_beq1 c_bne1 wrap_nv
attribute [local go_sem] eqb_self

theorem Kp.drop {w0 w : World} {p : Nat × List Value} {L : List (Nat × List Value)} (h : Kp w0 w (p :: L)) : Kp w0 w L := ⟨h.bel, h.box.tail, fun q hq => h.lo q (List.mem_cons_of_mem _ hq)⟩
theorem hasVC {v m l h x : BitVec 64} {b : Bool} (hh : hasV v m l h x = b) (w : World) :
    Calls Try.prog 38 #[Vl v m l h, U x] w fun e w' => e = .returned (.bool b) ∧ Below w.heap.size w w' := hh ▸ valHas_any v m l h x w
theorem insVC {v m l h v' m' l' h' : BitVec 64} {b : Bool} (hh : insV v m l h v' m' l' h' = b) (w : World) :
    Calls Try.prog 44 #[Vl v m l h, Vl v' m' l' h'] w fun e w' => e = .returned (.bool b) ∧ Below w.heap.size w w' := hh ▸ valInside_any v m l h v' m' l' h' w
theorem snd_norm (v m l h x : BitVec 64) : ∃ a b c d i e,
    Hid (∀ w, Calls Try.prog 31 #[Vl v m l h] w fun o w' => o = .returned (.tuple #[Vl a b c d, .bool i, N e]) ∧ Below w.heap.size w w')
    ∧ Hid (e = 1 ∨ (e = 0 ∧ Hid (rawV v m l h x = (i && hasV a b c d x)) ∧ ∃ a' b' c' d' i',
      Hid (∀ w, Calls Try.prog 31 #[Vl a b c d] w fun o w' => o = .returned (.tuple #[Vl a' b' c' d', .bool i', N 0]) ∧ Below w.heap.size w w')
      ∧ Hid (i = false ∨ (i = true ∧ i' = true ∧ a' = a ∧ b' = b ∧ c' = c ∧ d' = d ∧ Hid (hasV a b c d c = true) ∧ Hid (hasV a b c d d = true))))) := by
  cases hr : eqb (band v m) zero
  · exact ⟨zero, zero, zero, zero, false, 1, hid (fun w => norm_wrong hr w), Or.inl rfl⟩
  · have hrt := (rt_iff v m).1 hr
    have hn := norm_has hrt (l := l) (h := h) x
    cases ho : normOk v m l h
    · rw [ho] at hn
      refine ⟨zero, zero, zero, zero, false, 0, hid (fun w => norm_none hr ho w), Or.inr ⟨rfl, by show _ = _; rw [hn]; rfl, _, _, _, _, true, hid (fun w => norm_yes (v := zero) (m := zero) (l := zero) (h := zero) (show _ = true by decide) (show _ = true by decide +kernel) w), Or.inl rfl⟩⟩
    · rw [ho] at hn
      have hv := norm_right hrt ho
      have hs := norm_stays hv
      have he := norm_ends hrt ho
      have hN : ∀ w, Calls Try.prog 31 #[Vl (nV v m l h) (nM m (nLo v m l) (nHi v m h)) (nLo v m l) (nHi v m h)] w fun o w' => o = .returned (.tuple #[Vl (nV v m l h) (nM m (nLo v m l) (nHi v m h)) (nLo v m l) (nHi v m h), .bool true, N 0]) ∧ Below w.heap.size w w' := fun w => by
        have := norm_yes ((rt_iff _ _).2 (val_facts hv).1) hs.1 w
        rw [hs.2.1, hs.2.2.1, hs.2.2.2.1, hs.2.2.2.2] at this
        exact this
      exact ⟨_, _, _, _, true, 0, hid (fun w => norm_yes hr ho w), Or.inr ⟨rfl, hn, _, _, _, _, true, hid hN, Or.inr ⟨rfl, rfl, rfl, rfl, rfl, rfl, he.1, he.2⟩⟩⟩
theorem snd_vjoin (v m l h v' m' l' h' x : BitVec 64) : ∃ a b c d e,
    Hid (∀ w, Calls Try.prog 32 #[Vl v m l h, Vl v' m' l' h'] w fun o w' => o = .returned (.tuple #[Vl a b c d, N e]) ∧ Below w.heap.size w w')
    ∧ Hid (e = 1 ∨ (e = 0 ∧ Hid ((hasV v m l h x || hasV v' m' l' h' x) = true → hasV a b c d x = true) ∧ Hid (insV v m l h a b c d = true) ∧ Hid (insV v' m' l' h' a b c d = true))) := by
  cases hr : (valB v m l h && valB v' m' l' h')
  · exact ⟨zero, zero, zero, zero, 1, hid (fun w => valJoin_no hr w), Or.inl rfl⟩
  · have hr' := hr
    rw [Bool.and_eq_true] at hr'
    have hf := join_facts hr'.1 hr'.2
    refine ⟨_, _, _, _, 0, hid (fun w => valJoin_yes hr w), Or.inr ⟨rfl, fun hx => ?_, hf.2.1, hf.2.2⟩⟩
    rw [Bool.or_eq_true] at hx
    rcases hx with hx | hx
    · exact insV_has hf.2.1 hx
    · exact insV_has hf.2.2 hx

set_option maxRecDepth 100000 in
set_option maxHeartbeats 8000000 in
theorem valTrue_any (v m l h v' m' l' h' x : BitVec 64) (w : World) :
    Calls Try.prog 7 #[Vl v m l h, Vl v' m' l' h', U x] w fun e w' => e = .returned (.bool true) ∧ Below w.heap.size w w' := by
  obtain ⟨a, b, c, d, i, ne, N1, N2⟩ := snd_norm v m l h x
  obtain ⟨ja, jb, jc, jd, je, J1, J2⟩ := snd_vjoin v m l h v' m' l' h' x
  have I2 : Hid (insV v m l h v' m' l' h' = true → hasV v m l h x = true → hasV v' m' l' h' x = true) := fun h1 h2 => insV_has h1 h2
  obtain ⟨ii, I1⟩ : ∃ b, Hid (insV v m l h v' m' l' h' = b) := ⟨_, rfl⟩
  obtain ⟨p, P1⟩ : ∃ b, Hid (hasV v m l h x = b) := ⟨_, rfl⟩
  obtain ⟨q, Q1⟩ : ∃ b, Hid (hasV v' m' l' h' x = b) := ⟨_, rfl⟩
  rw [I1.out, P1.out, Q1.out] at I2
  rw [P1.out, Q1.out] at J2
  go_enter Try.func7, Try.ntmps7
  go_wp2_with fail
  refine (N1.out _).mono ?_
  rintro e w1 ⟨rfl, hb1⟩
  have hB1 := (((Kp.start w).add4 _ _ _ _ _).add4 _ _ _ _ _).keep hb1
  simp only [World.size_alloc] at hB1
  have hB2 := hB1.add4 (U a) (U b) (U c) (U d) 49
  go_upto_if 23 with fail
  clear hb1 hB1 N1
  go_cut [8] (fun t wc => t = .bool i ∧ Kp w wc [(w1.heap.size, [U a, U b, U c, U d]), (w.heap.size + 1, [U v', U m', U l', U h']), (w.heap.size, [U v, U m, U l, U h])])
  case first =>
    as_aux_lemma =>
      clear J1 J2 I1 I2 P1 Q1
      rcases N2.out with rfl | ⟨rfl, R1, a', b', c', d', i', M1, M2⟩
      · clear N2
        go_wp2_with fail
        go_meet
        case rel => exact ⟨rfl, hB2⟩
      · clear N2
        have Hraw : Hid (rawV v m l h x = (hasB v m x && (decide (nv l ≤ nv x) && decide (nv x ≤ nv h)))) := rfl
        obtain ⟨hx, HX⟩ : ∃ z, Hid (hasV a b c d x = z) := ⟨_, rfl⟩
        obtain ⟨hbx, HB⟩ : ∃ z, Hid (hasB v m x = z) := ⟨_, rfl⟩
        rw [HX.out] at R1
        rw [HB.out] at Hraw
        go_upto_region 3 with fail
        go_cut [10] (fun t wd => t = .bool (rawV v m l h x) ∧ Kp w wd [(w1.heap.size, [U a, U b, U c, U d]), (w.heap.size + 1, [U v', U m', U l', U h']), (w.heap.size, [U v, U m, U l, U h])])
        case first =>
          as_aux_lemma =>
            obtain ⟨n0, n1, n2, n3, n4, n5, n6, n7, n8⟩ := hB2.box.head.four
            obtain ⟨g0, g1, g2, g3, g4, g5, g6, g7, g8⟩ := hB2.box.tail.head.four
            obtain ⟨f0, f1, f2, f3, f4, f5, f6, f7, f8⟩ := hB2.box.tail.tail.head.four
            go_wp2_with fail
            refine (hasC HB.out _).mono ?_
            rintro e w2 ⟨rfl, hb2⟩
            have hB3 := hB2.keep hb2
            clear n0 n1 n2 n3 n4 n5 n6 n7 n8 g0 g1 g2 g3 g4 g5 g6 g7 g8 f0 f1 f2 f3 f4 f5 f6 f7 f8
            obtain ⟨n0, n1, n2, n3, n4, n5, n6, n7, n8⟩ := hB3.box.head.four
            obtain ⟨g0, g1, g2, g3, g4, g5, g6, g7, g8⟩ := hB3.box.tail.head.four
            obtain ⟨f0, f1, f2, f3, f4, f5, f6, f7, f8⟩ := hB3.box.tail.tail.head.four
            cases hbx
            · go_wp2_with fail
              go_meet
              case rel => exact ⟨by rw [Hraw.out]; rfl, hB3⟩
            · by_cases h1 : nv l ≤ nv x
              · by_cases h2 : nv x ≤ nv h
                · go_wp2_with fail
                  go_meet
                  case rel => exact ⟨by rw [Hraw.out]; simp [h1, h2], hB3⟩
                · have h2' : nv h < nv x := by omega
                  go_wp2_with fail
                  go_meet
                  case rel => exact ⟨by rw [Hraw.out]; simp <;> omega, hB3⟩
              · have h1' : nv x < nv l := by omega
                go_wp2_with fail
                go_meet
                case rel => exact ⟨by rw [Hraw.out]; simp <;> omega, hB3⟩
        case rest =>
        clear hB2 Hraw HB
        obtain ⟨rfl, hB3⟩ := hcut
        rw [R1.out]
        clear R1
        obtain ⟨n0, n1, n2, n3, n4, n5, n6, n7, n8⟩ := hB3.box.head.four
        obtain ⟨g0, g1, g2, g3, g4, g5, g6, g7, g8⟩ := hB3.box.tail.head.four
        obtain ⟨f0, f1, f2, f3, f4, f5, f6, f7, f8⟩ := hB3.box.tail.tail.head.four
        rcases M2.out with rfl | ⟨rfl, rfl, rfl, rfl, rfl, rfl, E1, E2⟩
        · go_wp2_with fail
          refine (M1.out _).mono ?_
          rintro e w2 ⟨rfl, hb2⟩
          have hB4 := hB3.keep hb2
          go_wp2_with fail
          go_meet
          case rel => exact ⟨rfl, (hB4.add4 _ _ _ _ _).drop⟩
        · go_wp2_with fail
          refine (hasVC HX.out _).mono ?_
          rintro e w2 ⟨rfl, hb2⟩
          have hB4 := hB3.keep hb2
          clear n0 n1 n2 n3 n4 n5 n6 n7 n8 g0 g1 g2 g3 g4 g5 g6 g7 g8 f0 f1 f2 f3 f4 f5 f6 f7 f8
          obtain ⟨n0, n1, n2, n3, n4, n5, n6, n7, n8⟩ := hB4.box.head.four
          obtain ⟨g0, g1, g2, g3, g4, g5, g6, g7, g8⟩ := hB4.box.tail.head.four
          obtain ⟨f0, f1, f2, f3, f4, f5, f6, f7, f8⟩ := hB4.box.tail.tail.head.four
          have hne : (hx != hx) = false := by cases hx <;> rfl
          go_wp2_with fail
          refine (M1.out _).mono ?_
          rintro e w3 ⟨rfl, hb3⟩
          have hB5 := hB4.keep hb3
          have hB6 := hB5.add4 (U a') (U b') (U c') (U d') 49
          clear n0 n1 n2 n3 n4 n5 n6 n7 n8 g0 g1 g2 g3 g4 g5 g6 g7 g8 f0 f1 f2 f3 f4 f5 f6 f7 f8
          obtain ⟨n0, n1, n2, n3, n4, n5, n6, n7, n8⟩ := hB5.box.head.four
          obtain ⟨g0, g1, g2, g3, g4, g5, g6, g7, g8⟩ := hB5.box.tail.head.four
          obtain ⟨f0, f1, f2, f3, f4, f5, f6, f7, f8⟩ := hB5.box.tail.tail.head.four
          go_wp2_with fail
          refine (hasVC E1.out _).mono ?_
          rintro e w4 ⟨rfl, hb4⟩
          have hB7 := hB6.keep hb4
          clear n0 n1 n2 n3 n4 n5 n6 n7 n8 g0 g1 g2 g3 g4 g5 g6 g7 g8 f0 f1 f2 f3 f4 f5 f6 f7 f8
          obtain ⟨k0, k1, k2, k3, k4, k5, k6, k7, k8⟩ := hB7.box.head.four
          obtain ⟨n0, n1, n2, n3, n4, n5, n6, n7, n8⟩ := hB7.box.tail.head.four
          obtain ⟨g0, g1, g2, g3, g4, g5, g6, g7, g8⟩ := hB7.box.tail.tail.head.four
          obtain ⟨f0, f1, f2, f3, f4, f5, f6, f7, f8⟩ := hB7.box.tail.tail.tail.head.four
          go_wp2_with fail
          refine (hasVC E2.out _).mono ?_
          rintro e w5 ⟨rfl, hb5⟩
          have hB8 := hB7.keep hb5
          clear k0 k1 k2 k3 k4 k5 k6 k7 k8 n0 n1 n2 n3 n4 n5 n6 n7 n8 g0 g1 g2 g3 g4 g5 g6 g7 g8 f0 f1 f2 f3 f4 f5 f6 f7 f8
          obtain ⟨k0, k1, k2, k3, k4, k5, k6, k7, k8⟩ := hB8.box.head.four
          obtain ⟨n0, n1, n2, n3, n4, n5, n6, n7, n8⟩ := hB8.box.tail.head.four
          obtain ⟨g0, g1, g2, g3, g4, g5, g6, g7, g8⟩ := hB8.box.tail.tail.head.four
          obtain ⟨f0, f1, f2, f3, f4, f5, f6, f7, f8⟩ := hB8.box.tail.tail.tail.head.four
          go_wp2_with fail
          go_meet
          case rel => exact ⟨rfl, hB8.drop⟩
  case rest =>
  clear hB2 N2
  obtain ⟨rfl, hK1⟩ := hcut
  obtain ⟨n0, n1, n2, n3, n4, n5, n6, n7, n8⟩ := hK1.box.head.four
  obtain ⟨g0, g1, g2, g3, g4, g5, g6, g7, g8⟩ := hK1.box.tail.head.four
  obtain ⟨f0, f1, f2, f3, f4, f5, f6, f7, f8⟩ := hK1.box.tail.tail.head.four
  go_wp2_with fail
  refine (J1.out _).mono ?_
  rintro e w2 ⟨rfl, hb2⟩
  have hK2 := hK1.keep hb2
  have hK3 := hK2.add4 (U ja) (U jb) (U jc) (U jd) 49
  clear n0 n1 n2 n3 n4 n5 n6 n7 n8 g0 g1 g2 g3 g4 g5 g6 g7 g8 f0 f1 f2 f3 f4 f5 f6 f7 f8
  go_upto_region 10 with fail
  clear hK1 hK2 hb2 J1
  go_cut [117] (fun t wd => t = .bool false ∧ Kp w wd [(w2.heap.size, [U ja, U jb, U jc, U jd]), (w1.heap.size, [U a, U b, U c, U d]), (w.heap.size + 1, [U v', U m', U l', U h']), (w.heap.size, [U v, U m, U l, U h])])
  case first =>
    as_aux_lemma =>
      clear I1 I2
      obtain ⟨j0, j1, j2, j3, j4, j5, j6, j7, j8⟩ := hK3.box.head.four
      obtain ⟨n0, n1, n2, n3, n4, n5, n6, n7, n8⟩ := hK3.box.tail.head.four
      obtain ⟨g0, g1, g2, g3, g4, g5, g6, g7, g8⟩ := hK3.box.tail.tail.head.four
      obtain ⟨f0, f1, f2, f3, f4, f5, f6, f7, f8⟩ := hK3.box.tail.tail.tail.head.four
      rcases J2.out with rfl | ⟨rfl, J3, J4, J5⟩
      · go_wp2_with fail
        go_meet
        case rel => exact ⟨rfl, hK3⟩
      · clear J2
        go_wp2_with fail
        refine (hasVC P1.out _).mono ?_
        rintro e w3 ⟨rfl, hb3⟩
        have hK4 := hK3.keep hb3
        clear j0 j1 j2 j3 j4 j5 j6 j7 j8 n0 n1 n2 n3 n4 n5 n6 n7 n8 g0 g1 g2 g3 g4 g5 g6 g7 g8 f0 f1 f2 f3 f4 f5 f6 f7 f8
        obtain ⟨j0, j1, j2, j3, j4, j5, j6, j7, j8⟩ := hK4.box.head.four
        obtain ⟨n0, n1, n2, n3, n4, n5, n6, n7, n8⟩ := hK4.box.tail.head.four
        obtain ⟨g0, g1, g2, g3, g4, g5, g6, g7, g8⟩ := hK4.box.tail.tail.head.four
        obtain ⟨f0, f1, f2, f3, f4, f5, f6, f7, f8⟩ := hK4.box.tail.tail.tail.head.four
        cases p
        · go_wp2_with fail
          refine (hasVC Q1.out _).mono ?_
          rintro e w4 ⟨rfl, hb4⟩
          have hK5 := hK4.keep hb4
          clear j0 j1 j2 j3 j4 j5 j6 j7 j8 n0 n1 n2 n3 n4 n5 n6 n7 n8 g0 g1 g2 g3 g4 g5 g6 g7 g8 f0 f1 f2 f3 f4 f5 f6 f7 f8
          obtain ⟨j0, j1, j2, j3, j4, j5, j6, j7, j8⟩ := hK5.box.head.four
          obtain ⟨n0, n1, n2, n3, n4, n5, n6, n7, n8⟩ := hK5.box.tail.head.four
          obtain ⟨g0, g1, g2, g3, g4, g5, g6, g7, g8⟩ := hK5.box.tail.tail.head.four
          obtain ⟨f0, f1, f2, f3, f4, f5, f6, f7, f8⟩ := hK5.box.tail.tail.tail.head.four
          cases q
          · go_wp2_with fail
            refine (insVC J4.out _).mono ?_
            rintro e w5 ⟨rfl, hb5⟩
            have hK6 := hK5.keep hb5
            clear j0 j1 j2 j3 j4 j5 j6 j7 j8 n0 n1 n2 n3 n4 n5 n6 n7 n8 g0 g1 g2 g3 g4 g5 g6 g7 g8 f0 f1 f2 f3 f4 f5 f6 f7 f8
            obtain ⟨j0, j1, j2, j3, j4, j5, j6, j7, j8⟩ := hK6.box.head.four
            obtain ⟨n0, n1, n2, n3, n4, n5, n6, n7, n8⟩ := hK6.box.tail.head.four
            obtain ⟨g0, g1, g2, g3, g4, g5, g6, g7, g8⟩ := hK6.box.tail.tail.head.four
            obtain ⟨f0, f1, f2, f3, f4, f5, f6, f7, f8⟩ := hK6.box.tail.tail.tail.head.four
            go_wp2_with fail
            refine (insVC J5.out _).mono ?_
            rintro e w6 ⟨rfl, hb6⟩
            have hK7 := hK6.keep hb6
            go_wp2_with fail
            go_meet
            case rel => exact ⟨rfl, hK7⟩
          · have J6 : Hid (hasV ja jb jc jd x = true) := J3.out rfl
            go_wp2_with fail
            refine (hasVC J6.out _).mono ?_
            rintro e w5 ⟨rfl, hb5⟩
            have hK6 := hK5.keep hb5
            clear j0 j1 j2 j3 j4 j5 j6 j7 j8 n0 n1 n2 n3 n4 n5 n6 n7 n8 g0 g1 g2 g3 g4 g5 g6 g7 g8 f0 f1 f2 f3 f4 f5 f6 f7 f8
            obtain ⟨j0, j1, j2, j3, j4, j5, j6, j7, j8⟩ := hK6.box.head.four
            obtain ⟨n0, n1, n2, n3, n4, n5, n6, n7, n8⟩ := hK6.box.tail.head.four
            obtain ⟨g0, g1, g2, g3, g4, g5, g6, g7, g8⟩ := hK6.box.tail.tail.head.four
            obtain ⟨f0, f1, f2, f3, f4, f5, f6, f7, f8⟩ := hK6.box.tail.tail.tail.head.four
            go_wp2_with fail
            refine (insVC J4.out _).mono ?_
            rintro e w6 ⟨rfl, hb6⟩
            have hK7 := hK6.keep hb6
            clear j0 j1 j2 j3 j4 j5 j6 j7 j8 n0 n1 n2 n3 n4 n5 n6 n7 n8 g0 g1 g2 g3 g4 g5 g6 g7 g8 f0 f1 f2 f3 f4 f5 f6 f7 f8
            obtain ⟨j0, j1, j2, j3, j4, j5, j6, j7, j8⟩ := hK7.box.head.four
            obtain ⟨n0, n1, n2, n3, n4, n5, n6, n7, n8⟩ := hK7.box.tail.head.four
            obtain ⟨g0, g1, g2, g3, g4, g5, g6, g7, g8⟩ := hK7.box.tail.tail.head.four
            obtain ⟨f0, f1, f2, f3, f4, f5, f6, f7, f8⟩ := hK7.box.tail.tail.tail.head.four
            go_wp2_with fail
            refine (insVC J5.out _).mono ?_
            rintro e w7 ⟨rfl, hb7⟩
            have hK8 := hK7.keep hb7
            go_wp2_with fail
            go_meet
            case rel => exact ⟨rfl, hK8⟩
        · have J6 : Hid (hasV ja jb jc jd x = true) := J3.out rfl
          go_wp2_with fail
          refine (hasVC J6.out _).mono ?_
          rintro e w5 ⟨rfl, hb5⟩
          have hK6 := hK4.keep hb5
          clear j0 j1 j2 j3 j4 j5 j6 j7 j8 n0 n1 n2 n3 n4 n5 n6 n7 n8 g0 g1 g2 g3 g4 g5 g6 g7 g8 f0 f1 f2 f3 f4 f5 f6 f7 f8
          obtain ⟨j0, j1, j2, j3, j4, j5, j6, j7, j8⟩ := hK6.box.head.four
          obtain ⟨n0, n1, n2, n3, n4, n5, n6, n7, n8⟩ := hK6.box.tail.head.four
          obtain ⟨g0, g1, g2, g3, g4, g5, g6, g7, g8⟩ := hK6.box.tail.tail.head.four
          obtain ⟨f0, f1, f2, f3, f4, f5, f6, f7, f8⟩ := hK6.box.tail.tail.tail.head.four
          go_wp2_with fail
          refine (insVC J4.out _).mono ?_
          rintro e w6 ⟨rfl, hb6⟩
          have hK7 := hK6.keep hb6
          clear j0 j1 j2 j3 j4 j5 j6 j7 j8 n0 n1 n2 n3 n4 n5 n6 n7 n8 g0 g1 g2 g3 g4 g5 g6 g7 g8 f0 f1 f2 f3 f4 f5 f6 f7 f8
          obtain ⟨j0, j1, j2, j3, j4, j5, j6, j7, j8⟩ := hK7.box.head.four
          obtain ⟨n0, n1, n2, n3, n4, n5, n6, n7, n8⟩ := hK7.box.tail.head.four
          obtain ⟨g0, g1, g2, g3, g4, g5, g6, g7, g8⟩ := hK7.box.tail.tail.head.four
          obtain ⟨f0, f1, f2, f3, f4, f5, f6, f7, f8⟩ := hK7.box.tail.tail.tail.head.four
          go_wp2_with fail
          refine (insVC J5.out _).mono ?_
          rintro e w7 ⟨rfl, hb7⟩
          have hK8 := hK7.keep hb7
          go_wp2_with fail
          go_meet
          case rel => exact ⟨rfl, hK8⟩
  case rest =>
  clear hK3 J2
  obtain ⟨rfl, hK1⟩ := hcut
  go_wp2_with fail
  refine (valBegun_any _).mono ?_
  rintro e w3 ⟨rfl, hb3⟩
  have hK2 := hK1.keep hb3
  obtain ⟨g0, g1, g2, g3, g4, g5, g6, g7, g8⟩ := hK2.box.tail.tail.head.four
  obtain ⟨f0, f1, f2, f3, f4, f5, f6, f7, f8⟩ := hK2.box.tail.tail.tail.head.four
  go_wp2_with fail
  refine (insVC I1.out _).mono ?_
  rintro e w4 ⟨rfl, hb4⟩
  have hK3 := hK2.keep hb4
  clear g0 g1 g2 g3 g4 g5 g6 g7 g8 f0 f1 f2 f3 f4 f5 f6 f7 f8
  obtain ⟨g0, g1, g2, g3, g4, g5, g6, g7, g8⟩ := hK3.box.tail.tail.head.four
  obtain ⟨f0, f1, f2, f3, f4, f5, f6, f7, f8⟩ := hK3.box.tail.tail.tail.head.four
  cases ii
  · go_wp2_with fail
    go_ret
    exact ⟨rfl, hK3.bel⟩
  · go_wp2_with fail
    refine (hasVC P1.out _).mono ?_
    rintro e w5 ⟨rfl, hb5⟩
    have hK4 := hK3.keep hb5
    clear g0 g1 g2 g3 g4 g5 g6 g7 g8 f0 f1 f2 f3 f4 f5 f6 f7 f8
    obtain ⟨g0, g1, g2, g3, g4, g5, g6, g7, g8⟩ := hK4.box.tail.tail.head.four
    obtain ⟨f0, f1, f2, f3, f4, f5, f6, f7, f8⟩ := hK4.box.tail.tail.tail.head.four
    cases p
    · go_wp2_with fail
      go_ret
      exact ⟨rfl, hK4.bel⟩
    · obtain rfl : q = true := by have := I2.out; simpa using this
      go_wp2_with fail
      refine (hasVC Q1.out _).mono ?_
      rintro e w6 ⟨rfl, hb6⟩
      have hK5 := hK4.keep hb6
      go_wp2_with fail
      go_ret
      exact ⟨rfl, hK5.bel⟩

end Go.Proofs.Ytkigmocchaikgaa

/- What an argument of type Val is. -/
namespace Go.Proofs.Ytkigmocchaikgaa
open Go.ChangeShapes Go.WideShapes Go.ChangeAt Go.RowKit Go.Joins

theorem Try.cellsVal : Try.prog.cellsOf 49 = 4 := by kernel_rfl
theorem Try.cellsU : Try.prog.cellsOf 22 = 1 := by kernel_rfl
set_option maxRecDepth 100000 in
theorem arg_val {H : Type} {enc : TypeId × Value → H} {W : World} {base b0 : Nat} {spare : Nat → Bool} {held : Bool} {v : Value} {d : DataW H} {p : List MemPlace}
    (hv : Value.okWide Try.prog W .any b0 49 v) (h : DataW.Trod enc Try.prog W base spare held 49 v d p) : ∃ x y l g, v = Vl x y l g := by
  obtain ⟨cs, rfl, hsz⟩ := okWide_struct Try.underlying49 hv
  obtain ⟨c0, c1, c2, c3, rfl⟩ := array4 (hsz.trans Try.cellsVal)
  obtain ⟨fuel, hf⟩ := h
  obtain ⟨y0, y1, y2, n, hx, _, h0, h1, h2⟩ := Go.Deep.trod_struct3 Try.underlying49 hf
  simp only [Try.cellsBits, Try.cellsU, Value.cells] at h0 h1 h2
  simp at h0 h1 h2
  obtain ⟨z0, z1, k, hz, _, g0, g1⟩ := trod_struct2 Try.underlying24 h0
  simp only [Try.cellsU] at g0 g1
  simp at g0 g1
  obtain ⟨a, e0, _, wa⟩ := DataW.trod_int Try.underlying22 g0
  obtain ⟨b, e1, _, wb⟩ := DataW.trod_int Try.underlying22 g1
  obtain ⟨c, e2, _, wc⟩ := DataW.trod_int Try.underlying22 h1
  obtain ⟨g, e3, _, wg⟩ := DataW.trod_int Try.underlying22 h2
  simp at e0 e1 e2 e3
  subst e0 e1 e2 e3
  obtain ⟨x, rfl⟩ := u64_of_wf wa
  obtain ⟨y, rfl⟩ := u64_of_wf wb
  obtain ⟨l, rfl⟩ := u64_of_wf wc
  obtain ⟨g, rfl⟩ := u64_of_wf wg
  exact ⟨x, y, l, g, rfl⟩

end Go.Proofs.Ytkigmocchaikgaa
