/- The reference's search for the least and for the greatest number, as plain functions; they answer as package val does. -/
import Derived.Test.YtglollajdjgciaaM6
namespace Go.Proofs.Ytglollajdjgciaa

def scanL (v m x : BitVec 64) : Nat → BitVec 64 × Bool
  | 0 => (x, hasB v m x)
  | k + 1 => if (scanL v m x k).2 then scanL v m x k else if okL v m x k then (candL v x k, true) else scanL v m x k
def scanG (v m x : BitVec 64) : Nat → BitVec 64 × Bool
  | 0 => (x, hasB v m x)
  | k + 1 => if (scanG v m x k).2 then scanG v m x k else if okG v m x k then (candG v m x k, true) else scanG v m x k

theorem scanL_stay (v m x : BitVec 64) (k n : Nat) (h : (scanL v m x k).2 = true) (hn : k ≤ n) : scanL v m x n = scanL v m x k := by
  induction n with
  | zero => have : k = 0 := by omega
            rw [this]
  | succ n ih =>
    by_cases e : k = n + 1
    · rw [e]
    · have := ih (by omega)
      rw [scanL, this, if_pos h]
theorem scanG_stay (v m x : BitVec 64) (k n : Nat) (h : (scanG v m x k).2 = true) (hn : k ≤ n) : scanG v m x n = scanG v m x k := by
  induction n with
  | zero => have : k = 0 := by omega
            rw [this]
  | succ n ih =>
    by_cases e : k = n + 1
    · rw [e]
    · have := ih (by omega)
      rw [scanG, this, if_pos h]
theorem scanL_no (v m x : BitVec 64) (hh : hasB v m x = false) (n : Nat) (h : ∀ j, j < n → okL v m x j = false) : scanL v m x n = (x, false) := by
  induction n with
  | zero => rw [scanL, hh]
  | succ n ih =>
    have := ih fun j hj => h j (by omega)
    rw [scanL, this, h n (by omega)]; simp
theorem scanG_no (v m x : BitVec 64) (hh : hasB v m x = false) (n : Nat) (h : ∀ j, j < n → okG v m x j = false) : scanG v m x n = (x, false) := by
  induction n with
  | zero => rw [scanG, hh]
  | succ n ih =>
    have := ih fun j hj => h j (by omega)
    rw [scanG, this, h n (by omega)]; simp

/- the two searches answer the same, if they find something -/
theorem least_same {v m : BitVec 64} (hr : RtB v m) (x : BitVec 64) : (scanL v m x 64).2 = (leastV v m x).2 ∧ ((leastV v m x).2 = true → (scanL v m x 64).1 = (leastV v m x).1) := by
  rcases least_is hr x with ⟨h1, h2⟩ | ⟨h1, k, hk, h2, h3, h4⟩ | ⟨h1, h2, h3⟩
  · have : (scanL v m x 0) = (x, true) := by rw [scanL, h1]
    rw [scanL_stay v m x 0 64 (by rw [this]) (by omega), this, h2]
    exact ⟨rfl, fun _ => rfl⟩
  · have e0 := scanL_no v m x h1 k h3
    have : (scanL v m x (k + 1)) = (candL v x k, true) := by rw [scanL, e0, h2]; simp
    rw [scanL_stay v m x (k + 1) 64 (by rw [this]) (by omega), this, h4]
    exact ⟨rfl, fun _ => rfl⟩
  · rw [scanL_no v m x h1 64 h2, h3]
    exact ⟨rfl, fun h => by cases h⟩
theorem great_same {v m : BitVec 64} (hr : RtB v m) (x : BitVec 64) : (scanG v m x 64).2 = (greatV v m x).2 ∧ ((greatV v m x).2 = true → (scanG v m x 64).1 = (greatV v m x).1) := by
  rcases great_is hr x with ⟨h1, h2⟩ | ⟨h1, k, hk, h2, h3, h4⟩ | ⟨h1, h2, h3⟩
  · have : (scanG v m x 0) = (x, true) := by rw [scanG, h1]
    rw [scanG_stay v m x 0 64 (by rw [this]) (by omega), this, h2]
    exact ⟨rfl, fun _ => rfl⟩
  · have e0 := scanG_no v m x h1 k h3
    have : (scanG v m x (k + 1)) = (candG v m x k, true) := by rw [scanG, e0, h2]; simp
    rw [scanG_stay v m x (k + 1) 64 (by rw [this]) (by omega), this, h4]
    exact ⟨rfl, fun _ => rfl⟩
  · rw [scanG_no v m x h1 64 h2, h3]
    exact ⟨rfl, fun h => by cases h⟩

/- what is found is one of the numbers, and none is nearer -/
theorem cand_gt {v m x : BitVec 64} {k : Nat} (hr : RtB v m) (hk : k < 64) (ho : okL v m x k = true) : nv x < nv (candL v x k) := by
  have h := (okL_iff hr x k hk).1 ho
  refine lt_of_bits k h.1 ?_ fun j hj hj2 => ?_
  · rw [cand_bit _ _ _ _ hk hk, if_neg (by omega), if_pos rfl]
  · rw [cand_bit _ _ _ _ hk hj2, if_neg (by omega), if_neg (by omega)]
theorem le_of_bits {a b : BitVec 64} (h : ∀ i, bit b i = false → bit a i = true → ∃ j, i < j ∧ j < 64 ∧ bit a j = false ∧ bit b j = true) : nv a ≤ nv b := by
  by_cases hlt : nv b < nv a
  · exfalso
    obtain ⟨i, hi, h1, h2, h3⟩ := bits_of_lt hlt
    obtain ⟨j, hj, hj2, h4, h5⟩ := h i h1 h2
    have := h3 j hj hj2
    rw [h4, h5] at this; cases this
  · omega
theorem has_cand {v m x y : BitVec 64} (hr : RtB v m) (hy : hasB v m y = true) (hlt : nv x < nv y) : ∃ i, i < 64 ∧ okL v m x i = true ∧ nv (candL v x i) ≤ nv y := by
  obtain ⟨i, hi, h1, h2, h3⟩ := bits_of_lt hlt
  have hin := ((hasB_iff v m y).1 hy).2
  refine ⟨i, hi, (okL_iff hr x i hi).2 ⟨h1, ?_, fun j hj hj2 => ?_⟩, ?_⟩
  · have := hin i hi
    rw [h2] at this
    revert this
    cases bit m i <;> cases bit v i <;> simp
  · rw [h3 j hj hj2]; exact hin j hj2
  · apply le_of_bits
    intro k hk1 hk2
    exfalso
    by_cases hk64 : k < 64
    · rw [cand_bit _ _ _ _ hi hk64] at hk2
      rcases Nat.lt_trichotomy k i with g | g | g
      · rw [if_pos g] at hk2
        have := hin k hk64
        rw [hk1, hk2] at this; simp at this
      · rw [g, h2] at hk1; cases hk1
      · rw [if_neg (by omega), if_neg (by omega), h3 k g hk64, hk1] at hk2; cases hk2
    · rw [bit_big _ _ (by omega)] at hk2; cases hk2
theorem cand_le {v m x : BitVec 64} {i k : Nat} (hr : RtB v m) (hk : k < i) (hi : i < 64) (hoi : okL v m x i = true) : nv (candL v x k) ≤ nv (candL v x i) := by
  have h := (okL_iff hr x i hi).1 hoi
  have : nv (candL v x k) < nv (candL v x i) := by
    refine lt_of_bits i ?_ ?_ fun j hj hj2 => ?_
    · rw [cand_bit _ _ _ _ (by omega) hi, if_neg (by omega), if_neg (by omega)]; exact h.1
    · rw [cand_bit _ _ _ _ hi hi, if_neg (by omega), if_pos rfl]
    · rw [cand_bit _ _ _ _ (by omega) hj2, cand_bit _ _ _ _ hi hj2, if_neg (by omega), if_neg (by omega), if_neg (by omega), if_neg (by omega)]
  omega
theorem least_yes {v m : BitVec 64} (hr : RtB v m) {x : BitVec 64} (h : (leastV v m x).2 = true) : hasB v m (leastV v m x).1 = true ∧ nv x ≤ nv (leastV v m x).1 ∧ ∀ y, hasB v m y = true → nv x ≤ nv y → nv (leastV v m x).1 ≤ nv y := by
  rcases least_is hr x with ⟨h1, h2⟩ | ⟨h1, k, hk, h2, h3, h4⟩ | ⟨h1, h2, h3⟩
  · rw [h2]; exact ⟨h1, Int.le_refl _, fun y _ h => h⟩
  · rw [h4]
    have hc := h2
    unfold okL at hc
    rw [Bool.and_eq_true] at hc
    refine ⟨hc.2, Int.le_of_lt (cand_gt hr hk h2), fun y hy hle => ?_⟩
    have hlt : nv x < nv y := by
      rcases Int.lt_or_eq_of_le hle with g | g
      · exact g
      · exfalso
        have := nv_inj _ _ g
        rw [this, hy] at h1; cases h1
    obtain ⟨i, hi, g1, g2⟩ := has_cand hr hy hlt
    show nv (candL v x k) ≤ nv y
    rcases Nat.lt_trichotomy i k with g | g | g
    · rw [h3 i g] at g1; cases g1
    · rw [← g]; exact g2
    · exact Int.le_trans (cand_le hr g hi g1) g2
  · rw [h3] at h; cases h
theorem least_none {v m : BitVec 64} (hr : RtB v m) {x : BitVec 64} (h : (leastV v m x).2 = false) (y : BitVec 64) (hy : hasB v m y = true) : nv y < nv x := by
  rcases least_is hr x with ⟨h1, h2⟩ | ⟨h1, k, hk, h2, h3, h4⟩ | ⟨h1, h2, h3⟩
  · rw [h2] at h; cases h
  · rw [h4] at h; cases h
  · by_cases hlt : nv x < nv y
    · obtain ⟨i, hi, g1, _⟩ := has_cand hr hy hlt
      rw [h2 i hi] at g1; cases g1
    · by_cases e : nv x = nv y
      · have := nv_inj _ _ e
        rw [this, hy] at h1; cases h1
      · omega
theorem great_yes {v m : BitVec 64} (hr : RtB v m) {x : BitVec 64} (h : (greatV v m x).2 = true) : hasB v m (greatV v m x).1 = true ∧ nv (greatV v m x).1 ≤ nv x ∧ ∀ y, hasB v m y = true → nv y ≤ nv x → nv y ≤ nv (greatV v m x).1 := by
  unfold greatV at h ⊢
  cases hl : (leastV (turn v m) m (bnot x)).2
  · rw [hl] at h; simp at h
  · obtain ⟨h1, h2, h3⟩ := least_yes (turn_rt v m) hl
    simp only [if_pos]
    refine ⟨?_, ?_, fun y hy hle => ?_⟩
    · rw [← turn_has hr, not_not]; exact h1
    · rw [nv_not] at h2 ⊢; omega
    · have := h3 (bnot y) (by rw [turn_has hr]; exact hy) (by rw [nv_not, nv_not]; omega)
      rw [nv_not] at this ⊢; omega
theorem great_none {v m : BitVec 64} (hr : RtB v m) {x : BitVec 64} (h : (greatV v m x).2 = false) (y : BitVec 64) (hy : hasB v m y = true) : nv x < nv y := by
  unfold greatV at h
  cases hl : (leastV (turn v m) m (bnot x)).2
  · have := least_none (turn_rt v m) hl (bnot y) (by rw [turn_has hr]; exact hy)
    rw [nv_not, nv_not] at this; omega
  · rw [hl] at h; simp at h

end Go.Proofs.Ytglollajdjgciaa
