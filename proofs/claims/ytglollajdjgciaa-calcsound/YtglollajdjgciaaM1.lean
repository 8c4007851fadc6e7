/- That the reference's answers, put together bit by bit, are package bits' own: plain facts. -/
import Derived.Test.YtglollajdjgciaaW8
namespace Go.Proofs.Ytglollajdjgciaa

theorem rightP {av am bv bm : BitVec 64} (hr : (eqb (band av am) zero && eqb (band bv bm) zero) = true) : (∀ j, (bit av j && bit am j) = false) ∧ (∀ j, (bit bv j && bit bm j) = false) := by
  rw [Bool.and_eq_true] at hr
  exact ⟨(right_iff _ _).1 hr.1, (right_iff _ _).1 hr.2⟩

theorem join_eq {av am bv bm : BitVec 64} (hr : (eqb (band av am) zero && eqb (band bv bm) zero) = true) :
    joinV av am bv bm 64 = bandn av (jM av am bv bm) ∧ joinM av am bv bm 64 = jM av am bv bm := by
  obtain ⟨ha, hb⟩ := rightP hr
  constructor
  · apply acc_eq; intro j hj
    have h1 := ha j; have h2 := hb j
    simp only [mo, mz, jM, bit_andn _ _ _ hj, bit_or, bit_xor]
    revert h1 h2
    cases bit av j <;> cases bit am j <;> cases bit bv j <;> cases bit bm j <;> simp
  · apply acc_eq; intro j hj
    have h1 := ha j; have h2 := hb j
    simp only [mo, mz, jM, bit_or, bit_xor]
    revert h1 h2
    cases bit av j <;> cases bit am j <;> cases bit bv j <;> cases bit bm j <;> simp

theorem meet_eq {av am bv bm : BitVec 64} (hr : (eqb (band av am) zero && eqb (band bv bm) zero) = true) (hm : eqb (bandn (bxor av bv) (bor am bm)) zero = true) :
    (∀ j, j < 64 → meetOk av am bv bm j = true) ∧ meetV av am bv bm 64 = bor av bv ∧ meetM av am bv bm 64 = band am bm := by
  obtain ⟨ha, hb⟩ := rightP hr
  rw [eqb_zero_iff] at hm
  refine ⟨?_, ?_, ?_⟩
  · intro j hj
    have h1 := ha j; have h2 := hb j; have h3 := hm j hj
    rw [bit_andn _ _ _ hj, bit_xor, bit_or] at h3
    simp only [meetOk, mo, mz]
    revert h1 h2 h3
    cases bit av j <;> cases bit am j <;> cases bit bv j <;> cases bit bm j <;> simp
  · apply acc_eq; intro j hj
    have h1 := ha j; have h2 := hb j; have h3 := hm j hj
    rw [bit_andn _ _ _ hj, bit_xor, bit_or] at h3
    simp only [mo, mz, bit_or]
    revert h1 h2 h3
    cases bit av j <;> cases bit am j <;> cases bit bv j <;> cases bit bm j <;> simp
  · apply acc_eq; intro j hj
    have h1 := ha j; have h2 := hb j; have h3 := hm j hj
    rw [bit_andn _ _ _ hj, bit_xor, bit_or] at h3
    simp only [mo, mz, bit_and']
    revert h1 h2 h3
    cases bit av j <;> cases bit am j <;> cases bit bv j <;> cases bit bm j <;> simp
theorem meet_ne {av am bv bm : BitVec 64} (hm : eqb (bandn (bxor av bv) (bor am bm)) zero = false) :
    ∃ j, j < 64 ∧ meetOk av am bv bm j = false ∧ ∀ i, i < j → meetOk av am bv bm i = true := by
  rcases first_no (meetOk av am bv bm) 64 with h | h
  · exfalso
    have : eqb (bandn (bxor av bv) (bor am bm)) zero = true := by
      rw [eqb_zero_iff]; intro j hj
      have h1 := h j hj
      rw [bit_andn _ _ _ hj, bit_xor, bit_or]
      simp only [meetOk, mo, mz] at h1
      revert h1
      cases bit av j <;> cases bit am j <;> cases bit bv j <;> cases bit bm j <;> simp
    rw [this] at hm; cases hm
  · exact h

theorem inside_eq {av am bv bm : BitVec 64} (hr : (eqb (band av am) zero && eqb (band bv bm) zero) = true) :
    insB av am bv bm = true ↔ ∀ j, j < 64 → insOk av am bv bm j = true := by
  obtain ⟨ha, hb⟩ := rightP hr
  unfold insB
  rw [hr, Bool.true_and, Bool.and_eq_true, eqb_zero_iff, eqb_iff]
  constructor
  · rintro ⟨h1, h2⟩ j hj
    have a1 := ha j; have a2 := hb j; have a3 := h1 j hj
    have a4 : bit (bandn av bm) j = bit bv j := by rw [h2]
    rw [bit_andn _ _ _ hj] at a3 a4
    simp only [insOk, mo, mz]
    revert a1 a2 a3 a4
    cases bit av j <;> cases bit am j <;> cases bit bv j <;> cases bit bm j <;> simp
  · intro h
    constructor
    · intro j hj
      have a1 := ha j; have a2 := hb j; have a3 := h j hj
      simp only [insOk, mo, mz] at a3
      rw [bit_andn _ _ _ hj]
      revert a1 a2 a3
      cases bit av j <;> cases bit am j <;> cases bit bv j <;> cases bit bm j <;> simp
    · apply ext64; intro j hj
      have a1 := ha j; have a2 := hb j; have a3 := h j hj
      simp only [insOk, mo, mz] at a3
      rw [bit_andn _ _ _ hj]
      revert a1 a2 a3
      cases bit av j <;> cases bit am j <;> cases bit bv j <;> cases bit bm j <;> simp

theorem sh_up_eq {v m : BitVec 64} (hr : eqb (band v m) zero = true) (n : Nat) : shV true v m n 64 = bshl v n ∧ shM true v m n 64 = bshl m n := by
  have ha := (right_iff _ _).1 hr
  have key : ∀ j, j < 64 → (sho true v m n j = (decide (n ≤ j) && (bit v (j - n) || bit m (j - n)))) ∧ (shz true v n j = (!decide (n ≤ j) || !bit v (j - n))) := by
    intro j hj
    by_cases h : n ≤ j
    · have e := sh_in true v m n j (j - n) (by simp [shFrom]; omega) (by omega)
      rw [← e.1, ← e.2]; simp [h, mz, mo]
    · have e := sh_out true v m n j (by simp [shFrom]; omega)
      rw [← e.1, ← e.2]; simp [h]
  constructor
  · apply acc_eq; intro j hj
    rw [(key j hj).1, (key j hj).2, bit_shl _ _ _ hj]
    have h1 := ha (j - n)
    revert h1
    cases decide (n ≤ j) <;> cases bit v (j - n) <;> cases bit m (j - n) <;> simp
  · apply acc_eq; intro j hj
    rw [(key j hj).1, (key j hj).2, bit_shl _ _ _ hj]
    have h1 := ha (j - n)
    revert h1
    cases decide (n ≤ j) <;> cases bit v (j - n) <;> cases bit m (j - n) <;> simp
theorem sh_down_eq {v m : BitVec 64} (hr : eqb (band v m) zero = true) (n : Nat) : shV false v m n 64 = bshr v n ∧ shM false v m n 64 = bshr m n := by
  have ha := (right_iff _ _).1 hr
  have key : ∀ j, j < 64 → (sho false v m n j = (bit v (n + j) || bit m (n + j))) ∧ (shz false v n j = !bit v (n + j)) := by
    intro j hj
    by_cases h : n + j < 64
    · have e := sh_in false v m n j (n + j) (by simp [shFrom]; omega) h
      rw [← e.1, ← e.2]; simp [mz, mo]
    · have e := sh_out false v m n j (by simp [shFrom]; omega)
      rw [← e.1, ← e.2, bit_big v _ (by omega), bit_big m _ (by omega)]; simp
  constructor
  · apply acc_eq; intro j hj
    rw [(key j hj).1, (key j hj).2, bit_shr]
    have h1 := ha (n + j)
    revert h1
    cases bit v (n + j) <;> cases bit m (n + j) <;> simp
  · apply acc_eq; intro j hj
    rw [(key j hj).1, (key j hj).2, bit_shr]
    have h1 := ha (n + j)
    revert h1
    cases bit v (n + j) <;> cases bit m (n + j) <;> simp

/- how many bits a number wants -/
theorem aux_lt : ∀ (f x : Nat), x < 2 ^ f → x < 2 ^ Lib.bitLenAux f x
  | 0, x, h => by simpa [Lib.bitLenAux] using h
  | f + 1, x, h => by
    simp only [Lib.bitLenAux]
    split
    · subst_vars; simp
    · have := aux_lt f (x / 2) (by rw [Nat.pow_succ] at h; omega)
      rw [Nat.add_comm 1, Nat.pow_succ]
      omega
theorem blen_iff (x : BitVec 64) (k : Nat) (hk : k ≤ 64) : blen x ≤ k ↔ x.toNat < 2 ^ k := by
  have e : (nv x).toNat = x.toNat := by unfold nv; rw [Int.toNat_natCast]
  unfold blen
  rw [e]
  constructor
  · intro h
    exact Nat.lt_of_lt_of_le (aux_lt 64 x.toNat x.isLt) (Nat.pow_le_pow_right (by decide) h)
  · intro h
    exact Lib.bitLen_le _ k hk h
theorem lt_iff_bits (x : BitVec 64) (k : Nat) : x.toNat < 2 ^ k ↔ ∀ j, k ≤ j → bit x j = false := by
  constructor
  · intro h j hj
    unfold bit BitVec.getLsbD
    exact Nat.testBit_lt_two_pow (Nat.lt_of_lt_of_le h (Nat.pow_le_pow_right (by decide) hj))
  · intro h
    exact Nat.lt_pow_two_of_testBit _ fun j hj => h j hj
theorem blen_bits (x : BitVec 64) (k : Nat) (hk : k ≤ 64) : blen x ≤ k ↔ ∀ j, k ≤ j → bit x j = false := by
  rw [blen_iff x k hk, lt_iff_bits]
theorem lowMask_bit (n j : Nat) (hn : n ≤ 64) (_hj : j < 64) : bit (lowMask n) j = decide (j < n) := by
  have h : (lowMask n).toNat = 2 ^ n - 1 := by
    unfold lowMask bsub bshl one
    by_cases e : n = 64
    · subst e; decide
    · have hlt : 2 ^ n < 2 ^ 64 := Nat.pow_lt_pow_right (by decide) (by omega)
      have h1 : 1 ≤ 2 ^ n := Nat.one_le_two_pow
      have e1 : (1#64 <<< n).toNat = 2 ^ n := by
        rw [BitVec.toNat_shiftLeft, Nat.shiftLeft_eq]; rw [show (1#64).toNat = 1 from rfl, Nat.one_mul]; exact Nat.mod_eq_of_lt hlt
      rw [BitVec.toNat_sub, e1]
      simp only [BitVec.toNat_ofNat]
      omega
  unfold bit BitVec.getLsbD
  rw [h, Nat.testBit_two_pow_sub_one]

theorem sameB_iff (l h : BitVec 64) (c : Nat) (hc : c ≤ 64) : sameB l h c = true ↔ ∀ j, 64 - c ≤ j → bit (bxor l h) j = false := by
  induction c with
  | zero => simp only [sameB, true_iff]; intro j hj; exact bit_big _ _ (by omega)
  | succ c ih =>
    have ih := ih (by omega)
    simp only [sameB, Bool.and_eq_true, ih, beq_iff_eq]
    constructor
    · rintro ⟨h1, h2⟩ j hj
      by_cases e : j = 63 - c
      · subst e; rw [bit_xor, h2]; simp
      · exact h1 j (by omega)
    · intro h1
      refine ⟨fun j hj => h1 j (by omega), ?_⟩
      have := h1 (63 - c) (by omega)
      rw [bit_xor] at this
      revert this
      cases bit l (63 - c) <;> cases bit h (63 - c) <;> simp
theorem span_eq (l h : BitVec 64) : spanV l h 64 = bandn l (sM l h) ∧ spanM l h 64 = sM l h := by
  have key : ∀ j, j < 64 → bit (sM l h) j = !sameB l h (64 - j) := by
    intro j hj
    unfold sM
    rw [lowMask_bit _ _ (blen_le _) hj]
    have h1 := sameB_iff l h (64 - j) (by omega)
    rw [show 64 - (64 - j) = j by omega, ← blen_bits _ j (by omega)] at h1
    cases hs : sameB l h (64 - j)
    · rw [hs] at h1; simp at h1; simp [h1]
    · rw [hs] at h1; simp at h1; simp; omega
  constructor
  · apply accd_eq; intro j hj
    rw [bit_andn _ _ _ hj, key j hj]
    simp only [spo, spz]
    cases sameB l h (64 - j) <;> cases bit l j <;> simp
  · apply accd_eq; intro j hj
    rw [key j hj]
    simp only [spo, spz]
    cases sameB l h (64 - j) <;> cases bit l j <;> simp

end Go.Proofs.Ytglollajdjgciaa
