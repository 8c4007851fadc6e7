/- Numbers that are put together bit by bit; plain facts, without the program. -/
import Derived.Test.YtglollajdjgciaaNum
namespace Go.Proofs.Ytglollajdjgciaa

/- what 'put' makes of a pair -/
def putV (v : BitVec 64) (i : Nat) (z o : Bool) : BitVec 64 := if z && o then v else if o then bor v (bshl one i) else v
def putM (m : BitVec 64) (i : Nat) (z o : Bool) : BitVec 64 := if z && o then bor m (bshl one i) else m

theorem ext64 {x y : BitVec 64} (h : ∀ j, j < 64 → bit x j = bit y j) : x = y := BitVec.eq_of_getLsbD_eq h
theorem bit_zero (j : Nat) : bit zero j = false := by simp [bit, zero]
theorem bit_and' (x y : BitVec 64) (j : Nat) : bit (band x y) j = (bit x j && bit y j) := by simp [bit, band]
theorem bit_or (x y : BitVec 64) (j : Nat) : bit (bor x y) j = (bit x j || bit y j) := by simp [bit, bor]
theorem bit_xor (x y : BitVec 64) (j : Nat) : bit (bxor x y) j = (bit x j ^^ bit y j) := by simp [bit, bxor]
theorem bit_andn (x y : BitVec 64) (j : Nat) (hj : j < 64) : bit (bandn x y) j = (bit x j && !bit y j) := by simp [bit, bandn, hj]
theorem bit_not (x : BitVec 64) (j : Nat) (hj : j < 64) : bit (bnot x) j = !bit x j := by simp [bit, bnot, hj]
theorem bit_shl (x : BitVec 64) (i j : Nat) (hj : j < 64) : bit (bshl x i) j = (decide (i ≤ j) && bit x (j - i)) := by
  simp only [bit, bshl, BitVec.getLsbD_shiftLeft, hj, decide_true, Bool.true_and]
  by_cases h : i ≤ j
  · simp [h, show ¬ j < i by omega]
  · simp [h, show j < i by omega]
theorem bit_shr (x : BitVec 64) (i j : Nat) : bit (bshr x i) j = bit x (i + j) := by simp [bit, bshr]
theorem bit_big (x : BitVec 64) (j : Nat) (h : 64 ≤ j) : bit x j = false := by unfold bit; exact BitVec.getLsbD_of_ge x j h
theorem bit_one_shl (i j : Nat) (hi : i < 64) : bit (bshl one i) j = decide (j = i) := by
  by_cases hj : j < 64
  · rw [bit_shl _ _ _ hj]
    by_cases e : j = i
    · subst e; simp [bit, one]
    · by_cases h : i ≤ j
      · have : j - i ≠ 0 := by omega
        simp [bit, one, e, this]
      · simp [h, e]
  · rw [bit_big _ _ (by omega)]; simp; omega
theorem bit_top (j : Nat) (hj : j < 64) : bit top j = true := by unfold bit top; rw [BitVec.getLsbD_allOnes]; simp [hj]
theorem eqb_iff (x y : BitVec 64) : eqb x y = true ↔ x = y := by simp [eqb]
theorem eqb_false (x y : BitVec 64) : eqb x y = false ↔ x ≠ y := by simp [eqb]
theorem eqb_zero_iff (x : BitVec 64) : eqb x zero = true ↔ ∀ j, j < 64 → bit x j = false := by
  rw [eqb_iff]
  exact ⟨fun h j _ => by rw [h, bit_zero], fun h => ext64 fun j hj => by rw [h j hj, bit_zero]⟩

/- right bits: none both known 1 and unknown -/
theorem right_iff (v m : BitVec 64) : eqb (band v m) zero = true ↔ ∀ j, (bit v j && bit m j) = false := by
  rw [eqb_zero_iff]
  constructor
  · intro h j
    by_cases hj : j < 64
    · rw [← bit_and']; exact h j hj
    · rw [bit_big v j (by omega)]; rfl
  · intro h j _; rw [bit_and']; exact h j
theorem right_not {v m : BitVec 64} (h : eqb (band v m) zero = true) (j : Nat) (hv : bit v j = true) : bit m j = false := by
  have := (right_iff v m).1 h j; rw [hv] at this; simpa using this

/- the bits below k that f tells -/
def acc (f : Nat → Bool) : Nat → BitVec 64
  | 0 => zero
  | k + 1 => if f k then bor (acc f k) (bshl one k) else acc f k

theorem acc_bit (f : Nat → Bool) (k j : Nat) (hk : k ≤ 64) : bit (acc f k) j = (decide (j < k) && f j) := by
  induction k with
  | zero => simp [acc, bit, zero]
  | succ k ih =>
    have ih := ih (by omega)
    simp only [acc]
    by_cases h : f k = true
    · rw [if_pos h, bit_or, ih, bit_one_shl k j (by omega)]
      by_cases e : j = k
      · subst e; simp [h]
      · have : (j < k + 1) = (j < k) := by simp; omega
        simp [this, e]
    · rw [if_neg h, ih]
      by_cases e : j = k
      · subst e; simp [h]
      · have : (j < k + 1) = (j < k) := by simp; omega
        simp [this]
theorem acc64 (f : Nat → Bool) (j : Nat) (hj : j < 64) : bit (acc f 64) j = f j := by
  rw [acc_bit f 64 j (Nat.le_refl _)]; simp [hj]
theorem acc_eq (f : Nat → Bool) (x : BitVec 64) (h : ∀ j, j < 64 → f j = bit x j) : acc f 64 = x :=
  ext64 fun j hj => by rw [acc64 f j hj, h j hj]

theorem putV_acc (z o : Nat → Bool) (k : Nat) : putV (acc (fun j => o j && !z j) k) k (z k) (o k) = acc (fun j => o j && !z j) (k + 1) := by
  simp only [putV, acc]
  generalize acc (fun j => o j && !z j) k = A
  by_cases hz : z k = true <;> by_cases ho : o k = true <;> simp [hz, ho]
theorem putM_acc (z o : Nat → Bool) (k : Nat) : putM (acc (fun j => o j && z j) k) k (z k) (o k) = acc (fun j => o j && z j) (k + 1) := by
  simp only [putM, acc]
  generalize acc (fun j => o j && z j) k = A
  by_cases hz : z k = true <;> by_cases ho : o k = true <;> simp [hz, ho]

/- the same from the highest bit on: the c highest bits -/
def accd (f : Nat → Bool) : Nat → BitVec 64
  | 0 => zero
  | c + 1 => if f (63 - c) then bor (accd f c) (bshl one (63 - c)) else accd f c
theorem accd_bit (f : Nat → Bool) (c j : Nat) (hc : c ≤ 64) : bit (accd f c) j = (decide (64 - c ≤ j) && decide (j < 64) && f j) := by
  induction c with
  | zero =>
    simp only [accd, bit_zero]
    by_cases h : j < 64
    · have : ¬ 64 ≤ j := by omega
      simp [this]
    · simp [h]
  | succ c ih =>
    have ih := ih (by omega)
    simp only [accd]
    by_cases h : f (63 - c) = true
    · rw [if_pos h, bit_or, ih, bit_one_shl _ j (by omega)]
      by_cases e : j = 63 - c
      · subst e
        have h2 : 63 - c < 64 := by omega
        simp [h, h2]
      · have : decide (64 - (c + 1) ≤ j) = decide (64 - c ≤ j) := by rw [Bool.eq_iff_iff, decide_eq_true_iff, decide_eq_true_iff]; omega
        rw [this, decide_eq_false e, Bool.or_false]
    · rw [if_neg h, ih]
      by_cases e : j = 63 - c
      · subst e; simp [h]
      · have : decide (64 - (c + 1) ≤ j) = decide (64 - c ≤ j) := by rw [Bool.eq_iff_iff, decide_eq_true_iff, decide_eq_true_iff]; omega
        rw [this]
theorem accd_eq (f : Nat → Bool) (x : BitVec 64) (h : ∀ j, j < 64 → f j = bit x j) : accd f 64 = x :=
  ext64 fun j hj => by rw [accd_bit f 64 j (Nat.le_refl _), h j hj]; simp [hj]
theorem putV_accd (z o : Nat → Bool) (c i : Nat) (hi : i = 63 - c) : putV (accd (fun j => o j && !z j) c) i (z i) (o i) = accd (fun j => o j && !z j) (c + 1) := by
  subst hi
  simp only [putV, accd]
  generalize accd (fun j => o j && !z j) c = A
  by_cases hz : z (63 - c) = true <;> by_cases ho : o (63 - c) = true <;> simp [hz, ho]
theorem putM_accd (z o : Nat → Bool) (c i : Nat) (hi : i = 63 - c) : putM (accd (fun j => o j && z j) c) i (z i) (o i) = accd (fun j => o j && z j) (c + 1) := by
  subst hi
  simp only [putM, accd]
  generalize accd (fun j => o j && z j) c = A
  by_cases hz : z (63 - c) = true <;> by_cases ho : o (63 - c) = true <;> simp [hz, ho]

theorem low_bit (x : BitVec 64) (i : Nat) : band (bshr x i) one = if bit x i then one else zero := by
  have h := shr_and1 x i
  cases hb : bit x i with
  | true => rw [hb, eqb_iff] at h; simpa using h
  | false =>
    have : band (bshr x i) one = zero := by
      apply ext64; intro j hj
      rw [bit_and', bit_shr, bit_zero]
      by_cases e : j = 0
      · subst e; rw [Nat.add_zero, hb]; rfl
      · have : bit one j = false := by simp [bit, one, e]
        rw [this]; simp
    simpa using this
theorem eqb_self (x : BitVec 64) : eqb x x = true := by simp [eqb]
theorem eqb_oo : eqb one one = true := by decide
theorem eqb_oz : eqb one zero = false := by decide
theorem eqb_zo : eqb zero one = false := by decide
theorem eqb_zz : eqb zero zero = true := by decide

/- may a bit be 0, may it be 1: of a pair -/
def mz (v : BitVec 64) (j : Nat) : Bool := !bit v j
def mo (v m : BitVec 64) (j : Nat) : Bool := bit v j || bit m j

/- JoinBits -/
def joinV (av am bv bm : BitVec 64) (k : Nat) : BitVec 64 := acc (fun j => (mo av am j || mo bv bm j) && !(mz av j || mz bv j)) k
def joinM (av am bv bm : BitVec 64) (k : Nat) : BitVec 64 := acc (fun j => (mo av am j || mo bv bm j) && (mz av j || mz bv j)) k
theorem joinV_succ (av am bv bm : BitVec 64) (k : Nat) : putV (joinV av am bv bm k) k (mz av k || mz bv k) (mo av am k || mo bv bm k) = joinV av am bv bm (k + 1) := putV_acc (fun j => mz av j || mz bv j) (fun j => mo av am j || mo bv bm j) k
theorem joinM_succ (av am bv bm : BitVec 64) (k : Nat) : putM (joinM av am bv bm k) k (mz av k || mz bv k) (mo av am k || mo bv bm k) = joinM av am bv bm (k + 1) := putM_acc (fun j => mz av j || mz bv j) (fun j => mo av am j || mo bv bm j) k
/- MeetBits -/
def meetV (av am bv bm : BitVec 64) (k : Nat) : BitVec 64 := acc (fun j => (mo av am j && mo bv bm j) && !(mz av j && mz bv j)) k
def meetM (av am bv bm : BitVec 64) (k : Nat) : BitVec 64 := acc (fun j => (mo av am j && mo bv bm j) && (mz av j && mz bv j)) k
theorem meetV_succ (av am bv bm : BitVec 64) (k : Nat) : putV (meetV av am bv bm k) k (mz av k && mz bv k) (mo av am k && mo bv bm k) = meetV av am bv bm (k + 1) := putV_acc (fun j => mz av j && mz bv j) (fun j => mo av am j && mo bv bm j) k
theorem meetM_succ (av am bv bm : BitVec 64) (k : Nat) : putM (meetM av am bv bm k) k (mz av k && mz bv k) (mo av am k && mo bv bm k) = meetM av am bv bm (k + 1) := putM_acc (fun j => mz av j && mz bv j) (fun j => mo av am j && mo bv bm j) k
def meetOk (av am bv bm : BitVec 64) (j : Nat) : Bool := (mz av j && mz bv j) || (mo av am j && mo bv bm j)
/- ShiftBits: which bit comes from where -/
def shFrom (up : Bool) (n j : Nat) : Int := if up then (j : Int) - n else (j : Int) + n
def shz (up : Bool) (v : BitVec 64) (n j : Nat) : Bool := if 0 ≤ shFrom up n j ∧ shFrom up n j ≤ 63 then mz v (shFrom up n j).toNat else true
def sho (up : Bool) (v m : BitVec 64) (n j : Nat) : Bool := if 0 ≤ shFrom up n j ∧ shFrom up n j ≤ 63 then mo v m (shFrom up n j).toNat else false
def shV (up : Bool) (v m : BitVec 64) (n k : Nat) : BitVec 64 := acc (fun j => sho up v m n j && !shz up v n j) k
def shM (up : Bool) (v m : BitVec 64) (n k : Nat) : BitVec 64 := acc (fun j => sho up v m n j && shz up v n j) k
theorem shV_succ (up : Bool) (v m : BitVec 64) (n k : Nat) : putV (shV up v m n k) k (shz up v n k) (sho up v m n k) = shV up v m n (k + 1) := putV_acc (shz up v n) (sho up v m n) k
theorem shM_succ (up : Bool) (v m : BitVec 64) (n k : Nat) : putM (shM up v m n k) k (shz up v n k) (sho up v m n k) = shM up v m n (k + 1) := putM_acc (shz up v n) (sho up v m n) k
theorem sh_in (up : Bool) (v m : BitVec 64) (n k i : Nat) (h : shFrom up n k = i) (hi : i < 64) : mz v i = shz up v n k ∧ mo v m i = sho up v m n k := by
  unfold shz sho
  rw [h, if_pos (by omega), if_pos (by omega), Int.toNat_natCast]
  exact ⟨rfl, rfl⟩
theorem sh_out (up : Bool) (v m : BitVec 64) (n k : Nat) (h : ¬ (0 ≤ shFrom up n k ∧ shFrom up n k ≤ 63)) : true = shz up v n k ∧ false = sho up v m n k := by
  unfold shz sho
  rw [if_neg h, if_neg h]
  exact ⟨rfl, rfl⟩
/- SpanBits: the c highest bits are the same -/
def sameB (l h : BitVec 64) : Nat → Bool
  | 0 => true
  | c + 1 => sameB l h c && (bit l (63 - c) == bit h (63 - c))
def spz (l h : BitVec 64) (j : Nat) : Bool := !sameB l h (64 - j) || !bit l j
def spo (l h : BitVec 64) (j : Nat) : Bool := !sameB l h (64 - j) || bit l j
def spanV (l h : BitVec 64) (c : Nat) : BitVec 64 := accd (fun j => spo l h j && !spz l h j) c
def spanM (l h : BitVec 64) (c : Nat) : BitVec 64 := accd (fun j => spo l h j && spz l h j) c
theorem spanV_succ (l h : BitVec 64) (c i : Nat) (hi : i = 63 - c) : putV (spanV l h c) i (spz l h i) (spo l h i) = spanV l h (c + 1) := putV_accd (spz l h) (spo l h) c i hi
theorem spanM_succ (l h : BitVec 64) (c i : Nat) (hi : i = 63 - c) : putM (spanM l h c) i (spz l h i) (spo l h i) = spanM l h (c + 1) := putM_accd (spz l h) (spo l h) c i hi
theorem sp_step (l h : BitVec 64) (c i : Nat) (hi : i = 63 - c) (hc : c < 64) : sameB l h (c + 1) = (sameB l h c && (bit l i == bit h i))
    ∧ spz l h i = (!(sameB l h c && (bit l i == bit h i)) || !bit l i) ∧ spo l h i = (!(sameB l h c && (bit l i == bit h i)) || bit l i) := by
  have e : sameB l h (c + 1) = (sameB l h c && (bit l i == bit h i)) := by rw [hi]; rfl
  refine ⟨e, ?_, ?_⟩
  · unfold spz; rw [show 64 - i = c + 1 by omega, e]
  · unfold spo; rw [show 64 - i = c + 1 by omega, e]
/- InsideBits -/
def insOk (av am bv bm : BitVec 64) (j : Nat) : Bool := !(mz av j && !mz bv j) && !(mo av am j && !mo bv bm j)

/- the first place, of those below n, at which f says no -/
theorem first_no (f : Nat → Bool) (n : Nat) : (∀ j, j < n → f j = true) ∨ ∃ j, j < n ∧ f j = false ∧ ∀ i, i < j → f i = true := by
  induction n with
  | zero => exact Or.inl fun j h => absurd h (Nat.not_lt_zero j)
  | succ n ih =>
    rcases ih with h | ⟨j, hj, hf, hb⟩
    · cases hn : f n with
      | true => exact Or.inl fun j hj => by by_cases e : j = n; · rw [e, hn]
                                            · exact h j (by omega)
      | false => exact Or.inr ⟨n, Nat.lt_succ_self n, hn, h⟩
    · exact Or.inr ⟨j, by omega, hf, hb⟩

end Go.Proofs.Ytglollajdjgciaa
