import Derived.Laws.Bits64b
import Derived.Laws.BitsAllLaws
import Derived.Test.YtkigmocchaikgaaProg
import Derived.WalkKit
import Derived.WalkSpells
import Derived.WalkLawsBesides
import Derived.Deep.QuietTactic
import Derived.BigQuiet
import Derived.Handy
import Derived.Laws.MathBits
import Derived.Lib.BitFns
import Derived.Laws.StructEq
/- What the model's u64 arithmetic is on numbers of 64 bits: plain facts, without the program.
   The words nv, band .. keep the walk's simp from laying the numbers open. -/
namespace Go.Proofs.Ytkigmocchaikgaa

def nv (x : BitVec 64) : Int := x.toNat
abbrev U (x : BitVec 64) : Value := .int .u64 (nv x)
abbrev N (n : Int) : Value := .int .i64 n
abbrev Bt (v m : BitVec 64) : Value := .agg #[U v, U m]
abbrev Vl (v m l h : BitVec 64) : Value := .agg #[U v, U m, U l, U h]
def band (x y : BitVec 64) : BitVec 64 := x &&& y
def bor (x y : BitVec 64) : BitVec 64 := x ||| y
def bxor (x y : BitVec 64) : BitVec 64 := x ^^^ y
def bandn (x y : BitVec 64) : BitVec 64 := x &&& ~~~ y
def badd (x y : BitVec 64) : BitVec 64 := x + y
def bsub (x y : BitVec 64) : BitVec 64 := x - y
def bmul (x y : BitVec 64) : BitVec 64 := x * y
def bshl (x : BitVec 64) (i : Nat) : BitVec 64 := x <<< i
def bshr (x : BitVec 64) (i : Nat) : BitVec 64 := x >>> i
def bnot (x : BitVec 64) : BitVec 64 := ~~~ x
def bmin (x y : BitVec 64) : BitVec 64 := if nv y < nv x then y else x
def bmax (x y : BitVec 64) : BitVec 64 := if nv x < nv y then y else x
def one : BitVec 64 := 1#64
def zero : BitVec 64 := 0#64
def top : BitVec 64 := BitVec.allOnes 64
def eqb (x y : BitVec 64) : Bool := x == y
def bit (x : BitVec 64) (i : Nat) : Bool := x.getLsbD i

theorem ofInt_nv (x : BitVec 64) : BitVec.ofInt 64 (nv x) = x := by
  unfold nv; rw [BitVec.ofInt_natCast, BitVec.ofNat_toNat]; simp
theorem nv_ofInt (n : Int) : nv (BitVec.ofInt 64 n) = n % 18446744073709551616 := by
  unfold nv; rw [BitVec.toNat_ofInt]; omega
theorem nv_nonneg (x : BitVec 64) : 0 ≤ nv x := by unfold nv; omega
theorem nv_lt (x : BitVec 64) : nv x < 18446744073709551616 := by unfold nv; have := x.isLt; omega
theorem nv_inj (x y : BitVec 64) (h : nv x = nv y) : x = y := by
  unfold nv at h; exact BitVec.eq_of_toNat_eq (by omega)
theorem nv_zero : nv zero = 0 := rfl
theorem nv_one : nv one = 1 := rfl
theorem nv_top : nv top = 18446744073709551615 := by decide
theorem ex_nv (n : Int) (h0 : 0 ≤ n) (h1 : n < 18446744073709551616) : ∃ x, n = nv x :=
  ⟨BitVec.ofInt 64 n, by rw [nv_ofInt]; omega⟩
theorem wrap_ofInt (n : Int) : IntKind.u64.wrap n = nv (BitVec.ofInt 64 n) := by
  rw [IntKind.wrap_u64, nv_ofInt]
theorem wrap_nv (x : BitVec 64) : IntKind.u64.wrap (nv x) = nv x := by rw [wrap_ofInt, ofInt_nv]

theorem w_and (x y : BitVec 64) : bits .and .u64 (nv x) (nv y) = nv (band x y) := by
  show IntKind.u64.wrap (nv (BitVec.ofInt 64 (nv x) &&& BitVec.ofInt 64 (nv y))) = _
  rw [ofInt_nv, ofInt_nv, wrap_nv]; rfl
theorem w_or (x y : BitVec 64) : bits .or .u64 (nv x) (nv y) = nv (bor x y) := by
  show IntKind.u64.wrap (nv (BitVec.ofInt 64 (nv x) ||| BitVec.ofInt 64 (nv y))) = _
  rw [ofInt_nv, ofInt_nv, wrap_nv]; rfl
theorem w_xor (x y : BitVec 64) : bits .xor .u64 (nv x) (nv y) = nv (bxor x y) := by
  show IntKind.u64.wrap (nv (BitVec.ofInt 64 (nv x) ^^^ BitVec.ofInt 64 (nv y))) = _
  rw [ofInt_nv, ofInt_nv, wrap_nv]; rfl
theorem w_andNot (x y : BitVec 64) : bits .andNot .u64 (nv x) (nv y) = nv (bandn x y) := by
  show IntKind.u64.wrap (nv (BitVec.ofInt 64 (nv x) &&& ~~~BitVec.ofInt 64 (nv y))) = _
  rw [ofInt_nv, ofInt_nv, wrap_nv]; rfl
theorem w_and1 (x : BitVec 64) : bits .and .u64 (nv x) 1 = nv (band x one) := w_and x one
theorem w_and63 (x : BitVec 64) : bits .and .u64 (nv x) 63 = nv (band x 63#64) := w_and x 63#64
theorem w_add (x y : BitVec 64) : IntKind.u64.wrap (nv x + nv y) = nv (badd x y) := by
  rw [wrap_ofInt, BitVec.ofInt_add, ofInt_nv, ofInt_nv]; rfl
theorem w_sub (x y : BitVec 64) : IntKind.u64.wrap (nv x - nv y) = nv (bsub x y) := by
  unfold nv bsub
  rw [IntKind.wrap_u64, BitVec.toNat_sub]
  have := x.isLt; have := y.isLt
  omega
theorem w_mul (x y : BitVec 64) : IntKind.u64.wrap (nv x * nv y) = nv (bmul x y) := by
  rw [wrap_ofInt, BitVec.ofInt_mul, ofInt_nv, ofInt_nv]; rfl
theorem w_sub1 (x : BitVec 64) : IntKind.u64.wrap (nv x - 1) = nv (bsub x one) := w_sub x one
theorem w_add1 (x : BitVec 64) : IntKind.u64.wrap (nv x + 1) = nv (badd x one) := w_add x one
theorem w_shl (x : BitVec 64) (i : Nat) : IntKind.u64.wrap (nv x * 2 ^ i) = nv (bshl x i) := by
  unfold nv bshl
  rw [IntKind.wrap_u64, BitVec.toNat_shiftLeft, Nat.shiftLeft_eq]
  simp
theorem w_shl1 (i : Nat) : IntKind.u64.wrap (2 ^ i) = nv (bshl one i) := by
  have := w_shl one i
  rw [nv_one, Int.one_mul] at this
  exact this
theorem w_shr (x : BitVec 64) (i : Nat) : nv x / 2 ^ i = nv (bshr x i) := by
  unfold nv bshr
  rw [BitVec.toNat_ushiftRight, Nat.shiftRight_eq_div_pow]
  simp

theorem c_beq (x y : BitVec 64) : (nv x == nv y) = eqb x y := by
  rw [Bool.eq_iff_iff]; simp only [eqb, beq_iff_eq]
  exact ⟨nv_inj x y, fun h => by rw [h]⟩
theorem c_bne (x y : BitVec 64) : (nv x != nv y) = !eqb x y := by
  rw [bne, c_beq]
theorem c_beq0 (x : BitVec 64) : (nv x == 0) = eqb x zero := c_beq x zero
theorem c_bne0 (x : BitVec 64) : (nv x != 0) = !eqb x zero := c_bne x zero
theorem c_beq1 (x : BitVec 64) : (nv x == 1) = eqb x one := c_beq x one
theorem c_bne1 (x : BitVec 64) : (nv x != 1) = !eqb x one := c_bne x one

theorem bit_and (v : BitVec 64) (i : Nat) (hi : i < 64) : eqb (band v (bshl one i)) zero = !bit v i := by
  unfold eqb band bshl one zero bit
  have h : ((v &&& (1#64 <<< i)) != 0#64) = v.getLsbD i := by
    rw [Bool.eq_iff_iff, bne_iff_ne]
    constructor
    · intro h
      cases hb : v.getLsbD i with
      | true => rfl
      | false =>
        exfalso; apply h
        apply BitVec.eq_of_getLsbD_eq
        intro j hj
        by_cases e : j = i
        · subst e; simp [hb]
        · simp
          intro h1 h2 h3
          omega
    · intro hb h
      have h2 : (v &&& (1#64 <<< i)).getLsbD i = false := by rw [h]; simp
      simp [hb] at h2
      omega
  rw [← h, bne, Bool.not_not]
theorem shr_and1 (v : BitVec 64) (i : Nat) : eqb (band (bshr v i) one) one = bit v i := by
  unfold eqb band bshr one bit
  rw [Bool.eq_iff_iff, beq_iff_eq]
  constructor
  · intro h
    have : ((v >>> i) &&& 1#64).getLsbD 0 = true := by rw [h]; decide
    simpa using this
  · intro h
    apply BitVec.eq_of_getLsbD_eq
    intro j hj
    simp
    intro h1
    subst h1
    simpa using h

end Go.Proofs.Ytkigmocchaikgaa

/- Numbers that are put together bit by bit; plain facts, without the program. -/
namespace Go.Proofs.Ytkigmocchaikgaa

/- what 'put' makes of a pair -/
def putV (v : BitVec 64) (i : Nat) (z o : Bool) : BitVec 64 := if z && o then v else if o then bor v (bshl one i) else v
def putM (m : BitVec 64) (i : Nat) (z o : Bool) : BitVec 64 := if z && o then bor m (bshl one i) else m

theorem ext64 {x y : BitVec 64} (h : ∀ j, j < 64 → bit x j = bit y j) : x = y := BitVec.eq_of_getLsbD_eq h
theorem bit_zero (j : Nat) : bit zero j = false := by simp [bit, zero]
theorem bit_and' (x y : BitVec 64) (j : Nat) : bit (band x y) j = (bit x j && bit y j) := by simp [bit, band]
theorem bit_or (x y : BitVec 64) (j : Nat) : bit (bor x y) j = (bit x j || bit y j) := by simp [bit, bor]
theorem bit_xor (x y : BitVec 64) (j : Nat) : bit (bxor x y) j = (bit x j ^^ bit y j) := by simp [bit, bxor]
theorem bit_andn (x y : BitVec 64) (j : Nat) (hj : j < 64) : bit (bandn x y) j = (bit x j && !bit y j) := by simp [bit, bandn, hj]
theorem bit_not (x : BitVec 64) (j : Nat) (hj : j < 64) : bit (bnot x) j = !bit x j := by simp [bit, bnot, hj]
theorem bit_shl (x : BitVec 64) (i j : Nat) (hj : j < 64) : bit (bshl x i) j = (decide (i ≤ j) && bit x (j - i)) := by
  simp only [bit, bshl, BitVec.getLsbD_shiftLeft, hj, decide_true, Bool.true_and]
  by_cases h : i ≤ j
  · simp [h, show ¬ j < i by omega]
  · simp [h, show j < i by omega]
theorem bit_shr (x : BitVec 64) (i j : Nat) : bit (bshr x i) j = bit x (i + j) := by simp [bit, bshr]
theorem bit_big (x : BitVec 64) (j : Nat) (h : 64 ≤ j) : bit x j = false := by unfold bit; exact BitVec.getLsbD_of_ge x j h
theorem bit_one_shl (i j : Nat) (hi : i < 64) : bit (bshl one i) j = decide (j = i) := by
  by_cases hj : j < 64
  · rw [bit_shl _ _ _ hj]
    by_cases e : j = i
    · subst e; simp [bit, one]
    · by_cases h : i ≤ j
      · have : j - i ≠ 0 := by omega
        simp [bit, one, e, this]
      · simp [h, e]
  · rw [bit_big _ _ (by omega)]; simp; omega
theorem bit_top (j : Nat) (hj : j < 64) : bit top j = true := by unfold bit top; rw [BitVec.getLsbD_allOnes]; simp [hj]
theorem eqb_iff (x y : BitVec 64) : eqb x y = true ↔ x = y := by simp [eqb]
theorem eqb_false (x y : BitVec 64) : eqb x y = false ↔ x ≠ y := by simp [eqb]
theorem eqb_zero_iff (x : BitVec 64) : eqb x zero = true ↔ ∀ j, j < 64 → bit x j = false := by
  rw [eqb_iff]
  exact ⟨fun h j _ => by rw [h, bit_zero], fun h => ext64 fun j hj => by rw [h j hj, bit_zero]⟩

/- right bits: none both known 1 and unknown -/
theorem right_iff (v m : BitVec 64) : eqb (band v m) zero = true ↔ ∀ j, (bit v j && bit m j) = false := by
  rw [eqb_zero_iff]
  constructor
  · intro h j
    by_cases hj : j < 64
    · rw [← bit_and']; exact h j hj
    · rw [bit_big v j (by omega)]; rfl
  · intro h j _; rw [bit_and']; exact h j
theorem right_not {v m : BitVec 64} (h : eqb (band v m) zero = true) (j : Nat) (hv : bit v j = true) : bit m j = false := by
  have := (right_iff v m).1 h j; rw [hv] at this; simpa using this

/- the bits below k that f tells -/
def acc (f : Nat → Bool) : Nat → BitVec 64
  | 0 => zero
  | k + 1 => if f k then bor (acc f k) (bshl one k) else acc f k

theorem acc_bit (f : Nat → Bool) (k j : Nat) (hk : k ≤ 64) : bit (acc f k) j = (decide (j < k) && f j) := by
  induction k with
  | zero => simp [acc, bit, zero]
  | succ k ih =>
    have ih := ih (by omega)
    simp only [acc]
    by_cases h : f k = true
    · rw [if_pos h, bit_or, ih, bit_one_shl k j (by omega)]
      by_cases e : j = k
      · subst e; simp [h]
      · have : (j < k + 1) = (j < k) := by simp; omega
        simp [this, e]
    · rw [if_neg h, ih]
      by_cases e : j = k
      · subst e; simp [h]
      · have : (j < k + 1) = (j < k) := by simp; omega
        simp [this]
theorem acc64 (f : Nat → Bool) (j : Nat) (hj : j < 64) : bit (acc f 64) j = f j := by
  rw [acc_bit f 64 j (Nat.le_refl _)]; simp [hj]
theorem acc_eq (f : Nat → Bool) (x : BitVec 64) (h : ∀ j, j < 64 → f j = bit x j) : acc f 64 = x :=
  ext64 fun j hj => by rw [acc64 f j hj, h j hj]

theorem putV_acc (z o : Nat → Bool) (k : Nat) : putV (acc (fun j => o j && !z j) k) k (z k) (o k) = acc (fun j => o j && !z j) (k + 1) := by
  simp only [putV, acc]
  generalize acc (fun j => o j && !z j) k = A
  by_cases hz : z k = true <;> by_cases ho : o k = true <;> simp [hz, ho]
theorem putM_acc (z o : Nat → Bool) (k : Nat) : putM (acc (fun j => o j && z j) k) k (z k) (o k) = acc (fun j => o j && z j) (k + 1) := by
  simp only [putM, acc]
  generalize acc (fun j => o j && z j) k = A
  by_cases hz : z k = true <;> by_cases ho : o k = true <;> simp [hz, ho]

/- the same from the highest bit on: the c highest bits -/
def accd (f : Nat → Bool) : Nat → BitVec 64
  | 0 => zero
  | c + 1 => if f (63 - c) then bor (accd f c) (bshl one (63 - c)) else accd f c
theorem accd_bit (f : Nat → Bool) (c j : Nat) (hc : c ≤ 64) : bit (accd f c) j = (decide (64 - c ≤ j) && decide (j < 64) && f j) := by
  induction c with
  | zero =>
    simp only [accd, bit_zero]
    by_cases h : j < 64
    · have : ¬ 64 ≤ j := by omega
      simp [this]
    · simp [h]
  | succ c ih =>
    have ih := ih (by omega)
    simp only [accd]
    by_cases h : f (63 - c) = true
    · rw [if_pos h, bit_or, ih, bit_one_shl _ j (by omega)]
      by_cases e : j = 63 - c
      · subst e
        have h2 : 63 - c < 64 := by omega
        simp [h, h2]
      · have : decide (64 - (c + 1) ≤ j) = decide (64 - c ≤ j) := by rw [Bool.eq_iff_iff, decide_eq_true_iff, decide_eq_true_iff]; omega
        rw [this, decide_eq_false e, Bool.or_false]
    · rw [if_neg h, ih]
      by_cases e : j = 63 - c
      · subst e; simp [h]
      · have : decide (64 - (c + 1) ≤ j) = decide (64 - c ≤ j) := by rw [Bool.eq_iff_iff, decide_eq_true_iff, decide_eq_true_iff]; omega
        rw [this]
theorem accd_eq (f : Nat → Bool) (x : BitVec 64) (h : ∀ j, j < 64 → f j = bit x j) : accd f 64 = x :=
  ext64 fun j hj => by rw [accd_bit f 64 j (Nat.le_refl _), h j hj]; simp [hj]
theorem putV_accd (z o : Nat → Bool) (c i : Nat) (hi : i = 63 - c) : putV (accd (fun j => o j && !z j) c) i (z i) (o i) = accd (fun j => o j && !z j) (c + 1) := by
  subst hi
  simp only [putV, accd]
  generalize accd (fun j => o j && !z j) c = A
  by_cases hz : z (63 - c) = true <;> by_cases ho : o (63 - c) = true <;> simp [hz, ho]
theorem putM_accd (z o : Nat → Bool) (c i : Nat) (hi : i = 63 - c) : putM (accd (fun j => o j && z j) c) i (z i) (o i) = accd (fun j => o j && z j) (c + 1) := by
  subst hi
  simp only [putM, accd]
  generalize accd (fun j => o j && z j) c = A
  by_cases hz : z (63 - c) = true <;> by_cases ho : o (63 - c) = true <;> simp [hz, ho]

theorem low_bit (x : BitVec 64) (i : Nat) : band (bshr x i) one = if bit x i then one else zero := by
  have h := shr_and1 x i
  cases hb : bit x i with
  | true => rw [hb, eqb_iff] at h; simpa using h
  | false =>
    have : band (bshr x i) one = zero := by
      apply ext64; intro j hj
      rw [bit_and', bit_shr, bit_zero]
      by_cases e : j = 0
      · subst e; rw [Nat.add_zero, hb]; rfl
      · have : bit one j = false := by simp [bit, one, e]
        rw [this]; simp
    simpa using this
theorem eqb_self (x : BitVec 64) : eqb x x = true := by simp [eqb]
theorem eqb_oo : eqb one one = true := by decide
theorem eqb_oz : eqb one zero = false := by decide
theorem eqb_zo : eqb zero one = false := by decide
theorem eqb_zz : eqb zero zero = true := by decide

/- may a bit be 0, may it be 1: of a pair -/
def mz (v : BitVec 64) (j : Nat) : Bool := !bit v j
def mo (v m : BitVec 64) (j : Nat) : Bool := bit v j || bit m j

/- JoinBits -/
def joinV (av am bv bm : BitVec 64) (k : Nat) : BitVec 64 := acc (fun j => (mo av am j || mo bv bm j) && !(mz av j || mz bv j)) k
def joinM (av am bv bm : BitVec 64) (k : Nat) : BitVec 64 := acc (fun j => (mo av am j || mo bv bm j) && (mz av j || mz bv j)) k
theorem joinV_succ (av am bv bm : BitVec 64) (k : Nat) : putV (joinV av am bv bm k) k (mz av k || mz bv k) (mo av am k || mo bv bm k) = joinV av am bv bm (k + 1) := putV_acc (fun j => mz av j || mz bv j) (fun j => mo av am j || mo bv bm j) k
theorem joinM_succ (av am bv bm : BitVec 64) (k : Nat) : putM (joinM av am bv bm k) k (mz av k || mz bv k) (mo av am k || mo bv bm k) = joinM av am bv bm (k + 1) := putM_acc (fun j => mz av j || mz bv j) (fun j => mo av am j || mo bv bm j) k
/- MeetBits -/
def meetV (av am bv bm : BitVec 64) (k : Nat) : BitVec 64 := acc (fun j => (mo av am j && mo bv bm j) && !(mz av j && mz bv j)) k
def meetM (av am bv bm : BitVec 64) (k : Nat) : BitVec 64 := acc (fun j => (mo av am j && mo bv bm j) && (mz av j && mz bv j)) k
theorem meetV_succ (av am bv bm : BitVec 64) (k : Nat) : putV (meetV av am bv bm k) k (mz av k && mz bv k) (mo av am k && mo bv bm k) = meetV av am bv bm (k + 1) := putV_acc (fun j => mz av j && mz bv j) (fun j => mo av am j && mo bv bm j) k
theorem meetM_succ (av am bv bm : BitVec 64) (k : Nat) : putM (meetM av am bv bm k) k (mz av k && mz bv k) (mo av am k && mo bv bm k) = meetM av am bv bm (k + 1) := putM_acc (fun j => mz av j && mz bv j) (fun j => mo av am j && mo bv bm j) k
def meetOk (av am bv bm : BitVec 64) (j : Nat) : Bool := (mz av j && mz bv j) || (mo av am j && mo bv bm j)
/- ShiftBits: which bit comes from where -/
def shFrom (up : Bool) (n j : Nat) : Int := if up then (j : Int) - n else (j : Int) + n
def shz (up : Bool) (v : BitVec 64) (n j : Nat) : Bool := if 0 ≤ shFrom up n j ∧ shFrom up n j ≤ 63 then mz v (shFrom up n j).toNat else true
def sho (up : Bool) (v m : BitVec 64) (n j : Nat) : Bool := if 0 ≤ shFrom up n j ∧ shFrom up n j ≤ 63 then mo v m (shFrom up n j).toNat else false
def shV (up : Bool) (v m : BitVec 64) (n k : Nat) : BitVec 64 := acc (fun j => sho up v m n j && !shz up v n j) k
def shM (up : Bool) (v m : BitVec 64) (n k : Nat) : BitVec 64 := acc (fun j => sho up v m n j && shz up v n j) k
theorem shV_succ (up : Bool) (v m : BitVec 64) (n k : Nat) : putV (shV up v m n k) k (shz up v n k) (sho up v m n k) = shV up v m n (k + 1) := putV_acc (shz up v n) (sho up v m n) k
theorem shM_succ (up : Bool) (v m : BitVec 64) (n k : Nat) : putM (shM up v m n k) k (shz up v n k) (sho up v m n k) = shM up v m n (k + 1) := putM_acc (shz up v n) (sho up v m n) k
theorem sh_in (up : Bool) (v m : BitVec 64) (n k i : Nat) (h : shFrom up n k = i) (hi : i < 64) : mz v i = shz up v n k ∧ mo v m i = sho up v m n k := by
  unfold shz sho
  rw [h, if_pos (by omega), if_pos (by omega), Int.toNat_natCast]
  exact ⟨rfl, rfl⟩
theorem sh_out (up : Bool) (v m : BitVec 64) (n k : Nat) (h : ¬ (0 ≤ shFrom up n k ∧ shFrom up n k ≤ 63)) : true = shz up v n k ∧ false = sho up v m n k := by
  unfold shz sho
  rw [if_neg h, if_neg h]
  exact ⟨rfl, rfl⟩
/- SpanBits: the c highest bits are the same -/
def sameB (l h : BitVec 64) : Nat → Bool
  | 0 => true
  | c + 1 => sameB l h c && (bit l (63 - c) == bit h (63 - c))
def spz (l h : BitVec 64) (j : Nat) : Bool := !sameB l h (64 - j) || !bit l j
def spo (l h : BitVec 64) (j : Nat) : Bool := !sameB l h (64 - j) || bit l j
def spanV (l h : BitVec 64) (c : Nat) : BitVec 64 := accd (fun j => spo l h j && !spz l h j) c
def spanM (l h : BitVec 64) (c : Nat) : BitVec 64 := accd (fun j => spo l h j && spz l h j) c
theorem spanV_succ (l h : BitVec 64) (c i : Nat) (hi : i = 63 - c) : putV (spanV l h c) i (spz l h i) (spo l h i) = spanV l h (c + 1) := putV_accd (spz l h) (spo l h) c i hi
theorem spanM_succ (l h : BitVec 64) (c i : Nat) (hi : i = 63 - c) : putM (spanM l h c) i (spz l h i) (spo l h i) = spanM l h (c + 1) := putM_accd (spz l h) (spo l h) c i hi
theorem sp_step (l h : BitVec 64) (c i : Nat) (hi : i = 63 - c) (hc : c < 64) : sameB l h (c + 1) = (sameB l h c && (bit l i == bit h i))
    ∧ spz l h i = (!(sameB l h c && (bit l i == bit h i)) || !bit l i) ∧ spo l h i = (!(sameB l h c && (bit l i == bit h i)) || bit l i) := by
  have e : sameB l h (c + 1) = (sameB l h c && (bit l i == bit h i)) := by rw [hi]; rfl
  refine ⟨e, ?_, ?_⟩
  · unfold spz; rw [show 64 - i = c + 1 by omega, e]
  · unfold spo; rw [show 64 - i = c + 1 by omega, e]
/- InsideBits -/
def insOk (av am bv bm : BitVec 64) (j : Nat) : Bool := !(mz av j && !mz bv j) && !(mo av am j && !mo bv bm j)

/- the first place, of those below n, at which f says no -/
theorem first_no (f : Nat → Bool) (n : Nat) : (∀ j, j < n → f j = true) ∨ ∃ j, j < n ∧ f j = false ∧ ∀ i, i < j → f i = true := by
  induction n with
  | zero => exact Or.inl fun j h => absurd h (Nat.not_lt_zero j)
  | succ n ih =>
    rcases ih with h | ⟨j, hj, hf, hb⟩
    · cases hn : f n with
      | true => exact Or.inl fun j hj => by by_cases e : j = n; · rw [e, hn]
                                            · exact h j (by omega)
      | false => exact Or.inr ⟨n, Nat.lt_succ_self n, hn, h⟩
    · exact Or.inr ⟨j, by omega, hf, hb⟩

end Go.Proofs.Ytkigmocchaikgaa

/- The contracts of the reference's bits and of package bits: what each call hands back, and that nothing old has turned. -/
namespace Go.Proofs.Ytkigmocchaikgaa
open Go.RowKit
attribute [local go_sem] w_and w_or w_xor w_andNot w_and1 w_and63 w_add w_sub w_mul w_sub1 w_add1 w_shl w_shl1 w_shr c_beq c_bne c_beq0 c_bne0 c_beq1 c_bne1 wrap_nv

theorem bk {W w1 : World} (B : Nat) (hb : Below W.heap.size W w1) (h : B ≤ W.heap.size) :
    (∀ b o, b < B → w1.cell? ⟨b, o, none⟩ = W.cell? ⟨b, o, none⟩) ∧ (∀ b o, b < B → w1.frozen? ⟨b, o, none⟩ = W.frozen? ⟨b, o, none⟩) ∧ B ≤ w1.heap.size :=
  ⟨fun b o k => hb.cell (p := ⟨b, o, none⟩) (Nat.lt_of_lt_of_le k h), fun b o k => hb.frozen (p := ⟨b, o, none⟩) (Nat.lt_of_lt_of_le k h), Nat.le_trans h hb.size⟩
theorem bl {W w1 : World} {B : Nat} (hb : Below B W w1) :
    (∀ b o, b < B → w1.cell? ⟨b, o, none⟩ = W.cell? ⟨b, o, none⟩) ∧ (∀ b o, b < B → w1.frozen? ⟨b, o, none⟩ = W.frozen? ⟨b, o, none⟩) :=
  ⟨fun b o k => hb.cell (p := ⟨b, o, none⟩) k, fun b o k => hb.frozen (p := ⟨b, o, none⟩) k⟩
theorem set2_0 {w : World} {b : Nat} {u x y : Value} (h : w.cell? ⟨b, 0, none⟩ = some u) : ((w.setCell ⟨b, 0, none⟩ x).setCell ⟨b, 1, none⟩ y).cell? ⟨b, 0, none⟩ = some x := by
  rw [World.cell?_setCell_other _ _ _ _ (by simp), World.cell?_setCell_same _ _ _ h]
theorem set2_1 {w : World} {b : Nat} {u x y : Value} (h : w.cell? ⟨b, 1, none⟩ = some u) : ((w.setCell ⟨b, 0, none⟩ x).setCell ⟨b, 1, none⟩ y).cell? ⟨b, 1, none⟩ = some y := by
  have : (w.setCell ⟨b, 0, none⟩ x).cell? ⟨b, 1, none⟩ = some u := by rw [World.cell?_setCell_other _ _ _ _ (by simp), h]
  rw [World.cell?_setCell_same _ _ _ this]
theorem set2_below {w W : World} {B b : Nat} {x y : Value} (h : Below B w W) (hb : B ≤ b) : Below B w ((W.setCell ⟨b, 0, none⟩ x).setCell ⟨b, 1, none⟩ y) := (h.setCell hb x).setCell hb y

/- three worlds on: a pair that is stored, as the loop's relation wants it -/
theorem out_rel {W wr w3 : World} {B : Nat} {x y x' y' : BitVec 64} (hbel : Below B W wr) (hb : Below wr.heap.size wr w3) (hsz : B + 1 ≤ wr.heap.size)
    {u0 u1 : Value} (h0 : wr.cell? ⟨B, 0, none⟩ = some u0) (h1 : wr.cell? ⟨B, 1, none⟩ = some u1) (hf : ∀ o, wr.frozen? ⟨B, o, none⟩ = false) (ex : x = x') (ey : y = y') :
    Below B W ((w3.setCell ⟨B, 0, none⟩ (.int .u64 (nv x))).setCell ⟨B, 1, none⟩ (.int .u64 (nv y)))
    ∧ ((w3.setCell ⟨B, 0, none⟩ (.int .u64 (nv x))).setCell ⟨B, 1, none⟩ (.int .u64 (nv y))).cell? ⟨B, 0, none⟩ = some (U x')
    ∧ ((w3.setCell ⟨B, 0, none⟩ (.int .u64 (nv x))).setCell ⟨B, 1, none⟩ (.int .u64 (nv y))).cell? ⟨B, 1, none⟩ = some (U y')
    ∧ (∀ o, ((w3.setCell ⟨B, 0, none⟩ (.int .u64 (nv x))).setCell ⟨B, 1, none⟩ (.int .u64 (nv y))).frozen? ⟨B, o, none⟩ = false)
    ∧ B + 1 ≤ ((w3.setCell ⟨B, 0, none⟩ (.int .u64 (nv x))).setCell ⟨B, 1, none⟩ (.int .u64 (nv y))).heap.size := by
  subst ex; subst ey
  obtain ⟨hc, hfr, hs⟩ := bk (B + 1) hb hsz
  refine ⟨set2_below (hbel.trans (hb.mono (by omega))) (Nat.le_refl _), set2_0 ((hc B 0 (by omega)).trans h0), set2_1 ((hc B 1 (by omega)).trans h1), fun o => ?_, ?_⟩
  · simp only [World.frozen?_setCell]; exact (hfr B o (by omega)).trans (hf o)
  · simp only [World.size_setCell]; exact hs

theorem keep_rel {W wr w3 : World} {B : Nat} {x y x' y' : BitVec 64} (hbel : Below B W wr) (hb : Below wr.heap.size wr w3) (hsz : B + 1 ≤ wr.heap.size)
    (h0 : wr.cell? ⟨B, 0, none⟩ = some (U x)) (h1 : wr.cell? ⟨B, 1, none⟩ = some (U y)) (hf : ∀ o, wr.frozen? ⟨B, o, none⟩ = false) (ex : x = x') (ey : y = y') :
    Below B W w3 ∧ w3.cell? ⟨B, 0, none⟩ = some (U x') ∧ w3.cell? ⟨B, 1, none⟩ = some (U y') ∧ (∀ o, w3.frozen? ⟨B, o, none⟩ = false) ∧ B + 1 ≤ w3.heap.size := by
  subst ex; subst ey
  obtain ⟨hc, hfr, hs⟩ := bk (B + 1) hb hsz
  exact ⟨hbel.trans (hb.mono (by omega)), (hc B 0 (by omega)).trans h0, (hc B 1 (by omega)).trans h1, fun o => (hfr B o (by omega)).trans (hf o), hs⟩

set_option maxHeartbeats 400000 in
theorem without_any (x y : BitVec 64) (w : World) :
    Calls Try.prog 70 #[U x, U y] w fun e w' => e = .returned (Bt (bandn x y) y) ∧ Below w.heap.size w w' := by
  go_enter Try.func70, Try.ntmps70
  go_wp2
  exact bodyPost_ret (v := Bt (bandn x y) y) (by simp [results, Try.results70, go_sem]) rfl ⟨rfl, (by repeat (first | exact Below.refl _ _ | assumption | refine below_drewN ?_ _ | refine Below.drew ?_ | refine Below.alloc ?_ (by first | exact Nat.le_refl _ | (simp; done) | (simp; omega) | omega) _ | refine Below.setCell ?_ (by first | exact Nat.le_refl _ | (simp; done) | (simp; omega) | omega) _ | refine Below.trans ?_ (Below.mono (by assumption) (by first | exact Nat.le_refl _ | (simp; done) | (simp; omega) | omega))))⟩

set_option maxHeartbeats 400000 in
theorem up_any (v m : BitVec 64) (i : Nat) (hi : i < 64) (w : World) :
    Calls Try.prog 71 #[Bt v m, .int .u64 i] w fun e w' => e = .returned (Bt (bshl v i) (bshl m i)) ∧ Below w.heap.size w w' := by
  go_enter Try.func71, Try.ntmps71
  go_wp2
  exact bodyPost_ret (v := Bt (bshl v i) (bshl m i)) (by simp [results, Try.results71, go_sem]) rfl ⟨rfl, (by repeat (first | exact Below.refl _ _ | assumption | refine below_drewN ?_ _ | refine Below.drew ?_ | refine Below.alloc ?_ (by first | exact Nat.le_refl _ | (simp; done) | (simp; omega) | omega) _ | refine Below.setCell ?_ (by first | exact Nat.le_refl _ | (simp; done) | (simp; omega) | omega) _ | refine Below.trans ?_ (Below.mono (by assumption) (by first | exact Nat.le_refl _ | (simp; done) | (simp; omega) | omega))))⟩

set_option maxHeartbeats 400000 in
theorem may0 (v m : BitVec 64) (i : Nat) (hi : i < 64) (w : World) :
    Calls Try.prog 73 #[Bt v m, N i] w fun e w' => e = .returned (.tuple #[.bool (!bit v i), .bool (bit v i || bit m i)]) ∧ Below w.heap.size w w' := by
  have h1 := bit_and v i hi
  have h3 := bit_and m i hi
  cases hv : bit v i
  all_goals
    rw [hv] at h1
    clear hv
    go_enter Try.func73, Try.ntmps73
    go_wp2
    go_quiet (fail)
    go_wp2
    go_ret2
    exact ⟨rfl, (by repeat (first | exact Below.refl _ _ | assumption | refine below_drewN ?_ _ | refine Below.drew ?_ | refine Below.alloc ?_ (by first | exact Nat.le_refl _ | (simp; done) | (simp; omega) | omega) _ | refine Below.setCell ?_ (by first | exact Nat.le_refl _ | (simp; done) | (simp; omega) | omega) _ | refine Below.trans ?_ (Below.mono (by assumption) (by first | exact Nat.le_refl _ | (simp; done) | (simp; omega) | omega))))⟩

theorem may_eq (v m : BitVec 64) (i : Nat) : ∃ z o, Hid (z = mz v i) ∧ Hid (o = mo v m i) := ⟨_, _, rfl, rfl⟩
theorem may_any {v m : BitVec 64} {i : Nat} (hi : i < 64) {z o : Bool} (hz : Hid (z = mz v i)) (ho : Hid (o = mo v m i)) (w : World) :
    Calls Try.prog 73 #[Bt v m, N i] w fun e w' => e = .returned (.tuple #[.bool z, .bool o]) ∧ Below w.heap.size w w' := by
  rw [hz.out, ho.out]; exact may0 v m i hi w

set_option maxHeartbeats 400000 in
theorem put_any (v m : BitVec 64) (i : Nat) (hi : i < 64) (z o : Bool) (w : World) :
    Calls Try.prog 74 #[Bt v m, N i, .bool z, .bool o] w fun e w' => e = .returned (Bt (putV v i z o) (putM m i z o)) ∧ Below w.heap.size w w' := by
  cases z <;> cases o
  all_goals
    go_enter Try.func74, Try.ntmps74
    go_wp2
    refine bodyPost_ret (v := _) (by simp [results, Try.results74, go_sem, putV, putM]) rfl ⟨rfl, (by repeat (first | exact Below.refl _ _ | assumption | refine below_drewN ?_ _ | refine Below.drew ?_ | refine Below.alloc ?_ (by first | exact Nat.le_refl _ | (simp; done) | (simp; omega) | omega) _ | refine Below.setCell ?_ (by first | exact Nat.le_refl _ | (simp; done) | (simp; omega) | omega) _ | refine Below.trans ?_ (Below.mono (by assumption) (by first | exact Nat.le_refl _ | (simp; done) | (simp; omega) | omega))))⟩

set_option maxHeartbeats 400000 in
theorem right_any (v m : BitVec 64) (w : World) :
    Calls Try.prog 17 #[Bt v m] w fun e w' => e = .returned (.bool (eqb (band v m) zero)) ∧ Below w.heap.size w w' := by
  go_enter Try.func17, Try.ntmps17
  go_wp2
  go_ret
  exact ⟨rfl, (by repeat (first | exact Below.refl _ _ | assumption | refine below_drewN ?_ _ | refine Below.drew ?_ | refine Below.alloc ?_ (by first | exact Nat.le_refl _ | (simp; done) | (simp; omega) | omega) _ | refine Below.setCell ?_ (by first | exact Nat.le_refl _ | (simp; done) | (simp; omega) | omega) _ | refine Below.trans ?_ (Below.mono (by assumption) (by first | exact Nat.le_refl _ | (simp; done) | (simp; omega) | omega))))⟩
theorem right_is {v m : BitVec 64} {b : Bool} (h : eqb (band v m) zero = b) (w : World) :
    Calls Try.prog 17 #[Bt v m] w fun e w' => e = .returned (.bool b) ∧ Below w.heap.size w w' := h ▸ right_any v m w

set_option maxHeartbeats 400000 in
theorem within_any (n l h : Int) (w : World) :
    Calls Try.prog 75 #[N n, N l, N h] w fun e w' => e = .returned (.bool (decide (l ≤ n ∧ n ≤ h))) ∧ w = w' := by
  by_cases h1 : l ≤ n
  · by_cases h2 : n ≤ h
    all_goals
      go_enter Try.func75, Try.ntmps75
      go_wp2
      go_ret
      refine ⟨?_, rfl⟩
      simp [h1, h2] <;> omega
  · go_enter Try.func75, Try.ntmps75
    go_wp2
    go_ret
    refine ⟨?_, rfl⟩
    simp <;> omega

theorem within_yes {n l h : Int} (hd : l ≤ n ∧ n ≤ h) (w : World) : Calls Try.prog 75 #[N n, N l, N h] w fun e w' => e = .returned (.bool true) ∧ w = w' := by
  have := within_any n l h w
  rwa [decide_eq_true hd] at this
theorem within_no {n l h : Int} (hd : ¬ (l ≤ n ∧ n ≤ h)) (w : World) : Calls Try.prog 75 #[N n, N l, N h] w fun e w' => e = .returned (.bool false) ∧ w = w' := by
  have := within_any n l h w
  rwa [decide_eq_false hd] at this

end Go.Proofs.Ytkigmocchaikgaa

/- Boxes: blocks of the call's own, each with the values that it holds; they stay as they are while others work. -/
namespace Go.Proofs.Ytkigmocchaikgaa
open Go.RowKit

def BoxAt (w : World) (b : Nat) (vs : List Value) : Prop :=
  (∀ i v, vs[i]? = some v → w.cell? ⟨b, i, none⟩ = some v) ∧ (∀ i v, vs[i]? = some v → w.frozen? ⟨b, i, none⟩ = false) ∧ b < w.heap.size

def Boxes (w : World) : List (Nat × List Value) → Prop
  | [] => True
  | p :: L => BoxAt w p.1 p.2 ∧ (∀ q, q ∈ L → q.1 < p.1) ∧ Boxes w L

theorem BoxAt.keep {w w' : World} {b : Nat} {vs : List Value} (h : BoxAt w b vs) (hb : Below w.heap.size w w') : BoxAt w' b vs :=
  ⟨fun i v e => (hb.cell (p := ⟨b, i, none⟩) h.2.2).trans (h.1 i v e), fun i v e => (hb.frozen (p := ⟨b, i, none⟩) h.2.2).trans (h.2.1 i v e), Nat.lt_of_lt_of_le h.2.2 hb.size⟩
theorem Boxes.keep {w w' : World} : ∀ {L : List (Nat × List Value)}, Boxes w L → Below w.heap.size w w' → Boxes w' L
  | [], _, _ => trivial
  | _ :: _, h, hb => ⟨h.1.keep hb, h.2.1, Boxes.keep h.2.2 hb⟩
theorem Boxes.nil (w : World) : Boxes w [] := trivial
theorem Boxes.lt {w : World} : ∀ {L : List (Nat × List Value)}, Boxes w L → ∀ q, q ∈ L → q.1 < w.heap.size
  | [], _, _, hq => absurd hq (by simp)
  | p :: L, h, q, hq => by
    rcases List.mem_cons.1 hq with e | e
    · rw [e]; exact h.1.2.2
    · exact Boxes.lt h.2.2 q e
theorem Boxes.add {w : World} {L : List (Nat × List Value)} (h : Boxes w L) (cs : List Value) (t : TypeId) : Boxes (w.alloc (.cells cs.toArray t)) ((w.heap.size, cs) :: L) := by
  refine ⟨⟨fun i v e => ?_, fun i v e => ?_, by simp⟩, fun q hq => h.lt q hq, h.keep ((Below.refl _ _).alloc (Nat.le_refl _) _)⟩
  · rw [World.cell?_alloc_new]; simpa using e
  · rw [World.frozen?_alloc_new]
theorem Boxes.add2 {w : World} {L : List (Nat × List Value)} (h : Boxes w L) (x y : Value) (t : TypeId) : Boxes (w.alloc (.cells #[x, y] t)) ((w.heap.size, [x, y]) :: L) := h.add [x, y] t
theorem Boxes.add4 {w : World} {L : List (Nat × List Value)} (h : Boxes w L) (x y z u : Value) (t : TypeId) : Boxes (w.alloc (.cells #[x, y, z, u] t)) ((w.heap.size, [x, y, z, u]) :: L) := h.add [x, y, z, u] t
theorem Boxes.drew {w : World} {L : List (Nat × List Value)} (h : Boxes w L) (n : Nat) : Boxes (w.drewN n) L := h.keep (below_drewN (Below.refl _ _) n)

/- a box is written anew, as a whole -/
theorem BoxAt.other {w : World} {b b' i : Nat} {v : Value} {vs : List Value} (h : BoxAt w b vs) (hne : b ≠ b') : BoxAt (w.setCell ⟨b', i, none⟩ v) b vs := by
  refine ⟨fun j u e => ?_, fun j u e => ?_, by simpa using h.2.2⟩
  · rw [World.cell?_setCell_other _ _ _ _ (by intro h; injection h with h1; exact hne h1.symm)]; exact h.1 j u e
  · rw [World.frozen?_setCell]; exact h.2.1 j u e
theorem Boxes.other {w : World} {b' i : Nat} {v : Value} : ∀ {L : List (Nat × List Value)}, Boxes w L → (∀ q, q ∈ L → q.1 ≠ b') → Boxes (w.setCell ⟨b', i, none⟩ v) L
  | [], _, _ => trivial
  | p :: _, h, hn => ⟨h.1.other (hn p (by simp)), h.2.1, Boxes.other h.2.2 fun q hq => hn q (by simp [hq])⟩
theorem BoxAt.setOne {w : World} {b i : Nat} {v u : Value} {vs : List Value} (h : BoxAt w b vs) (hi : vs[i]? = some u) : BoxAt (w.setCell ⟨b, i, none⟩ v) b (vs.set i v) := by
  have hlt : i < vs.length := by
    rcases Nat.lt_or_ge i vs.length with h1 | h1
    · exact h1
    · rw [List.getElem?_eq_none h1] at hi; cases hi
  refine ⟨fun j y e => ?_, fun j y e => ?_, by simpa using h.2.2⟩
  · by_cases hj : i = j
    · subst hj
      rw [List.getElem?_set_self hlt] at e
      rw [World.cell?_setCell_same _ _ _ (h.1 i u hi)]; exact e
    · rw [List.getElem?_set_ne hj] at e
      rw [World.cell?_setCell_other _ _ _ _ (by intro h; injection h with _ h2; exact hj h2)]; exact h.1 j y e
  · rw [World.frozen?_setCell]
    by_cases hj : i = j
    · subst hj; exact h.2.1 i u hi
    · rw [List.getElem?_set_ne hj] at e; exact h.2.1 j y e
theorem Boxes.setOne {w : World} {b i : Nat} {v u : Value} {vs : List Value} : ∀ {L : List (Nat × List Value)} (k : Nat), Boxes w L → L[k]? = some (b, vs) → vs[i]? = some u → Boxes (w.setCell ⟨b, i, none⟩ v) (L.set k (b, vs.set i v))
  | [], _, _, e, _ => by simp at e
  | p :: L, 0, h, e, hi => by
    simp only [List.getElem?_cons_zero, Option.some.injEq] at e
    subst e
    exact ⟨h.1.setOne hi, h.2.1, h.2.2.other fun q hq => Nat.ne_of_lt (h.2.1 q hq)⟩
  | p :: L, k + 1, h, e, hi => by
    simp only [List.getElem?_cons_succ] at e
    have hm : (b, vs) ∈ L := List.mem_of_getElem? e
    refine ⟨h.1.other (Nat.ne_of_gt (h.2.1 _ hm)), fun q hq => ?_, Boxes.setOne k h.2.2 e hi⟩
    rcases List.mem_or_eq_of_mem_set hq with h1 | h1
    · exact h.2.1 q h1
    · rw [h1]; have := h.2.1 (b, vs) hm; exact this
theorem Boxes.set2 {w : World} {b : Nat} {x y u0 u1 : Value} {L : List (Nat × List Value)} (k : Nat) (h : Boxes w L) (e : L[k]? = some (b, [u0, u1])) :
    Boxes ((w.setCell ⟨b, 0, none⟩ x).setCell ⟨b, 1, none⟩ y) (L.set k (b, [x, y])) := by
  have h1 := Boxes.setOne (i := 0) (v := x) k h e rfl
  have e1 : (L.set k (b, [u0, u1].set 0 x))[k]? = some (b, [x, u1]) := by
    have : k < L.length := by
      rcases Nat.lt_or_ge k L.length with h2 | h2
      · exact h2
      · rw [List.getElem?_eq_none h2] at e; cases e
    rw [List.getElem?_set_self this]; rfl
  have h2 := Boxes.setOne (i := 1) (v := y) k h1 e1 rfl
  rw [List.set_set] at h2
  exact h2
theorem Boxes.set4 {w : World} {b : Nat} {x y z t u0 u1 u2 u3 : Value} {L : List (Nat × List Value)} (k : Nat) (h : Boxes w L) (e : L[k]? = some (b, [u0, u1, u2, u3])) :
    Boxes ((((w.setCell ⟨b, 0, none⟩ x).setCell ⟨b, 1, none⟩ y).setCell ⟨b, 2, none⟩ z).setCell ⟨b, 3, none⟩ t) (L.set k (b, [x, y, z, t])) := by
  have hk : k < L.length := by
    rcases Nat.lt_or_ge k L.length with h2 | h2
    · exact h2
    · rw [List.getElem?_eq_none h2] at e; cases e
  have h1 := Boxes.setOne (i := 0) (v := x) k h e rfl
  have h2 := Boxes.setOne (i := 1) (v := y) (vs := [x, u1, u2, u3]) k h1 (by rw [List.getElem?_set_self hk]; rfl) rfl
  rw [List.set_set] at h2
  have h3 := Boxes.setOne (i := 2) (v := z) (vs := [x, y, u2, u3]) k h2 (by rw [List.getElem?_set_self hk]; rfl) rfl
  rw [List.set_set] at h3
  have h4 := Boxes.setOne (i := 3) (v := t) (vs := [x, y, z, u3]) k h3 (by rw [List.getElem?_set_self hk]; rfl) rfl
  rw [List.set_set] at h4
  exact h4

/- what the walk wants of a box -/
theorem BoxAt.one {w : World} {b : Nat} {x : Value} (h : BoxAt w b [x]) : w.cell? ⟨b, 0, none⟩ = some x ∧ w.frozen? ⟨b, 0, none⟩ = false ∧ b < w.heap.size :=
  ⟨h.1 0 x rfl, h.2.1 0 x rfl, h.2.2⟩
theorem BoxAt.two {w : World} {b : Nat} {x y : Value} (h : BoxAt w b [x, y]) : w.cell? ⟨b, 0, none⟩ = some x ∧ w.cell? ⟨b, 1, none⟩ = some y ∧ w.frozen? ⟨b, 0, none⟩ = false ∧ w.frozen? ⟨b, 1, none⟩ = false ∧ b < w.heap.size :=
  ⟨h.1 0 x rfl, h.1 1 y rfl, h.2.1 0 x rfl, h.2.1 1 y rfl, h.2.2⟩
theorem BoxAt.four {w : World} {b : Nat} {x y z t : Value} (h : BoxAt w b [x, y, z, t]) : w.cell? ⟨b, 0, none⟩ = some x ∧ w.cell? ⟨b, 1, none⟩ = some y ∧ w.cell? ⟨b, 2, none⟩ = some z ∧ w.cell? ⟨b, 3, none⟩ = some t
    ∧ w.frozen? ⟨b, 0, none⟩ = false ∧ w.frozen? ⟨b, 1, none⟩ = false ∧ w.frozen? ⟨b, 2, none⟩ = false ∧ w.frozen? ⟨b, 3, none⟩ = false ∧ b < w.heap.size :=
  ⟨h.1 0 x rfl, h.1 1 y rfl, h.1 2 z rfl, h.1 3 t rfl, h.2.1 0 x rfl, h.2.1 1 y rfl, h.2.1 2 z rfl, h.2.1 3 t rfl, h.2.2⟩
theorem Boxes.head {w : World} {p : Nat × List Value} {L : List (Nat × List Value)} (h : Boxes w (p :: L)) : BoxAt w p.1 p.2 := h.1
theorem Boxes.tail {w : World} {p : Nat × List Value} {L : List (Nat × List Value)} (h : Boxes w (p :: L)) : Boxes w L := h.2.2

/- the call's own boxes, and that nothing older has turned -/
structure Kp (w0 w : World) (L : List (Nat × List Value)) : Prop where
  bel : Below w0.heap.size w0 w
  box : Boxes w L
  lo : ∀ p, p ∈ L → w0.heap.size ≤ p.1
theorem Kp.start (w : World) : Kp w w [] := ⟨Below.refl _ _, trivial, by simp⟩
theorem Kp.keep {w0 w w' : World} {L : List (Nat × List Value)} (h : Kp w0 w L) (hb : Below w.heap.size w w') : Kp w0 w' L := ⟨h.bel.trans (hb.mono h.bel.size), h.box.keep hb, h.lo⟩
theorem Kp.drew {w0 w : World} {L : List (Nat × List Value)} (h : Kp w0 w L) (n : Nat) : Kp w0 (w.drewN n) L := h.keep (below_drewN (Below.refl _ _) n)
theorem Kp.add2 {w0 w : World} {L : List (Nat × List Value)} (h : Kp w0 w L) (x y : Value) (t : TypeId) : Kp w0 (w.alloc (.cells #[x, y] t)) ((w.heap.size, [x, y]) :: L) :=
  ⟨h.bel.alloc h.bel.size _, h.box.add2 x y t, fun p hp => by
    rcases List.mem_cons.1 hp with e | e
    · rw [e]; exact h.bel.size
    · exact h.lo p e⟩
theorem Kp.add1 {w0 w : World} {L : List (Nat × List Value)} (h : Kp w0 w L) (x : Value) (t : TypeId) : Kp w0 (w.alloc (.cells #[x] t)) ((w.heap.size, [x]) :: L) :=
  ⟨h.bel.alloc h.bel.size _, h.box.add [x] t, fun p hp => by
    rcases List.mem_cons.1 hp with e | e
    · rw [e]; exact h.bel.size
    · exact h.lo p e⟩
theorem Kp.add4 {w0 w : World} {L : List (Nat × List Value)} (h : Kp w0 w L) (x y z u : Value) (t : TypeId) : Kp w0 (w.alloc (.cells #[x, y, z, u] t)) ((w.heap.size, [x, y, z, u]) :: L) :=
  ⟨h.bel.alloc h.bel.size _, h.box.add4 x y z u t, fun p hp => by
    rcases List.mem_cons.1 hp with e | e
    · rw [e]; exact h.bel.size
    · exact h.lo p e⟩
/- a block that is not kept in mind -/
theorem Kp.skip {w0 w : World} {L : List (Nat × List Value)} (h : Kp w0 w L) (o : Obj) : Kp w0 (w.alloc o) L := h.keep ((Below.refl _ _).alloc (Nat.le_refl _) _)
theorem Kp.set2 {w0 w : World} {b : Nat} {x y u0 u1 : Value} {L : List (Nat × List Value)} (k : Nat) (h : Kp w0 w L) (e : L[k]? = some (b, [u0, u1])) :
    Kp w0 ((w.setCell ⟨b, 0, none⟩ x).setCell ⟨b, 1, none⟩ y) (L.set k (b, [x, y])) := by
  have hlo : w0.heap.size ≤ b := h.lo _ (List.mem_of_getElem? e)
  refine ⟨(h.bel.setCell hlo x).setCell hlo y, h.box.set2 k e, fun p hp => ?_⟩
  rcases List.mem_or_eq_of_mem_set hp with h1 | h1
  · exact h.lo p h1
  · rw [h1]; exact hlo
theorem Kp.set4 {w0 w : World} {b : Nat} {x y z t u0 u1 u2 u3 : Value} {L : List (Nat × List Value)} (k : Nat) (h : Kp w0 w L) (e : L[k]? = some (b, [u0, u1, u2, u3])) :
    Kp w0 ((((w.setCell ⟨b, 0, none⟩ x).setCell ⟨b, 1, none⟩ y).setCell ⟨b, 2, none⟩ z).setCell ⟨b, 3, none⟩ t) (L.set k (b, [x, y, z, t])) := by
  have hlo : w0.heap.size ≤ b := h.lo _ (List.mem_of_getElem? e)
  refine ⟨(((h.bel.setCell hlo x).setCell hlo y).setCell hlo z).setCell hlo t, h.box.set4 k e, fun p hp => ?_⟩
  rcases List.mem_or_eq_of_mem_set hp with h1 | h1
  · exact h.lo p h1
  · rw [h1]; exact hlo

end Go.Proofs.Ytkigmocchaikgaa

/- The contracts of the reference's InsideBits and BitsHave. -/
namespace Go.Proofs.Ytkigmocchaikgaa
open Go.RowKit
attribute [local go_sem] w_and w_or w_xor w_andNot w_and1 w_and63 w_add w_sub w_mul w_sub1 w_add1 w_shl w_shl1 w_shr c_beq c_bne c_beq0 c_bne0 c_beq1 c_bne1 wrap_nv

def hasB (v m x : BitVec 64) : Bool := eqb (band v m) zero && eqb (bandn x m) v
set_option maxHeartbeats 400000 in
theorem bitsHave_any (v m x : BitVec 64) (w : World) :
    Calls Try.prog 25 #[Bt v m, U x] w fun e w' => e = .returned (.bool (hasB v m x)) ∧ Below w.heap.size w w' := by
  have Hh : Hid (hasB v m x = (eqb (band v m) zero && eqb (bandn x m) v)) := rfl
  cases hr : eqb (band v m) zero
  all_goals
    rw [hr] at Hh
    have Hr : Hid (eqb (band v m) zero = _) := hr
    clear hr
    go_enter Try.func25, Try.ntmps25
    go_wp2_with fail
    refine (right_is Hr.out _).mono ?_
    rintro e w1 ⟨rfl, hb1⟩
    obtain ⟨hc1, hf1, hs1⟩ := bk (w.heap.size + 1) hb1 (by simp)
    go_wp2_with fail
    go_ret
    rw [Hh.out]
    exact ⟨rfl, (by repeat (first | exact Below.refl _ _ | assumption | refine below_drewN ?_ _ | refine Below.drew ?_ | refine Below.alloc ?_ (by first | exact Nat.le_refl _ | (simp; done) | (simp; omega) | omega) _ | refine Below.setCell ?_ (by first | exact Nat.le_refl _ | (simp; done) | (simp; omega) | omega) _ | refine Below.trans ?_ (Below.mono (by assumption) (by first | exact Nat.le_refl _ | (simp; done) | (simp; omega) | omega))))⟩

set_option maxHeartbeats 600000 in
theorem insideBits_wrong (av am bv bm : BitVec 64) (hr : (eqb (band av am) zero && eqb (band bv bm) zero) = false) (w : World) :
    Calls Try.prog 27 #[Bt av am, Bt bv bm] w fun e w' => e = .returned (.bool false) ∧ Below w.heap.size w w' := by
  cases ha : eqb (band av am) zero
  · have Ha : Hid (eqb (band av am) zero = _) := ha
    clear hr ha
    go_enter Try.func27, Try.ntmps27
    go_wp2_with fail
    refine (right_is Ha.out _).mono ?_
    rintro e w1 ⟨rfl, hb1⟩
    obtain ⟨hc1, hf1, hs1⟩ := bk (w.heap.size + 1 + 1) hb1 (by simp)
    go_wp2_with fail
    go_ret
    exact ⟨rfl, (by repeat (first | exact Below.refl _ _ | assumption | refine below_drewN ?_ _ | refine Below.drew ?_ | refine Below.alloc ?_ (by first | exact Nat.le_refl _ | (simp; done) | (simp; omega) | omega) _ | refine Below.setCell ?_ (by first | exact Nat.le_refl _ | (simp; done) | (simp; omega) | omega) _ | refine Below.trans ?_ (Below.mono (by assumption) (by first | exact Nat.le_refl _ | (simp; done) | (simp; omega) | omega))))⟩
  · rw [ha, Bool.true_and] at hr
    have Ha : Hid (eqb (band av am) zero = _) := ha
    have Hb : Hid (eqb (band bv bm) zero = _) := hr
    clear hr ha
    go_enter Try.func27, Try.ntmps27
    go_wp2_with fail
    refine (right_is Ha.out _).mono ?_
    rintro e w1 ⟨rfl, hb1⟩
    obtain ⟨hc1, hf1, hs1⟩ := bk (w.heap.size + 1 + 1) hb1 (by simp)
    go_wp2_with fail
    refine (right_is Hb.out _).mono ?_
    rintro e w2 ⟨rfl, hb2⟩
    obtain ⟨hc2, hf2, hs2⟩ := bk (w.heap.size + 1 + 1) hb2 hs1
    go_wp2_with fail
    go_ret
    exact ⟨rfl, (by repeat (first | exact Below.refl _ _ | assumption | refine below_drewN ?_ _ | refine Below.drew ?_ | refine Below.alloc ?_ (by first | exact Nat.le_refl _ | (simp; done) | (simp; omega) | omega) _ | refine Below.setCell ?_ (by first | exact Nat.le_refl _ | (simp; done) | (simp; omega) | omega) _ | refine Below.trans ?_ (Below.mono (by assumption) (by first | exact Nat.le_refl _ | (simp; done) | (simp; omega) | omega))))⟩

set_option maxHeartbeats 600000 in
theorem insideBits_yes (av am bv bm : BitVec 64) (ha : Hid (eqb (band av am) zero = true)) (hb : Hid (eqb (band bv bm) zero = true)) (hok : Hid (∀ j, j < 64 → insOk av am bv bm j = true)) (w : World) :
    Calls Try.prog 27 #[Bt av am, Bt bv bm] w fun e w' => e = .returned (.bool true) ∧ Below w.heap.size w w' := by
  go_enter Try.func27, Try.ntmps27
  go_wp2_with fail
  refine (right_is ha.out _).mono ?_
  rintro e w1 ⟨rfl, hb1⟩
  obtain ⟨hc1, hf1, hs1⟩ := bk (w.heap.size + 1 + 1) hb1 (by simp)
  go_wp2_with fail
  refine (right_is hb.out _).mono ?_
  rintro e w2 ⟨rfl, hb2⟩
  obtain ⟨hc2, hf2, hs2⟩ := bk (w.heap.size + 1 + 1) hb2 hs1
  go_wp2_with fail
  have hst : Below (w.heap.size + 1 + 1) ((w.alloc (.cells #[U av, U am] 24)).alloc (.cells #[U bv, U bm] 24)) w2 := (hb1.mono (by simp)).trans (hb2.mono hs1)
  clear hb1 hb2 hc1 hf1 hc2 hf2 hs1
  go_loopw [5] (fun i wr => ∃ k : Nat, k ≤ 64 ∧ i = N k
      ∧ Below (w.heap.size + 1 + 1) ((w.alloc (.cells #[U av, U am] 24)).alloc (.cells #[U bv, U bm] 24)) wr
      ∧ w.heap.size + 1 + 1 ≤ wr.heap.size) (fun i _ => 64 - (intOf i).toNat)
  case atStart => exact ⟨0, by omega, rfl, hst, hs2⟩
  case round =>
    clear hst hs2
    obtain ⟨k, hk, rfl, hbel, hsz⟩ := hrel
    obtain ⟨hc, hf⟩ := bl hbel
    by_cases hlt : k < 64
    · obtain ⟨z1, o1, H1, H2⟩ := may_eq av am k
      obtain ⟨z2, o2, H3, H4⟩ := may_eq bv bm k
      have Hok : Hid ((!(z1 && !z2) && !(o1 && !o2)) = true) := by rw [H1.out, H2.out, H3.out, H4.out]; exact hok.out k hlt
      go_wp2_with fail
      refine (may_any hlt H1 H2 _).mono ?_
      rintro e w1 ⟨rfl, hb1⟩
      obtain ⟨hc1, hf1, hs1⟩ := bk _ hb1 hsz
      go_wp2_with fail
      refine (may_any hlt H3 H4 _).mono ?_
      rintro e w2 ⟨rfl, hb2⟩
      obtain ⟨hc2, hf2, hs2⟩ := bk _ hb2 hs1
      cases z1 <;> cases o1 <;> cases z2 <;> cases o2 <;> first
        | exact absurd Hok.out (by decide)
        | (clear Hok
           go_wp2_with fail
           exact ⟨⟨k + 1, by omega, by go_num, (hbel.trans (hb1.mono hsz)).trans (hb2.mono hs1), hs2⟩, by simp [intOf]; omega⟩)
    · have hk64 : k = 64 := by omega
      subst hk64
      go_wp2_with fail
      go_ret
      exact ⟨rfl, (by repeat (first | exact Below.refl _ _ | assumption | refine below_drewN ?_ _ | refine Below.drew ?_ | refine Below.alloc ?_ (by first | exact Nat.le_refl _ | (simp; done) | (simp; omega) | omega) _ | refine Below.setCell ?_ (by first | exact Nat.le_refl _ | (simp; done) | (simp; omega) | omega) _ | refine Below.trans ?_ (Below.mono (by assumption) (by first | exact Nat.le_refl _ | (simp; done) | (simp; omega) | omega))))⟩

set_option maxHeartbeats 600000 in
theorem insideBits_no (av am bv bm : BitVec 64) (ha : Hid (eqb (band av am) zero = true)) (hb : Hid (eqb (band bv bm) zero = true)) (j0 : Nat) (hj : j0 < 64) (hno : Hid (insOk av am bv bm j0 = false))
    (hok : Hid (∀ j, j < j0 → insOk av am bv bm j = true)) (w : World) :
    Calls Try.prog 27 #[Bt av am, Bt bv bm] w fun e w' => e = .returned (.bool false) ∧ Below w.heap.size w w' := by
  go_enter Try.func27, Try.ntmps27
  go_wp2_with fail
  refine (right_is ha.out _).mono ?_
  rintro e w1 ⟨rfl, hb1⟩
  obtain ⟨hc1, hf1, hs1⟩ := bk (w.heap.size + 1 + 1) hb1 (by simp)
  go_wp2_with fail
  refine (right_is hb.out _).mono ?_
  rintro e w2 ⟨rfl, hb2⟩
  obtain ⟨hc2, hf2, hs2⟩ := bk (w.heap.size + 1 + 1) hb2 hs1
  go_wp2_with fail
  have hst : Below (w.heap.size + 1 + 1) ((w.alloc (.cells #[U av, U am] 24)).alloc (.cells #[U bv, U bm] 24)) w2 := (hb1.mono (by simp)).trans (hb2.mono hs1)
  clear hb1 hb2 hc1 hf1 hc2 hf2 hs1
  go_loopw [5] (fun i wr => ∃ k : Nat, k ≤ j0 ∧ i = N k
      ∧ Below (w.heap.size + 1 + 1) ((w.alloc (.cells #[U av, U am] 24)).alloc (.cells #[U bv, U bm] 24)) wr
      ∧ w.heap.size + 1 + 1 ≤ wr.heap.size) (fun i _ => 64 - (intOf i).toNat)
  case atStart => exact ⟨0, by omega, rfl, hst, hs2⟩
  case round =>
    clear hst hs2
    obtain ⟨k, hk, rfl, hbel, hsz⟩ := hrel
    obtain ⟨hc, hf⟩ := bl hbel
    have hlt : k < 64 := by omega
    obtain ⟨z1, o1, H1, H2⟩ := may_eq av am k
    obtain ⟨z2, o2, H3, H4⟩ := may_eq bv bm k
    by_cases hlj : k < j0
    · have Hok : Hid ((!(z1 && !z2) && !(o1 && !o2)) = true) := by rw [H1.out, H2.out, H3.out, H4.out]; exact hok.out k hlj
      go_wp2_with fail
      refine (may_any hlt H1 H2 _).mono ?_
      rintro e w1 ⟨rfl, hb1⟩
      obtain ⟨hc1, hf1, hs1⟩ := bk _ hb1 hsz
      go_wp2_with fail
      refine (may_any hlt H3 H4 _).mono ?_
      rintro e w2 ⟨rfl, hb2⟩
      obtain ⟨hc2, hf2, hs2⟩ := bk _ hb2 hs1
      cases z1 <;> cases o1 <;> cases z2 <;> cases o2 <;> first
        | exact absurd Hok.out (by decide)
        | (clear Hok
           go_wp2_with fail
           exact ⟨⟨k + 1, by omega, by go_num, (hbel.trans (hb1.mono hsz)).trans (hb2.mono hs1), hs2⟩, by simp [intOf]; omega⟩)
    · have ek : k = j0 := by omega
      have Hno : Hid ((!(z1 && !z2) && !(o1 && !o2)) = false) := by rw [H1.out, H2.out, H3.out, H4.out, ek]; exact hno.out
      clear ek
      go_wp2_with fail
      refine (may_any hlt H1 H2 _).mono ?_
      rintro e w1 ⟨rfl, hb1⟩
      obtain ⟨hc1, hf1, hs1⟩ := bk _ hb1 hsz
      go_wp2_with fail
      refine (may_any hlt H3 H4 _).mono ?_
      rintro e w2 ⟨rfl, hb2⟩
      obtain ⟨hc2, hf2, hs2⟩ := bk _ hb2 hs1
      cases z1 <;> cases o1 <;> cases z2 <;> cases o2 <;> first
        | exact absurd Hno.out (by decide)
        | (clear Hno
           go_wp2_with fail
           go_ret
           exact ⟨rfl, (by repeat (first | exact Below.refl _ _ | assumption | refine below_drewN ?_ _ | refine Below.drew ?_ | refine Below.alloc ?_ (by first | exact Nat.le_refl _ | (simp; done) | (simp; omega) | omega) _ | refine Below.setCell ?_ (by first | exact Nat.le_refl _ | (simp; done) | (simp; omega) | omega) _ | refine Below.trans ?_ (Below.mono (by assumption) (by first | exact Nat.le_refl _ | (simp; done) | (simp; omega) | omega))))⟩)

end Go.Proofs.Ytkigmocchaikgaa

/- The contracts of package bits: checkAll, Check, Has, Inside, Join, Meet, Shift. -/
namespace Go.Proofs.Ytkigmocchaikgaa
open Go.RowKit
attribute [local go_sem] w_and w_or w_xor w_andNot w_and1 w_and63 w_add w_sub w_mul w_sub1 w_add1 w_shl w_shl1 w_shr c_beq c_bne c_beq0 c_bne0 c_beq1 c_bne1 wrap_nv

set_option maxHeartbeats 400000 in
theorem check1_ok (v m : BitVec 64) (b c : Nat) (w : World) (_hbw : b < w.heap.size) (h0 : w.cell? ⟨b, 0, none⟩ = some (U v)) (h1 : w.cell? ⟨b, 1, none⟩ = some (U m)) (hr : eqb (band v m) zero = true) :
    Calls Try.prog 69 #[.slice (some ⟨b, 0, none⟩) 1 c] w fun e w' => e = .returned (N 0) ∧ Below w.heap.size w w' := by
  go_enter Try.func69, Try.ntmps69
  go_wp2
  go_rounds 2
  go_ret
  exact ⟨rfl, (by repeat (first | exact Below.refl _ _ | assumption | refine below_drewN ?_ _ | refine Below.drew ?_ | refine Below.alloc ?_ (by first | exact Nat.le_refl _ | (simp; done) | (simp; omega) | omega) _ | refine Below.setCell ?_ (by first | exact Nat.le_refl _ | (simp; done) | (simp; omega) | omega) _ | refine Below.trans ?_ (Below.mono (by assumption) (by first | exact Nat.le_refl _ | (simp; done) | (simp; omega) | omega))))⟩
set_option maxHeartbeats 400000 in
theorem check1_no (v m : BitVec 64) (b c : Nat) (w : World) (_hbw : b < w.heap.size) (h0 : w.cell? ⟨b, 0, none⟩ = some (U v)) (h1 : w.cell? ⟨b, 1, none⟩ = some (U m)) (hr : eqb (band v m) zero = false) :
    Calls Try.prog 69 #[.slice (some ⟨b, 0, none⟩) 1 c] w fun e w' => e = .returned (N 1) ∧ Below w.heap.size w w' := by
  go_enter Try.func69, Try.ntmps69
  go_wp2
  go_rounds 1
  go_ret
  exact ⟨rfl, (by repeat (first | exact Below.refl _ _ | assumption | refine below_drewN ?_ _ | refine Below.drew ?_ | refine Below.alloc ?_ (by first | exact Nat.le_refl _ | (simp; done) | (simp; omega) | omega) _ | refine Below.setCell ?_ (by first | exact Nat.le_refl _ | (simp; done) | (simp; omega) | omega) _ | refine Below.trans ?_ (Below.mono (by assumption) (by first | exact Nat.le_refl _ | (simp; done) | (simp; omega) | omega))))⟩
set_option maxHeartbeats 400000 in
theorem check2_ok (v m v' m' : BitVec 64) (b c : Nat) (w : World) (hbw : b < w.heap.size) (h0 : w.cell? ⟨b, 0, none⟩ = some (U v)) (h1 : w.cell? ⟨b, 1, none⟩ = some (U m)) (h2 : w.cell? ⟨b, 2, none⟩ = some (U v')) (h3 : w.cell? ⟨b, 3, none⟩ = some (U m'))
    (hr : eqb (band v m) zero = true) (hr' : eqb (band v' m') zero = true) :
    Calls Try.prog 69 #[.slice (some ⟨b, 0, none⟩) 2 c] w fun e w' => e = .returned (N 0) ∧ Below w.heap.size w w' := by
  go_enter Try.func69, Try.ntmps69
  go_wp2
  refine wp_loop_rounds 3 ?_
  rw [rounds_succ]; go_wp2
  rw [rounds_succ]; go_wp2
  rw [rounds_succ]; go_wp2
  go_ret
  exact ⟨rfl, (by repeat (first | exact Below.refl _ _ | assumption | refine below_drewN ?_ _ | refine Below.drew ?_ | refine Below.alloc ?_ (by first | exact Nat.le_refl _ | (simp; done) | (simp; omega) | omega) _ | refine Below.setCell ?_ (by first | exact Nat.le_refl _ | (simp; done) | (simp; omega) | omega) _ | refine Below.trans ?_ (Below.mono (by assumption) (by first | exact Nat.le_refl _ | (simp; done) | (simp; omega) | omega))))⟩
set_option maxHeartbeats 400000 in
theorem check2_no (v m v' m' : BitVec 64) (b c : Nat) (w : World) (hbw : b < w.heap.size) (h0 : w.cell? ⟨b, 0, none⟩ = some (U v)) (h1 : w.cell? ⟨b, 1, none⟩ = some (U m)) (h2 : w.cell? ⟨b, 2, none⟩ = some (U v')) (h3 : w.cell? ⟨b, 3, none⟩ = some (U m'))
    (hr : (eqb (band v m) zero && eqb (band v' m') zero) = false) :
    Calls Try.prog 69 #[.slice (some ⟨b, 0, none⟩) 2 c] w fun e w' => e = .returned (N 1) ∧ Below w.heap.size w w' := by
  cases hv : eqb (band v m) zero
  · clear hr
    go_enter Try.func69, Try.ntmps69
    go_wp2
    refine wp_loop_rounds 3 ?_
    rw [rounds_succ]; go_wp2
    go_ret
    exact ⟨rfl, (by repeat (first | exact Below.refl _ _ | assumption | refine below_drewN ?_ _ | refine Below.drew ?_ | refine Below.alloc ?_ (by first | exact Nat.le_refl _ | (simp; done) | (simp; omega) | omega) _ | refine Below.setCell ?_ (by first | exact Nat.le_refl _ | (simp; done) | (simp; omega) | omega) _ | refine Below.trans ?_ (Below.mono (by assumption) (by first | exact Nat.le_refl _ | (simp; done) | (simp; omega) | omega))))⟩
  · have hr' : eqb (band v' m') zero = false := by rw [hv] at hr; simpa using hr
    clear hr
    go_enter Try.func69, Try.ntmps69
    go_wp2
    refine wp_loop_rounds 3 ?_
    rw [rounds_succ]; go_wp2
    rw [rounds_succ]; go_wp2
    go_ret
    exact ⟨rfl, (by repeat (first | exact Below.refl _ _ | assumption | refine below_drewN ?_ _ | refine Below.drew ?_ | refine Below.alloc ?_ (by first | exact Nat.le_refl _ | (simp; done) | (simp; omega) | omega) _ | refine Below.setCell ?_ (by first | exact Nat.le_refl _ | (simp; done) | (simp; omega) | omega) _ | refine Below.trans ?_ (Below.mono (by assumption) (by first | exact Nat.le_refl _ | (simp; done) | (simp; omega) | omega))))⟩

/- what 'Check' says -/
def er (b : Bool) : Int := if b then 0 else 1
theorem er_t : er true = 0 := rfl
theorem er_f : er false = 1 := rfl
theorem check1_is {v m : BitVec 64} {r : Bool} (hr : Hid (eqb (band v m) zero = r)) {b c : Nat} {w : World} (hbw : b < w.heap.size) (h0 : w.cell? ⟨b, 0, none⟩ = some (U v)) (h1 : w.cell? ⟨b, 1, none⟩ = some (U m)) :
    Calls Try.prog 69 #[.slice (some ⟨b, 0, none⟩) 1 c] w fun e w' => e = .returned (N (er r)) ∧ Below w.heap.size w w' := by
  cases r
  · exact check1_no v m b c w hbw h0 h1 hr.out
  · exact check1_ok v m b c w hbw h0 h1 hr.out
theorem check2_is {v m v' m' : BitVec 64} {r : Bool} (hr : Hid ((eqb (band v m) zero && eqb (band v' m') zero) = r)) {b c : Nat} {w : World} (hbw : b < w.heap.size) (h0 : w.cell? ⟨b, 0, none⟩ = some (U v)) (h1 : w.cell? ⟨b, 1, none⟩ = some (U m)) (h2 : w.cell? ⟨b, 2, none⟩ = some (U v')) (h3 : w.cell? ⟨b, 3, none⟩ = some (U m')) :
    Calls Try.prog 69 #[.slice (some ⟨b, 0, none⟩) 2 c] w fun e w' => e = .returned (N (er r)) ∧ Below w.heap.size w w' := by
  cases r
  · exact check2_no v m v' m' b c w hbw h0 h1 h2 h3 hr.out
  · have h := hr.out
    rw [Bool.and_eq_true] at h
    exact check2_ok v m v' m' b c w hbw h0 h1 h2 h3 h.1 h.2

set_option maxHeartbeats 400000 in
theorem check_any {v m : BitVec 64} {r : Bool} (hr : Hid (eqb (band v m) zero = r)) (w : World) :
    Calls Try.prog 23 #[Bt v m] w fun e w' => e = .returned (N (er r)) ∧ Below w.heap.size w w' := by
  go_enter Try.func23, Try.ntmps23
  go_wp2_with fail
  refine (check1_is hr (by simp) (by simp [go_sem]) (by simp [go_sem])).mono ?_
  rintro e w1 ⟨rfl, hb1⟩
  go_wp2_with fail
  go_ret
  exact ⟨rfl, (by repeat (first | exact Below.refl _ _ | assumption | refine below_drewN ?_ _ | refine Below.drew ?_ | refine Below.alloc ?_ (by first | exact Nat.le_refl _ | (simp; done) | (simp; omega) | omega) _ | refine Below.setCell ?_ (by first | exact Nat.le_refl _ | (simp; done) | (simp; omega) | omega) _ | refine Below.trans ?_ (Below.mono (by assumption) (by first | exact Nat.le_refl _ | (simp; done) | (simp; omega) | omega))))⟩

set_option maxHeartbeats 400000 in
theorem has_any (v m x : BitVec 64) (w : World) :
    Calls Try.prog 24 #[Bt v m, U x] w fun e w' => e = .returned (.bool (hasB v m x)) ∧ Below w.heap.size w w' := by
  have Hh : Hid (hasB v m x = (eqb (band v m) zero && eqb (bandn x m) v)) := rfl
  cases hr : eqb (band v m) zero
  all_goals
    rw [hr] at Hh
    have Hr : Hid (eqb (band v m) zero = _) := hr
    clear hr
    go_enter Try.func24, Try.ntmps24
    go_wp2_with fail
    refine (check1_is Hr (by simp) (by simp [go_sem]) (by simp [go_sem])).mono ?_
    rintro e w1 ⟨rfl, hb1⟩
    obtain ⟨hc1, hf1, hs1⟩ := bk (w.heap.size + 1) hb1 (by simp)
    first | rw [er_t] | rw [er_f]
    go_wp2_with fail
    go_ret
    rw [Hh.out]
    exact ⟨rfl, (by repeat (first | exact Below.refl _ _ | assumption | refine below_drewN ?_ _ | refine Below.drew ?_ | refine Below.alloc ?_ (by first | exact Nat.le_refl _ | (simp; done) | (simp; omega) | omega) _ | refine Below.setCell ?_ (by first | exact Nat.le_refl _ | (simp; done) | (simp; omega) | omega) _ | refine Below.trans ?_ (Below.mono (by assumption) (by first | exact Nat.le_refl _ | (simp; done) | (simp; omega) | omega))))⟩

def insB (av am bv bm : BitVec 64) : Bool := (eqb (band av am) zero && eqb (band bv bm) zero) && (eqb (bandn am bm) zero && eqb (bandn av bm) bv)
set_option maxHeartbeats 400000 in
theorem inside_any (av am bv bm : BitVec 64) (w : World) :
    Calls Try.prog 26 #[Bt av am, Bt bv bm] w fun e w' => e = .returned (.bool (insB av am bv bm)) ∧ Below w.heap.size w w' := by
  have Hh : Hid (insB av am bv bm = ((eqb (band av am) zero && eqb (band bv bm) zero) && (eqb (bandn am bm) zero && eqb (bandn av bm) bv))) := rfl
  cases hr : (eqb (band av am) zero && eqb (band bv bm) zero)
  · rw [hr] at Hh
    have Hr : Hid _ := hr
    clear hr
    go_enter Try.func26, Try.ntmps26
    go_wp2_with fail
    refine (check2_is Hr (by simp) (by simp [go_sem]) (by simp [go_sem]) (by simp [go_sem]) (by simp [go_sem])).mono ?_
    rintro e w1 ⟨rfl, hb1⟩
    obtain ⟨hc1, hf1, hs1⟩ := bk (w.heap.size + 1 + 1) hb1 (by simp)
    first | rw [er_t] | rw [er_f]
    go_wp2_with fail
    go_ret
    rw [Hh.out]
    exact ⟨rfl, (by repeat (first | exact Below.refl _ _ | assumption | refine below_drewN ?_ _ | refine Below.drew ?_ | refine Below.alloc ?_ (by first | exact Nat.le_refl _ | (simp; done) | (simp; omega) | omega) _ | refine Below.setCell ?_ (by first | exact Nat.le_refl _ | (simp; done) | (simp; omega) | omega) _ | refine Below.trans ?_ (Below.mono (by assumption) (by first | exact Nat.le_refl _ | (simp; done) | (simp; omega) | omega))))⟩
  · rw [hr] at Hh
    have Hr : Hid _ := hr
    clear hr
    cases hm : eqb (bandn am bm) zero
    all_goals
      rw [hm] at Hh
      go_enter Try.func26, Try.ntmps26
      go_wp2_with fail
      refine (check2_is Hr (by simp) (by simp [go_sem]) (by simp [go_sem]) (by simp [go_sem]) (by simp [go_sem])).mono ?_
      rintro e w1 ⟨rfl, hb1⟩
      obtain ⟨hc1, hf1, hs1⟩ := bk (w.heap.size + 1 + 1) hb1 (by simp)
      first | rw [er_t] | rw [er_f]
      go_wp2_with fail
      go_ret
      rw [Hh.out]
      exact ⟨rfl, (by repeat (first | exact Below.refl _ _ | assumption | refine below_drewN ?_ _ | refine Below.drew ?_ | refine Below.alloc ?_ (by first | exact Nat.le_refl _ | (simp; done) | (simp; omega) | omega) _ | refine Below.setCell ?_ (by first | exact Nat.le_refl _ | (simp; done) | (simp; omega) | omega) _ | refine Below.trans ?_ (Below.mono (by assumption) (by first | exact Nat.le_refl _ | (simp; done) | (simp; omega) | omega))))⟩

set_option maxHeartbeats 400000 in
theorem join_no {av am bv bm : BitVec 64} (hr : Hid ((eqb (band av am) zero && eqb (band bv bm) zero) = false)) (w : World) :
    Calls Try.prog 13 #[Bt av am, Bt bv bm] w fun e w' => e = .returned (.tuple #[Bt zero zero, N 1]) ∧ Below w.heap.size w w' := by
  go_enter Try.func13, Try.ntmps13
  go_wp2_with fail
  refine (check2_is hr (by simp) (by simp [go_sem]) (by simp [go_sem]) (by simp [go_sem]) (by simp [go_sem])).mono ?_
  rintro e w1 ⟨rfl, hb1⟩
  obtain ⟨hc1, hf1, hs1⟩ := bk (w.heap.size + 1 + 1 + 1) hb1 (by simp)
  first | rw [er_t] | rw [er_f]
  go_wp2_with fail
  exact bodyPost_ret (v := .tuple #[Bt zero zero, N 1]) (by simp [results, Try.results13, go_sem, hc1, nv_zero]) rfl ⟨rfl, (by repeat (first | exact Below.refl _ _ | assumption | refine below_drewN ?_ _ | refine Below.drew ?_ | refine Below.alloc ?_ (by first | exact Nat.le_refl _ | (simp; done) | (simp; omega) | omega) _ | refine Below.setCell ?_ (by first | exact Nat.le_refl _ | (simp; done) | (simp; omega) | omega) _ | refine Below.trans ?_ (Below.mono (by assumption) (by first | exact Nat.le_refl _ | (simp; done) | (simp; omega) | omega))))⟩
def jM (av am bv bm : BitVec 64) : BitVec 64 := bor (bor am bm) (bxor av bv)
set_option maxHeartbeats 400000 in
theorem join_ok {av am bv bm : BitVec 64} (hr : Hid ((eqb (band av am) zero && eqb (band bv bm) zero) = true)) (w : World) :
    Calls Try.prog 13 #[Bt av am, Bt bv bm] w fun e w' => e = .returned (.tuple #[Bt (bandn av (jM av am bv bm)) (jM av am bv bm), N 0]) ∧ Below w.heap.size w w' := by
  go_enter Try.func13, Try.ntmps13
  go_wp2_with fail
  refine (check2_is hr (by simp) (by simp [go_sem]) (by simp [go_sem]) (by simp [go_sem]) (by simp [go_sem])).mono ?_
  rintro e w1 ⟨rfl, hb1⟩
  obtain ⟨hc1, hf1, hs1⟩ := bk (w.heap.size + 1 + 1 + 1) hb1 (by simp)
  first | rw [er_t] | rw [er_f]
  go_wp2_with fail
  refine (without_any _ _ _).mono ?_
  rintro e w2 ⟨rfl, hb2⟩
  obtain ⟨hc2, hf2, hs2⟩ := bk (w.heap.size + 1 + 1 + 1) hb2 (by omega)
  go_wp2_with fail
  exact bodyPost_ret (v := .tuple #[Bt (bandn av (jM av am bv bm)) (jM av am bv bm), N 0]) (by simp [results, Try.results13, go_sem, hc1, hc2, jM]) rfl ⟨rfl, (by repeat (first | exact Below.refl _ _ | assumption | refine below_drewN ?_ _ | refine Below.drew ?_ | refine Below.alloc ?_ (by first | exact Nat.le_refl _ | (simp; done) | (simp; omega) | omega) _ | refine Below.setCell ?_ (by first | exact Nat.le_refl _ | (simp; done) | (simp; omega) | omega) _ | refine Below.trans ?_ (Below.mono (by assumption) (by first | exact Nat.le_refl _ | (simp; done) | (simp; omega) | omega))))⟩

set_option maxHeartbeats 400000 in
theorem meet_wrong {av am bv bm : BitVec 64} (hr : Hid ((eqb (band av am) zero && eqb (band bv bm) zero) = false)) (w : World) :
    Calls Try.prog 14 #[Bt av am, Bt bv bm] w fun e w' => e = .returned (.tuple #[Bt zero zero, .bool false, N 1]) ∧ Below w.heap.size w w' := by
  go_enter Try.func14, Try.ntmps14
  go_wp2_with fail
  refine (check2_is hr (by simp) (by simp [go_sem]) (by simp [go_sem]) (by simp [go_sem]) (by simp [go_sem])).mono ?_
  rintro e w1 ⟨rfl, hb1⟩
  obtain ⟨hc1, hf1, hs1⟩ := bk (w.heap.size + 1 + 1 + 1) hb1 (by simp)
  first | rw [er_t] | rw [er_f]
  go_wp2_with fail
  exact bodyPost_ret (v := .tuple #[Bt zero zero, .bool false, N 1]) (by simp [results, Try.results14, go_sem, hc1, nv_zero]) rfl ⟨rfl, (by repeat (first | exact Below.refl _ _ | assumption | refine below_drewN ?_ _ | refine Below.drew ?_ | refine Below.alloc ?_ (by first | exact Nat.le_refl _ | (simp; done) | (simp; omega) | omega) _ | refine Below.setCell ?_ (by first | exact Nat.le_refl _ | (simp; done) | (simp; omega) | omega) _ | refine Below.trans ?_ (Below.mono (by assumption) (by first | exact Nat.le_refl _ | (simp; done) | (simp; omega) | omega))))⟩
set_option maxHeartbeats 400000 in
theorem meet_no {av am bv bm : BitVec 64} (hr : Hid ((eqb (band av am) zero && eqb (band bv bm) zero) = true)) (hm : eqb (bandn (bxor av bv) (bor am bm)) zero = false) (w : World) :
    Calls Try.prog 14 #[Bt av am, Bt bv bm] w fun e w' => e = .returned (.tuple #[Bt zero zero, .bool false, N 0]) ∧ Below w.heap.size w w' := by
  go_enter Try.func14, Try.ntmps14
  go_wp2_with fail
  refine (check2_is hr (by simp) (by simp [go_sem]) (by simp [go_sem]) (by simp [go_sem]) (by simp [go_sem])).mono ?_
  rintro e w1 ⟨rfl, hb1⟩
  obtain ⟨hc1, hf1, hs1⟩ := bk (w.heap.size + 1 + 1 + 1) hb1 (by simp)
  first | rw [er_t] | rw [er_f]
  go_wp2_with fail
  exact bodyPost_ret (v := .tuple #[Bt zero zero, .bool false, N 0]) (by simp [results, Try.results14, go_sem, hc1, nv_zero]) rfl ⟨rfl, (by repeat (first | exact Below.refl _ _ | assumption | refine below_drewN ?_ _ | refine Below.drew ?_ | refine Below.alloc ?_ (by first | exact Nat.le_refl _ | (simp; done) | (simp; omega) | omega) _ | refine Below.setCell ?_ (by first | exact Nat.le_refl _ | (simp; done) | (simp; omega) | omega) _ | refine Below.trans ?_ (Below.mono (by assumption) (by first | exact Nat.le_refl _ | (simp; done) | (simp; omega) | omega))))⟩
set_option maxHeartbeats 400000 in
theorem meet_ok {av am bv bm : BitVec 64} (hr : Hid ((eqb (band av am) zero && eqb (band bv bm) zero) = true)) (hm : eqb (bandn (bxor av bv) (bor am bm)) zero = true) (w : World) :
    Calls Try.prog 14 #[Bt av am, Bt bv bm] w fun e w' => e = .returned (.tuple #[Bt (bor av bv) (band am bm), .bool true, N 0]) ∧ Below w.heap.size w w' := by
  go_enter Try.func14, Try.ntmps14
  go_wp2_with fail
  refine (check2_is hr (by simp) (by simp [go_sem]) (by simp [go_sem]) (by simp [go_sem]) (by simp [go_sem])).mono ?_
  rintro e w1 ⟨rfl, hb1⟩
  obtain ⟨hc1, hf1, hs1⟩ := bk (w.heap.size + 1 + 1 + 1) hb1 (by simp)
  first | rw [er_t] | rw [er_f]
  go_wp2_with fail
  exact bodyPost_ret (v := .tuple #[Bt (bor av bv) (band am bm), .bool true, N 0]) (by simp [results, Try.results14, go_sem, hc1]) rfl ⟨rfl, (by repeat (first | exact Below.refl _ _ | assumption | refine below_drewN ?_ _ | refine Below.drew ?_ | refine Below.alloc ?_ (by first | exact Nat.le_refl _ | (simp; done) | (simp; omega) | omega) _ | refine Below.setCell ?_ (by first | exact Nat.le_refl _ | (simp; done) | (simp; omega) | omega) _ | refine Below.trans ?_ (Below.mono (by assumption) (by first | exact Nat.le_refl _ | (simp; done) | (simp; omega) | omega))))⟩

end Go.Proofs.Ytkigmocchaikgaa

/- The contracts of package bits: Shift, Len64, Span. -/
namespace Go.Proofs.Ytkigmocchaikgaa
open Go.RowKit
attribute [local go_sem] w_and w_or w_xor w_andNot w_and1 w_and63 w_add w_sub w_mul w_sub1 w_add1 w_shl w_shl1 w_shr c_beq c_bne c_beq0 c_bne0 c_beq1 c_bne1 wrap_nv

set_option maxHeartbeats 400000 in
theorem shift_wrong {op n : Int} {v m : BitVec 64} (hr : Hid (eqb (band v m) zero = false)) (w : World) :
    Calls Try.prog 15 #[N op, Bt v m, N n] w fun e w' => e = .returned (.tuple #[Bt zero zero, N 1]) ∧ Below w.heap.size w w' := by
  go_enter Try.func15, Try.ntmps15
  go_wp2_with fail
  refine (check1_is hr (by simp) (by simp [go_sem]) (by simp [go_sem])).mono ?_
  rintro e w1 ⟨rfl, hb1⟩
  obtain ⟨hc1, hf1, hs1⟩ := bk (w.heap.size + 1 + 1) hb1 (by simp)
  first | rw [er_t] | rw [er_f]
  go_wp2_with fail
  exact bodyPost_ret (v := .tuple #[Bt zero zero, N 1]) (by simp [results, Try.results15, go_sem, hc1, nv_zero]) rfl ⟨rfl, (by repeat (first | exact Below.refl _ _ | assumption | refine below_drewN ?_ _ | refine Below.drew ?_ | refine Below.alloc ?_ (by first | exact Nat.le_refl _ | (simp; done) | (simp; omega) | omega) _ | refine Below.setCell ?_ (by first | exact Nat.le_refl _ | (simp; done) | (simp; omega) | omega) _ | refine Below.trans ?_ (Below.mono (by assumption) (by first | exact Nat.le_refl _ | (simp; done) | (simp; omega) | omega))))⟩
set_option maxHeartbeats 400000 in
theorem shift_kind {op n : Int} {v m : BitVec 64} (hr : Hid (eqb (band v m) zero = true)) (h8 : (op != 8) = true) (h9 : (op != 9) = true) (w : World) :
    Calls Try.prog 15 #[N op, Bt v m, N n] w fun e w' => e = .returned (.tuple #[Bt zero zero, N 4]) ∧ Below w.heap.size w w' := by
  go_enter Try.func15, Try.ntmps15
  go_wp2_with fail
  refine (check1_is hr (by simp) (by simp [go_sem]) (by simp [go_sem])).mono ?_
  rintro e w1 ⟨rfl, hb1⟩
  obtain ⟨hc1, hf1, hs1⟩ := bk (w.heap.size + 1 + 1) hb1 (by simp)
  first | rw [er_t] | rw [er_f]
  go_wp2_with fail
  exact bodyPost_ret (v := .tuple #[Bt zero zero, N 4]) (by simp [results, Try.results15, go_sem, hc1, nv_zero]) rfl ⟨rfl, (by repeat (first | exact Below.refl _ _ | assumption | refine below_drewN ?_ _ | refine Below.drew ?_ | refine Below.alloc ?_ (by first | exact Nat.le_refl _ | (simp; done) | (simp; omega) | omega) _ | refine Below.setCell ?_ (by first | exact Nat.le_refl _ | (simp; done) | (simp; omega) | omega) _ | refine Below.trans ?_ (Below.mono (by assumption) (by first | exact Nat.le_refl _ | (simp; done) | (simp; omega) | omega))))⟩
set_option maxHeartbeats 400000 in
theorem shift_range {op n : Int} {v m : BitVec 64} (hr : Hid (eqb (band v m) zero = true)) (hop : op = 8 ∨ op = 9) (hn : n < 0 ∨ 63 < n) (w : World) :
    Calls Try.prog 15 #[N op, Bt v m, N n] w fun e w' => e = .returned (.tuple #[Bt zero zero, N 3]) ∧ Below w.heap.size w w' := by
  rcases hop with rfl | rfl <;> rcases hn with hn | hn
  all_goals
    go_enter Try.func15, Try.ntmps15
    go_wp2_with fail
    refine (check1_is hr (by simp) (by simp [go_sem]) (by simp [go_sem])).mono ?_
    rintro e w1 ⟨rfl, hb1⟩
    obtain ⟨hc1, hf1, hs1⟩ := bk (w.heap.size + 1 + 1) hb1 (by simp)
    first | rw [er_t] | rw [er_f]
    go_wp2_with fail
    exact bodyPost_ret (v := .tuple #[Bt zero zero, N 3]) (by simp [results, Try.results15, go_sem, hc1, nv_zero]) rfl ⟨rfl, (by repeat (first | exact Below.refl _ _ | assumption | refine below_drewN ?_ _ | refine Below.drew ?_ | refine Below.alloc ?_ (by first | exact Nat.le_refl _ | (simp; done) | (simp; omega) | omega) _ | refine Below.setCell ?_ (by first | exact Nat.le_refl _ | (simp; done) | (simp; omega) | omega) _ | refine Below.trans ?_ (Below.mono (by assumption) (by first | exact Nat.le_refl _ | (simp; done) | (simp; omega) | omega))))⟩
set_option maxHeartbeats 400000 in
theorem shift_up {n : Nat} {v m : BitVec 64} (hr : Hid (eqb (band v m) zero = true)) (hn : n < 64) (w : World) :
    Calls Try.prog 15 #[N 8, Bt v m, N n] w fun e w' => e = .returned (.tuple #[Bt (bshl v n) (bshl m n), N 0]) ∧ Below w.heap.size w w' := by
  go_enter Try.func15, Try.ntmps15
  go_wp2_with fail
  refine (check1_is hr (by simp) (by simp [go_sem]) (by simp [go_sem])).mono ?_
  rintro e w1 ⟨rfl, hb1⟩
  obtain ⟨hc1, hf1, hs1⟩ := bk (w.heap.size + 1 + 1) hb1 (by simp)
  first | rw [er_t] | rw [er_f]
  go_wp2_with fail
  refine (up_any _ _ n hn _).mono ?_
  rintro e w2 ⟨rfl, hb2⟩
  obtain ⟨hc2, hf2, hs2⟩ := bk _ hb2 hs1
  go_wp2_with fail
  exact bodyPost_ret (v := .tuple #[Bt (bshl v n) (bshl m n), N 0]) (by simp [results, Try.results15, go_sem, hc1, hc2]) rfl ⟨rfl, (by repeat (first | exact Below.refl _ _ | assumption | refine below_drewN ?_ _ | refine Below.drew ?_ | refine Below.alloc ?_ (by first | exact Nat.le_refl _ | (simp; done) | (simp; omega) | omega) _ | refine Below.setCell ?_ (by first | exact Nat.le_refl _ | (simp; done) | (simp; omega) | omega) _ | refine Below.trans ?_ (Below.mono (by assumption) (by first | exact Nat.le_refl _ | (simp; done) | (simp; omega) | omega))))⟩
set_option maxHeartbeats 400000 in
theorem shift_down {n : Nat} {v m : BitVec 64} (hr : Hid (eqb (band v m) zero = true)) (hn : n < 64) (w : World) :
    Calls Try.prog 15 #[N 9, Bt v m, N n] w fun e w' => e = .returned (.tuple #[Bt (bshr v n) (bshr m n), N 0]) ∧ Below w.heap.size w w' := by
  go_enter Try.func15, Try.ntmps15
  go_wp2_with fail
  refine (check1_is hr (by simp) (by simp [go_sem]) (by simp [go_sem])).mono ?_
  rintro e w1 ⟨rfl, hb1⟩
  obtain ⟨hc1, hf1, hs1⟩ := bk (w.heap.size + 1 + 1) hb1 (by simp)
  first | rw [er_t] | rw [er_f]
  go_wp2_with fail
  exact bodyPost_ret (v := .tuple #[Bt (bshr v n) (bshr m n), N 0]) (by simp [results, Try.results15, go_sem, hc1]) rfl ⟨rfl, (by repeat (first | exact Below.refl _ _ | assumption | refine below_drewN ?_ _ | refine Below.drew ?_ | refine Below.alloc ?_ (by first | exact Nat.le_refl _ | (simp; done) | (simp; omega) | omega) _ | refine Below.setCell ?_ (by first | exact Nat.le_refl _ | (simp; done) | (simp; omega) | omega) _ | refine Below.trans ?_ (Below.mono (by assumption) (by first | exact Nat.le_refl _ | (simp; done) | (simp; omega) | omega))))⟩

end Go.Proofs.Ytkigmocchaikgaa

/- The contract of math/bits.Len64: the number of bits that a number wants. -/
namespace Go.Proofs.Ytkigmocchaikgaa
open Go.RowKit

theorem tab_get (n : Nat) (h : n < Lib.len8tab.size) : ((Lib.len8tab[n]'h).toNat : Int) = Lib.bitLen n := by
  have hn : n < 256 := by have := Lib.len8tab_size; omega
  have e := Lib.len8_eq ⟨n, hn⟩
  simp only [Lib.len8, Int.toNat_natCast] at e
  rw [← e, getElem?_pos Lib.len8tab n h]; rfl

/- a byte b of x that lies s bits up, the highest that is not 0 -/
theorem len_at1 (x : Int) (s d : Nat) (b : Int) (hx0 : 0 ≤ x)  (hd : d = 2 ^ s) (hb : b = x / d) : b.toNat = x.toNat / 2 ^ s := by
  rw [hb, ← hd]
  obtain ⟨X, rfl⟩ := Int.eq_ofNat_of_zero_le hx0
  rw [← Int.natCast_ediv, Int.toNat_natCast, Int.toNat_natCast]
theorem len_at2 (x : Int) (s d : Nat) (b : Int) (hx0 : 0 ≤ x) (hx : x ≤ 18446744073709551615) (hd : d = 2 ^ s)
    (hbn : b.toNat = x.toNat / 2 ^ s) (hlow : s = 0 ∨ (d : Int) ≤ x) : Lib.bitLen x.toNat = s + Lib.bitLen b.toNat := by
  rcases hlow with h0 | h1
  · rw [hbn, h0, Nat.pow_zero, Nat.div_one, Nat.zero_add]
  · rw [hbn]
    exact Lib.bitLen_shift s x.toNat (by rw [← hd]; omega) (by omega)
theorem len_at3 (s q : Nat) (hs : s ≤ 56) (l8 : q ≤ 8) : wrap64 (s + wrap64 q) = ((s + q : Nat) : Int) := by
  unfold wrap64
  omega
theorem len_at (x : Int) (s d : Nat) (b t : Int) (hx0 : 0 ≤ x) (hx : x ≤ 18446744073709551615) (hd : d = 2 ^ s) (hs : s ≤ 56)
    (hb : b = x / d) (hb0 : 0 ≤ b) (hb8 : b ≤ 255) (hlow : s = 0 ∨ (d : Int) ≤ x) (ht : t = (Lib.bitLen b.toNat : Int)) : wrap64 (s + wrap64 t) = (Lib.bitLen x.toNat : Int) := by
  rw [ht, len_at3 s _ hs (Lib.bitLen_le8' b hb0 hb8), len_at2 x s d b hx0 hx hd (len_at1 x s d b hx0 hd hb) hlow]

set_option maxRecDepth 100000 in
set_option maxHeartbeats 4000000 in
theorem len64_any (x : Int) (w : World) (h0 : 0 ≤ x) (h1 : x ≤ 18446744073709551615) :
    Calls Try.prog 72 #[.int .u64 x] w fun e w' => e = .returned (N (Lib.bitLen x.toNat)) ∧ w = w' := by
  have hsz := Lib.len8tab_size
  go_enter Try.func72, Try.ntmps72
  go_wp2
  all_goals go_ret
  all_goals refine ⟨congrArg Ending.returned (congrArg (Value.int IntKind.i64) ?_), rfl⟩
  · exact len_at x 56 72057594037927936 _ _ h0 h1 (by decide) (by omega) (by omega) (by omega) (by omega) (by omega) (tab_get _ _)
  · exact len_at x 48 281474976710656 _ _ h0 h1 (by decide) (by omega) (by omega) (by omega) (by omega) (by omega) (tab_get _ _)
  · exact len_at x 40 1099511627776 _ _ h0 h1 (by decide) (by omega) (by omega) (by omega) (by omega) (by omega) (tab_get _ _)
  · exact len_at x 32 4294967296 _ _ h0 h1 (by decide) (by omega) (by omega) (by omega) (by omega) (by omega) (tab_get _ _)
  · exact len_at x 24 16777216 _ _ h0 h1 (by decide) (by omega) (by omega) (by omega) (by omega) (by omega) (tab_get _ _)
  · exact len_at x 16 65536 _ _ h0 h1 (by decide) (by omega) (by omega) (by omega) (by omega) (by omega) (tab_get _ _)
  · exact len_at x 8 256 _ _ h0 h1 (by decide) (by omega) (by omega) (by omega) (by omega) (by omega) (tab_get _ _)
  · have := len_at x 0 1 x _ h0 h1 (by decide) (by omega) (by omega) (by omega) (by omega) (by omega) (tab_get x.toNat (by omega))
    simpa using this
end Go.Proofs.Ytkigmocchaikgaa

/- The contracts of package bits: Span, add, sub, and, or, mul, Two. -/
namespace Go.Proofs.Ytkigmocchaikgaa
open Go.RowKit
attribute [local go_sem] w_and w_or w_xor w_andNot w_and1 w_and63 w_add w_sub w_mul w_sub1 w_add1 w_shl w_shl1 w_shr c_beq c_bne c_beq0 c_bne0 c_beq1 c_bne1 wrap_nv

def blen (x : BitVec 64) : Nat := Lib.bitLen (nv x).toNat
def lowMask (n : Nat) : BitVec 64 := bsub (bshl one n) one
theorem blen_le (x : BitVec 64) : blen x ≤ 64 := by
  unfold blen nv
  have := x.isLt
  exact Lib.bitLen_le _ 64 (Nat.le_refl _) (by rw [Int.toNat_natCast]; exact this)
theorem len_u (x : BitVec 64) (w : World) : Calls Try.prog 72 #[U x] w fun e w' => e = .returned (N (blen x)) ∧ w = w' :=
  len64_any (nv x) w (nv_nonneg x) (by have := nv_lt x; omega)

set_option maxHeartbeats 400000 in
theorem span_no {l h : BitVec 64} (hl : nv h < nv l) (w : World) :
    Calls Try.prog 16 #[U l, U h] w fun e w' => e = .returned (.tuple #[Bt zero zero, N 3]) ∧ Below w.heap.size w w' := by
  go_enter Try.func16, Try.ntmps16
  go_wp2_with fail
  exact bodyPost_ret (v := .tuple #[Bt zero zero, N 3]) (by simp [results, Try.results16, go_sem, nv_zero]) rfl ⟨rfl, (by repeat (first | exact Below.refl _ _ | assumption | refine below_drewN ?_ _ | refine Below.drew ?_ | refine Below.alloc ?_ (by first | exact Nat.le_refl _ | (simp; done) | (simp; omega) | omega) _ | refine Below.setCell ?_ (by first | exact Nat.le_refl _ | (simp; done) | (simp; omega) | omega) _ | refine Below.trans ?_ (Below.mono (by assumption) (by first | exact Nat.le_refl _ | (simp; done) | (simp; omega) | omega))))⟩
def sM (l h : BitVec 64) : BitVec 64 := lowMask (blen (bxor l h))
set_option maxHeartbeats 400000 in
theorem span_ok {l h : BitVec 64} (hl : nv l ≤ nv h) (w : World) :
    Calls Try.prog 16 #[U l, U h] w fun e w' => e = .returned (.tuple #[Bt (bandn l (sM l h)) (sM l h), N 0]) ∧ Below w.heap.size w w' := by
  have hL := blen_le (bxor l h)
  have Hs : Hid (sM l h = lowMask (blen (bxor l h))) := rfl
  have hc := len_u (bxor l h)
  have Hc : Hid _ := hc
  clear hc
  generalize hx : blen (bxor l h) = L at hL Hs Hc
  clear hx
  go_enter Try.func16, Try.ntmps16
  go_wp2_with fail
  refine (Hc.out _).mono ?_
  rintro e w1 ⟨rfl, rfl⟩
  go_wp2_with fail
  refine (without_any _ _ _).mono ?_
  rintro e w2 ⟨rfl, hb2⟩
  obtain ⟨hc2, hf2, hs2⟩ := bk (w.heap.size + 1) hb2 (by simp)
  go_wp2_with fail
  rw [Hs.out]
  exact bodyPost_ret (v := .tuple #[Bt (bandn l (lowMask L)) (lowMask L), N 0]) (by simp [results, Try.results16, go_sem, hc2, lowMask]) rfl ⟨rfl, (by repeat (first | exact Below.refl _ _ | assumption | refine below_drewN ?_ _ | refine Below.drew ?_ | refine Below.alloc ?_ (by first | exact Nat.le_refl _ | (simp; done) | (simp; omega) | omega) _ | refine Below.setCell ?_ (by first | exact Nat.le_refl _ | (simp; done) | (simp; omega) | omega) _ | refine Below.trans ?_ (Below.mono (by assumption) (by first | exact Nat.le_refl _ | (simp; done) | (simp; omega) | omega))))⟩

/- add, sub, and, or -/
def addM (av am bv bm : BitVec 64) : BitVec 64 := bor (bor (bxor (badd av bv) (badd (badd (badd av bv) am) bm)) am) bm
set_option maxHeartbeats 400000 in
theorem add_any (av am bv bm : BitVec 64) (w : World) :
    Calls Try.prog 76 #[Bt av am, Bt bv bm] w fun e w' => e = .returned (Bt (bandn (badd av bv) (addM av am bv bm)) (addM av am bv bm)) ∧ Below w.heap.size w w' := by
  go_enter Try.func76, Try.ntmps76
  go_wp2_with fail
  refine (without_any _ _ _).mono ?_
  rintro e w2 ⟨rfl, hb2⟩
  obtain ⟨hc2, hf2, hs2⟩ := bk (w.heap.size + 1 + 1 + 1) hb2 (by simp)
  go_wp2_with fail
  exact bodyPost_ret (v := Bt (bandn (badd av bv) (addM av am bv bm)) (addM av am bv bm)) (by simp [results, Try.results76, go_sem, hc2, addM]) rfl ⟨rfl, (by repeat (first | exact Below.refl _ _ | assumption | refine below_drewN ?_ _ | refine Below.drew ?_ | refine Below.alloc ?_ (by first | exact Nat.le_refl _ | (simp; done) | (simp; omega) | omega) _ | refine Below.setCell ?_ (by first | exact Nat.le_refl _ | (simp; done) | (simp; omega) | omega) _ | refine Below.trans ?_ (Below.mono (by assumption) (by first | exact Nat.le_refl _ | (simp; done) | (simp; omega) | omega))))⟩
def subM (av am bv bm : BitVec 64) : BitVec 64 := bor (bor (bxor (badd (bsub av bv) am) (bsub (bsub av bv) bm)) am) bm
set_option maxHeartbeats 400000 in
theorem sub_any (av am bv bm : BitVec 64) (w : World) :
    Calls Try.prog 77 #[Bt av am, Bt bv bm] w fun e w' => e = .returned (Bt (bandn (bsub av bv) (subM av am bv bm)) (subM av am bv bm)) ∧ Below w.heap.size w w' := by
  go_enter Try.func77, Try.ntmps77
  go_wp2_with fail
  refine (without_any _ _ _).mono ?_
  rintro e w2 ⟨rfl, hb2⟩
  obtain ⟨hc2, hf2, hs2⟩ := bk (w.heap.size + 1 + 1 + 1) hb2 (by simp)
  go_wp2_with fail
  exact bodyPost_ret (v := Bt (bandn (bsub av bv) (subM av am bv bm)) (subM av am bv bm)) (by simp [results, Try.results77, go_sem, hc2, subM]) rfl ⟨rfl, (by repeat (first | exact Below.refl _ _ | assumption | refine below_drewN ?_ _ | refine Below.drew ?_ | refine Below.alloc ?_ (by first | exact Nat.le_refl _ | (simp; done) | (simp; omega) | omega) _ | refine Below.setCell ?_ (by first | exact Nat.le_refl _ | (simp; done) | (simp; omega) | omega) _ | refine Below.trans ?_ (Below.mono (by assumption) (by first | exact Nat.le_refl _ | (simp; done) | (simp; omega) | omega))))⟩
set_option maxHeartbeats 400000 in
theorem and_any (av am bv bm : BitVec 64) (w : World) :
    Calls Try.prog 79 #[Bt av am, Bt bv bm] w fun e w' => e = .returned (Bt (band av bv) (bandn (band (bor av am) (bor bv bm)) (band av bv))) ∧ Below w.heap.size w w' := by
  go_enter Try.func79, Try.ntmps79
  go_wp2
  exact bodyPost_ret (v := Bt (band av bv) (bandn (band (bor av am) (bor bv bm)) (band av bv))) (by simp [results, Try.results79, go_sem]) rfl ⟨rfl, (by repeat (first | exact Below.refl _ _ | assumption | refine below_drewN ?_ _ | refine Below.drew ?_ | refine Below.alloc ?_ (by first | exact Nat.le_refl _ | (simp; done) | (simp; omega) | omega) _ | refine Below.setCell ?_ (by first | exact Nat.le_refl _ | (simp; done) | (simp; omega) | omega) _ | refine Below.trans ?_ (Below.mono (by assumption) (by first | exact Nat.le_refl _ | (simp; done) | (simp; omega) | omega))))⟩
set_option maxHeartbeats 400000 in
theorem or_any (av am bv bm : BitVec 64) (w : World) :
    Calls Try.prog 80 #[Bt av am, Bt bv bm] w fun e w' => e = .returned (Bt (bor av bv) (bandn (bor am bm) (bor av bv))) ∧ Below w.heap.size w w' := by
  go_enter Try.func80, Try.ntmps80
  go_wp2
  exact bodyPost_ret (v := Bt (bor av bv) (bandn (bor am bm) (bor av bv))) (by simp [results, Try.results80, go_sem]) rfl ⟨rfl, (by repeat (first | exact Below.refl _ _ | assumption | refine below_drewN ?_ _ | refine Below.drew ?_ | refine Below.alloc ?_ (by first | exact Nat.le_refl _ | (simp; done) | (simp; omega) | omega) _ | refine Below.setCell ?_ (by first | exact Nat.le_refl _ | (simp; done) | (simp; omega) | omega) _ | refine Below.trans ?_ (Below.mono (by assumption) (by first | exact Nat.le_refl _ | (simp; done) | (simp; omega) | omega))))⟩

end Go.Proofs.Ytkigmocchaikgaa

/- The contracts of package bits: mul, Two. -/
namespace Go.Proofs.Ytkigmocchaikgaa
open Go.RowKit
attribute [local go_sem] w_and w_or w_xor w_andNot w_and1 w_and63 w_add w_sub w_mul w_sub1 w_add1 w_shl w_shl1 w_shr c_beq c_bne c_beq0 c_bne0 c_beq1 c_bne1 wrap_nv

def addP (a b : BitVec 64 × BitVec 64) : BitVec 64 × BitVec 64 := (bandn (badd a.1 b.1) (addM a.1 a.2 b.1 b.2), addM a.1 a.2 b.1 b.2)
def mulS (av am bv bm : BitVec 64) : Nat → BitVec 64 × BitVec 64
  | 0 => (zero, zero)
  | k + 1 => if bit av k then addP (mulS av am bv bm k) (bshl bv k, bshl bm k)
    else if bit am k then addP (mulS av am bv bm k) (zero, bor (bshl bv k) (bshl bm k)) else mulS av am bv bm k

set_option maxHeartbeats 1000000 in
theorem mul_any (av am bv bm : BitVec 64) (w : World) :
    Calls Try.prog 78 #[Bt av am, Bt bv bm] w fun e w' => e = .returned (Bt (mulS av am bv bm 64).1 (mulS av am bv bm 64).2) ∧ Below w.heap.size w w' := by
  go_enter Try.func78, Try.ntmps78
  go_wp2
  go_loopw [6] (fun i wr => ∃ k : Nat, k ≤ 64 ∧ i = .int .u64 k
      ∧ Below (w.heap.size + 1 + 1 + 1) (((w.alloc (.cells #[U av, U am] 24)).alloc (.cells #[U bv, U bm] 24)).alloc (.cells #[.int .u64 0, .int .u64 0] 24)) wr
      ∧ wr.cell? ⟨w.heap.size + 1 + 1 + 1, 0, none⟩ = some (U (mulS av am bv bm k).1) ∧ wr.cell? ⟨w.heap.size + 1 + 1 + 1, 1, none⟩ = some (U (mulS av am bv bm k).2)
      ∧ (∀ o, wr.frozen? ⟨w.heap.size + 1 + 1 + 1, o, none⟩ = false)
      ∧ w.heap.size + 1 + 1 + 1 + 1 ≤ wr.heap.size) (fun i _ => 64 - (intOf i).toNat)
  case atStart =>
    exact ⟨0, by omega, rfl, (by repeat (first | exact Below.refl _ _ | assumption | refine below_drewN ?_ _ | refine Below.drew ?_ | refine Below.alloc ?_ (by first | exact Nat.le_refl _ | (simp; done) | (simp; omega) | omega) _ | refine Below.setCell ?_ (by first | exact Nat.le_refl _ | (simp; done) | (simp; omega) | omega) _ | refine Below.trans ?_ (Below.mono (by assumption) (by first | exact Nat.le_refl _ | (simp; done) | (simp; omega) | omega)))), by simp [mulS, nv_zero, go_sem], by simp [mulS, nv_zero, go_sem], by simp [go_sem], by simp⟩
  case round =>
    obtain ⟨k, hk, rfl, hbel, ho0, ho1, hfo, hsz⟩ := hrel
    obtain ⟨hc, hf⟩ := bl hbel
    by_cases hlt : k < 64
    · have hA := shr_and1 av k
      have hM := shr_and1 am k
      have Hs : Hid (mulS av am bv bm (k + 1) = if bit av k then addP (mulS av am bv bm k) (bshl bv k, bshl bm k)
        else if bit am k then addP (mulS av am bv bm k) (zero, bor (bshl bv k) (bshl bm k)) else mulS av am bv bm k) := rfl
      generalize mulS av am bv bm k = S at ho0 ho1 Hs
      obtain ⟨sv, sm⟩ := S
      simp only at ho0 ho1
      obtain ⟨bA, hbA⟩ : ∃ b, b = bit av k := ⟨_, rfl⟩
      obtain ⟨bM, hbM⟩ : ∃ b, b = bit am k := ⟨_, rfl⟩
      rw [← hbA] at hA Hs
      rw [← hbM] at hM Hs
      clear hbA hbM
      go_wp2_with fail
      refine (up_any _ _ k hlt _).mono ?_
      rintro e w1 ⟨rfl, hb1⟩
      obtain ⟨hc1, hf1, hs1⟩ := bk _ hb1 hsz
      have hlt1 : w.heap.size + 1 + 1 + 1 < w1.heap.size := by omega
      have hlt2 : w.heap.size + 1 + 1 < w1.heap.size := by omega
      have hlt3 : w.heap.size + 1 < w1.heap.size := by omega
      have hlt4 : w.heap.size < w1.heap.size := by omega
      cases bA
      · cases bM
        · go_wp2_with fail
          exact ⟨⟨k + 1, by omega, by go_num, keep_rel hbel (hb1.trans (((Below.refl _ _).alloc (Nat.le_refl _) _).mono hb1.size)) hsz ho0 ho1 hfo (by rw [Hs.out]; rfl) (by rw [Hs.out]; rfl)⟩, by simp [intOf]; omega⟩
        · go_wp2_with fail
          refine (add_any sv sm zero (bor (bshl bv k) (bshl bm k)) _).mono ?_
          rintro e w2 ⟨rfl, hb2⟩
          obtain ⟨hc2, hf2, hs2⟩ := bk (w.heap.size + 1 + 1 + 1 + 1) hb2 (by simp; omega)
          go_wp2_with fail
          exact ⟨⟨k + 1, by omega, by go_num, out_rel hbel (hb1.trans ((((Below.refl _ _).alloc (Nat.le_refl _) _).trans (hb2.mono (by simp))).mono hb1.size)) hsz ho0 ho1 hfo (by rw [Hs.out]; rfl) (by rw [Hs.out]; rfl)⟩, by simp [intOf]; omega⟩
      · go_wp2_with fail
        refine (add_any _ _ _ _ _).mono ?_
        rintro e w2 ⟨rfl, hb2⟩
        obtain ⟨hc2, hf2, hs2⟩ := bk (w.heap.size + 1 + 1 + 1 + 1) hb2 (by simp; omega)
        go_wp2_with fail
        exact ⟨⟨k + 1, by omega, by go_num, out_rel hbel (hb1.trans ((((Below.refl _ _).alloc (Nat.le_refl _) _).trans (hb2.mono (by simp))).mono hb1.size)) hsz ho0 ho1 hfo (by rw [Hs.out]; rfl) (by rw [Hs.out]; rfl)⟩, by simp [intOf]; omega⟩
    · have hk64 : k = 64 := by omega
      subst hk64
      go_wp2_with fail
      exact bodyPost_ret (v := Bt (mulS av am bv bm 64).1 (mulS av am bv bm 64).2) (by simp [results, Try.results78, go_sem, hc]) rfl ⟨rfl, (by repeat (first | exact Below.refl _ _ | assumption | refine below_drewN ?_ _ | refine Below.drew ?_ | refine Below.alloc ?_ (by first | exact Nat.le_refl _ | (simp; done) | (simp; omega) | omega) _ | refine Below.setCell ?_ (by first | exact Nat.le_refl _ | (simp; done) | (simp; omega) | omega) _ | refine Below.trans ?_ (Below.mono (by assumption) (by first | exact Nat.le_refl _ | (simp; done) | (simp; omega) | omega))))⟩

set_option maxHeartbeats 400000 in
theorem two_wrong {op : Int} {av am bv bm : BitVec 64} (hr : Hid ((eqb (band av am) zero && eqb (band bv bm) zero) = false)) (w : World) :
    Calls Try.prog 28 #[N op, Bt av am, Bt bv bm] w fun e w' => e = .returned (.tuple #[Bt zero zero, N 1]) ∧ Below w.heap.size w w' := by
  go_enter Try.func28, Try.ntmps28
  go_wp2_with fail
  refine (check2_is hr (by simp) (by simp [go_sem]) (by simp [go_sem]) (by simp [go_sem]) (by simp [go_sem])).mono ?_
  rintro e w1 ⟨rfl, hb1⟩
  obtain ⟨hc1, hf1, hs1⟩ := bk (w.heap.size + 1 + 1 + 1) hb1 (by simp)
  first | rw [er_t] | rw [er_f]
  go_wp2_with fail
  exact bodyPost_ret (v := .tuple #[Bt zero zero, N 1]) (by simp [results, Try.results28, go_sem, hc1, nv_zero]) rfl ⟨rfl, (by repeat (first | exact Below.refl _ _ | assumption | refine below_drewN ?_ _ | refine Below.drew ?_ | refine Below.alloc ?_ (by first | exact Nat.le_refl _ | (simp; done) | (simp; omega) | omega) _ | refine Below.setCell ?_ (by first | exact Nat.le_refl _ | (simp; done) | (simp; omega) | omega) _ | refine Below.trans ?_ (Below.mono (by assumption) (by first | exact Nat.le_refl _ | (simp; done) | (simp; omega) | omega))))⟩
set_option maxHeartbeats 400000 in
theorem two_kind {op : Int} {av am bv bm : BitVec 64} (hr : Hid ((eqb (band av am) zero && eqb (band bv bm) zero) = true)) (hop : op < 2 ∨ 7 < op) (w : World) :
    Calls Try.prog 28 #[N op, Bt av am, Bt bv bm] w fun e w' => e = .returned (.tuple #[Bt zero zero, N 4]) ∧ Below w.heap.size w w' := by
  have e2 : (op == 2) = false := by simp; omega
  have e3 : (op == 3) = false := by simp; omega
  have e4 : (op == 4) = false := by simp; omega
  have e5 : (op == 5) = false := by simp; omega
  have e6 : (op == 6) = false := by simp; omega
  have e7 : (op == 7) = false := by simp; omega
  clear hop
  go_enter Try.func28, Try.ntmps28
  go_wp2_with fail
  refine (check2_is hr (by simp) (by simp [go_sem]) (by simp [go_sem]) (by simp [go_sem]) (by simp [go_sem])).mono ?_
  rintro e w1 ⟨rfl, hb1⟩
  obtain ⟨hc1, hf1, hs1⟩ := bk (w.heap.size + 1 + 1 + 1) hb1 (by simp)
  first | rw [er_t] | rw [er_f]
  go_wp2_with fail
  exact bodyPost_ret (v := .tuple #[Bt zero zero, N 4]) (by simp [results, Try.results28, go_sem, hc1, nv_zero]) rfl ⟨rfl, (by repeat (first | exact Below.refl _ _ | assumption | refine below_drewN ?_ _ | refine Below.drew ?_ | refine Below.alloc ?_ (by first | exact Nat.le_refl _ | (simp; done) | (simp; omega) | omega) _ | refine Below.setCell ?_ (by first | exact Nat.le_refl _ | (simp; done) | (simp; omega) | omega) _ | refine Below.trans ?_ (Below.mono (by assumption) (by first | exact Nat.le_refl _ | (simp; done) | (simp; omega) | omega))))⟩
/- what package bits reckons of two pairs -/
def twoP (op : Int) (av am bv bm : BitVec 64) : BitVec 64 × BitVec 64 :=
  if op = 2 then (bandn (badd av bv) (addM av am bv bm), addM av am bv bm)
  else if op = 3 then (bandn (bsub av bv) (subM av am bv bm), subM av am bv bm)
  else if op = 4 then mulS av am bv bm 64
  else if op = 5 then (band av bv, bandn (band (bor av am) (bor bv bm)) (band av bv))
  else if op = 6 then (bor av bv, bandn (bor am bm) (bor av bv))
  else (bandn (bxor av bv) (bor am bm), bor am bm)
theorem op_cases {op : Int} (h : 2 ≤ op ∧ op ≤ 7) : op = 2 ∨ op = 3 ∨ op = 4 ∨ op = 5 ∨ op = 6 ∨ op = 7 := by omega
set_option maxHeartbeats 400000 in
theorem two_ok {op : Int} {av am bv bm : BitVec 64} (hr : Hid ((eqb (band av am) zero && eqb (band bv bm) zero) = true)) (hop : 2 ≤ op ∧ op ≤ 7) (w : World) :
    Calls Try.prog 28 #[N op, Bt av am, Bt bv bm] w fun e w' => e = .returned (.tuple #[Bt (twoP op av am bv bm).1 (twoP op av am bv bm).2, N 0]) ∧ Below w.heap.size w w' := by
  rcases op_cases hop with rfl | rfl | rfl | rfl | rfl | rfl
  all_goals
    clear hop
    go_enter Try.func28, Try.ntmps28
    go_wp2_with fail
    refine (check2_is hr (by simp) (by simp [go_sem]) (by simp [go_sem]) (by simp [go_sem]) (by simp [go_sem])).mono ?_
    rintro e w1 ⟨rfl, hb1⟩
    obtain ⟨hc1, hf1, hs1⟩ := bk (w.heap.size + 1 + 1 + 1) hb1 (by simp)
    first | rw [er_t] | rw [er_f]
    go_wp2_with fail
    first
      | refine (add_any _ _ _ _ _).mono ?_
      | refine (sub_any _ _ _ _ _).mono ?_
      | refine (mul_any _ _ _ _ _).mono ?_
      | refine (and_any _ _ _ _ _).mono ?_
      | refine (or_any _ _ _ _ _).mono ?_
      | refine (without_any _ _ _).mono ?_
    rintro e w2 ⟨rfl, hb2⟩
    obtain ⟨hc2, hf2, hs2⟩ := bk (w.heap.size + 1 + 1 + 1) hb2 hs1
    go_wp2_with fail
    exact bodyPost_ret (v := .tuple #[Bt (twoP _ av am bv bm).1 (twoP _ av am bv bm).2, N 0]) (by simp [results, Try.results28, go_sem, hc1, hc2, twoP]) rfl ⟨rfl, (by repeat (first | exact Below.refl _ _ | assumption | refine below_drewN ?_ _ | refine Below.drew ?_ | refine Below.alloc ?_ (by first | exact Nat.le_refl _ | (simp; done) | (simp; omega) | omega) _ | refine Below.setCell ?_ (by first | exact Nat.le_refl _ | (simp; done) | (simp; omega) | omega) _ | refine Below.trans ?_ (Below.mono (by assumption) (by first | exact Nat.le_refl _ | (simp; done) | (simp; omega) | omega))))⟩

end Go.Proofs.Ytkigmocchaikgaa

/- bitsBegun: what must be in any case. -/
namespace Go.Proofs.Ytkigmocchaikgaa
open Go.RowKit
attribute [local go_sem] w_and w_or w_xor w_andNot w_and1 w_and63 w_add w_sub w_mul w_sub1 w_add1 w_shl w_shl1 w_shr c_beq c_bne c_beq0 c_bne0 c_beq1 c_bne1 wrap_nv

abbrev I (n : Int) : Value := .int .u64 n
theorem bb1 : twoP 2 1#64 4#64 3#64 0#64 = (0#64, 12#64) := by decide
theorem bb2 : bandn 5#64 (jM 5#64 0#64 6#64 0#64) = 4#64 ∧ jM 5#64 0#64 6#64 0#64 = 3#64 := by decide
theorem bb3 : bor 4#64 1#64 = 5#64 ∧ band 3#64 6#64 = 2#64 := by decide
theorem bb4 : bandn 4#64 (sM 4#64 6#64) = 4#64 ∧ sM 4#64 6#64 = 3#64 := by decide
theorem bb5 : bshr 9#64 2 = 2#64 ∧ bshr 4#64 2 = 1#64 := by decide
theorem bc1 (w : World) : Calls Try.prog 28 #[N 2, .agg #[I 1, I 4], .agg #[I 3, I 0]] w fun e w' => e = .returned (.tuple #[.agg #[I 0, I 12], N 0]) ∧ Below w.heap.size w w' := by
  have h := two_ok (op := 2) (av := 1#64) (am := 4#64) (bv := 3#64) (bm := 0#64) (show _ = true by decide) (by decide) w
  rw [bb1] at h; exact h
theorem bc2 (w : World) : Calls Try.prog 13 #[.agg #[I 5, I 0], .agg #[I 6, I 0]] w fun e w' => e = .returned (.tuple #[.agg #[I 4, I 3], N 0]) ∧ Below w.heap.size w w' := by
  have h := join_ok (av := 5#64) (am := 0#64) (bv := 6#64) (bm := 0#64) (show _ = true by decide) w
  rw [bb2.1, bb2.2] at h; exact h
theorem bc3 (w : World) : Calls Try.prog 14 #[.agg #[I 4, I 3], .agg #[I 1, I 6]] w fun e w' => e = .returned (.tuple #[.agg #[I 5, I 2], .bool true, N 0]) ∧ Below w.heap.size w w' := by
  have h := meet_ok (av := 4#64) (am := 3#64) (bv := 1#64) (bm := 6#64) (show _ = true by decide) (by decide) w
  rw [bb3.1, bb3.2] at h; exact h
theorem bc4 (w : World) : Calls Try.prog 16 #[I 4, I 6] w fun e w' => e = .returned (.tuple #[.agg #[I 4, I 3], N 0]) ∧ Below w.heap.size w w' := by
  have h := span_ok (l := 4#64) (h := 6#64) (by decide) w
  rw [bb4.1, bb4.2] at h; exact h
theorem bc5 (w : World) : Calls Try.prog 15 #[N 9, .agg #[I 9, I 4], N 2] w fun e w' => e = .returned (.tuple #[.agg #[I 2, I 1], N 0]) ∧ Below w.heap.size w w' := by
  have h := shift_down (n := 2) (v := 9#64) (m := 4#64) (show _ = true by decide) (by decide) w
  rw [bb5.1, bb5.2] at h; exact h
theorem bc6 (w : World) : Calls Try.prog 24 #[.agg #[I 4, I 3], I 7] w fun e w' => e = .returned (.bool true) ∧ Below w.heap.size w w' := by
  have h := has_any 4#64 3#64 7#64 w
  rw [show hasB 4#64 3#64 7#64 = true from by decide] at h; exact h
theorem bc7 (w : World) : Calls Try.prog 26 #[.agg #[I 5, I 2], .agg #[I 4, I 3]] w fun e w' => e = .returned (.bool true) ∧ Below w.heap.size w w' := by
  have h := inside_any 5#64 2#64 4#64 3#64 w
  rw [show insB 5#64 2#64 4#64 3#64 = true from by decide] at h; exact h
theorem bc8 (w : World) : Calls Try.prog 23 #[.agg #[I 1, I 1]] w fun e w' => e = .returned (N 1) ∧ Below w.heap.size w w' := by
  exact check_any (v := 1#64) (m := 1#64) (r := false) (show _ = _ by decide) w

set_option maxHeartbeats 1000000 in
theorem bitsBegun_any (w : World) : Calls Try.prog 22 #[] w fun e w' => e = .returned (.bool true) ∧ Below w.heap.size w w' := by
  go_enter Try.func22, Try.ntmps22
  go_wp2_with fail
  refine (bc1 _).mono ?_
  rintro e w1 ⟨rfl, hb1⟩
  go_wp2_with fail
  refine (bc2 _).mono ?_
  rintro e w2 ⟨rfl, hb2⟩
  have hB2 := (((Kp.start w).keep hb1).add2 _ _ _).keep hb2
  obtain ⟨a0, a1, a2, a3, a4⟩ := hB2.box.head.two
  go_wp2_with fail
  refine (bc3 _).mono ?_
  rintro e w3 ⟨rfl, hb3⟩
  have hB3 := (hB2.add2 _ _ _).keep hb3
  clear a0 a1 a2 a3 a4
  obtain ⟨b0, b1, b2, b3, b4⟩ := hB3.box.head.two
  obtain ⟨a0, a1, a2, a3, a4⟩ := hB3.box.tail.head.two
  go_wp2_with fail
  refine (bc4 _).mono ?_
  rintro e w4 ⟨rfl, hb4⟩
  have hB4 := (hB3.add2 _ _ _).keep hb4
  clear b0 b1 b2 b3 b4 a0 a1 a2 a3 a4
  obtain ⟨c0, c1, c2, c3, c4⟩ := hB4.box.head.two
  obtain ⟨b0, b1, b2, b3, b4⟩ := hB4.box.tail.head.two
  obtain ⟨a0, a1, a2, a3, a4⟩ := hB4.box.tail.tail.head.two
  go_wp2_with fail
  refine (bc5 _).mono ?_
  rintro e w5 ⟨rfl, hb5⟩
  have hB5 := (hB4.add2 _ _ _).keep hb5
  clear c0 c1 c2 c3 c4 b0 b1 b2 b3 b4 a0 a1 a2 a3 a4
  obtain ⟨d0, d1, d2, d3, d4⟩ := hB5.box.head.two
  obtain ⟨c0, c1, c2, c3, c4⟩ := hB5.box.tail.head.two
  obtain ⟨b0, b1, b2, b3, b4⟩ := hB5.box.tail.tail.head.two
  obtain ⟨a0, a1, a2, a3, a4⟩ := hB5.box.tail.tail.tail.head.two
  go_wp2_with fail
  refine (bc6 _).mono ?_
  rintro e w6 ⟨rfl, hb6⟩
  have hB6 := (hB5.add2 _ _ _).keep hb6
  clear d0 d1 d2 d3 d4 c0 c1 c2 c3 c4 b0 b1 b2 b3 b4 a0 a1 a2 a3 a4
  obtain ⟨x0, x1, x2, x3, x4⟩ := hB6.box.head.two
  obtain ⟨d0, d1, d2, d3, d4⟩ := hB6.box.tail.head.two
  obtain ⟨c0, c1, c2, c3, c4⟩ := hB6.box.tail.tail.head.two
  obtain ⟨b0, b1, b2, b3, b4⟩ := hB6.box.tail.tail.tail.head.two
  obtain ⟨a0, a1, a2, a3, a4⟩ := hB6.box.tail.tail.tail.tail.head.two
  go_wp2_with fail
  refine (bc7 _).mono ?_
  rintro e w7 ⟨rfl, hb7⟩
  have hB7 := hB6.keep hb7
  clear x0 x1 x2 x3 x4 d0 d1 d2 d3 d4 c0 c1 c2 c3 c4 b0 b1 b2 b3 b4 a0 a1 a2 a3 a4
  go_wp2_with fail
  refine (bc8 _).mono ?_
  rintro e w8 ⟨rfl, hb8⟩
  go_wp2_with fail
  go_ret
  exact ⟨rfl, (hB7.keep hb8).bel⟩
end Go.Proofs.Ytkigmocchaikgaa

/- That the reference's answers, put together bit by bit, are package bits' own: plain facts. -/
namespace Go.Proofs.Ytkigmocchaikgaa

theorem rightP {av am bv bm : BitVec 64} (hr : (eqb (band av am) zero && eqb (band bv bm) zero) = true) : (∀ j, (bit av j && bit am j) = false) ∧ (∀ j, (bit bv j && bit bm j) = false) := by
  rw [Bool.and_eq_true] at hr
  exact ⟨(right_iff _ _).1 hr.1, (right_iff _ _).1 hr.2⟩

theorem join_eq {av am bv bm : BitVec 64} (hr : (eqb (band av am) zero && eqb (band bv bm) zero) = true) :
    joinV av am bv bm 64 = bandn av (jM av am bv bm) ∧ joinM av am bv bm 64 = jM av am bv bm := by
  obtain ⟨ha, hb⟩ := rightP hr
  constructor
  · apply acc_eq; intro j hj
    have h1 := ha j; have h2 := hb j
    simp only [mo, mz, jM, bit_andn _ _ _ hj, bit_or, bit_xor]
    revert h1 h2
    cases bit av j <;> cases bit am j <;> cases bit bv j <;> cases bit bm j <;> simp
  · apply acc_eq; intro j hj
    have h1 := ha j; have h2 := hb j
    simp only [mo, mz, jM, bit_or, bit_xor]
    revert h1 h2
    cases bit av j <;> cases bit am j <;> cases bit bv j <;> cases bit bm j <;> simp

theorem meet_eq {av am bv bm : BitVec 64} (hr : (eqb (band av am) zero && eqb (band bv bm) zero) = true) (hm : eqb (bandn (bxor av bv) (bor am bm)) zero = true) :
    (∀ j, j < 64 → meetOk av am bv bm j = true) ∧ meetV av am bv bm 64 = bor av bv ∧ meetM av am bv bm 64 = band am bm := by
  obtain ⟨ha, hb⟩ := rightP hr
  rw [eqb_zero_iff] at hm
  refine ⟨?_, ?_, ?_⟩
  · intro j hj
    have h1 := ha j; have h2 := hb j; have h3 := hm j hj
    rw [bit_andn _ _ _ hj, bit_xor, bit_or] at h3
    simp only [meetOk, mo, mz]
    revert h1 h2 h3
    cases bit av j <;> cases bit am j <;> cases bit bv j <;> cases bit bm j <;> simp
  · apply acc_eq; intro j hj
    have h1 := ha j; have h2 := hb j; have h3 := hm j hj
    rw [bit_andn _ _ _ hj, bit_xor, bit_or] at h3
    simp only [mo, mz, bit_or]
    revert h1 h2 h3
    cases bit av j <;> cases bit am j <;> cases bit bv j <;> cases bit bm j <;> simp
  · apply acc_eq; intro j hj
    have h1 := ha j; have h2 := hb j; have h3 := hm j hj
    rw [bit_andn _ _ _ hj, bit_xor, bit_or] at h3
    simp only [mo, mz, bit_and']
    revert h1 h2 h3
    cases bit av j <;> cases bit am j <;> cases bit bv j <;> cases bit bm j <;> simp
theorem meet_ne {av am bv bm : BitVec 64} (hm : eqb (bandn (bxor av bv) (bor am bm)) zero = false) :
    ∃ j, j < 64 ∧ meetOk av am bv bm j = false ∧ ∀ i, i < j → meetOk av am bv bm i = true := by
  rcases first_no (meetOk av am bv bm) 64 with h | h
  · exfalso
    have : eqb (bandn (bxor av bv) (bor am bm)) zero = true := by
      rw [eqb_zero_iff]; intro j hj
      have h1 := h j hj
      rw [bit_andn _ _ _ hj, bit_xor, bit_or]
      simp only [meetOk, mo, mz] at h1
      revert h1
      cases bit av j <;> cases bit am j <;> cases bit bv j <;> cases bit bm j <;> simp
    rw [this] at hm; cases hm
  · exact h

theorem inside_eq {av am bv bm : BitVec 64} (hr : (eqb (band av am) zero && eqb (band bv bm) zero) = true) :
    insB av am bv bm = true ↔ ∀ j, j < 64 → insOk av am bv bm j = true := by
  obtain ⟨ha, hb⟩ := rightP hr
  unfold insB
  rw [hr, Bool.true_and, Bool.and_eq_true, eqb_zero_iff, eqb_iff]
  constructor
  · rintro ⟨h1, h2⟩ j hj
    have a1 := ha j; have a2 := hb j; have a3 := h1 j hj
    have a4 : bit (bandn av bm) j = bit bv j := by rw [h2]
    rw [bit_andn _ _ _ hj] at a3 a4
    simp only [insOk, mo, mz]
    revert a1 a2 a3 a4
    cases bit av j <;> cases bit am j <;> cases bit bv j <;> cases bit bm j <;> simp
  · intro h
    constructor
    · intro j hj
      have a1 := ha j; have a2 := hb j; have a3 := h j hj
      simp only [insOk, mo, mz] at a3
      rw [bit_andn _ _ _ hj]
      revert a1 a2 a3
      cases bit av j <;> cases bit am j <;> cases bit bv j <;> cases bit bm j <;> simp
    · apply ext64; intro j hj
      have a1 := ha j; have a2 := hb j; have a3 := h j hj
      simp only [insOk, mo, mz] at a3
      rw [bit_andn _ _ _ hj]
      revert a1 a2 a3
      cases bit av j <;> cases bit am j <;> cases bit bv j <;> cases bit bm j <;> simp

theorem sh_up_eq {v m : BitVec 64} (hr : eqb (band v m) zero = true) (n : Nat) : shV true v m n 64 = bshl v n ∧ shM true v m n 64 = bshl m n := by
  have ha := (right_iff _ _).1 hr
  have key : ∀ j, j < 64 → (sho true v m n j = (decide (n ≤ j) && (bit v (j - n) || bit m (j - n)))) ∧ (shz true v n j = (!decide (n ≤ j) || !bit v (j - n))) := by
    intro j hj
    by_cases h : n ≤ j
    · have e := sh_in true v m n j (j - n) (by simp [shFrom]; omega) (by omega)
      rw [← e.1, ← e.2]; simp [h, mz, mo]
    · have e := sh_out true v m n j (by simp [shFrom]; omega)
      rw [← e.1, ← e.2]; simp [h]
  constructor
  · apply acc_eq; intro j hj
    rw [(key j hj).1, (key j hj).2, bit_shl _ _ _ hj]
    have h1 := ha (j - n)
    revert h1
    cases decide (n ≤ j) <;> cases bit v (j - n) <;> cases bit m (j - n) <;> simp
  · apply acc_eq; intro j hj
    rw [(key j hj).1, (key j hj).2, bit_shl _ _ _ hj]
    have h1 := ha (j - n)
    revert h1
    cases decide (n ≤ j) <;> cases bit v (j - n) <;> cases bit m (j - n) <;> simp
theorem sh_down_eq {v m : BitVec 64} (hr : eqb (band v m) zero = true) (n : Nat) : shV false v m n 64 = bshr v n ∧ shM false v m n 64 = bshr m n := by
  have ha := (right_iff _ _).1 hr
  have key : ∀ j, j < 64 → (sho false v m n j = (bit v (n + j) || bit m (n + j))) ∧ (shz false v n j = !bit v (n + j)) := by
    intro j hj
    by_cases h : n + j < 64
    · have e := sh_in false v m n j (n + j) (by simp [shFrom]; omega) h
      rw [← e.1, ← e.2]; simp [mz, mo]
    · have e := sh_out false v m n j (by simp [shFrom]; omega)
      rw [← e.1, ← e.2, bit_big v _ (by omega), bit_big m _ (by omega)]; simp
  constructor
  · apply acc_eq; intro j hj
    rw [(key j hj).1, (key j hj).2, bit_shr]
    have h1 := ha (n + j)
    revert h1
    cases bit v (n + j) <;> cases bit m (n + j) <;> simp
  · apply acc_eq; intro j hj
    rw [(key j hj).1, (key j hj).2, bit_shr]
    have h1 := ha (n + j)
    revert h1
    cases bit v (n + j) <;> cases bit m (n + j) <;> simp

/- how many bits a number wants -/
theorem aux_lt : ∀ (f x : Nat), x < 2 ^ f → x < 2 ^ Lib.bitLenAux f x
  | 0, x, h => by simpa [Lib.bitLenAux] using h
  | f + 1, x, h => by
    simp only [Lib.bitLenAux]
    split
    · subst_vars; simp
    · have := aux_lt f (x / 2) (by rw [Nat.pow_succ] at h; omega)
      rw [Nat.add_comm 1, Nat.pow_succ]
      omega
theorem blen_iff (x : BitVec 64) (k : Nat) (hk : k ≤ 64) : blen x ≤ k ↔ x.toNat < 2 ^ k := by
  have e : (nv x).toNat = x.toNat := by unfold nv; rw [Int.toNat_natCast]
  unfold blen
  rw [e]
  constructor
  · intro h
    exact Nat.lt_of_lt_of_le (aux_lt 64 x.toNat x.isLt) (Nat.pow_le_pow_right (by decide) h)
  · intro h
    exact Lib.bitLen_le _ k hk h
theorem lt_iff_bits (x : BitVec 64) (k : Nat) : x.toNat < 2 ^ k ↔ ∀ j, k ≤ j → bit x j = false := by
  constructor
  · intro h j hj
    unfold bit BitVec.getLsbD
    exact Nat.testBit_lt_two_pow (Nat.lt_of_lt_of_le h (Nat.pow_le_pow_right (by decide) hj))
  · intro h
    exact Nat.lt_pow_two_of_testBit _ fun j hj => h j hj
theorem blen_bits (x : BitVec 64) (k : Nat) (hk : k ≤ 64) : blen x ≤ k ↔ ∀ j, k ≤ j → bit x j = false := by
  rw [blen_iff x k hk, lt_iff_bits]
theorem lowMask_bit (n j : Nat) (hn : n ≤ 64) (_hj : j < 64) : bit (lowMask n) j = decide (j < n) := by
  have h : (lowMask n).toNat = 2 ^ n - 1 := by
    unfold lowMask bsub bshl one
    by_cases e : n = 64
    · subst e; decide
    · have hlt : 2 ^ n < 2 ^ 64 := Nat.pow_lt_pow_right (by decide) (by omega)
      have h1 : 1 ≤ 2 ^ n := Nat.one_le_two_pow
      have e1 : (1#64 <<< n).toNat = 2 ^ n := by
        rw [BitVec.toNat_shiftLeft, Nat.shiftLeft_eq]; rw [show (1#64).toNat = 1 from rfl, Nat.one_mul]; exact Nat.mod_eq_of_lt hlt
      rw [BitVec.toNat_sub, e1]
      simp only [BitVec.toNat_ofNat]
      omega
  unfold bit BitVec.getLsbD
  rw [h, Nat.testBit_two_pow_sub_one]

theorem sameB_iff (l h : BitVec 64) (c : Nat) (hc : c ≤ 64) : sameB l h c = true ↔ ∀ j, 64 - c ≤ j → bit (bxor l h) j = false := by
  induction c with
  | zero => simp only [sameB, true_iff]; intro j hj; exact bit_big _ _ (by omega)
  | succ c ih =>
    have ih := ih (by omega)
    simp only [sameB, Bool.and_eq_true, ih, beq_iff_eq]
    constructor
    · rintro ⟨h1, h2⟩ j hj
      by_cases e : j = 63 - c
      · subst e; rw [bit_xor, h2]; simp
      · exact h1 j (by omega)
    · intro h1
      refine ⟨fun j hj => h1 j (by omega), ?_⟩
      have := h1 (63 - c) (by omega)
      rw [bit_xor] at this
      revert this
      cases bit l (63 - c) <;> cases bit h (63 - c) <;> simp
theorem span_eq (l h : BitVec 64) : spanV l h 64 = bandn l (sM l h) ∧ spanM l h 64 = sM l h := by
  have key : ∀ j, j < 64 → bit (sM l h) j = !sameB l h (64 - j) := by
    intro j hj
    unfold sM
    rw [lowMask_bit _ _ (blen_le _) hj]
    have h1 := sameB_iff l h (64 - j) (by omega)
    rw [show 64 - (64 - j) = j by omega, ← blen_bits _ j (by omega)] at h1
    cases hs : sameB l h (64 - j)
    · rw [hs] at h1; simp at h1; simp [h1]
    · rw [hs] at h1; simp at h1; simp; omega
  constructor
  · apply accd_eq; intro j hj
    rw [bit_andn _ _ _ hj, key j hj]
    simp only [spo, spz]
    cases sameB l h (64 - j) <;> cases bit l j <;> simp
  · apply accd_eq; intro j hj
    rw [key j hj]
    simp only [spo, spz]
    cases sameB l h (64 - j) <;> cases bit l j <;> simp

end Go.Proofs.Ytkigmocchaikgaa

/- The contracts of the reference's loops over the 64 bits. -/
namespace Go.Proofs.Ytkigmocchaikgaa
open Go.RowKit
attribute [local go_sem] w_and w_or w_xor w_andNot w_and1 w_and63 w_add w_sub w_mul w_sub1 w_add1 w_shl w_shl1 w_shr c_beq c_bne c_beq0 c_bne0 c_beq1 c_bne1 wrap_nv

set_option maxHeartbeats 400000 in
theorem joinBits_any (av am bv bm : BitVec 64) (w : World) :
    Calls Try.prog 18 #[Bt av am, Bt bv bm] w fun e w' => e = .returned (Bt (joinV av am bv bm 64) (joinM av am bv bm 64)) ∧ Below w.heap.size w w' := by
  go_enter Try.func18, Try.ntmps18
  go_wp2
  go_loopw [6] (fun i wr => ∃ k : Nat, k ≤ 64 ∧ i = N k
      ∧ Below (w.heap.size + 1 + 1 + 1) (((w.alloc (.cells #[U av, U am] 24)).alloc (.cells #[U bv, U bm] 24)).alloc (.cells #[.int .u64 0, .int .u64 0] 24)) wr
      ∧ wr.cell? ⟨w.heap.size + 1 + 1 + 1, 0, none⟩ = some (U (joinV av am bv bm k)) ∧ wr.cell? ⟨w.heap.size + 1 + 1 + 1, 1, none⟩ = some (U (joinM av am bv bm k))
      ∧ (∀ o, wr.frozen? ⟨w.heap.size + 1 + 1 + 1, o, none⟩ = false)
      ∧ w.heap.size + 1 + 1 + 1 + 1 ≤ wr.heap.size) (fun i _ => 64 - (intOf i).toNat)
  case atStart =>
    exact ⟨0, by omega, rfl, (by repeat (first | exact Below.refl _ _ | assumption | refine below_drewN ?_ _ | refine Below.drew ?_ | refine Below.alloc ?_ (by first | exact Nat.le_refl _ | (simp; done) | (simp; omega) | omega) _ | refine Below.setCell ?_ (by first | exact Nat.le_refl _ | (simp; done) | (simp; omega) | omega) _ | refine Below.trans ?_ (Below.mono (by assumption) (by first | exact Nat.le_refl _ | (simp; done) | (simp; omega) | omega)))), by simp [joinV, acc, nv_zero, go_sem], by simp [joinM, acc, nv_zero, go_sem], by simp [go_sem], by simp⟩
  case round =>
    obtain ⟨k, hk, rfl, hbel, ho0, ho1, hfo, hsz⟩ := hrel
    obtain ⟨hc, hf⟩ := bl hbel
    by_cases hlt : k < 64
    · obtain ⟨z1, o1, H1, H2⟩ := may_eq av am k
      obtain ⟨z2, o2, H3, H4⟩ := may_eq bv bm k
      go_wp2_with fail
      refine (may_any hlt H1 H2 _).mono ?_
      rintro e w1 ⟨rfl, hb1⟩
      obtain ⟨hc1, hf1, hs1⟩ := bk _ hb1 hsz
      go_wp2_with fail
      refine (may_any hlt H3 H4 _).mono ?_
      rintro e w2 ⟨rfl, hb2⟩
      obtain ⟨hc2, hf2, hs2⟩ := bk _ hb2 hs1
      cases z1 <;> cases o1
      all_goals
        go_wp2_with fail
        refine (put_any _ _ k hlt _ _ _).mono ?_
        rintro e w3 ⟨rfl, hb3⟩
        obtain ⟨hc3, hf3, hs3⟩ := bk _ hb3 hs2
        go_wp2_with fail
        exact ⟨⟨k + 1, by omega, by go_num, out_rel hbel ((hb1.trans (hb2.mono hb1.size)).trans (hb3.mono (Nat.le_trans hb1.size hb2.size))) hsz ho0 ho1 hfo
          (by rw [← joinV_succ, ← H1.out, ← H2.out, ← H3.out, ← H4.out]; rfl) (by rw [← joinM_succ, ← H1.out, ← H2.out, ← H3.out, ← H4.out]; rfl)⟩, by simp [intOf]; omega⟩
    · have hk64 : k = 64 := by omega
      subst hk64
      go_wp2_with fail
      exact bodyPost_ret (v := Bt (joinV av am bv bm 64) (joinM av am bv bm 64)) (by simp [results, Try.results18, go_sem, hc]) rfl ⟨rfl, (by repeat (first | exact Below.refl _ _ | assumption | refine below_drewN ?_ _ | refine Below.drew ?_ | refine Below.alloc ?_ (by first | exact Nat.le_refl _ | (simp; done) | (simp; omega) | omega) _ | refine Below.setCell ?_ (by first | exact Nat.le_refl _ | (simp; done) | (simp; omega) | omega) _ | refine Below.trans ?_ (Below.mono (by assumption) (by first | exact Nat.le_refl _ | (simp; done) | (simp; omega) | omega))))⟩

set_option maxHeartbeats 600000 in
theorem meetBits_ok (av am bv bm : BitVec 64) (hok : Hid (∀ j, j < 64 → meetOk av am bv bm j = true)) (w : World) :
    Calls Try.prog 19 #[Bt av am, Bt bv bm] w fun e w' => e = .returned (.tuple #[Bt (meetV av am bv bm 64) (meetM av am bv bm 64), .bool true]) ∧ Below w.heap.size w w' := by
  go_enter Try.func19, Try.ntmps19
  go_wp2
  go_loopw [7] (fun i wr => ∃ k : Nat, k ≤ 64 ∧ i = N k
      ∧ Below (w.heap.size + 1 + 1 + 1) (((w.alloc (.cells #[U av, U am] 24)).alloc (.cells #[U bv, U bm] 24)).alloc (.cells #[.int .u64 0, .int .u64 0] 24)) wr
      ∧ wr.cell? ⟨w.heap.size + 1 + 1 + 1, 0, none⟩ = some (U (meetV av am bv bm k)) ∧ wr.cell? ⟨w.heap.size + 1 + 1 + 1, 1, none⟩ = some (U (meetM av am bv bm k))
      ∧ (∀ o, wr.frozen? ⟨w.heap.size + 1 + 1 + 1, o, none⟩ = false)
      ∧ w.heap.size + 1 + 1 + 1 + 1 ≤ wr.heap.size) (fun i _ => 64 - (intOf i).toNat)
  case atStart =>
    exact ⟨0, by omega, rfl, (by repeat (first | exact Below.refl _ _ | assumption | refine below_drewN ?_ _ | refine Below.drew ?_ | refine Below.alloc ?_ (by first | exact Nat.le_refl _ | (simp; done) | (simp; omega) | omega) _ | refine Below.setCell ?_ (by first | exact Nat.le_refl _ | (simp; done) | (simp; omega) | omega) _ | refine Below.trans ?_ (Below.mono (by assumption) (by first | exact Nat.le_refl _ | (simp; done) | (simp; omega) | omega)))), by simp [meetV, acc, nv_zero, go_sem], by simp [meetM, acc, nv_zero, go_sem], by simp [go_sem], by simp⟩
  case round =>
    obtain ⟨k, hk, rfl, hbel, ho0, ho1, hfo, hsz⟩ := hrel
    obtain ⟨hc, hf⟩ := bl hbel
    by_cases hlt : k < 64
    · obtain ⟨z1, o1, H1, H2⟩ := may_eq av am k
      obtain ⟨z2, o2, H3, H4⟩ := may_eq bv bm k
      have Hok : Hid (((z1 && z2) || (o1 && o2)) = true) := by rw [H1.out, H2.out, H3.out, H4.out]; exact hok.out k hlt
      go_wp2_with fail
      refine (may_any hlt H1 H2 _).mono ?_
      rintro e w1 ⟨rfl, hb1⟩
      obtain ⟨hc1, hf1, hs1⟩ := bk _ hb1 hsz
      go_wp2_with fail
      refine (may_any hlt H3 H4 _).mono ?_
      rintro e w2 ⟨rfl, hb2⟩
      obtain ⟨hc2, hf2, hs2⟩ := bk _ hb2 hs1
      cases z1 <;> cases o1 <;> cases z2 <;> cases o2 <;> first
        | exact absurd Hok.out (by decide)
        | (clear Hok
           go_wp2_with fail
           refine (put_any _ _ k hlt _ _ _).mono ?_
           rintro e w3 ⟨rfl, hb3⟩
           obtain ⟨hc3, hf3, hs3⟩ := bk _ hb3 hs2
           go_wp2_with fail
           exact ⟨⟨k + 1, by omega, by go_num, out_rel hbel ((hb1.trans (hb2.mono hb1.size)).trans (hb3.mono (Nat.le_trans hb1.size hb2.size))) hsz ho0 ho1 hfo
             (by rw [← meetV_succ, ← H1.out, ← H2.out, ← H3.out, ← H4.out]; rfl) (by rw [← meetM_succ, ← H1.out, ← H2.out, ← H3.out, ← H4.out]; rfl)⟩, by simp [intOf]; omega⟩)
    · have hk64 : k = 64 := by omega
      subst hk64
      go_wp2_with fail
      exact bodyPost_ret (v := .tuple #[Bt (meetV av am bv bm 64) (meetM av am bv bm 64), .bool true]) (by simp [results, Try.results19, go_sem, hc]) rfl ⟨rfl, (by repeat (first | exact Below.refl _ _ | assumption | refine below_drewN ?_ _ | refine Below.drew ?_ | refine Below.alloc ?_ (by first | exact Nat.le_refl _ | (simp; done) | (simp; omega) | omega) _ | refine Below.setCell ?_ (by first | exact Nat.le_refl _ | (simp; done) | (simp; omega) | omega) _ | refine Below.trans ?_ (Below.mono (by assumption) (by first | exact Nat.le_refl _ | (simp; done) | (simp; omega) | omega))))⟩

set_option maxHeartbeats 600000 in
theorem meetBits_no (av am bv bm : BitVec 64) (j0 : Nat) (hj : j0 < 64) (hno : Hid (meetOk av am bv bm j0 = false)) (hok : Hid (∀ j, j < j0 → meetOk av am bv bm j = true)) (w : World) :
    Calls Try.prog 19 #[Bt av am, Bt bv bm] w fun e w' => e = .returned (.tuple #[Bt zero zero, .bool false]) ∧ Below w.heap.size w w' := by
  go_enter Try.func19, Try.ntmps19
  go_wp2
  go_loopw [7] (fun i wr => ∃ k : Nat, k ≤ j0 ∧ i = N k
      ∧ Below (w.heap.size + 1 + 1 + 1) (((w.alloc (.cells #[U av, U am] 24)).alloc (.cells #[U bv, U bm] 24)).alloc (.cells #[.int .u64 0, .int .u64 0] 24)) wr
      ∧ wr.cell? ⟨w.heap.size + 1 + 1 + 1, 0, none⟩ = some (U (meetV av am bv bm k)) ∧ wr.cell? ⟨w.heap.size + 1 + 1 + 1, 1, none⟩ = some (U (meetM av am bv bm k))
      ∧ (∀ o, wr.frozen? ⟨w.heap.size + 1 + 1 + 1, o, none⟩ = false)
      ∧ w.heap.size + 1 + 1 + 1 + 1 ≤ wr.heap.size) (fun i _ => 64 - (intOf i).toNat)
  case atStart =>
    exact ⟨0, by omega, rfl, (by repeat (first | exact Below.refl _ _ | assumption | refine below_drewN ?_ _ | refine Below.drew ?_ | refine Below.alloc ?_ (by first | exact Nat.le_refl _ | (simp; done) | (simp; omega) | omega) _ | refine Below.setCell ?_ (by first | exact Nat.le_refl _ | (simp; done) | (simp; omega) | omega) _ | refine Below.trans ?_ (Below.mono (by assumption) (by first | exact Nat.le_refl _ | (simp; done) | (simp; omega) | omega)))), by simp [meetV, acc, nv_zero, go_sem], by simp [meetM, acc, nv_zero, go_sem], by simp [go_sem], by simp⟩
  case round =>
    obtain ⟨k, hk, rfl, hbel, ho0, ho1, hfo, hsz⟩ := hrel
    obtain ⟨hc, hf⟩ := bl hbel
    have hlt : k < 64 := by omega
    obtain ⟨z1, o1, H1, H2⟩ := may_eq av am k
    obtain ⟨z2, o2, H3, H4⟩ := may_eq bv bm k
    by_cases hlj : k < j0
    · have Hok : Hid (((z1 && z2) || (o1 && o2)) = true) := by rw [H1.out, H2.out, H3.out, H4.out]; exact hok.out k hlj
      go_wp2_with fail
      refine (may_any hlt H1 H2 _).mono ?_
      rintro e w1 ⟨rfl, hb1⟩
      obtain ⟨hc1, hf1, hs1⟩ := bk _ hb1 hsz
      go_wp2_with fail
      refine (may_any hlt H3 H4 _).mono ?_
      rintro e w2 ⟨rfl, hb2⟩
      obtain ⟨hc2, hf2, hs2⟩ := bk _ hb2 hs1
      cases z1 <;> cases o1 <;> cases z2 <;> cases o2 <;> first
        | exact absurd Hok.out (by decide)
        | (clear Hok
           go_wp2_with fail
           refine (put_any _ _ k hlt _ _ _).mono ?_
           rintro e w3 ⟨rfl, hb3⟩
           obtain ⟨hc3, hf3, hs3⟩ := bk _ hb3 hs2
           go_wp2_with fail
           exact ⟨⟨k + 1, by omega, by go_num, out_rel hbel ((hb1.trans (hb2.mono hb1.size)).trans (hb3.mono (Nat.le_trans hb1.size hb2.size))) hsz ho0 ho1 hfo
             (by rw [← meetV_succ, ← H1.out, ← H2.out, ← H3.out, ← H4.out]; rfl) (by rw [← meetM_succ, ← H1.out, ← H2.out, ← H3.out, ← H4.out]; rfl)⟩, by simp [intOf]; omega⟩)
    · have ek : k = j0 := by omega
      have Hno : Hid (((z1 && z2) || (o1 && o2)) = false) := by rw [H1.out, H2.out, H3.out, H4.out, ek]; exact hno.out
      clear ek
      go_wp2_with fail
      refine (may_any hlt H1 H2 _).mono ?_
      rintro e w1 ⟨rfl, hb1⟩
      obtain ⟨hc1, hf1, hs1⟩ := bk _ hb1 hsz
      go_wp2_with fail
      refine (may_any hlt H3 H4 _).mono ?_
      rintro e w2 ⟨rfl, hb2⟩
      obtain ⟨hc2, hf2, hs2⟩ := bk _ hb2 hs1
      cases z1 <;> cases o1 <;> cases z2 <;> cases o2 <;> first
        | exact absurd Hno.out (by decide)
        | (clear Hno
           go_wp2_with fail
           exact bodyPost_ret (v := .tuple #[Bt zero zero, .bool false]) (by simp [results, Try.results19, go_sem, hc, hc1, hc2, nv_zero]) rfl ⟨rfl, (by repeat (first | exact Below.refl _ _ | assumption | refine below_drewN ?_ _ | refine Below.drew ?_ | refine Below.alloc ?_ (by first | exact Nat.le_refl _ | (simp; done) | (simp; omega) | omega) _ | refine Below.setCell ?_ (by first | exact Nat.le_refl _ | (simp; done) | (simp; omega) | omega) _ | refine Below.trans ?_ (Below.mono (by assumption) (by first | exact Nat.le_refl _ | (simp; done) | (simp; omega) | omega))))⟩)

end Go.Proofs.Ytkigmocchaikgaa

/- The contracts of the reference's ShiftBits, SpanBits, InsideBits, BitsHave. -/
namespace Go.Proofs.Ytkigmocchaikgaa
open Go.RowKit
attribute [local go_sem] w_and w_or w_xor w_andNot w_and1 w_and63 w_add w_sub w_mul w_sub1 w_add1 w_shl w_shl1 w_shr c_beq c_bne c_beq0 c_bne0 c_beq1 c_bne1 wrap_nv

/- a round of ShiftBits: the source lies within, or it doesn't -/
set_option maxHeartbeats 600000 in
theorem shiftBits_any (up : Bool) (op : Int) (hop : op = if up then 8 else 9) (v m : BitVec 64) (n : Nat) (hn : n < 64) (w : World) :
    Calls Try.prog 20 #[N op, Bt v m, N n] w fun e w' => e = .returned (Bt (shV up v m n 64) (shM up v m n 64)) ∧ Below w.heap.size w w' := by
  have hop9 : (op == 9) = !up := by cases up <;> simp [hop]
  clear hop
  go_enter Try.func20, Try.ntmps20
  go_wp2
  go_loopw [8] (fun i wr => ∃ k : Nat, k ≤ 64 ∧ i = N k
      ∧ Below (w.heap.size + 1 + 1) ((w.alloc (.cells #[U v, U m] 24)).alloc (.cells #[.int .u64 0, .int .u64 0] 24)) wr
      ∧ wr.cell? ⟨w.heap.size + 1 + 1, 0, none⟩ = some (U (shV up v m n k)) ∧ wr.cell? ⟨w.heap.size + 1 + 1, 1, none⟩ = some (U (shM up v m n k))
      ∧ (∀ o, wr.frozen? ⟨w.heap.size + 1 + 1, o, none⟩ = false)
      ∧ w.heap.size + 1 + 1 + 1 ≤ wr.heap.size) (fun i _ => 64 - (intOf i).toNat)
  case atStart =>
    exact ⟨0, by omega, rfl, (by repeat (first | exact Below.refl _ _ | assumption | refine below_drewN ?_ _ | refine Below.drew ?_ | refine Below.alloc ?_ (by first | exact Nat.le_refl _ | (simp; done) | (simp; omega) | omega) _ | refine Below.setCell ?_ (by first | exact Nat.le_refl _ | (simp; done) | (simp; omega) | omega) _ | refine Below.trans ?_ (Below.mono (by assumption) (by first | exact Nat.le_refl _ | (simp; done) | (simp; omega) | omega)))), by simp [shV, acc, nv_zero, go_sem], by simp [shM, acc, nv_zero, go_sem], by simp [go_sem], by simp⟩
  case round =>
    obtain ⟨k, hk, rfl, hbel, ho0, ho1, hfo, hsz⟩ := hrel
    obtain ⟨hc, hf⟩ := bl hbel
    by_cases hlt : k < 64
    · cases up
      · by_cases hin : k + n < 64
        · obtain ⟨z1, o1, H1, H2⟩ := may_eq v m (k + n)
          have hs := sh_in false v m n k (k + n) (by simp [shFrom]) hin
          have Hz : Hid (z1 = shz false v n k) := H1.out.trans hs.1
          have Ho : Hid (o1 = sho false v m n k) := H2.out.trans hs.2
          clear hs
          go_wp2_with fail
          refine (within_yes (by omega) _).mono ?_
          rintro e w0 ⟨rfl, rfl⟩
          go_wp2_with fail
          rw [show (k : Int) + (n : Int) = ((k + n : Nat) : Int) from by omega]
          refine (may_any hin H1 H2 _).mono ?_
          rintro e w1 ⟨rfl, hb1⟩
          obtain ⟨hc1, hf1, hs1⟩ := bk _ hb1 hsz
          go_wp2_with fail
          refine (put_any _ _ k hlt _ _ _).mono ?_
          rintro e w3 ⟨rfl, hb3⟩
          obtain ⟨hc3, hf3, hs3⟩ := bk _ hb3 hs1
          go_wp2_with fail
          exact ⟨⟨k + 1, by omega, by go_num, out_rel hbel (hb1.trans (hb3.mono hb1.size)) hsz ho0 ho1 hfo
            (by rw [← shV_succ, ← Hz.out, ← Ho.out]) (by rw [← shM_succ, ← Hz.out, ← Ho.out])⟩, by simp [intOf]; omega⟩
        · have hs := sh_out false v m n k (by simp [shFrom]; omega)
          have Hz : Hid (true = shz false v n k) := hs.1
          have Ho : Hid (false = sho false v m n k) := hs.2
          clear hs
          go_wp2_with fail
          refine (within_no (by omega) _).mono ?_
          rintro e w0 ⟨rfl, rfl⟩
          go_wp2_with fail
          refine (put_any _ _ k hlt _ _ _).mono ?_
          rintro e w3 ⟨rfl, hb3⟩
          obtain ⟨hc3, hf3, hs3⟩ := bk _ hb3 hsz
          go_wp2_with fail
          exact ⟨⟨k + 1, by omega, by go_num, out_rel hbel hb3 hsz ho0 ho1 hfo
            (by rw [← shV_succ, ← Hz.out, ← Ho.out]) (by rw [← shM_succ, ← Hz.out, ← Ho.out])⟩, by simp [intOf]; omega⟩
      · by_cases hin : n ≤ k
        · obtain ⟨z1, o1, H1, H2⟩ := may_eq v m (k - n)
          have hs := sh_in true v m n k (k - n) (by simp [shFrom]; omega) (by omega)
          have Hz : Hid (z1 = shz true v n k) := H1.out.trans hs.1
          have Ho : Hid (o1 = sho true v m n k) := H2.out.trans hs.2
          clear hs
          go_wp2_with fail
          refine (within_yes (by omega) _).mono ?_
          rintro e w0 ⟨rfl, rfl⟩
          go_wp2_with fail
          rw [show (k : Int) - (n : Int) = ((k - n : Nat) : Int) from by omega]
          refine (may_any (by omega) H1 H2 _).mono ?_
          rintro e w1 ⟨rfl, hb1⟩
          obtain ⟨hc1, hf1, hs1⟩ := bk _ hb1 hsz
          go_wp2_with fail
          refine (put_any _ _ k hlt _ _ _).mono ?_
          rintro e w3 ⟨rfl, hb3⟩
          obtain ⟨hc3, hf3, hs3⟩ := bk _ hb3 hs1
          go_wp2_with fail
          exact ⟨⟨k + 1, by omega, by go_num, out_rel hbel (hb1.trans (hb3.mono hb1.size)) hsz ho0 ho1 hfo
            (by rw [← shV_succ, ← Hz.out, ← Ho.out]) (by rw [← shM_succ, ← Hz.out, ← Ho.out])⟩, by simp [intOf]; omega⟩
        · have hs := sh_out true v m n k (by simp [shFrom]; omega)
          have Hz : Hid (true = shz true v n k) := hs.1
          have Ho : Hid (false = sho true v m n k) := hs.2
          clear hs
          go_wp2_with fail
          refine (within_no (by omega) _).mono ?_
          rintro e w0 ⟨rfl, rfl⟩
          go_wp2_with fail
          refine (put_any _ _ k hlt _ _ _).mono ?_
          rintro e w3 ⟨rfl, hb3⟩
          obtain ⟨hc3, hf3, hs3⟩ := bk _ hb3 hsz
          go_wp2_with fail
          exact ⟨⟨k + 1, by omega, by go_num, out_rel hbel hb3 hsz ho0 ho1 hfo
            (by rw [← shV_succ, ← Hz.out, ← Ho.out]) (by rw [← shM_succ, ← Hz.out, ← Ho.out])⟩, by simp [intOf]; omega⟩
    · have hk64 : k = 64 := by omega
      subst hk64
      go_wp2_with fail
      exact bodyPost_ret (v := Bt (shV up v m n 64) (shM up v m n 64)) (by simp [results, Try.results20, go_sem, hc]) rfl ⟨rfl, (by repeat (first | exact Below.refl _ _ | assumption | refine below_drewN ?_ _ | refine Below.drew ?_ | refine Below.alloc ?_ (by first | exact Nat.le_refl _ | (simp; done) | (simp; omega) | omega) _ | refine Below.setCell ?_ (by first | exact Nat.le_refl _ | (simp; done) | (simp; omega) | omega) _ | refine Below.trans ?_ (Below.mono (by assumption) (by first | exact Nat.le_refl _ | (simp; done) | (simp; omega) | omega))))⟩

/- SpanBits: from the highest bit down -/
set_option maxHeartbeats 600000 in
theorem spanBits_any (l h : BitVec 64) (w : World) :
    Calls Try.prog 21 #[U l, U h] w fun e w' => e = .returned (Bt (spanV l h 64) (spanM l h 64)) ∧ Below w.heap.size w w' := by
  go_enter Try.func21, Try.ntmps21
  go_wp2
  go_loopw [6, 7] (fun s i wr => ∃ (c : Nat) (t : Int), c ≤ 64 ∧ s = .bool (sameB l h c) ∧ i = N t ∧ t = 63 - c
      ∧ Below (w.heap.size + 1) (w.alloc (.cells #[.int .u64 0, .int .u64 0] 24)) wr
      ∧ wr.cell? ⟨w.heap.size + 1, 0, none⟩ = some (U (spanV l h c)) ∧ wr.cell? ⟨w.heap.size + 1, 1, none⟩ = some (U (spanM l h c))
      ∧ (∀ o, wr.frozen? ⟨w.heap.size + 1, o, none⟩ = false)
      ∧ w.heap.size + 1 + 1 ≤ wr.heap.size) (fun _ i _ => (intOf i + 1).toNat)
  case atStart =>
    exact ⟨0, 63, by omega, rfl, rfl, by omega, (by repeat (first | exact Below.refl _ _ | assumption | refine below_drewN ?_ _ | refine Below.drew ?_ | refine Below.alloc ?_ (by first | exact Nat.le_refl _ | (simp; done) | (simp; omega) | omega) _ | refine Below.setCell ?_ (by first | exact Nat.le_refl _ | (simp; done) | (simp; omega) | omega) _ | refine Below.trans ?_ (Below.mono (by assumption) (by first | exact Nat.le_refl _ | (simp; done) | (simp; omega) | omega)))), by simp [spanV, accd, nv_zero, go_sem], by simp [spanM, accd, nv_zero, go_sem], by simp [go_sem], by simp⟩
  case round =>
    obtain ⟨c, t, hc, rfl, rfl, ht, hbel, ho0, ho1, hfo, hsz⟩ := hrel
    obtain ⟨hcc, hf⟩ := bl hbel
    by_cases hlt : c < 64
    · obtain ⟨i, rfl⟩ := Int.eq_ofNat_of_zero_le (show 0 ≤ t by omega)
      have hi : i = 63 - c := by omega
      have hi64 : i < 64 := by omega
      have hi0 : (0 : Int) ≤ (i : Int) := by omega
      have Hi : Hid (i = 63 - c) := hi
      have hstep := sp_step l h c i hi hlt
      have hl := low_bit l i
      have hh := low_bit h i
      obtain ⟨s, hs⟩ : ∃ s, s = sameB l h c := ⟨_, rfl⟩
      obtain ⟨bl, hbl⟩ : ∃ b, b = bit l i := ⟨_, rfl⟩
      obtain ⟨bh, hbh⟩ : ∃ b, b = bit h i := ⟨_, rfl⟩
      rw [← hbl, ← hbh, ← hs] at hstep
      rw [← hbl] at hl
      rw [← hbh] at hh
      rw [← hs]
      clear hi ht hs hbl hbh
      have H1 : Hid _ := hstep.1
      have H2 : Hid _ := hstep.2.1
      have H3 : Hid _ := hstep.2.2
      clear hstep
      have q1 := eqb_oo
      have q2 := eqb_oz
      have q3 := eqb_zo
      have q4 := eqb_zz
      cases s <;> cases bl <;> cases bh
      all_goals
        simp only [if_true, if_false, Bool.false_eq_true] at hl hh
        go_wp2_with fail
        go_quiet (fail)
        go_wp2_with fail
        refine (put_any _ _ i hi64 _ _ _).mono ?_
        rintro e w3 ⟨rfl, hb3⟩
        have hb3' : Below wr.heap.size wr w3 := (below_drewN (Below.refl _ wr) _).trans hb3
        obtain ⟨hc3, hf3, hs3⟩ := bk _ hb3' hsz
        clear hb3
        go_wp2_with fail
        exact ⟨⟨c + 1, _, by omega, by rw [H1.out]; rfl, rfl, by have := Hi.out; omega, out_rel hbel hb3' hsz ho0 ho1 hfo
          (by rw [← spanV_succ l h c i Hi.out, H2.out, H3.out]; rfl) (by rw [← spanM_succ l h c i Hi.out, H2.out, H3.out]; rfl)⟩, by simp [intOf]⟩
    · have ec : c = 64 := by omega
      subst ec
      have ht' : t = -1 := by omega
      subst ht'
      go_wp2_with fail
      exact bodyPost_ret (v := Bt (spanV l h 64) (spanM l h 64)) (by simp [results, Try.results21, go_sem, hcc]) rfl ⟨rfl, (by repeat (first | exact Below.refl _ _ | assumption | refine below_drewN ?_ _ | refine Below.drew ?_ | refine Below.alloc ?_ (by first | exact Nat.le_refl _ | (simp; done) | (simp; omega) | omega) _ | refine Below.setCell ?_ (by first | exact Nat.le_refl _ | (simp; done) | (simp; omega) | omega) _ | refine Below.trans ?_ (Below.mono (by assumption) (by first | exact Nat.le_refl _ | (simp; done) | (simp; omega) | omega))))⟩

end Go.Proofs.Ytkigmocchaikgaa

/- BitsTells: what the program and the reference answer, side by side, each pair under one name. -/
namespace Go.Proofs.Ytkigmocchaikgaa
open Go.RowKit

theorem hid {p : Prop} (h : p) : Hid p := h

theorem both_join {av am bv bm : BitVec 64} (hr : (eqb (band av am) zero && eqb (band bv bm) zero) = true) : ∃ v m,
    Hid (∀ w, Calls Try.prog 13 #[Bt av am, Bt bv bm] w fun e w' => e = .returned (.tuple #[Bt v m, N 0]) ∧ Below w.heap.size w w')
    ∧ Hid (∀ w, Calls Try.prog 18 #[Bt av am, Bt bv bm] w fun e w' => e = .returned (Bt v m) ∧ Below w.heap.size w w') := by
  refine ⟨bandn av (jM av am bv bm), jM av am bv bm, fun w => join_ok hr w, fun w => ?_⟩
  have h := joinBits_any av am bv bm w
  rw [(join_eq hr).1, (join_eq hr).2] at h
  exact h
theorem both_meet {av am bv bm : BitVec 64} (hr : (eqb (band av am) zero && eqb (band bv bm) zero) = true) : ∃ v m i,
    Hid (∀ w, Calls Try.prog 14 #[Bt av am, Bt bv bm] w fun e w' => e = .returned (.tuple #[Bt v m, .bool i, N 0]) ∧ Below w.heap.size w w')
    ∧ Hid (∀ w, Calls Try.prog 19 #[Bt av am, Bt bv bm] w fun e w' => e = .returned (.tuple #[Bt v m, .bool i]) ∧ Below w.heap.size w w') := by
  cases hm : eqb (bandn (bxor av bv) (bor am bm)) zero
  · obtain ⟨j, hj, hno, hok⟩ := meet_ne hm
    exact ⟨zero, zero, false, fun w => meet_no hr hm w, fun w => meetBits_no av am bv bm j hj hno hok w⟩
  · obtain ⟨h1, h2, h3⟩ := meet_eq hr hm
    refine ⟨bor av bv, band am bm, true, fun w => meet_ok hr hm w, fun w => ?_⟩
    have h := meetBits_ok av am bv bm h1 w
    rw [h2, h3] at h
    exact h
theorem both_shift {op n : Int} {v m : BitVec 64} (hr : eqb (band v m) zero = true) (hop : op = 8 ∨ op = 9) (hn : 0 ≤ n ∧ n ≤ 63) : ∃ x y,
    Hid (∀ w, Calls Try.prog 15 #[N op, Bt v m, N n] w fun e w' => e = .returned (.tuple #[Bt x y, N 0]) ∧ Below w.heap.size w w')
    ∧ Hid (∀ w, Calls Try.prog 20 #[N op, Bt v m, N n] w fun e w' => e = .returned (Bt x y) ∧ Below w.heap.size w w') := by
  obtain ⟨k, rfl⟩ := Int.eq_ofNat_of_zero_le hn.1
  have hk : k < 64 := by omega
  rcases hop with rfl | rfl
  · refine ⟨bshl v k, bshl m k, fun w => shift_up hr hk w, fun w => ?_⟩
    have h := shiftBits_any true 8 rfl v m k hk w
    rw [(sh_up_eq hr k).1, (sh_up_eq hr k).2] at h
    exact h
  · refine ⟨bshr v k, bshr m k, fun w => shift_down hr hk w, fun w => ?_⟩
    have h := shiftBits_any false 9 rfl v m k hk w
    rw [(sh_down_eq hr k).1, (sh_down_eq hr k).2] at h
    exact h
theorem both_span {l h : BitVec 64} (hl : nv l ≤ nv h) : ∃ x y,
    Hid (∀ w, Calls Try.prog 16 #[U l, U h] w fun e w' => e = .returned (.tuple #[Bt x y, N 0]) ∧ Below w.heap.size w w')
    ∧ Hid (∀ w, Calls Try.prog 21 #[U l, U h] w fun e w' => e = .returned (Bt x y) ∧ Below w.heap.size w w') := by
  refine ⟨bandn l (sM l h), sM l h, fun w => span_ok hl w, fun w => ?_⟩
  have hh := spanBits_any l h w
  rw [(span_eq l h).1, (span_eq l h).2] at hh
  exact hh
theorem both_inside (av am bv bm : BitVec 64) : ∃ i,
    Hid (∀ w, Calls Try.prog 26 #[Bt av am, Bt bv bm] w fun e w' => e = .returned (.bool i) ∧ Below w.heap.size w w')
    ∧ Hid (∀ w, Calls Try.prog 27 #[Bt av am, Bt bv bm] w fun e w' => e = .returned (.bool i) ∧ Below w.heap.size w w') := by
  refine ⟨insB av am bv bm, fun w => inside_any av am bv bm w, fun w => ?_⟩
  cases hr : (eqb (band av am) zero && eqb (band bv bm) zero)
  · have e : insB av am bv bm = false := by unfold insB; rw [hr]; rfl
    rw [e]; exact insideBits_wrong av am bv bm hr w
  · have hi := inside_eq hr
    rw [Bool.and_eq_true] at hr
    rcases first_no (insOk av am bv bm) 64 with h | ⟨j, hj, hno, hok⟩
    · rw [hi.2 h]; exact insideBits_yes av am bv bm hr.1 hr.2 h w
    · have e : insB av am bv bm = false := by
        cases hx : insB av am bv bm
        · rfl
        · rw [hi.1 hx j hj] at hno; cases hno
      rw [e]; exact insideBits_no av am bv bm hr.1 hr.2 j hj hno hok w
theorem has_h (v m x : BitVec 64) : ∃ i, Hid (∀ w, Calls Try.prog 24 #[Bt v m, U x] w fun e w' => e = .returned (.bool i) ∧ Below w.heap.size w w')
    ∧ Hid (∀ w, Calls Try.prog 25 #[Bt v m, U x] w fun e w' => e = .returned (.bool i) ∧ Below w.heap.size w w') :=
  ⟨_, fun w => has_any v m x w, fun w => bitsHave_any v m x w⟩


/- the same, whatever is handed in -/
theorem all_join (av am bv bm : BitVec 64) (r : Bool) (hr : (eqb (band av am) zero && eqb (band bv bm) zero) = r) : ∃ v m,
    Hid (∀ w, Calls Try.prog 13 #[Bt av am, Bt bv bm] w fun e w' => e = .returned (.tuple #[Bt v m, N (er r)]) ∧ Below w.heap.size w w')
    ∧ Hid (r = true → ∀ w, Calls Try.prog 18 #[Bt av am, Bt bv bm] w fun e w' => e = .returned (Bt v m) ∧ Below w.heap.size w w')
    ∧ Hid (r = false → v = zero ∧ m = zero) := by
  cases r
  · exact ⟨zero, zero, hid (fun w => join_no hr w), hid (fun h => by cases h), hid (fun _ => ⟨rfl, rfl⟩)⟩
  · obtain ⟨v, m, h1, h2⟩ := both_join hr
    exact ⟨v, m, h1, hid (fun _ => h2), hid (fun h => by cases h)⟩
theorem all_meet (av am bv bm : BitVec 64) (r : Bool) (hr : (eqb (band av am) zero && eqb (band bv bm) zero) = r) : ∃ v m i,
    Hid (∀ w, Calls Try.prog 14 #[Bt av am, Bt bv bm] w fun e w' => e = .returned (.tuple #[Bt v m, .bool i, N (er r)]) ∧ Below w.heap.size w w')
    ∧ Hid (r = true → ∀ w, Calls Try.prog 19 #[Bt av am, Bt bv bm] w fun e w' => e = .returned (.tuple #[Bt v m, .bool i]) ∧ Below w.heap.size w w')
    ∧ Hid (r = false → v = zero ∧ m = zero ∧ i = false) := by
  cases r
  · exact ⟨zero, zero, false, hid (fun w => meet_wrong hr w), hid (fun h => by cases h), hid (fun _ => ⟨rfl, rfl, rfl⟩)⟩
  · obtain ⟨v, m, i, h1, h2⟩ := both_meet hr
    exact ⟨v, m, i, h1, hid (fun _ => h2), hid (fun h => by cases h)⟩
theorem all_shift (op n : Int) (v m : BitVec 64) (r : Bool) (hr : eqb (band v m) zero = r) : ∃ x y c,
    Hid (∀ w, Calls Try.prog 15 #[N op, Bt v m, N n] w fun e w' => e = .returned (.tuple #[Bt x y, N c]) ∧ Below w.heap.size w w')
    ∧ ((r = false ∧ c = 1 ∧ x = zero ∧ y = zero) ∨ (r = true ∧ (op ≠ 8 ∧ op ≠ 9) ∧ c = 4 ∧ x = zero ∧ y = zero) ∨ (r = true ∧ (op = 8 ∨ op = 9) ∧ (n < 0 ∨ 63 < n) ∧ c = 3 ∧ x = zero ∧ y = zero)
      ∨ (r = true ∧ (op = 8 ∨ op = 9) ∧ (0 ≤ n ∧ n ≤ 63) ∧ c = 0 ∧ Hid (∀ w, Calls Try.prog 20 #[N op, Bt v m, N n] w fun e w' => e = .returned (Bt x y) ∧ Below w.heap.size w w'))) := by
  cases r
  · exact ⟨zero, zero, 1, fun w => shift_wrong hr w, Or.inl ⟨rfl, rfl, rfl, rfl⟩⟩
  · by_cases hop : op = 8 ∨ op = 9
    · by_cases hn : 0 ≤ n ∧ n ≤ 63
      · obtain ⟨x, y, h1, h2⟩ := both_shift hr hop hn
        exact ⟨x, y, 0, h1, Or.inr (Or.inr (Or.inr ⟨rfl, hop, hn, rfl, h2⟩))⟩
      · have hn' : n < 0 ∨ 63 < n := by omega
        exact ⟨zero, zero, 3, fun w => shift_range hr hop hn' w, Or.inr (Or.inr (Or.inl ⟨rfl, hop, hn', rfl, rfl, rfl⟩))⟩
    · have h8 : op ≠ 8 := fun h => hop (Or.inl h)
      have h9 : op ≠ 9 := fun h => hop (Or.inr h)
      exact ⟨zero, zero, 4, fun w => shift_kind hr (by simpa using h8) (by simpa using h9) w, Or.inr (Or.inl ⟨rfl, ⟨h8, h9⟩, rfl, rfl, rfl⟩)⟩
theorem all_span (l h : BitVec 64) : ∃ x y c,
    Hid (∀ w, Calls Try.prog 16 #[U l, U h] w fun e w' => e = .returned (.tuple #[Bt x y, N c]) ∧ Below w.heap.size w w')
    ∧ ((nv h < nv l ∧ c = 3 ∧ x = zero ∧ y = zero) ∨ (nv l ≤ nv h ∧ c = 0 ∧ Hid (∀ w, Calls Try.prog 21 #[U l, U h] w fun e w' => e = .returned (Bt x y) ∧ Below w.heap.size w w'))) := by
  by_cases hl : nv l ≤ nv h
  · obtain ⟨x, y, h1, h2⟩ := both_span hl
    exact ⟨x, y, 0, h1, Or.inr ⟨hl, rfl, h2⟩⟩
  · have hl' : nv h < nv l := by omega
    exact ⟨zero, zero, 3, fun w => span_no hl' w, Or.inl ⟨hl', rfl, rfl, rfl⟩⟩
theorem er_eq0 (r : Bool) : (er r == 0) = r := by cases r <;> rfl
theorem er_self (r : Bool) : (er r == er r) = true := by simp

end Go.Proofs.Ytkigmocchaikgaa
