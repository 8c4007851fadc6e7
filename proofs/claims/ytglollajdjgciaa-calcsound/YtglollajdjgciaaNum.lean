/- What the model's u64 arithmetic is on numbers of 64 bits: plain facts, without the program.
   The words nv, band .. keep the walk's simp from laying the numbers open. -/
import Derived.Laws.Bits64b
import Derived.Laws.BitsAllLaws
namespace Go.Proofs.Ytglollajdjgciaa

def nv (x : BitVec 64) : Int := x.toNat
abbrev U (x : BitVec 64) : Value := .int .u64 (nv x)
abbrev N (n : Int) : Value := .int .i64 n
abbrev Bt (v m : BitVec 64) : Value := .agg #[U v, U m]
abbrev Vl (v m l h : BitVec 64) : Value := .agg #[U v, U m, U l, U h]
def band (x y : BitVec 64) : BitVec 64 := x &&& y
def bor (x y : BitVec 64) : BitVec 64 := x ||| y
def bxor (x y : BitVec 64) : BitVec 64 := x ^^^ y
def bandn (x y : BitVec 64) : BitVec 64 := x &&& ~~~ y
def badd (x y : BitVec 64) : BitVec 64 := x + y
def bsub (x y : BitVec 64) : BitVec 64 := x - y
def bmul (x y : BitVec 64) : BitVec 64 := x * y
def bshl (x : BitVec 64) (i : Nat) : BitVec 64 := x <<< i
def bshr (x : BitVec 64) (i : Nat) : BitVec 64 := x >>> i
def bnot (x : BitVec 64) : BitVec 64 := ~~~ x
def one : BitVec 64 := 1#64
def zero : BitVec 64 := 0#64
def top : BitVec 64 := BitVec.allOnes 64
def eqb (x y : BitVec 64) : Bool := x == y
def bit (x : BitVec 64) (i : Nat) : Bool := x.getLsbD i

theorem ofInt_nv (x : BitVec 64) : BitVec.ofInt 64 (nv x) = x := by
  unfold nv; rw [BitVec.ofInt_natCast, BitVec.ofNat_toNat]; simp
theorem nv_ofInt (n : Int) : nv (BitVec.ofInt 64 n) = n % 18446744073709551616 := by
  unfold nv; rw [BitVec.toNat_ofInt]; omega
theorem nv_nonneg (x : BitVec 64) : 0 ≤ nv x := by unfold nv; omega
theorem nv_lt (x : BitVec 64) : nv x < 18446744073709551616 := by unfold nv; have := x.isLt; omega
theorem nv_inj (x y : BitVec 64) (h : nv x = nv y) : x = y := by
  unfold nv at h; exact BitVec.eq_of_toNat_eq (by omega)
theorem nv_zero : nv zero = 0 := rfl
theorem nv_one : nv one = 1 := rfl
theorem nv_top : nv top = 18446744073709551615 := by decide
theorem ex_nv (n : Int) (h0 : 0 ≤ n) (h1 : n < 18446744073709551616) : ∃ x, n = nv x :=
  ⟨BitVec.ofInt 64 n, by rw [nv_ofInt]; omega⟩
theorem wrap_ofInt (n : Int) : IntKind.u64.wrap n = nv (BitVec.ofInt 64 n) := by
  rw [IntKind.wrap_u64, nv_ofInt]
theorem wrap_nv (x : BitVec 64) : IntKind.u64.wrap (nv x) = nv x := by rw [wrap_ofInt, ofInt_nv]

theorem w_and (x y : BitVec 64) : bits .and .u64 (nv x) (nv y) = nv (band x y) := by
  show IntKind.u64.wrap (nv (BitVec.ofInt 64 (nv x) &&& BitVec.ofInt 64 (nv y))) = _
  rw [ofInt_nv, ofInt_nv, wrap_nv]; rfl
theorem w_or (x y : BitVec 64) : bits .or .u64 (nv x) (nv y) = nv (bor x y) := by
  show IntKind.u64.wrap (nv (BitVec.ofInt 64 (nv x) ||| BitVec.ofInt 64 (nv y))) = _
  rw [ofInt_nv, ofInt_nv, wrap_nv]; rfl
theorem w_xor (x y : BitVec 64) : bits .xor .u64 (nv x) (nv y) = nv (bxor x y) := by
  show IntKind.u64.wrap (nv (BitVec.ofInt 64 (nv x) ^^^ BitVec.ofInt 64 (nv y))) = _
  rw [ofInt_nv, ofInt_nv, wrap_nv]; rfl
theorem w_andNot (x y : BitVec 64) : bits .andNot .u64 (nv x) (nv y) = nv (bandn x y) := by
  show IntKind.u64.wrap (nv (BitVec.ofInt 64 (nv x) &&& ~~~BitVec.ofInt 64 (nv y))) = _
  rw [ofInt_nv, ofInt_nv, wrap_nv]; rfl
theorem w_and1 (x : BitVec 64) : bits .and .u64 (nv x) 1 = nv (band x one) := w_and x one
theorem w_and63 (x : BitVec 64) : bits .and .u64 (nv x) 63 = nv (band x 63#64) := w_and x 63#64
theorem w_add (x y : BitVec 64) : IntKind.u64.wrap (nv x + nv y) = nv (badd x y) := by
  rw [wrap_ofInt, BitVec.ofInt_add, ofInt_nv, ofInt_nv]; rfl
theorem w_sub (x y : BitVec 64) : IntKind.u64.wrap (nv x - nv y) = nv (bsub x y) := by
  unfold nv bsub
  rw [IntKind.wrap_u64, BitVec.toNat_sub]
  have := x.isLt; have := y.isLt
  omega
theorem w_mul (x y : BitVec 64) : IntKind.u64.wrap (nv x * nv y) = nv (bmul x y) := by
  rw [wrap_ofInt, BitVec.ofInt_mul, ofInt_nv, ofInt_nv]; rfl
theorem w_sub1 (x : BitVec 64) : IntKind.u64.wrap (nv x - 1) = nv (bsub x one) := w_sub x one
theorem w_add1 (x : BitVec 64) : IntKind.u64.wrap (nv x + 1) = nv (badd x one) := w_add x one
theorem w_shl (x : BitVec 64) (i : Nat) : IntKind.u64.wrap (nv x * 2 ^ i) = nv (bshl x i) := by
  unfold nv bshl
  rw [IntKind.wrap_u64, BitVec.toNat_shiftLeft, Nat.shiftLeft_eq]
  simp
theorem w_shl1 (i : Nat) : IntKind.u64.wrap (2 ^ i) = nv (bshl one i) := by
  have := w_shl one i
  rw [nv_one, Int.one_mul] at this
  exact this
theorem w_shr (x : BitVec 64) (i : Nat) : nv x / 2 ^ i = nv (bshr x i) := by
  unfold nv bshr
  rw [BitVec.toNat_ushiftRight, Nat.shiftRight_eq_div_pow]
  simp

theorem c_beq (x y : BitVec 64) : (nv x == nv y) = eqb x y := by
  rw [Bool.eq_iff_iff]; simp only [eqb, beq_iff_eq]
  exact ⟨nv_inj x y, fun h => by rw [h]⟩
theorem c_bne (x y : BitVec 64) : (nv x != nv y) = !eqb x y := by
  rw [bne, c_beq]
theorem c_beq0 (x : BitVec 64) : (nv x == 0) = eqb x zero := c_beq x zero
theorem c_bne0 (x : BitVec 64) : (nv x != 0) = !eqb x zero := c_bne x zero
theorem c_beq1 (x : BitVec 64) : (nv x == 1) = eqb x one := c_beq x one
theorem c_bne1 (x : BitVec 64) : (nv x != 1) = !eqb x one := c_bne x one

theorem bit_and (v : BitVec 64) (i : Nat) (hi : i < 64) : eqb (band v (bshl one i)) zero = !bit v i := by
  unfold eqb band bshl one zero bit
  have h : ((v &&& (1#64 <<< i)) != 0#64) = v.getLsbD i := by
    rw [Bool.eq_iff_iff, bne_iff_ne]
    constructor
    · intro h
      cases hb : v.getLsbD i with
      | true => rfl
      | false =>
        exfalso; apply h
        apply BitVec.eq_of_getLsbD_eq
        intro j hj
        by_cases e : j = i
        · subst e; simp [hb]
        · simp
          intro h1 h2 h3
          omega
    · intro hb h
      have h2 : (v &&& (1#64 <<< i)).getLsbD i = false := by rw [h]; simp
      simp [hb] at h2
      omega
  rw [← h, bne, Bool.not_not]
theorem shr_and1 (v : BitVec 64) (i : Nat) : eqb (band (bshr v i) one) one = bit v i := by
  unfold eqb band bshr one bit
  rw [Bool.eq_iff_iff, beq_iff_eq]
  constructor
  · intro h
    have : ((v >>> i) &&& 1#64).getLsbD 0 = true := by rw [h]; decide
    simpa using this
  · intro h
    apply BitVec.eq_of_getLsbD_eq
    intro j hj
    simp
    intro h1
    subst h1
    simpa using h

end Go.Proofs.Ytglollajdjgciaa
