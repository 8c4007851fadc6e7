/- Sums and differences of what is known of two numbers: carries; plain facts. -/
import Derived.Test.YtglollajdjgciaaAcc
namespace Go.Proofs.Ytglollajdjgciaa

/- what is carried into bit i of x + y -/
def cy (x y : BitVec 64) (i : Nat) : Bool := BitVec.carry i x y false
theorem cy_zero (x y : BitVec 64) : cy x y 0 = false := by unfold cy; rw [BitVec.carry_zero]
theorem cy_succ (x y : BitVec 64) (i : Nat) : cy x y (i + 1) = ((bit x i && bit y i) || (cy x y i && (bit x i || bit y i))) := by
  unfold cy bit
  rw [BitVec.carry_succ]
  unfold Bool.atLeastTwo
  cases x.getLsbD i <;> cases y.getLsbD i <;> cases BitVec.carry i x y false <;> rfl
theorem bit_add (x y : BitVec 64) (i : Nat) (hi : i < 64) : bit (badd x y) i = (bit x i ^^ bit y i ^^ cy x y i) := by
  unfold bit badd cy
  rw [BitVec.getLsbD_add hi]
  cases x.getLsbD i <;> cases y.getLsbD i <;> cases BitVec.carry i x y false <;> rfl
theorem cy_mono (x y x' y' : BitVec 64) (hx : ∀ j, bit x j = true → bit x' j = true) (hy : ∀ j, bit y j = true → bit y' j = true) (i : Nat) : cy x y i = true → cy x' y' i = true := by
  induction i with
  | zero => intro h; rw [cy_zero] at h; cases h
  | succ i ih =>
    rw [cy_succ, cy_succ]
    have h1 := hx i; have h2 := hy i
    revert ih h1 h2
    cases bit x i <;> cases bit y i <;> cases cy x y i <;> cases bit x' i <;> cases bit y' i <;> cases cy x' y' i <;> simp

/- x is one of the numbers of (v, m) -/
theorem has_iff (v m x : BitVec 64) : eqb (bandn x m) v = true ↔ ∀ j, j < 64 → (bit x j && !bit m j) = bit v j := by
  rw [eqb_iff]
  constructor
  · intro h j hj; rw [← bit_andn _ _ _ hj, h]
  · intro h; apply ext64; intro j hj; rw [bit_andn _ _ _ hj]; exact h j hj

/- disjoint bits: their sum is their or -/
theorem add_or {v m : BitVec 64} (hr : ∀ j, (bit v j && bit m j) = false) : badd v m = bor v m := by
  have hc : ∀ i, cy v m i = false := by
    intro i
    induction i with
    | zero => exact cy_zero _ _
    | succ i ih =>
      rw [cy_succ, ih]
      have := hr i
      revert this
      cases bit v i <;> cases bit m i <;> simp
  apply ext64; intro j hj
  rw [bit_add _ _ _ hj, hc j, bit_or]
  have := hr j
  revert this
  cases bit v j <;> cases bit m j <;> simp

theorem add_swap (a b c d : BitVec 64) : badd (badd (badd a b) c) d = badd (badd a c) (badd b d) := by
  unfold badd
  rw [BitVec.add_assoc, BitVec.add_assoc, BitVec.add_assoc]
  congr 1
  rw [← BitVec.add_assoc, ← BitVec.add_assoc, BitVec.add_comm b c]

/- the mask of a sum, bit by bit: unknown, or carried in by the greatest and not by the least -/
theorem addM_bit {av am bv bm : BitVec 64} (ha : ∀ j, (bit av j && bit am j) = false) (hb : ∀ j, (bit bv j && bit bm j) = false) (j : Nat) (hj : j < 64) :
    bit (bor (bor (bxor (badd av bv) (badd (badd (badd av bv) am) bm)) am) bm) j = (bit am j || bit bm j || (!cy av bv j && cy (bor av am) (bor bv bm) j)) := by
  rw [bit_or, bit_or, bit_xor, add_swap, add_or ha, add_or hb, bit_add _ _ _ hj, bit_add _ _ _ hj, bit_or, bit_or]
  have hm := cy_mono av bv (bor av am) (bor bv bm) (fun i h => by rw [bit_or, h]; rfl) (fun i h => by rw [bit_or, h]; rfl) j
  have h1 := ha j; have h2 := hb j
  revert hm h1 h2
  cases bit av j <;> cases bit am j <;> cases bit bv j <;> cases bit bm j <;> cases cy av bv j <;> cases cy (bor av am) (bor bv bm) j <;> simp

/- what x and y are, their sum's bits are where the mask says known -/
theorem add_sound {av am bv bm x y : BitVec 64} (ha : ∀ j, (bit av j && bit am j) = false) (hb : ∀ j, (bit bv j && bit bm j) = false)
    (hx : ∀ j, j < 64 → (bit x j && !bit am j) = bit av j) (hy : ∀ j, j < 64 → (bit y j && !bit bm j) = bit bv j) (M : BitVec 64)
    (hM : M = bor (bor (bxor (badd av bv) (badd (badd (badd av bv) am) bm)) am) bm) : ∀ j, j < 64 → (bit (badd x y) j && !bit M j) = bit (bandn (badd av bv) M) j := by
  intro j hj
  rw [bit_andn _ _ _ hj, hM, addM_bit ha hb j hj, bit_add _ _ _ hj, bit_add _ _ _ hj]
  have lx : ∀ i, bit av i = true → bit x i = true := fun i h => by
    by_cases hi : i < 64
    · have := hx i hi; rw [h] at this; revert this; cases bit x i <;> simp
    · rw [bit_big _ _ (by omega)] at h; cases h
  have ly : ∀ i, bit bv i = true → bit y i = true := fun i h => by
    by_cases hi : i < 64
    · have := hy i hi; rw [h] at this; revert this; cases bit y i <;> simp
    · rw [bit_big _ _ (by omega)] at h; cases h
  have ux : ∀ i, bit x i = true → bit (bor av am) i = true := fun i h => by
    by_cases hi : i < 64
    · have := hx i hi; rw [bit_or]; rw [h] at this; revert this; cases bit av i <;> cases bit am i <;> simp
    · rw [bit_big _ _ (by omega)] at h; cases h
  have uy : ∀ i, bit y i = true → bit (bor bv bm) i = true := fun i h => by
    by_cases hi : i < 64
    · have := hy i hi; rw [bit_or]; rw [h] at this; revert this; cases bit bv i <;> cases bit bm i <;> simp
    · rw [bit_big _ _ (by omega)] at h; cases h
  have m1 := cy_mono av bv x y lx ly j
  have m2 := cy_mono x y (bor av am) (bor bv bm) ux uy j
  have h1 := hx j hj; have h2 := hy j hj
  revert m1 m2 h1 h2
  cases bit x j <;> cases bit y j <;> cases bit av j <;> cases bit am j <;> cases bit bv j <;> cases bit bm j <;> cases cy av bv j <;> cases cy x y j <;> cases cy (bor av am) (bor bv bm) j <;> simp

/- differences by sums: x - y is not (not x + y) -/
theorem sub_not (x y : BitVec 64) : bsub x y = bnot (badd (bnot x) y) := by
  unfold bsub bnot badd
  apply BitVec.eq_of_toNat_eq
  rw [BitVec.toNat_sub, BitVec.toNat_not, BitVec.toNat_add, BitVec.toNat_not]
  have := x.isLt; have := y.isLt
  omega
/- what is borrowed from bit i of x - y -/
def bw (x y : BitVec 64) (i : Nat) : Bool := cy (bnot x) y i
theorem bit_sub (x y : BitVec 64) (i : Nat) (hi : i < 64) : bit (bsub x y) i = (bit x i ^^ bit y i ^^ bw x y i) := by
  rw [sub_not, bit_not _ _ hi, bit_add _ _ _ hi, bit_not _ _ hi]
  unfold bw
  cases bit x i <;> cases bit y i <;> cases cy (bnot x) y i <;> rfl
theorem bw_zero (x y : BitVec 64) : bw x y 0 = false := cy_zero _ _
theorem bw_succ (x y : BitVec 64) (i : Nat) (hi : i < 64) : bw x y (i + 1) = ((!bit x i && bit y i) || (bw x y i && (!bit x i || bit y i))) := by
  unfold bw; rw [cy_succ, bit_not _ _ hi]
theorem bw_mono (x y x' y' : BitVec 64) (hx : ∀ j, bit x' j = true → bit x j = true) (hy : ∀ j, bit y j = true → bit y' j = true) (i : Nat) : bw x y i = true → bw x' y' i = true := by
  unfold bw
  refine cy_mono _ _ _ _ (fun j h => ?_) hy i
  by_cases hj : j < 64
  · rw [bit_not _ _ hj] at h ⊢
    have := hx j
    revert this h
    cases bit x j <;> cases bit x' j <;> simp
  · rw [bit_big _ _ (by omega)] at h; cases h
theorem sub_add (a b c : BitVec 64) : badd (bsub a b) c = bsub (badd a c) b := by
  unfold badd bsub
  apply BitVec.eq_of_toNat_eq
  simp only [BitVec.toNat_add, BitVec.toNat_sub]
  have := a.isLt; have := b.isLt; have := c.isLt
  omega
theorem sub_sub (a b c : BitVec 64) : bsub (bsub a b) c = bsub a (badd b c) := by
  unfold badd bsub
  apply BitVec.eq_of_toNat_eq
  simp only [BitVec.toNat_add, BitVec.toNat_sub]
  have := a.isLt; have := b.isLt; have := c.isLt
  omega
theorem subM_bit {av am bv bm : BitVec 64} (ha : ∀ j, (bit av j && bit am j) = false) (hb : ∀ j, (bit bv j && bit bm j) = false) (j : Nat) (hj : j < 64) :
    bit (bor (bor (bxor (badd (bsub av bv) am) (bsub (bsub av bv) bm)) am) bm) j = (bit am j || bit bm j || (!bw (bor av am) bv j && bw av (bor bv bm) j)) := by
  rw [bit_or, bit_or, bit_xor, sub_add, sub_sub, add_or ha, add_or hb, bit_sub _ _ _ hj, bit_sub _ _ _ hj, bit_or, bit_or]
  have hm := bw_mono (bor av am) bv av (bor bv bm) (fun i h => by rw [bit_or, h]; rfl) (fun i h => by rw [bit_or, h]; rfl) j
  have h1 := ha j; have h2 := hb j
  revert hm h1 h2
  cases bit av j <;> cases bit am j <;> cases bit bv j <;> cases bit bm j <;> cases bw (bor av am) bv j <;> cases bw av (bor bv bm) j <;> simp
/- bounds of what a pair has -/
theorem lo_of {v m x : BitVec 64} (hx : ∀ j, j < 64 → (bit x j && !bit m j) = bit v j) (i : Nat) (h : bit v i = true) : bit x i = true := by
  by_cases hi : i < 64
  · have := hx i hi; rw [h] at this; revert this; cases bit x i <;> simp
  · rw [bit_big _ _ (by omega)] at h; cases h
theorem hi_of {v m x : BitVec 64} (hx : ∀ j, j < 64 → (bit x j && !bit m j) = bit v j) (i : Nat) (h : bit x i = true) : bit (bor v m) i = true := by
  by_cases hi : i < 64
  · have := hx i hi; rw [bit_or]; rw [h] at this; revert this; cases bit v i <;> cases bit m i <;> simp
  · rw [bit_big _ _ (by omega)] at h; cases h
theorem sub_sound {av am bv bm x y : BitVec 64} (ha : ∀ j, (bit av j && bit am j) = false) (hb : ∀ j, (bit bv j && bit bm j) = false)
    (hx : ∀ j, j < 64 → (bit x j && !bit am j) = bit av j) (hy : ∀ j, j < 64 → (bit y j && !bit bm j) = bit bv j) (M : BitVec 64)
    (hM : M = bor (bor (bxor (badd (bsub av bv) am) (bsub (bsub av bv) bm)) am) bm) : ∀ j, j < 64 → (bit (bsub x y) j && !bit M j) = bit (bandn (bsub av bv) M) j := by
  intro j hj
  rw [bit_andn _ _ _ hj, hM, subM_bit ha hb j hj, bit_sub _ _ _ hj, bit_sub _ _ _ hj]
  have m1 := bw_mono (bor av am) bv x y (hi_of hx) (lo_of hy) j
  have m2 := bw_mono x y av (bor bv bm) (lo_of hx) (hi_of hy) j
  have m3 := bw_mono (bor av am) bv av bv (fun i h => by rw [bit_or, h]; rfl) (fun i h => h) j
  have m4 := bw_mono av bv av (bor bv bm) (fun i h => h) (fun i h => by rw [bit_or, h]; rfl) j
  have h1 := hx j hj; have h2 := hy j hj
  revert m1 m2 m3 m4 h1 h2
  cases bit x j <;> cases bit y j <;> cases bit av j <;> cases bit am j <;> cases bit bv j <;> cases bit bm j <;> cases bw (bor av am) bv j <;> cases bw x y j <;> cases bw av bv j <;> cases bw av (bor bv bm) j <;> simp

end Go.Proofs.Ytglollajdjgciaa
