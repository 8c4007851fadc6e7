/- What the one has and the other has, reckoned together, the answer has: plain facts. -/
import Derived.Test.YtglollajdjgciaaM2
import Derived.Test.YtglollajdjgciaaW9
namespace Go.Proofs.Ytglollajdjgciaa

/- x is one of the numbers of (v, m), bit by bit -/
def InB (v m x : BitVec 64) : Prop := ∀ j, j < 64 → (bit x j && !bit m j) = bit v j
def RtB (v m : BitVec 64) : Prop := ∀ j, (bit v j && bit m j) = false

theorem addP_sound {a b : BitVec 64 × BitVec 64} {x y : BitVec 64} (ha : RtB a.1 a.2) (hb : RtB b.1 b.2) (hx : InB a.1 a.2 x) (hy : InB b.1 b.2 y) : InB (addP a b).1 (addP a b).2 (badd x y) :=
  add_sound ha hb hx hy _ rfl
theorem addP_rt (a b : BitVec 64 × BitVec 64) : RtB (addP a b).1 (addP a b).2 := by
  intro j
  by_cases hj : j < 64
  · simp only [addP]; rw [bit_andn _ _ _ hj]; cases bit (badd a.1 b.1) j <;> cases bit (addM a.1 a.2 b.1 b.2) j <;> rfl
  · rw [bit_big _ _ (by omega)]; rfl
theorem mulS_rt (av am bv bm : BitVec 64) (k : Nat) : RtB (mulS av am bv bm k).1 (mulS av am bv bm k).2 := by
  induction k with
  | zero => intro j; simp only [mulS]; rw [bit_zero]; rfl
  | succ k ih =>
    simp only [mulS]
    by_cases h1 : bit av k = true
    · rw [if_pos h1]; exact addP_rt _ _
    · rw [if_neg h1]
      by_cases h2 : bit am k = true
      · rw [if_pos h2]; exact addP_rt _ _
      · rw [if_neg h2]; exact ih
/- the product, summed up bit by bit -/
def psum (x y : BitVec 64) : Nat → BitVec 64
  | 0 => zero
  | k + 1 => if bit x k then badd (psum x y k) (bshl y k) else psum x y k
theorem psum_rec (x y : BitVec 64) (k : Nat) : psum x y (k + 1) = BitVec.mulRec y x k := by
  induction k with
  | zero =>
    simp only [psum]
    rw [BitVec.mulRec_zero_eq]
    unfold bit
    cases x.getLsbD 0 <;> simp [badd, bshl, zero]
  | succ k ih =>
    rw [psum, ih, BitVec.mulRec_succ_eq]
    unfold bit badd bshl
    cases x.getLsbD (k + 1) <;> simp
theorem psum_mul (x y : BitVec 64) : psum x y 64 = bmul x y := by
  rw [psum_rec x y 63, BitVec.mulRec_eq_mul_signExtend_setWidth]
  unfold bmul
  simp [BitVec.mul_comm]
theorem shl_in {v m y : BitVec 64} (h : InB v m y) (k : Nat) : InB (bshl v k) (bshl m k) (bshl y k) := by
  intro j hj
  rw [bit_shl _ _ _ hj, bit_shl _ _ _ hj, bit_shl _ _ _ hj]
  by_cases hk : k ≤ j
  · have := h (j - k) (by omega)
    revert this
    cases bit y (j - k) <;> cases bit m (j - k) <;> cases bit v (j - k) <;> simp [hk]
  · simp [hk]
theorem shl_rt {v m : BitVec 64} (h : RtB v m) (k : Nat) : RtB (bshl v k) (bshl m k) := by
  intro j
  by_cases hj : j < 64
  · rw [bit_shl _ _ _ hj, bit_shl _ _ _ hj]
    have := h (j - k)
    revert this
    cases decide (k ≤ j) <;> cases bit v (j - k) <;> cases bit m (j - k) <;> simp
  · rw [bit_big _ _ (by omega)]; rfl
theorem zero_rt (m : BitVec 64) : RtB zero m := by intro j; rw [bit_zero]; rfl
theorem badd_zero (x : BitVec 64) : badd x zero = x := by unfold badd zero; simp
theorem mulS_sound {av am bv bm x y : BitVec 64} (hb : RtB bv bm) (hx : InB av am x) (hy : InB bv bm y) (k : Nat) (hk : k ≤ 64) : InB (mulS av am bv bm k).1 (mulS av am bv bm k).2 (psum x y k) := by
  induction k with
  | zero => intro j hj; simp only [mulS, psum]; rw [bit_zero]; rfl
  | succ k ih =>
    have ih := ih (by omega)
    have h := hx k (by omega)
    simp only [mulS, psum]
    by_cases h1 : bit av k = true
    · have hxk : bit x k = true := by rw [h1] at h; revert h; cases bit x k <;> simp
      rw [if_pos h1, if_pos hxk]
      exact addP_sound (mulS_rt _ _ _ _ _) (shl_rt hb k) ih (shl_in hy k)
    · rw [if_neg h1]
      by_cases h2 : bit am k = true
      · rw [if_pos h2]
        have hp : ∀ z, (∀ j, j < 64 → bit z j = true → bit (bor (bshl bv k) (bshl bm k)) j = true) → InB zero (bor (bshl bv k) (bshl bm k)) z := by
          intro z hz j hj
          have := hz j hj
          rw [bit_zero]
          revert this
          cases bit z j <;> cases bit (bor (bshl bv k) (bshl bm k)) j <;> simp
        by_cases hxk : bit x k = true
        · rw [if_pos hxk]
          exact addP_sound (mulS_rt _ _ _ _ _) (zero_rt _) ih (hp _ (fun j _ h => hi_of (shl_in hy k) j h))
        · rw [if_neg hxk]
          have := addP_sound (b := (zero, bor (bshl bv k) (bshl bm k))) (mulS_rt av am bv bm k) (zero_rt _) ih (hp zero (fun j _ h => by rw [bit_zero] at h; cases h))
          rw [badd_zero] at this
          exact this
      · rw [if_neg h2]
        have hxk : ¬ bit x k = true := by
          intro hx1; rw [hx1] at h
          revert h h1 h2
          cases bit av k <;> cases bit am k <;> simp
        rw [if_neg hxk]
        exact ih

/- x op y, of the six operations -/
def numB (op : Int) (x y : BitVec 64) : BitVec 64 :=
  if op = 2 then badd x y else if op = 3 then bsub x y else if op = 4 then bmul x y else if op = 5 then band x y else if op = 6 then bor x y else bxor x y
theorem two_sound {op : Int} {av am bv bm x y : BitVec 64} (hop : 2 ≤ op ∧ op ≤ 7) (ha : RtB av am) (hb : RtB bv bm) (hx : InB av am x) (hy : InB bv bm y) :
    InB (twoP op av am bv bm).1 (twoP op av am bv bm).2 (numB op x y) := by
  rcases op_cases hop with rfl | rfl | rfl | rfl | rfl | rfl
  · exact add_sound ha hb hx hy _ rfl
  · exact sub_sound ha hb hx hy _ rfl
  · show InB (mulS av am bv bm 64).1 (mulS av am bv bm 64).2 (bmul x y)
    rw [← psum_mul]
    exact mulS_sound hb hx hy 64 (Nat.le_refl _)
  · intro j hj
    show (bit (band x y) j && !bit (bandn (band (bor av am) (bor bv bm)) (band av bv)) j) = bit (band av bv) j
    rw [bit_andn _ _ _ hj, bit_and', bit_and', bit_and', bit_or, bit_or]
    have h1 := hx j hj; have h2 := hy j hj; have h3 := ha j; have h4 := hb j
    revert h1 h2 h3 h4
    cases bit x j <;> cases bit y j <;> cases bit av j <;> cases bit am j <;> cases bit bv j <;> cases bit bm j <;> simp
  · intro j hj
    show (bit (bor x y) j && !bit (bandn (bor am bm) (bor av bv)) j) = bit (bor av bv) j
    rw [bit_andn _ _ _ hj, bit_or, bit_or, bit_or]
    have h1 := hx j hj; have h2 := hy j hj; have h3 := ha j; have h4 := hb j
    revert h1 h2 h3 h4
    cases bit x j <;> cases bit y j <;> cases bit av j <;> cases bit am j <;> cases bit bv j <;> cases bit bm j <;> simp
  · intro j hj
    show (bit (bxor x y) j && !bit (bor am bm) j) = bit (bandn (bxor av bv) (bor am bm)) j
    rw [bit_andn _ _ _ hj, bit_or, bit_xor, bit_xor]
    have h1 := hx j hj; have h2 := hy j hj; have h3 := ha j; have h4 := hb j
    revert h1 h2 h3 h4
    cases bit x j <;> cases bit y j <;> cases bit av j <;> cases bit am j <;> cases bit bv j <;> cases bit bm j <;> simp
theorem two_rt {op : Int} {av am bv bm : BitVec 64} (hop : 2 ≤ op ∧ op ≤ 7) : RtB (twoP op av am bv bm).1 (twoP op av am bv bm).2 := by
  have hn : ∀ p q : BitVec 64, RtB (bandn p q) q := by
    intro p q j
    by_cases hj : j < 64
    · rw [bit_andn _ _ _ hj]; cases bit p j <;> cases bit q j <;> rfl
    · rw [bit_big _ _ (by omega)]; rfl
  have hn' : ∀ p q : BitVec 64, RtB q (bandn p q) := by
    intro p q j
    by_cases hj : j < 64
    · rw [bit_andn _ _ _ hj]; cases bit p j <;> cases bit q j <;> rfl
    · rw [bit_big _ _ (by omega)]; rfl
  rcases op_cases hop with rfl | rfl | rfl | rfl | rfl | rfl
  · exact hn _ _
  · exact hn _ _
  · exact mulS_rt _ _ _ _ _
  · exact hn' _ _
  · exact hn' _ _
  · exact hn _ _

end Go.Proofs.Ytglollajdjgciaa
