/- Has, Two, Join, Meet, Inside and Shift: who has which numbers: plain facts. -/
import Derived.Test.YtglollajdjgciaaM4
import Derived.Test.YtglollajdjgciaaM1
import Derived.Test.YtglollajdjgciaaW5
namespace Go.Proofs.Ytglollajdjgciaa

theorem rt_iff (v m : BitVec 64) : eqb (band v m) zero = true ↔ RtB v m := right_iff v m
theorem hasB_iff (v m x : BitVec 64) : hasB v m x = true ↔ RtB v m ∧ InB v m x := by
  unfold hasB
  rw [Bool.and_eq_true, rt_iff, has_iff]; rfl

theorem sound_two {op : Int} {av am bv bm x y : BitVec 64} (hop : 2 ≤ op ∧ op ≤ 7) (hx : hasB av am x = true) (hy : hasB bv bm y = true) :
    hasB (twoP op av am bv bm).1 (twoP op av am bv bm).2 (numB op x y) = true := by
  rw [hasB_iff] at hx hy ⊢
  exact ⟨two_rt hop, two_sound hop hx.1 hy.1 hx.2 hy.2⟩
theorem sound_join {av am bv bm x : BitVec 64} (ha : RtB av am) (hb : RtB bv bm) (hx : (hasB av am x || hasB bv bm x) = true) : hasB (bandn av (jM av am bv bm)) (jM av am bv bm) x = true := by
  rw [Bool.or_eq_true, hasB_iff, hasB_iff] at hx
  rw [hasB_iff]
  refine ⟨fun j => ?_, fun j hj => ?_⟩
  · by_cases hj : j < 64
    · rw [bit_andn _ _ _ hj]; cases bit av j <;> cases bit (jM av am bv bm) j <;> rfl
    · rw [bit_big _ _ (by omega)]; rfl
  · rw [bit_andn _ _ _ hj]
    unfold jM
    rw [bit_or, bit_or, bit_xor]
    have h3 := ha j; have h4 := hb j
    rcases hx with ⟨_, h⟩ | ⟨_, h⟩
    all_goals
      have h1 := h j hj
      revert h1 h3 h4
      cases bit x j <;> cases bit av j <;> cases bit am j <;> cases bit bv j <;> cases bit bm j <;> simp
theorem sound_meet {av am bv bm x : BitVec 64} (ha : RtB av am) (hb : RtB bv bm) :
    (hasB av am x && hasB bv bm x) = (eqb (bandn (bxor av bv) (bor am bm)) zero && hasB (bor av bv) (band am bm) x) := by
  rw [Bool.eq_iff_iff, Bool.and_eq_true, Bool.and_eq_true, hasB_iff, hasB_iff, hasB_iff]
  have key : eqb (bandn (bxor av bv) (bor am bm)) zero = true ↔ ∀ j, j < 64 → ((bit av j ^^ bit bv j) && !(bit am j || bit bm j)) = false := by
    unfold eqb
    rw [beq_iff_eq]
    constructor
    · intro h j hj
      rw [← bit_xor, ← bit_or, ← bit_andn _ _ _ hj, h, bit_zero]
    · intro h
      apply BitVec.eq_of_getLsbD_eq
      intro j hj
      have := h j hj
      rw [← bit_xor, ← bit_or, ← bit_andn _ _ _ hj] at this
      unfold bit at this
      rw [this]
      exact (bit_zero j).symm
  rw [key]
  constructor
  · rintro ⟨⟨_, h1⟩, ⟨_, h2⟩⟩
    refine ⟨fun j hj => ?_, fun j => ?_, fun j hj => ?_⟩
    · have a1 := h1 j hj; have a2 := h2 j hj
      revert a1 a2
      cases bit x j <;> cases bit av j <;> cases bit am j <;> cases bit bv j <;> cases bit bm j <;> simp
    · rw [bit_or, bit_and']
      have h3 := ha j; have h4 := hb j
      revert h3 h4
      cases bit av j <;> cases bit am j <;> cases bit bv j <;> cases bit bm j <;> simp
    · rw [bit_or, bit_and']
      have a1 := h1 j hj; have a2 := h2 j hj; have h3 := ha j; have h4 := hb j
      revert a1 a2 h3 h4
      cases bit x j <;> cases bit av j <;> cases bit am j <;> cases bit bv j <;> cases bit bm j <;> simp
  · rintro ⟨h0, _, h1⟩
    refine ⟨⟨ha, fun j hj => ?_⟩, ⟨hb, fun j hj => ?_⟩⟩
    all_goals
      have a0 := h0 j hj; have a1 := h1 j hj; have h3 := ha j; have h4 := hb j
      rw [bit_or, bit_and'] at a1
      revert a0 a1 h3 h4
      cases bit x j <;> cases bit av j <;> cases bit am j <;> cases bit bv j <;> cases bit bm j <;> simp
theorem ins_iff (av am bv bm : BitVec 64) : insB av am bv bm = true ↔ RtB av am ∧ RtB bv bm ∧ ∀ j, j < 64 → (bit am j && !bit bm j) = false ∧ (bit av j && !bit bm j) = bit bv j := by
  unfold insB
  have : eqb (bandn am bm) zero = true ↔ ∀ j, j < 64 → (bit am j && !bit bm j) = false := by
    rw [has_iff]
    constructor
    · intro h j hj; rw [h j hj, bit_zero]
    · intro h j hj; rw [h j hj, bit_zero]
  rw [Bool.and_eq_true, Bool.and_eq_true, Bool.and_eq_true, rt_iff, rt_iff, this, has_iff, and_assoc]
  exact ⟨fun ⟨h1, h2, h3, h4⟩ => ⟨h1, h2, fun j hj => ⟨h3 j hj, h4 j hj⟩⟩, fun ⟨h1, h2, h3⟩ => ⟨h1, h2, fun j hj => (h3 j hj).1, fun j hj => (h3 j hj).2⟩⟩
theorem sound_inside {av am bv bm x : BitVec 64} (hi : insB av am bv bm = true) (hx : hasB av am x = true) : hasB bv bm x = true := by
  rw [ins_iff] at hi
  rw [hasB_iff] at hx ⊢
  refine ⟨hi.2.1, fun j hj => ?_⟩
  have h1 := hi.2.2 j hj; have h2 := hx.2 j hj
  revert h1 h2
  cases bit x j <;> cases bit av j <;> cases bit am j <;> cases bit bv j <;> cases bit bm j <;> simp
theorem sound_shl {v m x : BitVec 64} (hx : hasB v m x = true) (n : Nat) : hasB (bshl v n) (bshl m n) (bshl x n) = true := by
  rw [hasB_iff] at hx ⊢
  exact ⟨shl_rt hx.1 n, shl_in hx.2 n⟩
theorem sound_shr {v m x : BitVec 64} (hx : hasB v m x = true) (n : Nat) : hasB (bshr v n) (bshr m n) (bshr x n) = true := by
  rw [hasB_iff] at hx ⊢
  refine ⟨fun j => ?_, fun j hj => ?_⟩
  · rw [bit_shr, bit_shr]; exact hx.1 _
  · rw [bit_shr, bit_shr, bit_shr]
    by_cases h : n + j < 64
    · exact hx.2 _ h
    · rw [bit_big x _ (by omega), bit_big v _ (by omega)]; rfl

end Go.Proofs.Ytglollajdjgciaa
