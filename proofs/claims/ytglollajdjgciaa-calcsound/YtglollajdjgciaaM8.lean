/- Norm, Check, Join and Inside of package val as plain functions; what is right is what Norm leaves as it is. -/
import Derived.Test.YtglollajdjgciaaM7
namespace Go.Proofs.Ytglollajdjgciaa

def nLo (v m l : BitVec 64) : BitVec 64 := (leastV v m l).1
def nHi (v m h : BitVec 64) : BitVec 64 := (greatV v m h).1
def normOk (v m l h : BitVec 64) : Bool := (leastV v m l).2 && ((greatV v m h).2 && decide (nv (nLo v m l) ≤ nv (nHi v m h)))
def spV (l h : BitVec 64) : BitVec 64 := bandn l (sM l h)
def nV (v m l h : BitVec 64) : BitVec 64 := bor v (spV (nLo v m l) (nHi v m h))
def nM (m l h : BitVec 64) : BitVec 64 := band m (sM l h)
def valB (v m l h : BitVec 64) : Bool := hasB v m l && (hasB v m h && (decide (nv l ≤ nv h) && insB v m (spV l h) (sM l h)))

theorem sM_bit (l h : BitVec 64) (j : Nat) (hj : j < 64) : bit (sM l h) j = false ↔ ∀ i, j ≤ i → bit l i = bit h i := by
  unfold sM
  rw [lowMask_bit _ _ (blen_le _) hj, decide_eq_false_iff_not, Nat.not_lt, blen_bits _ _ (by omega)]
  constructor
  · intro h1 i hi
    have := h1 i hi
    rw [bit_xor] at this
    revert this
    cases bit l i <;> cases bit h i <;> simp
  · intro h1 i hi
    rw [bit_xor, h1 i hi]; simp
theorem span_rt (l h : BitVec 64) : RtB (spV l h) (sM l h) := by
  intro j
  by_cases hj : j < 64
  · unfold spV; rw [bit_andn _ _ _ hj]; cases bit l j <;> cases bit (sM l h) j <;> rfl
  · rw [bit_big _ _ (by omega)]; rfl
/- what lies between is one of the numbers of the span -/
theorem span_has {l h x : BitVec 64} (h1 : nv l ≤ nv x) (h2 : nv x ≤ nv h) : hasB (spV l h) (sM l h) x = true := by
  rw [hasB_iff]
  refine ⟨span_rt l h, fun j hj => ?_⟩
  unfold spV
  rw [bit_andn _ _ _ hj]
  cases hs : bit (sM l h) j
  · have hlh := (sM_bit l h j hj).1 hs
    have hx : ∀ i, j ≤ i → bit x i = bit l i := by
      intro i hi
      by_cases hlt : nv l < nv x
      · obtain ⟨a, ha, g1, g2, g3⟩ := bits_of_lt hlt
        by_cases hai : a < i
        · by_cases h64 : i < 64
          · exact (g3 i hai h64).symm
          · rw [bit_big _ _ (by omega), bit_big _ _ (by omega)]
        · exfalso
          -- x is above h then
          have : nv h < nv x := by
            refine lt_of_bits a ?_ g2 fun b hb hb2 => ?_
            · rw [← hlh a (by omega)]; exact g1
            · rw [← hlh b (by omega)]; exact g3 b hb hb2
          omega
      · have : nv l = nv x := by omega
        rw [nv_inj _ _ this]
    rw [hx j (Nat.le_refl _)]
  · simp
theorem span_l {l h : BitVec 64} (hle : nv l ≤ nv h) : hasB (spV l h) (sM l h) l = true := span_has (Int.le_refl _) hle

/- the meeting of the bits and the span -/
theorem meet_span {v m l h x : BitVec 64} (hr : RtB v m) (hx : hasB v m x = true) (h1 : nv l ≤ nv x) (h2 : nv x ≤ nv h) : eqb (bandn (bxor v (spV l h)) (bor m (sM l h))) zero = true := by
  have := sound_meet (x := x) hr (span_rt l h)
  rw [hx, span_has h1 h2] at this
  revert this
  cases eqb (bandn (bxor v (spV l h)) (bor m (sM l h))) zero <;> simp

/- right is what Norm leaves -/
theorem norm_self {v m l h : BitVec 64} (hr : RtB v m) (h1 : hasB v m l = true) (h2 : hasB v m h = true) : leastV v m l = (l, true) ∧ greatV v m h = (h, true) := by
  constructor
  · rcases least_is hr l with ⟨_, g⟩ | ⟨g, _⟩ | ⟨g, _⟩
    · exact g
    · rw [h1] at g; cases g
    · rw [h1] at g; cases g
  · rcases great_is hr h with ⟨_, g⟩ | ⟨g, _⟩ | ⟨g, _⟩
    · exact g
    · rw [h2] at g; cases g
    · rw [h2] at g; cases g
def normSame (v m l h : BitVec 64) : Bool := eqb (nV v m l h) v && (eqb (nM m (nLo v m l) (nHi v m h)) m && (eqb (nLo v m l) l && eqb (nHi v m h) h))
theorem val_iff {v m : BitVec 64} (hr : RtB v m) (l h : BitVec 64) : valB v m l h = (normOk v m l h && normSame v m l h) := by
  have key : ∀ (_ : hasB v m l = true), (insB v m (spV l h) (sM l h) = true ↔ eqb (bor v (spV l h)) v = true ∧ eqb (nM m l h) m = true) := by
    intro hl
    have hin := ((hasB_iff v m l).1 hl).2
    rw [ins_iff, eqb_iff, eqb_iff]
    constructor
    · rintro ⟨_, _, g⟩
      constructor
      · apply bext; intro j hj
        rw [bit_or, ← (g j hj).2]
        cases bit v j <;> cases bit (sM l h) j <;> rfl
      · apply bext; intro j hj
        unfold nM
        rw [bit_and']
        have := (g j hj).1
        revert this
        cases bit m j <;> cases bit (sM l h) j <;> simp
    · rintro ⟨g1, g2⟩
      refine ⟨hr, span_rt l h, fun j hj => ⟨?_, ?_⟩⟩
      · have : bit (nM m l h) j = bit m j := by rw [g2]
        unfold nM at this
        rw [bit_and'] at this
        revert this
        cases bit m j <;> cases bit (sM l h) j <;> simp
      · have h3 : bit (bor v (spV l h)) j = bit v j := by rw [g1]
        rw [bit_or] at h3
        have h4 := hin j hj
        have h5 : bit (spV l h) j = (bit l j && !bit (sM l h) j) := by unfold spV; rw [bit_andn _ _ _ hj]
        rw [h5] at h3 ⊢
        revert h3 h4
        cases bit v j <;> cases bit (sM l h) j <;> cases bit l j <;> cases bit m j <;> simp
  rw [Bool.eq_iff_iff]
  unfold valB normOk normSame
  simp only [Bool.and_eq_true, decide_eq_true_eq]
  constructor
  · rintro ⟨h1, h2, h3, h4⟩
    obtain ⟨e1, e2⟩ := norm_self hr h1 h2
    have a1 : nLo v m l = l := by unfold nLo; rw [e1]
    have a2 : nHi v m h = h := by unfold nHi; rw [e2]
    have a3 : nV v m l h = bor v (spV l h) := by unfold nV; rw [a1, a2]
    rw [a3, a1, a2, e1, e2]
    have := (key h1).1 h4
    exact ⟨⟨rfl, rfl, h3⟩, this.1, this.2, eqb_self l, eqb_self h⟩
  · rintro ⟨⟨h1, h2, h3⟩, h4, h5, h6, h7⟩
    have a1 : nLo v m l = l := (eqb_iff _ _).1 h6
    have a2 : nHi v m h = h := (eqb_iff _ _).1 h7
    have b1 := (least_yes hr h1).1
    have b2 := (great_yes hr h2).1
    have b1' : hasB v m (nLo v m l) = true := b1
    have b2' : hasB v m (nHi v m h) = true := b2
    rw [a1] at b1'
    rw [a2] at b2'
    have a3 : nV v m l h = bor v (spV l h) := by unfold nV; rw [a1, a2]
    rw [a3] at h4
    rw [a1, a2] at h5 h3
    exact ⟨b1', b2', h3, (key b1').2 ⟨h4, h5⟩⟩
theorem val_wrong {v m l h : BitVec 64} (hr : eqb (band v m) zero = false) : valB v m l h = false := by
  unfold valB hasB
  rw [hr]; rfl

end Go.Proofs.Ytglollajdjgciaa
