/- What Norm answers has just the same numbers, and stays; Join has what one has: plain facts. -/
import Derived.Test.YtglollajdjgciaaM8
namespace Go.Proofs.Ytglollajdjgciaa

def hasV (v m l h x : BitVec 64) : Bool := valB v m l h && (hasB v m x && (decide (nv l ≤ nv x) && decide (nv x ≤ nv h)))
def rawV (v m l h x : BitVec 64) : Bool := hasB v m x && (decide (nv l ≤ nv x) && decide (nv x ≤ nv h))
def insV (v m l h v' m' l' h' : BitVec 64) : Bool := valB v m l h && (valB v' m' l' h' && (insB v m v' m' && (decide (nv l' ≤ nv l) && decide (nv h ≤ nv h'))))

theorem norm_facts {v m l h : BitVec 64} (hr : RtB v m) (ho : normOk v m l h = true) :
    hasB v m (nLo v m l) = true ∧ hasB v m (nHi v m h) = true ∧ nv (nLo v m l) ≤ nv (nHi v m h) ∧ nv l ≤ nv (nLo v m l) ∧ nv (nHi v m h) ≤ nv h
    ∧ (∀ x, hasB (nV v m l h) (nM m (nLo v m l) (nHi v m h)) x = (hasB v m x && hasB (spV (nLo v m l) (nHi v m h)) (sM (nLo v m l) (nHi v m h)) x)) := by
  unfold normOk at ho
  simp only [Bool.and_eq_true, decide_eq_true_eq] at ho
  obtain ⟨h1, h2, h3⟩ := ho
  obtain ⟨a1, a2, _⟩ := least_yes hr h1
  obtain ⟨b1, b2, _⟩ := great_yes hr h2
  refine ⟨a1, b1, h3, a2, b2, fun x => ?_⟩
  have hs := sound_meet (x := x) hr (span_rt (nLo v m l) (nHi v m h))
  rw [meet_span hr (x := nLo v m l) a1 (Int.le_refl _) h3, Bool.true_and] at hs
  exact hs.symm
theorem norm_right {v m l h : BitVec 64} (hr : RtB v m) (ho : normOk v m l h = true) : valB (nV v m l h) (nM m (nLo v m l) (nHi v m h)) (nLo v m l) (nHi v m h) = true := by
  obtain ⟨h1, h2, h3, h4, h5, h6⟩ := norm_facts hr ho
  unfold valB
  rw [h6, h6, h1, h2, span_has (Int.le_refl _) h3, span_has h3 (Int.le_refl _)]
  simp only [Bool.true_and, Bool.and_eq_true, decide_eq_true_eq]
  refine ⟨h3, (ins_iff _ _ _ _).2 ⟨?_, span_rt _ _, fun j hj => ?_⟩⟩
  · intro j
    have g1 := hr j
    have g2 := span_rt (nLo v m l) (nHi v m h) j
    unfold nV nM
    rw [bit_or, bit_and']
    revert g1 g2
    cases bit v j <;> cases bit m j <;> cases bit (spV (nLo v m l) (nHi v m h)) j <;> cases bit (sM (nLo v m l) (nHi v m h)) j <;> simp
  · have g1 := ((hasB_iff _ _ _).1 h1).2 j hj
    have g2 : bit (spV (nLo v m l) (nHi v m h)) j = (bit (nLo v m l) j && !bit (sM (nLo v m l) (nHi v m h)) j) := by unfold spV; rw [bit_andn _ _ _ hj]
    unfold nV nM
    rw [bit_or, bit_and', g2]
    revert g1
    cases bit v j <;> cases bit m j <;> cases bit (nLo v m l) j <;> cases bit (sM (nLo v m l) (nHi v m h)) j <;> simp
theorem norm_has {v m l h : BitVec 64} (hr : RtB v m) (x : BitVec 64) :
    rawV v m l h x = (normOk v m l h && hasV (nV v m l h) (nM m (nLo v m l) (nHi v m h)) (nLo v m l) (nHi v m h) x) := by
  rw [Bool.eq_iff_iff]
  constructor
  · intro hx
    unfold rawV at hx
    simp only [Bool.and_eq_true, decide_eq_true_eq] at hx
    obtain ⟨h1, h2, h3⟩ := hx
    have ho1 : (leastV v m l).2 = true := by
      cases e : (leastV v m l).2
      · have := least_none hr e x h1; omega
      · rfl
    have ho2 : (greatV v m h).2 = true := by
      cases e : (greatV v m h).2
      · have := great_none hr e x h1; omega
      · rfl
    have g1 : nv (nLo v m l) ≤ nv x := (least_yes hr ho1).2.2 x h1 h2
    have g2 : nv x ≤ nv (nHi v m h) := (great_yes hr ho2).2.2 x h1 h3
    have ho : normOk v m l h = true := by
      unfold normOk
      rw [ho1, ho2]
      simp only [Bool.true_and, decide_eq_true_eq]; omega
    rw [ho, Bool.true_and]
    unfold hasV
    rw [norm_right hr ho, (norm_facts hr ho).2.2.2.2.2 x, h1, span_has g1 g2]
    simp [g1, g2]
  · intro hx
    rw [Bool.and_eq_true] at hx
    obtain ⟨ho, hx⟩ := hx
    obtain ⟨_, _, _, h4, h5, h6⟩ := norm_facts hr ho
    unfold hasV at hx
    rw [norm_right hr ho, h6 x] at hx
    simp only [Bool.true_and, Bool.and_eq_true, decide_eq_true_eq] at hx
    unfold rawV
    simp only [Bool.and_eq_true, decide_eq_true_eq]
    exact ⟨hx.1.1, by omega, by omega⟩
theorem norm_ends {v m l h : BitVec 64} (hr : RtB v m) (ho : normOk v m l h = true) :
    hasV (nV v m l h) (nM m (nLo v m l) (nHi v m h)) (nLo v m l) (nHi v m h) (nLo v m l) = true ∧ hasV (nV v m l h) (nM m (nLo v m l) (nHi v m h)) (nLo v m l) (nHi v m h) (nHi v m h) = true := by
  obtain ⟨h1, h2, h3, h4, h5, h6⟩ := norm_facts hr ho
  unfold hasV
  rw [norm_right hr ho, h6, h6, h1, h2, span_has (Int.le_refl _) h3, span_has h3 (Int.le_refl _)]
  simp [h3]

/- right ones -/
theorem val_facts {v m l h : BitVec 64} (hv : valB v m l h = true) : RtB v m ∧ hasB v m l = true ∧ hasB v m h = true ∧ nv l ≤ nv h ∧ insB v m (spV l h) (sM l h) = true := by
  unfold valB at hv
  simp only [Bool.and_eq_true, decide_eq_true_eq] at hv
  obtain ⟨h1, h2, h3, h4⟩ := hv
  exact ⟨((hasB_iff _ _ _).1 h1).1, h1, h2, h3, h4⟩
theorem norm_stays {v m l h : BitVec 64} (hv : valB v m l h = true) : normOk v m l h = true ∧ nV v m l h = v ∧ nM m (nLo v m l) (nHi v m h) = m ∧ nLo v m l = l ∧ nHi v m h = h := by
  have hr := (val_facts hv).1
  have := val_iff hr l h
  rw [hv] at this
  have h2 := this.symm
  unfold normSame at h2
  simp only [Bool.and_eq_true, eqb_iff] at h2
  exact ⟨h2.1, h2.2.1, h2.2.2.1, h2.2.2.2.1, h2.2.2.2.2⟩
theorem ins_of_all {av am bv bm : BitVec 64} (ha : RtB av am) (hb : RtB bv bm) (hall : ∀ x, hasB av am x = true → hasB bv bm x = true) : insB av am bv bm = true := by
  rw [ins_iff]
  refine ⟨ha, hb, fun j hj => ?_⟩
  have h1 : hasB av am av = true := by
    rw [hasB_iff]; refine ⟨ha, fun i _ => ?_⟩
    have := ha i; revert this; cases bit av i <;> cases bit am i <;> simp
  have h2 : hasB av am (bor av am) = true := by
    rw [hasB_iff]; refine ⟨ha, fun i _ => ?_⟩
    rw [bit_or]
    have := ha i; revert this; cases bit av i <;> cases bit am i <;> simp
  have g1 := ((hasB_iff _ _ _).1 (hall _ h1)).2 j hj
  have g2 := ((hasB_iff _ _ _).1 (hall _ h2)).2 j hj
  rw [bit_or] at g2
  have g3 := ha j; have g4 := hb j
  revert g1 g2 g3 g4
  cases bit av j <;> cases bit am j <;> cases bit bv j <;> cases bit bm j <;> simp
theorem ins_all {av am bv bm : BitVec 64} (hi : insB av am bv bm = true) (x : BitVec 64) (hx : hasB av am x = true) : hasB bv bm x = true := sound_inside hi hx
theorem span_wider {l h l' h' : BitVec 64} (h1 : nv l' ≤ nv l) (h2 : nv l ≤ nv h) (h3 : nv h ≤ nv h') : insB (spV l h) (sM l h) (spV l' h') (sM l' h') = true := by
  have hl := ((hasB_iff _ _ _).1 (span_has (l := l') (h := h') (x := l) h1 (by omega))).2
  have hh := ((hasB_iff _ _ _).1 (span_has (l := l') (h := h') (x := h) (by omega) h3)).2
  rw [ins_iff]
  refine ⟨span_rt _ _, span_rt _ _, fun j hj => ?_⟩
  have g0 : bit (spV l h) j = (bit l j && !bit (sM l h) j) := by unfold spV; rw [bit_andn _ _ _ hj]
  rw [g0]
  cases hs : bit (sM l' h') j
  · have hsl : bit (sM l h) j = false := by
      rw [sM_bit _ _ _ hj]
      intro i hi
      by_cases h64 : i < 64
      · have hsi : bit (sM l' h') i = false := by
          rw [sM_bit _ _ _ h64]
          exact fun k hk => (sM_bit _ _ _ hj).1 hs k (by omega)
        have a := hl i h64
        have b := hh i h64
        rw [hsi] at a b
        simp only [Bool.not_false, Bool.and_true] at a b
        rw [a, b]
      · rw [bit_big _ _ (by omega), bit_big _ _ (by omega)]
    have a := hl j hj
    rw [hs] at a
    simp only [Bool.not_false, Bool.and_true] at a
    rw [hsl, a]; simp
  · have := span_rt l' h' j
    rw [hs] at this
    simp at this
    simp [this]
/- a right one inside of bits and bounds is inside of what Norm makes of them -/
theorem inside_norm {v m l h v' m' l' h' : BitVec 64} (hv : valB v m l h = true) (hr : RtB v' m') (hi : insB v m v' m' = true) (h1 : nv l' ≤ nv l) (h2 : nv h ≤ nv h') :
    normOk v' m' l' h' = true ∧ insV v m l h (nV v' m' l' h') (nM m' (nLo v' m' l') (nHi v' m' h')) (nLo v' m' l') (nHi v' m' h') = true := by
  obtain ⟨a1, a2, a3, a4, a5⟩ := val_facts hv
  have b2 := ins_all hi _ a2
  have b3 := ins_all hi _ a3
  have hx := norm_has hr (l := l') (h := h') l
  have hraw : rawV v' m' l' h' l = true := by
    unfold rawV; rw [b2]; simp only [Bool.true_and, Bool.and_eq_true, decide_eq_true_eq]; omega
  rw [hraw] at hx
  have hx := hx.symm
  rw [Bool.and_eq_true] at hx
  have ho := hx.1
  have hx2 := norm_has hr (l := l') (h := h') h
  have hraw2 : rawV v' m' l' h' h = true := by
    unfold rawV; rw [b3]; simp only [Bool.true_and, Bool.and_eq_true, decide_eq_true_eq]; omega
  rw [hraw2] at hx2
  have hx2 := hx2.symm
  rw [Bool.and_eq_true] at hx2
  have g1 := hx.2
  have g2 := hx2.2
  unfold hasV at g1 g2
  simp only [Bool.and_eq_true, decide_eq_true_eq] at g1 g2
  refine ⟨ho, ?_⟩
  unfold insV
  rw [hv, norm_right hr ho]
  simp only [Bool.true_and, Bool.and_eq_true, decide_eq_true_eq]
  refine ⟨ins_of_all a1 (val_facts (norm_right hr ho)).1 fun x hx => ?_, g1.2.2.1, g2.2.2.2⟩
  rw [(norm_facts hr ho).2.2.2.2.2 x, ins_all hi _ hx, Bool.true_and]
  exact ins_all (span_wider g1.2.2.1 a4 g2.2.2.2) _ (ins_all a5 _ hx)

end Go.Proofs.Ytglollajdjgciaa
