/- That twoBits' answers are package bits' own: add, sub, and, or, xor; plain facts. -/
import Derived.Test.YtglollajdjgciaaM2
import Derived.Test.YtglollajdjgciaaX1b
import Derived.Test.YtglollajdjgciaaW9
namespace Go.Proofs.Ytglollajdjgciaa

/- the eight ways of one bit, decided -/
theorem inn_add : ∀ a m b n cm cM : Bool, (a && m) = false → (b && n) = false → (cm = true → cM = true) →
    (inn 2 (!a) (a || m) (!b) (b || n) (!cm) cM 8).2 = (!((a && b) || (cm && (a || b))), ((a || m) && (b || n)) || (cM && ((a || m) || (b || n))))
    ∧ ((inn 2 (!a) (a || m) (!b) (b || n) (!cm) cM 8).1.2 && (inn 2 (!a) (a || m) (!b) (b || n) (!cm) cM 8).1.1) = (m || n || (!cm && cM))
    ∧ ((inn 2 (!a) (a || m) (!b) (b || n) (!cm) cM 8).1.2 && !(inn 2 (!a) (a || m) (!b) (b || n) (!cm) cM 8).1.1) = (((a ^^ b) ^^ cm) && !(m || n || (!cm && cM))) := by
  decide
theorem inn_sub : ∀ a m b n cm cM : Bool, (a && m) = false → (b && n) = false → (cm = true → cM = true) →
    (inn 3 (!a) (a || m) (!b) (b || n) (!cm) cM 8).2 = (!((!(a || m) && b) || (cm && (!(a || m) || b))), (!a && (b || n)) || (cM && (!a || (b || n))))
    ∧ ((inn 3 (!a) (a || m) (!b) (b || n) (!cm) cM 8).1.2 && (inn 3 (!a) (a || m) (!b) (b || n) (!cm) cM 8).1.1) = (m || n || (!cm && cM))
    ∧ ((inn 3 (!a) (a || m) (!b) (b || n) (!cm) cM 8).1.2 && !(inn 3 (!a) (a || m) (!b) (b || n) (!cm) cM 8).1.1) = (((a ^^ b) ^^ cm) && !(m || n || (!cm && cM))) := by
  decide
theorem inn_and : ∀ a m b n : Bool, (a && m) = false → (b && n) = false →
    (inn 5 (!a) (a || m) (!b) (b || n) true false 8).2 = (true, false)
    ∧ ((inn 5 (!a) (a || m) (!b) (b || n) true false 8).1.2 && (inn 5 (!a) (a || m) (!b) (b || n) true false 8).1.1) = (((a || m) && (b || n)) && !(a && b))
    ∧ ((inn 5 (!a) (a || m) (!b) (b || n) true false 8).1.2 && !(inn 5 (!a) (a || m) (!b) (b || n) true false 8).1.1) = (a && b) := by
  decide
theorem inn_or : ∀ a m b n : Bool, (a && m) = false → (b && n) = false →
    (inn 6 (!a) (a || m) (!b) (b || n) true false 8).2 = (true, false)
    ∧ ((inn 6 (!a) (a || m) (!b) (b || n) true false 8).1.2 && (inn 6 (!a) (a || m) (!b) (b || n) true false 8).1.1) = ((m || n) && !(a || b))
    ∧ ((inn 6 (!a) (a || m) (!b) (b || n) true false 8).1.2 && !(inn 6 (!a) (a || m) (!b) (b || n) true false 8).1.1) = (a || b) := by
  decide
theorem inn_xor : ∀ a m b n : Bool, (a && m) = false → (b && n) = false →
    (inn 7 (!a) (a || m) (!b) (b || n) true false 8).2 = (true, false)
    ∧ ((inn 7 (!a) (a || m) (!b) (b || n) true false 8).1.2 && (inn 7 (!a) (a || m) (!b) (b || n) true false 8).1.1) = (m || n)
    ∧ ((inn 7 (!a) (a || m) (!b) (b || n) true false 8).1.2 && !(inn 7 (!a) (a || m) (!b) (b || n) true false 8).1.1) = ((a ^^ b) && !(m || n)) := by
  decide


theorem cy_le (av am bv bm : BitVec 64) (i : Nat) : cy av bv i = true → cy (bor av am) (bor bv bm) i = true :=
  cy_mono av bv (bor av am) (bor bv bm) (fun i h => by rw [bit_or, h]; rfl) (fun i h => by rw [bit_or, h]; rfl) i
theorem bw_le (av am bv bm : BitVec 64) (i : Nat) : bw (bor av am) bv i = true → bw av (bor bv bm) i = true :=
  bw_mono (bor av am) bv av (bor bv bm) (fun i h => by rw [bit_or, h]; rfl) (fun i h => by rw [bit_or, h]; rfl) i

theorem twoC_add {av am bv bm : BitVec 64} (ha : ∀ j, (bit av j && bit am j) = false) (hb : ∀ j, (bit bv j && bit bm j) = false) (i : Nat) : twoC 2 av am bv bm i = (!cy av bv i, cy (bor av am) (bor bv bm) i) := by
  induction i with
  | zero => rw [cy_zero, cy_zero]; rfl
  | succ i ih =>
    simp only [twoC]
    rw [ih, cy_succ, cy_succ, bit_or, bit_or]
    exact (inn_add (bit av i) (bit am i) (bit bv i) (bit bm i) (cy av bv i) (cy (bor av am) (bor bv bm) i) (ha i) (hb i) (cy_le av am bv bm i)).1
theorem two_add {av am bv bm : BitVec 64} (ha : ∀ j, (bit av j && bit am j) = false) (hb : ∀ j, (bit bv j && bit bm j) = false) : twoV 2 av am bv bm 64 = bandn (badd av bv) (addM av am bv bm) ∧ twoM 2 av am bv bm 64 = addM av am bv bm := by
  have key := fun j => inn_add (bit av j) (bit am j) (bit bv j) (bit bm j) (cy av bv j) (cy (bor av am) (bor bv bm) j) (ha j) (hb j) (cy_le av am bv bm j)
  constructor
  · apply acc_eq; intro j hj
    simp only [twoR]
    rw [twoC_add ha hb j, bit_andn _ _ _ hj, bit_add _ _ _ hj]
    unfold addM
    rw [addM_bit ha hb j hj]
    exact (key j).2.2
  · apply acc_eq; intro j hj
    simp only [twoR]
    rw [twoC_add ha hb j]
    unfold addM
    rw [addM_bit ha hb j hj]
    exact (key j).2.1
theorem twoC_sub {av am bv bm : BitVec 64} (ha : ∀ j, (bit av j && bit am j) = false) (hb : ∀ j, (bit bv j && bit bm j) = false) (i : Nat) (hi : i ≤ 64) : twoC 3 av am bv bm i = (!bw (bor av am) bv i, bw av (bor bv bm) i) := by
  induction i with
  | zero => rw [bw_zero, bw_zero]; rfl
  | succ i ih =>
    simp only [twoC]
    rw [ih (by omega), bw_succ _ _ _ (by omega), bw_succ _ _ _ (by omega), bit_or, bit_or]
    exact (inn_sub (bit av i) (bit am i) (bit bv i) (bit bm i) (bw (bor av am) bv i) (bw av (bor bv bm) i) (ha i) (hb i) (bw_le av am bv bm i)).1
theorem two_sub {av am bv bm : BitVec 64} (ha : ∀ j, (bit av j && bit am j) = false) (hb : ∀ j, (bit bv j && bit bm j) = false) : twoV 3 av am bv bm 64 = bandn (bsub av bv) (subM av am bv bm) ∧ twoM 3 av am bv bm 64 = subM av am bv bm := by
  have key := fun j => inn_sub (bit av j) (bit am j) (bit bv j) (bit bm j) (bw (bor av am) bv j) (bw av (bor bv bm) j) (ha j) (hb j) (bw_le av am bv bm j)
  constructor
  · apply acc_eq; intro j hj
    simp only [twoR]
    rw [twoC_sub ha hb j (by omega), bit_andn _ _ _ hj, bit_sub _ _ _ hj]
    unfold subM
    rw [subM_bit ha hb j hj]
    have h1 := (key j).2.2
    have m3 := bw_mono (bor av am) bv av bv (fun i h => by rw [bit_or, h]; rfl) (fun i h => h) j
    have m4 := bw_mono av bv av (bor bv bm) (fun i h => h) (fun i h => by rw [bit_or, h]; rfl) j
    refine h1.trans ?_
    revert m3 m4
    cases bit av j <;> cases bit am j <;> cases bit bv j <;> cases bit bm j <;> cases bw (bor av am) bv j <;> cases bw av bv j <;> cases bw av (bor bv bm) j <;> simp
  · apply acc_eq; intro j hj
    simp only [twoR]
    rw [twoC_sub ha hb j (by omega)]
    unfold subM
    rw [subM_bit ha hb j hj]
    exact (key j).2.1
theorem twoC_and {av am bv bm : BitVec 64} (ha : ∀ j, (bit av j && bit am j) = false) (hb : ∀ j, (bit bv j && bit bm j) = false) (i : Nat) : twoC 5 av am bv bm i = (true, false) := by
  induction i with
  | zero => rfl
  | succ i ih => simp only [twoC]; rw [ih]; exact (inn_and (bit av i) (bit am i) (bit bv i) (bit bm i) (ha i) (hb i)).1
theorem two_and {av am bv bm : BitVec 64} (ha : ∀ j, (bit av j && bit am j) = false) (hb : ∀ j, (bit bv j && bit bm j) = false) : twoV 5 av am bv bm 64 = band av bv ∧ twoM 5 av am bv bm 64 = bandn (band (bor av am) (bor bv bm)) (band av bv) := by
  have key := fun j => inn_and (bit av j) (bit am j) (bit bv j) (bit bm j) (ha j) (hb j)
  constructor
  · apply acc_eq; intro j hj
    simp only [twoR]
    rw [twoC_and ha hb j, bit_and']
    exact (key j).2.2
  · apply acc_eq; intro j hj
    simp only [twoR]
    rw [twoC_and ha hb j, bit_andn _ _ _ hj, bit_and', bit_and', bit_or, bit_or]
    exact (key j).2.1
theorem twoC_or {av am bv bm : BitVec 64} (ha : ∀ j, (bit av j && bit am j) = false) (hb : ∀ j, (bit bv j && bit bm j) = false) (i : Nat) : twoC 6 av am bv bm i = (true, false) := by
  induction i with
  | zero => rfl
  | succ i ih => simp only [twoC]; rw [ih]; exact (inn_or (bit av i) (bit am i) (bit bv i) (bit bm i) (ha i) (hb i)).1
theorem two_or {av am bv bm : BitVec 64} (ha : ∀ j, (bit av j && bit am j) = false) (hb : ∀ j, (bit bv j && bit bm j) = false) : twoV 6 av am bv bm 64 = bor av bv ∧ twoM 6 av am bv bm 64 = bandn (bor am bm) (bor av bv) := by
  have key := fun j => inn_or (bit av j) (bit am j) (bit bv j) (bit bm j) (ha j) (hb j)
  constructor
  · apply acc_eq; intro j hj
    simp only [twoR]
    rw [twoC_or ha hb j, bit_or]
    exact (key j).2.2
  · apply acc_eq; intro j hj
    simp only [twoR]
    rw [twoC_or ha hb j, bit_andn _ _ _ hj, bit_or, bit_or]
    exact (key j).2.1
theorem twoC_xor {av am bv bm : BitVec 64} (ha : ∀ j, (bit av j && bit am j) = false) (hb : ∀ j, (bit bv j && bit bm j) = false) (i : Nat) : twoC 7 av am bv bm i = (true, false) := by
  induction i with
  | zero => rfl
  | succ i ih => simp only [twoC]; rw [ih]; exact (inn_xor (bit av i) (bit am i) (bit bv i) (bit bm i) (ha i) (hb i)).1
theorem two_xor {av am bv bm : BitVec 64} (ha : ∀ j, (bit av j && bit am j) = false) (hb : ∀ j, (bit bv j && bit bm j) = false) : twoV 7 av am bv bm 64 = bandn (bxor av bv) (bor am bm) ∧ twoM 7 av am bv bm 64 = bor am bm := by
  have key := fun j => inn_xor (bit av j) (bit am j) (bit bv j) (bit bm j) (ha j) (hb j)
  constructor
  · apply acc_eq; intro j hj
    simp only [twoR]
    rw [twoC_xor ha hb j, bit_andn _ _ _ hj, bit_xor, bit_or]
    exact (key j).2.2
  · apply acc_eq; intro j hj
    simp only [twoR]
    rw [twoC_xor ha hb j, bit_or]
    exact (key j).2.1
end Go.Proofs.Ytglollajdjgciaa
