/- Bounds of what is reckoned of two numbers: plain facts. -/
import Derived.Test.YtglollajdjgciaaM10
import Derived.Test.YtglollajdjgciaaW10
namespace Go.Proofs.Ytglollajdjgciaa

theorem nv_add (x y : BitVec 64) : nv (badd x y) = (nv x + nv y) % 18446744073709551616 := by
  unfold nv badd; rw [BitVec.toNat_add]; omega
theorem nv_sub (x y : BitVec 64) : nv (bsub x y) = (nv x - nv y) % 18446744073709551616 := by
  rw [← w_sub, IntKind.wrap_u64]
theorem nv_mul (x y : BitVec 64) : nv (bmul x y) = (nv x * nv y) % 18446744073709551616 := by
  rw [← w_mul, IntKind.wrap_u64]
theorem nv_shl (x : BitVec 64) (n : Nat) : nv (bshl x n) = (nv x * 2 ^ n) % 18446744073709551616 := by
  rw [← w_shl, IntKind.wrap_u64]
theorem nv_shr (x : BitVec 64) (n : Nat) : nv (bshr x n) = nv x / 2 ^ n := (w_shr x n).symm

def addB (l h l' h' : BitVec 64) : BitVec 64 × BitVec 64 := if decide (nv (badd l l') < nv l) = decide (nv (badd h h') < nv h) then (badd l l', badd h h') else (zero, top)
def subB (l h l' h' : BitVec 64) : BitVec 64 × BitVec 64 := if decide (nv l < nv h') = decide (nv h < nv l') then (bsub l h', bsub h l') else (zero, top)
def overB (x y : BitVec 64) : Bool := !eqb y zero && decide (18446744073709551615 / nv y < nv x)
def mulB (l h l' h' : BitVec 64) : BitVec 64 × BitVec 64 := if overB h h' then (zero, top) else (bmul l l', bmul h h')
def boundsP (op : Int) (l h l' h' : BitVec 64) : BitVec 64 × BitVec 64 :=
  if op = 2 then addB l h l' h' else if op = 3 then subB l h l' h' else if op = 4 then mulB l h l' h'
  else if op = 5 then (zero, bmin h h') else if op = 6 then (bmax l l', top) else (zero, top)
def shlB (l h : BitVec 64) (n : Nat) : BitVec 64 × BitVec 64 := if eqb (bshr (bshl h n) n) h then (bshl l n, bshl h n) else (zero, top)

theorem ends (x : BitVec 64) : nv zero ≤ nv x ∧ nv x ≤ nv top := by
  rw [nv_zero, nv_top]
  have := nv_nonneg x
  have := nv_lt x
  omega
theorem add_bounds {l h l' h' x y : BitVec 64} (h1 : nv l ≤ nv x) (h2 : nv x ≤ nv h) (h3 : nv l' ≤ nv y) (h4 : nv y ≤ nv h') : nv (addB l h l' h').1 ≤ nv (badd x y) ∧ nv (badd x y) ≤ nv (addB l h l' h').2 := by
  unfold addB
  split
  · rename_i he
    have a1 := nv_nonneg l; have a2 := nv_lt h; have a3 := nv_nonneg l'; have a4 := nv_lt h'
    have he' : nv (badd l l') < nv l ↔ nv (badd h h') < nv h := by simpa using he
    simp only [nv_add] at he' ⊢
    omega
  · exact ends _
theorem sub_bounds {l h l' h' x y : BitVec 64} (h1 : nv l ≤ nv x) (h2 : nv x ≤ nv h) (h3 : nv l' ≤ nv y) (h4 : nv y ≤ nv h') : nv (subB l h l' h').1 ≤ nv (bsub x y) ∧ nv (bsub x y) ≤ nv (subB l h l' h').2 := by
  unfold subB
  split
  · rename_i he
    have a1 := nv_nonneg l; have a2 := nv_lt h; have a3 := nv_nonneg l'; have a4 := nv_lt h'
    have he' : nv l < nv h' ↔ nv h < nv l' := by simpa using he
    simp only [nv_sub]
    omega
  · exact ends _
theorem mul_bounds {l h l' h' x y : BitVec 64} (h1 : nv l ≤ nv x) (h2 : nv x ≤ nv h) (h3 : nv l' ≤ nv y) (h4 : nv y ≤ nv h') : nv (mulB l h l' h').1 ≤ nv (bmul x y) ∧ nv (bmul x y) ≤ nv (mulB l h l' h').2 := by
  unfold mulB
  split
  · exact ends _
  · rename_i ho
    have a1 := nv_nonneg l; have a3 := nv_nonneg l'
    have hx0 : 0 ≤ nv x := by omega
    have hy0 : 0 ≤ nv y := by omega
    have hbig : nv h * nv h' ≤ 18446744073709551615 := by
      unfold overB at ho
      cases hz : eqb h' zero
      · rw [hz] at ho
        simp only [Bool.not_false, Bool.true_and, decide_eq_true_eq, Int.not_lt] at ho
        have hp : 0 < nv h' := by
          have hne : h' ≠ zero := (eqb_false _ _).1 hz
          have : nv h' ≠ 0 := fun e => hne (nv_inj _ _ (by rw [e, nv_zero]))
          have := nv_nonneg h'
          omega
        have hm : nv h * nv h' ≤ (18446744073709551615 / nv h') * nv h' := Int.mul_le_mul_of_nonneg_right ho (by omega)
        have hd : (18446744073709551615 / nv h') * nv h' ≤ 18446744073709551615 := Int.ediv_mul_le _ (by omega)
        omega
      · rw [(eqb_iff _ _).1 hz, nv_zero]; omega
    have hlo : nv l * nv l' ≤ nv x * nv y := Int.mul_le_mul h1 h3 a3 hx0
    have hhi : nv x * nv y ≤ nv h * nv h' := Int.mul_le_mul h2 h4 hy0 (by omega)
    have h00 : 0 ≤ nv l * nv l' := Int.mul_nonneg a1 a3
    simp only [nv_mul]
    generalize nv l * nv l' = p at *
    generalize nv x * nv y = q at *
    generalize nv h * nv h' = r at *
    omega
theorem and_le (x y : BitVec 64) : nv (band x y) ≤ nv x ∧ nv (band x y) ≤ nv y := by
  unfold nv band
  rw [BitVec.toNat_and]
  have h1 : x.toNat &&& y.toNat ≤ x.toNat := Nat.and_le_left
  have h2 : x.toNat &&& y.toNat ≤ y.toNat := Nat.and_le_right
  omega
theorem le_or (x y : BitVec 64) : nv x ≤ nv (bor x y) ∧ nv y ≤ nv (bor x y) := by
  unfold nv bor
  rw [BitVec.toNat_or]
  have h1 : x.toNat ≤ x.toNat ||| y.toNat := Nat.left_le_or
  have h2 : y.toNat ≤ x.toNat ||| y.toNat := Nat.right_le_or
  omega
theorem bounds_sound {op : Int} (hop : 2 ≤ op ∧ op ≤ 7) {l h l' h' x y : BitVec 64} (h1 : nv l ≤ nv x) (h2 : nv x ≤ nv h) (h3 : nv l' ≤ nv y) (h4 : nv y ≤ nv h') :
    nv (boundsP op l h l' h').1 ≤ nv (numB op x y) ∧ nv (numB op x y) ≤ nv (boundsP op l h l' h').2 := by
  rcases op_cases hop with rfl | rfl | rfl | rfl | rfl | rfl
  · exact add_bounds h1 h2 h3 h4
  · exact sub_bounds h1 h2 h3 h4
  · exact mul_bounds h1 h2 h3 h4
  · show nv zero ≤ nv (band x y) ∧ nv (band x y) ≤ nv (bmin h h')
    have ha := and_le x y
    exact ⟨(ends _).1, le_bmin (by omega) (by omega)⟩
  · show nv (bmax l l') ≤ nv (bor x y) ∧ nv (bor x y) ≤ nv top
    have ha := le_or x y
    exact ⟨bmax_le (by omega) (by omega), (ends _).2⟩
  · exact ends _
theorem shr_bounds {l h x : BitVec 64} (n : Nat) (h1 : nv l ≤ nv x) (h2 : nv x ≤ nv h) : nv (bshr l n) ≤ nv (bshr x n) ∧ nv (bshr x n) ≤ nv (bshr h n) := by
  simp only [nv_shr]
  have hp : (0 : Int) < 2 ^ n := Int.pow_pos (by decide)
  exact ⟨Int.ediv_le_ediv hp h1, Int.ediv_le_ediv hp h2⟩
theorem shr_le (x : BitVec 64) (n : Nat) : nv (bshr x n) ≤ nv x := by
  rw [nv_shr]
  exact Int.ediv_le_self _ (nv_nonneg x)
theorem shl_bounds {l h x : BitVec 64} (n : Nat) (h1 : nv l ≤ nv x) (h2 : nv x ≤ nv h) : nv (shlB l h n).1 ≤ nv (bshl x n) ∧ nv (bshl x n) ≤ nv (shlB l h n).2 := by
  unfold shlB
  split
  · rename_i he
    have he' := (eqb_iff _ _).1 he
    have hn : nv (bshr (bshl h n) n) = nv h := by rw [he']
    rw [nv_shr, nv_shl] at hn
    have hp : (0 : Int) < 2 ^ n := Int.pow_pos (by decide)
    have hh0 := nv_nonneg h
    have hlt : nv h * 2 ^ n < 18446744073709551616 := by
      have hd := Int.ediv_mul_le (nv h * 2 ^ n % 18446744073709551616) (b := 2 ^ n) (by omega)
      rw [hn] at hd
      have hm := Int.emod_lt_of_pos (nv h * 2 ^ n) (show (0 : Int) < 18446744073709551616 by decide)
      omega
    have a1 := nv_nonneg l
    have g1 : nv l * 2 ^ n ≤ nv x * 2 ^ n := Int.mul_le_mul_of_nonneg_right h1 (by omega)
    have g2 : nv x * 2 ^ n ≤ nv h * 2 ^ n := Int.mul_le_mul_of_nonneg_right h2 (by omega)
    have g0 : 0 ≤ nv l * 2 ^ n := Int.mul_nonneg a1 (by omega)
    simp only [nv_shl]
    generalize nv l * 2 ^ n = p at *
    generalize nv x * 2 ^ n = q at *
    generalize nv h * 2 ^ n = r at *
    omega
  · exact ends _

/- what is left of both -/
theorem raw_narrow {v m l h x : BitVec 64} (hx : hasV v m l h x = true) {l2 h2 : BitVec 64} (h1 : nv l2 ≤ nv x) (h3 : nv x ≤ nv h2) : rawV v m l2 h2 x = true := by
  unfold hasV at hx
  simp only [Bool.and_eq_true, decide_eq_true_eq] at hx
  unfold rawV
  simp only [Bool.and_eq_true, decide_eq_true_eq]
  exact ⟨hx.2.1, h1, h3⟩
theorem raw_norm {v m l h x : BitVec 64} (hr : RtB v m) (hx : rawV v m l h x = true) :
    normOk v m l h = true ∧ hasV (nV v m l h) (nM m (nLo v m l) (nHi v m h)) (nLo v m l) (nHi v m h) x = true := by
  have := norm_has hr (l := l) (h := h) x
  rw [hx] at this
  have h2 := this.symm
  rw [Bool.and_eq_true] at h2
  exact h2

end Go.Proofs.Ytglollajdjgciaa
