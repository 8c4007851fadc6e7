/- The lesser and the greater of two; Join of two right ones: plain facts. -/
import Derived.Test.YtglollajdjgciaaM9
namespace Go.Proofs.Ytglollajdjgciaa

def bmin (x y : BitVec 64) : BitVec 64 := if nv y < nv x then y else x
def bmax (x y : BitVec 64) : BitVec 64 := if nv x < nv y then y else x
theorem w_min (x y : BitVec 64) : min (nv x) (nv y) = nv (bmin x y) := by
  unfold bmin; split <;> omega
theorem w_max (x y : BitVec 64) : max (nv x) (nv y) = nv (bmax x y) := by
  unfold bmax; split <;> omega
theorem bmin_le (x y : BitVec 64) : nv (bmin x y) ≤ nv x ∧ nv (bmin x y) ≤ nv y := by rw [← w_min]; omega
theorem le_bmax (x y : BitVec 64) : nv x ≤ nv (bmax x y) ∧ nv y ≤ nv (bmax x y) := by rw [← w_max]; omega
theorem le_bmin {x y z : BitVec 64} (h1 : nv z ≤ nv x) (h2 : nv z ≤ nv y) : nv z ≤ nv (bmin x y) := by rw [← w_min]; omega
theorem bmax_le {x y z : BitVec 64} (h1 : nv x ≤ nv z) (h2 : nv y ≤ nv z) : nv (bmax x y) ≤ nv z := by rw [← w_max]; omega

def jV (av am bv bm : BitVec 64) : BitVec 64 := bandn av (jM av am bv bm)
theorem join_rt (av am bv bm : BitVec 64) : RtB (jV av am bv bm) (jM av am bv bm) := by
  intro j
  unfold jV
  by_cases hj : j < 64
  · rw [bit_andn _ _ _ hj]; cases bit av j <;> cases bit (jM av am bv bm) j <;> rfl
  · rw [bit_big _ _ (by omega)]; rfl
theorem join_ins {av am bv bm : BitVec 64} (ha : RtB av am) (hb : RtB bv bm) : insB av am (jV av am bv bm) (jM av am bv bm) = true ∧ insB bv bm (jV av am bv bm) (jM av am bv bm) = true :=
  ⟨ins_of_all ha (join_rt _ _ _ _) fun x hx => sound_join ha hb (by rw [hx]; rfl), ins_of_all hb (join_rt _ _ _ _) fun x hx => sound_join ha hb (by rw [hx]; cases hasB av am x <;> rfl)⟩
theorem insV_has {v m l h v' m' l' h' x : BitVec 64} (hi : insV v m l h v' m' l' h' = true) (hx : hasV v m l h x = true) : hasV v' m' l' h' x = true := by
  unfold insV at hi
  unfold hasV at hx ⊢
  simp only [Bool.and_eq_true, decide_eq_true_eq] at hi hx ⊢
  exact ⟨hi.2.1, ins_all hi.2.2.1 _ hx.2.1, by omega, by omega⟩
theorem join_facts {v m l h v' m' l' h' : BitVec 64} (hv : valB v m l h = true) (hw : valB v' m' l' h' = true) :
    normOk (jV v m v' m') (jM v m v' m') (bmin l l') (bmax h h') = true
    ∧ insV v m l h (nV (jV v m v' m') (jM v m v' m') (bmin l l') (bmax h h')) (nM (jM v m v' m') (nLo (jV v m v' m') (jM v m v' m') (bmin l l')) (nHi (jV v m v' m') (jM v m v' m') (bmax h h'))) (nLo (jV v m v' m') (jM v m v' m') (bmin l l')) (nHi (jV v m v' m') (jM v m v' m') (bmax h h')) = true
    ∧ insV v' m' l' h' (nV (jV v m v' m') (jM v m v' m') (bmin l l') (bmax h h')) (nM (jM v m v' m') (nLo (jV v m v' m') (jM v m v' m') (bmin l l')) (nHi (jV v m v' m') (jM v m v' m') (bmax h h'))) (nLo (jV v m v' m') (jM v m v' m') (bmin l l')) (nHi (jV v m v' m') (jM v m v' m') (bmax h h')) = true := by
  have ha := (val_facts hv).1
  have hb := (val_facts hw).1
  have h1 := inside_norm hv (join_rt v m v' m') (join_ins ha hb).1 (bmin_le l l').1 (le_bmax h h').1
  have h2 := inside_norm hw (join_rt v m v' m') (join_ins ha hb).2 (bmin_le l l').2 (le_bmax h h').2
  exact ⟨h1.1, h1.2, h2.2⟩

end Go.Proofs.Ytglollajdjgciaa
