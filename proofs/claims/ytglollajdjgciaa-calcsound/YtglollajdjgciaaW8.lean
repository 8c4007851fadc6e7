/- The contracts of package bits: Span, add, sub, and, or, mul, Two. -/
import Derived.Test.YtglollajdjgciaaW5
import Derived.Test.YtglollajdjgciaaW7
namespace Go.Proofs.Ytglollajdjgciaa
open Go.RowKit
attribute [local go_sem] w_and w_or w_xor w_andNot w_and1 w_and63 w_add w_sub w_mul w_sub1 w_add1 w_shl w_shl1 w_shr c_beq c_bne c_beq0 c_bne0 c_beq1 c_bne1 wrap_nv

def blen (x : BitVec 64) : Nat := Lib.bitLen (nv x).toNat
def lowMask (n : Nat) : BitVec 64 := bsub (bshl one n) one
theorem blen_le (x : BitVec 64) : blen x ≤ 64 := by
  unfold blen nv
  have := x.isLt
  exact Lib.bitLen_le _ 64 (Nat.le_refl _) (by rw [Int.toNat_natCast]; exact this)
theorem len_u (x : BitVec 64) (w : World) : Calls Try.prog 72 #[U x] w fun e w' => e = .returned (N (blen x)) ∧ w = w' :=
  len64_any (nv x) w (nv_nonneg x) (by have := nv_lt x; omega)

set_option maxHeartbeats 400000 in
theorem span_no {l h : BitVec 64} (hl : nv h < nv l) (w : World) :
    Calls Try.prog 16 #[U l, U h] w fun e w' => e = .returned (.tuple #[Bt zero zero, N 3]) ∧ Below w.heap.size w w' := by
  go_enter Try.func16, Try.ntmps16
  go_wp2_with fail
  exact bodyPost_ret (v := .tuple #[Bt zero zero, N 3]) (by simp [results, Try.results16, go_sem, nv_zero]) rfl ⟨rfl, (by repeat (first | exact Below.refl _ _ | assumption | refine below_drewN ?_ _ | refine Below.drew ?_ | refine Below.alloc ?_ (by first | exact Nat.le_refl _ | (simp; done) | (simp; omega) | omega) _ | refine Below.setCell ?_ (by first | exact Nat.le_refl _ | (simp; done) | (simp; omega) | omega) _ | refine Below.trans ?_ (Below.mono (by assumption) (by first | exact Nat.le_refl _ | (simp; done) | (simp; omega) | omega))))⟩
def sM (l h : BitVec 64) : BitVec 64 := lowMask (blen (bxor l h))
set_option maxHeartbeats 400000 in
theorem span_ok {l h : BitVec 64} (hl : nv l ≤ nv h) (w : World) :
    Calls Try.prog 16 #[U l, U h] w fun e w' => e = .returned (.tuple #[Bt (bandn l (sM l h)) (sM l h), N 0]) ∧ Below w.heap.size w w' := by
  have hL := blen_le (bxor l h)
  have Hs : Hid (sM l h = lowMask (blen (bxor l h))) := rfl
  have hc := len_u (bxor l h)
  have Hc : Hid _ := hc
  clear hc
  generalize hx : blen (bxor l h) = L at hL Hs Hc
  clear hx
  go_enter Try.func16, Try.ntmps16
  go_wp2_with fail
  refine (Hc.out _).mono ?_
  rintro e w1 ⟨rfl, rfl⟩
  go_wp2_with fail
  refine (without_any _ _ _).mono ?_
  rintro e w2 ⟨rfl, hb2⟩
  obtain ⟨hc2, hf2, hs2⟩ := bk (w.heap.size + 1) hb2 (by simp)
  go_wp2_with fail
  rw [Hs.out]
  exact bodyPost_ret (v := .tuple #[Bt (bandn l (lowMask L)) (lowMask L), N 0]) (by simp [results, Try.results16, go_sem, hc2, lowMask]) rfl ⟨rfl, (by repeat (first | exact Below.refl _ _ | assumption | refine below_drewN ?_ _ | refine Below.drew ?_ | refine Below.alloc ?_ (by first | exact Nat.le_refl _ | (simp; done) | (simp; omega) | omega) _ | refine Below.setCell ?_ (by first | exact Nat.le_refl _ | (simp; done) | (simp; omega) | omega) _ | refine Below.trans ?_ (Below.mono (by assumption) (by first | exact Nat.le_refl _ | (simp; done) | (simp; omega) | omega))))⟩

/- add, sub, and, or -/
def addM (av am bv bm : BitVec 64) : BitVec 64 := bor (bor (bxor (badd av bv) (badd (badd (badd av bv) am) bm)) am) bm
set_option maxHeartbeats 400000 in
theorem add_any (av am bv bm : BitVec 64) (w : World) :
    Calls Try.prog 76 #[Bt av am, Bt bv bm] w fun e w' => e = .returned (Bt (bandn (badd av bv) (addM av am bv bm)) (addM av am bv bm)) ∧ Below w.heap.size w w' := by
  go_enter Try.func76, Try.ntmps76
  go_wp2_with fail
  refine (without_any _ _ _).mono ?_
  rintro e w2 ⟨rfl, hb2⟩
  obtain ⟨hc2, hf2, hs2⟩ := bk (w.heap.size + 1 + 1 + 1) hb2 (by simp)
  go_wp2_with fail
  exact bodyPost_ret (v := Bt (bandn (badd av bv) (addM av am bv bm)) (addM av am bv bm)) (by simp [results, Try.results76, go_sem, hc2, addM]) rfl ⟨rfl, (by repeat (first | exact Below.refl _ _ | assumption | refine below_drewN ?_ _ | refine Below.drew ?_ | refine Below.alloc ?_ (by first | exact Nat.le_refl _ | (simp; done) | (simp; omega) | omega) _ | refine Below.setCell ?_ (by first | exact Nat.le_refl _ | (simp; done) | (simp; omega) | omega) _ | refine Below.trans ?_ (Below.mono (by assumption) (by first | exact Nat.le_refl _ | (simp; done) | (simp; omega) | omega))))⟩
def subM (av am bv bm : BitVec 64) : BitVec 64 := bor (bor (bxor (badd (bsub av bv) am) (bsub (bsub av bv) bm)) am) bm
set_option maxHeartbeats 400000 in
theorem sub_any (av am bv bm : BitVec 64) (w : World) :
    Calls Try.prog 77 #[Bt av am, Bt bv bm] w fun e w' => e = .returned (Bt (bandn (bsub av bv) (subM av am bv bm)) (subM av am bv bm)) ∧ Below w.heap.size w w' := by
  go_enter Try.func77, Try.ntmps77
  go_wp2_with fail
  refine (without_any _ _ _).mono ?_
  rintro e w2 ⟨rfl, hb2⟩
  obtain ⟨hc2, hf2, hs2⟩ := bk (w.heap.size + 1 + 1 + 1) hb2 (by simp)
  go_wp2_with fail
  exact bodyPost_ret (v := Bt (bandn (bsub av bv) (subM av am bv bm)) (subM av am bv bm)) (by simp [results, Try.results77, go_sem, hc2, subM]) rfl ⟨rfl, (by repeat (first | exact Below.refl _ _ | assumption | refine below_drewN ?_ _ | refine Below.drew ?_ | refine Below.alloc ?_ (by first | exact Nat.le_refl _ | (simp; done) | (simp; omega) | omega) _ | refine Below.setCell ?_ (by first | exact Nat.le_refl _ | (simp; done) | (simp; omega) | omega) _ | refine Below.trans ?_ (Below.mono (by assumption) (by first | exact Nat.le_refl _ | (simp; done) | (simp; omega) | omega))))⟩
set_option maxHeartbeats 400000 in
theorem and_any (av am bv bm : BitVec 64) (w : World) :
    Calls Try.prog 79 #[Bt av am, Bt bv bm] w fun e w' => e = .returned (Bt (band av bv) (bandn (band (bor av am) (bor bv bm)) (band av bv))) ∧ Below w.heap.size w w' := by
  go_enter Try.func79, Try.ntmps79
  go_wp2
  exact bodyPost_ret (v := Bt (band av bv) (bandn (band (bor av am) (bor bv bm)) (band av bv))) (by simp [results, Try.results79, go_sem]) rfl ⟨rfl, (by repeat (first | exact Below.refl _ _ | assumption | refine below_drewN ?_ _ | refine Below.drew ?_ | refine Below.alloc ?_ (by first | exact Nat.le_refl _ | (simp; done) | (simp; omega) | omega) _ | refine Below.setCell ?_ (by first | exact Nat.le_refl _ | (simp; done) | (simp; omega) | omega) _ | refine Below.trans ?_ (Below.mono (by assumption) (by first | exact Nat.le_refl _ | (simp; done) | (simp; omega) | omega))))⟩
set_option maxHeartbeats 400000 in
theorem or_any (av am bv bm : BitVec 64) (w : World) :
    Calls Try.prog 80 #[Bt av am, Bt bv bm] w fun e w' => e = .returned (Bt (bor av bv) (bandn (bor am bm) (bor av bv))) ∧ Below w.heap.size w w' := by
  go_enter Try.func80, Try.ntmps80
  go_wp2
  exact bodyPost_ret (v := Bt (bor av bv) (bandn (bor am bm) (bor av bv))) (by simp [results, Try.results80, go_sem]) rfl ⟨rfl, (by repeat (first | exact Below.refl _ _ | assumption | refine below_drewN ?_ _ | refine Below.drew ?_ | refine Below.alloc ?_ (by first | exact Nat.le_refl _ | (simp; done) | (simp; omega) | omega) _ | refine Below.setCell ?_ (by first | exact Nat.le_refl _ | (simp; done) | (simp; omega) | omega) _ | refine Below.trans ?_ (Below.mono (by assumption) (by first | exact Nat.le_refl _ | (simp; done) | (simp; omega) | omega))))⟩

end Go.Proofs.Ytglollajdjgciaa
