/- The contracts of package bits: mul, Two. -/
import Derived.Test.YtglollajdjgciaaW8
namespace Go.Proofs.Ytglollajdjgciaa
open Go.RowKit
attribute [local go_sem] w_and w_or w_xor w_andNot w_and1 w_and63 w_add w_sub w_mul w_sub1 w_add1 w_shl w_shl1 w_shr c_beq c_bne c_beq0 c_bne0 c_beq1 c_bne1 wrap_nv

def addP (a b : BitVec 64 × BitVec 64) : BitVec 64 × BitVec 64 := (bandn (badd a.1 b.1) (addM a.1 a.2 b.1 b.2), addM a.1 a.2 b.1 b.2)
def mulS (av am bv bm : BitVec 64) : Nat → BitVec 64 × BitVec 64
  | 0 => (zero, zero)
  | k + 1 => if bit av k then addP (mulS av am bv bm k) (bshl bv k, bshl bm k)
    else if bit am k then addP (mulS av am bv bm k) (zero, bor (bshl bv k) (bshl bm k)) else mulS av am bv bm k

set_option maxHeartbeats 1000000 in
theorem mul_any (av am bv bm : BitVec 64) (w : World) :
    Calls Try.prog 78 #[Bt av am, Bt bv bm] w fun e w' => e = .returned (Bt (mulS av am bv bm 64).1 (mulS av am bv bm 64).2) ∧ Below w.heap.size w w' := by
  go_enter Try.func78, Try.ntmps78
  go_wp2
  go_loopw [6] (fun i wr => ∃ k : Nat, k ≤ 64 ∧ i = .int .u64 k
      ∧ Below (w.heap.size + 1 + 1 + 1) (((w.alloc (.cells #[U av, U am] 24)).alloc (.cells #[U bv, U bm] 24)).alloc (.cells #[.int .u64 0, .int .u64 0] 24)) wr
      ∧ wr.cell? ⟨w.heap.size + 1 + 1 + 1, 0, none⟩ = some (U (mulS av am bv bm k).1) ∧ wr.cell? ⟨w.heap.size + 1 + 1 + 1, 1, none⟩ = some (U (mulS av am bv bm k).2)
      ∧ (∀ o, wr.frozen? ⟨w.heap.size + 1 + 1 + 1, o, none⟩ = false)
      ∧ w.heap.size + 1 + 1 + 1 + 1 ≤ wr.heap.size) (fun i _ => 64 - (intOf i).toNat)
  case atStart =>
    exact ⟨0, by omega, rfl, (by repeat (first | exact Below.refl _ _ | assumption | refine below_drewN ?_ _ | refine Below.drew ?_ | refine Below.alloc ?_ (by first | exact Nat.le_refl _ | (simp; done) | (simp; omega) | omega) _ | refine Below.setCell ?_ (by first | exact Nat.le_refl _ | (simp; done) | (simp; omega) | omega) _ | refine Below.trans ?_ (Below.mono (by assumption) (by first | exact Nat.le_refl _ | (simp; done) | (simp; omega) | omega)))), by simp [mulS, nv_zero, go_sem], by simp [mulS, nv_zero, go_sem], by simp [go_sem], by simp⟩
  case round =>
    obtain ⟨k, hk, rfl, hbel, ho0, ho1, hfo, hsz⟩ := hrel
    obtain ⟨hc, hf⟩ := bl hbel
    by_cases hlt : k < 64
    · have hA := shr_and1 av k
      have hM := shr_and1 am k
      have Hs : Hid (mulS av am bv bm (k + 1) = if bit av k then addP (mulS av am bv bm k) (bshl bv k, bshl bm k)
        else if bit am k then addP (mulS av am bv bm k) (zero, bor (bshl bv k) (bshl bm k)) else mulS av am bv bm k) := rfl
      generalize mulS av am bv bm k = S at ho0 ho1 Hs
      obtain ⟨sv, sm⟩ := S
      simp only at ho0 ho1
      obtain ⟨bA, hbA⟩ : ∃ b, b = bit av k := ⟨_, rfl⟩
      obtain ⟨bM, hbM⟩ : ∃ b, b = bit am k := ⟨_, rfl⟩
      rw [← hbA] at hA Hs
      rw [← hbM] at hM Hs
      clear hbA hbM
      go_wp2_with fail
      refine (up_any _ _ k hlt _).mono ?_
      rintro e w1 ⟨rfl, hb1⟩
      obtain ⟨hc1, hf1, hs1⟩ := bk _ hb1 hsz
      have hlt1 : w.heap.size + 1 + 1 + 1 < w1.heap.size := by omega
      have hlt2 : w.heap.size + 1 + 1 < w1.heap.size := by omega
      have hlt3 : w.heap.size + 1 < w1.heap.size := by omega
      have hlt4 : w.heap.size < w1.heap.size := by omega
      cases bA
      · cases bM
        · go_wp2_with fail
          exact ⟨⟨k + 1, by omega, by go_num, keep_rel hbel (hb1.trans (((Below.refl _ _).alloc (Nat.le_refl _) _).mono hb1.size)) hsz ho0 ho1 hfo (by rw [Hs.out]; rfl) (by rw [Hs.out]; rfl)⟩, by simp [intOf]; omega⟩
        · go_wp2_with fail
          refine (add_any sv sm zero (bor (bshl bv k) (bshl bm k)) _).mono ?_
          rintro e w2 ⟨rfl, hb2⟩
          obtain ⟨hc2, hf2, hs2⟩ := bk (w.heap.size + 1 + 1 + 1 + 1) hb2 (by simp; omega)
          go_wp2_with fail
          exact ⟨⟨k + 1, by omega, by go_num, out_rel hbel (hb1.trans ((((Below.refl _ _).alloc (Nat.le_refl _) _).trans (hb2.mono (by simp))).mono hb1.size)) hsz ho0 ho1 hfo (by rw [Hs.out]; rfl) (by rw [Hs.out]; rfl)⟩, by simp [intOf]; omega⟩
      · go_wp2_with fail
        refine (add_any _ _ _ _ _).mono ?_
        rintro e w2 ⟨rfl, hb2⟩
        obtain ⟨hc2, hf2, hs2⟩ := bk (w.heap.size + 1 + 1 + 1 + 1) hb2 (by simp; omega)
        go_wp2_with fail
        exact ⟨⟨k + 1, by omega, by go_num, out_rel hbel (hb1.trans ((((Below.refl _ _).alloc (Nat.le_refl _) _).trans (hb2.mono (by simp))).mono hb1.size)) hsz ho0 ho1 hfo (by rw [Hs.out]; rfl) (by rw [Hs.out]; rfl)⟩, by simp [intOf]; omega⟩
    · have hk64 : k = 64 := by omega
      subst hk64
      go_wp2_with fail
      exact bodyPost_ret (v := Bt (mulS av am bv bm 64).1 (mulS av am bv bm 64).2) (by simp [results, Try.results78, go_sem, hc]) rfl ⟨rfl, (by repeat (first | exact Below.refl _ _ | assumption | refine below_drewN ?_ _ | refine Below.drew ?_ | refine Below.alloc ?_ (by first | exact Nat.le_refl _ | (simp; done) | (simp; omega) | omega) _ | refine Below.setCell ?_ (by first | exact Nat.le_refl _ | (simp; done) | (simp; omega) | omega) _ | refine Below.trans ?_ (Below.mono (by assumption) (by first | exact Nat.le_refl _ | (simp; done) | (simp; omega) | omega))))⟩

set_option maxHeartbeats 400000 in
theorem two_wrong {op : Int} {av am bv bm : BitVec 64} (hr : Hid ((eqb (band av am) zero && eqb (band bv bm) zero) = false)) (w : World) :
    Calls Try.prog 28 #[N op, Bt av am, Bt bv bm] w fun e w' => e = .returned (.tuple #[Bt zero zero, N 1]) ∧ Below w.heap.size w w' := by
  go_enter Try.func28, Try.ntmps28
  go_wp2_with fail
  refine (check2_is hr (by simp) (by simp [go_sem]) (by simp [go_sem]) (by simp [go_sem]) (by simp [go_sem])).mono ?_
  rintro e w1 ⟨rfl, hb1⟩
  obtain ⟨hc1, hf1, hs1⟩ := bk (w.heap.size + 1 + 1 + 1) hb1 (by simp)
  first | rw [er_t] | rw [er_f]
  go_wp2_with fail
  exact bodyPost_ret (v := .tuple #[Bt zero zero, N 1]) (by simp [results, Try.results28, go_sem, hc1, nv_zero]) rfl ⟨rfl, (by repeat (first | exact Below.refl _ _ | assumption | refine below_drewN ?_ _ | refine Below.drew ?_ | refine Below.alloc ?_ (by first | exact Nat.le_refl _ | (simp; done) | (simp; omega) | omega) _ | refine Below.setCell ?_ (by first | exact Nat.le_refl _ | (simp; done) | (simp; omega) | omega) _ | refine Below.trans ?_ (Below.mono (by assumption) (by first | exact Nat.le_refl _ | (simp; done) | (simp; omega) | omega))))⟩
set_option maxHeartbeats 400000 in
theorem two_kind {op : Int} {av am bv bm : BitVec 64} (hr : Hid ((eqb (band av am) zero && eqb (band bv bm) zero) = true)) (hop : op < 2 ∨ 7 < op) (w : World) :
    Calls Try.prog 28 #[N op, Bt av am, Bt bv bm] w fun e w' => e = .returned (.tuple #[Bt zero zero, N 4]) ∧ Below w.heap.size w w' := by
  have e2 : (op == 2) = false := by simp; omega
  have e3 : (op == 3) = false := by simp; omega
  have e4 : (op == 4) = false := by simp; omega
  have e5 : (op == 5) = false := by simp; omega
  have e6 : (op == 6) = false := by simp; omega
  have e7 : (op == 7) = false := by simp; omega
  clear hop
  go_enter Try.func28, Try.ntmps28
  go_wp2_with fail
  refine (check2_is hr (by simp) (by simp [go_sem]) (by simp [go_sem]) (by simp [go_sem]) (by simp [go_sem])).mono ?_
  rintro e w1 ⟨rfl, hb1⟩
  obtain ⟨hc1, hf1, hs1⟩ := bk (w.heap.size + 1 + 1 + 1) hb1 (by simp)
  first | rw [er_t] | rw [er_f]
  go_wp2_with fail
  exact bodyPost_ret (v := .tuple #[Bt zero zero, N 4]) (by simp [results, Try.results28, go_sem, hc1, nv_zero]) rfl ⟨rfl, (by repeat (first | exact Below.refl _ _ | assumption | refine below_drewN ?_ _ | refine Below.drew ?_ | refine Below.alloc ?_ (by first | exact Nat.le_refl _ | (simp; done) | (simp; omega) | omega) _ | refine Below.setCell ?_ (by first | exact Nat.le_refl _ | (simp; done) | (simp; omega) | omega) _ | refine Below.trans ?_ (Below.mono (by assumption) (by first | exact Nat.le_refl _ | (simp; done) | (simp; omega) | omega))))⟩
/- what package bits reckons of two pairs -/
def twoP (op : Int) (av am bv bm : BitVec 64) : BitVec 64 × BitVec 64 :=
  if op = 2 then (bandn (badd av bv) (addM av am bv bm), addM av am bv bm)
  else if op = 3 then (bandn (bsub av bv) (subM av am bv bm), subM av am bv bm)
  else if op = 4 then mulS av am bv bm 64
  else if op = 5 then (band av bv, bandn (band (bor av am) (bor bv bm)) (band av bv))
  else if op = 6 then (bor av bv, bandn (bor am bm) (bor av bv))
  else (bandn (bxor av bv) (bor am bm), bor am bm)
theorem op_cases {op : Int} (h : 2 ≤ op ∧ op ≤ 7) : op = 2 ∨ op = 3 ∨ op = 4 ∨ op = 5 ∨ op = 6 ∨ op = 7 := by omega
set_option maxHeartbeats 400000 in
theorem two_ok {op : Int} {av am bv bm : BitVec 64} (hr : Hid ((eqb (band av am) zero && eqb (band bv bm) zero) = true)) (hop : 2 ≤ op ∧ op ≤ 7) (w : World) :
    Calls Try.prog 28 #[N op, Bt av am, Bt bv bm] w fun e w' => e = .returned (.tuple #[Bt (twoP op av am bv bm).1 (twoP op av am bv bm).2, N 0]) ∧ Below w.heap.size w w' := by
  rcases op_cases hop with rfl | rfl | rfl | rfl | rfl | rfl
  all_goals
    clear hop
    go_enter Try.func28, Try.ntmps28
    go_wp2_with fail
    refine (check2_is hr (by simp) (by simp [go_sem]) (by simp [go_sem]) (by simp [go_sem]) (by simp [go_sem])).mono ?_
    rintro e w1 ⟨rfl, hb1⟩
    obtain ⟨hc1, hf1, hs1⟩ := bk (w.heap.size + 1 + 1 + 1) hb1 (by simp)
    first | rw [er_t] | rw [er_f]
    go_wp2_with fail
    first
      | refine (add_any _ _ _ _ _).mono ?_
      | refine (sub_any _ _ _ _ _).mono ?_
      | refine (mul_any _ _ _ _ _).mono ?_
      | refine (and_any _ _ _ _ _).mono ?_
      | refine (or_any _ _ _ _ _).mono ?_
      | refine (without_any _ _ _).mono ?_
    rintro e w2 ⟨rfl, hb2⟩
    obtain ⟨hc2, hf2, hs2⟩ := bk (w.heap.size + 1 + 1 + 1) hb2 hs1
    go_wp2_with fail
    exact bodyPost_ret (v := .tuple #[Bt (twoP _ av am bv bm).1 (twoP _ av am bv bm).2, N 0]) (by simp [results, Try.results28, go_sem, hc1, hc2, twoP]) rfl ⟨rfl, (by repeat (first | exact Below.refl _ _ | assumption | refine below_drewN ?_ _ | refine Below.drew ?_ | refine Below.alloc ?_ (by first | exact Nat.le_refl _ | (simp; done) | (simp; omega) | omega) _ | refine Below.setCell ?_ (by first | exact Nat.le_refl _ | (simp; done) | (simp; omega) | omega) _ | refine Below.trans ?_ (Below.mono (by assumption) (by first | exact Nat.le_refl _ | (simp; done) | (simp; omega) | omega))))⟩

end Go.Proofs.Ytglollajdjgciaa
