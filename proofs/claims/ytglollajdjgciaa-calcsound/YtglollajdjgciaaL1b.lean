/- BitsTells: what the program and the reference answer, side by side, each pair under one name. -/
import Derived.Test.YtglollajdjgciaaM1
import Derived.Test.YtglollajdjgciaaW2
import Derived.Test.YtglollajdjgciaaW3
import Derived.Test.YtglollajdjgciaaL1a
namespace Go.Proofs.Ytglollajdjgciaa
open Go.RowKit

theorem hid {p : Prop} (h : p) : Hid p := h

theorem both_join {av am bv bm : BitVec 64} (hr : (eqb (band av am) zero && eqb (band bv bm) zero) = true) : ∃ v m,
    Hid (∀ w, Calls Try.prog 13 #[Bt av am, Bt bv bm] w fun e w' => e = .returned (.tuple #[Bt v m, N 0]) ∧ Below w.heap.size w w')
    ∧ Hid (∀ w, Calls Try.prog 18 #[Bt av am, Bt bv bm] w fun e w' => e = .returned (Bt v m) ∧ Below w.heap.size w w') := by
  refine ⟨bandn av (jM av am bv bm), jM av am bv bm, fun w => join_ok hr w, fun w => ?_⟩
  have h := joinBits_any av am bv bm w
  rw [(join_eq hr).1, (join_eq hr).2] at h
  exact h
theorem both_meet {av am bv bm : BitVec 64} (hr : (eqb (band av am) zero && eqb (band bv bm) zero) = true) : ∃ v m i,
    Hid (∀ w, Calls Try.prog 14 #[Bt av am, Bt bv bm] w fun e w' => e = .returned (.tuple #[Bt v m, .bool i, N 0]) ∧ Below w.heap.size w w')
    ∧ Hid (∀ w, Calls Try.prog 19 #[Bt av am, Bt bv bm] w fun e w' => e = .returned (.tuple #[Bt v m, .bool i]) ∧ Below w.heap.size w w') := by
  cases hm : eqb (bandn (bxor av bv) (bor am bm)) zero
  · obtain ⟨j, hj, hno, hok⟩ := meet_ne hm
    exact ⟨zero, zero, false, fun w => meet_no hr hm w, fun w => meetBits_no av am bv bm j hj hno hok w⟩
  · obtain ⟨h1, h2, h3⟩ := meet_eq hr hm
    refine ⟨bor av bv, band am bm, true, fun w => meet_ok hr hm w, fun w => ?_⟩
    have h := meetBits_ok av am bv bm h1 w
    rw [h2, h3] at h
    exact h
theorem both_shift {op n : Int} {v m : BitVec 64} (hr : eqb (band v m) zero = true) (hop : op = 8 ∨ op = 9) (hn : 0 ≤ n ∧ n ≤ 63) : ∃ x y,
    Hid (∀ w, Calls Try.prog 15 #[N op, Bt v m, N n] w fun e w' => e = .returned (.tuple #[Bt x y, N 0]) ∧ Below w.heap.size w w')
    ∧ Hid (∀ w, Calls Try.prog 20 #[N op, Bt v m, N n] w fun e w' => e = .returned (Bt x y) ∧ Below w.heap.size w w') := by
  obtain ⟨k, rfl⟩ := Int.eq_ofNat_of_zero_le hn.1
  have hk : k < 64 := by omega
  rcases hop with rfl | rfl
  · refine ⟨bshl v k, bshl m k, fun w => shift_up hr hk w, fun w => ?_⟩
    have h := shiftBits_any true 8 rfl v m k hk w
    rw [(sh_up_eq hr k).1, (sh_up_eq hr k).2] at h
    exact h
  · refine ⟨bshr v k, bshr m k, fun w => shift_down hr hk w, fun w => ?_⟩
    have h := shiftBits_any false 9 rfl v m k hk w
    rw [(sh_down_eq hr k).1, (sh_down_eq hr k).2] at h
    exact h
theorem both_span {l h : BitVec 64} (hl : nv l ≤ nv h) : ∃ x y,
    Hid (∀ w, Calls Try.prog 16 #[U l, U h] w fun e w' => e = .returned (.tuple #[Bt x y, N 0]) ∧ Below w.heap.size w w')
    ∧ Hid (∀ w, Calls Try.prog 21 #[U l, U h] w fun e w' => e = .returned (Bt x y) ∧ Below w.heap.size w w') := by
  refine ⟨bandn l (sM l h), sM l h, fun w => span_ok hl w, fun w => ?_⟩
  have hh := spanBits_any l h w
  rw [(span_eq l h).1, (span_eq l h).2] at hh
  exact hh
theorem both_inside (av am bv bm : BitVec 64) : ∃ i,
    Hid (∀ w, Calls Try.prog 26 #[Bt av am, Bt bv bm] w fun e w' => e = .returned (.bool i) ∧ Below w.heap.size w w')
    ∧ Hid (∀ w, Calls Try.prog 27 #[Bt av am, Bt bv bm] w fun e w' => e = .returned (.bool i) ∧ Below w.heap.size w w') := by
  refine ⟨insB av am bv bm, fun w => inside_any av am bv bm w, fun w => ?_⟩
  cases hr : (eqb (band av am) zero && eqb (band bv bm) zero)
  · have e : insB av am bv bm = false := by unfold insB; rw [hr]; rfl
    rw [e]; exact insideBits_wrong av am bv bm hr w
  · have hi := inside_eq hr
    rw [Bool.and_eq_true] at hr
    rcases first_no (insOk av am bv bm) 64 with h | ⟨j, hj, hno, hok⟩
    · rw [hi.2 h]; exact insideBits_yes av am bv bm hr.1 hr.2 h w
    · have e : insB av am bv bm = false := by
        cases hx : insB av am bv bm
        · rfl
        · rw [hi.1 hx j hj] at hno; cases hno
      rw [e]; exact insideBits_no av am bv bm hr.1 hr.2 j hj hno hok w
theorem has_h (v m x : BitVec 64) : ∃ i, Hid (∀ w, Calls Try.prog 24 #[Bt v m, U x] w fun e w' => e = .returned (.bool i) ∧ Below w.heap.size w w')
    ∧ Hid (∀ w, Calls Try.prog 25 #[Bt v m, U x] w fun e w' => e = .returned (.bool i) ∧ Below w.heap.size w w') :=
  ⟨_, fun w => has_any v m x w, fun w => bitsHave_any v m x w⟩


/- the same, whatever is handed in -/
theorem all_join (av am bv bm : BitVec 64) (r : Bool) (hr : (eqb (band av am) zero && eqb (band bv bm) zero) = r) : ∃ v m,
    Hid (∀ w, Calls Try.prog 13 #[Bt av am, Bt bv bm] w fun e w' => e = .returned (.tuple #[Bt v m, N (er r)]) ∧ Below w.heap.size w w')
    ∧ Hid (r = true → ∀ w, Calls Try.prog 18 #[Bt av am, Bt bv bm] w fun e w' => e = .returned (Bt v m) ∧ Below w.heap.size w w')
    ∧ Hid (r = false → v = zero ∧ m = zero) := by
  cases r
  · exact ⟨zero, zero, hid (fun w => join_no hr w), hid (fun h => by cases h), hid (fun _ => ⟨rfl, rfl⟩)⟩
  · obtain ⟨v, m, h1, h2⟩ := both_join hr
    exact ⟨v, m, h1, hid (fun _ => h2), hid (fun h => by cases h)⟩
theorem all_meet (av am bv bm : BitVec 64) (r : Bool) (hr : (eqb (band av am) zero && eqb (band bv bm) zero) = r) : ∃ v m i,
    Hid (∀ w, Calls Try.prog 14 #[Bt av am, Bt bv bm] w fun e w' => e = .returned (.tuple #[Bt v m, .bool i, N (er r)]) ∧ Below w.heap.size w w')
    ∧ Hid (r = true → ∀ w, Calls Try.prog 19 #[Bt av am, Bt bv bm] w fun e w' => e = .returned (.tuple #[Bt v m, .bool i]) ∧ Below w.heap.size w w')
    ∧ Hid (r = false → v = zero ∧ m = zero ∧ i = false) := by
  cases r
  · exact ⟨zero, zero, false, hid (fun w => meet_wrong hr w), hid (fun h => by cases h), hid (fun _ => ⟨rfl, rfl, rfl⟩)⟩
  · obtain ⟨v, m, i, h1, h2⟩ := both_meet hr
    exact ⟨v, m, i, h1, hid (fun _ => h2), hid (fun h => by cases h)⟩
theorem all_shift (op n : Int) (v m : BitVec 64) (r : Bool) (hr : eqb (band v m) zero = r) : ∃ x y c,
    Hid (∀ w, Calls Try.prog 15 #[N op, Bt v m, N n] w fun e w' => e = .returned (.tuple #[Bt x y, N c]) ∧ Below w.heap.size w w')
    ∧ ((r = false ∧ c = 1 ∧ x = zero ∧ y = zero) ∨ (r = true ∧ (op ≠ 8 ∧ op ≠ 9) ∧ c = 4 ∧ x = zero ∧ y = zero) ∨ (r = true ∧ (op = 8 ∨ op = 9) ∧ (n < 0 ∨ 63 < n) ∧ c = 3 ∧ x = zero ∧ y = zero)
      ∨ (r = true ∧ (op = 8 ∨ op = 9) ∧ (0 ≤ n ∧ n ≤ 63) ∧ c = 0 ∧ Hid (∀ w, Calls Try.prog 20 #[N op, Bt v m, N n] w fun e w' => e = .returned (Bt x y) ∧ Below w.heap.size w w'))) := by
  cases r
  · exact ⟨zero, zero, 1, fun w => shift_wrong hr w, Or.inl ⟨rfl, rfl, rfl, rfl⟩⟩
  · by_cases hop : op = 8 ∨ op = 9
    · by_cases hn : 0 ≤ n ∧ n ≤ 63
      · obtain ⟨x, y, h1, h2⟩ := both_shift hr hop hn
        exact ⟨x, y, 0, h1, Or.inr (Or.inr (Or.inr ⟨rfl, hop, hn, rfl, h2⟩))⟩
      · have hn' : n < 0 ∨ 63 < n := by omega
        exact ⟨zero, zero, 3, fun w => shift_range hr hop hn' w, Or.inr (Or.inr (Or.inl ⟨rfl, hop, hn', rfl, rfl, rfl⟩))⟩
    · have h8 : op ≠ 8 := fun h => hop (Or.inl h)
      have h9 : op ≠ 9 := fun h => hop (Or.inr h)
      exact ⟨zero, zero, 4, fun w => shift_kind hr (by simpa using h8) (by simpa using h9) w, Or.inr (Or.inl ⟨rfl, ⟨h8, h9⟩, rfl, rfl, rfl⟩)⟩
theorem all_span (l h : BitVec 64) : ∃ x y c,
    Hid (∀ w, Calls Try.prog 16 #[U l, U h] w fun e w' => e = .returned (.tuple #[Bt x y, N c]) ∧ Below w.heap.size w w')
    ∧ ((nv h < nv l ∧ c = 3 ∧ x = zero ∧ y = zero) ∨ (nv l ≤ nv h ∧ c = 0 ∧ Hid (∀ w, Calls Try.prog 21 #[U l, U h] w fun e w' => e = .returned (Bt x y) ∧ Below w.heap.size w w'))) := by
  by_cases hl : nv l ≤ nv h
  · obtain ⟨x, y, h1, h2⟩ := both_span hl
    exact ⟨x, y, 0, h1, Or.inr ⟨hl, rfl, h2⟩⟩
  · have hl' : nv h < nv l := by omega
    exact ⟨zero, zero, 3, fun w => span_no hl' w, Or.inl ⟨hl', rfl, rfl, rfl⟩⟩
theorem er_eq0 (r : Bool) : (er r == 0) = r := by cases r <;> rfl
theorem er_self (r : Bool) : (er r == er r) = true := by simp

end Go.Proofs.Ytglollajdjgciaa
