/- The contracts of the reference's bits and of package bits: what each call hands back, and that nothing old has turned. -/
import Derived.Test.YtglollajdjgciaaProg
import Derived.Test.YtglollajdjgciaaAcc
import Derived.WalkKit
import Derived.WalkSpells
import Derived.WalkLawsBesides
import Derived.Deep.QuietTactic
import Derived.BigQuiet
import Derived.Handy
namespace Go.Proofs.Ytglollajdjgciaa
open Go.RowKit
attribute [local go_sem] w_and w_or w_xor w_andNot w_and1 w_and63 w_add w_sub w_mul w_sub1 w_add1 w_shl w_shl1 w_shr c_beq c_bne c_beq0 c_bne0 c_beq1 c_bne1 wrap_nv

theorem bk {W w1 : World} (B : Nat) (hb : Below W.heap.size W w1) (h : B ≤ W.heap.size) :
    (∀ b o, b < B → w1.cell? ⟨b, o, none⟩ = W.cell? ⟨b, o, none⟩) ∧ (∀ b o, b < B → w1.frozen? ⟨b, o, none⟩ = W.frozen? ⟨b, o, none⟩) ∧ B ≤ w1.heap.size :=
  ⟨fun b o k => hb.cell (p := ⟨b, o, none⟩) (Nat.lt_of_lt_of_le k h), fun b o k => hb.frozen (p := ⟨b, o, none⟩) (Nat.lt_of_lt_of_le k h), Nat.le_trans h hb.size⟩
theorem bl {W w1 : World} {B : Nat} (hb : Below B W w1) :
    (∀ b o, b < B → w1.cell? ⟨b, o, none⟩ = W.cell? ⟨b, o, none⟩) ∧ (∀ b o, b < B → w1.frozen? ⟨b, o, none⟩ = W.frozen? ⟨b, o, none⟩) :=
  ⟨fun b o k => hb.cell (p := ⟨b, o, none⟩) k, fun b o k => hb.frozen (p := ⟨b, o, none⟩) k⟩
theorem set2_0 {w : World} {b : Nat} {u x y : Value} (h : w.cell? ⟨b, 0, none⟩ = some u) : ((w.setCell ⟨b, 0, none⟩ x).setCell ⟨b, 1, none⟩ y).cell? ⟨b, 0, none⟩ = some x := by
  rw [World.cell?_setCell_other _ _ _ _ (by simp), World.cell?_setCell_same _ _ _ h]
theorem set2_1 {w : World} {b : Nat} {u x y : Value} (h : w.cell? ⟨b, 1, none⟩ = some u) : ((w.setCell ⟨b, 0, none⟩ x).setCell ⟨b, 1, none⟩ y).cell? ⟨b, 1, none⟩ = some y := by
  have : (w.setCell ⟨b, 0, none⟩ x).cell? ⟨b, 1, none⟩ = some u := by rw [World.cell?_setCell_other _ _ _ _ (by simp), h]
  rw [World.cell?_setCell_same _ _ _ this]
theorem set2_below {w W : World} {B b : Nat} {x y : Value} (h : Below B w W) (hb : B ≤ b) : Below B w ((W.setCell ⟨b, 0, none⟩ x).setCell ⟨b, 1, none⟩ y) := (h.setCell hb x).setCell hb y

/- three worlds on: a pair that is stored, as the loop's relation wants it -/
theorem out_rel {W wr w3 : World} {B : Nat} {x y x' y' : BitVec 64} (hbel : Below B W wr) (hb : Below wr.heap.size wr w3) (hsz : B + 1 ≤ wr.heap.size)
    {u0 u1 : Value} (h0 : wr.cell? ⟨B, 0, none⟩ = some u0) (h1 : wr.cell? ⟨B, 1, none⟩ = some u1) (hf : ∀ o, wr.frozen? ⟨B, o, none⟩ = false) (ex : x = x') (ey : y = y') :
    Below B W ((w3.setCell ⟨B, 0, none⟩ (.int .u64 (nv x))).setCell ⟨B, 1, none⟩ (.int .u64 (nv y)))
    ∧ ((w3.setCell ⟨B, 0, none⟩ (.int .u64 (nv x))).setCell ⟨B, 1, none⟩ (.int .u64 (nv y))).cell? ⟨B, 0, none⟩ = some (U x')
    ∧ ((w3.setCell ⟨B, 0, none⟩ (.int .u64 (nv x))).setCell ⟨B, 1, none⟩ (.int .u64 (nv y))).cell? ⟨B, 1, none⟩ = some (U y')
    ∧ (∀ o, ((w3.setCell ⟨B, 0, none⟩ (.int .u64 (nv x))).setCell ⟨B, 1, none⟩ (.int .u64 (nv y))).frozen? ⟨B, o, none⟩ = false)
    ∧ B + 1 ≤ ((w3.setCell ⟨B, 0, none⟩ (.int .u64 (nv x))).setCell ⟨B, 1, none⟩ (.int .u64 (nv y))).heap.size := by
  subst ex; subst ey
  obtain ⟨hc, hfr, hs⟩ := bk (B + 1) hb hsz
  refine ⟨set2_below (hbel.trans (hb.mono (by omega))) (Nat.le_refl _), set2_0 ((hc B 0 (by omega)).trans h0), set2_1 ((hc B 1 (by omega)).trans h1), fun o => ?_, ?_⟩
  · simp only [World.frozen?_setCell]; exact (hfr B o (by omega)).trans (hf o)
  · simp only [World.size_setCell]; exact hs

theorem keep_rel {W wr w3 : World} {B : Nat} {x y x' y' : BitVec 64} (hbel : Below B W wr) (hb : Below wr.heap.size wr w3) (hsz : B + 1 ≤ wr.heap.size)
    (h0 : wr.cell? ⟨B, 0, none⟩ = some (U x)) (h1 : wr.cell? ⟨B, 1, none⟩ = some (U y)) (hf : ∀ o, wr.frozen? ⟨B, o, none⟩ = false) (ex : x = x') (ey : y = y') :
    Below B W w3 ∧ w3.cell? ⟨B, 0, none⟩ = some (U x') ∧ w3.cell? ⟨B, 1, none⟩ = some (U y') ∧ (∀ o, w3.frozen? ⟨B, o, none⟩ = false) ∧ B + 1 ≤ w3.heap.size := by
  subst ex; subst ey
  obtain ⟨hc, hfr, hs⟩ := bk (B + 1) hb hsz
  exact ⟨hbel.trans (hb.mono (by omega)), (hc B 0 (by omega)).trans h0, (hc B 1 (by omega)).trans h1, fun o => (hfr B o (by omega)).trans (hf o), hs⟩

set_option maxHeartbeats 400000 in
theorem without_any (x y : BitVec 64) (w : World) :
    Calls Try.prog 70 #[U x, U y] w fun e w' => e = .returned (Bt (bandn x y) y) ∧ Below w.heap.size w w' := by
  go_enter Try.func70, Try.ntmps70
  go_wp2
  exact bodyPost_ret (v := Bt (bandn x y) y) (by simp [results, Try.results70, go_sem]) rfl ⟨rfl, (by repeat (first | exact Below.refl _ _ | assumption | refine below_drewN ?_ _ | refine Below.drew ?_ | refine Below.alloc ?_ (by first | exact Nat.le_refl _ | (simp; done) | (simp; omega) | omega) _ | refine Below.setCell ?_ (by first | exact Nat.le_refl _ | (simp; done) | (simp; omega) | omega) _ | refine Below.trans ?_ (Below.mono (by assumption) (by first | exact Nat.le_refl _ | (simp; done) | (simp; omega) | omega))))⟩

set_option maxHeartbeats 400000 in
theorem up_any (v m : BitVec 64) (i : Nat) (hi : i < 64) (w : World) :
    Calls Try.prog 71 #[Bt v m, .int .u64 i] w fun e w' => e = .returned (Bt (bshl v i) (bshl m i)) ∧ Below w.heap.size w w' := by
  go_enter Try.func71, Try.ntmps71
  go_wp2
  exact bodyPost_ret (v := Bt (bshl v i) (bshl m i)) (by simp [results, Try.results71, go_sem]) rfl ⟨rfl, (by repeat (first | exact Below.refl _ _ | assumption | refine below_drewN ?_ _ | refine Below.drew ?_ | refine Below.alloc ?_ (by first | exact Nat.le_refl _ | (simp; done) | (simp; omega) | omega) _ | refine Below.setCell ?_ (by first | exact Nat.le_refl _ | (simp; done) | (simp; omega) | omega) _ | refine Below.trans ?_ (Below.mono (by assumption) (by first | exact Nat.le_refl _ | (simp; done) | (simp; omega) | omega))))⟩

set_option maxHeartbeats 400000 in
theorem may0 (v m : BitVec 64) (i : Nat) (hi : i < 64) (w : World) :
    Calls Try.prog 73 #[Bt v m, N i] w fun e w' => e = .returned (.tuple #[.bool (!bit v i), .bool (bit v i || bit m i)]) ∧ Below w.heap.size w w' := by
  have h1 := bit_and v i hi
  have h3 := bit_and m i hi
  cases hv : bit v i
  all_goals
    rw [hv] at h1
    clear hv
    go_enter Try.func73, Try.ntmps73
    go_wp2
    go_quiet (fail)
    go_wp2
    go_ret2
    exact ⟨rfl, (by repeat (first | exact Below.refl _ _ | assumption | refine below_drewN ?_ _ | refine Below.drew ?_ | refine Below.alloc ?_ (by first | exact Nat.le_refl _ | (simp; done) | (simp; omega) | omega) _ | refine Below.setCell ?_ (by first | exact Nat.le_refl _ | (simp; done) | (simp; omega) | omega) _ | refine Below.trans ?_ (Below.mono (by assumption) (by first | exact Nat.le_refl _ | (simp; done) | (simp; omega) | omega))))⟩

theorem may_eq (v m : BitVec 64) (i : Nat) : ∃ z o, Hid (z = mz v i) ∧ Hid (o = mo v m i) := ⟨_, _, rfl, rfl⟩
theorem may_any {v m : BitVec 64} {i : Nat} (hi : i < 64) {z o : Bool} (hz : Hid (z = mz v i)) (ho : Hid (o = mo v m i)) (w : World) :
    Calls Try.prog 73 #[Bt v m, N i] w fun e w' => e = .returned (.tuple #[.bool z, .bool o]) ∧ Below w.heap.size w w' := by
  rw [hz.out, ho.out]; exact may0 v m i hi w

set_option maxHeartbeats 400000 in
theorem put_any (v m : BitVec 64) (i : Nat) (hi : i < 64) (z o : Bool) (w : World) :
    Calls Try.prog 74 #[Bt v m, N i, .bool z, .bool o] w fun e w' => e = .returned (Bt (putV v i z o) (putM m i z o)) ∧ Below w.heap.size w w' := by
  cases z <;> cases o
  all_goals
    go_enter Try.func74, Try.ntmps74
    go_wp2
    refine bodyPost_ret (v := _) (by simp [results, Try.results74, go_sem, putV, putM]) rfl ⟨rfl, (by repeat (first | exact Below.refl _ _ | assumption | refine below_drewN ?_ _ | refine Below.drew ?_ | refine Below.alloc ?_ (by first | exact Nat.le_refl _ | (simp; done) | (simp; omega) | omega) _ | refine Below.setCell ?_ (by first | exact Nat.le_refl _ | (simp; done) | (simp; omega) | omega) _ | refine Below.trans ?_ (Below.mono (by assumption) (by first | exact Nat.le_refl _ | (simp; done) | (simp; omega) | omega))))⟩

set_option maxHeartbeats 400000 in
theorem right_any (v m : BitVec 64) (w : World) :
    Calls Try.prog 17 #[Bt v m] w fun e w' => e = .returned (.bool (eqb (band v m) zero)) ∧ Below w.heap.size w w' := by
  go_enter Try.func17, Try.ntmps17
  go_wp2
  go_ret
  exact ⟨rfl, (by repeat (first | exact Below.refl _ _ | assumption | refine below_drewN ?_ _ | refine Below.drew ?_ | refine Below.alloc ?_ (by first | exact Nat.le_refl _ | (simp; done) | (simp; omega) | omega) _ | refine Below.setCell ?_ (by first | exact Nat.le_refl _ | (simp; done) | (simp; omega) | omega) _ | refine Below.trans ?_ (Below.mono (by assumption) (by first | exact Nat.le_refl _ | (simp; done) | (simp; omega) | omega))))⟩
theorem right_is {v m : BitVec 64} {b : Bool} (h : eqb (band v m) zero = b) (w : World) :
    Calls Try.prog 17 #[Bt v m] w fun e w' => e = .returned (.bool b) ∧ Below w.heap.size w w' := h ▸ right_any v m w

set_option maxHeartbeats 400000 in
theorem within_any (n l h : Int) (w : World) :
    Calls Try.prog 75 #[N n, N l, N h] w fun e w' => e = .returned (.bool (decide (l ≤ n ∧ n ≤ h))) ∧ w = w' := by
  by_cases h1 : l ≤ n
  · by_cases h2 : n ≤ h
    all_goals
      go_enter Try.func75, Try.ntmps75
      go_wp2
      go_ret
      refine ⟨?_, rfl⟩
      simp [h1, h2] <;> omega
  · go_enter Try.func75, Try.ntmps75
    go_wp2
    go_ret
    refine ⟨?_, rfl⟩
    simp <;> omega

theorem within_yes {n l h : Int} (hd : l ≤ n ∧ n ≤ h) (w : World) : Calls Try.prog 75 #[N n, N l, N h] w fun e w' => e = .returned (.bool true) ∧ w = w' := by
  have := within_any n l h w
  rwa [decide_eq_true hd] at this
theorem within_no {n l h : Int} (hd : ¬ (l ≤ n ∧ n ≤ h)) (w : World) : Calls Try.prog 75 #[N n, N l, N h] w fun e w' => e = .returned (.bool false) ∧ w = w' := by
  have := within_any n l h w
  rwa [decide_eq_false hd] at this

end Go.Proofs.Ytglollajdjgciaa
