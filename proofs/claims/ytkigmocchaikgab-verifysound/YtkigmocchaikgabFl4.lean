import Derived.Test.YtkigmocchaikgabFl3
import Derived.Laws.MathBits
import Derived.Laws.StructEq
import Derived.Deep.RegionWith
import Derived.Deep.CutBlock
import Derived.Deep.DeepCutAuto
import Derived.Test.YtkigmocchaikgabFl1
import Derived.Test.YtkigmocchaikgabFl2
import Derived.Test.YtkigmocchaikgabProg
/- The contracts of the reference's loops over the 64 bits. -/
namespace Go.Proofs.Ytkigmocchaikgab
open Go.RowKit
attribute [local go_sem] w_and w_or w_xor w_andNot w_and1 w_and63 w_add w_sub w_mul w_sub1 w_add1 w_shl w_shl1 w_shr c_beq c_bne c_beq0 c_bne0 c_beq1 c_bne1 wrap_nv

set_option maxHeartbeats 400000 in
theorem joinBits_any (av am bv bm : BitVec 64) (w : World) :
    Calls Try.prog 68 #[Bt av am, Bt bv bm] w fun e w' => e = .returned (Bt (joinV av am bv bm 64) (joinM av am bv bm 64)) ∧ Below w.heap.size w w' := by
  go_enter Try.func68, Try.ntmps68
  go_wp2
  go_loopw [6] (fun i wr => ∃ k : Nat, k ≤ 64 ∧ i = N k
      ∧ Below (w.heap.size + 1 + 1 + 1) (((w.alloc (.cells #[U av, U am] 39)).alloc (.cells #[U bv, U bm] 39)).alloc (.cells #[.int .u64 0, .int .u64 0] 39)) wr
      ∧ wr.cell? ⟨w.heap.size + 1 + 1 + 1, 0, none⟩ = some (U (joinV av am bv bm k)) ∧ wr.cell? ⟨w.heap.size + 1 + 1 + 1, 1, none⟩ = some (U (joinM av am bv bm k))
      ∧ (∀ o, wr.frozen? ⟨w.heap.size + 1 + 1 + 1, o, none⟩ = false)
      ∧ w.heap.size + 1 + 1 + 1 + 1 ≤ wr.heap.size) (fun i _ => 64 - (intOf i).toNat)
  case atStart =>
    exact ⟨0, by omega, rfl, (by repeat (first | exact Below.refl _ _ | assumption | refine below_drewN ?_ _ | refine Below.drew ?_ | refine Below.alloc ?_ (by first | exact Nat.le_refl _ | (simp; done) | (simp; omega) | omega) _ | refine Below.setCell ?_ (by first | exact Nat.le_refl _ | (simp; done) | (simp; omega) | omega) _ | refine Below.trans ?_ (Below.mono (by assumption) (by first | exact Nat.le_refl _ | (simp; done) | (simp; omega) | omega)))), by simp [joinV, acc, nv_zero, go_sem], by simp [joinM, acc, nv_zero, go_sem], by simp [go_sem], by simp⟩
  case round =>
    obtain ⟨k, hk, rfl, hbel, ho0, ho1, hfo, hsz⟩ := hrel
    obtain ⟨hc, hf⟩ := bl hbel
    by_cases hlt : k < 64
    · obtain ⟨z1, o1, H1, H2⟩ := may_eq av am k
      obtain ⟨z2, o2, H3, H4⟩ := may_eq bv bm k
      go_wp2_with fail
      refine (may_any hlt H1 H2 _).mono ?_
      rintro e w1 ⟨rfl, hb1⟩
      obtain ⟨hc1, hf1, hs1⟩ := bk _ hb1 hsz
      go_wp2_with fail
      refine (may_any hlt H3 H4 _).mono ?_
      rintro e w2 ⟨rfl, hb2⟩
      obtain ⟨hc2, hf2, hs2⟩ := bk _ hb2 hs1
      cases z1 <;> cases o1
      all_goals
        go_wp2_with fail
        refine (put_any _ _ k hlt _ _ _).mono ?_
        rintro e w3 ⟨rfl, hb3⟩
        obtain ⟨hc3, hf3, hs3⟩ := bk _ hb3 hs2
        go_wp2_with fail
        exact ⟨⟨k + 1, by omega, by go_num, out_rel hbel ((hb1.trans (hb2.mono hb1.size)).trans (hb3.mono (Nat.le_trans hb1.size hb2.size))) hsz ho0 ho1 hfo
          (by rw [← joinV_succ, ← H1.out, ← H2.out, ← H3.out, ← H4.out]; rfl) (by rw [← joinM_succ, ← H1.out, ← H2.out, ← H3.out, ← H4.out]; rfl)⟩, by simp [intOf]; omega⟩
    · have hk64 : k = 64 := by omega
      subst hk64
      go_wp2_with fail
      exact bodyPost_ret (v := Bt (joinV av am bv bm 64) (joinM av am bv bm 64)) (by simp [results, Try.results68, go_sem, hc]) rfl ⟨rfl, (by repeat (first | exact Below.refl _ _ | assumption | refine below_drewN ?_ _ | refine Below.drew ?_ | refine Below.alloc ?_ (by first | exact Nat.le_refl _ | (simp; done) | (simp; omega) | omega) _ | refine Below.setCell ?_ (by first | exact Nat.le_refl _ | (simp; done) | (simp; omega) | omega) _ | refine Below.trans ?_ (Below.mono (by assumption) (by first | exact Nat.le_refl _ | (simp; done) | (simp; omega) | omega))))⟩

set_option maxHeartbeats 600000 in
theorem meetBits_ok (av am bv bm : BitVec 64) (hok : Hid (∀ j, j < 64 → meetOk av am bv bm j = true)) (w : World) :
    Calls Try.prog 105 #[Bt av am, Bt bv bm] w fun e w' => e = .returned (.tuple #[Bt (meetV av am bv bm 64) (meetM av am bv bm 64), .bool true]) ∧ Below w.heap.size w w' := by
  go_enter Try.func105, Try.ntmps105
  go_wp2
  go_loopw [7] (fun i wr => ∃ k : Nat, k ≤ 64 ∧ i = N k
      ∧ Below (w.heap.size + 1 + 1 + 1) (((w.alloc (.cells #[U av, U am] 39)).alloc (.cells #[U bv, U bm] 39)).alloc (.cells #[.int .u64 0, .int .u64 0] 39)) wr
      ∧ wr.cell? ⟨w.heap.size + 1 + 1 + 1, 0, none⟩ = some (U (meetV av am bv bm k)) ∧ wr.cell? ⟨w.heap.size + 1 + 1 + 1, 1, none⟩ = some (U (meetM av am bv bm k))
      ∧ (∀ o, wr.frozen? ⟨w.heap.size + 1 + 1 + 1, o, none⟩ = false)
      ∧ w.heap.size + 1 + 1 + 1 + 1 ≤ wr.heap.size) (fun i _ => 64 - (intOf i).toNat)
  case atStart =>
    exact ⟨0, by omega, rfl, (by repeat (first | exact Below.refl _ _ | assumption | refine below_drewN ?_ _ | refine Below.drew ?_ | refine Below.alloc ?_ (by first | exact Nat.le_refl _ | (simp; done) | (simp; omega) | omega) _ | refine Below.setCell ?_ (by first | exact Nat.le_refl _ | (simp; done) | (simp; omega) | omega) _ | refine Below.trans ?_ (Below.mono (by assumption) (by first | exact Nat.le_refl _ | (simp; done) | (simp; omega) | omega)))), by simp [meetV, acc, nv_zero, go_sem], by simp [meetM, acc, nv_zero, go_sem], by simp [go_sem], by simp⟩
  case round =>
    obtain ⟨k, hk, rfl, hbel, ho0, ho1, hfo, hsz⟩ := hrel
    obtain ⟨hc, hf⟩ := bl hbel
    by_cases hlt : k < 64
    · obtain ⟨z1, o1, H1, H2⟩ := may_eq av am k
      obtain ⟨z2, o2, H3, H4⟩ := may_eq bv bm k
      have Hok : Hid (((z1 && z2) || (o1 && o2)) = true) := by rw [H1.out, H2.out, H3.out, H4.out]; exact hok.out k hlt
      go_wp2_with fail
      refine (may_any hlt H1 H2 _).mono ?_
      rintro e w1 ⟨rfl, hb1⟩
      obtain ⟨hc1, hf1, hs1⟩ := bk _ hb1 hsz
      go_wp2_with fail
      refine (may_any hlt H3 H4 _).mono ?_
      rintro e w2 ⟨rfl, hb2⟩
      obtain ⟨hc2, hf2, hs2⟩ := bk _ hb2 hs1
      cases z1 <;> cases o1 <;> cases z2 <;> cases o2 <;> first
        | exact absurd Hok.out (by decide)
        | (clear Hok
           go_wp2_with fail
           refine (put_any _ _ k hlt _ _ _).mono ?_
           rintro e w3 ⟨rfl, hb3⟩
           obtain ⟨hc3, hf3, hs3⟩ := bk _ hb3 hs2
           go_wp2_with fail
           exact ⟨⟨k + 1, by omega, by go_num, out_rel hbel ((hb1.trans (hb2.mono hb1.size)).trans (hb3.mono (Nat.le_trans hb1.size hb2.size))) hsz ho0 ho1 hfo
             (by rw [← meetV_succ, ← H1.out, ← H2.out, ← H3.out, ← H4.out]; rfl) (by rw [← meetM_succ, ← H1.out, ← H2.out, ← H3.out, ← H4.out]; rfl)⟩, by simp [intOf]; omega⟩)
    · have hk64 : k = 64 := by omega
      subst hk64
      go_wp2_with fail
      exact bodyPost_ret (v := .tuple #[Bt (meetV av am bv bm 64) (meetM av am bv bm 64), .bool true]) (by simp [results, Try.results105, go_sem, hc]) rfl ⟨rfl, (by repeat (first | exact Below.refl _ _ | assumption | refine below_drewN ?_ _ | refine Below.drew ?_ | refine Below.alloc ?_ (by first | exact Nat.le_refl _ | (simp; done) | (simp; omega) | omega) _ | refine Below.setCell ?_ (by first | exact Nat.le_refl _ | (simp; done) | (simp; omega) | omega) _ | refine Below.trans ?_ (Below.mono (by assumption) (by first | exact Nat.le_refl _ | (simp; done) | (simp; omega) | omega))))⟩

end Go.Proofs.Ytkigmocchaikgab

/- The contracts of the reference's ShiftBits, SpanBits, InsideBits, BitsHave. -/
namespace Go.Proofs.Ytkigmocchaikgab
open Go.RowKit
attribute [local go_sem] w_and w_or w_xor w_andNot w_and1 w_and63 w_add w_sub w_mul w_sub1 w_add1 w_shl w_shl1 w_shr c_beq c_bne c_beq0 c_bne0 c_beq1 c_bne1 wrap_nv

/- a round of ShiftBits: the source lies within, or it doesn't -/
/- SpanBits: from the highest bit down -/
set_option maxHeartbeats 600000 in
theorem spanBits_any (l h : BitVec 64) (w : World) :
    Calls Try.prog 106 #[U l, U h] w fun e w' => e = .returned (Bt (spanV l h 64) (spanM l h 64)) ∧ Below w.heap.size w w' := by
  go_enter Try.func106, Try.ntmps106
  go_wp2
  go_loopw [6, 7] (fun s i wr => ∃ (c : Nat) (t : Int), c ≤ 64 ∧ s = .bool (sameB l h c) ∧ i = N t ∧ t = 63 - c
      ∧ Below (w.heap.size + 1) (w.alloc (.cells #[.int .u64 0, .int .u64 0] 39)) wr
      ∧ wr.cell? ⟨w.heap.size + 1, 0, none⟩ = some (U (spanV l h c)) ∧ wr.cell? ⟨w.heap.size + 1, 1, none⟩ = some (U (spanM l h c))
      ∧ (∀ o, wr.frozen? ⟨w.heap.size + 1, o, none⟩ = false)
      ∧ w.heap.size + 1 + 1 ≤ wr.heap.size) (fun _ i _ => (intOf i + 1).toNat)
  case atStart =>
    exact ⟨0, 63, by omega, rfl, rfl, by omega, (by repeat (first | exact Below.refl _ _ | assumption | refine below_drewN ?_ _ | refine Below.drew ?_ | refine Below.alloc ?_ (by first | exact Nat.le_refl _ | (simp; done) | (simp; omega) | omega) _ | refine Below.setCell ?_ (by first | exact Nat.le_refl _ | (simp; done) | (simp; omega) | omega) _ | refine Below.trans ?_ (Below.mono (by assumption) (by first | exact Nat.le_refl _ | (simp; done) | (simp; omega) | omega)))), by simp [spanV, accd, nv_zero, go_sem], by simp [spanM, accd, nv_zero, go_sem], by simp [go_sem], by simp⟩
  case round =>
    obtain ⟨c, t, hc, rfl, rfl, ht, hbel, ho0, ho1, hfo, hsz⟩ := hrel
    obtain ⟨hcc, hf⟩ := bl hbel
    by_cases hlt : c < 64
    · obtain ⟨i, rfl⟩ := Int.eq_ofNat_of_zero_le (show 0 ≤ t by omega)
      have hi : i = 63 - c := by omega
      have hi64 : i < 64 := by omega
      have hi0 : (0 : Int) ≤ (i : Int) := by omega
      have Hi : Hid (i = 63 - c) := hi
      have hstep := sp_step l h c i hi hlt
      have hl := low_bit l i
      have hh := low_bit h i
      obtain ⟨s, hs⟩ : ∃ s, s = sameB l h c := ⟨_, rfl⟩
      obtain ⟨bl, hbl⟩ : ∃ b, b = bit l i := ⟨_, rfl⟩
      obtain ⟨bh, hbh⟩ : ∃ b, b = bit h i := ⟨_, rfl⟩
      rw [← hbl, ← hbh, ← hs] at hstep
      rw [← hbl] at hl
      rw [← hbh] at hh
      rw [← hs]
      clear hi ht hs hbl hbh
      have H1 : Hid _ := hstep.1
      have H2 : Hid _ := hstep.2.1
      have H3 : Hid _ := hstep.2.2
      clear hstep
      have q1 := eqb_oo
      have q2 := eqb_oz
      have q3 := eqb_zo
      have q4 := eqb_zz
      cases s <;> cases bl <;> cases bh
      all_goals
        simp only [if_true, if_false, Bool.false_eq_true] at hl hh
        go_wp2_with fail
        go_quiet (fail)
        go_wp2_with fail
        refine (put_any _ _ i hi64 _ _ _).mono ?_
        rintro e w3 ⟨rfl, hb3⟩
        have hb3' : Below wr.heap.size wr w3 := (below_drewN (Below.refl _ wr) _).trans hb3
        obtain ⟨hc3, hf3, hs3⟩ := bk _ hb3' hsz
        clear hb3
        go_wp2_with fail
        exact ⟨⟨c + 1, _, by omega, by rw [H1.out]; rfl, rfl, by have := Hi.out; omega, out_rel hbel hb3' hsz ho0 ho1 hfo
          (by rw [← spanV_succ l h c i Hi.out, H2.out, H3.out]; rfl) (by rw [← spanM_succ l h c i Hi.out, H2.out, H3.out]; rfl)⟩, by simp [intOf]⟩
    · have ec : c = 64 := by omega
      subst ec
      have ht' : t = -1 := by omega
      subst ht'
      go_wp2_with fail
      exact bodyPost_ret (v := Bt (spanV l h 64) (spanM l h 64)) (by simp [results, Try.results106, go_sem, hcc]) rfl ⟨rfl, (by repeat (first | exact Below.refl _ _ | assumption | refine below_drewN ?_ _ | refine Below.drew ?_ | refine Below.alloc ?_ (by first | exact Nat.le_refl _ | (simp; done) | (simp; omega) | omega) _ | refine Below.setCell ?_ (by first | exact Nat.le_refl _ | (simp; done) | (simp; omega) | omega) _ | refine Below.trans ?_ (Below.mono (by assumption) (by first | exact Nat.le_refl _ | (simp; done) | (simp; omega) | omega))))⟩

end Go.Proofs.Ytkigmocchaikgab

/- The contracts of package bits: Shift, Len64, Span. -/
namespace Go.Proofs.Ytkigmocchaikgab
open Go.RowKit
attribute [local go_sem] w_and w_or w_xor w_andNot w_and1 w_and63 w_add w_sub w_mul w_sub1 w_add1 w_shl w_shl1 w_shr c_beq c_bne c_beq0 c_bne0 c_beq1 c_bne1 wrap_nv

set_option maxHeartbeats 400000 in
theorem shift_up {n : Nat} {v m : BitVec 64} (hr : Hid (eqb (band v m) zero = true)) (hn : n < 64) (w : World) :
    Calls Try.prog 126 #[N 8, Bt v m, N n] w fun e w' => e = .returned (.tuple #[Bt (bshl v n) (bshl m n), N 0]) ∧ Below w.heap.size w w' := by
  go_enter Try.func126, Try.ntmps126
  go_wp2_with fail
  refine (check1_is hr (by simp) (by simp [go_sem]) (by simp [go_sem])).mono ?_
  rintro e w1 ⟨rfl, hb1⟩
  obtain ⟨hc1, hf1, hs1⟩ := bk (w.heap.size + 1 + 1) hb1 (by simp)
  first | rw [er_t] | rw [er_f]
  go_wp2_with fail
  refine (up_any _ _ n hn _).mono ?_
  rintro e w2 ⟨rfl, hb2⟩
  obtain ⟨hc2, hf2, hs2⟩ := bk _ hb2 hs1
  go_wp2_with fail
  exact bodyPost_ret (v := .tuple #[Bt (bshl v n) (bshl m n), N 0]) (by simp [results, Try.results126, go_sem, hc1, hc2]) rfl ⟨rfl, (by repeat (first | exact Below.refl _ _ | assumption | refine below_drewN ?_ _ | refine Below.drew ?_ | refine Below.alloc ?_ (by first | exact Nat.le_refl _ | (simp; done) | (simp; omega) | omega) _ | refine Below.setCell ?_ (by first | exact Nat.le_refl _ | (simp; done) | (simp; omega) | omega) _ | refine Below.trans ?_ (Below.mono (by assumption) (by first | exact Nat.le_refl _ | (simp; done) | (simp; omega) | omega))))⟩
set_option maxHeartbeats 400000 in
theorem shift_down {n : Nat} {v m : BitVec 64} (hr : Hid (eqb (band v m) zero = true)) (hn : n < 64) (w : World) :
    Calls Try.prog 126 #[N 9, Bt v m, N n] w fun e w' => e = .returned (.tuple #[Bt (bshr v n) (bshr m n), N 0]) ∧ Below w.heap.size w w' := by
  go_enter Try.func126, Try.ntmps126
  go_wp2_with fail
  refine (check1_is hr (by simp) (by simp [go_sem]) (by simp [go_sem])).mono ?_
  rintro e w1 ⟨rfl, hb1⟩
  obtain ⟨hc1, hf1, hs1⟩ := bk (w.heap.size + 1 + 1) hb1 (by simp)
  first | rw [er_t] | rw [er_f]
  go_wp2_with fail
  exact bodyPost_ret (v := .tuple #[Bt (bshr v n) (bshr m n), N 0]) (by simp [results, Try.results126, go_sem, hc1]) rfl ⟨rfl, (by repeat (first | exact Below.refl _ _ | assumption | refine below_drewN ?_ _ | refine Below.drew ?_ | refine Below.alloc ?_ (by first | exact Nat.le_refl _ | (simp; done) | (simp; omega) | omega) _ | refine Below.setCell ?_ (by first | exact Nat.le_refl _ | (simp; done) | (simp; omega) | omega) _ | refine Below.trans ?_ (Below.mono (by assumption) (by first | exact Nat.le_refl _ | (simp; done) | (simp; omega) | omega))))⟩

end Go.Proofs.Ytkigmocchaikgab

/- bitsBegun: what must be in any case. -/
namespace Go.Proofs.Ytkigmocchaikgab
open Go.RowKit
attribute [local go_sem] w_and w_or w_xor w_andNot w_and1 w_and63 w_add w_sub w_mul w_sub1 w_add1 w_shl w_shl1 w_shr c_beq c_bne c_beq0 c_bne0 c_beq1 c_bne1 wrap_nv

end Go.Proofs.Ytkigmocchaikgab

/- BitsTells: what the program and the reference answer, side by side, each pair under one name. -/
namespace Go.Proofs.Ytkigmocchaikgab
open Go.RowKit

theorem hid {p : Prop} (h : p) : Hid p := h

/- the same, whatever is handed in -/
end Go.Proofs.Ytkigmocchaikgab

/- The contracts of package val's Check, and of the reference's NormVal and RightVal. -/
namespace Go.Proofs.Ytkigmocchaikgab
open Go.RowKit
attribute [local go_sem] w_and w_or w_xor w_andNot w_and1 w_and63 w_add w_sub w_mul w_sub1 w_add1 w_shl w_shl1 w_shr c_beq c_bne c_beq0 c_bne0 c_beq1 c_bne1 wrap_nv

set_option maxHeartbeats 1000000 in
theorem valCheck_any (v m l h : BitVec 64) (w : World) :
    Calls Try.prog 38 #[Vl v m l h] w fun e w' => e = .returned (N (er (valB v m l h))) ∧ Below w.heap.size w w' := by
  have Hv : Hid (valB v m l h = (hasB v m l && (hasB v m h && (decide (nv l ≤ nv h) && insB v m (spV l h) (sM l h))))) := rfl
  obtain ⟨b1, H1⟩ : ∃ b, Hid (hasB v m l = b) := ⟨_, rfl⟩
  obtain ⟨b2, H2⟩ : ∃ b, Hid (hasB v m h = b) := ⟨_, rfl⟩
  obtain ⟨b3, H3⟩ : ∃ b, Hid (insB v m (spV l h) (sM l h) = b) := ⟨_, rfl⟩
  rw [H1.out, H2.out, H3.out] at Hv
  go_enter Try.func38, Try.ntmps38
  go_wp2_with fail
  refine (hasC H1.out _).mono ?_
  rintro e w1 ⟨rfl, hb1⟩
  have hK := ((Kp.start w).add4 _ _ _ _ _).keep hb1
  obtain ⟨a0, a1, a2, a3, a4, a5, a6, a7, a8⟩ := hK.box.head.four
  cases b1
  · go_wp2_with fail
    go_ret
    rw [Hv.out]
    exact ⟨rfl, hK.bel⟩
  · go_wp2_with fail
    refine (hasC H2.out _).mono ?_
    rintro e w2 ⟨rfl, hb2⟩
    have hK2 := hK.keep hb2
    clear a0 a1 a2 a3 a4 a5 a6 a7 a8
    obtain ⟨a0, a1, a2, a3, a4, a5, a6, a7, a8⟩ := hK2.box.head.four
    cases b2
    · go_wp2_with fail
      go_ret
      rw [Hv.out]
      exact ⟨rfl, hK2.bel⟩
    · by_cases hle : nv l ≤ nv h
      · have Hd : Hid (decide (nv l ≤ nv h) = true) := decide_eq_true hle
        have HS : Hid (∀ w, Calls Try.prog 70 #[U l, U h] w fun e w' => e = .returned (.tuple #[Bt (spV l h) (sM l h), N 0]) ∧ Below w.heap.size w w') := fun w => span_ok hle w
        rw [Hd.out] at Hv
        clear hle Hd
        generalize spV l h = sv at HS H3
        generalize sM l h = sm at HS H3
        go_wp2_with fail
        refine (HS.out _).mono ?_
        rintro e w3 ⟨rfl, hb3⟩
        have hK3 := hK2.keep hb3
        clear a0 a1 a2 a3 a4 a5 a6 a7 a8
        obtain ⟨a0, a1, a2, a3, a4, a5, a6, a7, a8⟩ := hK3.box.head.four
        go_wp2_with fail
        refine (insC H3.out _).mono ?_
        rintro e w4 ⟨rfl, hb4⟩
        have hK4 := (hK3.add2 _ _ _).keep hb4
        cases b3
        all_goals
          go_wp2_with fail
          go_ret
          rw [Hv.out]
          exact ⟨rfl, hK4.bel⟩
      · have Hd : Hid (decide (nv l ≤ nv h) = false) := decide_eq_false hle
        have HS : Hid (∀ w, Calls Try.prog 70 #[U l, U h] w fun e w' => e = .returned (.tuple #[Bt zero zero, N 3]) ∧ Below w.heap.size w w') := fun w => span_no (by omega) w
        rw [Hd.out] at Hv
        clear hle Hd
        go_wp2_with fail
        refine (HS.out _).mono ?_
        rintro e w3 ⟨rfl, hb3⟩
        have hK3 := hK2.keep hb3
        go_wp2_with fail
        go_ret
        rw [Hv.out]
        exact ⟨rfl, (hK3.add2 _ _ _).bel⟩

/- the reference's -/
set_option maxHeartbeats 1000000 in
theorem normVal_none {v m l h : BitVec 64} (hr : Hid (eqb (band v m) zero = true)) (ho : Hid (normOk v m l h = false)) (w : World) :
    Calls Try.prog 67 #[Vl v m l h] w fun e w' => e = .returned (.tuple #[V0, .bool false]) ∧ Below w.heap.size w w' := by
  have hrt := (rt_iff v m).1 hr.out
  have hs := least_same hrt l
  have hg := great_same hrt h
  have HL : Hid (∀ w, Calls Try.prog 103 #[Bt v m, U l] w fun e w' => e = .returned (.tuple #[U (scanL v m l 64).1, .bool (scanL v m l 64).2]) ∧ Below w.heap.size w w') := fun w => refLeast_any v m l w
  have HG : Hid (∀ w, Calls Try.prog 104 #[Bt v m, U h] w fun e w' => e = .returned (.tuple #[U (scanG v m h 64).1, .bool (scanG v m h 64).2]) ∧ Below w.heap.size w w') := fun w => refGreat_any v m h w
  have Ho : Hid (((scanL v m l 64).2 && ((scanG v m h 64).2 && decide (nv (scanL v m l 64).1 ≤ nv (scanG v m h 64).1))) = false) := by
    have := ho.out
    unfold normOk nLo nHi at this
    show _ = false
    rw [hs.1, hg.1]
    cases e1 : (leastV v m l).2
    · rfl
    · cases e2 : (greatV v m h).2
      · rfl
      · rw [hs.2 e1, hg.2 e2]
        rw [e1, e2] at this
        exact this
  clear ho hs hg hrt hr
  generalize scanL v m l 64 = L at HL Ho
  generalize scanG v m h 64 = G at HG Ho
  obtain ⟨lo, lb⟩ := L
  obtain ⟨hi, gb⟩ := G
  go_enter Try.func67, Try.ntmps67
  go_wp2_with fail
  refine (HL.out _).mono ?_
  rintro e w2 ⟨rfl, hb2⟩
  have hK2 := (((Kp.start w).add4 _ _ _ _ _).add4 _ _ _ _ _).keep hb2
  simp only [World.size_alloc] at hK2
  obtain ⟨r0, r1, r2, r3, r4, r5, r6, r7, r8⟩ := hK2.box.head.four
  obtain ⟨a0, a1, a2, a3, a4, a5, a6, a7, a8⟩ := hK2.box.tail.head.four
  go_wp2_with fail
  refine (HG.out _).mono ?_
  rintro e w3 ⟨rfl, hb3⟩
  have hK3 := hK2.keep hb3
  clear r0 r1 r2 r3 r4 r5 r6 r7 r8 a0 a1 a2 a3 a4 a5 a6 a7 a8
  obtain ⟨r0, r1, r2, r3, r4, r5, r6, r7, r8⟩ := hK3.box.head.four
  obtain ⟨a0, a1, a2, a3, a4, a5, a6, a7, a8⟩ := hK3.box.tail.head.four
  cases lb
  · go_wp2_with fail
    exact bodyPost_ret (v := .tuple #[V0, .bool false]) (by simp [results, Try.results67, go_sem, nv_zero, r0, r1, r2, r3]) rfl ⟨rfl, (hK3.set4 0 rfl).bel⟩
  · cases gb
    · go_wp2_with fail
      exact bodyPost_ret (v := .tuple #[V0, .bool false]) (by simp [results, Try.results67, go_sem, nv_zero, r0, r1, r2, r3]) rfl ⟨rfl, (hK3.set4 0 rfl).bel⟩
    · have hlt : nv hi < nv lo := by
        have := Ho.out
        simp only [Bool.true_and, decide_eq_false_iff_not] at this
        omega
      clear Ho
      go_wp2_with fail
      exact bodyPost_ret (v := .tuple #[V0, .bool false]) (by simp [results, Try.results67, go_sem, nv_zero, r0, r1, r2, r3]) rfl ⟨rfl, (hK3.set4 0 rfl).bel⟩

set_option maxRecDepth 100000 in
set_option maxHeartbeats 8000000 in
theorem normVal_yes {v m l h : BitVec 64} (hr : Hid (eqb (band v m) zero = true)) (ho : Hid (normOk v m l h = true)) (w : World) :
    Calls Try.prog 67 #[Vl v m l h] w fun e w' => e = .returned (.tuple #[Vl (nV v m l h) (nM m (nLo v m l) (nHi v m h)) (nLo v m l) (nHi v m h), .bool true]) ∧ Below w.heap.size w w' := by
  have hrt := (rt_iff v m).1 hr.out
  have hfa := norm_facts hrt ho.out
  have ho' := ho.out
  unfold normOk at ho'
  simp only [Bool.and_eq_true] at ho'
  have hs := least_same hrt l
  have hg := great_same hrt h
  have HL : Hid (∀ w, Calls Try.prog 103 #[Bt v m, U l] w fun e w' => e = .returned (.tuple #[U (nLo v m l), .bool true]) ∧ Below w.heap.size w w') := fun w => by
    have := refLeast_any v m l w; rw [hs.1, hs.2 ho'.1, ho'.1] at this; exact this
  have HG : Hid (∀ w, Calls Try.prog 104 #[Bt v m, U h] w fun e w' => e = .returned (.tuple #[U (nHi v m h), .bool true]) ∧ Below w.heap.size w w') := fun w => by
    have := refGreat_any v m h w; rw [hg.1, hg.2 ho'.2.1, ho'.2.1] at this; exact this
  have HS : Hid (∀ w, Calls Try.prog 106 #[U (nLo v m l), U (nHi v m h)] w fun e w' => e = .returned (Bt (spV (nLo v m l) (nHi v m h)) (sM (nLo v m l) (nHi v m h))) ∧ Below w.heap.size w w') := fun w => by
    have hh := spanBits_any (nLo v m l) (nHi v m h) w
    rw [(span_eq _ _).1, (span_eq _ _).2] at hh
    exact hh
  have HM : Hid (∀ w, Calls Try.prog 105 #[Bt v m, Bt (spV (nLo v m l) (nHi v m h)) (sM (nLo v m l) (nHi v m h))] w fun e w' => e = .returned (.tuple #[Bt (nV v m l h) (nM m (nLo v m l) (nHi v m h)), .bool true]) ∧ Below w.heap.size w w') := fun w => by
    obtain ⟨h1, h2, h3⟩ := meet_eq (both_right hrt (span_rt (nLo v m l) (nHi v m h))).out (meet_span hrt hfa.1 (Int.le_refl _) hfa.2.2.1)
    have h := meetBits_ok v m _ _ h1 w
    rw [h2, h3] at h
    exact h
  have hle := hfa.2.2.1
  clear hfa ho' ho hrt hs hg hr
  generalize nV v m l h = rv at HM ⊢
  generalize nM m (nLo v m l) (nHi v m h) = rm at HM ⊢
  generalize spV (nLo v m l) (nHi v m h) = sv at HM HS
  generalize sM (nLo v m l) (nHi v m h) = sm at HM HS
  generalize nLo v m l = lo at HL HS hle ⊢
  generalize nHi v m h = hi at HG HS hle ⊢
  go_enter Try.func67, Try.ntmps67
  go_wp2_with fail
  refine (HL.out _).mono ?_
  rintro e w2 ⟨rfl, hb2⟩
  have hK2 := (((Kp.start w).add4 _ _ _ _ _).add4 _ _ _ _ _).keep hb2
  simp only [World.size_alloc] at hK2
  obtain ⟨r0, r1, r2, r3, r4, r5, r6, r7, r8⟩ := hK2.box.head.four
  obtain ⟨a0, a1, a2, a3, a4, a5, a6, a7, a8⟩ := hK2.box.tail.head.four
  go_wp2_with fail
  refine (HG.out _).mono ?_
  rintro e w3 ⟨rfl, hb3⟩
  have hK3 := hK2.keep hb3
  clear r0 r1 r2 r3 r4 r5 r6 r7 r8 a0 a1 a2 a3 a4 a5 a6 a7 a8
  obtain ⟨r0, r1, r2, r3, r4, r5, r6, r7, r8⟩ := hK3.box.head.four
  obtain ⟨a0, a1, a2, a3, a4, a5, a6, a7, a8⟩ := hK3.box.tail.head.four
  go_wp2_with fail
  go_cut [8, 9] (fun p f wc => ∃ b, p = .pointer (some ⟨b, 0, none⟩) ∧ f = .bool true ∧ Kp w wc [(b, [U rv, U rm]), (w.heap.size + 1, [.int .u64 0, .int .u64 0, .int .u64 0, .int .u64 0]), (w.heap.size, [U v, U m, U l, U h])])
  case first =>
    go_region_with (first
        | (go_at_call 106; refine (HS.out _).mono ?_; rintro e w4 ⟨rfl, hb4⟩; clear r0 r1 r2 r3 r4 r5 r6 r7 a0 a1 a2 a3 a4 a5 a6 a7; first | (have hK4 := (hK3.keep (Below.drew (Below.refl _ _))).keep hb4; obtain ⟨r0, r1, r2, r3, r4, r5, r6, r7, r8⟩ := hK4.box.head.four; obtain ⟨a0, a1, a2, a3, a4, a5, a6, a7, a8⟩ := hK4.box.tail.head.four) | (have hK4 := ((hK3.keep (Below.drew (Below.refl _ _))).add2 _ _ _).keep hb4; rw [show w3.drew.heap.size = w3.heap.size from rfl] at hK4; obtain ⟨q0, q1, q2, q3, q4⟩ := hK4.box.head.two; obtain ⟨r0, r1, r2, r3, r4, r5, r6, r7, r8⟩ := hK4.box.tail.head.four; obtain ⟨a0, a1, a2, a3, a4, a5, a6, a7, a8⟩ := hK4.box.tail.tail.head.four))
        | (go_at_call 105; refine (HM.out _).mono ?_; rintro e w5 ⟨rfl, hb5⟩; clear r0 r1 r2 r3 r4 r5 r6 r7 a0 a1 a2 a3 a4 a5 a6 a7; first | (have hK5 := hK4.keep hb5; obtain ⟨q0, q1, q2, q3, q4⟩ := hK5.box.head.two; obtain ⟨r0, r1, r2, r3, r4, r5, r6, r7, r8⟩ := hK5.box.tail.head.four; obtain ⟨a0, a1, a2, a3, a4, a5, a6, a7, a8⟩ := hK5.box.tail.tail.head.four) | (have hK5 := hK4.keep hb5; obtain ⟨r0, r1, r2, r3, r4, r5, r6, r7, r8⟩ := hK5.box.head.four; obtain ⟨a0, a1, a2, a3, a4, a5, a6, a7, a8⟩ := hK5.box.tail.head.four) | (have hK5 := (hK4.add2 _ _ _).keep hb5; obtain ⟨q0, q1, q2, q3, q4⟩ := hK5.box.head.two; obtain ⟨r0, r1, r2, r3, r4, r5, r6, r7, r8⟩ := hK5.box.tail.head.four; obtain ⟨a0, a1, a2, a3, a4, a5, a6, a7, a8⟩ := hK5.box.tail.tail.head.four)))
    all_goals
      go_wp2_with fail
      go_meet
      case rel => first | exact ⟨_, rfl, rfl, hK5.add2 _ _ _⟩ | exact ⟨_, rfl, rfl, hK5.set2 0 rfl⟩
  case rest =>
    clear r0 r1 r2 r3 r4 r5 r6 r7 r8 a0 a1 a2 a3 a4 a5 a6 a7 a8
    obtain ⟨b, rfl, rfl, hK6⟩ := hcut
    obtain ⟨q0, q1, q2, q3, q4⟩ := hK6.box.head.two
    obtain ⟨r0, r1, r2, r3, r4, r5, r6, r7, r8⟩ := hK6.box.tail.head.four
    obtain ⟨a0, a1, a2, a3, a4, a5, a6, a7, a8⟩ := hK6.box.tail.tail.head.four
    have hne : w.heap.size + 1 < b := hK6.box.2.1 _ (List.Mem.head _)
    go_wp2_with fail
    exact bodyPost_ret (v := .tuple #[Vl rv rm lo hi, .bool true]) (by simp [results, Try.results67, go_sem, r0, r1, r2, r3]) rfl ⟨rfl, (hK6.set4 1 rfl).bel⟩

end Go.Proofs.Ytkigmocchaikgab

/- The contracts of package val's Has, Inside, Of, Any and Join, and of the reference's RightVal, ValHas, InsideVal, ValOf, ValAny. -/
namespace Go.Proofs.Ytkigmocchaikgab
open Go.RowKit
attribute [local go_sem] w_and w_or w_xor w_andNot w_and1 w_and63 w_add w_sub w_mul w_sub1 w_add1 w_shl w_shl1 w_shr c_beq c_bne c_beq0 c_bne0 c_beq1 c_bne1 wrap_nv
attribute [local go_sem] eqb_self

theorem checkV {v m l h : BitVec 64} {b : Bool} (hv : valB v m l h = b) (w : World) :
    Calls Try.prog 38 #[Vl v m l h] w fun e w' => e = .returned (N (er b)) ∧ Below w.heap.size w w' := hv ▸ valCheck_any v m l h w

set_option maxHeartbeats 1000000 in
theorem rightVal_any (v m l h : BitVec 64) (w : World) :
    Calls Try.prog 36 #[Vl v m l h] w fun e w' => e = .returned (.bool (valB v m l h)) ∧ Below w.heap.size w w' := by
  obtain ⟨r, hr⟩ : ∃ r, Hid (eqb (band v m) zero = r) := ⟨_, rfl⟩
  cases r
  · have Hv : Hid (valB v m l h = false) := val_wrong hr.out
    rw [Hv.out]
    go_enter Try.func36, Try.ntmps36
    go_wp2_with fail
    refine (right_is hr.out _).mono ?_
    rintro e w1 ⟨rfl, hb1⟩
    have hK := ((Kp.start w).add4 _ _ _ _ _).keep hb1
    go_wp2_with fail
    go_ret
    exact ⟨rfl, hK.bel⟩
  · have hrt := (rt_iff v m).1 hr.out
    obtain ⟨o, ho⟩ : ∃ o, Hid (normOk v m l h = o) := ⟨_, rfl⟩
    have Hv : Hid (valB v m l h = (normOk v m l h && normSame v m l h)) := val_iff hrt l h
    rw [ho.out] at Hv
    cases o
    · have HN : Hid (∀ w, Calls Try.prog 67 #[Vl v m l h] w fun e w' => e = .returned (.tuple #[V0, .bool false]) ∧ Below w.heap.size w w') := fun w => normVal_none hr ho w
      rw [Hv.out]
      clear Hv ho hrt
      go_enter Try.func36, Try.ntmps36
      go_wp2_with fail
      refine (right_is hr.out _).mono ?_
      rintro e w1 ⟨rfl, hb1⟩
      have hK := ((Kp.start w).add4 _ _ _ _ _).keep hb1
      obtain ⟨a0, a1, a2, a3, a4, a5, a6, a7, a8⟩ := hK.box.head.four
      go_wp2_with fail
      refine (HN.out _).mono ?_
      rintro e w2 ⟨rfl, hb2⟩
      have hK2 := hK.keep hb2
      go_wp2_with fail
      go_ret
      exact ⟨rfl, (hK2.add4 _ _ _ _ _).bel⟩
    · have HN : Hid (∀ w, Calls Try.prog 67 #[Vl v m l h] w fun e w' => e = .returned (.tuple #[Vl (nV v m l h) (nM m (nLo v m l) (nHi v m h)) (nLo v m l) (nHi v m h), .bool true]) ∧ Below w.heap.size w w') := fun w => normVal_yes hr ho w
      have Hs : Hid (normSame v m l h = (eqb (nV v m l h) v && (eqb (nM m (nLo v m l) (nHi v m h)) m && (eqb (nLo v m l) l && eqb (nHi v m h) h)))) := rfl
      rw [Hs.out] at Hv
      rw [Hv.out]
      clear Hv Hs ho hrt
      generalize nM m (nLo v m l) (nHi v m h) = rm at HN ⊢
      generalize nV v m l h = rv at HN ⊢
      generalize nLo v m l = lo at HN ⊢
      generalize nHi v m h = hi at HN ⊢
      go_enter Try.func36, Try.ntmps36
      go_wp2_with fail
      refine (right_is hr.out _).mono ?_
      rintro e w1 ⟨rfl, hb1⟩
      have hK := ((Kp.start w).add4 _ _ _ _ _).keep hb1
      obtain ⟨a0, a1, a2, a3, a4, a5, a6, a7, a8⟩ := hK.box.head.four
      go_wp2_with fail
      refine (HN.out _).mono ?_
      rintro e w2 ⟨rfl, hb2⟩
      have hK2 := hK.keep hb2
      clear a0 a1 a2 a3 a4 a5 a6 a7 a8
      obtain ⟨a0, a1, a2, a3, a4, a5, a6, a7, a8⟩ := hK2.box.head.four
      cases h1 : eqb rv v
      · go_wp2_with fail
        go_ret
        exact ⟨by rw [h1]; rfl, (hK2.add4 _ _ _ _ _).bel⟩
      cases h2 : eqb rm m
      · go_wp2_with fail
        go_ret
        exact ⟨by rw [h1, h2]; rfl, (hK2.add4 _ _ _ _ _).bel⟩
      cases h3 : eqb lo l
      · go_wp2_with fail
        go_ret
        exact ⟨by rw [h1, h2, h3]; rfl, (hK2.add4 _ _ _ _ _).bel⟩
      cases h4 : eqb hi h
      all_goals
        go_wp2_with fail
        go_ret
        exact ⟨by rw [h1, h2, h3, h4]; rfl, (hK2.add4 _ _ _ _ _).bel⟩
theorem rightV {v m l h : BitVec 64} {b : Bool} (hv : valB v m l h = b) (w : World) :
    Calls Try.prog 36 #[Vl v m l h] w fun e w' => e = .returned (.bool b) ∧ Below w.heap.size w w' := hv ▸ rightVal_any v m l h w

set_option maxHeartbeats 1000000 in
theorem valHas_any (v m l h x : BitVec 64) (w : World) :
    Calls Try.prog 41 #[Vl v m l h, U x] w fun e w' => e = .returned (.bool (hasV v m l h x)) ∧ Below w.heap.size w w' := by
  have Hh : Hid (hasV v m l h x = (valB v m l h && (hasB v m x && (decide (nv l ≤ nv x) && decide (nv x ≤ nv h))))) := rfl
  obtain ⟨b1, H1⟩ : ∃ b, Hid (valB v m l h = b) := ⟨_, rfl⟩
  obtain ⟨b2, H2⟩ : ∃ b, Hid (hasB v m x = b) := ⟨_, rfl⟩
  rw [H1.out, H2.out] at Hh
  rw [Hh.out]
  clear Hh
  go_enter Try.func41, Try.ntmps41
  go_wp2_with fail
  refine (checkV H1.out _).mono ?_
  rintro e w1 ⟨rfl, hb1⟩
  have hK := ((Kp.start w).add4 _ _ _ _ _).keep hb1
  obtain ⟨a0, a1, a2, a3, a4, a5, a6, a7, a8⟩ := hK.box.head.four
  cases b1
  · rw [er_f]
    go_wp2_with fail
    go_ret
    exact ⟨rfl, hK.bel⟩
  · rw [er_t]
    go_wp2_with fail
    refine (hasC H2.out _).mono ?_
    rintro e w2 ⟨rfl, hb2⟩
    have hK2 := hK.keep hb2
    clear a0 a1 a2 a3 a4 a5 a6 a7 a8
    obtain ⟨a0, a1, a2, a3, a4, a5, a6, a7, a8⟩ := hK2.box.head.four
    cases b2
    · go_wp2_with fail
      go_ret
      exact ⟨rfl, hK2.bel⟩
    · by_cases h1 : nv l ≤ nv x
      · go_wp2_with fail
        go_ret
        exact ⟨by simp <;> omega, hK2.bel⟩
      · have h1' : nv x < nv l := by omega
        go_wp2_with fail
        go_ret
        exact ⟨by simp <;> omega, hK2.bel⟩
set_option maxHeartbeats 1000000 in
theorem refValHas_any (v m l h x : BitVec 64) (w : World) :
    Calls Try.prog 43 #[Vl v m l h, U x] w fun e w' => e = .returned (.bool (hasV v m l h x)) ∧ Below w.heap.size w w' := by
  have Hh : Hid (hasV v m l h x = (valB v m l h && (hasB v m x && (decide (nv l ≤ nv x) && decide (nv x ≤ nv h))))) := rfl
  obtain ⟨b1, H1⟩ : ∃ b, Hid (valB v m l h = b) := ⟨_, rfl⟩
  obtain ⟨b2, H2⟩ : ∃ b, Hid (hasB v m x = b) := ⟨_, rfl⟩
  rw [H1.out, H2.out] at Hh
  rw [Hh.out]
  clear Hh
  go_enter Try.func43, Try.ntmps43
  go_wp2_with fail
  refine (rightV H1.out _).mono ?_
  rintro e w1 ⟨rfl, hb1⟩
  have hK := ((Kp.start w).add4 _ _ _ _ _).keep hb1
  obtain ⟨a0, a1, a2, a3, a4, a5, a6, a7, a8⟩ := hK.box.head.four
  cases b1
  · go_wp2_with fail
    go_ret
    exact ⟨rfl, hK.bel⟩
  · go_wp2_with fail
    refine (has_is H2.out _).mono ?_
    rintro e w2 ⟨rfl, hb2⟩
    have hK2 := hK.keep hb2
    clear a0 a1 a2 a3 a4 a5 a6 a7 a8
    obtain ⟨a0, a1, a2, a3, a4, a5, a6, a7, a8⟩ := hK2.box.head.four
    cases b2
    · go_wp2_with fail
      go_ret
      exact ⟨rfl, hK2.bel⟩
    · by_cases h1 : nv l ≤ nv x
      · go_wp2_with fail
        go_ret
        exact ⟨by simp <;> omega, hK2.bel⟩
      · have h1' : nv x < nv l := by omega
        go_wp2_with fail
        go_ret
        exact ⟨by simp <;> omega, hK2.bel⟩
set_option maxHeartbeats 1000000 in
theorem valOf_any (x : BitVec 64) (w : World) :
    Calls Try.prog 110 #[U x] w fun e w' => e = .returned (Vl x zero x x) ∧ Below w.heap.size w w' := by
  go_enter Try.func110, Try.ntmps110
  go_wp2_with fail
  exact bodyPost_ret (v := Vl x zero x x) (by simp [results, Try.results110, go_sem, nv_zero]) rfl ⟨rfl, (by repeat (first | exact Below.refl _ _ | assumption | refine below_drewN ?_ _ | refine Below.drew ?_ | refine Below.alloc ?_ (by first | exact Nat.le_refl _ | (simp; done) | (simp; omega) | omega) _ | refine Below.setCell ?_ (by first | exact Nat.le_refl _ | (simp; done) | (simp; omega) | omega) _ | refine Below.trans ?_ (Below.mono (by assumption) (by first | exact Nat.le_refl _ | (simp; done) | (simp; omega) | omega))))⟩
set_option maxHeartbeats 1000000 in
theorem valAny_any (w : World) :
    Calls Try.prog 39 #[] w fun e w' => e = .returned (Vl zero top zero top) ∧ Below w.heap.size w w' := by
  go_enter Try.func39, Try.ntmps39
  go_wp2_with fail
  exact bodyPost_ret (v := Vl zero top zero top) (by simp [results, Try.results39, go_sem, nv_zero, nv_top]) rfl ⟨rfl, (by repeat (first | exact Below.refl _ _ | assumption | refine below_drewN ?_ _ | refine Below.drew ?_ | refine Below.alloc ?_ (by first | exact Nat.le_refl _ | (simp; done) | (simp; omega) | omega) _ | refine Below.setCell ?_ (by first | exact Nat.le_refl _ | (simp; done) | (simp; omega) | omega) _ | refine Below.trans ?_ (Below.mono (by assumption) (by first | exact Nat.le_refl _ | (simp; done) | (simp; omega) | omega))))⟩
set_option maxHeartbeats 1000000 in
theorem refValAny_any (w : World) :
    Calls Try.prog 40 #[] w fun e w' => e = .returned (Vl zero top zero top) ∧ Below w.heap.size w w' := by
  go_enter Try.func40, Try.ntmps40
  go_wp2_with fail
  exact bodyPost_ret (v := Vl zero top zero top) (by simp [results, Try.results40, go_sem, nv_zero, nv_top]) rfl ⟨rfl, (by repeat (first | exact Below.refl _ _ | assumption | refine below_drewN ?_ _ | refine Below.drew ?_ | refine Below.alloc ?_ (by first | exact Nat.le_refl _ | (simp; done) | (simp; omega) | omega) _ | refine Below.setCell ?_ (by first | exact Nat.le_refl _ | (simp; done) | (simp; omega) | omega) _ | refine Below.trans ?_ (Below.mono (by assumption) (by first | exact Nat.le_refl _ | (simp; done) | (simp; omega) | omega))))⟩

end Go.Proofs.Ytkigmocchaikgab

/- The contracts of package val's Inside and Join, and of the reference's InsideVal. -/
namespace Go.Proofs.Ytkigmocchaikgab
open Go.RowKit
attribute [local go_sem] w_and w_or w_xor w_andNot w_and1 w_and63 w_add w_sub w_mul w_sub1 w_add1 w_shl w_shl1 w_shr c_beq c_bne c_beq0 c_bne0 c_beq1 c_bne1 wrap_nv

end Go.Proofs.Ytkigmocchaikgab

/- The contract of package val's Join. -/
namespace Go.Proofs.Ytkigmocchaikgab
open Go.RowKit
attribute [local go_sem] w_and w_or w_xor w_andNot w_and1 w_and63 w_add w_sub w_mul w_sub1 w_add1 w_shl w_shl1 w_shr c_beq c_bne c_beq0 c_bne0 c_beq1 c_bne1 wrap_nv

set_option maxHeartbeats 2000000 in
theorem valJoin_yes {v m l h v' m' l' h' : BitVec 64} (hr : Hid ((valB v m l h && valB v' m' l' h') = true)) (w : World) :
    Calls Try.prog 34 #[Vl v m l h, Vl v' m' l' h'] w fun e w' => e = .returned (.tuple #[Vl (nV (jV v m v' m') (jM v m v' m') (bmin l l') (bmax h h')) (nM (jM v m v' m') (nLo (jV v m v' m') (jM v m v' m') (bmin l l')) (nHi (jV v m v' m') (jM v m v' m') (bmax h h'))) (nLo (jV v m v' m') (jM v m v' m') (bmin l l')) (nHi (jV v m v' m') (jM v m v' m') (bmax h h')), N 0]) ∧ Below w.heap.size w w' := by
  have hr' := hr.out
  rw [Bool.and_eq_true] at hr'
  have H1 : Hid (valB v m l h = true) := hr'.1
  have H2 : Hid (valB v' m' l' h' = true) := hr'.2
  have hf := join_facts hr'.1 hr'.2
  have ha := (val_facts hr'.1).1
  have hb := (val_facts hr'.2).1
  have HJ : Hid (∀ w, Calls Try.prog 64 #[Bt v m, Bt v' m'] w fun e w' => e = .returned (.tuple #[Bt (jV v m v' m') (jM v m v' m'), N 0]) ∧ Below w.heap.size w w') := fun w => join_ok (both_right ha hb) w
  have HN : Hid (∀ w, Calls Try.prog 65 #[Vl (jV v m v' m') (jM v m v' m') (bmin l l') (bmax h h')] w fun e w' => e = .returned (.tuple #[Vl (nV (jV v m v' m') (jM v m v' m') (bmin l l') (bmax h h')) (nM (jM v m v' m') (nLo (jV v m v' m') (jM v m v' m') (bmin l l')) (nHi (jV v m v' m') (jM v m v' m') (bmax h h'))) (nLo (jV v m v' m') (jM v m v' m') (bmin l l')) (nHi (jV v m v' m') (jM v m v' m') (bmax h h')), .bool true, N 0]) ∧ Below w.heap.size w w') := fun w =>
    norm_yes ((rt_iff _ _).2 (join_rt v m v' m')) hf.1 w
  clear hf ha hb hr hr'
  generalize nV (jV v m v' m') (jM v m v' m') (bmin l l') (bmax h h') = rv at HN ⊢
  generalize nM (jM v m v' m') (nLo (jV v m v' m') (jM v m v' m') (bmin l l')) (nHi (jV v m v' m') (jM v m v' m') (bmax h h')) = rm at HN ⊢
  generalize nLo (jV v m v' m') (jM v m v' m') (bmin l l') = lo at HN ⊢
  generalize nHi (jV v m v' m') (jM v m v' m') (bmax h h') = hi at HN ⊢
  generalize jV v m v' m' = jv at HN HJ
  generalize jM v m v' m' = jm at HN HJ
  go_enter Try.func34, Try.ntmps34
  go_wp2_with fail
  refine (checkV H1.out _).mono ?_
  rintro e w1 ⟨rfl, hb1⟩
  have hK := ((((Kp.start w).add4 _ _ _ _ _).add4 _ _ _ _ _).add4 _ _ _ _ _).keep hb1
  simp only [World.size_alloc] at hK
  obtain ⟨r0, r1, r2, r3, r4, r5, r6, r7, r8⟩ := hK.box.head.four
  obtain ⟨b0, b1, b2, b3, b4, b5, b6, b7, b8⟩ := hK.box.tail.head.four
  obtain ⟨a0, a1, a2, a3, a4, a5, a6, a7, a8⟩ := hK.box.tail.tail.head.four
  rw [er_t]
  go_wp2_with fail
  refine (checkV H2.out _).mono ?_
  rintro e w2 ⟨rfl, hb2⟩
  have hK2 := hK.keep hb2
  clear r0 r1 r2 r3 r4 r5 r6 r7 r8 b0 b1 b2 b3 b4 b5 b6 b7 b8 a0 a1 a2 a3 a4 a5 a6 a7 a8
  obtain ⟨r0, r1, r2, r3, r4, r5, r6, r7, r8⟩ := hK2.box.head.four
  obtain ⟨b0, b1, b2, b3, b4, b5, b6, b7, b8⟩ := hK2.box.tail.head.four
  obtain ⟨a0, a1, a2, a3, a4, a5, a6, a7, a8⟩ := hK2.box.tail.tail.head.four
  rw [er_t]
  go_wp2_with fail
  refine (HJ.out _).mono ?_
  rintro e w3 ⟨rfl, hb3⟩
  have hK3 := hK2.keep hb3
  clear r0 r1 r2 r3 r4 r5 r6 r7 r8 b0 b1 b2 b3 b4 b5 b6 b7 b8 a0 a1 a2 a3 a4 a5 a6 a7 a8
  obtain ⟨r0, r1, r2, r3, r4, r5, r6, r7, r8⟩ := hK3.box.head.four
  obtain ⟨b0, b1, b2, b3, b4, b5, b6, b7, b8⟩ := hK3.box.tail.head.four
  obtain ⟨a0, a1, a2, a3, a4, a5, a6, a7, a8⟩ := hK3.box.tail.tail.head.four
  by_cases h1 : nv l' < nv l <;> by_cases h2 : nv h < nv h'
  · have e1 : bmin l l' = l' := if_pos h1
    have e2 : bmax h h' = h' := if_pos h2
    rw [e1, e2] at HN
    clear e1 e2
    go_wp2_with fail
    refine (HN.out _).mono ?_
    rintro e w4 ⟨rfl, hb4⟩
    have hK4 := (hK3.add2 _ _ _).keep hb4
    clear r0 r1 r2 r3 r4 r5 r6 r7 r8 b0 b1 b2 b3 b4 b5 b6 b7 b8 a0 a1 a2 a3 a4 a5 a6 a7 a8
    obtain ⟨j0, j1, j2, j3, j4⟩ := hK4.box.head.two
    obtain ⟨r0, r1, r2, r3, r4, r5, r6, r7, r8⟩ := hK4.box.tail.head.four
    obtain ⟨b0, b1, b2, b3, b4, b5, b6, b7, b8⟩ := hK4.box.tail.tail.head.four
    obtain ⟨a0, a1, a2, a3, a4, a5, a6, a7, a8⟩ := hK4.box.tail.tail.tail.head.four
    go_wp2_with fail
    exact bodyPost_ret (v := .tuple #[Vl rv rm lo hi, N 0]) (by simp [results, Try.results34, go_sem, r0, r1, r2, r3, r8]) rfl ⟨rfl, ((hK4.set4 1 rfl).add4 _ _ _ _ _).bel⟩
  · have e1 : bmin l l' = l' := if_pos h1
    have e2 : bmax h h' = h := if_neg h2
    rw [e1, e2] at HN
    clear e1 e2
    have h2' : nv h' ≤ nv h := by omega
    clear h2
    go_wp2_with fail
    refine (HN.out _).mono ?_
    rintro e w4 ⟨rfl, hb4⟩
    have hK4 := (hK3.add2 _ _ _).keep hb4
    clear r0 r1 r2 r3 r4 r5 r6 r7 r8 b0 b1 b2 b3 b4 b5 b6 b7 b8 a0 a1 a2 a3 a4 a5 a6 a7 a8
    obtain ⟨j0, j1, j2, j3, j4⟩ := hK4.box.head.two
    obtain ⟨r0, r1, r2, r3, r4, r5, r6, r7, r8⟩ := hK4.box.tail.head.four
    obtain ⟨b0, b1, b2, b3, b4, b5, b6, b7, b8⟩ := hK4.box.tail.tail.head.four
    obtain ⟨a0, a1, a2, a3, a4, a5, a6, a7, a8⟩ := hK4.box.tail.tail.tail.head.four
    go_wp2_with fail
    exact bodyPost_ret (v := .tuple #[Vl rv rm lo hi, N 0]) (by simp [results, Try.results34, go_sem, r0, r1, r2, r3, r8]) rfl ⟨rfl, ((hK4.set4 1 rfl).add4 _ _ _ _ _).bel⟩
  · have e1 : bmin l l' = l := if_neg h1
    have e2 : bmax h h' = h' := if_pos h2
    rw [e1, e2] at HN
    clear e1 e2
    have h1' : nv l ≤ nv l' := by omega
    clear h1
    go_wp2_with fail
    refine (HN.out _).mono ?_
    rintro e w4 ⟨rfl, hb4⟩
    have hK4 := (hK3.add2 _ _ _).keep hb4
    clear r0 r1 r2 r3 r4 r5 r6 r7 r8 b0 b1 b2 b3 b4 b5 b6 b7 b8 a0 a1 a2 a3 a4 a5 a6 a7 a8
    obtain ⟨j0, j1, j2, j3, j4⟩ := hK4.box.head.two
    obtain ⟨r0, r1, r2, r3, r4, r5, r6, r7, r8⟩ := hK4.box.tail.head.four
    obtain ⟨b0, b1, b2, b3, b4, b5, b6, b7, b8⟩ := hK4.box.tail.tail.head.four
    obtain ⟨a0, a1, a2, a3, a4, a5, a6, a7, a8⟩ := hK4.box.tail.tail.tail.head.four
    go_wp2_with fail
    exact bodyPost_ret (v := .tuple #[Vl rv rm lo hi, N 0]) (by simp [results, Try.results34, go_sem, r0, r1, r2, r3, r8]) rfl ⟨rfl, ((hK4.set4 1 rfl).add4 _ _ _ _ _).bel⟩
  · have e1 : bmin l l' = l := if_neg h1
    have e2 : bmax h h' = h := if_neg h2
    rw [e1, e2] at HN
    clear e1 e2
    have h1' : nv l ≤ nv l' := by omega
    clear h1
    have h2' : nv h' ≤ nv h := by omega
    clear h2
    go_wp2_with fail
    refine (HN.out _).mono ?_
    rintro e w4 ⟨rfl, hb4⟩
    have hK4 := (hK3.add2 _ _ _).keep hb4
    clear r0 r1 r2 r3 r4 r5 r6 r7 r8 b0 b1 b2 b3 b4 b5 b6 b7 b8 a0 a1 a2 a3 a4 a5 a6 a7 a8
    obtain ⟨j0, j1, j2, j3, j4⟩ := hK4.box.head.two
    obtain ⟨r0, r1, r2, r3, r4, r5, r6, r7, r8⟩ := hK4.box.tail.head.four
    obtain ⟨b0, b1, b2, b3, b4, b5, b6, b7, b8⟩ := hK4.box.tail.tail.head.four
    obtain ⟨a0, a1, a2, a3, a4, a5, a6, a7, a8⟩ := hK4.box.tail.tail.tail.head.four
    go_wp2_with fail
    exact bodyPost_ret (v := .tuple #[Vl rv rm lo hi, N 0]) (by simp [results, Try.results34, go_sem, r0, r1, r2, r3, r8]) rfl ⟨rfl, ((hK4.set4 1 rfl).add4 _ _ _ _ _).bel⟩

end Go.Proofs.Ytkigmocchaikgab

/- The contracts of package calc's alone, shiftBounds, bounds, shift. -/
namespace Go.Proofs.Ytkigmocchaikgab
open Go.RowKit
attribute [local go_sem] w_and w_or w_xor w_andNot w_and1 w_and63 w_add w_sub w_mul w_sub1 w_add1 w_shl w_shl1 w_shr c_beq c_bne c_beq0 c_bne0 c_beq1 c_bne1 wrap_nv

set_option maxHeartbeats 400000 in
theorem alone_any (v m l h : BitVec 64) (w : World) :
    Calls Try.prog 113 #[Vl v m l h] w fun e w' => e = .returned (.bool (eqb l h)) ∧ Below w.heap.size w w' := by
  go_enter Try.func113, Try.ntmps113
  go_wp2_with fail
  go_ret
  exact ⟨rfl, (by repeat (first | exact Below.refl _ _ | assumption | refine below_drewN ?_ _ | refine Below.drew ?_ | refine Below.alloc ?_ (by first | exact Nat.le_refl _ | (simp; done) | (simp; omega) | omega) _ | refine Below.setCell ?_ (by first | exact Nat.le_refl _ | (simp; done) | (simp; omega) | omega) _ | refine Below.trans ?_ (Below.mono (by assumption) (by first | exact Nat.le_refl _ | (simp; done) | (simp; omega) | omega))))⟩
theorem alone_is {v m l h : BitVec 64} {b : Bool} (hb : eqb l h = b) (w : World) :
    Calls Try.prog 113 #[Vl v m l h] w fun e w' => e = .returned (.bool b) ∧ Below w.heap.size w w' := hb ▸ alone_any v m l h w

set_option maxRecDepth 100000 in
set_option maxHeartbeats 1000000 in
theorem shiftBounds_shr (v m l h : BitVec 64) (y : BitVec 64) (w : World) :
    Calls Try.prog 127 #[N 9, Vl v m l h, U (band y 63#64)] w fun e w' => e = .returned (.tuple #[U (bshr l (six y)), U (bshr h (six y))]) ∧ Below w.heap.size w w' := by
  have h6 := six_nv y
  have h7 := six_lt y
  go_enter Try.func127, Try.ntmps127
  go_wp2_with fail
  go_quiet (fail)
  go_wp2_with fail
  go_ret2
  exact ⟨rfl, (by repeat (first | exact Below.refl _ _ | assumption | refine below_drewN ?_ _ | refine Below.drew ?_ | refine Below.alloc ?_ (by first | exact Nat.le_refl _ | (simp; done) | (simp; omega) | omega) _ | refine Below.setCell ?_ (by first | exact Nat.le_refl _ | (simp; done) | (simp; omega) | omega) _ | refine Below.trans ?_ (Below.mono (by assumption) (by first | exact Nat.le_refl _ | (simp; done) | (simp; omega) | omega))))⟩
set_option maxRecDepth 100000 in
set_option maxHeartbeats 1000000 in
theorem shiftBounds_shl (v m l h : BitVec 64) (y : BitVec 64) (w : World) :
    Calls Try.prog 127 #[N 8, Vl v m l h, U (band y 63#64)] w fun e w' => e = .returned (.tuple #[U (shlB l h (six y)).1, U (shlB l h (six y)).2]) ∧ Below w.heap.size w w' := by
  have h6 := six_nv y
  have h7 := six_lt y
  have Ha : Hid (shlB l h (six y) = if eqb (bshr (bshl h (six y)) (six y)) h then (bshl l (six y), bshl h (six y)) else (zero, top)) := rfl
  obtain ⟨p, hp⟩ : ∃ b, eqb (bshr (bshl h (six y)) (six y)) h = b := ⟨_, rfl⟩
  rw [hp] at Ha
  cases p
  · go_enter Try.func127, Try.ntmps127
    go_wp2_with fail
    go_ret2
    rw [Ha.out]
    exact ⟨rfl, (by repeat (first | exact Below.refl _ _ | assumption | refine below_drewN ?_ _ | refine Below.drew ?_ | refine Below.alloc ?_ (by first | exact Nat.le_refl _ | (simp; done) | (simp; omega) | omega) _ | refine Below.setCell ?_ (by first | exact Nat.le_refl _ | (simp; done) | (simp; omega) | omega) _ | refine Below.trans ?_ (Below.mono (by assumption) (by first | exact Nat.le_refl _ | (simp; done) | (simp; omega) | omega))))⟩
  · go_enter Try.func127, Try.ntmps127
    go_wp2_with fail
    go_quiet (fail)
    go_wp2_with fail
    go_ret2
    rw [Ha.out]
    exact ⟨rfl, (by repeat (first | exact Below.refl _ _ | assumption | refine below_drewN ?_ _ | refine Below.drew ?_ | refine Below.alloc ?_ (by first | exact Nat.le_refl _ | (simp; done) | (simp; omega) | omega) _ | refine Below.setCell ?_ (by first | exact Nat.le_refl _ | (simp; done) | (simp; omega) | omega) _ | refine Below.trans ?_ (Below.mono (by assumption) (by first | exact Nat.le_refl _ | (simp; done) | (simp; omega) | omega))))⟩

set_option maxRecDepth 100000 in
set_option maxHeartbeats 1000000 in
theorem bounds_any {op : Int} (hop : Hid (2 ≤ op ∧ op ≤ 7)) (v m l h v' m' l' h' : BitVec 64) (w : World) :
    Calls Try.prog 125 #[N op, Vl v m l h, Vl v' m' l' h'] w fun e w' => e = .returned (.tuple #[U (boundsP op l h l' h').1, U (boundsP op l h l' h').2]) ∧ Below w.heap.size w w' := by
  rcases op_cases hop.out with rfl | rfl | rfl | rfl | rfl | rfl
  · clear hop
    go_enter Try.func125, Try.ntmps125
    go_wp2_with fail
    refine (addBounds_any v m l h v' m' l' h' _).mono ?_
    rintro e w1 ⟨rfl, hb1⟩
    have hK := (((Kp.start w).add4 _ _ _ _ _).add4 _ _ _ _ _).keep hb1
    go_wp2_with fail
    go_ret2
    exact ⟨rfl, hK.bel⟩
  · clear hop
    go_enter Try.func125, Try.ntmps125
    go_wp2_with fail
    refine (subBounds_any v m l h v' m' l' h' _).mono ?_
    rintro e w1 ⟨rfl, hb1⟩
    have hK := (((Kp.start w).add4 _ _ _ _ _).add4 _ _ _ _ _).keep hb1
    go_wp2_with fail
    go_ret2
    exact ⟨rfl, hK.bel⟩
  · clear hop
    go_enter Try.func125, Try.ntmps125
    go_wp2_with fail
    refine (mulBounds_any v m l h v' m' l' h' _).mono ?_
    rintro e w1 ⟨rfl, hb1⟩
    have hK := (((Kp.start w).add4 _ _ _ _ _).add4 _ _ _ _ _).keep hb1
    go_wp2_with fail
    go_ret2
    exact ⟨rfl, hK.bel⟩
  · clear hop
    have Hb : Hid (boundsP 5 l h l' h' = (zero, bmin h h')) := rfl
    rw [Hb.out]
    by_cases h1 : nv h' < nv h
    · have e1 : Hid (bmin h h' = h') := if_pos h1
      rw [e1.out]
      go_enter Try.func125, Try.ntmps125
      go_wp2_with fail
      first | (go_quiet (fail); go_wp2_with fail) | skip
      go_ret2
      exact ⟨rfl, (by repeat (first | exact Below.refl _ _ | assumption | refine below_drewN ?_ _ | refine Below.drew ?_ | refine Below.alloc ?_ (by first | exact Nat.le_refl _ | (simp; done) | (simp; omega) | omega) _ | refine Below.setCell ?_ (by first | exact Nat.le_refl _ | (simp; done) | (simp; omega) | omega) _ | refine Below.trans ?_ (Below.mono (by assumption) (by first | exact Nat.le_refl _ | (simp; done) | (simp; omega) | omega))))⟩
    · have e1 : Hid (bmin h h' = h) := if_neg h1
      have h1' : nv h ≤ nv h' := by omega
      clear h1
      rw [e1.out]
      go_enter Try.func125, Try.ntmps125
      go_wp2_with fail
      first | (go_quiet (fail); go_wp2_with fail) | skip
      go_ret2
      exact ⟨rfl, (by repeat (first | exact Below.refl _ _ | assumption | refine below_drewN ?_ _ | refine Below.drew ?_ | refine Below.alloc ?_ (by first | exact Nat.le_refl _ | (simp; done) | (simp; omega) | omega) _ | refine Below.setCell ?_ (by first | exact Nat.le_refl _ | (simp; done) | (simp; omega) | omega) _ | refine Below.trans ?_ (Below.mono (by assumption) (by first | exact Nat.le_refl _ | (simp; done) | (simp; omega) | omega))))⟩
  · clear hop
    have Hb : Hid (boundsP 6 l h l' h' = (bmax l l', top)) := rfl
    rw [Hb.out]
    by_cases h1 : nv l < nv l'
    · have e1 : Hid (bmax l l' = l') := if_pos h1
      rw [e1.out]
      go_enter Try.func125, Try.ntmps125
      go_wp2_with fail
      go_ret2
      exact ⟨rfl, (by repeat (first | exact Below.refl _ _ | assumption | refine below_drewN ?_ _ | refine Below.drew ?_ | refine Below.alloc ?_ (by first | exact Nat.le_refl _ | (simp; done) | (simp; omega) | omega) _ | refine Below.setCell ?_ (by first | exact Nat.le_refl _ | (simp; done) | (simp; omega) | omega) _ | refine Below.trans ?_ (Below.mono (by assumption) (by first | exact Nat.le_refl _ | (simp; done) | (simp; omega) | omega))))⟩
    · have e1 : Hid (bmax l l' = l) := if_neg h1
      have h1' : nv l' ≤ nv l := by omega
      clear h1
      rw [e1.out]
      go_enter Try.func125, Try.ntmps125
      go_wp2_with fail
      go_ret2
      exact ⟨rfl, (by repeat (first | exact Below.refl _ _ | assumption | refine below_drewN ?_ _ | refine Below.drew ?_ | refine Below.alloc ?_ (by first | exact Nat.le_refl _ | (simp; done) | (simp; omega) | omega) _ | refine Below.setCell ?_ (by first | exact Nat.le_refl _ | (simp; done) | (simp; omega) | omega) _ | refine Below.trans ?_ (Below.mono (by assumption) (by first | exact Nat.le_refl _ | (simp; done) | (simp; omega) | omega))))⟩
  · clear hop
    go_enter Try.func125, Try.ntmps125
    go_wp2_with fail
    go_ret2
    exact ⟨rfl, (by repeat (first | exact Below.refl _ _ | assumption | refine below_drewN ?_ _ | refine Below.drew ?_ | refine Below.alloc ?_ (by first | exact Nat.le_refl _ | (simp; done) | (simp; omega) | omega) _ | refine Below.setCell ?_ (by first | exact Nat.le_refl _ | (simp; done) | (simp; omega) | omega) _ | refine Below.trans ?_ (Below.mono (by assumption) (by first | exact Nat.le_refl _ | (simp; done) | (simp; omega) | omega))))⟩

end Go.Proofs.Ytkigmocchaikgab

/- The contracts of package calc's shift and reckon. -/
namespace Go.Proofs.Ytkigmocchaikgab
open Go.RowKit
attribute [local go_sem] w_and w_or w_xor w_andNot w_and1 w_and63 w_add w_sub w_mul w_sub1 w_add1 w_shl w_shl1 w_shr c_beq c_bne c_beq0 c_bne0 c_beq1 c_bne1 wrap_nv

set_option maxRecDepth 100000 in
set_option maxHeartbeats 1000000 in
theorem shift_wide8 {v m l g v' m' l' g' : BitVec 64} (ha : Hid (eqb l' g' = false)) (w : World) :
    Calls Try.prog 123 #[N 8, Vl v m l g, Vl v' m' l' g'] w fun e w' => e = .returned (Vl zero top zero top) ∧ Below w.heap.size w w' := by
  go_enter Try.func123, Try.ntmps123
  go_wp2_with fail
  refine (alone_is ha.out _).mono ?_
  rintro e w1 ⟨rfl, hb1⟩
  have hK := ((((Kp.start w).add4 _ _ _ _ _).add4 _ _ _ _ _).add4 _ _ _ _ _).keep hb1
  simp only [World.size_alloc] at hK
  obtain ⟨r0, r1, r2, r3, r4, r5, r6, r7, r8⟩ := hK.box.head.four
  obtain ⟨b0, b1, b2, b3, b4, b5, b6, b7, b8⟩ := hK.box.tail.head.four
  obtain ⟨a0, a1, a2, a3, a4, a5, a6, a7, a8⟩ := hK.box.tail.tail.head.four
  go_wp2_with fail
  exact bodyPost_ret (v := Vl zero top zero top) (by simp [results, Try.results123, go_sem, nv_zero, nv_top, r0, r1, r2, r3]) rfl ⟨rfl, (hK.set4 0 rfl).bel⟩
set_option maxRecDepth 100000 in
set_option maxHeartbeats 1000000 in
theorem shift_wide9 {v m l g v' m' l' g' : BitVec 64} (ha : Hid (eqb l' g' = false)) (w : World) :
    Calls Try.prog 123 #[N 9, Vl v m l g, Vl v' m' l' g'] w fun e w' => e = .returned (Vl zero top zero g) ∧ Below w.heap.size w w' := by
  go_enter Try.func123, Try.ntmps123
  go_wp2_with fail
  refine (alone_is ha.out _).mono ?_
  rintro e w1 ⟨rfl, hb1⟩
  have hK := ((((Kp.start w).add4 _ _ _ _ _).add4 _ _ _ _ _).add4 _ _ _ _ _).keep hb1
  simp only [World.size_alloc] at hK
  obtain ⟨r0, r1, r2, r3, r4, r5, r6, r7, r8⟩ := hK.box.head.four
  obtain ⟨b0, b1, b2, b3, b4, b5, b6, b7, b8⟩ := hK.box.tail.head.four
  obtain ⟨a0, a1, a2, a3, a4, a5, a6, a7, a8⟩ := hK.box.tail.tail.head.four
  go_wp2_with fail
  exact bodyPost_ret (v := Vl zero top zero g) (by simp [results, Try.results123, go_sem, nv_zero, nv_top, r0, r1, r2, r3]) rfl ⟨rfl, (hK.set4 0 rfl).bel⟩
set_option maxRecDepth 100000 in
set_option maxHeartbeats 1000000 in
theorem shift_one8 {v m l h v' m' l' h' : BitVec 64} (hr : Hid (eqb (band v m) zero = true)) (ha : Hid (eqb l' h' = true)) (w : World) :
    Calls Try.prog 123 #[N 8, Vl v m l h, Vl v' m' l' h'] w fun e w' => e = .returned (Vl (bshl v (six l')) (bshl m (six l')) (shlB l h (six l')).1 (shlB l h (six l')).2) ∧ Below w.heap.size w w' := by
  have h6 := six_nv l'
  have h7 := six_lt l'
  have HS : Hid (∀ w, Calls Try.prog 126 #[N 8, Bt v m, N (six l')] w fun e w' => e = .returned (.tuple #[Bt (bshl v (six l')) (bshl m (six l')), N 0]) ∧ Below w.heap.size w w') := fun w => shift_up hr h7 w
  have HB : Hid (∀ w, Calls Try.prog 127 #[N 8, Vl v m l h, U (band l' 63#64)] w fun e w' => e = .returned (.tuple #[U (shlB l h (six l')).1, U (shlB l h (six l')).2]) ∧ Below w.heap.size w w') := fun w => shiftBounds_shl v m l h l' w
  generalize shlB l h (six l') = S at HB ⊢
  obtain ⟨lo, hi⟩ := S
  generalize bshl v (six l') = sv at HS ⊢
  generalize bshl m (six l') = sm at HS ⊢
  go_enter Try.func123, Try.ntmps123
  go_wp2_with fail
  refine (alone_is ha.out _).mono ?_
  rintro e w1 ⟨rfl, hb1⟩
  have hK := ((((Kp.start w).add4 _ _ _ _ _).add4 _ _ _ _ _).add4 _ _ _ _ _).keep hb1
  simp only [World.size_alloc] at hK
  obtain ⟨r0, r1, r2, r3, r4, r5, r6, r7, r8⟩ := hK.box.head.four
  obtain ⟨b0, b1, b2, b3, b4, b5, b6, b7, b8⟩ := hK.box.tail.head.four
  obtain ⟨a0, a1, a2, a3, a4, a5, a6, a7, a8⟩ := hK.box.tail.tail.head.four
  go_wp2_with fail
  refine (HS.out _).mono ?_
  rintro e w2 ⟨rfl, hb2⟩
  have hK2 := hK.keep hb2
  clear r0 r1 r2 r3 r4 r5 r6 r7 r8 b0 b1 b2 b3 b4 b5 b6 b7 b8 a0 a1 a2 a3 a4 a5 a6 a7 a8
  obtain ⟨r0, r1, r2, r3, r4, r5, r6, r7, r8⟩ := hK2.box.head.four
  obtain ⟨b0, b1, b2, b3, b4, b5, b6, b7, b8⟩ := hK2.box.tail.head.four
  obtain ⟨a0, a1, a2, a3, a4, a5, a6, a7, a8⟩ := hK2.box.tail.tail.head.four
  go_wp2_with fail
  refine (HB.out _).mono ?_
  rintro e w3 ⟨rfl, hb3⟩
  have hK3 := (hK2.add2 _ _ _).keep hb3
  clear r0 r1 r2 r3 r4 r5 r6 r7 r8 b0 b1 b2 b3 b4 b5 b6 b7 b8 a0 a1 a2 a3 a4 a5 a6 a7 a8
  obtain ⟨s0, s1, s2, s3, s4⟩ := hK3.box.head.two
  obtain ⟨r0, r1, r2, r3, r4, r5, r6, r7, r8⟩ := hK3.box.tail.head.four
  obtain ⟨b0, b1, b2, b3, b4, b5, b6, b7, b8⟩ := hK3.box.tail.tail.head.four
  obtain ⟨a0, a1, a2, a3, a4, a5, a6, a7, a8⟩ := hK3.box.tail.tail.tail.head.four
  go_wp2_with fail
  exact bodyPost_ret (v := Vl sv sm lo hi) (by simp [results, Try.results123, go_sem, r0, r1, r2, r3]) rfl ⟨rfl, (hK3.set4 1 rfl).bel⟩
set_option maxRecDepth 100000 in
set_option maxHeartbeats 1000000 in
theorem shift_one9 {v m l h v' m' l' h' : BitVec 64} (hr : Hid (eqb (band v m) zero = true)) (ha : Hid (eqb l' h' = true)) (w : World) :
    Calls Try.prog 123 #[N 9, Vl v m l h, Vl v' m' l' h'] w fun e w' => e = .returned (Vl (bshr v (six l')) (bshr m (six l')) (bshr l (six l')) (bshr h (six l'))) ∧ Below w.heap.size w w' := by
  have h6 := six_nv l'
  have h7 := six_lt l'
  have HS : Hid (∀ w, Calls Try.prog 126 #[N 9, Bt v m, N (six l')] w fun e w' => e = .returned (.tuple #[Bt (bshr v (six l')) (bshr m (six l')), N 0]) ∧ Below w.heap.size w w') := fun w => shift_down hr h7 w
  have HB : Hid (∀ w, Calls Try.prog 127 #[N 9, Vl v m l h, U (band l' 63#64)] w fun e w' => e = .returned (.tuple #[U (bshr l (six l')), U (bshr h (six l'))]) ∧ Below w.heap.size w w') := fun w => shiftBounds_shr v m l h l' w
  generalize bshr l (six l') = lo at HB ⊢
  generalize bshr h (six l') = hi at HB ⊢
  generalize bshr v (six l') = sv at HS ⊢
  generalize bshr m (six l') = sm at HS ⊢
  go_enter Try.func123, Try.ntmps123
  go_wp2_with fail
  refine (alone_is ha.out _).mono ?_
  rintro e w1 ⟨rfl, hb1⟩
  have hK := ((((Kp.start w).add4 _ _ _ _ _).add4 _ _ _ _ _).add4 _ _ _ _ _).keep hb1
  simp only [World.size_alloc] at hK
  obtain ⟨r0, r1, r2, r3, r4, r5, r6, r7, r8⟩ := hK.box.head.four
  obtain ⟨b0, b1, b2, b3, b4, b5, b6, b7, b8⟩ := hK.box.tail.head.four
  obtain ⟨a0, a1, a2, a3, a4, a5, a6, a7, a8⟩ := hK.box.tail.tail.head.four
  go_wp2_with fail
  refine (HS.out _).mono ?_
  rintro e w2 ⟨rfl, hb2⟩
  have hK2 := hK.keep hb2
  clear r0 r1 r2 r3 r4 r5 r6 r7 r8 b0 b1 b2 b3 b4 b5 b6 b7 b8 a0 a1 a2 a3 a4 a5 a6 a7 a8
  obtain ⟨r0, r1, r2, r3, r4, r5, r6, r7, r8⟩ := hK2.box.head.four
  obtain ⟨b0, b1, b2, b3, b4, b5, b6, b7, b8⟩ := hK2.box.tail.head.four
  obtain ⟨a0, a1, a2, a3, a4, a5, a6, a7, a8⟩ := hK2.box.tail.tail.head.four
  go_wp2_with fail
  refine (HB.out _).mono ?_
  rintro e w3 ⟨rfl, hb3⟩
  have hK3 := (hK2.add2 _ _ _).keep hb3
  clear r0 r1 r2 r3 r4 r5 r6 r7 r8 b0 b1 b2 b3 b4 b5 b6 b7 b8 a0 a1 a2 a3 a4 a5 a6 a7 a8
  obtain ⟨s0, s1, s2, s3, s4⟩ := hK3.box.head.two
  obtain ⟨r0, r1, r2, r3, r4, r5, r6, r7, r8⟩ := hK3.box.tail.head.four
  obtain ⟨b0, b1, b2, b3, b4, b5, b6, b7, b8⟩ := hK3.box.tail.tail.head.four
  obtain ⟨a0, a1, a2, a3, a4, a5, a6, a7, a8⟩ := hK3.box.tail.tail.tail.head.four
  go_wp2_with fail
  exact bodyPost_ret (v := Vl sv sm lo hi) (by simp [results, Try.results123, go_sem, r0, r1, r2, r3]) rfl ⟨rfl, (hK3.set4 1 rfl).bel⟩

end Go.Proofs.Ytkigmocchaikgab

/- The contracts of package calc's reckon, checkAll and Two. -/
namespace Go.Proofs.Ytkigmocchaikgab
open Go.RowKit
attribute [local go_sem] w_and w_or w_xor w_andNot w_and1 w_and63 w_add w_sub w_mul w_sub1 w_add1 w_shl w_shl1 w_shr c_beq c_bne c_beq0 c_bne0 c_beq1 c_bne1 wrap_nv

def rk (op : Int) (v m l h v' m' l' h' : BitVec 64) : BitVec 64 × BitVec 64 × BitVec 64 × BitVec 64 :=
  if op = 8 then (if eqb l' h' then (bshl v (six l'), bshl m (six l'), (shlB l h (six l')).1, (shlB l h (six l')).2) else (zero, top, zero, top))
  else if op = 9 then (if eqb l' h' then (bshr v (six l'), bshr m (six l'), bshr l (six l'), bshr h (six l')) else (zero, top, zero, h))
  else ((twoP op v m v' m').1, (twoP op v m v' m').2, (boundsP op l h l' h').1, (boundsP op l h l' h').2)

theorem shift_is {op : Int} (hop : op = 8 ∨ op = 9) {v m l h : BitVec 64} (v' m' l' h' : BitVec 64) (hr : Hid (eqb (band v m) zero = true)) (w : World) :
    Calls Try.prog 123 #[N op, Vl v m l h, Vl v' m' l' h'] w fun e w' => e = .returned (Vl (rk op v m l h v' m' l' h').1 (rk op v m l h v' m' l' h').2.1 (rk op v m l h v' m' l' h').2.2.1 (rk op v m l h v' m' l' h').2.2.2) ∧ Below w.heap.size w w' := by
  rcases hop with rfl | rfl
  · cases ha : eqb l' h'
    · have e : rk 8 v m l h v' m' l' h' = (zero, top, zero, top) := by unfold rk; rw [if_pos rfl, ha]; rfl
      rw [e]; exact shift_wide8 ha w
    · have e : rk 8 v m l h v' m' l' h' = (bshl v (six l'), bshl m (six l'), (shlB l h (six l')).1, (shlB l h (six l')).2) := by unfold rk; rw [if_pos rfl, ha]; rfl
      rw [e]; exact shift_one8 hr ha w
  · cases ha : eqb l' h'
    · have e : rk 9 v m l h v' m' l' h' = (zero, top, zero, h) := by unfold rk; rw [if_neg (by decide), if_pos rfl, ha]; rfl
      rw [e]; exact shift_wide9 ha w
    · have e : rk 9 v m l h v' m' l' h' = (bshr v (six l'), bshr m (six l'), bshr l (six l'), bshr h (six l')) := by unfold rk; rw [if_neg (by decide), if_pos rfl, ha]; rfl
      rw [e]; exact shift_one9 hr ha w

set_option maxRecDepth 100000 in
set_option maxHeartbeats 1000000 in
theorem reckon_shift {op : Int} (hop : op = 8 ∨ op = 9) {v m l g : BitVec 64} (v' m' l' g' : BitVec 64) (hr : Hid (eqb (band v m) zero = true)) (w : World) :
    Calls Try.prog 120 #[N op, Vl v m l g, Vl v' m' l' g'] w fun e w' => e = .returned (.tuple #[Vl (rk op v m l g v' m' l' g').1 (rk op v m l g v' m' l' g').2.1 (rk op v m l g v' m' l' g').2.2.1 (rk op v m l g v' m' l' g').2.2.2, N 0]) ∧ Below w.heap.size w w' := by
  have HS : Hid (∀ w, Calls Try.prog 123 #[N op, Vl v m l g, Vl v' m' l' g'] w fun e w' => e = .returned (Vl (rk op v m l g v' m' l' g').1 (rk op v m l g v' m' l' g').2.1 (rk op v m l g v' m' l' g').2.2.1 (rk op v m l g v' m' l' g').2.2.2) ∧ Below w.heap.size w w') := fun w => shift_is hop v' m' l' g' hr w
  generalize rk op v m l g v' m' l' g' = S at HS ⊢
  obtain ⟨sa, sb, sc, sd⟩ := S
  rcases hop with rfl | rfl
  all_goals
    go_enter Try.func120, Try.ntmps120
    go_wp2_with fail
    refine (HS.out _).mono ?_
    rintro e w1 ⟨rfl, hb1⟩
    have hK := ((((Kp.start w).add4 _ _ _ _ _).add4 _ _ _ _ _).add4 _ _ _ _ _).keep hb1
    simp only [World.size_alloc] at hK
    obtain ⟨r0, r1, r2, r3, r4, r5, r6, r7, r8⟩ := hK.box.head.four
    obtain ⟨b0, b1, b2, b3, b4, b5, b6, b7, b8⟩ := hK.box.tail.head.four
    obtain ⟨a0, a1, a2, a3, a4, a5, a6, a7, a8⟩ := hK.box.tail.tail.head.four
    go_wp2_with fail
    exact bodyPost_ret (v := .tuple #[Vl sa sb sc sd, N 0]) (by simp [results, Try.results120, go_sem, r0, r1, r2, r3]) rfl ⟨rfl, (hK.set4 0 rfl).bel⟩
set_option maxRecDepth 100000 in
set_option maxHeartbeats 1000000 in
theorem reckon_two {op : Int} (hop : Hid (2 ≤ op ∧ op ≤ 7)) {v m l g v' m' l' g' : BitVec 64} (hr : Hid ((eqb (band v m) zero && eqb (band v' m') zero) = true)) (w : World) :
    Calls Try.prog 120 #[N op, Vl v m l g, Vl v' m' l' g'] w fun e w' => e = .returned (.tuple #[Vl (rk op v m l g v' m' l' g').1 (rk op v m l g v' m' l' g').2.1 (rk op v m l g v' m' l' g').2.2.1 (rk op v m l g v' m' l' g').2.2.2, N 0]) ∧ Below w.heap.size w w' := by
  have h8 : (op == 8) = false := by have := hop.out; simp; omega
  have h9 : (op == 9) = false := by have := hop.out; simp; omega
  have Hk : Hid (rk op v m l g v' m' l' g' = ((twoP op v m v' m').1, (twoP op v m v' m').2, (boundsP op l g l' g').1, (boundsP op l g l' g').2)) := by
    show _ = _
    unfold rk; rw [if_neg (by have := hop.out; omega), if_neg (by have := hop.out; omega)]
  rw [Hk.out]
  have HT : Hid (∀ w, Calls Try.prog 124 #[N op, Bt v m, Bt v' m'] w fun e w' => e = .returned (.tuple #[Bt (twoP op v m v' m').1 (twoP op v m v' m').2, N 0]) ∧ Below w.heap.size w w') := fun w => two_ok hr hop.out w
  have HB : Hid (∀ w, Calls Try.prog 125 #[N op, Vl v m l g, Vl v' m' l' g'] w fun e w' => e = .returned (.tuple #[U (boundsP op l g l' g').1, U (boundsP op l g l' g').2]) ∧ Below w.heap.size w w') := fun w => bounds_any hop v m l g v' m' l' g' w
  clear Hk
  generalize twoP op v m v' m' = T at HT ⊢
  generalize boundsP op l g l' g' = B at HB ⊢
  obtain ⟨ta, tb⟩ := T
  obtain ⟨ba, bb⟩ := B
  go_enter Try.func120, Try.ntmps120
  go_wp2_with fail
  refine (HT.out _).mono ?_
  rintro e w1 ⟨rfl, hb1⟩
  have hK := ((((Kp.start w).add4 _ _ _ _ _).add4 _ _ _ _ _).add4 _ _ _ _ _).keep hb1
  simp only [World.size_alloc] at hK
  obtain ⟨r0, r1, r2, r3, r4, r5, r6, r7, r8⟩ := hK.box.head.four
  obtain ⟨b0, b1, b2, b3, b4, b5, b6, b7, b8⟩ := hK.box.tail.head.four
  obtain ⟨a0, a1, a2, a3, a4, a5, a6, a7, a8⟩ := hK.box.tail.tail.head.four
  go_wp2_with fail
  refine (HB.out _).mono ?_
  rintro e w2 ⟨rfl, hb2⟩
  have hK2 := (hK.add2 _ _ _).keep hb2
  clear r0 r1 r2 r3 r4 r5 r6 r7 r8 b0 b1 b2 b3 b4 b5 b6 b7 b8 a0 a1 a2 a3 a4 a5 a6 a7 a8
  obtain ⟨k0, k1, k2, k3, k4⟩ := hK2.box.head.two
  obtain ⟨r0, r1, r2, r3, r4, r5, r6, r7, r8⟩ := hK2.box.tail.head.four
  obtain ⟨b0, b1, b2, b3, b4, b5, b6, b7, b8⟩ := hK2.box.tail.tail.head.four
  obtain ⟨a0, a1, a2, a3, a4, a5, a6, a7, a8⟩ := hK2.box.tail.tail.tail.head.four
  go_wp2_with fail
  exact bodyPost_ret (v := .tuple #[Vl ta tb ba bb, N 0]) (by simp [results, Try.results120, go_sem, r0, r1, r2, r3]) rfl ⟨rfl, (hK2.set4 1 rfl).bel⟩
end Go.Proofs.Ytkigmocchaikgab

/- The contracts of package calc's checkAll and Two. -/
namespace Go.Proofs.Ytkigmocchaikgab
open Go.RowKit
attribute [local go_sem] w_and w_or w_xor w_andNot w_and1 w_and63 w_add w_sub w_mul w_sub1 w_add1 w_shl w_shl1 w_shr c_beq c_bne c_beq0 c_bne0 c_beq1 c_bne1 wrap_nv

set_option maxRecDepth 100000 in
set_option maxHeartbeats 1000000 in
theorem vcheck2 {v m l g v' m' l' g' : BitVec 64} {r1 r2 : Bool} (h1 : Hid (valB v m l g = r1)) (h2 : Hid (valB v' m' l' g' = r2)) {b c : Nat} {w : World} (hbw : b < w.heap.size)
    (c0 : w.cell? ⟨b, 0, none⟩ = some (U v)) (c1 : w.cell? ⟨b, 1, none⟩ = some (U m)) (c2 : w.cell? ⟨b, 2, none⟩ = some (U l)) (c3 : w.cell? ⟨b, 3, none⟩ = some (U g))
    (c4 : w.cell? ⟨b, 4, none⟩ = some (U v')) (c5 : w.cell? ⟨b, 5, none⟩ = some (U m')) (c6 : w.cell? ⟨b, 6, none⟩ = some (U l')) (c7 : w.cell? ⟨b, 7, none⟩ = some (U g')) :
    Calls Try.prog 119 #[.slice (some ⟨b, 0, none⟩) 2 c] w fun e w' => e = .returned (N (er (r1 && r2))) ∧ Below w.heap.size w w' := by
  go_enter Try.func119, Try.ntmps119
  go_wp2_with fail
  refine wp_loop_rounds 3 ?_
  rw [rounds_succ]
  go_wp2_with fail
  refine (checkV h1.out _).mono ?_
  rintro e w1 ⟨rfl, hb1⟩
  obtain ⟨hc1, hf1, hs1⟩ := bk (b + 1) hb1 (by simp; omega)
  cases r1
  · rw [er_f]
    go_wp2_with fail
    go_ret
    exact ⟨rfl, (by repeat (first | exact Below.refl _ _ | assumption | refine below_drewN ?_ _ | refine Below.drew ?_ | refine Below.alloc ?_ (by first | exact Nat.le_refl _ | (simp; done) | (simp; omega) | omega) _ | refine Below.setCell ?_ (by first | exact Nat.le_refl _ | (simp; done) | (simp; omega) | omega) _ | refine Below.trans ?_ (Below.mono (by assumption) (by first | exact Nat.le_refl _ | (simp; done) | (simp; omega) | omega))))⟩
  · rw [er_t]
    go_wp2_with fail
    rw [rounds_succ]
    go_wp2_with fail
    refine (checkV h2.out _).mono ?_
    rintro e w2 ⟨rfl, hb2⟩
    have hz1 : w.heap.size ≤ w1.heap.size := Nat.le_trans (by simp) hb1.size
    cases r2
    · rw [er_f]
      go_wp2_with fail
      go_ret
      exact ⟨rfl, (by repeat (first | exact Below.refl _ _ | assumption | refine below_drewN ?_ _ | refine Below.drew ?_ | refine Below.alloc ?_ (by first | exact Nat.le_refl _ | (simp; done) | (simp; omega) | omega) _ | refine Below.setCell ?_ (by first | exact Nat.le_refl _ | (simp; done) | (simp; omega) | omega) _ | refine Below.trans ?_ (Below.mono (by assumption) (by first | exact Nat.le_refl _ | (simp; done) | (simp; omega) | omega))))⟩
    · rw [er_t]
      go_wp2_with fail
      rw [rounds_succ]
      go_wp2_with fail
      go_ret
      exact ⟨rfl, (by repeat (first | exact Below.refl _ _ | assumption | refine below_drewN ?_ _ | refine Below.drew ?_ | refine Below.alloc ?_ (by first | exact Nat.le_refl _ | (simp; done) | (simp; omega) | omega) _ | refine Below.setCell ?_ (by first | exact Nat.le_refl _ | (simp; done) | (simp; omega) | omega) _ | refine Below.trans ?_ (Below.mono (by assumption) (by first | exact Nat.le_refl _ | (simp; done) | (simp; omega) | omega))))⟩

theorem two_checked {v m l g v' m' l' g' : BitVec 64} (hr : (valB v m l g && valB v' m' l' g') = true) : (eqb (band v m) zero && eqb (band v' m') zero) = true := by
  rw [Bool.and_eq_true] at hr
  rw [(rt_iff _ _).2 (val_facts hr.1).1, (rt_iff _ _).2 (val_facts hr.2).1]; rfl
set_option maxRecDepth 100000 in
set_option maxHeartbeats 1000000 in
theorem calcTwo_none {op : Int}  {v m l g v' m' l' g' : BitVec 64} (hr : Hid ((valB v m l g && valB v' m' l' g') = true)) (hop : Hid (2 ≤ op ∧ op ≤ 9)) (hrr : Hid (eqb (band (rk op v m l g v' m' l' g').1 (rk op v m l g v' m' l' g').2.1) zero = true)) (ho : Hid (normOk (rk op v m l g v' m' l' g').1 (rk op v m l g v' m' l' g').2.1 (rk op v m l g v' m' l' g').2.2.1 (rk op v m l g v' m' l' g').2.2.2 = false)) (w : World) :
    Calls Try.prog 82 #[N op, Vl v m l g, Vl v' m' l' g'] w fun e w' => e = .returned (.tuple #[V0, N 0]) ∧ Below w.heap.size w w' := by
  obtain ⟨z1, H1⟩ : ∃ b, Hid (valB v m l g = b) := ⟨_, rfl⟩
  obtain ⟨z2, H2⟩ : ∃ b, Hid (valB v' m' l' g' = b) := ⟨_, rfl⟩
  have hb := two_checked hr.out
  have hb' := hb
  rw [Bool.and_eq_true] at hb'
  have HR : Hid (∀ w, Calls Try.prog 120 #[N op, Vl v m l g, Vl v' m' l' g'] w fun e w' => e = .returned (.tuple #[Vl (rk op v m l g v' m' l' g').1 (rk op v m l g v' m' l' g').2.1 (rk op v m l g v' m' l' g').2.2.1 (rk op v m l g v' m' l' g').2.2.2, N 0]) ∧ Below w.heap.size w w') := fun w => by
    by_cases h : op = 8 ∨ op = 9
    · exact reckon_shift h v' m' l' g' hb'.1 w
    · exact reckon_two (hid (by have := hop.out; omega)) hb w
  clear hb hb' hop
  generalize rk op v m l g v' m' l' g' = S at HR hrr ho ⊢
  obtain ⟨sa, sb, sc, sd⟩ := S
  dsimp only at HR hrr ho ⊢
  have HN : Hid (∀ w, Calls Try.prog 65 #[Vl sa sb sc sd] w fun e w' => e = .returned (.tuple #[V0, .bool false, N 0]) ∧ Below w.heap.size w w') := fun w => norm_none hrr ho w
  rw [H1.out, H2.out] at hr
  go_enter Try.func82, Try.ntmps82
  go_wp2_with fail
  refine (vcheck2 H1 H2 (by simp) (by simp [go_sem]) (by simp [go_sem]) (by simp [go_sem]) (by simp [go_sem]) (by simp [go_sem]) (by simp [go_sem]) (by simp [go_sem]) (by simp [go_sem])).mono ?_
  rw [hr.out, er_t]
  rintro e w1 ⟨rfl, hb1⟩
  have hK := (((((Kp.start w).add4 _ _ _ _ _).add4 _ _ _ _ _).add4 _ _ _ _ _).keep ((Below.refl _ _).alloc (Nat.le_refl _) _)).keep hb1
  simp only [World.size_alloc] at hK
  obtain ⟨r0, r1, r2, r3, r4, r5, r6, r7, r8⟩ := hK.box.head.four
  obtain ⟨b0, b1, b2, b3, b4, b5, b6, b7, b8⟩ := hK.box.tail.head.four
  obtain ⟨a0, a1, a2, a3, a4, a5, a6, a7, a8⟩ := hK.box.tail.tail.head.four
  go_wp2_with fail
  refine (HR.out _).mono ?_
  rintro e w2 ⟨rfl, hb2⟩
  have hK2 := hK.keep hb2
  clear r0 r1 r2 r3 r4 r5 r6 r7 r8 b0 b1 b2 b3 b4 b5 b6 b7 b8 a0 a1 a2 a3 a4 a5 a6 a7 a8
  obtain ⟨r0, r1, r2, r3, r4, r5, r6, r7, r8⟩ := hK2.box.head.four
  obtain ⟨b0, b1, b2, b3, b4, b5, b6, b7, b8⟩ := hK2.box.tail.head.four
  obtain ⟨a0, a1, a2, a3, a4, a5, a6, a7, a8⟩ := hK2.box.tail.tail.head.four
  go_wp2_with fail
  refine (HN.out _).mono ?_
  rintro e w3 ⟨rfl, hb3⟩
  have hK3 := (hK2.add4 _ _ _ _ _).keep hb3
  clear r0 r1 r2 r3 r4 r5 r6 r7 r8 b0 b1 b2 b3 b4 b5 b6 b7 b8 a0 a1 a2 a3 a4 a5 a6 a7 a8
  obtain ⟨k0, k1, k2, k3, k4, k5, k6, k7, k8⟩ := hK3.box.head.four
  obtain ⟨r0, r1, r2, r3, r4, r5, r6, r7, r8⟩ := hK3.box.tail.head.four
  obtain ⟨b0, b1, b2, b3, b4, b5, b6, b7, b8⟩ := hK3.box.tail.tail.head.four
  obtain ⟨a0, a1, a2, a3, a4, a5, a6, a7, a8⟩ := hK3.box.tail.tail.tail.head.four
  go_wp2_with fail
  exact bodyPost_ret (v := .tuple #[V0, N 0]) (by simp [results, Try.results82, go_sem, nv_zero, r0, r1, r2, r3, r8]) rfl ⟨rfl, ((hK3.set4 1 rfl).add4 _ _ _ _ _).bel⟩

set_option maxRecDepth 100000 in
set_option maxHeartbeats 1000000 in
theorem calcTwo_yes {op : Int}  {v m l g v' m' l' g' : BitVec 64} (hr : Hid ((valB v m l g && valB v' m' l' g') = true)) (hop : Hid (2 ≤ op ∧ op ≤ 9)) (hrr : Hid (eqb (band (rk op v m l g v' m' l' g').1 (rk op v m l g v' m' l' g').2.1) zero = true)) (ho : Hid (normOk (rk op v m l g v' m' l' g').1 (rk op v m l g v' m' l' g').2.1 (rk op v m l g v' m' l' g').2.2.1 (rk op v m l g v' m' l' g').2.2.2 = true)) (w : World) :
    Calls Try.prog 82 #[N op, Vl v m l g, Vl v' m' l' g'] w fun e w' => e = .returned (.tuple #[Vl (nV (rk op v m l g v' m' l' g').1 (rk op v m l g v' m' l' g').2.1 (rk op v m l g v' m' l' g').2.2.1 (rk op v m l g v' m' l' g').2.2.2) (nM (rk op v m l g v' m' l' g').2.1 (nLo (rk op v m l g v' m' l' g').1 (rk op v m l g v' m' l' g').2.1 (rk op v m l g v' m' l' g').2.2.1) (nHi (rk op v m l g v' m' l' g').1 (rk op v m l g v' m' l' g').2.1 (rk op v m l g v' m' l' g').2.2.2)) (nLo (rk op v m l g v' m' l' g').1 (rk op v m l g v' m' l' g').2.1 (rk op v m l g v' m' l' g').2.2.1) (nHi (rk op v m l g v' m' l' g').1 (rk op v m l g v' m' l' g').2.1 (rk op v m l g v' m' l' g').2.2.2), N 0]) ∧ Below w.heap.size w w' := by
  obtain ⟨z1, H1⟩ : ∃ b, Hid (valB v m l g = b) := ⟨_, rfl⟩
  obtain ⟨z2, H2⟩ : ∃ b, Hid (valB v' m' l' g' = b) := ⟨_, rfl⟩
  have hb := two_checked hr.out
  have hb' := hb
  rw [Bool.and_eq_true] at hb'
  have HR : Hid (∀ w, Calls Try.prog 120 #[N op, Vl v m l g, Vl v' m' l' g'] w fun e w' => e = .returned (.tuple #[Vl (rk op v m l g v' m' l' g').1 (rk op v m l g v' m' l' g').2.1 (rk op v m l g v' m' l' g').2.2.1 (rk op v m l g v' m' l' g').2.2.2, N 0]) ∧ Below w.heap.size w w') := fun w => by
    by_cases h : op = 8 ∨ op = 9
    · exact reckon_shift h v' m' l' g' hb'.1 w
    · exact reckon_two (hid (by have := hop.out; omega)) hb w
  clear hb hb' hop
  generalize rk op v m l g v' m' l' g' = S at HR hrr ho ⊢
  obtain ⟨sa, sb, sc, sd⟩ := S
  dsimp only at HR hrr ho ⊢
  have HN : Hid (∀ w, Calls Try.prog 65 #[Vl sa sb sc sd] w fun e w' => e = .returned (.tuple #[Vl (nV sa sb sc sd) (nM sb (nLo sa sb sc) (nHi sa sb sd)) (nLo sa sb sc) (nHi sa sb sd), .bool true, N 0]) ∧ Below w.heap.size w w') := fun w => norm_yes hrr ho w
  generalize nV sa sb sc sd = na at HN ⊢
  generalize nM sb (nLo sa sb sc) (nHi sa sb sd) = nb at HN ⊢
  generalize nLo sa sb sc = nc at HN ⊢
  generalize nHi sa sb sd = nd at HN ⊢
  rw [H1.out, H2.out] at hr
  go_enter Try.func82, Try.ntmps82
  go_wp2_with fail
  refine (vcheck2 H1 H2 (by simp) (by simp [go_sem]) (by simp [go_sem]) (by simp [go_sem]) (by simp [go_sem]) (by simp [go_sem]) (by simp [go_sem]) (by simp [go_sem]) (by simp [go_sem])).mono ?_
  rw [hr.out, er_t]
  rintro e w1 ⟨rfl, hb1⟩
  have hK := (((((Kp.start w).add4 _ _ _ _ _).add4 _ _ _ _ _).add4 _ _ _ _ _).keep ((Below.refl _ _).alloc (Nat.le_refl _) _)).keep hb1
  simp only [World.size_alloc] at hK
  obtain ⟨r0, r1, r2, r3, r4, r5, r6, r7, r8⟩ := hK.box.head.four
  obtain ⟨b0, b1, b2, b3, b4, b5, b6, b7, b8⟩ := hK.box.tail.head.four
  obtain ⟨a0, a1, a2, a3, a4, a5, a6, a7, a8⟩ := hK.box.tail.tail.head.four
  go_wp2_with fail
  refine (HR.out _).mono ?_
  rintro e w2 ⟨rfl, hb2⟩
  have hK2 := hK.keep hb2
  clear r0 r1 r2 r3 r4 r5 r6 r7 r8 b0 b1 b2 b3 b4 b5 b6 b7 b8 a0 a1 a2 a3 a4 a5 a6 a7 a8
  obtain ⟨r0, r1, r2, r3, r4, r5, r6, r7, r8⟩ := hK2.box.head.four
  obtain ⟨b0, b1, b2, b3, b4, b5, b6, b7, b8⟩ := hK2.box.tail.head.four
  obtain ⟨a0, a1, a2, a3, a4, a5, a6, a7, a8⟩ := hK2.box.tail.tail.head.four
  go_wp2_with fail
  refine (HN.out _).mono ?_
  rintro e w3 ⟨rfl, hb3⟩
  have hK3 := (hK2.add4 _ _ _ _ _).keep hb3
  clear r0 r1 r2 r3 r4 r5 r6 r7 r8 b0 b1 b2 b3 b4 b5 b6 b7 b8 a0 a1 a2 a3 a4 a5 a6 a7 a8
  obtain ⟨k0, k1, k2, k3, k4, k5, k6, k7, k8⟩ := hK3.box.head.four
  obtain ⟨r0, r1, r2, r3, r4, r5, r6, r7, r8⟩ := hK3.box.tail.head.four
  obtain ⟨b0, b1, b2, b3, b4, b5, b6, b7, b8⟩ := hK3.box.tail.tail.head.four
  obtain ⟨a0, a1, a2, a3, a4, a5, a6, a7, a8⟩ := hK3.box.tail.tail.tail.head.four
  go_wp2_with fail
  exact bodyPost_ret (v := .tuple #[Vl na nb nc nd, N 0]) (by simp [results, Try.results82, go_sem, r0, r1, r2, r3, r8]) rfl ⟨rfl, ((hK3.set4 1 rfl).add4 _ _ _ _ _).bel⟩

end Go.Proofs.Ytkigmocchaikgab

/- The contracts of package calc's between and without. -/
namespace Go.Proofs.Ytkigmocchaikgab
open Go.RowKit
attribute [local go_sem] w_and w_or w_xor w_andNot w_and1 w_and63 w_add w_sub w_mul w_sub1 w_add1 w_shl w_shl1 w_shr c_beq c_bne c_beq0 c_bne0 c_beq1 c_bne1 wrap_nv

set_option maxRecDepth 100000 in
set_option maxHeartbeats 1000000 in
theorem between_any (v m l g lo hi : BitVec 64) (w : World) :
    Calls Try.prog 117 #[Vl v m l g, U lo, U hi] w fun e w' => e = .returned (Vl v m (bmax l lo) (bmin g hi)) ∧ Below w.heap.size w w' := by
  by_cases h1 : nv l < nv lo <;> by_cases h2 : nv hi < nv g
  · have e1 : Hid (bmax l lo = lo) := if_pos h1
    have e2 : Hid (bmin g hi = hi) := if_pos h2
    rw [e1.out, e2.out]
    go_enter Try.func117, Try.ntmps117
    go_wp2_with fail
    exact bodyPost_ret (v := Vl v m lo hi) (by simp [results, Try.results117, go_sem]) rfl ⟨rfl, (by repeat (first | exact Below.refl _ _ | assumption | refine below_drewN ?_ _ | refine Below.drew ?_ | refine Below.alloc ?_ (by first | exact Nat.le_refl _ | (simp; done) | (simp; omega) | omega) _ | refine Below.setCell ?_ (by first | exact Nat.le_refl _ | (simp; done) | (simp; omega) | omega) _ | refine Below.trans ?_ (Below.mono (by assumption) (by first | exact Nat.le_refl _ | (simp; done) | (simp; omega) | omega))))⟩
  · have e1 : Hid (bmax l lo = lo) := if_pos h1
    have e2 : Hid (bmin g hi = g) := if_neg h2
    have h2' : nv g ≤ nv hi := by omega
    clear h2
    rw [e1.out, e2.out]
    go_enter Try.func117, Try.ntmps117
    go_wp2_with fail
    exact bodyPost_ret (v := Vl v m lo g) (by simp [results, Try.results117, go_sem]) rfl ⟨rfl, (by repeat (first | exact Below.refl _ _ | assumption | refine below_drewN ?_ _ | refine Below.drew ?_ | refine Below.alloc ?_ (by first | exact Nat.le_refl _ | (simp; done) | (simp; omega) | omega) _ | refine Below.setCell ?_ (by first | exact Nat.le_refl _ | (simp; done) | (simp; omega) | omega) _ | refine Below.trans ?_ (Below.mono (by assumption) (by first | exact Nat.le_refl _ | (simp; done) | (simp; omega) | omega))))⟩
  · have e1 : Hid (bmax l lo = l) := if_neg h1
    have e2 : Hid (bmin g hi = hi) := if_pos h2
    have h1' : nv lo ≤ nv l := by omega
    clear h1
    rw [e1.out, e2.out]
    go_enter Try.func117, Try.ntmps117
    go_wp2_with fail
    exact bodyPost_ret (v := Vl v m l hi) (by simp [results, Try.results117, go_sem]) rfl ⟨rfl, (by repeat (first | exact Below.refl _ _ | assumption | refine below_drewN ?_ _ | refine Below.drew ?_ | refine Below.alloc ?_ (by first | exact Nat.le_refl _ | (simp; done) | (simp; omega) | omega) _ | refine Below.setCell ?_ (by first | exact Nat.le_refl _ | (simp; done) | (simp; omega) | omega) _ | refine Below.trans ?_ (Below.mono (by assumption) (by first | exact Nat.le_refl _ | (simp; done) | (simp; omega) | omega))))⟩
  · have e1 : Hid (bmax l lo = l) := if_neg h1
    have e2 : Hid (bmin g hi = g) := if_neg h2
    have h1' : nv lo ≤ nv l := by omega
    have h2' : nv g ≤ nv hi := by omega
    clear h1 h2
    rw [e1.out, e2.out]
    go_enter Try.func117, Try.ntmps117
    go_wp2_with fail
    exact bodyPost_ret (v := Vl v m l g) (by simp [results, Try.results117, go_sem]) rfl ⟨rfl, (by repeat (first | exact Below.refl _ _ | assumption | refine below_drewN ?_ _ | refine Below.drew ?_ | refine Below.alloc ?_ (by first | exact Nat.le_refl _ | (simp; done) | (simp; omega) | omega) _ | refine Below.setCell ?_ (by first | exact Nat.le_refl _ | (simp; done) | (simp; omega) | omega) _ | refine Below.trans ?_ (Below.mono (by assumption) (by first | exact Nat.le_refl _ | (simp; done) | (simp; omega) | omega))))⟩

def woL (l l' h' : BitVec 64) : BitVec 64 := if eqb l' h' && eqb l l' then badd l one else l
def woH (l h l' h' : BitVec 64) : BitVec 64 := if eqb l' h' && (!eqb l l' && eqb h l') then bsub h one else h
set_option maxRecDepth 100000 in
set_option maxHeartbeats 1000000 in
theorem without_is (v m l g v' m' l' g' : BitVec 64) (w : World) :
    Calls Try.prog 114 #[Vl v m l g, Vl v' m' l' g'] w fun e w' => e = .returned (Vl v m (woL l l' g') (woH l g l' g')) ∧ Below w.heap.size w w' := by
  have H1 : Hid (woL l l' g' = if eqb l' g' && eqb l l' then badd l one else l) := rfl
  have H2 : Hid (woH l g l' g' = if eqb l' g' && (!eqb l l' && eqb g l') then bsub g one else g) := rfl
  obtain ⟨z1, ha⟩ : ∃ b, Hid (eqb l' g' = b) := ⟨_, rfl⟩
  obtain ⟨z2, hb⟩ : ∃ b, eqb l l' = b := ⟨_, rfl⟩
  obtain ⟨z3, hc⟩ : ∃ b, eqb g l' = b := ⟨_, rfl⟩
  rw [ha.out, hb] at H1
  rw [ha.out, hb, hc] at H2
  cases z1
  · rw [H1.out, H2.out]
    go_enter Try.func114, Try.ntmps114
    go_wp2_with fail
    refine (alone_is ha.out _).mono ?_
    rintro e w1 ⟨rfl, hb1⟩
    have hK := ((((Kp.start w).add4 _ _ _ _ _).add4 _ _ _ _ _).add4 _ _ _ _ _).keep hb1
    simp only [World.size_alloc] at hK
    obtain ⟨r0, r1, r2, r3, r4, r5, r6, r7, r8⟩ := hK.box.head.four
    obtain ⟨b0, b1, b2, b3, b4, b5, b6, b7, b8⟩ := hK.box.tail.head.four
    obtain ⟨a0, a1, a2, a3, a4, a5, a6, a7, a8⟩ := hK.box.tail.tail.head.four
    go_wp2_with fail
    exact bodyPost_ret (v := Vl v m l g) (by simp [results, Try.results114, go_sem, r0, r1, r2, r3]) rfl ⟨rfl, (hK.set4 0 rfl).bel⟩
  · cases z2
    · cases z3
      · rw [H1.out, H2.out]
        go_enter Try.func114, Try.ntmps114
        go_wp2_with fail
        refine (alone_is ha.out _).mono ?_
        rintro e w1 ⟨rfl, hb1⟩
        have hK := ((((Kp.start w).add4 _ _ _ _ _).add4 _ _ _ _ _).add4 _ _ _ _ _).keep hb1
        simp only [World.size_alloc] at hK
        obtain ⟨r0, r1, r2, r3, r4, r5, r6, r7, r8⟩ := hK.box.head.four
        obtain ⟨b0, b1, b2, b3, b4, b5, b6, b7, b8⟩ := hK.box.tail.head.four
        obtain ⟨a0, a1, a2, a3, a4, a5, a6, a7, a8⟩ := hK.box.tail.tail.head.four
        go_wp2_with fail
        exact bodyPost_ret (v := Vl v m l g) (by simp [results, Try.results114, go_sem, r0, r1, r2, r3]) rfl ⟨rfl, (hK.set4 0 rfl).bel⟩
      · rw [H1.out, H2.out]
        go_enter Try.func114, Try.ntmps114
        go_wp2_with fail
        refine (alone_is ha.out _).mono ?_
        rintro e w1 ⟨rfl, hb1⟩
        have hK := ((((Kp.start w).add4 _ _ _ _ _).add4 _ _ _ _ _).add4 _ _ _ _ _).keep hb1
        simp only [World.size_alloc] at hK
        obtain ⟨r0, r1, r2, r3, r4, r5, r6, r7, r8⟩ := hK.box.head.four
        obtain ⟨b0, b1, b2, b3, b4, b5, b6, b7, b8⟩ := hK.box.tail.head.four
        obtain ⟨a0, a1, a2, a3, a4, a5, a6, a7, a8⟩ := hK.box.tail.tail.head.four
        go_wp2_with fail
        refine bodyPost_ret (v := Vl v m l (bsub g one)) (by simp [results, Try.results114, go_sem, r0, r1, r2, r3]) rfl ⟨rfl, ?_⟩
        exact ((((hK.bel.setCell (by dsimp only; omega) _).setCell (by dsimp only; omega) _).setCell (by dsimp only; omega) _).setCell (by dsimp only; omega) _).setCell (by dsimp only; omega) _
    · rw [H1.out, H2.out]
      go_enter Try.func114, Try.ntmps114
      go_wp2_with fail
      refine (alone_is ha.out _).mono ?_
      rintro e w1 ⟨rfl, hb1⟩
      have hK := ((((Kp.start w).add4 _ _ _ _ _).add4 _ _ _ _ _).add4 _ _ _ _ _).keep hb1
      simp only [World.size_alloc] at hK
      obtain ⟨r0, r1, r2, r3, r4, r5, r6, r7, r8⟩ := hK.box.head.four
      obtain ⟨b0, b1, b2, b3, b4, b5, b6, b7, b8⟩ := hK.box.tail.head.four
      obtain ⟨a0, a1, a2, a3, a4, a5, a6, a7, a8⟩ := hK.box.tail.tail.head.four
      go_wp2_with fail
      refine bodyPost_ret (v := Vl v m (badd l one) g) (by simp [results, Try.results114, go_sem, r0, r1, r2, r3]) rfl ⟨rfl, ?_⟩
      exact ((((hK.bel.setCell (by dsimp only; omega) _).setCell (by dsimp only; omega) _).setCell (by dsimp only; omega) _).setCell (by dsimp only; omega) _).setCell (by dsimp only; omega) _

end Go.Proofs.Ytkigmocchaikgab

/- What the one has and the other has, reckoned together, is within what reckon answers; what is left of both has them: plain facts. -/
namespace Go.Proofs.Ytkigmocchaikgab

theorem has_facts {v m l h x : BitVec 64} (hx : hasV v m l h x = true) : valB v m l h = true ∧ RtB v m ∧ hasB v m x = true ∧ nv l ≤ nv x ∧ nv x ≤ nv h := by
  unfold hasV at hx
  simp only [Bool.and_eq_true, decide_eq_true_eq] at hx
  exact ⟨hx.1, (val_facts hx.1).1, hx.2.1, hx.2.2.1, hx.2.2.2⟩
theorem raw_mk {v m l h x : BitVec 64} (h1 : hasB v m x = true) (h2 : nv l ≤ nv x) (h3 : nv x ≤ nv h) : rawV v m l h x = true := by
  unfold rawV; rw [h1]; simp only [Bool.true_and, Bool.and_eq_true, decide_eq_true_eq]; exact ⟨h2, h3⟩
theorem top_has (x : BitVec 64) : RtB zero top ∧ hasB zero top x = true := by
  have hr : RtB zero top := zero_rt top
  refine ⟨hr, (hasB_iff _ _ _).2 ⟨hr, fun j hj => ?_⟩⟩
  rw [bit_top _ hj, bit_zero]; cases bit x j <;> rfl
theorem rk_sound {op : Int} (hop : 2 ≤ op ∧ op ≤ 9) {v m l h v' m' l' h' x y : BitVec 64} (hx : hasV v m l h x = true) (hy : hasV v' m' l' h' y = true) :
    RtB (rk op v m l h v' m' l' h').1 (rk op v m l h v' m' l' h').2.1 ∧ rawV (rk op v m l h v' m' l' h').1 (rk op v m l h v' m' l' h').2.1 (rk op v m l h v' m' l' h').2.2.1 (rk op v m l h v' m' l' h').2.2.2 (numN op x y) = true := by
  obtain ⟨_, r1, b1, p1, p2⟩ := has_facts hx
  obtain ⟨_, r2, b2, q1, q2⟩ := has_facts hy
  by_cases h8 : op = 8
  · subst h8
    have hn : numN 8 x y = bshl x (six y) := by unfold numN; rw [if_neg (by decide), if_neg (by decide), if_pos rfl]
    rw [hn]
    cases ha : eqb l' h'
    · have e : rk 8 v m l h v' m' l' h' = (zero, top, zero, top) := by unfold rk; rw [if_pos rfl, ha]; rfl
      rw [e]
      exact ⟨(top_has zero).1, raw_mk (top_has _).2 (ends _).1 (ends _).2⟩
    · have e : rk 8 v m l h v' m' l' h' = (bshl v (six l'), bshl m (six l'), (shlB l h (six l')).1, (shlB l h (six l')).2) := by unfold rk; rw [if_pos rfl, ha]; rfl
      have hl : y = l' := by
        have := (eqb_iff _ _).1 ha
        rw [← this] at q2
        exact nv_inj _ _ (by omega)
      rw [e, hl]
      exact ⟨shl_rt r1 _, raw_mk (sound_shl b1 _) (shl_bounds _ p1 p2).1 (shl_bounds _ p1 p2).2⟩
  · by_cases h9 : op = 9
    · subst h9
      have hn : numN 9 x y = bshr x (six y) := by unfold numN; rw [if_neg (by decide), if_neg (by decide), if_neg (by decide)]
      rw [hn]
      cases ha : eqb l' h'
      · have e : rk 9 v m l h v' m' l' h' = (zero, top, zero, h) := by unfold rk; rw [if_neg (by decide), if_pos rfl, ha]; rfl
        rw [e]
        exact ⟨(top_has zero).1, raw_mk (top_has _).2 (ends _).1 (Int.le_trans (shr_le _ _) p2)⟩
      · have e : rk 9 v m l h v' m' l' h' = (bshr v (six l'), bshr m (six l'), bshr l (six l'), bshr h (six l')) := by unfold rk; rw [if_neg (by decide), if_pos rfl, ha]; rfl
        have hl : y = l' := by
          have := (eqb_iff _ _).1 ha
          rw [← this] at q2
          exact nv_inj _ _ (by omega)
        rw [e, hl]
        have hs := sound_shr b1 (six l')
        exact ⟨((hasB_iff _ _ _).1 hs).1, raw_mk hs (shr_bounds _ p1 p2).1 (shr_bounds _ p1 p2).2⟩
    · have h27 : 2 ≤ op ∧ op ≤ 7 := by omega
      have hn : numN op x y = numB op x y := by unfold numN; rw [if_neg (by omega), if_pos h27]
      have e : rk op v m l h v' m' l' h' = ((twoP op v m v' m').1, (twoP op v m v' m').2, (boundsP op l h l' h').1, (boundsP op l h l' h').2) := by
        unfold rk; rw [if_neg h8, if_neg h9]
      rw [hn, e]
      exact ⟨two_rt h27, raw_mk (sound_two h27 b1 b2) (bounds_sound h27 p1 p2 q1 q2).1 (bounds_sound h27 p1 p2 q1 q2).2⟩

/- Equal -/
theorem left_equal {v m l h v' m' l' h' x : BitVec 64} (hx : hasV v m l h x = true) (hy : hasV v' m' l' h' x = true) :
    eqb (bandn (bxor v v') (bor m m')) zero = true ∧ RtB (bor v v') (band m m') ∧ rawV (bor v v') (band m m') (bmax l l') (bmin h h') x = true := by
  obtain ⟨_, r1, b1, p1, p2⟩ := has_facts hx
  obtain ⟨_, r2, b2, q1, q2⟩ := has_facts hy
  have hs := sound_meet (x := x) r1 r2
  rw [b1, b2] at hs
  have hs' := hs.symm
  rw [Bool.and_self, Bool.and_eq_true] at hs'
  exact ⟨hs'.1, ((hasB_iff _ _ _).1 hs'.2).1, raw_mk hs'.2 (bmax_le p1 q1) (le_bmin p2 q2)⟩
/- Other -/
theorem alone_eq {l h y : BitVec 64} (ha : eqb l h = true) (h1 : nv l ≤ nv y) (h2 : nv y ≤ nv h) : y = l := by
  have := (eqb_iff _ _).1 ha
  rw [← this] at h2
  exact nv_inj _ _ (by omega)
theorem left_other {v m l h v' m' l' h' x y : BitVec 64} (hx : hasV v m l h x = true) (hy : hasV v' m' l' h' y = true) (hne : x ≠ y) : rawV v m (woL l l' h') (woH l h l' h') x = true := by
  obtain ⟨_, r1, b1, p1, p2⟩ := has_facts hx
  obtain ⟨_, r2, b2, q1, q2⟩ := has_facts hy
  have hnv : nv x ≠ nv y := fun e => hne (nv_inj _ _ e)
  have hlt := nv_lt x
  have hge := nv_nonneg x
  have hgl := nv_nonneg l
  have hlh := nv_lt h
  refine raw_mk b1 ?_ ?_
  · unfold woL
    split
    · rename_i hc
      rw [Bool.and_eq_true] at hc
      have e1 := alone_eq hc.1 q1 q2
      have e2 := (eqb_iff _ _).1 hc.2
      rw [e1, ← e2] at hnv
      rw [nv_add, nv_one]
      omega
    · exact p1
  · unfold woH
    split
    · rename_i hc
      rw [Bool.and_eq_true, Bool.and_eq_true] at hc
      have e1 := alone_eq hc.1 q1 q2
      have e2 := (eqb_iff _ _).1 hc.2.2
      rw [e1, ← e2] at hnv
      rw [nv_sub, nv_one]
      omega
    · exact p2
theorem may_other {v m l h v' m' l' h' x y : BitVec 64} (hx : hasV v m l h x = true) (hy : hasV v' m' l' h' y = true) (hne : x ≠ y) : (eqb l h && (eqb l' h' && eqb l l')) = false := by
  obtain ⟨_, r1, b1, p1, p2⟩ := has_facts hx
  obtain ⟨_, r2, b2, q1, q2⟩ := has_facts hy
  cases hc : (eqb l h && (eqb l' h' && eqb l l'))
  · rfl
  · exfalso
    rw [Bool.and_eq_true, Bool.and_eq_true] at hc
    have e1 := alone_eq hc.1 p1 p2
    have e2 := alone_eq hc.2.1 q1 q2
    have e3 := (eqb_iff _ _).1 hc.2.2
    exact hne (by rw [e1, e2, e3])
/- Less -/
theorem left_less {v m l h v' m' l' h' x y : BitVec 64} (hx : hasV v m l h x = true) (hy : hasV v' m' l' h' y = true) (hlt : nv x < nv y) :
    eqb h' zero = false ∧ eqb l top = false ∧ rawV v m (bmax l l) (bmin h (bsub h' one)) x = true ∧ rawV v' m' (bmax l' (badd l one)) (bmin h' h') y = true := by
  obtain ⟨_, r1, b1, p1, p2⟩ := has_facts hx
  obtain ⟨_, r2, b2, q1, q2⟩ := has_facts hy
  have hx0 := nv_nonneg x
  have hy1 := nv_lt y
  have hl0 := nv_nonneg l
  have hh := nv_lt h'
  refine ⟨?_, ?_, raw_mk b1 (bmax_le p1 p1) (le_bmin p2 ?_), raw_mk b2 (bmax_le q1 ?_) (le_bmin q2 q2)⟩
  · rw [eqb_false]
    intro e
    rw [e, nv_zero] at q2
    omega
  · rw [eqb_false]
    intro e
    rw [e, nv_top] at p1
    omega
  · rw [nv_sub, nv_one]; omega
  · rw [nv_add, nv_one]; omega
/- NotLess -/
theorem left_notLess {v m l h v' m' l' h' x y : BitVec 64} (hx : hasV v m l h x = true) (hy : hasV v' m' l' h' y = true) (hle : nv y ≤ nv x) :
    rawV v m (bmax l l') (bmin h h) x = true ∧ rawV v' m' (bmax l' l') (bmin h' h) y = true := by
  obtain ⟨_, r1, b1, p1, p2⟩ := has_facts hx
  obtain ⟨_, r2, b2, q1, q2⟩ := has_facts hy
  exact ⟨raw_mk b1 (bmax_le p1 (by omega)) (le_bmin p2 p2), raw_mk b2 (bmax_le q1 q1) (le_bmin q2 (by omega))⟩

end Go.Proofs.Ytkigmocchaikgab

/- Values and reckoning with them, as plain functions. -/
namespace Go.Proofs.Ytkigmocchaikgab

structure V4 where
  v : BitVec 64
  m : BitVec 64
  l : BitVec 64
  h : BitVec 64
theorem V4.ext' {a b : V4} (h1 : a.v = b.v) (h2 : a.m = b.m) (h3 : a.l = b.l) (h4 : a.h = b.h) : a = b := by cases a; cases b; simp_all
def V4.cs (a : V4) : List AC := [.u a.v, .u a.m, .u a.l, .u a.h]
def V4.z : V4 := ⟨zero, zero, zero, zero⟩
def V4.rt (a : V4) : Bool := eqb (band a.v a.m) zero
def V4.ok (a : V4) : Bool := valB a.v a.m a.l a.h
def V4.nok (a : V4) : Bool := normOk a.v a.m a.l a.h
def V4.nrm (a : V4) : V4 := ⟨nV a.v a.m a.l a.h, nM a.m (nLo a.v a.m a.l) (nHi a.v a.m a.h), nLo a.v a.m a.l, nHi a.v a.m a.h⟩
def V4.norm (a : V4) : V4 := if a.nok then a.nrm else V4.z
def V4.has (a : V4) (x : BitVec 64) : Bool := hasV a.v a.m a.l a.h x
def V4.of (x : BitVec 64) : V4 := ⟨x, zero, x, x⟩
def V4.any : V4 := ⟨zero, top, zero, top⟩
def V4.alone (a : V4) : Bool := eqb a.l a.h
def V4.rawJoin (a b : V4) : V4 := ⟨jV a.v a.m b.v b.m, jM a.v a.m b.v b.m, bmin a.l b.l, bmax a.h b.h⟩
def V4.join (a b : V4) : V4 := (a.rawJoin b).nrm
def V4.raw2 (op : Int) (a b : V4) : V4 :=
  ⟨(rk op a.v a.m a.l a.h b.v b.m b.l b.h).1, (rk op a.v a.m a.l a.h b.v b.m b.l b.h).2.1, (rk op a.v a.m a.l a.h b.v b.m b.l b.h).2.2.1, (rk op a.v a.m a.l a.h b.v b.m b.l b.h).2.2.2⟩
def V4.two (op : Int) (a b : V4) : V4 := (V4.raw2 op a b).norm
def lvV (p : Bool) (a : V4) : V4 := if p then a else V4.z
def left2 (may : Bool) (x y : V4) : V4 × V4 × Bool := (lvV (may && (x.nok && y.nok)) x.nrm, lvV (may && (x.nok && y.nok)) y.nrm, may && (x.nok && y.nok))
def V4.meets (a b : V4) : Bool := eqb (bandn (bxor a.v b.v) (bor a.m b.m)) zero
def V4.rawEqual (a b : V4) : V4 := ⟨bor a.v b.v, band a.m b.m, bmax a.l b.l, bmin a.h b.h⟩
def V4.equal (a b : V4) : V4 × V4 × Bool := if a.meets b then left2 true (a.rawEqual b) (a.rawEqual b) else (V4.z, V4.z, false)
def V4.without (a b : V4) : V4 := ⟨a.v, a.m, woL a.l b.l b.h, woH a.l a.h b.l b.h⟩
def V4.other (a b : V4) : V4 × V4 × Bool := left2 (!(a.alone && (b.alone && eqb a.l b.l))) (a.without b) (b.without a)
def V4.less (a b : V4) : V4 × V4 × Bool :=
  if eqb b.h zero || eqb a.l top then (V4.z, V4.z, false)
  else left2 true ⟨a.v, a.m, a.l, bmin a.h (bsub b.h one)⟩ ⟨b.v, b.m, bmax b.l (badd a.l one), b.h⟩
def V4.notLess (a b : V4) : V4 × V4 × Bool := left2 true ⟨a.v, a.m, bmax a.l b.l, a.h⟩ ⟨b.v, b.m, b.l, bmin b.h a.h⟩
def byteTop (n : Int) : BitVec 64 := if n = 8 then top else if n = 4 then 4294967295#64 else if n = 2 then 65535#64 else 255#64
def V4.bytes (n : Int) : V4 := ⟨zero, byteTop n, zero, byteTop n⟩

theorem bmax_self (x : BitVec 64) : bmax x x = x := by unfold bmax; split <;> rfl
theorem bmin_self (x : BitVec 64) : bmin x x = x := by unfold bmin; split <;> rfl
end Go.Proofs.Ytkigmocchaikgab

/- States of what may be, as plain functions. -/
namespace Go.Proofs.Ytkigmocchaikgab

structure St where
  live : Bool
  s : V6 Bool
  r : V6 V4
def St.cs (t : St) : List AC := [.b t.live, .b t.s.x0, .b t.s.x1, .b t.s.x2, .b t.s.x3, .b t.s.x4, .b t.s.x5,
  .u t.r.x0.v, .u t.r.x0.m, .u t.r.x0.l, .u t.r.x0.h, .u t.r.x1.v, .u t.r.x1.m, .u t.r.x1.l, .u t.r.x1.h, .u t.r.x2.v, .u t.r.x2.m, .u t.r.x2.l, .u t.r.x2.h,
  .u t.r.x3.v, .u t.r.x3.m, .u t.r.x3.l, .u t.r.x3.h, .u t.r.x4.v, .u t.r.x4.m, .u t.r.x4.l, .u t.r.x4.h, .u t.r.x5.v, .u t.r.x5.m, .u t.r.x5.l, .u t.r.x5.h]
def St.z : St := ⟨false, no6, V6.rep V4.z⟩
def St.e : St := ⟨true, no6, V6.rep V4.z⟩
/- what is wrong with a register; a state that is right -/
def badR (t : St) (j : Nat) : Bool := bif t.s.get j then !(t.r.get j).ok else !eqCs (t.r.get j).cs V4.z.cs
def St.ok (t : St) : Bool := (t.live || eqCs t.cs St.z.cs) && !anyFrom (badR t) 6
def St.wth (t : St) (d : Nat) (a : V4) : St := ⟨t.live, t.s.set d true, t.r.set d a⟩
def beginS : St := St.e.wth 1 V4.any
/- a register that the machine's is not one of -/
def lackR (t : St) (m : Mach) (j : Nat) : Bool := t.s.get j && !(m.s.get j && (t.r.get j).has (m.r.get j))
def St.has (t : St) (m : Mach) : Bool := t.ok && (t.live && (decide (machErr m = 0) && (decide (m.fin = 0) && !anyFrom (lackR t m) 6)))
def joinR (t u : St) (j : Nat) (b : St) : St := if t.s.get j && u.s.get j then b.wth j ((t.r.get j).join (u.r.get j)) else b
def joinFrom (t u : St) : Nat → St → St
  | 0, b => b
  | n + 1, b => joinFrom t u n (joinR t u (5 - n) b)
def St.join (t u : St) : St := if t.live then (if u.live then joinFrom t u 6 St.e else t) else u

/- a step, on what may be -/
def exitI : Ins := ⟨15, 0, 0, 0#64, 0⟩
def fineI (i : Ins) : Bool := kindB i && (inB i 65 && bareB i)
def srcV (i : Ins) (t : St) : V4 := if i.s = -1 then V4.of i.im else t.r.get i.s.toNat
def farS (i : Ins) (a : V4) : Bool := decide (nv (bsub 64#64 i.im) < nv (V4.two 2 a (V4.of (BitVec.ofInt 64 i.of))).h)
def trapS (i : Ins) (t : St) : Int :=
  if lacks (useOf i) t.s then 1
  else if i.op = 10 then (if farS i (t.r.get i.s.toNat) then 2 else 0)
  else if i.op = 11 then (if farS i (t.r.get i.d.toNat) then 2 else 0)
  else 0
def leftS (i : Ins) (t : St) (x : V4 × V4 × Bool) : St :=
  if x.2.2 then (if i.s = -1 then t.wth i.d.toNat x.1 else (t.wth i.d.toNat x.1).wth i.s.toNat x.2.1) else St.z
def goS (i : Ins) (t : St) : St × St :=
  if i.op = 10 then (t.wth i.d.toNat (V4.bytes (nv i.im)), St.z)
  else if i.op = 11 then (t, St.z)
  else if i.op = 12 then (St.z, t)
  else if i.op = 13 then (leftS i t ((t.r.get i.d.toNat).other (srcV i t)), leftS i t ((t.r.get i.d.toNat).equal (srcV i t)))
  else if i.op = 14 then (leftS i t ((t.r.get i.d.toNat).notLess (srcV i t)), leftS i t ((t.r.get i.d.toNat).less (srcV i t)))
  else if i.op = 15 then (St.z, St.z)
  else if i.op = 1 then (t.wth i.d.toNat (srcV i t), St.z)
  else (t.wth i.d.toNat (V4.two i.op (t.r.get i.d.toNat) (srcV i t)), St.z)
def stepS (i : Ins) (t : St) : St × St × Int :=
  if t.live then (if trapS i t = 0 then ((goS i t).1, (goS i t).2, 0) else (St.z, St.z, trapS i t)) else (St.z, St.z, 0)
def stepE (i : Ins) (t : St) : Int := if fineI i && t.ok then 0 else 1
def stepA (i : Ins) (t : St) : St × St × Int := if fineI i && t.ok then stepS i t else (St.z, St.z, 0)

theorem st_len (t : St) : t.cs.length = 31 := rfl
theorem st_get_r {t : St} {r : Int} (h : regB r = true) : List.take 4 (List.drop (7 + r.toNat * 4) t.cs) = (t.r.get r.toNat).cs :=
  reg_elim (P := fun r => List.take 4 (List.drop (7 + r.toNat * 4) t.cs) = (t.r.get r.toNat).cs) h rfl rfl rfl rfl rfl rfl
theorem st_set_s {t : St} {r : Int} (h : regB r = true) : t.cs.set (1 + r.toNat * 1) (.b true) = (St.mk t.live (t.s.set r.toNat true) t.r).cs :=
  reg_elim (P := fun r => t.cs.set (1 + r.toNat * 1) (.b true) = (St.mk t.live (t.s.set r.toNat true) t.r).cs) h rfl rfl rfl rfl rfl rfl
theorem st_set_r {t : St} {r : Int} (a : V4) (h : regB r = true) : splice t.cs (7 + r.toNat * 4) a.cs = (St.mk t.live t.s (t.r.set r.toNat a)).cs :=
  reg_elim (P := fun r => splice t.cs (7 + r.toNat * 4) a.cs = (St.mk t.live t.s (t.r.set r.toNat a)).cs) h rfl rfl rfl rfl rfl rfl
end Go.Proofs.Ytkigmocchaikgab

/- Ways of bodies, written by a program (ways.py): what each asks for, and hands back. -/
namespace Go.Proofs.Ytkigmocchaikgab
open Go.RowKit

theorem fwith_w0 {t : St} {d : Int} {a : V4} (h : (decide (0 ≤ d) && decide (d < 6) && (Nat.ble (1 + Int.toNat d * 1 + 1) (List.length (St.cs t)) && true && (decide (0 ≤ d) && decide (d < 6) && (Nat.ble (7 + Int.toNat d * 4 + List.length (V4.cs a)) (List.length (St.cs (St.mk (St.live t) (V6.set (St.s t) (Int.toNat d) true) (St.r t)))) && true && true)))) = true) (c0 : Eff.mk (AV.raw undef) [(0, List.set (St.cs t) (1 + Int.toNat d * 1) (AC.b true))] none = Eff.mk (AV.raw undef) [(0, St.cs (St.mk (St.live t) (V6.set (St.s t) (Int.toNat d) true) (St.r t)))] none) (c1 : Eff.mk (AV.raw undef) [(0, splice (St.cs (St.mk (St.live t) (V6.set (St.s t) (Int.toNat d) true) (St.r t))) (7 + Int.toNat d * 4) (V4.cs a))] none = Eff.mk (AV.raw undef) [(0, St.cs (St.wth t (Int.toNat d) a))] none) :
    CallOK Try.prog ⟨35, [AV.ag (St.cs t), AV.c (AC.i d), AV.ag (V4.cs a)], [], ⟨AV.ag [AC.b (St.live t), AC.b (V6.x0 (V6.set (St.s t) (Int.toNat d) true)), AC.b (V6.x1 (V6.set (St.s t) (Int.toNat d) true)), AC.b (V6.x2 (V6.set (St.s t) (Int.toNat d) true)), AC.b (V6.x3 (V6.set (St.s t) (Int.toNat d) true)), AC.b (V6.x4 (V6.set (St.s t) (Int.toNat d) true)), AC.b (V6.x5 (V6.set (St.s t) (Int.toNat d) true)), AC.u (V4.v (V6.x0 (V6.set (St.r t) (Int.toNat d) a))), AC.u (V4.m (V6.x0 (V6.set (St.r t) (Int.toNat d) a))), AC.u (V4.l (V6.x0 (V6.set (St.r t) (Int.toNat d) a))), AC.u (V4.h (V6.x0 (V6.set (St.r t) (Int.toNat d) a))), AC.u (V4.v (V6.x1 (V6.set (St.r t) (Int.toNat d) a))), AC.u (V4.m (V6.x1 (V6.set (St.r t) (Int.toNat d) a))), AC.u (V4.l (V6.x1 (V6.set (St.r t) (Int.toNat d) a))), AC.u (V4.h (V6.x1 (V6.set (St.r t) (Int.toNat d) a))), AC.u (V4.v (V6.x2 (V6.set (St.r t) (Int.toNat d) a))), AC.u (V4.m (V6.x2 (V6.set (St.r t) (Int.toNat d) a))), AC.u (V4.l (V6.x2 (V6.set (St.r t) (Int.toNat d) a))), AC.u (V4.h (V6.x2 (V6.set (St.r t) (Int.toNat d) a))), AC.u (V4.v (V6.x3 (V6.set (St.r t) (Int.toNat d) a))), AC.u (V4.m (V6.x3 (V6.set (St.r t) (Int.toNat d) a))), AC.u (V4.l (V6.x3 (V6.set (St.r t) (Int.toNat d) a))), AC.u (V4.h (V6.x3 (V6.set (St.r t) (Int.toNat d) a))), AC.u (V4.v (V6.x4 (V6.set (St.r t) (Int.toNat d) a))), AC.u (V4.m (V6.x4 (V6.set (St.r t) (Int.toNat d) a))), AC.u (V4.l (V6.x4 (V6.set (St.r t) (Int.toNat d) a))), AC.u (V4.h (V6.x4 (V6.set (St.r t) (Int.toNat d) a))), AC.u (V4.v (V6.x5 (V6.set (St.r t) (Int.toNat d) a))), AC.u (V4.m (V6.x5 (V6.set (St.r t) (Int.toNat d) a))), AC.u (V4.l (V6.x5 (V6.set (St.r t) (Int.toNat d) a))), AC.u (V4.h (V6.x5 (V6.set (St.r t) (Int.toNat d) a)))], [], none⟩⟩ :=
  val_run 2000 [Eff.mk (AV.raw undef) [(0, St.cs (St.mk (St.live t) (V6.set (St.s t) (Int.toNat d) true) (St.r t)))] none, Eff.mk (AV.raw undef) [(0, St.cs (St.wth t (Int.toNat d) a))] none] [] ([]) [(1, 5), (1, 8)] Try.func35 rfl rfl rfl rfl (by kernel_rfl) h (cr_same c0 (cr_same c1 cr_nil))
theorem fbegin_w0 {a : V4} {t : St} (c0 : CallOK Try.prog (CallRec.mk 39 [] [] (Eff.mk (AV.ag (V4.cs a)) [] none))) (c1 : CallOK Try.prog (CallRec.mk 35 [AV.ag (St.cs St.e), AV.c (AC.i 1), AV.ag (V4.cs a)] [] (Eff.mk (AV.ag (St.cs t)) [] none))) :
    CallOK Try.prog ⟨18, [], [], ⟨AV.ag (St.cs t), [], none⟩⟩ :=
  val_run 2000 [Eff.mk (AV.ag (V4.cs a)) [] none, Eff.mk (AV.ag (St.cs t)) [] none] [] ([]) [] Try.func18 rfl rfl rfl rfl (by kernel_rfl) rfl (cr_cons c0 (cr_cons c1 cr_nil))
theorem fcTop_w0 {t : St} {w : World} {β : Bs} {n : Nat} (h : (!St.live t && (!eqCs (St.cs t) (St.cs St.z) && true)) = true) :
    ART Try.prog 17 (cx w β n []) Try.f17.ntmps ([Item.code (bodyOf Try.f17)]) (Kn.start [AV.ag (St.cs t)] [] 0) (REff w β ⟨AV.c (AC.i 1), [], none⟩) :=
  run_eff [] (none) 2000 [] [true, true] ([true]) [] Try.func17 (ekeys0 rfl n) (by kernel_rfl) h cr_nil
theorem fcTop_w1 {t : St} {C : Cx} {R : Ending → World → Prop} (h : (!St.live t && (!!eqCs (St.cs t) (St.cs St.z) && true)) = true) (lo : Kn.Low ⟨[(1, AV.c (AC.w 0)), (14, AV.ag (bcs (St.s t))), (15, AV.c (AC.i 0))], [(0, Ent.mk true (St.cs t) 0)], 1⟩) (hF : ∀ k, C.F k → k < 1) (z : ART Try.prog 17 C Try.f17.ntmps (cutAt Try.f17 0) ⟨[(1, AV.c (AC.w 0)), (14, AV.ag (bcs (St.s t))), (15, AV.c (AC.i 0))], [(0, Ent.mk true (St.cs t) 0)], 1⟩ R) :
    ART Try.prog 17 C Try.f17.ntmps ([Item.code (bodyOf Try.f17)]) (Kn.start [AV.ag (St.cs t)] [] 0) R :=
  run_cut ⟨[(1, AV.c (AC.w 0)), (14, AV.ag (bcs (St.s t))), (15, AV.c (AC.i 0))], [(0, Ent.mk true (St.cs t) 0)], 1⟩ 2000 [] [true, false] ([true]) [] Try.func17 (by kernel_rfl) h cr_nil lo hF z
theorem fcTop_w2 {t : St} {C : Cx} {R : Ending → World → Prop} (h : (!!St.live t && true) = true) (lo : Kn.Low ⟨[(1, AV.c (AC.w 0)), (14, AV.ag (bcs (St.s t))), (15, AV.c (AC.i 0))], [(0, Ent.mk true (St.cs t) 0)], 1⟩) (hF : ∀ k, C.F k → k < 1) (z : ART Try.prog 17 C Try.f17.ntmps (cutAt Try.f17 0) ⟨[(1, AV.c (AC.w 0)), (14, AV.ag (bcs (St.s t))), (15, AV.c (AC.i 0))], [(0, Ent.mk true (St.cs t) 0)], 1⟩ R) :
    ART Try.prog 17 C Try.f17.ntmps ([Item.code (bodyOf Try.f17)]) (Kn.start [AV.ag (St.cs t)] [] 0) R :=
  run_cut ⟨[(1, AV.c (AC.w 0)), (14, AV.ag (bcs (St.s t))), (15, AV.c (AC.i 0))], [(0, Ent.mk true (St.cs t) 0)], 1⟩ 2000 [] [false, false] ([true]) [] Try.func17 (by kernel_rfl) h cr_nil lo hF z
theorem fcTop_all {t : St} {w : World} {β : Bs} {n : Nat} {E : Eff} (hn : n ≤ 1)
    (l0 : (!St.live t) = true → (!eqCs (St.cs t) (St.cs St.z)) = true → ((⟨AV.c (AC.i 1), [], none⟩ : Eff) = E))
    (l1 : (!St.live t) = true → (!eqCs (St.cs t) (St.cs St.z)) = false → Kn.Low ⟨[(1, AV.c (AC.w 0)), (14, AV.ag (bcs (St.s t))), (15, AV.c (AC.i 0))], [(0, Ent.mk true (St.cs t) 0)], 1⟩ ∧ ART Try.prog 17 (cx w β n []) Try.f17.ntmps (cutAt Try.f17 0) ⟨[(1, AV.c (AC.w 0)), (14, AV.ag (bcs (St.s t))), (15, AV.c (AC.i 0))], [(0, Ent.mk true (St.cs t) 0)], 1⟩ (REff w β E))
    (l2 : (!St.live t) = false → Kn.Low ⟨[(1, AV.c (AC.w 0)), (14, AV.ag (bcs (St.s t))), (15, AV.c (AC.i 0))], [(0, Ent.mk true (St.cs t) 0)], 1⟩ ∧ ART Try.prog 17 (cx w β n []) Try.f17.ntmps (cutAt Try.f17 0) ⟨[(1, AV.c (AC.w 0)), (14, AV.ag (bcs (St.s t))), (15, AV.c (AC.i 0))], [(0, Ent.mk true (St.cs t) 0)], 1⟩ (REff w β E)) :
    ART Try.prog 17 (cx w β n []) Try.f17.ntmps ([Item.code (bodyOf Try.f17)]) (Kn.start [AV.ag (St.cs t)] [] 0) (REff w β E) :=
  (tf (!St.live t)).elim (fun h0 => (tf (!eqCs (St.cs t) (St.cs St.z))).elim (fun h1 => (match l0 h0 h1 with | e => art_eq (fcTop_w0 (and_yes h0 (and_yes h1 rfl))) e)) (fun h1 => (match l1 h0 h1 with | ⟨lo, z⟩ => fcTop_w1 (and_yes h0 (and_yes (not_yes h1) rfl)) lo (fun _ hk => Nat.lt_of_lt_of_le hk hn) z))) (fun h0 => (match l2 h0 with | ⟨lo, z⟩ => fcTop_w2 (and_yes (not_yes h0) rfl) lo (fun _ hk => Nat.lt_of_lt_of_le hk hn) z))
theorem fcRound_w0 {t : St} {j : Int} {w : World} {β : Bs} {n : Nat} (h : (decide (j < 6) && (AC.isB (Option.getD (bcs (St.s t))[Int.toNat j * 1]? (AC.b false)) && Nat.blt (Int.toNat j * 1) (List.length (bcs (St.s t))) && (decide (0 ≤ j) && decide (j < 6)) && (V6.get (St.s t) (Int.toNat j) && (decide (0 ≤ j) && decide (j < 6) && (Nat.ble (7 + Int.toNat j * 4 + 4) (List.length (St.cs t)) && (er (V4.ok (V6.get (St.r t) (Int.toNat j))) != 0 && true)))))) = true) (c0 : Eff.mk (AV.c (AC.b (AC.asB (Option.getD (bcs (St.s t))[Int.toNat j * 1]? (AC.b false))))) [] none = Eff.mk (AV.c (AC.b (V6.get (St.s t) (Int.toNat j)))) [] none) (c1 : Eff.mk (AV.ag (List.take 4 (List.drop (7 + Int.toNat j * 4) (St.cs t)))) [] none = Eff.mk (AV.ag (V4.cs (V6.get (St.r t) (Int.toNat j)))) [] none) (c2 : CallOK Try.prog (CallRec.mk 38 [AV.ag (V4.cs (V6.get (St.r t) (Int.toNat j)))] [] (Eff.mk (AV.c (AC.i (er (V4.ok (V6.get (St.r t) (Int.toNat j)))))) [] none))) :
    ART Try.prog 17 (cx w β n []) Try.f17.ntmps (cutAt Try.f17 0) (Kn.mk [(1, AV.c (AC.w 0)), (14, AV.ag (bcs (St.s t))), (15, AV.c (AC.i j))] [(0, Ent.mk true (St.cs t) 0)] 1) (REff w β ⟨AV.c (AC.i 1), [], none⟩) :=
  run_eff [] (none) 2000 [Eff.mk (AV.c (AC.b (V6.get (St.s t) (Int.toNat j)))) [] none, Eff.mk (AV.ag (V4.cs (V6.get (St.r t) (Int.toNat j)))) [] none, Eff.mk (AV.c (AC.i (er (V4.ok (V6.get (St.r t) (Int.toNat j)))))) [] none] [true, true, true, true] ([true]) [(5, 1), (6, 5), (6, 16)] Try.func17 (ekeys0 rfl n) (by kernel_rfl) h (cr_same c0 (cr_same c1 (cr_cons c2 cr_nil)))
theorem fcRound_w1 {t : St} {j : Int} {C : Cx} {R : Ending → World → Prop} (h : (decide (j < 6) && (AC.isB (Option.getD (bcs (St.s t))[Int.toNat j * 1]? (AC.b false)) && Nat.blt (Int.toNat j * 1) (List.length (bcs (St.s t))) && (decide (0 ≤ j) && decide (j < 6)) && (V6.get (St.s t) (Int.toNat j) && (decide (0 ≤ j) && decide (j < 6) && (Nat.ble (7 + Int.toNat j * 4 + 4) (List.length (St.cs t)) && (!er (V4.ok (V6.get (St.r t) (Int.toNat j))) != 0 && (!!V6.get (St.s t) (Int.toNat j) && true))))))) = true) (c0 : Eff.mk (AV.c (AC.b (AC.asB (Option.getD (bcs (St.s t))[Int.toNat j * 1]? (AC.b false))))) [] none = Eff.mk (AV.c (AC.b (V6.get (St.s t) (Int.toNat j)))) [] none) (c1 : Eff.mk (AV.ag (List.take 4 (List.drop (7 + Int.toNat j * 4) (St.cs t)))) [] none = Eff.mk (AV.ag (V4.cs (V6.get (St.r t) (Int.toNat j)))) [] none) (c2 : CallOK Try.prog (CallRec.mk 38 [AV.ag (V4.cs (V6.get (St.r t) (Int.toNat j)))] [] (Eff.mk (AV.c (AC.i (er (V4.ok (V6.get (St.r t) (Int.toNat j)))))) [] none))) (lo : Kn.Low ⟨[(1, AV.c (AC.w 0)), (14, AV.ag (bcs (St.s t))), (15, AV.c (AC.i (IntKind.wrap IntKind.i64 (j + 1))))], [(0, Ent.mk true (St.cs t) 0)], 1⟩) (hF : ∀ k, C.F k → k < 1) (z : ART Try.prog 17 C Try.f17.ntmps (cutAt Try.f17 0) ⟨[(1, AV.c (AC.w 0)), (14, AV.ag (bcs (St.s t))), (15, AV.c (AC.i (IntKind.wrap IntKind.i64 (j + 1))))], [(0, Ent.mk true (St.cs t) 0)], 1⟩ R) :
    ART Try.prog 17 C Try.f17.ntmps (cutAt Try.f17 0) (Kn.mk [(1, AV.c (AC.w 0)), (14, AV.ag (bcs (St.s t))), (15, AV.c (AC.i j))] [(0, Ent.mk true (St.cs t) 0)] 1) R :=
  run_cut ⟨[(1, AV.c (AC.w 0)), (14, AV.ag (bcs (St.s t))), (15, AV.c (AC.i (IntKind.wrap IntKind.i64 (j + 1))))], [(0, Ent.mk true (St.cs t) 0)], 1⟩ 2000 [Eff.mk (AV.c (AC.b (V6.get (St.s t) (Int.toNat j)))) [] none, Eff.mk (AV.ag (V4.cs (V6.get (St.r t) (Int.toNat j)))) [] none, Eff.mk (AV.c (AC.i (er (V4.ok (V6.get (St.r t) (Int.toNat j)))))) [] none] [true, true, false, false, false] ([true]) [(5, 1), (6, 5), (6, 16)] Try.func17 (by kernel_rfl) h (cr_same c0 (cr_same c1 (cr_cons c2 cr_nil))) lo hF z
theorem fcRound_w2 {t : St} {j : Int} {w : World} {β : Bs} {n : Nat} (h : (decide (j < 6) && (AC.isB (Option.getD (bcs (St.s t))[Int.toNat j * 1]? (AC.b false)) && Nat.blt (Int.toNat j * 1) (List.length (bcs (St.s t))) && (decide (0 ≤ j) && decide (j < 6)) && (!V6.get (St.s t) (Int.toNat j) && (!V6.get (St.s t) (Int.toNat j) && (decide (0 ≤ j) && decide (j < 6) && (Nat.ble (7 + Int.toNat j * 4 + 4) (List.length (St.cs t)) && (!eqCs (V4.cs (V6.get (St.r t) (Int.toNat j))) [AC.u 0#64, AC.u 0#64, AC.u 0#64, AC.u 0#64] && true))))))) = true) (c0 : Eff.mk (AV.c (AC.b (AC.asB (Option.getD (bcs (St.s t))[Int.toNat j * 1]? (AC.b false))))) [] none = Eff.mk (AV.c (AC.b (V6.get (St.s t) (Int.toNat j)))) [] none) (c1 : Eff.mk (AV.ag (List.take 4 (List.drop (7 + Int.toNat j * 4) (St.cs t)))) [] none = Eff.mk (AV.ag (V4.cs (V6.get (St.r t) (Int.toNat j)))) [] none) :
    ART Try.prog 17 (cx w β n []) Try.f17.ntmps (cutAt Try.f17 0) (Kn.mk [(1, AV.c (AC.w 0)), (14, AV.ag (bcs (St.s t))), (15, AV.c (AC.i j))] [(0, Ent.mk true (St.cs t) 0)] 1) (REff w β ⟨AV.c (AC.i 1), [], none⟩) :=
  run_eff [] (none) 2000 [Eff.mk (AV.c (AC.b (V6.get (St.s t) (Int.toNat j)))) [] none, Eff.mk (AV.ag (V4.cs (V6.get (St.r t) (Int.toNat j)))) [] none] [true, false, false, true, true] ([true]) [(5, 1), (6, 5), (6, 16)] Try.func17 (ekeys0 rfl n) (by kernel_rfl) h (cr_same c0 (cr_same c1 cr_nil))
theorem fcRound_w3 {t : St} {j : Int} {C : Cx} {R : Ending → World → Prop} (h : (decide (j < 6) && (AC.isB (Option.getD (bcs (St.s t))[Int.toNat j * 1]? (AC.b false)) && Nat.blt (Int.toNat j * 1) (List.length (bcs (St.s t))) && (decide (0 ≤ j) && decide (j < 6)) && (!V6.get (St.s t) (Int.toNat j) && (!V6.get (St.s t) (Int.toNat j) && (decide (0 ≤ j) && decide (j < 6) && (Nat.ble (7 + Int.toNat j * 4 + 4) (List.length (St.cs t)) && (!!eqCs (V4.cs (V6.get (St.r t) (Int.toNat j))) [AC.u 0#64, AC.u 0#64, AC.u 0#64, AC.u 0#64] && true))))))) = true) (c0 : Eff.mk (AV.c (AC.b (AC.asB (Option.getD (bcs (St.s t))[Int.toNat j * 1]? (AC.b false))))) [] none = Eff.mk (AV.c (AC.b (V6.get (St.s t) (Int.toNat j)))) [] none) (c1 : Eff.mk (AV.ag (List.take 4 (List.drop (7 + Int.toNat j * 4) (St.cs t)))) [] none = Eff.mk (AV.ag (V4.cs (V6.get (St.r t) (Int.toNat j)))) [] none) (lo : Kn.Low ⟨[(1, AV.c (AC.w 0)), (14, AV.ag (bcs (St.s t))), (15, AV.c (AC.i (IntKind.wrap IntKind.i64 (j + 1))))], [(0, Ent.mk true (St.cs t) 0)], 1⟩) (hF : ∀ k, C.F k → k < 1) (z : ART Try.prog 17 C Try.f17.ntmps (cutAt Try.f17 0) ⟨[(1, AV.c (AC.w 0)), (14, AV.ag (bcs (St.s t))), (15, AV.c (AC.i (IntKind.wrap IntKind.i64 (j + 1))))], [(0, Ent.mk true (St.cs t) 0)], 1⟩ R) :
    ART Try.prog 17 C Try.f17.ntmps (cutAt Try.f17 0) (Kn.mk [(1, AV.c (AC.w 0)), (14, AV.ag (bcs (St.s t))), (15, AV.c (AC.i j))] [(0, Ent.mk true (St.cs t) 0)] 1) R :=
  run_cut ⟨[(1, AV.c (AC.w 0)), (14, AV.ag (bcs (St.s t))), (15, AV.c (AC.i (IntKind.wrap IntKind.i64 (j + 1))))], [(0, Ent.mk true (St.cs t) 0)], 1⟩ 2000 [Eff.mk (AV.c (AC.b (V6.get (St.s t) (Int.toNat j)))) [] none, Eff.mk (AV.ag (V4.cs (V6.get (St.r t) (Int.toNat j)))) [] none] [true, false, false, true, false] ([true]) [(5, 1), (6, 5), (6, 16)] Try.func17 (by kernel_rfl) h (cr_same c0 (cr_same c1 cr_nil)) lo hF z
theorem fcRound_all {t : St} {j : Int} {w : World} {β : Bs} {n : Nat} {E : Eff} (hn : n ≤ 1)
    (l0 : (V6.get (St.s t) (Int.toNat j)) = true → (er (V4.ok (V6.get (St.r t) (Int.toNat j))) != 0) = true → (decide (j < 6)) = true ∧ (AC.isB (Option.getD (bcs (St.s t))[Int.toNat j * 1]? (AC.b false)) && Nat.blt (Int.toNat j * 1) (List.length (bcs (St.s t))) && (decide (0 ≤ j) && decide (j < 6))) = true ∧ (decide (0 ≤ j) && decide (j < 6)) = true ∧ (Nat.ble (7 + Int.toNat j * 4 + 4) (List.length (St.cs t))) = true ∧ (Eff.mk (AV.c (AC.b (AC.asB (Option.getD (bcs (St.s t))[Int.toNat j * 1]? (AC.b false))))) [] none = Eff.mk (AV.c (AC.b (V6.get (St.s t) (Int.toNat j)))) [] none) ∧ (Eff.mk (AV.ag (List.take 4 (List.drop (7 + Int.toNat j * 4) (St.cs t)))) [] none = Eff.mk (AV.ag (V4.cs (V6.get (St.r t) (Int.toNat j)))) [] none) ∧ (CallOK Try.prog (CallRec.mk 38 [AV.ag (V4.cs (V6.get (St.r t) (Int.toNat j)))] [] (Eff.mk (AV.c (AC.i (er (V4.ok (V6.get (St.r t) (Int.toNat j)))))) [] none))) ∧ ((⟨AV.c (AC.i 1), [], none⟩ : Eff) = E))
    (l1 : (V6.get (St.s t) (Int.toNat j)) = true → (er (V4.ok (V6.get (St.r t) (Int.toNat j))) != 0) = false → (decide (j < 6)) = true ∧ (AC.isB (Option.getD (bcs (St.s t))[Int.toNat j * 1]? (AC.b false)) && Nat.blt (Int.toNat j * 1) (List.length (bcs (St.s t))) && (decide (0 ≤ j) && decide (j < 6))) = true ∧ (decide (0 ≤ j) && decide (j < 6)) = true ∧ (Nat.ble (7 + Int.toNat j * 4 + 4) (List.length (St.cs t))) = true ∧ (!!V6.get (St.s t) (Int.toNat j)) = true ∧ (Eff.mk (AV.c (AC.b (AC.asB (Option.getD (bcs (St.s t))[Int.toNat j * 1]? (AC.b false))))) [] none = Eff.mk (AV.c (AC.b (V6.get (St.s t) (Int.toNat j)))) [] none) ∧ (Eff.mk (AV.ag (List.take 4 (List.drop (7 + Int.toNat j * 4) (St.cs t)))) [] none = Eff.mk (AV.ag (V4.cs (V6.get (St.r t) (Int.toNat j)))) [] none) ∧ (CallOK Try.prog (CallRec.mk 38 [AV.ag (V4.cs (V6.get (St.r t) (Int.toNat j)))] [] (Eff.mk (AV.c (AC.i (er (V4.ok (V6.get (St.r t) (Int.toNat j)))))) [] none))) ∧ Kn.Low ⟨[(1, AV.c (AC.w 0)), (14, AV.ag (bcs (St.s t))), (15, AV.c (AC.i (IntKind.wrap IntKind.i64 (j + 1))))], [(0, Ent.mk true (St.cs t) 0)], 1⟩ ∧ ART Try.prog 17 (cx w β n []) Try.f17.ntmps (cutAt Try.f17 0) ⟨[(1, AV.c (AC.w 0)), (14, AV.ag (bcs (St.s t))), (15, AV.c (AC.i (IntKind.wrap IntKind.i64 (j + 1))))], [(0, Ent.mk true (St.cs t) 0)], 1⟩ (REff w β E))
    (l2 : (V6.get (St.s t) (Int.toNat j)) = false → (!eqCs (V4.cs (V6.get (St.r t) (Int.toNat j))) [AC.u 0#64, AC.u 0#64, AC.u 0#64, AC.u 0#64]) = true → (decide (j < 6)) = true ∧ (AC.isB (Option.getD (bcs (St.s t))[Int.toNat j * 1]? (AC.b false)) && Nat.blt (Int.toNat j * 1) (List.length (bcs (St.s t))) && (decide (0 ≤ j) && decide (j < 6))) = true ∧ (decide (0 ≤ j) && decide (j < 6)) = true ∧ (Nat.ble (7 + Int.toNat j * 4 + 4) (List.length (St.cs t))) = true ∧ (Eff.mk (AV.c (AC.b (AC.asB (Option.getD (bcs (St.s t))[Int.toNat j * 1]? (AC.b false))))) [] none = Eff.mk (AV.c (AC.b (V6.get (St.s t) (Int.toNat j)))) [] none) ∧ (Eff.mk (AV.ag (List.take 4 (List.drop (7 + Int.toNat j * 4) (St.cs t)))) [] none = Eff.mk (AV.ag (V4.cs (V6.get (St.r t) (Int.toNat j)))) [] none) ∧ ((⟨AV.c (AC.i 1), [], none⟩ : Eff) = E))
    (l3 : (V6.get (St.s t) (Int.toNat j)) = false → (!eqCs (V4.cs (V6.get (St.r t) (Int.toNat j))) [AC.u 0#64, AC.u 0#64, AC.u 0#64, AC.u 0#64]) = false → (decide (j < 6)) = true ∧ (AC.isB (Option.getD (bcs (St.s t))[Int.toNat j * 1]? (AC.b false)) && Nat.blt (Int.toNat j * 1) (List.length (bcs (St.s t))) && (decide (0 ≤ j) && decide (j < 6))) = true ∧ (decide (0 ≤ j) && decide (j < 6)) = true ∧ (Nat.ble (7 + Int.toNat j * 4 + 4) (List.length (St.cs t))) = true ∧ (Eff.mk (AV.c (AC.b (AC.asB (Option.getD (bcs (St.s t))[Int.toNat j * 1]? (AC.b false))))) [] none = Eff.mk (AV.c (AC.b (V6.get (St.s t) (Int.toNat j)))) [] none) ∧ (Eff.mk (AV.ag (List.take 4 (List.drop (7 + Int.toNat j * 4) (St.cs t)))) [] none = Eff.mk (AV.ag (V4.cs (V6.get (St.r t) (Int.toNat j)))) [] none) ∧ Kn.Low ⟨[(1, AV.c (AC.w 0)), (14, AV.ag (bcs (St.s t))), (15, AV.c (AC.i (IntKind.wrap IntKind.i64 (j + 1))))], [(0, Ent.mk true (St.cs t) 0)], 1⟩ ∧ ART Try.prog 17 (cx w β n []) Try.f17.ntmps (cutAt Try.f17 0) ⟨[(1, AV.c (AC.w 0)), (14, AV.ag (bcs (St.s t))), (15, AV.c (AC.i (IntKind.wrap IntKind.i64 (j + 1))))], [(0, Ent.mk true (St.cs t) 0)], 1⟩ (REff w β E)) :
    ART Try.prog 17 (cx w β n []) Try.f17.ntmps (cutAt Try.f17 0) (Kn.mk [(1, AV.c (AC.w 0)), (14, AV.ag (bcs (St.s t))), (15, AV.c (AC.i j))] [(0, Ent.mk true (St.cs t) 0)] 1) (REff w β E) :=
  (tf (V6.get (St.s t) (Int.toNat j))).elim (fun h0 => (tf (er (V4.ok (V6.get (St.r t) (Int.toNat j))) != 0)).elim (fun h1 => (match l0 h0 h1 with | ⟨o0, o1, o2, o3, c0, c1, c2, e⟩ => art_eq (fcRound_w0 (and_yes o0 (and_yes o1 (and_yes h0 (and_yes o2 (and_yes o3 (and_yes h1 rfl)))))) c0 c1 c2) e)) (fun h1 => (match l1 h0 h1 with | ⟨o0, o1, o2, o3, o4, c0, c1, c2, lo, z⟩ => fcRound_w1 (and_yes o0 (and_yes o1 (and_yes h0 (and_yes o2 (and_yes o3 (and_yes (not_yes h1) (and_yes o4 rfl))))))) c0 c1 c2 lo (fun _ hk => Nat.lt_of_lt_of_le hk hn) z))) (fun h0 => (tf (!eqCs (V4.cs (V6.get (St.r t) (Int.toNat j))) [AC.u 0#64, AC.u 0#64, AC.u 0#64, AC.u 0#64])).elim (fun h1 => (match l2 h0 h1 with | ⟨o0, o1, o2, o3, c0, c1, e⟩ => art_eq (fcRound_w2 (and_yes o0 (and_yes o1 (and_yes (not_yes h0) (and_yes (not_yes h0) (and_yes o2 (and_yes o3 (and_yes h1 rfl))))))) c0 c1) e)) (fun h1 => (match l3 h0 h1 with | ⟨o0, o1, o2, o3, c0, c1, lo, z⟩ => fcRound_w3 (and_yes o0 (and_yes o1 (and_yes (not_yes h0) (and_yes (not_yes h0) (and_yes o2 (and_yes o3 (and_yes (not_yes h1) rfl))))))) c0 c1 lo (fun _ hk => Nat.lt_of_lt_of_le hk hn) z)))
theorem fcEnd_w0 {t : St} {w : World} {β : Bs} {n : Nat} :
    ART Try.prog 17 (cx w β n []) Try.f17.ntmps (cutAt Try.f17 0) (Kn.mk [(1, AV.c (AC.w 0)), (14, AV.ag (bcs (St.s t))), (15, AV.c (AC.i 6))] [(0, Ent.mk true (St.cs t) 0)] 1) (REff w β ⟨AV.c (AC.i 0), [], none⟩) :=
  run_eff [] (none) 2000 [] [false] ([true]) [] Try.func17 (ekeys0 rfl n) (by kernel_rfl) rfl cr_nil
theorem fhTop_w0 {t : St} {m : Mach} {w : World} {β : Bs} {n : Nat} (h : (er (St.ok t) != 0 && true) = true) (c0 : CallOK Try.prog (CallRec.mk 17 [AV.ag (St.cs t)] [] (Eff.mk (AV.c (AC.i (er (St.ok t)))) [] none))) :
    ART Try.prog 20 (cx w β n []) Try.f20.ntmps ([Item.code (bodyOf Try.f20)]) (Kn.start [AV.ag (St.cs t), AV.ag (Mach.cs m)] [] 0) (REff w β ⟨AV.c (AC.b false), [], none⟩) :=
  run_eff [] (none) 2000 [Eff.mk (AV.c (AC.i (er (St.ok t)))) [] none] [true, true, true, true] ([true]) [] Try.func20 (ekeys0 rfl n) (by kernel_rfl) h (cr_cons c0 cr_nil)
theorem fhTop_w1 {t : St} {m : Mach} {w : World} {β : Bs} {n : Nat} (h : (!er (St.ok t) != 0 && (!St.live t && true)) = true) (c0 : CallOK Try.prog (CallRec.mk 17 [AV.ag (St.cs t)] [] (Eff.mk (AV.c (AC.i (er (St.ok t)))) [] none))) :
    ART Try.prog 20 (cx w β n []) Try.f20.ntmps ([Item.code (bodyOf Try.f20)]) (Kn.start [AV.ag (St.cs t), AV.ag (Mach.cs m)] [] 0) (REff w β ⟨AV.c (AC.b false), [], none⟩) :=
  run_eff [] (none) 2000 [Eff.mk (AV.c (AC.i (er (St.ok t)))) [] none] [false, true, true, true] ([true]) [] Try.func20 (ekeys0 rfl n) (by kernel_rfl) h (cr_cons c0 cr_nil)
theorem fhTop_w2 {t : St} {m : Mach} {w : World} {β : Bs} {n : Nat} (h : (!er (St.ok t) != 0 && (!!St.live t && (machErr m != 0 && true))) = true) (c0 : CallOK Try.prog (CallRec.mk 17 [AV.ag (St.cs t)] [] (Eff.mk (AV.c (AC.i (er (St.ok t)))) [] none))) (c1 : CallOK Try.prog (CallRec.mk 33 [AV.ag (Mach.cs m)] [] (Eff.mk (AV.c (AC.i (machErr m))) [] none))) :
    ART Try.prog 20 (cx w β n []) Try.f20.ntmps ([Item.code (bodyOf Try.f20)]) (Kn.start [AV.ag (St.cs t), AV.ag (Mach.cs m)] [] 0) (REff w β ⟨AV.c (AC.b false), [], none⟩) :=
  run_eff [] (none) 2000 [Eff.mk (AV.c (AC.i (er (St.ok t)))) [] none, Eff.mk (AV.c (AC.i (machErr m))) [] none] [false, false, true, true] ([true]) [] Try.func20 (ekeys0 rfl n) (by kernel_rfl) h (cr_cons c0 (cr_cons c1 cr_nil))
theorem fhTop_w3 {t : St} {m : Mach} {w : World} {β : Bs} {n : Nat} (h : (!er (St.ok t) != 0 && (!!St.live t && (!machErr m != 0 && (Mach.fin m != 0 && true)))) = true) (c0 : CallOK Try.prog (CallRec.mk 17 [AV.ag (St.cs t)] [] (Eff.mk (AV.c (AC.i (er (St.ok t)))) [] none))) (c1 : CallOK Try.prog (CallRec.mk 33 [AV.ag (Mach.cs m)] [] (Eff.mk (AV.c (AC.i (machErr m))) [] none))) :
    ART Try.prog 20 (cx w β n []) Try.f20.ntmps ([Item.code (bodyOf Try.f20)]) (Kn.start [AV.ag (St.cs t), AV.ag (Mach.cs m)] [] 0) (REff w β ⟨AV.c (AC.b false), [], none⟩) :=
  run_eff [] (none) 2000 [Eff.mk (AV.c (AC.i (er (St.ok t)))) [] none, Eff.mk (AV.c (AC.i (machErr m))) [] none] [false, false, false, true] ([true]) [] Try.func20 (ekeys0 rfl n) (by kernel_rfl) h (cr_cons c0 (cr_cons c1 cr_nil))
theorem fhTop_w4 {t : St} {m : Mach} {C : Cx} {R : Ending → World → Prop} (h : (!er (St.ok t) != 0 && (!!St.live t && (!machErr m != 0 && (!Mach.fin m != 0 && true)))) = true) (c0 : CallOK Try.prog (CallRec.mk 17 [AV.ag (St.cs t)] [] (Eff.mk (AV.c (AC.i (er (St.ok t)))) [] none))) (c1 : CallOK Try.prog (CallRec.mk 33 [AV.ag (Mach.cs m)] [] (Eff.mk (AV.c (AC.i (machErr m))) [] none))) (lo : Kn.Low ⟨[(2, AV.c (AC.w 0)), (3, AV.c (AC.w 1)), (26, AV.ag (bcs (St.s t))), (27, AV.c (AC.i 0))], [(0, Ent.mk true (St.cs t) 0), (1, Ent.mk true (Mach.cs m) 0)], 2⟩) (hF : ∀ k, C.F k → k < 2) (z : ART Try.prog 20 C Try.f20.ntmps (cutAt Try.f20 0) ⟨[(2, AV.c (AC.w 0)), (3, AV.c (AC.w 1)), (26, AV.ag (bcs (St.s t))), (27, AV.c (AC.i 0))], [(0, Ent.mk true (St.cs t) 0), (1, Ent.mk true (Mach.cs m) 0)], 2⟩ R) :
    ART Try.prog 20 C Try.f20.ntmps ([Item.code (bodyOf Try.f20)]) (Kn.start [AV.ag (St.cs t), AV.ag (Mach.cs m)] [] 0) R :=
  run_cut ⟨[(2, AV.c (AC.w 0)), (3, AV.c (AC.w 1)), (26, AV.ag (bcs (St.s t))), (27, AV.c (AC.i 0))], [(0, Ent.mk true (St.cs t) 0), (1, Ent.mk true (Mach.cs m) 0)], 2⟩ 2000 [Eff.mk (AV.c (AC.i (er (St.ok t)))) [] none, Eff.mk (AV.c (AC.i (machErr m))) [] none] [false, false, false, false] ([true]) [] Try.func20 (by kernel_rfl) h (cr_cons c0 (cr_cons c1 cr_nil)) lo hF z
theorem fhTop_all {t : St} {m : Mach} {w : World} {β : Bs} {n : Nat} {E : Eff} (hn : n ≤ 2)
    (l0 : (er (St.ok t) != 0) = true → (CallOK Try.prog (CallRec.mk 17 [AV.ag (St.cs t)] [] (Eff.mk (AV.c (AC.i (er (St.ok t)))) [] none))) ∧ ((⟨AV.c (AC.b false), [], none⟩ : Eff) = E))
    (l1 : (er (St.ok t) != 0) = false → (!St.live t) = true → (CallOK Try.prog (CallRec.mk 17 [AV.ag (St.cs t)] [] (Eff.mk (AV.c (AC.i (er (St.ok t)))) [] none))) ∧ ((⟨AV.c (AC.b false), [], none⟩ : Eff) = E))
    (l2 : (er (St.ok t) != 0) = false → (!St.live t) = false → (machErr m != 0) = true → (CallOK Try.prog (CallRec.mk 17 [AV.ag (St.cs t)] [] (Eff.mk (AV.c (AC.i (er (St.ok t)))) [] none))) ∧ (CallOK Try.prog (CallRec.mk 33 [AV.ag (Mach.cs m)] [] (Eff.mk (AV.c (AC.i (machErr m))) [] none))) ∧ ((⟨AV.c (AC.b false), [], none⟩ : Eff) = E))
    (l3 : (er (St.ok t) != 0) = false → (!St.live t) = false → (machErr m != 0) = false → (Mach.fin m != 0) = true → (CallOK Try.prog (CallRec.mk 17 [AV.ag (St.cs t)] [] (Eff.mk (AV.c (AC.i (er (St.ok t)))) [] none))) ∧ (CallOK Try.prog (CallRec.mk 33 [AV.ag (Mach.cs m)] [] (Eff.mk (AV.c (AC.i (machErr m))) [] none))) ∧ ((⟨AV.c (AC.b false), [], none⟩ : Eff) = E))
    (l4 : (er (St.ok t) != 0) = false → (!St.live t) = false → (machErr m != 0) = false → (Mach.fin m != 0) = false → (CallOK Try.prog (CallRec.mk 17 [AV.ag (St.cs t)] [] (Eff.mk (AV.c (AC.i (er (St.ok t)))) [] none))) ∧ (CallOK Try.prog (CallRec.mk 33 [AV.ag (Mach.cs m)] [] (Eff.mk (AV.c (AC.i (machErr m))) [] none))) ∧ Kn.Low ⟨[(2, AV.c (AC.w 0)), (3, AV.c (AC.w 1)), (26, AV.ag (bcs (St.s t))), (27, AV.c (AC.i 0))], [(0, Ent.mk true (St.cs t) 0), (1, Ent.mk true (Mach.cs m) 0)], 2⟩ ∧ ART Try.prog 20 (cx w β n []) Try.f20.ntmps (cutAt Try.f20 0) ⟨[(2, AV.c (AC.w 0)), (3, AV.c (AC.w 1)), (26, AV.ag (bcs (St.s t))), (27, AV.c (AC.i 0))], [(0, Ent.mk true (St.cs t) 0), (1, Ent.mk true (Mach.cs m) 0)], 2⟩ (REff w β E)) :
    ART Try.prog 20 (cx w β n []) Try.f20.ntmps ([Item.code (bodyOf Try.f20)]) (Kn.start [AV.ag (St.cs t), AV.ag (Mach.cs m)] [] 0) (REff w β E) :=
  (tf (er (St.ok t) != 0)).elim (fun h0 => (match l0 h0 with | ⟨c0, e⟩ => art_eq (fhTop_w0 (and_yes h0 rfl) c0) e)) (fun h0 => (tf (!St.live t)).elim (fun h1 => (match l1 h0 h1 with | ⟨c0, e⟩ => art_eq (fhTop_w1 (and_yes (not_yes h0) (and_yes h1 rfl)) c0) e)) (fun h1 => (tf (machErr m != 0)).elim (fun h2 => (match l2 h0 h1 h2 with | ⟨c0, c1, e⟩ => art_eq (fhTop_w2 (and_yes (not_yes h0) (and_yes (not_yes h1) (and_yes h2 rfl))) c0 c1) e)) (fun h2 => (tf (Mach.fin m != 0)).elim (fun h3 => (match l3 h0 h1 h2 h3 with | ⟨c0, c1, e⟩ => art_eq (fhTop_w3 (and_yes (not_yes h0) (and_yes (not_yes h1) (and_yes (not_yes h2) (and_yes h3 rfl)))) c0 c1) e)) (fun h3 => (match l4 h0 h1 h2 h3 with | ⟨c0, c1, lo, z⟩ => fhTop_w4 (and_yes (not_yes h0) (and_yes (not_yes h1) (and_yes (not_yes h2) (and_yes (not_yes h3) rfl)))) c0 c1 lo (fun _ hk => Nat.lt_of_lt_of_le hk hn) z)))))
theorem fhRound_w0 {t : St} {m : Mach} {j : Int} {w : World} {β : Bs} {n : Nat} (h : (decide (j < 6) && (AC.isB (Option.getD (bcs (St.s t))[Int.toNat j * 1]? (AC.b false)) && Nat.blt (Int.toNat j * 1) (List.length (bcs (St.s t))) && (decide (0 ≤ j) && decide (j < 6)) && (V6.get (St.s t) (Int.toNat j) && (decide (0 ≤ j) && decide (j < 6) && (AC.isB (Option.getD (Mach.cs m)[7 + Int.toNat j * 1]? (AC.b false)) && Nat.blt (7 + Int.toNat j * 1) (List.length (Mach.cs m)) && (V6.get (Mach.s m) (Int.toNat j) && (decide (0 ≤ j) && decide (j < 6) && (Nat.ble (7 + Int.toNat j * 4 + 4) (List.length (St.cs t)) && (decide (0 ≤ j) && decide (j < 6) && (AC.isU (Option.getD (Mach.cs m)[1 + Int.toNat j * 1]? (AC.b false)) && Nat.blt (1 + Int.toNat j * 1) (List.length (Mach.cs m)) && (!V4.has (V6.get (St.r t) (Int.toNat j)) (V6.get (Mach.r m) (Int.toNat j)) && true))))))))))) = true) (c0 : Eff.mk (AV.c (AC.b (AC.asB (Option.getD (bcs (St.s t))[Int.toNat j * 1]? (AC.b false))))) [] none = Eff.mk (AV.c (AC.b (V6.get (St.s t) (Int.toNat j)))) [] none) (c1 : Eff.mk (AV.c (AC.b (AC.asB (Option.getD (Mach.cs m)[7 + Int.toNat j * 1]? (AC.b false))))) [] none = Eff.mk (AV.c (AC.b (V6.get (Mach.s m) (Int.toNat j)))) [] none) (c2 : Eff.mk (AV.ag (List.take 4 (List.drop (7 + Int.toNat j * 4) (St.cs t)))) [] none = Eff.mk (AV.ag (V4.cs (V6.get (St.r t) (Int.toNat j)))) [] none) (c3 : Eff.mk (AV.c (AC.u (AC.asU (Option.getD (Mach.cs m)[1 + Int.toNat j * 1]? (AC.b false))))) [] none = Eff.mk (AV.c (AC.u (V6.get (Mach.r m) (Int.toNat j)))) [] none) (c4 : CallOK Try.prog (CallRec.mk 41 [AV.ag (V4.cs (V6.get (St.r t) (Int.toNat j))), AV.c (AC.u (V6.get (Mach.r m) (Int.toNat j)))] [] (Eff.mk (AV.c (AC.b (V4.has (V6.get (St.r t) (Int.toNat j)) (V6.get (Mach.r m) (Int.toNat j))))) [] none))) :
    ART Try.prog 20 (cx w β n []) Try.f20.ntmps (cutAt Try.f20 0) (Kn.mk [(2, AV.c (AC.w 0)), (3, AV.c (AC.w 1)), (26, AV.ag (bcs (St.s t))), (27, AV.c (AC.i j))] [(0, Ent.mk true (St.cs t) 0), (1, Ent.mk true (Mach.cs m) 0)] 2) (REff w β ⟨AV.c (AC.b false), [], none⟩) :=
  run_eff [] (none) 2000 [Eff.mk (AV.c (AC.b (V6.get (St.s t) (Int.toNat j)))) [] none, Eff.mk (AV.c (AC.b (V6.get (Mach.s m) (Int.toNat j)))) [] none, Eff.mk (AV.ag (V4.cs (V6.get (St.r t) (Int.toNat j)))) [] none, Eff.mk (AV.c (AC.u (V6.get (Mach.r m) (Int.toNat j)))) [] none, Eff.mk (AV.c (AC.b (V4.has (V6.get (St.r t) (Int.toNat j)) (V6.get (Mach.r m) (Int.toNat j))))) [] none] [true, true, true, true] ([true]) [(5, 1), (6, 5), (6, 10), (6, 14)] Try.func20 (ekeys0 rfl n) (by kernel_rfl) h (cr_same c0 (cr_same c1 (cr_same c2 (cr_same c3 (cr_cons c4 cr_nil)))))
theorem fhRound_w1 {t : St} {m : Mach} {j : Int} {C : Cx} {R : Ending → World → Prop} (h : (decide (j < 6) && (AC.isB (Option.getD (bcs (St.s t))[Int.toNat j * 1]? (AC.b false)) && Nat.blt (Int.toNat j * 1) (List.length (bcs (St.s t))) && (decide (0 ≤ j) && decide (j < 6)) && (V6.get (St.s t) (Int.toNat j) && (decide (0 ≤ j) && decide (j < 6) && (AC.isB (Option.getD (Mach.cs m)[7 + Int.toNat j * 1]? (AC.b false)) && Nat.blt (7 + Int.toNat j * 1) (List.length (Mach.cs m)) && (V6.get (Mach.s m) (Int.toNat j) && (decide (0 ≤ j) && decide (j < 6) && (Nat.ble (7 + Int.toNat j * 4 + 4) (List.length (St.cs t)) && (decide (0 ≤ j) && decide (j < 6) && (AC.isU (Option.getD (Mach.cs m)[1 + Int.toNat j * 1]? (AC.b false)) && Nat.blt (1 + Int.toNat j * 1) (List.length (Mach.cs m)) && (!!V4.has (V6.get (St.r t) (Int.toNat j)) (V6.get (Mach.r m) (Int.toNat j)) && true))))))))))) = true) (c0 : Eff.mk (AV.c (AC.b (AC.asB (Option.getD (bcs (St.s t))[Int.toNat j * 1]? (AC.b false))))) [] none = Eff.mk (AV.c (AC.b (V6.get (St.s t) (Int.toNat j)))) [] none) (c1 : Eff.mk (AV.c (AC.b (AC.asB (Option.getD (Mach.cs m)[7 + Int.toNat j * 1]? (AC.b false))))) [] none = Eff.mk (AV.c (AC.b (V6.get (Mach.s m) (Int.toNat j)))) [] none) (c2 : Eff.mk (AV.ag (List.take 4 (List.drop (7 + Int.toNat j * 4) (St.cs t)))) [] none = Eff.mk (AV.ag (V4.cs (V6.get (St.r t) (Int.toNat j)))) [] none) (c3 : Eff.mk (AV.c (AC.u (AC.asU (Option.getD (Mach.cs m)[1 + Int.toNat j * 1]? (AC.b false))))) [] none = Eff.mk (AV.c (AC.u (V6.get (Mach.r m) (Int.toNat j)))) [] none) (c4 : CallOK Try.prog (CallRec.mk 41 [AV.ag (V4.cs (V6.get (St.r t) (Int.toNat j))), AV.c (AC.u (V6.get (Mach.r m) (Int.toNat j)))] [] (Eff.mk (AV.c (AC.b (V4.has (V6.get (St.r t) (Int.toNat j)) (V6.get (Mach.r m) (Int.toNat j))))) [] none))) (lo : Kn.Low ⟨[(2, AV.c (AC.w 0)), (3, AV.c (AC.w 1)), (26, AV.ag (bcs (St.s t))), (27, AV.c (AC.i (IntKind.wrap IntKind.i64 (j + 1))))], [(0, Ent.mk true (St.cs t) 0), (1, Ent.mk true (Mach.cs m) 0)], 2⟩) (hF : ∀ k, C.F k → k < 2) (z : ART Try.prog 20 C Try.f20.ntmps (cutAt Try.f20 0) ⟨[(2, AV.c (AC.w 0)), (3, AV.c (AC.w 1)), (26, AV.ag (bcs (St.s t))), (27, AV.c (AC.i (IntKind.wrap IntKind.i64 (j + 1))))], [(0, Ent.mk true (St.cs t) 0), (1, Ent.mk true (Mach.cs m) 0)], 2⟩ R) :
    ART Try.prog 20 C Try.f20.ntmps (cutAt Try.f20 0) (Kn.mk [(2, AV.c (AC.w 0)), (3, AV.c (AC.w 1)), (26, AV.ag (bcs (St.s t))), (27, AV.c (AC.i j))] [(0, Ent.mk true (St.cs t) 0), (1, Ent.mk true (Mach.cs m) 0)] 2) R :=
  run_cut ⟨[(2, AV.c (AC.w 0)), (3, AV.c (AC.w 1)), (26, AV.ag (bcs (St.s t))), (27, AV.c (AC.i (IntKind.wrap IntKind.i64 (j + 1))))], [(0, Ent.mk true (St.cs t) 0), (1, Ent.mk true (Mach.cs m) 0)], 2⟩ 2000 [Eff.mk (AV.c (AC.b (V6.get (St.s t) (Int.toNat j)))) [] none, Eff.mk (AV.c (AC.b (V6.get (Mach.s m) (Int.toNat j)))) [] none, Eff.mk (AV.ag (V4.cs (V6.get (St.r t) (Int.toNat j)))) [] none, Eff.mk (AV.c (AC.u (V6.get (Mach.r m) (Int.toNat j)))) [] none, Eff.mk (AV.c (AC.b (V4.has (V6.get (St.r t) (Int.toNat j)) (V6.get (Mach.r m) (Int.toNat j))))) [] none] [true, true, true, false] ([true]) [(5, 1), (6, 5), (6, 10), (6, 14)] Try.func20 (by kernel_rfl) h (cr_same c0 (cr_same c1 (cr_same c2 (cr_same c3 (cr_cons c4 cr_nil))))) lo hF z
theorem fhRound_w2 {t : St} {m : Mach} {j : Int} {w : World} {β : Bs} {n : Nat} (h : (decide (j < 6) && (AC.isB (Option.getD (bcs (St.s t))[Int.toNat j * 1]? (AC.b false)) && Nat.blt (Int.toNat j * 1) (List.length (bcs (St.s t))) && (decide (0 ≤ j) && decide (j < 6)) && (V6.get (St.s t) (Int.toNat j) && (decide (0 ≤ j) && decide (j < 6) && (AC.isB (Option.getD (Mach.cs m)[7 + Int.toNat j * 1]? (AC.b false)) && Nat.blt (7 + Int.toNat j * 1) (List.length (Mach.cs m)) && (!V6.get (Mach.s m) (Int.toNat j) && true)))))) = true) (c0 : Eff.mk (AV.c (AC.b (AC.asB (Option.getD (bcs (St.s t))[Int.toNat j * 1]? (AC.b false))))) [] none = Eff.mk (AV.c (AC.b (V6.get (St.s t) (Int.toNat j)))) [] none) (c1 : Eff.mk (AV.c (AC.b (AC.asB (Option.getD (Mach.cs m)[7 + Int.toNat j * 1]? (AC.b false))))) [] none = Eff.mk (AV.c (AC.b (V6.get (Mach.s m) (Int.toNat j)))) [] none) :
    ART Try.prog 20 (cx w β n []) Try.f20.ntmps (cutAt Try.f20 0) (Kn.mk [(2, AV.c (AC.w 0)), (3, AV.c (AC.w 1)), (26, AV.ag (bcs (St.s t))), (27, AV.c (AC.i j))] [(0, Ent.mk true (St.cs t) 0), (1, Ent.mk true (Mach.cs m) 0)] 2) (REff w β ⟨AV.c (AC.b false), [], none⟩) :=
  run_eff [] (none) 2000 [Eff.mk (AV.c (AC.b (V6.get (St.s t) (Int.toNat j)))) [] none, Eff.mk (AV.c (AC.b (V6.get (Mach.s m) (Int.toNat j)))) [] none] [true, true, false, true] ([true]) [(5, 1), (6, 5), (6, 10), (6, 14)] Try.func20 (ekeys0 rfl n) (by kernel_rfl) h (cr_same c0 (cr_same c1 cr_nil))
theorem fhRound_w3 {t : St} {m : Mach} {j : Int} {C : Cx} {R : Ending → World → Prop} (h : (decide (j < 6) && (AC.isB (Option.getD (bcs (St.s t))[Int.toNat j * 1]? (AC.b false)) && Nat.blt (Int.toNat j * 1) (List.length (bcs (St.s t))) && (decide (0 ≤ j) && decide (j < 6)) && (!V6.get (St.s t) (Int.toNat j) && true))) = true) (c0 : Eff.mk (AV.c (AC.b (AC.asB (Option.getD (bcs (St.s t))[Int.toNat j * 1]? (AC.b false))))) [] none = Eff.mk (AV.c (AC.b (V6.get (St.s t) (Int.toNat j)))) [] none) (lo : Kn.Low ⟨[(2, AV.c (AC.w 0)), (3, AV.c (AC.w 1)), (26, AV.ag (bcs (St.s t))), (27, AV.c (AC.i (IntKind.wrap IntKind.i64 (j + 1))))], [(0, Ent.mk true (St.cs t) 0), (1, Ent.mk true (Mach.cs m) 0)], 2⟩) (hF : ∀ k, C.F k → k < 2) (z : ART Try.prog 20 C Try.f20.ntmps (cutAt Try.f20 0) ⟨[(2, AV.c (AC.w 0)), (3, AV.c (AC.w 1)), (26, AV.ag (bcs (St.s t))), (27, AV.c (AC.i (IntKind.wrap IntKind.i64 (j + 1))))], [(0, Ent.mk true (St.cs t) 0), (1, Ent.mk true (Mach.cs m) 0)], 2⟩ R) :
    ART Try.prog 20 C Try.f20.ntmps (cutAt Try.f20 0) (Kn.mk [(2, AV.c (AC.w 0)), (3, AV.c (AC.w 1)), (26, AV.ag (bcs (St.s t))), (27, AV.c (AC.i j))] [(0, Ent.mk true (St.cs t) 0), (1, Ent.mk true (Mach.cs m) 0)] 2) R :=
  run_cut ⟨[(2, AV.c (AC.w 0)), (3, AV.c (AC.w 1)), (26, AV.ag (bcs (St.s t))), (27, AV.c (AC.i (IntKind.wrap IntKind.i64 (j + 1))))], [(0, Ent.mk true (St.cs t) 0), (1, Ent.mk true (Mach.cs m) 0)], 2⟩ 2000 [Eff.mk (AV.c (AC.b (V6.get (St.s t) (Int.toNat j)))) [] none] [true, false, false] ([true]) [(5, 1), (6, 5), (6, 10), (6, 14)] Try.func20 (by kernel_rfl) h (cr_same c0 cr_nil) lo hF z
theorem fhRound_all {t : St} {m : Mach} {j : Int} {w : World} {β : Bs} {n : Nat} {E : Eff} (hn : n ≤ 2)
    (l0 : (V6.get (St.s t) (Int.toNat j)) = true → (V6.get (Mach.s m) (Int.toNat j)) = true → (!V4.has (V6.get (St.r t) (Int.toNat j)) (V6.get (Mach.r m) (Int.toNat j))) = true → (decide (j < 6)) = true ∧ (AC.isB (Option.getD (bcs (St.s t))[Int.toNat j * 1]? (AC.b false)) && Nat.blt (Int.toNat j * 1) (List.length (bcs (St.s t))) && (decide (0 ≤ j) && decide (j < 6))) = true ∧ (decide (0 ≤ j) && decide (j < 6)) = true ∧ (AC.isB (Option.getD (Mach.cs m)[7 + Int.toNat j * 1]? (AC.b false)) && Nat.blt (7 + Int.toNat j * 1) (List.length (Mach.cs m))) = true ∧ (decide (0 ≤ j) && decide (j < 6)) = true ∧ (Nat.ble (7 + Int.toNat j * 4 + 4) (List.length (St.cs t))) = true ∧ (decide (0 ≤ j) && decide (j < 6)) = true ∧ (AC.isU (Option.getD (Mach.cs m)[1 + Int.toNat j * 1]? (AC.b false)) && Nat.blt (1 + Int.toNat j * 1) (List.length (Mach.cs m))) = true ∧ (Eff.mk (AV.c (AC.b (AC.asB (Option.getD (bcs (St.s t))[Int.toNat j * 1]? (AC.b false))))) [] none = Eff.mk (AV.c (AC.b (V6.get (St.s t) (Int.toNat j)))) [] none) ∧ (Eff.mk (AV.c (AC.b (AC.asB (Option.getD (Mach.cs m)[7 + Int.toNat j * 1]? (AC.b false))))) [] none = Eff.mk (AV.c (AC.b (V6.get (Mach.s m) (Int.toNat j)))) [] none) ∧ (Eff.mk (AV.ag (List.take 4 (List.drop (7 + Int.toNat j * 4) (St.cs t)))) [] none = Eff.mk (AV.ag (V4.cs (V6.get (St.r t) (Int.toNat j)))) [] none) ∧ (Eff.mk (AV.c (AC.u (AC.asU (Option.getD (Mach.cs m)[1 + Int.toNat j * 1]? (AC.b false))))) [] none = Eff.mk (AV.c (AC.u (V6.get (Mach.r m) (Int.toNat j)))) [] none) ∧ (CallOK Try.prog (CallRec.mk 41 [AV.ag (V4.cs (V6.get (St.r t) (Int.toNat j))), AV.c (AC.u (V6.get (Mach.r m) (Int.toNat j)))] [] (Eff.mk (AV.c (AC.b (V4.has (V6.get (St.r t) (Int.toNat j)) (V6.get (Mach.r m) (Int.toNat j))))) [] none))) ∧ ((⟨AV.c (AC.b false), [], none⟩ : Eff) = E))
    (l1 : (V6.get (St.s t) (Int.toNat j)) = true → (V6.get (Mach.s m) (Int.toNat j)) = true → (!V4.has (V6.get (St.r t) (Int.toNat j)) (V6.get (Mach.r m) (Int.toNat j))) = false → (decide (j < 6)) = true ∧ (AC.isB (Option.getD (bcs (St.s t))[Int.toNat j * 1]? (AC.b false)) && Nat.blt (Int.toNat j * 1) (List.length (bcs (St.s t))) && (decide (0 ≤ j) && decide (j < 6))) = true ∧ (decide (0 ≤ j) && decide (j < 6)) = true ∧ (AC.isB (Option.getD (Mach.cs m)[7 + Int.toNat j * 1]? (AC.b false)) && Nat.blt (7 + Int.toNat j * 1) (List.length (Mach.cs m))) = true ∧ (decide (0 ≤ j) && decide (j < 6)) = true ∧ (Nat.ble (7 + Int.toNat j * 4 + 4) (List.length (St.cs t))) = true ∧ (decide (0 ≤ j) && decide (j < 6)) = true ∧ (AC.isU (Option.getD (Mach.cs m)[1 + Int.toNat j * 1]? (AC.b false)) && Nat.blt (1 + Int.toNat j * 1) (List.length (Mach.cs m))) = true ∧ (Eff.mk (AV.c (AC.b (AC.asB (Option.getD (bcs (St.s t))[Int.toNat j * 1]? (AC.b false))))) [] none = Eff.mk (AV.c (AC.b (V6.get (St.s t) (Int.toNat j)))) [] none) ∧ (Eff.mk (AV.c (AC.b (AC.asB (Option.getD (Mach.cs m)[7 + Int.toNat j * 1]? (AC.b false))))) [] none = Eff.mk (AV.c (AC.b (V6.get (Mach.s m) (Int.toNat j)))) [] none) ∧ (Eff.mk (AV.ag (List.take 4 (List.drop (7 + Int.toNat j * 4) (St.cs t)))) [] none = Eff.mk (AV.ag (V4.cs (V6.get (St.r t) (Int.toNat j)))) [] none) ∧ (Eff.mk (AV.c (AC.u (AC.asU (Option.getD (Mach.cs m)[1 + Int.toNat j * 1]? (AC.b false))))) [] none = Eff.mk (AV.c (AC.u (V6.get (Mach.r m) (Int.toNat j)))) [] none) ∧ (CallOK Try.prog (CallRec.mk 41 [AV.ag (V4.cs (V6.get (St.r t) (Int.toNat j))), AV.c (AC.u (V6.get (Mach.r m) (Int.toNat j)))] [] (Eff.mk (AV.c (AC.b (V4.has (V6.get (St.r t) (Int.toNat j)) (V6.get (Mach.r m) (Int.toNat j))))) [] none))) ∧ Kn.Low ⟨[(2, AV.c (AC.w 0)), (3, AV.c (AC.w 1)), (26, AV.ag (bcs (St.s t))), (27, AV.c (AC.i (IntKind.wrap IntKind.i64 (j + 1))))], [(0, Ent.mk true (St.cs t) 0), (1, Ent.mk true (Mach.cs m) 0)], 2⟩ ∧ ART Try.prog 20 (cx w β n []) Try.f20.ntmps (cutAt Try.f20 0) ⟨[(2, AV.c (AC.w 0)), (3, AV.c (AC.w 1)), (26, AV.ag (bcs (St.s t))), (27, AV.c (AC.i (IntKind.wrap IntKind.i64 (j + 1))))], [(0, Ent.mk true (St.cs t) 0), (1, Ent.mk true (Mach.cs m) 0)], 2⟩ (REff w β E))
    (l2 : (V6.get (St.s t) (Int.toNat j)) = true → (V6.get (Mach.s m) (Int.toNat j)) = false → (decide (j < 6)) = true ∧ (AC.isB (Option.getD (bcs (St.s t))[Int.toNat j * 1]? (AC.b false)) && Nat.blt (Int.toNat j * 1) (List.length (bcs (St.s t))) && (decide (0 ≤ j) && decide (j < 6))) = true ∧ (decide (0 ≤ j) && decide (j < 6)) = true ∧ (AC.isB (Option.getD (Mach.cs m)[7 + Int.toNat j * 1]? (AC.b false)) && Nat.blt (7 + Int.toNat j * 1) (List.length (Mach.cs m))) = true ∧ (Eff.mk (AV.c (AC.b (AC.asB (Option.getD (bcs (St.s t))[Int.toNat j * 1]? (AC.b false))))) [] none = Eff.mk (AV.c (AC.b (V6.get (St.s t) (Int.toNat j)))) [] none) ∧ (Eff.mk (AV.c (AC.b (AC.asB (Option.getD (Mach.cs m)[7 + Int.toNat j * 1]? (AC.b false))))) [] none = Eff.mk (AV.c (AC.b (V6.get (Mach.s m) (Int.toNat j)))) [] none) ∧ ((⟨AV.c (AC.b false), [], none⟩ : Eff) = E))
    (l3 : (V6.get (St.s t) (Int.toNat j)) = false → (decide (j < 6)) = true ∧ (AC.isB (Option.getD (bcs (St.s t))[Int.toNat j * 1]? (AC.b false)) && Nat.blt (Int.toNat j * 1) (List.length (bcs (St.s t))) && (decide (0 ≤ j) && decide (j < 6))) = true ∧ (Eff.mk (AV.c (AC.b (AC.asB (Option.getD (bcs (St.s t))[Int.toNat j * 1]? (AC.b false))))) [] none = Eff.mk (AV.c (AC.b (V6.get (St.s t) (Int.toNat j)))) [] none) ∧ Kn.Low ⟨[(2, AV.c (AC.w 0)), (3, AV.c (AC.w 1)), (26, AV.ag (bcs (St.s t))), (27, AV.c (AC.i (IntKind.wrap IntKind.i64 (j + 1))))], [(0, Ent.mk true (St.cs t) 0), (1, Ent.mk true (Mach.cs m) 0)], 2⟩ ∧ ART Try.prog 20 (cx w β n []) Try.f20.ntmps (cutAt Try.f20 0) ⟨[(2, AV.c (AC.w 0)), (3, AV.c (AC.w 1)), (26, AV.ag (bcs (St.s t))), (27, AV.c (AC.i (IntKind.wrap IntKind.i64 (j + 1))))], [(0, Ent.mk true (St.cs t) 0), (1, Ent.mk true (Mach.cs m) 0)], 2⟩ (REff w β E)) :
    ART Try.prog 20 (cx w β n []) Try.f20.ntmps (cutAt Try.f20 0) (Kn.mk [(2, AV.c (AC.w 0)), (3, AV.c (AC.w 1)), (26, AV.ag (bcs (St.s t))), (27, AV.c (AC.i j))] [(0, Ent.mk true (St.cs t) 0), (1, Ent.mk true (Mach.cs m) 0)] 2) (REff w β E) :=
  (tf (V6.get (St.s t) (Int.toNat j))).elim (fun h0 => (tf (V6.get (Mach.s m) (Int.toNat j))).elim (fun h1 => (tf (!V4.has (V6.get (St.r t) (Int.toNat j)) (V6.get (Mach.r m) (Int.toNat j)))).elim (fun h2 => (match l0 h0 h1 h2 with | ⟨o0, o1, o2, o3, o4, o5, o6, o7, c0, c1, c2, c3, c4, e⟩ => art_eq (fhRound_w0 (and_yes o0 (and_yes o1 (and_yes h0 (and_yes o2 (and_yes o3 (and_yes h1 (and_yes o4 (and_yes o5 (and_yes o6 (and_yes o7 (and_yes h2 rfl))))))))))) c0 c1 c2 c3 c4) e)) (fun h2 => (match l1 h0 h1 h2 with | ⟨o0, o1, o2, o3, o4, o5, o6, o7, c0, c1, c2, c3, c4, lo, z⟩ => fhRound_w1 (and_yes o0 (and_yes o1 (and_yes h0 (and_yes o2 (and_yes o3 (and_yes h1 (and_yes o4 (and_yes o5 (and_yes o6 (and_yes o7 (and_yes (not_yes h2) rfl))))))))))) c0 c1 c2 c3 c4 lo (fun _ hk => Nat.lt_of_lt_of_le hk hn) z))) (fun h1 => (match l2 h0 h1 with | ⟨o0, o1, o2, o3, c0, c1, e⟩ => art_eq (fhRound_w2 (and_yes o0 (and_yes o1 (and_yes h0 (and_yes o2 (and_yes o3 (and_yes (not_yes h1) rfl)))))) c0 c1) e))) (fun h0 => (match l3 h0 with | ⟨o0, o1, c0, lo, z⟩ => fhRound_w3 (and_yes o0 (and_yes o1 (and_yes (not_yes h0) rfl))) c0 lo (fun _ hk => Nat.lt_of_lt_of_le hk hn) z))
theorem fhEnd_w0 {t : St} {m : Mach} {w : World} {β : Bs} {n : Nat} :
    ART Try.prog 20 (cx w β n []) Try.f20.ntmps (cutAt Try.f20 0) (Kn.mk [(2, AV.c (AC.w 0)), (3, AV.c (AC.w 1)), (26, AV.ag (bcs (St.s t))), (27, AV.c (AC.i 6))] [(0, Ent.mk true (St.cs t) 0), (1, Ent.mk true (Mach.cs m) 0)] 2) (REff w β ⟨AV.c (AC.b true), [], none⟩) :=
  run_eff [] (none) 2000 [] [false] ([true]) [] Try.func20 (ekeys0 rfl n) (by kernel_rfl) rfl cr_nil
theorem fjTop_w0 {t : St} {u : St} {e : Int} {w : World} {β : Bs} {n : Nat} (h : (e != 0 && true) = true) (c0 : CallOK Try.prog (CallRec.mk 17 [AV.ag (St.cs t)] [] (Eff.mk (AV.c (AC.i e)) [] none))) :
    ART Try.prog 13 (cx w β n []) Try.f13.ntmps ([Item.code (bodyOf Try.f13)]) (Kn.start [AV.ag (St.cs t), AV.ag (St.cs u)] [] 0) (REff w β ⟨AV.tu [AT.ag (St.cs St.z), AT.c (AC.i 1)], [], none⟩) :=
  run_eff [] (none) 2000 [Eff.mk (AV.c (AC.i e)) [] none] [true, true] ([true]) [] Try.func13 (ekeys0 rfl n) (by kernel_rfl) h (cr_cons c0 cr_nil)
theorem fjTop_w1 {t : St} {u : St} {e : Int} {f : Int} {w : World} {β : Bs} {n : Nat} (h : (!e != 0 && (f != 0 && true)) = true) (c0 : CallOK Try.prog (CallRec.mk 17 [AV.ag (St.cs t)] [] (Eff.mk (AV.c (AC.i e)) [] none))) (c1 : CallOK Try.prog (CallRec.mk 17 [AV.ag (St.cs u)] [] (Eff.mk (AV.c (AC.i f)) [] none))) :
    ART Try.prog 13 (cx w β n []) Try.f13.ntmps ([Item.code (bodyOf Try.f13)]) (Kn.start [AV.ag (St.cs t), AV.ag (St.cs u)] [] 0) (REff w β ⟨AV.tu [AT.ag (St.cs St.z), AT.c (AC.i 1)], [], none⟩) :=
  run_eff [] (none) 2000 [Eff.mk (AV.c (AC.i e)) [] none, Eff.mk (AV.c (AC.i f)) [] none] [false, true] ([true]) [] Try.func13 (ekeys0 rfl n) (by kernel_rfl) h (cr_cons c0 (cr_cons c1 cr_nil))
theorem fjTop_w2 {t : St} {u : St} {e : Int} {f : Int} {w : World} {β : Bs} {n : Nat} (h : (!e != 0 && (!f != 0 && (!St.live t && true))) = true) (c0 : CallOK Try.prog (CallRec.mk 17 [AV.ag (St.cs t)] [] (Eff.mk (AV.c (AC.i e)) [] none))) (c1 : CallOK Try.prog (CallRec.mk 17 [AV.ag (St.cs u)] [] (Eff.mk (AV.c (AC.i f)) [] none))) :
    ART Try.prog 13 (cx w β n []) Try.f13.ntmps ([Item.code (bodyOf Try.f13)]) (Kn.start [AV.ag (St.cs t), AV.ag (St.cs u)] [] 0) (REff w β ⟨AV.tu [AT.ag (St.cs u), AT.c (AC.i 0)], [], none⟩) :=
  run_eff [] (none) 2000 [Eff.mk (AV.c (AC.i e)) [] none, Eff.mk (AV.c (AC.i f)) [] none] [false, false, true] ([true]) [] Try.func13 (ekeys0 rfl n) (by kernel_rfl) h (cr_cons c0 (cr_cons c1 cr_nil))
theorem fjTop_w3 {t : St} {u : St} {e : Int} {f : Int} {w : World} {β : Bs} {n : Nat} (h : (!e != 0 && (!f != 0 && (!!St.live t && (!St.live u && true)))) = true) (c0 : CallOK Try.prog (CallRec.mk 17 [AV.ag (St.cs t)] [] (Eff.mk (AV.c (AC.i e)) [] none))) (c1 : CallOK Try.prog (CallRec.mk 17 [AV.ag (St.cs u)] [] (Eff.mk (AV.c (AC.i f)) [] none))) :
    ART Try.prog 13 (cx w β n []) Try.f13.ntmps ([Item.code (bodyOf Try.f13)]) (Kn.start [AV.ag (St.cs t), AV.ag (St.cs u)] [] 0) (REff w β ⟨AV.tu [AT.ag (St.cs t), AT.c (AC.i 0)], [], none⟩) :=
  run_eff [] (none) 2000 [Eff.mk (AV.c (AC.i e)) [] none, Eff.mk (AV.c (AC.i f)) [] none] [false, false, false, true] ([true]) [] Try.func13 (ekeys0 rfl n) (by kernel_rfl) h (cr_cons c0 (cr_cons c1 cr_nil))
theorem fjTop_w4 {t : St} {u : St} {e : Int} {f : Int} {C : Cx} {R : Ending → World → Prop} (h : (!e != 0 && (!f != 0 && (!!St.live t && (!!St.live u && true)))) = true) (c0 : CallOK Try.prog (CallRec.mk 17 [AV.ag (St.cs t)] [] (Eff.mk (AV.c (AC.i e)) [] none))) (c1 : CallOK Try.prog (CallRec.mk 17 [AV.ag (St.cs u)] [] (Eff.mk (AV.c (AC.i f)) [] none))) (lo : Kn.Low ⟨[(2, AV.c (AC.w 0)), (3, AV.c (AC.w 1)), (4, AV.c (AC.w 2)), (6, AV.c (AC.w 19)), (28, AV.c (AC.i 0))], [(0, Ent.mk true (St.cs t) 0), (1, Ent.mk true (St.cs u) 0), (2, Ent.mk true (St.cs St.z) 0), (19, Ent.mk true (St.cs St.e) 0)], 20⟩) (hF : ∀ k, C.F k → k < 20) (z : ART Try.prog 13 C Try.f13.ntmps (cutAt Try.f13 0) ⟨[(2, AV.c (AC.w 0)), (3, AV.c (AC.w 1)), (4, AV.c (AC.w 2)), (6, AV.c (AC.w 19)), (28, AV.c (AC.i 0))], [(0, Ent.mk true (St.cs t) 0), (1, Ent.mk true (St.cs u) 0), (2, Ent.mk true (St.cs St.z) 0), (19, Ent.mk true (St.cs St.e) 0)], 20⟩ R) :
    ART Try.prog 13 C Try.f13.ntmps ([Item.code (bodyOf Try.f13)]) (Kn.start [AV.ag (St.cs t), AV.ag (St.cs u)] [] 0) R :=
  run_cut ⟨[(2, AV.c (AC.w 0)), (3, AV.c (AC.w 1)), (4, AV.c (AC.w 2)), (6, AV.c (AC.w 19)), (28, AV.c (AC.i 0))], [(0, Ent.mk true (St.cs t) 0), (1, Ent.mk true (St.cs u) 0), (2, Ent.mk true (St.cs St.z) 0), (19, Ent.mk true (St.cs St.e) 0)], 20⟩ 2000 [Eff.mk (AV.c (AC.i e)) [] none, Eff.mk (AV.c (AC.i f)) [] none] [false, false, false, false] ([true]) [] Try.func13 (by kernel_rfl) h (cr_cons c0 (cr_cons c1 cr_nil)) lo hF z
theorem fjTop_all {t : St} {u : St} {e : Int} {f : Int} {w : World} {β : Bs} {n : Nat} {E : Eff} (hn : n ≤ 20)
    (l0 : (e != 0) = true → (CallOK Try.prog (CallRec.mk 17 [AV.ag (St.cs t)] [] (Eff.mk (AV.c (AC.i e)) [] none))) ∧ ((⟨AV.tu [AT.ag (St.cs St.z), AT.c (AC.i 1)], [], none⟩ : Eff) = E))
    (l1 : (e != 0) = false → (f != 0) = true → (CallOK Try.prog (CallRec.mk 17 [AV.ag (St.cs t)] [] (Eff.mk (AV.c (AC.i e)) [] none))) ∧ (CallOK Try.prog (CallRec.mk 17 [AV.ag (St.cs u)] [] (Eff.mk (AV.c (AC.i f)) [] none))) ∧ ((⟨AV.tu [AT.ag (St.cs St.z), AT.c (AC.i 1)], [], none⟩ : Eff) = E))
    (l2 : (e != 0) = false → (f != 0) = false → (!St.live t) = true → (CallOK Try.prog (CallRec.mk 17 [AV.ag (St.cs t)] [] (Eff.mk (AV.c (AC.i e)) [] none))) ∧ (CallOK Try.prog (CallRec.mk 17 [AV.ag (St.cs u)] [] (Eff.mk (AV.c (AC.i f)) [] none))) ∧ ((⟨AV.tu [AT.ag (St.cs u), AT.c (AC.i 0)], [], none⟩ : Eff) = E))
    (l3 : (e != 0) = false → (f != 0) = false → (!St.live t) = false → (!St.live u) = true → (CallOK Try.prog (CallRec.mk 17 [AV.ag (St.cs t)] [] (Eff.mk (AV.c (AC.i e)) [] none))) ∧ (CallOK Try.prog (CallRec.mk 17 [AV.ag (St.cs u)] [] (Eff.mk (AV.c (AC.i f)) [] none))) ∧ ((⟨AV.tu [AT.ag (St.cs t), AT.c (AC.i 0)], [], none⟩ : Eff) = E))
    (l4 : (e != 0) = false → (f != 0) = false → (!St.live t) = false → (!St.live u) = false → (CallOK Try.prog (CallRec.mk 17 [AV.ag (St.cs t)] [] (Eff.mk (AV.c (AC.i e)) [] none))) ∧ (CallOK Try.prog (CallRec.mk 17 [AV.ag (St.cs u)] [] (Eff.mk (AV.c (AC.i f)) [] none))) ∧ Kn.Low ⟨[(2, AV.c (AC.w 0)), (3, AV.c (AC.w 1)), (4, AV.c (AC.w 2)), (6, AV.c (AC.w 19)), (28, AV.c (AC.i 0))], [(0, Ent.mk true (St.cs t) 0), (1, Ent.mk true (St.cs u) 0), (2, Ent.mk true (St.cs St.z) 0), (19, Ent.mk true (St.cs St.e) 0)], 20⟩ ∧ ART Try.prog 13 (cx w β n []) Try.f13.ntmps (cutAt Try.f13 0) ⟨[(2, AV.c (AC.w 0)), (3, AV.c (AC.w 1)), (4, AV.c (AC.w 2)), (6, AV.c (AC.w 19)), (28, AV.c (AC.i 0))], [(0, Ent.mk true (St.cs t) 0), (1, Ent.mk true (St.cs u) 0), (2, Ent.mk true (St.cs St.z) 0), (19, Ent.mk true (St.cs St.e) 0)], 20⟩ (REff w β E)) :
    ART Try.prog 13 (cx w β n []) Try.f13.ntmps ([Item.code (bodyOf Try.f13)]) (Kn.start [AV.ag (St.cs t), AV.ag (St.cs u)] [] 0) (REff w β E) :=
  (tf (e != 0)).elim (fun h0 => (match l0 h0 with | ⟨c0, e⟩ => art_eq (fjTop_w0 (and_yes h0 rfl) c0) e)) (fun h0 => (tf (f != 0)).elim (fun h1 => (match l1 h0 h1 with | ⟨c0, c1, e⟩ => art_eq (fjTop_w1 (and_yes (not_yes h0) (and_yes h1 rfl)) c0 c1) e)) (fun h1 => (tf (!St.live t)).elim (fun h2 => (match l2 h0 h1 h2 with | ⟨c0, c1, e⟩ => art_eq (fjTop_w2 (and_yes (not_yes h0) (and_yes (not_yes h1) (and_yes h2 rfl))) c0 c1) e)) (fun h2 => (tf (!St.live u)).elim (fun h3 => (match l3 h0 h1 h2 h3 with | ⟨c0, c1, e⟩ => art_eq (fjTop_w3 (and_yes (not_yes h0) (and_yes (not_yes h1) (and_yes (not_yes h2) (and_yes h3 rfl)))) c0 c1) e)) (fun h3 => (match l4 h0 h1 h2 h3 with | ⟨c0, c1, lo, z⟩ => fjTop_w4 (and_yes (not_yes h0) (and_yes (not_yes h1) (and_yes (not_yes h2) (and_yes (not_yes h3) rfl)))) c0 c1 lo (fun _ hk => Nat.lt_of_lt_of_le hk hn) z)))))
theorem fjRound_w0 {t : St} {u : St} {b : St} {b2 : St} {a : V4} {j : Int} {C : Cx} {R : Ending → World → Prop} (h : (decide (j < 6) && (decide (0 ≤ j) && decide (j < 6) && (AC.isB (Option.getD (St.cs t)[1 + Int.toNat j * 1]? (AC.b false)) && Nat.blt (1 + Int.toNat j * 1) (List.length (St.cs t)) && (V6.get (St.s t) (Int.toNat j) && (decide (0 ≤ j) && decide (j < 6) && (AC.isB (Option.getD (St.cs u)[1 + Int.toNat j * 1]? (AC.b false)) && Nat.blt (1 + Int.toNat j * 1) (List.length (St.cs u)) && (V6.get (St.s u) (Int.toNat j) && (decide (0 ≤ j) && decide (j < 6) && (Nat.ble (7 + Int.toNat j * 4 + 4) (List.length (St.cs t)) && (decide (0 ≤ j) && decide (j < 6) && (Nat.ble (7 + Int.toNat j * 4 + 4) (List.length (St.cs u)) && true))))))))))) = true) (c0 : Eff.mk (AV.c (AC.b (AC.asB (Option.getD (St.cs t)[1 + Int.toNat j * 1]? (AC.b false))))) [] none = Eff.mk (AV.c (AC.b (V6.get (St.s t) (Int.toNat j)))) [] none) (c1 : Eff.mk (AV.c (AC.b (AC.asB (Option.getD (St.cs u)[1 + Int.toNat j * 1]? (AC.b false))))) [] none = Eff.mk (AV.c (AC.b (V6.get (St.s u) (Int.toNat j)))) [] none) (c2 : Eff.mk (AV.ag (List.take 4 (List.drop (7 + Int.toNat j * 4) (St.cs t)))) [] none = Eff.mk (AV.ag (V4.cs (V6.get (St.r t) (Int.toNat j)))) [] none) (c3 : Eff.mk (AV.ag (List.take 4 (List.drop (7 + Int.toNat j * 4) (St.cs u)))) [] none = Eff.mk (AV.ag (V4.cs (V6.get (St.r u) (Int.toNat j)))) [] none) (c4 : CallOK Try.prog (CallRec.mk 34 [AV.ag (V4.cs (V6.get (St.r t) (Int.toNat j))), AV.ag (V4.cs (V6.get (St.r u) (Int.toNat j)))] [] (Eff.mk (AV.tu [AT.ag (V4.cs a), AT.c (AC.i 0)]) [] none))) (c5 : CallOK Try.prog (CallRec.mk 35 [AV.ag (St.cs b), AV.c (AC.i j), AV.ag (V4.cs a)] [] (Eff.mk (AV.ag (St.cs b2)) [] none))) (lo : Kn.Low ⟨[(2, AV.c (AC.w 0)), (3, AV.c (AC.w 1)), (4, AV.c (AC.w 2)), (6, AV.c (AC.w 19)), (28, AV.c (AC.i (IntKind.wrap IntKind.i64 (j + 1))))], [(0, Ent.mk true (St.cs t) 0), (1, Ent.mk true (St.cs u) 0), (2, Ent.mk true (St.cs St.z) 0), (19, Ent.mk true (St.cs b2) 0)], 20⟩) (hF : ∀ k, C.F k → k < 20) (z : ART Try.prog 13 C Try.f13.ntmps (cutAt Try.f13 0) ⟨[(2, AV.c (AC.w 0)), (3, AV.c (AC.w 1)), (4, AV.c (AC.w 2)), (6, AV.c (AC.w 19)), (28, AV.c (AC.i (IntKind.wrap IntKind.i64 (j + 1))))], [(0, Ent.mk true (St.cs t) 0), (1, Ent.mk true (St.cs u) 0), (2, Ent.mk true (St.cs St.z) 0), (19, Ent.mk true (St.cs b2) 0)], 20⟩ R) :
    ART Try.prog 13 C Try.f13.ntmps (cutAt Try.f13 0) (Kn.mk [(2, AV.c (AC.w 0)), (3, AV.c (AC.w 1)), (4, AV.c (AC.w 2)), (6, AV.c (AC.w 19)), (28, AV.c (AC.i j))] [(0, Ent.mk true (St.cs t) 0), (1, Ent.mk true (St.cs u) 0), (2, Ent.mk true (St.cs St.z) 0), (19, Ent.mk true (St.cs b) 0)] 20) R :=
  run_cut ⟨[(2, AV.c (AC.w 0)), (3, AV.c (AC.w 1)), (4, AV.c (AC.w 2)), (6, AV.c (AC.w 19)), (28, AV.c (AC.i (IntKind.wrap IntKind.i64 (j + 1))))], [(0, Ent.mk true (St.cs t) 0), (1, Ent.mk true (St.cs u) 0), (2, Ent.mk true (St.cs St.z) 0), (19, Ent.mk true (St.cs b2) 0)], 20⟩ 2000 [Eff.mk (AV.c (AC.b (V6.get (St.s t) (Int.toNat j)))) [] none, Eff.mk (AV.c (AC.b (V6.get (St.s u) (Int.toNat j)))) [] none, Eff.mk (AV.ag (V4.cs (V6.get (St.r t) (Int.toNat j)))) [] none, Eff.mk (AV.ag (V4.cs (V6.get (St.r u) (Int.toNat j)))) [] none, Eff.mk (AV.tu [AT.ag (V4.cs a), AT.c (AC.i 0)]) [] none, Eff.mk (AV.ag (St.cs b2)) [] none] [true, true, true] ([true]) [(11, 3), (11, 8), (12, 3), (12, 7)] Try.func13 (by kernel_rfl) h (cr_same c0 (cr_same c1 (cr_same c2 (cr_same c3 (cr_cons c4 (cr_cons c5 cr_nil)))))) lo hF z
theorem fjRound_w1 {t : St} {u : St} {b : St} {j : Int} {C : Cx} {R : Ending → World → Prop} (h : (decide (j < 6) && (decide (0 ≤ j) && decide (j < 6) && (AC.isB (Option.getD (St.cs t)[1 + Int.toNat j * 1]? (AC.b false)) && Nat.blt (1 + Int.toNat j * 1) (List.length (St.cs t)) && (V6.get (St.s t) (Int.toNat j) && (decide (0 ≤ j) && decide (j < 6) && (AC.isB (Option.getD (St.cs u)[1 + Int.toNat j * 1]? (AC.b false)) && Nat.blt (1 + Int.toNat j * 1) (List.length (St.cs u)) && (!V6.get (St.s u) (Int.toNat j) && true))))))) = true) (c0 : Eff.mk (AV.c (AC.b (AC.asB (Option.getD (St.cs t)[1 + Int.toNat j * 1]? (AC.b false))))) [] none = Eff.mk (AV.c (AC.b (V6.get (St.s t) (Int.toNat j)))) [] none) (c1 : Eff.mk (AV.c (AC.b (AC.asB (Option.getD (St.cs u)[1 + Int.toNat j * 1]? (AC.b false))))) [] none = Eff.mk (AV.c (AC.b (V6.get (St.s u) (Int.toNat j)))) [] none) (lo : Kn.Low ⟨[(2, AV.c (AC.w 0)), (3, AV.c (AC.w 1)), (4, AV.c (AC.w 2)), (6, AV.c (AC.w 19)), (28, AV.c (AC.i (IntKind.wrap IntKind.i64 (j + 1))))], [(0, Ent.mk true (St.cs t) 0), (1, Ent.mk true (St.cs u) 0), (2, Ent.mk true (St.cs St.z) 0), (19, Ent.mk true (St.cs b) 0)], 20⟩) (hF : ∀ k, C.F k → k < 20) (z : ART Try.prog 13 C Try.f13.ntmps (cutAt Try.f13 0) ⟨[(2, AV.c (AC.w 0)), (3, AV.c (AC.w 1)), (4, AV.c (AC.w 2)), (6, AV.c (AC.w 19)), (28, AV.c (AC.i (IntKind.wrap IntKind.i64 (j + 1))))], [(0, Ent.mk true (St.cs t) 0), (1, Ent.mk true (St.cs u) 0), (2, Ent.mk true (St.cs St.z) 0), (19, Ent.mk true (St.cs b) 0)], 20⟩ R) :
    ART Try.prog 13 C Try.f13.ntmps (cutAt Try.f13 0) (Kn.mk [(2, AV.c (AC.w 0)), (3, AV.c (AC.w 1)), (4, AV.c (AC.w 2)), (6, AV.c (AC.w 19)), (28, AV.c (AC.i j))] [(0, Ent.mk true (St.cs t) 0), (1, Ent.mk true (St.cs u) 0), (2, Ent.mk true (St.cs St.z) 0), (19, Ent.mk true (St.cs b) 0)] 20) R :=
  run_cut ⟨[(2, AV.c (AC.w 0)), (3, AV.c (AC.w 1)), (4, AV.c (AC.w 2)), (6, AV.c (AC.w 19)), (28, AV.c (AC.i (IntKind.wrap IntKind.i64 (j + 1))))], [(0, Ent.mk true (St.cs t) 0), (1, Ent.mk true (St.cs u) 0), (2, Ent.mk true (St.cs St.z) 0), (19, Ent.mk true (St.cs b) 0)], 20⟩ 2000 [Eff.mk (AV.c (AC.b (V6.get (St.s t) (Int.toNat j)))) [] none, Eff.mk (AV.c (AC.b (V6.get (St.s u) (Int.toNat j)))) [] none] [true, true, false] ([true]) [(11, 3), (11, 8), (12, 3), (12, 7)] Try.func13 (by kernel_rfl) h (cr_same c0 (cr_same c1 cr_nil)) lo hF z
theorem fjRound_w2 {t : St} {u : St} {b : St} {j : Int} {C : Cx} {R : Ending → World → Prop} (h : (decide (j < 6) && (decide (0 ≤ j) && decide (j < 6) && (AC.isB (Option.getD (St.cs t)[1 + Int.toNat j * 1]? (AC.b false)) && Nat.blt (1 + Int.toNat j * 1) (List.length (St.cs t)) && (!V6.get (St.s t) (Int.toNat j) && true)))) = true) (c0 : Eff.mk (AV.c (AC.b (AC.asB (Option.getD (St.cs t)[1 + Int.toNat j * 1]? (AC.b false))))) [] none = Eff.mk (AV.c (AC.b (V6.get (St.s t) (Int.toNat j)))) [] none) (lo : Kn.Low ⟨[(2, AV.c (AC.w 0)), (3, AV.c (AC.w 1)), (4, AV.c (AC.w 2)), (6, AV.c (AC.w 19)), (28, AV.c (AC.i (IntKind.wrap IntKind.i64 (j + 1))))], [(0, Ent.mk true (St.cs t) 0), (1, Ent.mk true (St.cs u) 0), (2, Ent.mk true (St.cs St.z) 0), (19, Ent.mk true (St.cs b) 0)], 20⟩) (hF : ∀ k, C.F k → k < 20) (z : ART Try.prog 13 C Try.f13.ntmps (cutAt Try.f13 0) ⟨[(2, AV.c (AC.w 0)), (3, AV.c (AC.w 1)), (4, AV.c (AC.w 2)), (6, AV.c (AC.w 19)), (28, AV.c (AC.i (IntKind.wrap IntKind.i64 (j + 1))))], [(0, Ent.mk true (St.cs t) 0), (1, Ent.mk true (St.cs u) 0), (2, Ent.mk true (St.cs St.z) 0), (19, Ent.mk true (St.cs b) 0)], 20⟩ R) :
    ART Try.prog 13 C Try.f13.ntmps (cutAt Try.f13 0) (Kn.mk [(2, AV.c (AC.w 0)), (3, AV.c (AC.w 1)), (4, AV.c (AC.w 2)), (6, AV.c (AC.w 19)), (28, AV.c (AC.i j))] [(0, Ent.mk true (St.cs t) 0), (1, Ent.mk true (St.cs u) 0), (2, Ent.mk true (St.cs St.z) 0), (19, Ent.mk true (St.cs b) 0)] 20) R :=
  run_cut ⟨[(2, AV.c (AC.w 0)), (3, AV.c (AC.w 1)), (4, AV.c (AC.w 2)), (6, AV.c (AC.w 19)), (28, AV.c (AC.i (IntKind.wrap IntKind.i64 (j + 1))))], [(0, Ent.mk true (St.cs t) 0), (1, Ent.mk true (St.cs u) 0), (2, Ent.mk true (St.cs St.z) 0), (19, Ent.mk true (St.cs b) 0)], 20⟩ 2000 [Eff.mk (AV.c (AC.b (V6.get (St.s t) (Int.toNat j)))) [] none] [true, false, false] ([true]) [(11, 3), (11, 8), (12, 3), (12, 7)] Try.func13 (by kernel_rfl) h (cr_same c0 cr_nil) lo hF z
theorem fjRound_all {t : St} {u : St} {b : St} {b2 : St} {a : V4} {j : Int} {w : World} {β : Bs} {n : Nat} {E : Eff} (hn : n ≤ 20)
    (l0 : (V6.get (St.s t) (Int.toNat j)) = true → (V6.get (St.s u) (Int.toNat j)) = true → (decide (j < 6)) = true ∧ (decide (0 ≤ j) && decide (j < 6)) = true ∧ (AC.isB (Option.getD (St.cs t)[1 + Int.toNat j * 1]? (AC.b false)) && Nat.blt (1 + Int.toNat j * 1) (List.length (St.cs t))) = true ∧ (decide (0 ≤ j) && decide (j < 6)) = true ∧ (AC.isB (Option.getD (St.cs u)[1 + Int.toNat j * 1]? (AC.b false)) && Nat.blt (1 + Int.toNat j * 1) (List.length (St.cs u))) = true ∧ (decide (0 ≤ j) && decide (j < 6)) = true ∧ (Nat.ble (7 + Int.toNat j * 4 + 4) (List.length (St.cs t))) = true ∧ (decide (0 ≤ j) && decide (j < 6)) = true ∧ (Nat.ble (7 + Int.toNat j * 4 + 4) (List.length (St.cs u))) = true ∧ (Eff.mk (AV.c (AC.b (AC.asB (Option.getD (St.cs t)[1 + Int.toNat j * 1]? (AC.b false))))) [] none = Eff.mk (AV.c (AC.b (V6.get (St.s t) (Int.toNat j)))) [] none) ∧ (Eff.mk (AV.c (AC.b (AC.asB (Option.getD (St.cs u)[1 + Int.toNat j * 1]? (AC.b false))))) [] none = Eff.mk (AV.c (AC.b (V6.get (St.s u) (Int.toNat j)))) [] none) ∧ (Eff.mk (AV.ag (List.take 4 (List.drop (7 + Int.toNat j * 4) (St.cs t)))) [] none = Eff.mk (AV.ag (V4.cs (V6.get (St.r t) (Int.toNat j)))) [] none) ∧ (Eff.mk (AV.ag (List.take 4 (List.drop (7 + Int.toNat j * 4) (St.cs u)))) [] none = Eff.mk (AV.ag (V4.cs (V6.get (St.r u) (Int.toNat j)))) [] none) ∧ (CallOK Try.prog (CallRec.mk 34 [AV.ag (V4.cs (V6.get (St.r t) (Int.toNat j))), AV.ag (V4.cs (V6.get (St.r u) (Int.toNat j)))] [] (Eff.mk (AV.tu [AT.ag (V4.cs a), AT.c (AC.i 0)]) [] none))) ∧ (CallOK Try.prog (CallRec.mk 35 [AV.ag (St.cs b), AV.c (AC.i j), AV.ag (V4.cs a)] [] (Eff.mk (AV.ag (St.cs b2)) [] none))) ∧ Kn.Low ⟨[(2, AV.c (AC.w 0)), (3, AV.c (AC.w 1)), (4, AV.c (AC.w 2)), (6, AV.c (AC.w 19)), (28, AV.c (AC.i (IntKind.wrap IntKind.i64 (j + 1))))], [(0, Ent.mk true (St.cs t) 0), (1, Ent.mk true (St.cs u) 0), (2, Ent.mk true (St.cs St.z) 0), (19, Ent.mk true (St.cs b2) 0)], 20⟩ ∧ ART Try.prog 13 (cx w β n []) Try.f13.ntmps (cutAt Try.f13 0) ⟨[(2, AV.c (AC.w 0)), (3, AV.c (AC.w 1)), (4, AV.c (AC.w 2)), (6, AV.c (AC.w 19)), (28, AV.c (AC.i (IntKind.wrap IntKind.i64 (j + 1))))], [(0, Ent.mk true (St.cs t) 0), (1, Ent.mk true (St.cs u) 0), (2, Ent.mk true (St.cs St.z) 0), (19, Ent.mk true (St.cs b2) 0)], 20⟩ (REff w β E))
    (l1 : (V6.get (St.s t) (Int.toNat j)) = true → (V6.get (St.s u) (Int.toNat j)) = false → (decide (j < 6)) = true ∧ (decide (0 ≤ j) && decide (j < 6)) = true ∧ (AC.isB (Option.getD (St.cs t)[1 + Int.toNat j * 1]? (AC.b false)) && Nat.blt (1 + Int.toNat j * 1) (List.length (St.cs t))) = true ∧ (decide (0 ≤ j) && decide (j < 6)) = true ∧ (AC.isB (Option.getD (St.cs u)[1 + Int.toNat j * 1]? (AC.b false)) && Nat.blt (1 + Int.toNat j * 1) (List.length (St.cs u))) = true ∧ (Eff.mk (AV.c (AC.b (AC.asB (Option.getD (St.cs t)[1 + Int.toNat j * 1]? (AC.b false))))) [] none = Eff.mk (AV.c (AC.b (V6.get (St.s t) (Int.toNat j)))) [] none) ∧ (Eff.mk (AV.c (AC.b (AC.asB (Option.getD (St.cs u)[1 + Int.toNat j * 1]? (AC.b false))))) [] none = Eff.mk (AV.c (AC.b (V6.get (St.s u) (Int.toNat j)))) [] none) ∧ Kn.Low ⟨[(2, AV.c (AC.w 0)), (3, AV.c (AC.w 1)), (4, AV.c (AC.w 2)), (6, AV.c (AC.w 19)), (28, AV.c (AC.i (IntKind.wrap IntKind.i64 (j + 1))))], [(0, Ent.mk true (St.cs t) 0), (1, Ent.mk true (St.cs u) 0), (2, Ent.mk true (St.cs St.z) 0), (19, Ent.mk true (St.cs b) 0)], 20⟩ ∧ ART Try.prog 13 (cx w β n []) Try.f13.ntmps (cutAt Try.f13 0) ⟨[(2, AV.c (AC.w 0)), (3, AV.c (AC.w 1)), (4, AV.c (AC.w 2)), (6, AV.c (AC.w 19)), (28, AV.c (AC.i (IntKind.wrap IntKind.i64 (j + 1))))], [(0, Ent.mk true (St.cs t) 0), (1, Ent.mk true (St.cs u) 0), (2, Ent.mk true (St.cs St.z) 0), (19, Ent.mk true (St.cs b) 0)], 20⟩ (REff w β E))
    (l2 : (V6.get (St.s t) (Int.toNat j)) = false → (decide (j < 6)) = true ∧ (decide (0 ≤ j) && decide (j < 6)) = true ∧ (AC.isB (Option.getD (St.cs t)[1 + Int.toNat j * 1]? (AC.b false)) && Nat.blt (1 + Int.toNat j * 1) (List.length (St.cs t))) = true ∧ (Eff.mk (AV.c (AC.b (AC.asB (Option.getD (St.cs t)[1 + Int.toNat j * 1]? (AC.b false))))) [] none = Eff.mk (AV.c (AC.b (V6.get (St.s t) (Int.toNat j)))) [] none) ∧ Kn.Low ⟨[(2, AV.c (AC.w 0)), (3, AV.c (AC.w 1)), (4, AV.c (AC.w 2)), (6, AV.c (AC.w 19)), (28, AV.c (AC.i (IntKind.wrap IntKind.i64 (j + 1))))], [(0, Ent.mk true (St.cs t) 0), (1, Ent.mk true (St.cs u) 0), (2, Ent.mk true (St.cs St.z) 0), (19, Ent.mk true (St.cs b) 0)], 20⟩ ∧ ART Try.prog 13 (cx w β n []) Try.f13.ntmps (cutAt Try.f13 0) ⟨[(2, AV.c (AC.w 0)), (3, AV.c (AC.w 1)), (4, AV.c (AC.w 2)), (6, AV.c (AC.w 19)), (28, AV.c (AC.i (IntKind.wrap IntKind.i64 (j + 1))))], [(0, Ent.mk true (St.cs t) 0), (1, Ent.mk true (St.cs u) 0), (2, Ent.mk true (St.cs St.z) 0), (19, Ent.mk true (St.cs b) 0)], 20⟩ (REff w β E)) :
    ART Try.prog 13 (cx w β n []) Try.f13.ntmps (cutAt Try.f13 0) (Kn.mk [(2, AV.c (AC.w 0)), (3, AV.c (AC.w 1)), (4, AV.c (AC.w 2)), (6, AV.c (AC.w 19)), (28, AV.c (AC.i j))] [(0, Ent.mk true (St.cs t) 0), (1, Ent.mk true (St.cs u) 0), (2, Ent.mk true (St.cs St.z) 0), (19, Ent.mk true (St.cs b) 0)] 20) (REff w β E) :=
  (tf (V6.get (St.s t) (Int.toNat j))).elim (fun h0 => (tf (V6.get (St.s u) (Int.toNat j))).elim (fun h1 => (match l0 h0 h1 with | ⟨o0, o1, o2, o3, o4, o5, o6, o7, o8, c0, c1, c2, c3, c4, c5, lo, z⟩ => fjRound_w0 (and_yes o0 (and_yes o1 (and_yes o2 (and_yes h0 (and_yes o3 (and_yes o4 (and_yes h1 (and_yes o5 (and_yes o6 (and_yes o7 (and_yes o8 rfl))))))))))) c0 c1 c2 c3 c4 c5 lo (fun _ hk => Nat.lt_of_lt_of_le hk hn) z)) (fun h1 => (match l1 h0 h1 with | ⟨o0, o1, o2, o3, o4, c0, c1, lo, z⟩ => fjRound_w1 (and_yes o0 (and_yes o1 (and_yes o2 (and_yes h0 (and_yes o3 (and_yes o4 (and_yes (not_yes h1) rfl))))))) c0 c1 lo (fun _ hk => Nat.lt_of_lt_of_le hk hn) z))) (fun h0 => (match l2 h0 with | ⟨o0, o1, o2, c0, lo, z⟩ => fjRound_w2 (and_yes o0 (and_yes o1 (and_yes o2 (and_yes (not_yes h0) rfl)))) c0 lo (fun _ hk => Nat.lt_of_lt_of_le hk hn) z))
theorem fjEnd_w0 {t : St} {u : St} {b : St} {w : World} {β : Bs} {n : Nat} :
    ART Try.prog 13 (cx w β n []) Try.f13.ntmps (cutAt Try.f13 0) (Kn.mk [(2, AV.c (AC.w 0)), (3, AV.c (AC.w 1)), (4, AV.c (AC.w 2)), (6, AV.c (AC.w 19)), (28, AV.c (AC.i 6))] [(0, Ent.mk true (St.cs t) 0), (1, Ent.mk true (St.cs u) 0), (2, Ent.mk true (St.cs St.z) 0), (19, Ent.mk true (St.cs b) 0)] 20) (REff w β ⟨AV.tu [AT.ag (St.cs b), AT.c (AC.i 0)], [], none⟩) :=
  run_eff [] (none) 2000 [] [false] ([true]) [] Try.func13 (ekeys0 rfl n) (by kernel_rfl) rfl cr_nil
end Go.Proofs.Ytkigmocchaikgab

/- Ways of bodies, written by a program (ways.py): what each asks for, and hands back. -/
namespace Go.Proofs.Ytkigmocchaikgab
open Go.RowKit

theorem calcBytes_w0 {n : Int} (h : (n == 1 && (n == 1 && (decide (nv (BitVec.ofInt 64 (IntKind.wrap IntKind.i64 (64 - IntKind.wrap IntKind.i64 (8 * n)))) ≤ 64) && true))) = true) :
    CallOK Try.prog ⟨75, [AV.c (AC.i n)], [], ⟨AV.tu [AT.ag [AC.u 0#64, AC.u (bshr (18446744073709551615#64) (Int.toNat (nv (BitVec.ofInt 64 (IntKind.wrap IntKind.i64 (64 - IntKind.wrap IntKind.i64 (8 * n))))))), AC.u 0#64, AC.u (bshr (18446744073709551615#64) (Int.toNat (nv (BitVec.ofInt 64 (IntKind.wrap IntKind.i64 (64 - IntKind.wrap IntKind.i64 (8 * n)))))))], AT.c (AC.i 0)], [], none⟩⟩ :=
  val_run 2000 [] [true, true] ([]) [] Try.func75 rfl rfl rfl rfl (by kernel_rfl) h cr_nil
theorem calcBytes_w1 {n : Int} (h : (!n == 1 && (n == 2 && (n == 2 && (decide (nv (BitVec.ofInt 64 (IntKind.wrap IntKind.i64 (64 - IntKind.wrap IntKind.i64 (8 * n)))) ≤ 64) && true)))) = true) :
    CallOK Try.prog ⟨75, [AV.c (AC.i n)], [], ⟨AV.tu [AT.ag [AC.u 0#64, AC.u (bshr (18446744073709551615#64) (Int.toNat (nv (BitVec.ofInt 64 (IntKind.wrap IntKind.i64 (64 - IntKind.wrap IntKind.i64 (8 * n))))))), AC.u 0#64, AC.u (bshr (18446744073709551615#64) (Int.toNat (nv (BitVec.ofInt 64 (IntKind.wrap IntKind.i64 (64 - IntKind.wrap IntKind.i64 (8 * n)))))))], AT.c (AC.i 0)], [], none⟩⟩ :=
  val_run 2000 [] [false, true, true] ([]) [] Try.func75 rfl rfl rfl rfl (by kernel_rfl) h cr_nil
theorem calcBytes_w2 {n : Int} (h : (!n == 1 && (!n == 2 && (n == 4 && (n == 4 && (decide (nv (BitVec.ofInt 64 (IntKind.wrap IntKind.i64 (64 - IntKind.wrap IntKind.i64 (8 * n)))) ≤ 64) && true))))) = true) :
    CallOK Try.prog ⟨75, [AV.c (AC.i n)], [], ⟨AV.tu [AT.ag [AC.u 0#64, AC.u (bshr (18446744073709551615#64) (Int.toNat (nv (BitVec.ofInt 64 (IntKind.wrap IntKind.i64 (64 - IntKind.wrap IntKind.i64 (8 * n))))))), AC.u 0#64, AC.u (bshr (18446744073709551615#64) (Int.toNat (nv (BitVec.ofInt 64 (IntKind.wrap IntKind.i64 (64 - IntKind.wrap IntKind.i64 (8 * n)))))))], AT.c (AC.i 0)], [], none⟩⟩ :=
  val_run 2000 [] [false, false, true, true] ([]) [] Try.func75 rfl rfl rfl rfl (by kernel_rfl) h cr_nil
theorem calcBytes_w3 {n : Int} (h : (!n == 1 && (!n == 2 && (!n == 4 && (n == 8 && (decide (nv (BitVec.ofInt 64 (IntKind.wrap IntKind.i64 (64 - IntKind.wrap IntKind.i64 (8 * n)))) ≤ 64) && true))))) = true) :
    CallOK Try.prog ⟨75, [AV.c (AC.i n)], [], ⟨AV.tu [AT.ag [AC.u 0#64, AC.u (bshr (18446744073709551615#64) (Int.toNat (nv (BitVec.ofInt 64 (IntKind.wrap IntKind.i64 (64 - IntKind.wrap IntKind.i64 (8 * n))))))), AC.u 0#64, AC.u (bshr (18446744073709551615#64) (Int.toNat (nv (BitVec.ofInt 64 (IntKind.wrap IntKind.i64 (64 - IntKind.wrap IntKind.i64 (8 * n)))))))], AT.c (AC.i 0)], [], none⟩⟩ :=
  val_run 2000 [] [false, false, false, true] ([]) [] Try.func75 rfl rfl rfl rfl (by kernel_rfl) h cr_nil
end Go.Proofs.Ytkigmocchaikgab
