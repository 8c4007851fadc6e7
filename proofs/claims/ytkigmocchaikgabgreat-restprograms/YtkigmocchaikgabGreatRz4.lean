import Derived.Test.YtkigmocchaikgabGreatRz3
import Derived.Laws.MathBits
import Derived.Laws.StructEq
import Derived.Deep.RegionWith
import Derived.Deep.CutBlock
import Derived.Deep.DeepCutAuto
import Derived.Test.YtkigmocchaikgabGreatRz1
import Derived.Test.YtkigmocchaikgabGreatRz2
import Derived.Test.YtkigmocchaikgabGreatProg
/- The contracts of the reference's least and greatest. -/
namespace Go.Proofs.YtkigmocchaikgabGreat
open Go.RowKit
section
attribute [local go_sem] w_and w_or w_xor w_andNot w_and1 w_and63 w_add w_sub w_mul w_sub1 w_add1 w_shl w_shl1 w_shr c_beq c_bne c_beq0 c_bne0 c_beq1 c_bne1 wrap_nv
theorem shr_and0 (v : BitVec 64) (i : Nat) : eqb (band (bshr v i) one) zero = !bit v i := by
 cases hb : bit v i
 ·have h : ∀ j, bit (band (bshr v i) one) j = false := by
   intro j
   rw [bit_and', bit_shr]
   have ho : bit one j = decide (j = 0) := by
    have := bit_one_shl 0 j (by omega)
    rw [show bshl one 0 = one by unfold bshl; simp] at this
    exact this
   rw [ho]
   by_cases e : j = 0
   ·subst e; rw [Nat.add_zero, hb]; rfl
   ·simp [e]
  rw [(eqb_zero_iff _).2 fun j _ => h j]; rfl
 ·have := shr_and1 v i
  rw [hb, eqb_iff] at this
  rw [this]; rfl
theorem has_is {v m x : BitVec 64} {b : Bool} (h : hasB v m x = b) (w : World) :
  Calls Tryz.prog 134 #[Bt v m, U x] w fun e w' => e = .returned (.bool b) ∧ Below w.heap.size w w' := h ▸ bitsHave_any v m x w
set_option maxRecDepth 100000 in
set_option maxHeartbeats 1000000 in
theorem refLeast_any (v m x : BitVec 64) (w : World) :
  Calls Tryz.prog 114 #[Bt v m, U x] w fun e w' => e = .returned (.tuple #[U (scanL v m x 64).1, .bool (scanL v m x 64).2]) ∧ Below w.heap.size w w' := by
 obtain ⟨hh, Hh⟩ : ∃ b, Hid (hasB v m x = b) := ⟨_, rfl⟩
 go_enter Tryz.func114, Tryz.ntmps114
 go_wp2_with fail
 refine (has_is Hh.out _).mono ?_
 rintro e w1 ⟨rfl, hb1⟩
 have hK := ((Kp.start w).add2 _ _ _).keep hb1
 go_wp2_with fail
 go_loopw [6, 7, 8] (fun b f i wr => ∃ k : Nat, k ≤ 64 ∧ i = N k ∧ b = U (scanL v m x k).1 ∧ f = .bool (scanL v m x k).2 ∧ Kp w wr [(w.heap.size, [U v, U m])]) (fun _ _ i _ => 64 - (intOf i).toNat)
 case atStart => exact ⟨0, by omega, rfl, rfl, by rw [scanL, Hh.out], hK⟩
 case round =>
  clear hK hb1
  obtain ⟨k, hk, rfl, rfl, rfl, hK⟩ := hrel
  obtain ⟨a0, a1, a2, a3, a4⟩ := hK.box.head.two
  have Hs : Hid (k < 64 → scanL v m x (k + 1) = if (scanL v m x k).2 then scanL v m x k else if okL v m x k then (candL v x k, true) else scanL v m x k) := fun _ => rfl
  have Ht : Hid ((scanL v m x k).2 = true → scanL v m x 64 = scanL v m x k) := fun h => scanL_stay v m x k 64 h hk
  have Hu : Hid (k = 64 → scanL v m x 64 = scanL v m x k) := fun h => by rw [h]
  generalize scanL v m x k = S at Hs Ht Hu ⊢
  obtain ⟨sb, sf⟩ := S
  by_cases hlt : k < 64
  ·cases sf
   ·have hA := shr_and1 x k
    have Hn := Hs.out hlt
    have Hok : Hid (okL v m x k = (!bit x k && hasB v m (candL v x k))) := rfl
    clear Hs Ht Hu
    have Hn : Hid _ := Hn
    obtain ⟨bx, hbx⟩ : ∃ b, Hid (bit x k = b) := ⟨_, rfl⟩
    rw [hbx.out] at hA Hok
    obtain ⟨bc, hbc⟩ : ∃ b, Hid (hasB v m (candL v x k) = b) := ⟨_, rfl⟩
    rw [hbc.out] at Hok
    cases bx
    ·go_wp2_with fail
     go_quiet (fail)
     go_wp2_with fail
     go_quiet (fail)
     go_wp2_with fail
     refine (has_is (b := bc) hbc.out _).mono ?_
     rintro e w2 ⟨rfl, hb2⟩
     have hK2 := (hK.drew _).keep hb2
     cases bc
     ·go_wp2_with fail
      exact ⟨⟨k + 1, by omega, by go_num, by rw [Hn.out, Hok.out]; rfl, by rw [Hn.out, Hok.out]; rfl, hK2⟩, by simp [intOf]; omega⟩
     ·go_wp2_with fail
      exact ⟨⟨k + 1, by omega, by go_num, by rw [Hn.out, Hok.out]; rfl, by rw [Hn.out, Hok.out]; rfl, hK2⟩, by simp [intOf]; omega⟩
    ·go_wp2_with fail
     exact ⟨⟨k + 1, by omega, by go_num, by rw [Hn.out, Hok.out]; rfl, by rw [Hn.out, Hok.out]; rfl, hK⟩, by simp [intOf]; omega⟩
   ·have He : Hid _ := Ht.out rfl
    clear Hs Ht Hu
    go_wp2_with fail
    go_ret2
    rw [He.out]
    exact ⟨rfl, hK.bel⟩
  ·have hk64 : k = 64 := by omega
   have He : Hid _ := Hu.out hk64
   clear Hs Ht Hu
   subst hk64
   go_wp2_with fail
   go_ret2
   rw [He.out]
   exact ⟨rfl, hK.bel⟩
set_option maxRecDepth 100000 in
set_option maxHeartbeats 1000000 in
theorem refGreat_any (v m x : BitVec 64) (w : World) :
  Calls Tryz.prog 115 #[Bt v m, U x] w fun e w' => e = .returned (.tuple #[U (scanG v m x 64).1, .bool (scanG v m x 64).2]) ∧ Below w.heap.size w w' := by
 obtain ⟨hh, Hh⟩ : ∃ b, Hid (hasB v m x = b) := ⟨_, rfl⟩
 go_enter Tryz.func115, Tryz.ntmps115
 go_wp2_with fail
 refine (has_is Hh.out _).mono ?_
 rintro e w1 ⟨rfl, hb1⟩
 have hK := ((Kp.start w).add2 _ _ _).keep hb1
 go_wp2_with fail
 go_loopw [6, 7, 8] (fun b f i wr => ∃ k : Nat, k ≤ 64 ∧ i = N k ∧ b = U (scanG v m x k).1 ∧ f = .bool (scanG v m x k).2 ∧ Kp w wr [(w.heap.size, [U v, U m])]) (fun _ _ i _ => 64 - (intOf i).toNat)
 case atStart => exact ⟨0, by omega, rfl, rfl, by rw [scanG, Hh.out], hK⟩
 case round =>
  clear hK hb1
  obtain ⟨k, hk, rfl, rfl, rfl, hK⟩ := hrel
  obtain ⟨a0, a1, a2, a3, a4⟩ := hK.box.head.two
  have Hs : Hid (k < 64 → scanG v m x (k + 1) = if (scanG v m x k).2 then scanG v m x k else if okG v m x k then (candG v m x k, true) else scanG v m x k) := fun _ => rfl
  have Ht : Hid ((scanG v m x k).2 = true → scanG v m x 64 = scanG v m x k) := fun h => scanG_stay v m x k 64 h hk
  have Hu : Hid (k = 64 → scanG v m x 64 = scanG v m x k) := fun h => by rw [h]
  generalize scanG v m x k = S at Hs Ht Hu ⊢
  obtain ⟨sb, sf⟩ := S
  by_cases hlt : k < 64
  ·cases sf
   ·have hA := shr_and0 x k
    have Hn := Hs.out hlt
    have Hok : Hid (okG v m x k = (bit x k && hasB v m (candG v m x k))) := rfl
    clear Hs Ht Hu
    have Hn : Hid _ := Hn
    obtain ⟨bx, hbx⟩ : ∃ b, Hid (bit x k = b) := ⟨_, rfl⟩
    rw [hbx.out] at hA Hok
    obtain ⟨bc, hbc⟩ : ∃ b, Hid (hasB v m (candG v m x k) = b) := ⟨_, rfl⟩
    rw [hbc.out] at Hok
    cases bx
    ·go_wp2_with fail
     exact ⟨⟨k + 1, by omega, by go_num, by rw [Hn.out, Hok.out]; rfl, by rw [Hn.out, Hok.out]; rfl, hK⟩, by simp [intOf]; omega⟩
    ·go_wp2_with fail
     go_quiet (fail)
     go_wp2_with fail
     refine (has_is (b := bc) hbc.out _).mono ?_
     rintro e w2 ⟨rfl, hb2⟩
     have hK2 := (hK.drew _).keep hb2
     cases bc
     ·go_wp2_with fail
      exact ⟨⟨k + 1, by omega, by go_num, by rw [Hn.out, Hok.out]; rfl, by rw [Hn.out, Hok.out]; rfl, hK2⟩, by simp [intOf]; omega⟩
     ·go_wp2_with fail
      exact ⟨⟨k + 1, by omega, by go_num, by rw [Hn.out, Hok.out]; rfl, by rw [Hn.out, Hok.out]; rfl, hK2⟩, by simp [intOf]; omega⟩
   ·have He : Hid _ := Ht.out rfl
    clear Hs Ht Hu
    go_wp2_with fail
    go_ret2
    rw [He.out]
    exact ⟨rfl, hK.bel⟩
  ·have hk64 : k = 64 := by omega
   have He : Hid _ := Hu.out hk64
   clear Hs Ht Hu
   subst hk64
   go_wp2_with fail
   go_ret2
   rw [He.out]
   exact ⟨rfl, hK.bel⟩
end
section
attribute [local go_sem] w_and w_or w_xor w_andNot w_and1 w_and63 w_add w_sub w_mul w_sub1 w_add1 w_shl w_shl1 w_shr c_beq c_bne c_beq0 c_bne0 c_beq1 c_bne1 wrap_nv
set_option maxHeartbeats 400000 in
theorem joinBits_any (av am bv bm : BitVec 64) (w : World) :
  Calls Tryz.prog 125 #[Bt av am, Bt bv bm] w fun e w' => e = .returned (Bt (joinV av am bv bm 64) (joinM av am bv bm 64)) ∧ Below w.heap.size w w' := by
 go_enter Tryz.func125, Tryz.ntmps125
 go_wp2
 go_loopw [6] (fun i wr => ∃ k : Nat, k ≤ 64 ∧ i = N k
   ∧ Below (w.heap.size + 1 + 1 + 1) (((w.alloc (.cells #[U av, U am] 27)).alloc (.cells #[U bv, U bm] 27)).alloc (.cells #[.int .u64 0, .int .u64 0] 27)) wr
   ∧ wr.cell? ⟨w.heap.size + 1 + 1 + 1, 0, none⟩ = some (U (joinV av am bv bm k)) ∧ wr.cell? ⟨w.heap.size + 1 + 1 + 1, 1, none⟩ = some (U (joinM av am bv bm k))
   ∧ (∀ o, wr.frozen? ⟨w.heap.size + 1 + 1 + 1, o, none⟩ = false)
   ∧ w.heap.size + 1 + 1 + 1 + 1 ≤ wr.heap.size) (fun i _ => 64 - (intOf i).toNat)
 case atStart =>
  exact ⟨0, by omega, rfl, (by repeat (first | exact Below.refl _ _ | assumption | refine below_drewN ?_ _ | refine Below.drew ?_ | refine Below.alloc ?_ (by first | exact Nat.le_refl _ | (simp; done) | (simp; omega) | omega) _ | refine Below.setCell ?_ (by first | exact Nat.le_refl _ | (simp; done) | (simp; omega) | omega) _ | refine Below.trans ?_ (Below.mono (by assumption) (by first | exact Nat.le_refl _ | (simp; done) | (simp; omega) | omega)))), by simp [joinV, acc, nv_zero, go_sem], by simp [joinM, acc, nv_zero, go_sem], by simp [go_sem], by simp⟩
 case round =>
  obtain ⟨k, hk, rfl, hbel, ho0, ho1, hfo, hsz⟩ := hrel
  obtain ⟨hc, hf⟩ := bl hbel
  by_cases hlt : k < 64
  ·obtain ⟨z1, o1, H1, H2⟩ := may_eq av am k
   obtain ⟨z2, o2, H3, H4⟩ := may_eq bv bm k
   go_wp2_with fail
   refine (may_any hlt H1 H2 _).mono ?_
   rintro e w1 ⟨rfl, hb1⟩
   obtain ⟨hc1, hf1, hs1⟩ := bk _ hb1 hsz
   go_wp2_with fail
   refine (may_any hlt H3 H4 _).mono ?_
   rintro e w2 ⟨rfl, hb2⟩
   obtain ⟨hc2, hf2, hs2⟩ := bk _ hb2 hs1
   cases z1 <;> cases o1
   all_goals
    go_wp2_with fail
    refine (put_any _ _ k hlt _ _ _).mono ?_
    rintro e w3 ⟨rfl, hb3⟩
    obtain ⟨hc3, hf3, hs3⟩ := bk _ hb3 hs2
    go_wp2_with fail
    exact ⟨⟨k + 1, by omega, by go_num, out_rel hbel ((hb1.trans (hb2.mono hb1.size)).trans (hb3.mono (Nat.le_trans hb1.size hb2.size))) hsz ho0 ho1 hfo
     (by rw [← joinV_succ, ← H1.out, ← H2.out, ← H3.out, ← H4.out]; rfl) (by rw [← joinM_succ, ← H1.out, ← H2.out, ← H3.out, ← H4.out]; rfl)⟩, by simp [intOf]; omega⟩
  ·have hk64 : k = 64 := by omega
   subst hk64
   go_wp2_with fail
   exact bodyPost_ret (v := Bt (joinV av am bv bm 64) (joinM av am bv bm 64)) (by simp [results, Tryz.results125, go_sem, hc]) rfl ⟨rfl, (by repeat (first | exact Below.refl _ _ | assumption | refine below_drewN ?_ _ | refine Below.drew ?_ | refine Below.alloc ?_ (by first | exact Nat.le_refl _ | (simp; done) | (simp; omega) | omega) _ | refine Below.setCell ?_ (by first | exact Nat.le_refl _ | (simp; done) | (simp; omega) | omega) _ | refine Below.trans ?_ (Below.mono (by assumption) (by first | exact Nat.le_refl _ | (simp; done) | (simp; omega) | omega))))⟩
set_option maxHeartbeats 600000 in
theorem meetBits_ok (av am bv bm : BitVec 64) (hok : Hid (∀ j, j < 64 → meetOk av am bv bm j = true)) (w : World) :
  Calls Tryz.prog 85 #[Bt av am, Bt bv bm] w fun e w' => e = .returned (.tuple #[Bt (meetV av am bv bm 64) (meetM av am bv bm 64), .bool true]) ∧ Below w.heap.size w w' := by
 go_enter Tryz.func85, Tryz.ntmps85
 go_wp2
 go_loopw [7] (fun i wr => ∃ k : Nat, k ≤ 64 ∧ i = N k
   ∧ Below (w.heap.size + 1 + 1 + 1) (((w.alloc (.cells #[U av, U am] 27)).alloc (.cells #[U bv, U bm] 27)).alloc (.cells #[.int .u64 0, .int .u64 0] 27)) wr
   ∧ wr.cell? ⟨w.heap.size + 1 + 1 + 1, 0, none⟩ = some (U (meetV av am bv bm k)) ∧ wr.cell? ⟨w.heap.size + 1 + 1 + 1, 1, none⟩ = some (U (meetM av am bv bm k))
   ∧ (∀ o, wr.frozen? ⟨w.heap.size + 1 + 1 + 1, o, none⟩ = false)
   ∧ w.heap.size + 1 + 1 + 1 + 1 ≤ wr.heap.size) (fun i _ => 64 - (intOf i).toNat)
 case atStart =>
  exact ⟨0, by omega, rfl, (by repeat (first | exact Below.refl _ _ | assumption | refine below_drewN ?_ _ | refine Below.drew ?_ | refine Below.alloc ?_ (by first | exact Nat.le_refl _ | (simp; done) | (simp; omega) | omega) _ | refine Below.setCell ?_ (by first | exact Nat.le_refl _ | (simp; done) | (simp; omega) | omega) _ | refine Below.trans ?_ (Below.mono (by assumption) (by first | exact Nat.le_refl _ | (simp; done) | (simp; omega) | omega)))), by simp [meetV, acc, nv_zero, go_sem], by simp [meetM, acc, nv_zero, go_sem], by simp [go_sem], by simp⟩
 case round =>
  obtain ⟨k, hk, rfl, hbel, ho0, ho1, hfo, hsz⟩ := hrel
  obtain ⟨hc, hf⟩ := bl hbel
  by_cases hlt : k < 64
  ·obtain ⟨z1, o1, H1, H2⟩ := may_eq av am k
   obtain ⟨z2, o2, H3, H4⟩ := may_eq bv bm k
   have Hok : Hid (((z1 && z2) || (o1 && o2)) = true) := by rw [H1.out, H2.out, H3.out, H4.out]; exact hok.out k hlt
   go_wp2_with fail
   refine (may_any hlt H1 H2 _).mono ?_
   rintro e w1 ⟨rfl, hb1⟩
   obtain ⟨hc1, hf1, hs1⟩ := bk _ hb1 hsz
   go_wp2_with fail
   refine (may_any hlt H3 H4 _).mono ?_
   rintro e w2 ⟨rfl, hb2⟩
   obtain ⟨hc2, hf2, hs2⟩ := bk _ hb2 hs1
   cases z1 <;> cases o1 <;> cases z2 <;> cases o2 <;> first
    | exact absurd Hok.out (by decide)
    | (clear Hok
       go_wp2_with fail
       refine (put_any _ _ k hlt _ _ _).mono ?_
       rintro e w3 ⟨rfl, hb3⟩
       obtain ⟨hc3, hf3, hs3⟩ := bk _ hb3 hs2
       go_wp2_with fail
       exact ⟨⟨k + 1, by omega, by go_num, out_rel hbel ((hb1.trans (hb2.mono hb1.size)).trans (hb3.mono (Nat.le_trans hb1.size hb2.size))) hsz ho0 ho1 hfo
        (by rw [← meetV_succ, ← H1.out, ← H2.out, ← H3.out, ← H4.out]; rfl) (by rw [← meetM_succ, ← H1.out, ← H2.out, ← H3.out, ← H4.out]; rfl)⟩, by simp [intOf]; omega⟩)
  ·have hk64 : k = 64 := by omega
   subst hk64
   go_wp2_with fail
   exact bodyPost_ret (v := .tuple #[Bt (meetV av am bv bm 64) (meetM av am bv bm 64), .bool true]) (by simp [results, Tryz.results85, go_sem, hc]) rfl ⟨rfl, (by repeat (first | exact Below.refl _ _ | assumption | refine below_drewN ?_ _ | refine Below.drew ?_ | refine Below.alloc ?_ (by first | exact Nat.le_refl _ | (simp; done) | (simp; omega) | omega) _ | refine Below.setCell ?_ (by first | exact Nat.le_refl _ | (simp; done) | (simp; omega) | omega) _ | refine Below.trans ?_ (Below.mono (by assumption) (by first | exact Nat.le_refl _ | (simp; done) | (simp; omega) | omega))))⟩
set_option maxHeartbeats 600000 in
theorem meetBits_no (av am bv bm : BitVec 64) (j0 : Nat) (hj : j0 < 64) (hno : Hid (meetOk av am bv bm j0 = false)) (hok : Hid (∀ j, j < j0 → meetOk av am bv bm j = true)) (w : World) :
  Calls Tryz.prog 85 #[Bt av am, Bt bv bm] w fun e w' => e = .returned (.tuple #[Bt zero zero, .bool false]) ∧ Below w.heap.size w w' := by
 go_enter Tryz.func85, Tryz.ntmps85
 go_wp2
 go_loopw [7] (fun i wr => ∃ k : Nat, k ≤ j0 ∧ i = N k
   ∧ Below (w.heap.size + 1 + 1 + 1) (((w.alloc (.cells #[U av, U am] 27)).alloc (.cells #[U bv, U bm] 27)).alloc (.cells #[.int .u64 0, .int .u64 0] 27)) wr
   ∧ wr.cell? ⟨w.heap.size + 1 + 1 + 1, 0, none⟩ = some (U (meetV av am bv bm k)) ∧ wr.cell? ⟨w.heap.size + 1 + 1 + 1, 1, none⟩ = some (U (meetM av am bv bm k))
   ∧ (∀ o, wr.frozen? ⟨w.heap.size + 1 + 1 + 1, o, none⟩ = false)
   ∧ w.heap.size + 1 + 1 + 1 + 1 ≤ wr.heap.size) (fun i _ => 64 - (intOf i).toNat)
 case atStart =>
  exact ⟨0, by omega, rfl, (by repeat (first | exact Below.refl _ _ | assumption | refine below_drewN ?_ _ | refine Below.drew ?_ | refine Below.alloc ?_ (by first | exact Nat.le_refl _ | (simp; done) | (simp; omega) | omega) _ | refine Below.setCell ?_ (by first | exact Nat.le_refl _ | (simp; done) | (simp; omega) | omega) _ | refine Below.trans ?_ (Below.mono (by assumption) (by first | exact Nat.le_refl _ | (simp; done) | (simp; omega) | omega)))), by simp [meetV, acc, nv_zero, go_sem], by simp [meetM, acc, nv_zero, go_sem], by simp [go_sem], by simp⟩
 case round =>
  obtain ⟨k, hk, rfl, hbel, ho0, ho1, hfo, hsz⟩ := hrel
  obtain ⟨hc, hf⟩ := bl hbel
  have hlt : k < 64 := by omega
  obtain ⟨z1, o1, H1, H2⟩ := may_eq av am k
  obtain ⟨z2, o2, H3, H4⟩ := may_eq bv bm k
  by_cases hlj : k < j0
  ·have Hok : Hid (((z1 && z2) || (o1 && o2)) = true) := by rw [H1.out, H2.out, H3.out, H4.out]; exact hok.out k hlj
   go_wp2_with fail
   refine (may_any hlt H1 H2 _).mono ?_
   rintro e w1 ⟨rfl, hb1⟩
   obtain ⟨hc1, hf1, hs1⟩ := bk _ hb1 hsz
   go_wp2_with fail
   refine (may_any hlt H3 H4 _).mono ?_
   rintro e w2 ⟨rfl, hb2⟩
   obtain ⟨hc2, hf2, hs2⟩ := bk _ hb2 hs1
   cases z1 <;> cases o1 <;> cases z2 <;> cases o2 <;> first
    | exact absurd Hok.out (by decide)
    | (clear Hok
       go_wp2_with fail
       refine (put_any _ _ k hlt _ _ _).mono ?_
       rintro e w3 ⟨rfl, hb3⟩
       obtain ⟨hc3, hf3, hs3⟩ := bk _ hb3 hs2
       go_wp2_with fail
       exact ⟨⟨k + 1, by omega, by go_num, out_rel hbel ((hb1.trans (hb2.mono hb1.size)).trans (hb3.mono (Nat.le_trans hb1.size hb2.size))) hsz ho0 ho1 hfo
        (by rw [← meetV_succ, ← H1.out, ← H2.out, ← H3.out, ← H4.out]; rfl) (by rw [← meetM_succ, ← H1.out, ← H2.out, ← H3.out, ← H4.out]; rfl)⟩, by simp [intOf]; omega⟩)
  ·have ek : k = j0 := by omega
   have Hno : Hid (((z1 && z2) || (o1 && o2)) = false) := by rw [H1.out, H2.out, H3.out, H4.out, ek]; exact hno.out
   clear ek
   go_wp2_with fail
   refine (may_any hlt H1 H2 _).mono ?_
   rintro e w1 ⟨rfl, hb1⟩
   obtain ⟨hc1, hf1, hs1⟩ := bk _ hb1 hsz
   go_wp2_with fail
   refine (may_any hlt H3 H4 _).mono ?_
   rintro e w2 ⟨rfl, hb2⟩
   obtain ⟨hc2, hf2, hs2⟩ := bk _ hb2 hs1
   cases z1 <;> cases o1 <;> cases z2 <;> cases o2 <;> first
    | exact absurd Hno.out (by decide)
    | (clear Hno
       go_wp2_with fail
       exact bodyPost_ret (v := .tuple #[Bt zero zero, .bool false]) (by simp [results, Tryz.results85, go_sem, hc, hc1, hc2, nv_zero]) rfl ⟨rfl, (by repeat (first | exact Below.refl _ _ | assumption | refine below_drewN ?_ _ | refine Below.drew ?_ | refine Below.alloc ?_ (by first | exact Nat.le_refl _ | (simp; done) | (simp; omega) | omega) _ | refine Below.setCell ?_ (by first | exact Nat.le_refl _ | (simp; done) | (simp; omega) | omega) _ | refine Below.trans ?_ (Below.mono (by assumption) (by first | exact Nat.le_refl _ | (simp; done) | (simp; omega) | omega))))⟩)
end
section
attribute [local go_sem] w_and w_or w_xor w_andNot w_and1 w_and63 w_add w_sub w_mul w_sub1 w_add1 w_shl w_shl1 w_shr c_beq c_bne c_beq0 c_bne0 c_beq1 c_bne1 wrap_nv
/- a round of ShiftBits: the source lies within, or it doesn't -/
set_option maxHeartbeats 600000 in
theorem shiftBits_any (up : Bool) (op : Int) (hop : op = if up then 8 else 9) (v m : BitVec 64) (n : Nat) (hn : n < 64) (w : World) :
  Calls Tryz.prog 82 #[N op, Bt v m, N n] w fun e w' => e = .returned (Bt (shV up v m n 64) (shM up v m n 64)) ∧ Below w.heap.size w w' := by
 have hop9 : (op == 9) = !up := by cases up <;> simp [hop]
 clear hop
 go_enter Tryz.func82, Tryz.ntmps82
 go_wp2
 go_loopw [8] (fun i wr => ∃ k : Nat, k ≤ 64 ∧ i = N k
   ∧ Below (w.heap.size + 1 + 1) ((w.alloc (.cells #[U v, U m] 27)).alloc (.cells #[.int .u64 0, .int .u64 0] 27)) wr
   ∧ wr.cell? ⟨w.heap.size + 1 + 1, 0, none⟩ = some (U (shV up v m n k)) ∧ wr.cell? ⟨w.heap.size + 1 + 1, 1, none⟩ = some (U (shM up v m n k))
   ∧ (∀ o, wr.frozen? ⟨w.heap.size + 1 + 1, o, none⟩ = false)
   ∧ w.heap.size + 1 + 1 + 1 ≤ wr.heap.size) (fun i _ => 64 - (intOf i).toNat)
 case atStart =>
  exact ⟨0, by omega, rfl, (by repeat (first | exact Below.refl _ _ | assumption | refine below_drewN ?_ _ | refine Below.drew ?_ | refine Below.alloc ?_ (by first | exact Nat.le_refl _ | (simp; done) | (simp; omega) | omega) _ | refine Below.setCell ?_ (by first | exact Nat.le_refl _ | (simp; done) | (simp; omega) | omega) _ | refine Below.trans ?_ (Below.mono (by assumption) (by first | exact Nat.le_refl _ | (simp; done) | (simp; omega) | omega)))), by simp [shV, acc, nv_zero, go_sem], by simp [shM, acc, nv_zero, go_sem], by simp [go_sem], by simp⟩
 case round =>
  obtain ⟨k, hk, rfl, hbel, ho0, ho1, hfo, hsz⟩ := hrel
  obtain ⟨hc, hf⟩ := bl hbel
  by_cases hlt : k < 64
  ·cases up
   ·by_cases hin : k + n < 64
    ·obtain ⟨z1, o1, H1, H2⟩ := may_eq v m (k + n)
     have hs := sh_in false v m n k (k + n) (by simp [shFrom]) hin
     have Hz : Hid (z1 = shz false v n k) := H1.out.trans hs.1
     have Ho : Hid (o1 = sho false v m n k) := H2.out.trans hs.2
     clear hs
     go_wp2_with fail
     refine (within_yes (by omega) _).mono ?_
     rintro e w0 ⟨rfl, rfl⟩
     go_wp2_with fail
     rw [show (k : Int) + (n : Int) = ((k + n : Nat) : Int) from by omega]
     refine (may_any hin H1 H2 _).mono ?_
     rintro e w1 ⟨rfl, hb1⟩
     obtain ⟨hc1, hf1, hs1⟩ := bk _ hb1 hsz
     go_wp2_with fail
     refine (put_any _ _ k hlt _ _ _).mono ?_
     rintro e w3 ⟨rfl, hb3⟩
     obtain ⟨hc3, hf3, hs3⟩ := bk _ hb3 hs1
     go_wp2_with fail
     exact ⟨⟨k + 1, by omega, by go_num, out_rel hbel (hb1.trans (hb3.mono hb1.size)) hsz ho0 ho1 hfo
      (by rw [← shV_succ, ← Hz.out, ← Ho.out]) (by rw [← shM_succ, ← Hz.out, ← Ho.out])⟩, by simp [intOf]; omega⟩
    ·have hs := sh_out false v m n k (by simp [shFrom]; omega)
     have Hz : Hid (true = shz false v n k) := hs.1
     have Ho : Hid (false = sho false v m n k) := hs.2
     clear hs
     go_wp2_with fail
     refine (within_no (by omega) _).mono ?_
     rintro e w0 ⟨rfl, rfl⟩
     go_wp2_with fail
     refine (put_any _ _ k hlt _ _ _).mono ?_
     rintro e w3 ⟨rfl, hb3⟩
     obtain ⟨hc3, hf3, hs3⟩ := bk _ hb3 hsz
     go_wp2_with fail
     exact ⟨⟨k + 1, by omega, by go_num, out_rel hbel hb3 hsz ho0 ho1 hfo
      (by rw [← shV_succ, ← Hz.out, ← Ho.out]) (by rw [← shM_succ, ← Hz.out, ← Ho.out])⟩, by simp [intOf]; omega⟩
   ·by_cases hin : n ≤ k
    ·obtain ⟨z1, o1, H1, H2⟩ := may_eq v m (k - n)
     have hs := sh_in true v m n k (k - n) (by simp [shFrom]; omega) (by omega)
     have Hz : Hid (z1 = shz true v n k) := H1.out.trans hs.1
     have Ho : Hid (o1 = sho true v m n k) := H2.out.trans hs.2
     clear hs
     go_wp2_with fail
     refine (within_yes (by omega) _).mono ?_
     rintro e w0 ⟨rfl, rfl⟩
     go_wp2_with fail
     rw [show (k : Int) - (n : Int) = ((k - n : Nat) : Int) from by omega]
     refine (may_any (by omega) H1 H2 _).mono ?_
     rintro e w1 ⟨rfl, hb1⟩
     obtain ⟨hc1, hf1, hs1⟩ := bk _ hb1 hsz
     go_wp2_with fail
     refine (put_any _ _ k hlt _ _ _).mono ?_
     rintro e w3 ⟨rfl, hb3⟩
     obtain ⟨hc3, hf3, hs3⟩ := bk _ hb3 hs1
     go_wp2_with fail
     exact ⟨⟨k + 1, by omega, by go_num, out_rel hbel (hb1.trans (hb3.mono hb1.size)) hsz ho0 ho1 hfo
      (by rw [← shV_succ, ← Hz.out, ← Ho.out]) (by rw [← shM_succ, ← Hz.out, ← Ho.out])⟩, by simp [intOf]; omega⟩
    ·have hs := sh_out true v m n k (by simp [shFrom]; omega)
     have Hz : Hid (true = shz true v n k) := hs.1
     have Ho : Hid (false = sho true v m n k) := hs.2
     clear hs
     go_wp2_with fail
     refine (within_no (by omega) _).mono ?_
     rintro e w0 ⟨rfl, rfl⟩
     go_wp2_with fail
     refine (put_any _ _ k hlt _ _ _).mono ?_
     rintro e w3 ⟨rfl, hb3⟩
     obtain ⟨hc3, hf3, hs3⟩ := bk _ hb3 hsz
     go_wp2_with fail
     exact ⟨⟨k + 1, by omega, by go_num, out_rel hbel hb3 hsz ho0 ho1 hfo
      (by rw [← shV_succ, ← Hz.out, ← Ho.out]) (by rw [← shM_succ, ← Hz.out, ← Ho.out])⟩, by simp [intOf]; omega⟩
  ·have hk64 : k = 64 := by omega
   subst hk64
   go_wp2_with fail
   exact bodyPost_ret (v := Bt (shV up v m n 64) (shM up v m n 64)) (by simp [results, Tryz.results82, go_sem, hc]) rfl ⟨rfl, (by repeat (first | exact Below.refl _ _ | assumption | refine below_drewN ?_ _ | refine Below.drew ?_ | refine Below.alloc ?_ (by first | exact Nat.le_refl _ | (simp; done) | (simp; omega) | omega) _ | refine Below.setCell ?_ (by first | exact Nat.le_refl _ | (simp; done) | (simp; omega) | omega) _ | refine Below.trans ?_ (Below.mono (by assumption) (by first | exact Nat.le_refl _ | (simp; done) | (simp; omega) | omega))))⟩
/- SpanBits: from the highest bit down -/
set_option maxHeartbeats 600000 in
theorem spanBits_any (l h : BitVec 64) (w : World) :
  Calls Tryz.prog 116 #[U l, U h] w fun e w' => e = .returned (Bt (spanV l h 64) (spanM l h 64)) ∧ Below w.heap.size w w' := by
 go_enter Tryz.func116, Tryz.ntmps116
 go_wp2
 go_loopw [6, 7] (fun s i wr => ∃ (c : Nat) (t : Int), c ≤ 64 ∧ s = .bool (sameB l h c) ∧ i = N t ∧ t = 63 - c
   ∧ Below (w.heap.size + 1) (w.alloc (.cells #[.int .u64 0, .int .u64 0] 27)) wr
   ∧ wr.cell? ⟨w.heap.size + 1, 0, none⟩ = some (U (spanV l h c)) ∧ wr.cell? ⟨w.heap.size + 1, 1, none⟩ = some (U (spanM l h c))
   ∧ (∀ o, wr.frozen? ⟨w.heap.size + 1, o, none⟩ = false)
   ∧ w.heap.size + 1 + 1 ≤ wr.heap.size) (fun _ i _ => (intOf i + 1).toNat)
 case atStart =>
  exact ⟨0, 63, by omega, rfl, rfl, by omega, (by repeat (first | exact Below.refl _ _ | assumption | refine below_drewN ?_ _ | refine Below.drew ?_ | refine Below.alloc ?_ (by first | exact Nat.le_refl _ | (simp; done) | (simp; omega) | omega) _ | refine Below.setCell ?_ (by first | exact Nat.le_refl _ | (simp; done) | (simp; omega) | omega) _ | refine Below.trans ?_ (Below.mono (by assumption) (by first | exact Nat.le_refl _ | (simp; done) | (simp; omega) | omega)))), by simp [spanV, accd, nv_zero, go_sem], by simp [spanM, accd, nv_zero, go_sem], by simp [go_sem], by simp⟩
 case round =>
  obtain ⟨c, t, hc, rfl, rfl, ht, hbel, ho0, ho1, hfo, hsz⟩ := hrel
  obtain ⟨hcc, hf⟩ := bl hbel
  by_cases hlt : c < 64
  ·obtain ⟨i, rfl⟩ := Int.eq_ofNat_of_zero_le (show 0 ≤ t by omega)
   have hi : i = 63 - c := by omega
   have hi64 : i < 64 := by omega
   have hi0 : (0 : Int) ≤ (i : Int) := by omega
   have Hi : Hid (i = 63 - c) := hi
   have hstep := sp_step l h c i hi hlt
   have hl := low_bit l i
   have hh := low_bit h i
   obtain ⟨s, hs⟩ : ∃ s, s = sameB l h c := ⟨_, rfl⟩
   obtain ⟨bl, hbl⟩ : ∃ b, b = bit l i := ⟨_, rfl⟩
   obtain ⟨bh, hbh⟩ : ∃ b, b = bit h i := ⟨_, rfl⟩
   rw [← hbl, ← hbh, ← hs] at hstep
   rw [← hbl] at hl
   rw [← hbh] at hh
   rw [← hs]
   clear hi ht hs hbl hbh
   have H1 : Hid _ := hstep.1
   have H2 : Hid _ := hstep.2.1
   have H3 : Hid _ := hstep.2.2
   clear hstep
   have q1 := eqb_oo
   have q2 := eqb_oz
   have q3 := eqb_zo
   have q4 := eqb_zz
   cases s <;> cases bl <;> cases bh
   all_goals
    simp only [if_true, if_false, Bool.false_eq_true] at hl hh
    go_wp2_with fail
    go_quiet (fail)
    go_wp2_with fail
    refine (put_any _ _ i hi64 _ _ _).mono ?_
    rintro e w3 ⟨rfl, hb3⟩
    have hb3' : Below wr.heap.size wr w3 := (below_drewN (Below.refl _ wr) _).trans hb3
    obtain ⟨hc3, hf3, hs3⟩ := bk _ hb3' hsz
    clear hb3
    go_wp2_with fail
    exact ⟨⟨c + 1, _, by omega, by rw [H1.out]; rfl, rfl, by have := Hi.out; omega, out_rel hbel hb3' hsz ho0 ho1 hfo
     (by rw [← spanV_succ l h c i Hi.out, H2.out, H3.out]; rfl) (by rw [← spanM_succ l h c i Hi.out, H2.out, H3.out]; rfl)⟩, by simp [intOf]⟩
  ·have ec : c = 64 := by omega
   subst ec
   have ht' : t = -1 := by omega
   subst ht'
   go_wp2_with fail
   exact bodyPost_ret (v := Bt (spanV l h 64) (spanM l h 64)) (by simp [results, Tryz.results116, go_sem, hcc]) rfl ⟨rfl, (by repeat (first | exact Below.refl _ _ | assumption | refine below_drewN ?_ _ | refine Below.drew ?_ | refine Below.alloc ?_ (by first | exact Nat.le_refl _ | (simp; done) | (simp; omega) | omega) _ | refine Below.setCell ?_ (by first | exact Nat.le_refl _ | (simp; done) | (simp; omega) | omega) _ | refine Below.trans ?_ (Below.mono (by assumption) (by first | exact Nat.le_refl _ | (simp; done) | (simp; omega) | omega))))⟩
end
section
attribute [local go_sem] w_and w_or w_xor w_andNot w_and1 w_and63 w_add w_sub w_mul w_sub1 w_add1 w_shl w_shl1 w_shr c_beq c_bne c_beq0 c_bne0 c_beq1 c_bne1 wrap_nv
set_option maxHeartbeats 400000 in
theorem shift_up {n : Nat} {v m : BitVec 64} (hr : Hid (eqb (band v m) zero = true)) (hn : n < 64) (w : World) :
  Calls Tryz.prog 136 #[N 8, Bt v m, N n] w fun e w' => e = .returned (.tuple #[Bt (bshl v n) (bshl m n), N 0]) ∧ Below w.heap.size w w' := by
 go_enter Tryz.func136, Tryz.ntmps136
 go_wp2_with fail
 refine (check1_is hr (by simp) (by simp [go_sem]) (by simp [go_sem])).mono ?_
 rintro e w1 ⟨rfl, hb1⟩
 obtain ⟨hc1, hf1, hs1⟩ := bk (w.heap.size + 1 + 1) hb1 (by simp)
 first | rw [er_t] | rw [er_f]
 go_wp2_with fail
 refine (up_any _ _ n hn _).mono ?_
 rintro e w2 ⟨rfl, hb2⟩
 obtain ⟨hc2, hf2, hs2⟩ := bk _ hb2 hs1
 go_wp2_with fail
 exact bodyPost_ret (v := .tuple #[Bt (bshl v n) (bshl m n), N 0]) (by simp [results, Tryz.results136, go_sem, hc1, hc2]) rfl ⟨rfl, (by repeat (first | exact Below.refl _ _ | assumption | refine below_drewN ?_ _ | refine Below.drew ?_ | refine Below.alloc ?_ (by first | exact Nat.le_refl _ | (simp; done) | (simp; omega) | omega) _ | refine Below.setCell ?_ (by first | exact Nat.le_refl _ | (simp; done) | (simp; omega) | omega) _ | refine Below.trans ?_ (Below.mono (by assumption) (by first | exact Nat.le_refl _ | (simp; done) | (simp; omega) | omega))))⟩
set_option maxHeartbeats 400000 in
theorem shift_down {n : Nat} {v m : BitVec 64} (hr : Hid (eqb (band v m) zero = true)) (hn : n < 64) (w : World) :
  Calls Tryz.prog 136 #[N 9, Bt v m, N n] w fun e w' => e = .returned (.tuple #[Bt (bshr v n) (bshr m n), N 0]) ∧ Below w.heap.size w w' := by
 go_enter Tryz.func136, Tryz.ntmps136
 go_wp2_with fail
 refine (check1_is hr (by simp) (by simp [go_sem]) (by simp [go_sem])).mono ?_
 rintro e w1 ⟨rfl, hb1⟩
 obtain ⟨hc1, hf1, hs1⟩ := bk (w.heap.size + 1 + 1) hb1 (by simp)
 first | rw [er_t] | rw [er_f]
 go_wp2_with fail
 exact bodyPost_ret (v := .tuple #[Bt (bshr v n) (bshr m n), N 0]) (by simp [results, Tryz.results136, go_sem, hc1]) rfl ⟨rfl, (by repeat (first | exact Below.refl _ _ | assumption | refine below_drewN ?_ _ | refine Below.drew ?_ | refine Below.alloc ?_ (by first | exact Nat.le_refl _ | (simp; done) | (simp; omega) | omega) _ | refine Below.setCell ?_ (by first | exact Nat.le_refl _ | (simp; done) | (simp; omega) | omega) _ | refine Below.trans ?_ (Below.mono (by assumption) (by first | exact Nat.le_refl _ | (simp; done) | (simp; omega) | omega))))⟩
end
section
attribute [local go_sem] w_and w_or w_xor w_andNot w_and1 w_and63 w_add w_sub w_mul w_sub1 w_add1 w_shl w_shl1 w_shr c_beq c_bne c_beq0 c_bne0 c_beq1 c_bne1 wrap_nv
end
theorem hid {p : Prop} (h : p) : Hid p := h
/- the same, whatever is handed in -/
section
attribute [local go_sem] w_and w_or w_xor w_andNot w_and1 w_and63 w_add w_sub w_mul w_sub1 w_add1 w_shl w_shl1 w_shr c_beq c_bne c_beq0 c_bne0 c_beq1 c_bne1 wrap_nv
set_option maxHeartbeats 1000000 in
theorem valCheck_any (v m l h : BitVec 64) (w : World) :
  Calls Tryz.prog 23 #[Vl v m l h] w fun e w' => e = .returned (N (er (valB v m l h))) ∧ Below w.heap.size w w' := by
 have Hv : Hid (valB v m l h = (hasB v m l && (hasB v m h && (decide (nv l ≤ nv h) && insB v m (spV l h) (sM l h))))) := rfl
 obtain ⟨b1, H1⟩ : ∃ b, Hid (hasB v m l = b) := ⟨_, rfl⟩
 obtain ⟨b2, H2⟩ : ∃ b, Hid (hasB v m h = b) := ⟨_, rfl⟩
 obtain ⟨b3, H3⟩ : ∃ b, Hid (insB v m (spV l h) (sM l h) = b) := ⟨_, rfl⟩
 rw [H1.out, H2.out, H3.out] at Hv
 go_enter Tryz.func23, Tryz.ntmps23
 go_wp2_with fail
 refine (hasC H1.out _).mono ?_
 rintro e w1 ⟨rfl, hb1⟩
 have hK := ((Kp.start w).add4 _ _ _ _ _).keep hb1
 obtain ⟨a0, a1, a2, a3, a4, a5, a6, a7, a8⟩ := hK.box.head.four
 cases b1
 ·go_wp2_with fail
  go_ret
  rw [Hv.out]
  exact ⟨rfl, hK.bel⟩
 ·go_wp2_with fail
  refine (hasC H2.out _).mono ?_
  rintro e w2 ⟨rfl, hb2⟩
  have hK2 := hK.keep hb2
  clear a0 a1 a2 a3 a4 a5 a6 a7 a8
  obtain ⟨a0, a1, a2, a3, a4, a5, a6, a7, a8⟩ := hK2.box.head.four
  cases b2
  ·go_wp2_with fail
   go_ret
   rw [Hv.out]
   exact ⟨rfl, hK2.bel⟩
  ·by_cases hle : nv l ≤ nv h
   ·have Hd : Hid (decide (nv l ≤ nv h) = true) := decide_eq_true hle
    have HS : Hid (∀ w, Calls Tryz.prog 63 #[U l, U h] w fun e w' => e = .returned (.tuple #[Bt (spV l h) (sM l h), N 0]) ∧ Below w.heap.size w w') := fun w => span_ok hle w
    rw [Hd.out] at Hv
    clear hle Hd
    generalize spV l h = sv at HS H3
    generalize sM l h = sm at HS H3
    go_wp2_with fail
    refine (HS.out _).mono ?_
    rintro e w3 ⟨rfl, hb3⟩
    have hK3 := hK2.keep hb3
    clear a0 a1 a2 a3 a4 a5 a6 a7 a8
    obtain ⟨a0, a1, a2, a3, a4, a5, a6, a7, a8⟩ := hK3.box.head.four
    go_wp2_with fail
    refine (insC H3.out _).mono ?_
    rintro e w4 ⟨rfl, hb4⟩
    have hK4 := (hK3.add2 _ _ _).keep hb4
    cases b3
    all_goals
     go_wp2_with fail
     go_ret
     rw [Hv.out]
     exact ⟨rfl, hK4.bel⟩
   ·have Hd : Hid (decide (nv l ≤ nv h) = false) := decide_eq_false hle
    have HS : Hid (∀ w, Calls Tryz.prog 63 #[U l, U h] w fun e w' => e = .returned (.tuple #[Bt zero zero, N 3]) ∧ Below w.heap.size w w') := fun w => span_no (by omega) w
    rw [Hd.out] at Hv
    clear hle Hd
    go_wp2_with fail
    refine (HS.out _).mono ?_
    rintro e w3 ⟨rfl, hb3⟩
    have hK3 := hK2.keep hb3
    go_wp2_with fail
    go_ret
    rw [Hv.out]
    exact ⟨rfl, (hK3.add2 _ _ _).bel⟩
/- the reference's -/
set_option maxHeartbeats 1000000 in
theorem normVal_none {v m l h : BitVec 64} (hr : Hid (eqb (band v m) zero = true)) (ho : Hid (normOk v m l h = false)) (w : World) :
  Calls Tryz.prog 78 #[Vl v m l h] w fun e w' => e = .returned (.tuple #[V0, .bool false]) ∧ Below w.heap.size w w' := by
 have hrt := (rt_iff v m).1 hr.out
 have hs := least_same hrt l
 have hg := great_same hrt h
 have HL : Hid (∀ w, Calls Tryz.prog 114 #[Bt v m, U l] w fun e w' => e = .returned (.tuple #[U (scanL v m l 64).1, .bool (scanL v m l 64).2]) ∧ Below w.heap.size w w') := fun w => refLeast_any v m l w
 have HG : Hid (∀ w, Calls Tryz.prog 115 #[Bt v m, U h] w fun e w' => e = .returned (.tuple #[U (scanG v m h 64).1, .bool (scanG v m h 64).2]) ∧ Below w.heap.size w w') := fun w => refGreat_any v m h w
 have Ho : Hid (((scanL v m l 64).2 && ((scanG v m h 64).2 && decide (nv (scanL v m l 64).1 ≤ nv (scanG v m h 64).1))) = false) := by
  have := ho.out
  unfold normOk nLo nHi at this
  show _ = false
  rw [hs.1, hg.1]
  cases e1 : (leastV v m l).2
  ·rfl
  ·cases e2 : (greatV v m h).2
   ·rfl
   ·rw [hs.2 e1, hg.2 e2]
    rw [e1, e2] at this
    exact this
 clear ho hs hg hrt hr
 generalize scanL v m l 64 = L at HL Ho
 generalize scanG v m h 64 = G at HG Ho
 obtain ⟨lo, lb⟩ := L
 obtain ⟨hi, gb⟩ := G
 go_enter Tryz.func78, Tryz.ntmps78
 go_wp2_with fail
 refine (HL.out _).mono ?_
 rintro e w2 ⟨rfl, hb2⟩
 have hK2 := (((Kp.start w).add4 _ _ _ _ _).add4 _ _ _ _ _).keep hb2
 simp only [World.size_alloc] at hK2
 obtain ⟨r0, r1, r2, r3, r4, r5, r6, r7, r8⟩ := hK2.box.head.four
 obtain ⟨a0, a1, a2, a3, a4, a5, a6, a7, a8⟩ := hK2.box.tail.head.four
 go_wp2_with fail
 refine (HG.out _).mono ?_
 rintro e w3 ⟨rfl, hb3⟩
 have hK3 := hK2.keep hb3
 clear r0 r1 r2 r3 r4 r5 r6 r7 r8 a0 a1 a2 a3 a4 a5 a6 a7 a8
 obtain ⟨r0, r1, r2, r3, r4, r5, r6, r7, r8⟩ := hK3.box.head.four
 obtain ⟨a0, a1, a2, a3, a4, a5, a6, a7, a8⟩ := hK3.box.tail.head.four
 cases lb
 ·go_wp2_with fail
  exact bodyPost_ret (v := .tuple #[V0, .bool false]) (by simp [results, Tryz.results78, go_sem, nv_zero, r0, r1, r2, r3]) rfl ⟨rfl, (hK3.set4 0 rfl).bel⟩
 ·cases gb
  ·go_wp2_with fail
   exact bodyPost_ret (v := .tuple #[V0, .bool false]) (by simp [results, Tryz.results78, go_sem, nv_zero, r0, r1, r2, r3]) rfl ⟨rfl, (hK3.set4 0 rfl).bel⟩
  ·have hlt : nv hi < nv lo := by
    have := Ho.out
    simp only [Bool.true_and, decide_eq_false_iff_not] at this
    omega
   clear Ho
   go_wp2_with fail
   exact bodyPost_ret (v := .tuple #[V0, .bool false]) (by simp [results, Tryz.results78, go_sem, nv_zero, r0, r1, r2, r3]) rfl ⟨rfl, (hK3.set4 0 rfl).bel⟩
set_option maxRecDepth 100000 in
set_option maxHeartbeats 8000000 in
theorem normVal_yes {v m l h : BitVec 64} (hr : Hid (eqb (band v m) zero = true)) (ho : Hid (normOk v m l h = true)) (w : World) :
  Calls Tryz.prog 78 #[Vl v m l h] w fun e w' => e = .returned (.tuple #[Vl (nV v m l h) (nM m (nLo v m l) (nHi v m h)) (nLo v m l) (nHi v m h), .bool true]) ∧ Below w.heap.size w w' := by
 have hrt := (rt_iff v m).1 hr.out
 have hfa := norm_facts hrt ho.out
 have ho' := ho.out
 unfold normOk at ho'
 simp only [Bool.and_eq_true] at ho'
 have hs := least_same hrt l
 have hg := great_same hrt h
 have HL : Hid (∀ w, Calls Tryz.prog 114 #[Bt v m, U l] w fun e w' => e = .returned (.tuple #[U (nLo v m l), .bool true]) ∧ Below w.heap.size w w') := fun w => by
  have := refLeast_any v m l w; rw [hs.1, hs.2 ho'.1, ho'.1] at this; exact this
 have HG : Hid (∀ w, Calls Tryz.prog 115 #[Bt v m, U h] w fun e w' => e = .returned (.tuple #[U (nHi v m h), .bool true]) ∧ Below w.heap.size w w') := fun w => by
  have := refGreat_any v m h w; rw [hg.1, hg.2 ho'.2.1, ho'.2.1] at this; exact this
 have HS : Hid (∀ w, Calls Tryz.prog 116 #[U (nLo v m l), U (nHi v m h)] w fun e w' => e = .returned (Bt (spV (nLo v m l) (nHi v m h)) (sM (nLo v m l) (nHi v m h))) ∧ Below w.heap.size w w') := fun w => by
  have hh := spanBits_any (nLo v m l) (nHi v m h) w
  rw [(span_eq _ _).1, (span_eq _ _).2] at hh
  exact hh
 have HM : Hid (∀ w, Calls Tryz.prog 85 #[Bt v m, Bt (spV (nLo v m l) (nHi v m h)) (sM (nLo v m l) (nHi v m h))] w fun e w' => e = .returned (.tuple #[Bt (nV v m l h) (nM m (nLo v m l) (nHi v m h)), .bool true]) ∧ Below w.heap.size w w') := fun w => by
  obtain ⟨h1, h2, h3⟩ := meet_eq (both_right hrt (span_rt (nLo v m l) (nHi v m h))).out (meet_span hrt hfa.1 (Int.le_refl _) hfa.2.2.1)
  have h := meetBits_ok v m _ _ h1 w
  rw [h2, h3] at h
  exact h
 have hle := hfa.2.2.1
 clear hfa ho' ho hrt hs hg hr
 generalize nV v m l h = rv at HM ⊢
 generalize nM m (nLo v m l) (nHi v m h) = rm at HM ⊢
 generalize spV (nLo v m l) (nHi v m h) = sv at HM HS
 generalize sM (nLo v m l) (nHi v m h) = sm at HM HS
 generalize nLo v m l = lo at HL HS hle ⊢
 generalize nHi v m h = hi at HG HS hle ⊢
 go_enter Tryz.func78, Tryz.ntmps78
 go_wp2_with fail
 refine (HL.out _).mono ?_
 rintro e w2 ⟨rfl, hb2⟩
 have hK2 := (((Kp.start w).add4 _ _ _ _ _).add4 _ _ _ _ _).keep hb2
 simp only [World.size_alloc] at hK2
 obtain ⟨r0, r1, r2, r3, r4, r5, r6, r7, r8⟩ := hK2.box.head.four
 obtain ⟨a0, a1, a2, a3, a4, a5, a6, a7, a8⟩ := hK2.box.tail.head.four
 go_wp2_with fail
 refine (HG.out _).mono ?_
 rintro e w3 ⟨rfl, hb3⟩
 have hK3 := hK2.keep hb3
 clear r0 r1 r2 r3 r4 r5 r6 r7 r8 a0 a1 a2 a3 a4 a5 a6 a7 a8
 obtain ⟨r0, r1, r2, r3, r4, r5, r6, r7, r8⟩ := hK3.box.head.four
 obtain ⟨a0, a1, a2, a3, a4, a5, a6, a7, a8⟩ := hK3.box.tail.head.four
 go_wp2_with fail
 go_cut [8, 9] (fun p f wc => ∃ b, p = .pointer (some ⟨b, 0, none⟩) ∧ f = .bool true ∧ Kp w wc [(b, [U rv, U rm]), (w.heap.size + 1, [.int .u64 0, .int .u64 0, .int .u64 0, .int .u64 0]), (w.heap.size, [U v, U m, U l, U h])])
 case first =>
  go_region_with (first
    | (go_at_call 116; refine (HS.out _).mono ?_; rintro e w4 ⟨rfl, hb4⟩; clear r0 r1 r2 r3 r4 r5 r6 r7 a0 a1 a2 a3 a4 a5 a6 a7; first | (have hK4 := (hK3.keep (Below.drew (Below.refl _ _))).keep hb4; obtain ⟨r0, r1, r2, r3, r4, r5, r6, r7, r8⟩ := hK4.box.head.four; obtain ⟨a0, a1, a2, a3, a4, a5, a6, a7, a8⟩ := hK4.box.tail.head.four) | (have hK4 := ((hK3.keep (Below.drew (Below.refl _ _))).add2 _ _ _).keep hb4; rw [show w3.drew.heap.size = w3.heap.size from rfl] at hK4; obtain ⟨q0, q1, q2, q3, q4⟩ := hK4.box.head.two; obtain ⟨r0, r1, r2, r3, r4, r5, r6, r7, r8⟩ := hK4.box.tail.head.four; obtain ⟨a0, a1, a2, a3, a4, a5, a6, a7, a8⟩ := hK4.box.tail.tail.head.four))
    | (go_at_call 85; refine (HM.out _).mono ?_; rintro e w5 ⟨rfl, hb5⟩; clear r0 r1 r2 r3 r4 r5 r6 r7 a0 a1 a2 a3 a4 a5 a6 a7; first | (have hK5 := hK4.keep hb5; obtain ⟨q0, q1, q2, q3, q4⟩ := hK5.box.head.two; obtain ⟨r0, r1, r2, r3, r4, r5, r6, r7, r8⟩ := hK5.box.tail.head.four; obtain ⟨a0, a1, a2, a3, a4, a5, a6, a7, a8⟩ := hK5.box.tail.tail.head.four) | (have hK5 := hK4.keep hb5; obtain ⟨r0, r1, r2, r3, r4, r5, r6, r7, r8⟩ := hK5.box.head.four; obtain ⟨a0, a1, a2, a3, a4, a5, a6, a7, a8⟩ := hK5.box.tail.head.four) | (have hK5 := (hK4.add2 _ _ _).keep hb5; obtain ⟨q0, q1, q2, q3, q4⟩ := hK5.box.head.two; obtain ⟨r0, r1, r2, r3, r4, r5, r6, r7, r8⟩ := hK5.box.tail.head.four; obtain ⟨a0, a1, a2, a3, a4, a5, a6, a7, a8⟩ := hK5.box.tail.tail.head.four)))
  all_goals
   go_wp2_with fail
   go_meet
   case rel => first | exact ⟨_, rfl, rfl, hK5.add2 _ _ _⟩ | exact ⟨_, rfl, rfl, hK5.set2 0 rfl⟩
 case rest =>
  clear r0 r1 r2 r3 r4 r5 r6 r7 r8 a0 a1 a2 a3 a4 a5 a6 a7 a8
  obtain ⟨b, rfl, rfl, hK6⟩ := hcut
  obtain ⟨q0, q1, q2, q3, q4⟩ := hK6.box.head.two
  obtain ⟨r0, r1, r2, r3, r4, r5, r6, r7, r8⟩ := hK6.box.tail.head.four
  obtain ⟨a0, a1, a2, a3, a4, a5, a6, a7, a8⟩ := hK6.box.tail.tail.head.four
  have hne : w.heap.size + 1 < b := hK6.box.2.1 _ (List.Mem.head _)
  go_wp2_with fail
  exact bodyPost_ret (v := .tuple #[Vl rv rm lo hi, .bool true]) (by simp [results, Tryz.results78, go_sem, r0, r1, r2, r3]) rfl ⟨rfl, (hK6.set4 1 rfl).bel⟩
end
section
attribute [local go_sem] w_and w_or w_xor w_andNot w_and1 w_and63 w_add w_sub w_mul w_sub1 w_add1 w_shl w_shl1 w_shr c_beq c_bne c_beq0 c_bne0 c_beq1 c_bne1 wrap_nv
attribute [local go_sem] eqb_self
theorem checkV {v m l h : BitVec 64} {b : Bool} (hv : valB v m l h = b) (w : World) :
  Calls Tryz.prog 23 #[Vl v m l h] w fun e w' => e = .returned (N (er b)) ∧ Below w.heap.size w w' := hv ▸ valCheck_any v m l h w
set_option maxHeartbeats 1000000 in
theorem valOf_any (x : BitVec 64) (w : World) :
  Calls Tryz.prog 101 #[U x] w fun e w' => e = .returned (Vl x zero x x) ∧ Below w.heap.size w w' := by
 go_enter Tryz.func101, Tryz.ntmps101
 go_wp2_with fail
 exact bodyPost_ret (v := Vl x zero x x) (by simp [results, Tryz.results101, go_sem, nv_zero]) rfl ⟨rfl, (by repeat (first | exact Below.refl _ _ | assumption | refine below_drewN ?_ _ | refine Below.drew ?_ | refine Below.alloc ?_ (by first | exact Nat.le_refl _ | (simp; done) | (simp; omega) | omega) _ | refine Below.setCell ?_ (by first | exact Nat.le_refl _ | (simp; done) | (simp; omega) | omega) _ | refine Below.trans ?_ (Below.mono (by assumption) (by first | exact Nat.le_refl _ | (simp; done) | (simp; omega) | omega))))⟩
set_option maxHeartbeats 1000000 in
theorem refValOf_any (x : BitVec 64) (w : World) :
  Calls Tryz.prog 37 #[U x] w fun e w' => e = .returned (Vl x zero x x) ∧ Below w.heap.size w w' := by
 go_enter Tryz.func37, Tryz.ntmps37
 go_wp2_with fail
 exact bodyPost_ret (v := Vl x zero x x) (by simp [results, Tryz.results37, go_sem, nv_zero]) rfl ⟨rfl, (by repeat (first | exact Below.refl _ _ | assumption | refine below_drewN ?_ _ | refine Below.drew ?_ | refine Below.alloc ?_ (by first | exact Nat.le_refl _ | (simp; done) | (simp; omega) | omega) _ | refine Below.setCell ?_ (by first | exact Nat.le_refl _ | (simp; done) | (simp; omega) | omega) _ | refine Below.trans ?_ (Below.mono (by assumption) (by first | exact Nat.le_refl _ | (simp; done) | (simp; omega) | omega))))⟩
set_option maxHeartbeats 1000000 in
theorem valAny_any (w : World) :
  Calls Tryz.prog 24 #[] w fun e w' => e = .returned (Vl zero top zero top) ∧ Below w.heap.size w w' := by
 go_enter Tryz.func24, Tryz.ntmps24
 go_wp2_with fail
 exact bodyPost_ret (v := Vl zero top zero top) (by simp [results, Tryz.results24, go_sem, nv_zero, nv_top]) rfl ⟨rfl, (by repeat (first | exact Below.refl _ _ | assumption | refine below_drewN ?_ _ | refine Below.drew ?_ | refine Below.alloc ?_ (by first | exact Nat.le_refl _ | (simp; done) | (simp; omega) | omega) _ | refine Below.setCell ?_ (by first | exact Nat.le_refl _ | (simp; done) | (simp; omega) | omega) _ | refine Below.trans ?_ (Below.mono (by assumption) (by first | exact Nat.le_refl _ | (simp; done) | (simp; omega) | omega))))⟩
set_option maxHeartbeats 1000000 in
theorem refValAny_any (w : World) :
  Calls Tryz.prog 86 #[] w fun e w' => e = .returned (Vl zero top zero top) ∧ Below w.heap.size w w' := by
 go_enter Tryz.func86, Tryz.ntmps86
 go_wp2_with fail
 exact bodyPost_ret (v := Vl zero top zero top) (by simp [results, Tryz.results86, go_sem, nv_zero, nv_top]) rfl ⟨rfl, (by repeat (first | exact Below.refl _ _ | assumption | refine below_drewN ?_ _ | refine Below.drew ?_ | refine Below.alloc ?_ (by first | exact Nat.le_refl _ | (simp; done) | (simp; omega) | omega) _ | refine Below.setCell ?_ (by first | exact Nat.le_refl _ | (simp; done) | (simp; omega) | omega) _ | refine Below.trans ?_ (Below.mono (by assumption) (by first | exact Nat.le_refl _ | (simp; done) | (simp; omega) | omega))))⟩
end
section
attribute [local go_sem] w_and w_or w_xor w_andNot w_and1 w_and63 w_add w_sub w_mul w_sub1 w_add1 w_shl w_shl1 w_shr c_beq c_bne c_beq0 c_bne0 c_beq1 c_bne1 wrap_nv
end
section
attribute [local go_sem] w_and w_or w_xor w_andNot w_and1 w_and63 w_add w_sub w_mul w_sub1 w_add1 w_shl w_shl1 w_shr c_beq c_bne c_beq0 c_bne0 c_beq1 c_bne1 wrap_nv
set_option maxHeartbeats 2000000 in
theorem valJoin_yes {v m l h v' m' l' h' : BitVec 64} (hr : Hid ((valB v m l h && valB v' m' l' h') = true)) (w : World) :
  Calls Tryz.prog 79 #[Vl v m l h, Vl v' m' l' h'] w fun e w' => e = .returned (.tuple #[Vl (nV (jV v m v' m') (jM v m v' m') (bmin l l') (bmax h h')) (nM (jM v m v' m') (nLo (jV v m v' m') (jM v m v' m') (bmin l l')) (nHi (jV v m v' m') (jM v m v' m') (bmax h h'))) (nLo (jV v m v' m') (jM v m v' m') (bmin l l')) (nHi (jV v m v' m') (jM v m v' m') (bmax h h')), N 0]) ∧ Below w.heap.size w w' := by
 have hr' := hr.out
 rw [Bool.and_eq_true] at hr'
 have H1 : Hid (valB v m l h = true) := hr'.1
 have H2 : Hid (valB v' m' l' h' = true) := hr'.2
 have hf := join_facts hr'.1 hr'.2
 have ha := (val_facts hr'.1).1
 have hb := (val_facts hr'.2).1
 have HJ : Hid (∀ w, Calls Tryz.prog 117 #[Bt v m, Bt v' m'] w fun e w' => e = .returned (.tuple #[Bt (jV v m v' m') (jM v m v' m'), N 0]) ∧ Below w.heap.size w w') := fun w => join_ok (both_right ha hb) w
 have HN : Hid (∀ w, Calls Tryz.prog 113 #[Vl (jV v m v' m') (jM v m v' m') (bmin l l') (bmax h h')] w fun e w' => e = .returned (.tuple #[Vl (nV (jV v m v' m') (jM v m v' m') (bmin l l') (bmax h h')) (nM (jM v m v' m') (nLo (jV v m v' m') (jM v m v' m') (bmin l l')) (nHi (jV v m v' m') (jM v m v' m') (bmax h h'))) (nLo (jV v m v' m') (jM v m v' m') (bmin l l')) (nHi (jV v m v' m') (jM v m v' m') (bmax h h')), .bool true, N 0]) ∧ Below w.heap.size w w') := fun w =>
  norm_yes ((rt_iff _ _).2 (join_rt v m v' m')) hf.1 w
 clear hf ha hb hr hr'
 generalize nV (jV v m v' m') (jM v m v' m') (bmin l l') (bmax h h') = rv at HN ⊢
 generalize nM (jM v m v' m') (nLo (jV v m v' m') (jM v m v' m') (bmin l l')) (nHi (jV v m v' m') (jM v m v' m') (bmax h h')) = rm at HN ⊢
 generalize nLo (jV v m v' m') (jM v m v' m') (bmin l l') = lo at HN ⊢
 generalize nHi (jV v m v' m') (jM v m v' m') (bmax h h') = hi at HN ⊢
 generalize jV v m v' m' = jv at HN HJ
 generalize jM v m v' m' = jm at HN HJ
 go_enter Tryz.func79, Tryz.ntmps79
 go_wp2_with fail
 refine (checkV H1.out _).mono ?_
 rintro e w1 ⟨rfl, hb1⟩
 have hK := ((((Kp.start w).add4 _ _ _ _ _).add4 _ _ _ _ _).add4 _ _ _ _ _).keep hb1
 simp only [World.size_alloc] at hK
 obtain ⟨r0, r1, r2, r3, r4, r5, r6, r7, r8⟩ := hK.box.head.four
 obtain ⟨b0, b1, b2, b3, b4, b5, b6, b7, b8⟩ := hK.box.tail.head.four
 obtain ⟨a0, a1, a2, a3, a4, a5, a6, a7, a8⟩ := hK.box.tail.tail.head.four
 rw [er_t]
 go_wp2_with fail
 refine (checkV H2.out _).mono ?_
 rintro e w2 ⟨rfl, hb2⟩
 have hK2 := hK.keep hb2
 clear r0 r1 r2 r3 r4 r5 r6 r7 r8 b0 b1 b2 b3 b4 b5 b6 b7 b8 a0 a1 a2 a3 a4 a5 a6 a7 a8
 obtain ⟨r0, r1, r2, r3, r4, r5, r6, r7, r8⟩ := hK2.box.head.four
 obtain ⟨b0, b1, b2, b3, b4, b5, b6, b7, b8⟩ := hK2.box.tail.head.four
 obtain ⟨a0, a1, a2, a3, a4, a5, a6, a7, a8⟩ := hK2.box.tail.tail.head.four
 rw [er_t]
 go_wp2_with fail
 refine (HJ.out _).mono ?_
 rintro e w3 ⟨rfl, hb3⟩
 have hK3 := hK2.keep hb3
 clear r0 r1 r2 r3 r4 r5 r6 r7 r8 b0 b1 b2 b3 b4 b5 b6 b7 b8 a0 a1 a2 a3 a4 a5 a6 a7 a8
 obtain ⟨r0, r1, r2, r3, r4, r5, r6, r7, r8⟩ := hK3.box.head.four
 obtain ⟨b0, b1, b2, b3, b4, b5, b6, b7, b8⟩ := hK3.box.tail.head.four
 obtain ⟨a0, a1, a2, a3, a4, a5, a6, a7, a8⟩ := hK3.box.tail.tail.head.four
 by_cases h1 : nv l' < nv l <;> by_cases h2 : nv h < nv h'
 ·have e1 : bmin l l' = l' := if_pos h1
  have e2 : bmax h h' = h' := if_pos h2
  rw [e1, e2] at HN
  clear e1 e2
  go_wp2_with fail
  refine (HN.out _).mono ?_
  rintro e w4 ⟨rfl, hb4⟩
  have hK4 := (hK3.add2 _ _ _).keep hb4
  clear r0 r1 r2 r3 r4 r5 r6 r7 r8 b0 b1 b2 b3 b4 b5 b6 b7 b8 a0 a1 a2 a3 a4 a5 a6 a7 a8
  obtain ⟨j0, j1, j2, j3, j4⟩ := hK4.box.head.two
  obtain ⟨r0, r1, r2, r3, r4, r5, r6, r7, r8⟩ := hK4.box.tail.head.four
  obtain ⟨b0, b1, b2, b3, b4, b5, b6, b7, b8⟩ := hK4.box.tail.tail.head.four
  obtain ⟨a0, a1, a2, a3, a4, a5, a6, a7, a8⟩ := hK4.box.tail.tail.tail.head.four
  go_wp2_with fail
  exact bodyPost_ret (v := .tuple #[Vl rv rm lo hi, N 0]) (by simp [results, Tryz.results79, go_sem, r0, r1, r2, r3, r8]) rfl ⟨rfl, ((hK4.set4 1 rfl).add4 _ _ _ _ _).bel⟩
 ·have e1 : bmin l l' = l' := if_pos h1
  have e2 : bmax h h' = h := if_neg h2
  rw [e1, e2] at HN
  clear e1 e2
  have h2' : nv h' ≤ nv h := by omega
  clear h2
  go_wp2_with fail
  refine (HN.out _).mono ?_
  rintro e w4 ⟨rfl, hb4⟩
  have hK4 := (hK3.add2 _ _ _).keep hb4
  clear r0 r1 r2 r3 r4 r5 r6 r7 r8 b0 b1 b2 b3 b4 b5 b6 b7 b8 a0 a1 a2 a3 a4 a5 a6 a7 a8
  obtain ⟨j0, j1, j2, j3, j4⟩ := hK4.box.head.two
  obtain ⟨r0, r1, r2, r3, r4, r5, r6, r7, r8⟩ := hK4.box.tail.head.four
  obtain ⟨b0, b1, b2, b3, b4, b5, b6, b7, b8⟩ := hK4.box.tail.tail.head.four
  obtain ⟨a0, a1, a2, a3, a4, a5, a6, a7, a8⟩ := hK4.box.tail.tail.tail.head.four
  go_wp2_with fail
  exact bodyPost_ret (v := .tuple #[Vl rv rm lo hi, N 0]) (by simp [results, Tryz.results79, go_sem, r0, r1, r2, r3, r8]) rfl ⟨rfl, ((hK4.set4 1 rfl).add4 _ _ _ _ _).bel⟩
 ·have e1 : bmin l l' = l := if_neg h1
  have e2 : bmax h h' = h' := if_pos h2
  rw [e1, e2] at HN
  clear e1 e2
  have h1' : nv l ≤ nv l' := by omega
  clear h1
  go_wp2_with fail
  refine (HN.out _).mono ?_
  rintro e w4 ⟨rfl, hb4⟩
  have hK4 := (hK3.add2 _ _ _).keep hb4
  clear r0 r1 r2 r3 r4 r5 r6 r7 r8 b0 b1 b2 b3 b4 b5 b6 b7 b8 a0 a1 a2 a3 a4 a5 a6 a7 a8
  obtain ⟨j0, j1, j2, j3, j4⟩ := hK4.box.head.two
  obtain ⟨r0, r1, r2, r3, r4, r5, r6, r7, r8⟩ := hK4.box.tail.head.four
  obtain ⟨b0, b1, b2, b3, b4, b5, b6, b7, b8⟩ := hK4.box.tail.tail.head.four
  obtain ⟨a0, a1, a2, a3, a4, a5, a6, a7, a8⟩ := hK4.box.tail.tail.tail.head.four
  go_wp2_with fail
  exact bodyPost_ret (v := .tuple #[Vl rv rm lo hi, N 0]) (by simp [results, Tryz.results79, go_sem, r0, r1, r2, r3, r8]) rfl ⟨rfl, ((hK4.set4 1 rfl).add4 _ _ _ _ _).bel⟩
 ·have e1 : bmin l l' = l := if_neg h1
  have e2 : bmax h h' = h := if_neg h2
  rw [e1, e2] at HN
  clear e1 e2
  have h1' : nv l ≤ nv l' := by omega
  clear h1
  have h2' : nv h' ≤ nv h := by omega
  clear h2
  go_wp2_with fail
  refine (HN.out _).mono ?_
  rintro e w4 ⟨rfl, hb4⟩
  have hK4 := (hK3.add2 _ _ _).keep hb4
  clear r0 r1 r2 r3 r4 r5 r6 r7 r8 b0 b1 b2 b3 b4 b5 b6 b7 b8 a0 a1 a2 a3 a4 a5 a6 a7 a8
  obtain ⟨j0, j1, j2, j3, j4⟩ := hK4.box.head.two
  obtain ⟨r0, r1, r2, r3, r4, r5, r6, r7, r8⟩ := hK4.box.tail.head.four
  obtain ⟨b0, b1, b2, b3, b4, b5, b6, b7, b8⟩ := hK4.box.tail.tail.head.four
  obtain ⟨a0, a1, a2, a3, a4, a5, a6, a7, a8⟩ := hK4.box.tail.tail.tail.head.four
  go_wp2_with fail
  exact bodyPost_ret (v := .tuple #[Vl rv rm lo hi, N 0]) (by simp [results, Tryz.results79, go_sem, r0, r1, r2, r3, r8]) rfl ⟨rfl, ((hK4.set4 1 rfl).add4 _ _ _ _ _).bel⟩
end
section
attribute [local go_sem] w_and w_or w_xor w_andNot w_and1 w_and63 w_add w_sub w_mul w_sub1 w_add1 w_shl w_shl1 w_shr c_beq c_bne c_beq0 c_bne0 c_beq1 c_bne1 wrap_nv
set_option maxHeartbeats 400000 in
theorem alone_any (v m l h : BitVec 64) (w : World) :
  Calls Tryz.prog 104 #[Vl v m l h] w fun e w' => e = .returned (.bool (eqb l h)) ∧ Below w.heap.size w w' := by
 go_enter Tryz.func104, Tryz.ntmps104
 go_wp2_with fail
 go_ret
 exact ⟨rfl, (by repeat (first | exact Below.refl _ _ | assumption | refine below_drewN ?_ _ | refine Below.drew ?_ | refine Below.alloc ?_ (by first | exact Nat.le_refl _ | (simp; done) | (simp; omega) | omega) _ | refine Below.setCell ?_ (by first | exact Nat.le_refl _ | (simp; done) | (simp; omega) | omega) _ | refine Below.trans ?_ (Below.mono (by assumption) (by first | exact Nat.le_refl _ | (simp; done) | (simp; omega) | omega))))⟩
theorem alone_is {v m l h : BitVec 64} {b : Bool} (hb : eqb l h = b) (w : World) :
  Calls Tryz.prog 104 #[Vl v m l h] w fun e w' => e = .returned (.bool b) ∧ Below w.heap.size w w' := hb ▸ alone_any v m l h w
set_option maxRecDepth 100000 in
set_option maxHeartbeats 1000000 in
theorem shiftBounds_shr (v m l h : BitVec 64) (y : BitVec 64) (w : World) :
  Calls Tryz.prog 137 #[N 9, Vl v m l h, U (band y 63#64)] w fun e w' => e = .returned (.tuple #[U (bshr l (six y)), U (bshr h (six y))]) ∧ Below w.heap.size w w' := by
 have h6 := six_nv y
 have h7 := six_lt y
 go_enter Tryz.func137, Tryz.ntmps137
 go_wp2_with fail
 go_quiet (fail)
 go_wp2_with fail
 go_ret2
 exact ⟨rfl, (by repeat (first | exact Below.refl _ _ | assumption | refine below_drewN ?_ _ | refine Below.drew ?_ | refine Below.alloc ?_ (by first | exact Nat.le_refl _ | (simp; done) | (simp; omega) | omega) _ | refine Below.setCell ?_ (by first | exact Nat.le_refl _ | (simp; done) | (simp; omega) | omega) _ | refine Below.trans ?_ (Below.mono (by assumption) (by first | exact Nat.le_refl _ | (simp; done) | (simp; omega) | omega))))⟩
set_option maxRecDepth 100000 in
set_option maxHeartbeats 1000000 in
theorem shiftBounds_shl (v m l h : BitVec 64) (y : BitVec 64) (w : World) :
  Calls Tryz.prog 137 #[N 8, Vl v m l h, U (band y 63#64)] w fun e w' => e = .returned (.tuple #[U (shlB l h (six y)).1, U (shlB l h (six y)).2]) ∧ Below w.heap.size w w' := by
 have h6 := six_nv y
 have h7 := six_lt y
 have Ha : Hid (shlB l h (six y) = if eqb (bshr (bshl h (six y)) (six y)) h then (bshl l (six y), bshl h (six y)) else (zero, top)) := rfl
 obtain ⟨p, hp⟩ : ∃ b, eqb (bshr (bshl h (six y)) (six y)) h = b := ⟨_, rfl⟩
 rw [hp] at Ha
 cases p
 ·go_enter Tryz.func137, Tryz.ntmps137
  go_wp2_with fail
  go_ret2
  rw [Ha.out]
  exact ⟨rfl, (by repeat (first | exact Below.refl _ _ | assumption | refine below_drewN ?_ _ | refine Below.drew ?_ | refine Below.alloc ?_ (by first | exact Nat.le_refl _ | (simp; done) | (simp; omega) | omega) _ | refine Below.setCell ?_ (by first | exact Nat.le_refl _ | (simp; done) | (simp; omega) | omega) _ | refine Below.trans ?_ (Below.mono (by assumption) (by first | exact Nat.le_refl _ | (simp; done) | (simp; omega) | omega))))⟩
 ·go_enter Tryz.func137, Tryz.ntmps137
  go_wp2_with fail
  go_quiet (fail)
  go_wp2_with fail
  go_ret2
  rw [Ha.out]
  exact ⟨rfl, (by repeat (first | exact Below.refl _ _ | assumption | refine below_drewN ?_ _ | refine Below.drew ?_ | refine Below.alloc ?_ (by first | exact Nat.le_refl _ | (simp; done) | (simp; omega) | omega) _ | refine Below.setCell ?_ (by first | exact Nat.le_refl _ | (simp; done) | (simp; omega) | omega) _ | refine Below.trans ?_ (Below.mono (by assumption) (by first | exact Nat.le_refl _ | (simp; done) | (simp; omega) | omega))))⟩
set_option maxRecDepth 100000 in
set_option maxHeartbeats 1000000 in
theorem bounds_any {op : Int} (hop : Hid (2 ≤ op ∧ op ≤ 7)) (v m l h v' m' l' h' : BitVec 64) (w : World) :
  Calls Tryz.prog 130 #[N op, Vl v m l h, Vl v' m' l' h'] w fun e w' => e = .returned (.tuple #[U (boundsP op l h l' h').1, U (boundsP op l h l' h').2]) ∧ Below w.heap.size w w' := by
 rcases op_cases hop.out with rfl | rfl | rfl | rfl | rfl | rfl
 ·clear hop
  go_enter Tryz.func130, Tryz.ntmps130
  go_wp2_with fail
  refine (addBounds_any v m l h v' m' l' h' _).mono ?_
  rintro e w1 ⟨rfl, hb1⟩
  have hK := (((Kp.start w).add4 _ _ _ _ _).add4 _ _ _ _ _).keep hb1
  go_wp2_with fail
  go_ret2
  exact ⟨rfl, hK.bel⟩
 ·clear hop
  go_enter Tryz.func130, Tryz.ntmps130
  go_wp2_with fail
  refine (subBounds_any v m l h v' m' l' h' _).mono ?_
  rintro e w1 ⟨rfl, hb1⟩
  have hK := (((Kp.start w).add4 _ _ _ _ _).add4 _ _ _ _ _).keep hb1
  go_wp2_with fail
  go_ret2
  exact ⟨rfl, hK.bel⟩
 ·clear hop
  go_enter Tryz.func130, Tryz.ntmps130
  go_wp2_with fail
  refine (mulBounds_any v m l h v' m' l' h' _).mono ?_
  rintro e w1 ⟨rfl, hb1⟩
  have hK := (((Kp.start w).add4 _ _ _ _ _).add4 _ _ _ _ _).keep hb1
  go_wp2_with fail
  go_ret2
  exact ⟨rfl, hK.bel⟩
 ·clear hop
  have Hb : Hid (boundsP 5 l h l' h' = (zero, bmin h h')) := rfl
  rw [Hb.out]
  by_cases h1 : nv h' < nv h
  ·have e1 : Hid (bmin h h' = h') := if_pos h1
   rw [e1.out]
   go_enter Tryz.func130, Tryz.ntmps130
   go_wp2_with fail
   first | (go_quiet (fail); go_wp2_with fail) | skip
   go_ret2
   exact ⟨rfl, (by repeat (first | exact Below.refl _ _ | assumption | refine below_drewN ?_ _ | refine Below.drew ?_ | refine Below.alloc ?_ (by first | exact Nat.le_refl _ | (simp; done) | (simp; omega) | omega) _ | refine Below.setCell ?_ (by first | exact Nat.le_refl _ | (simp; done) | (simp; omega) | omega) _ | refine Below.trans ?_ (Below.mono (by assumption) (by first | exact Nat.le_refl _ | (simp; done) | (simp; omega) | omega))))⟩
  ·have e1 : Hid (bmin h h' = h) := if_neg h1
   have h1' : nv h ≤ nv h' := by omega
   clear h1
   rw [e1.out]
   go_enter Tryz.func130, Tryz.ntmps130
   go_wp2_with fail
   first | (go_quiet (fail); go_wp2_with fail) | skip
   go_ret2
   exact ⟨rfl, (by repeat (first | exact Below.refl _ _ | assumption | refine below_drewN ?_ _ | refine Below.drew ?_ | refine Below.alloc ?_ (by first | exact Nat.le_refl _ | (simp; done) | (simp; omega) | omega) _ | refine Below.setCell ?_ (by first | exact Nat.le_refl _ | (simp; done) | (simp; omega) | omega) _ | refine Below.trans ?_ (Below.mono (by assumption) (by first | exact Nat.le_refl _ | (simp; done) | (simp; omega) | omega))))⟩
 ·clear hop
  have Hb : Hid (boundsP 6 l h l' h' = (bmax l l', top)) := rfl
  rw [Hb.out]
  by_cases h1 : nv l < nv l'
  ·have e1 : Hid (bmax l l' = l') := if_pos h1
   rw [e1.out]
   go_enter Tryz.func130, Tryz.ntmps130
   go_wp2_with fail
   go_ret2
   exact ⟨rfl, (by repeat (first | exact Below.refl _ _ | assumption | refine below_drewN ?_ _ | refine Below.drew ?_ | refine Below.alloc ?_ (by first | exact Nat.le_refl _ | (simp; done) | (simp; omega) | omega) _ | refine Below.setCell ?_ (by first | exact Nat.le_refl _ | (simp; done) | (simp; omega) | omega) _ | refine Below.trans ?_ (Below.mono (by assumption) (by first | exact Nat.le_refl _ | (simp; done) | (simp; omega) | omega))))⟩
  ·have e1 : Hid (bmax l l' = l) := if_neg h1
   have h1' : nv l' ≤ nv l := by omega
   clear h1
   rw [e1.out]
   go_enter Tryz.func130, Tryz.ntmps130
   go_wp2_with fail
   go_ret2
   exact ⟨rfl, (by repeat (first | exact Below.refl _ _ | assumption | refine below_drewN ?_ _ | refine Below.drew ?_ | refine Below.alloc ?_ (by first | exact Nat.le_refl _ | (simp; done) | (simp; omega) | omega) _ | refine Below.setCell ?_ (by first | exact Nat.le_refl _ | (simp; done) | (simp; omega) | omega) _ | refine Below.trans ?_ (Below.mono (by assumption) (by first | exact Nat.le_refl _ | (simp; done) | (simp; omega) | omega))))⟩
 ·clear hop
  go_enter Tryz.func130, Tryz.ntmps130
  go_wp2_with fail
  go_ret2
  exact ⟨rfl, (by repeat (first | exact Below.refl _ _ | assumption | refine below_drewN ?_ _ | refine Below.drew ?_ | refine Below.alloc ?_ (by first | exact Nat.le_refl _ | (simp; done) | (simp; omega) | omega) _ | refine Below.setCell ?_ (by first | exact Nat.le_refl _ | (simp; done) | (simp; omega) | omega) _ | refine Below.trans ?_ (Below.mono (by assumption) (by first | exact Nat.le_refl _ | (simp; done) | (simp; omega) | omega))))⟩
end
section
attribute [local go_sem] w_and w_or w_xor w_andNot w_and1 w_and63 w_add w_sub w_mul w_sub1 w_add1 w_shl w_shl1 w_shr c_beq c_bne c_beq0 c_bne0 c_beq1 c_bne1 wrap_nv
set_option maxRecDepth 100000 in
set_option maxHeartbeats 1000000 in
theorem shift_wide8 {v m l g v' m' l' g' : BitVec 64} (ha : Hid (eqb l' g' = false)) (w : World) :
  Calls Tryz.prog 128 #[N 8, Vl v m l g, Vl v' m' l' g'] w fun e w' => e = .returned (Vl zero top zero top) ∧ Below w.heap.size w w' := by
 go_enter Tryz.func128, Tryz.ntmps128
 go_wp2_with fail
 refine (alone_is ha.out _).mono ?_
 rintro e w1 ⟨rfl, hb1⟩
 have hK := ((((Kp.start w).add4 _ _ _ _ _).add4 _ _ _ _ _).add4 _ _ _ _ _).keep hb1
 simp only [World.size_alloc] at hK
 obtain ⟨r0, r1, r2, r3, r4, r5, r6, r7, r8⟩ := hK.box.head.four
 obtain ⟨b0, b1, b2, b3, b4, b5, b6, b7, b8⟩ := hK.box.tail.head.four
 obtain ⟨a0, a1, a2, a3, a4, a5, a6, a7, a8⟩ := hK.box.tail.tail.head.four
 go_wp2_with fail
 exact bodyPost_ret (v := Vl zero top zero top) (by simp [results, Tryz.results128, go_sem, nv_zero, nv_top, r0, r1, r2, r3]) rfl ⟨rfl, (hK.set4 0 rfl).bel⟩
set_option maxRecDepth 100000 in
set_option maxHeartbeats 1000000 in
theorem shift_wide9 {v m l g v' m' l' g' : BitVec 64} (ha : Hid (eqb l' g' = false)) (w : World) :
  Calls Tryz.prog 128 #[N 9, Vl v m l g, Vl v' m' l' g'] w fun e w' => e = .returned (Vl zero top zero g) ∧ Below w.heap.size w w' := by
 go_enter Tryz.func128, Tryz.ntmps128
 go_wp2_with fail
 refine (alone_is ha.out _).mono ?_
 rintro e w1 ⟨rfl, hb1⟩
 have hK := ((((Kp.start w).add4 _ _ _ _ _).add4 _ _ _ _ _).add4 _ _ _ _ _).keep hb1
 simp only [World.size_alloc] at hK
 obtain ⟨r0, r1, r2, r3, r4, r5, r6, r7, r8⟩ := hK.box.head.four
 obtain ⟨b0, b1, b2, b3, b4, b5, b6, b7, b8⟩ := hK.box.tail.head.four
 obtain ⟨a0, a1, a2, a3, a4, a5, a6, a7, a8⟩ := hK.box.tail.tail.head.four
 go_wp2_with fail
 exact bodyPost_ret (v := Vl zero top zero g) (by simp [results, Tryz.results128, go_sem, nv_zero, nv_top, r0, r1, r2, r3]) rfl ⟨rfl, (hK.set4 0 rfl).bel⟩
set_option maxRecDepth 100000 in
set_option maxHeartbeats 1000000 in
theorem shift_one8 {v m l h v' m' l' h' : BitVec 64} (hr : Hid (eqb (band v m) zero = true)) (ha : Hid (eqb l' h' = true)) (w : World) :
  Calls Tryz.prog 128 #[N 8, Vl v m l h, Vl v' m' l' h'] w fun e w' => e = .returned (Vl (bshl v (six l')) (bshl m (six l')) (shlB l h (six l')).1 (shlB l h (six l')).2) ∧ Below w.heap.size w w' := by
 have h6 := six_nv l'
 have h7 := six_lt l'
 have HS : Hid (∀ w, Calls Tryz.prog 136 #[N 8, Bt v m, N (six l')] w fun e w' => e = .returned (.tuple #[Bt (bshl v (six l')) (bshl m (six l')), N 0]) ∧ Below w.heap.size w w') := fun w => shift_up hr h7 w
 have HB : Hid (∀ w, Calls Tryz.prog 137 #[N 8, Vl v m l h, U (band l' 63#64)] w fun e w' => e = .returned (.tuple #[U (shlB l h (six l')).1, U (shlB l h (six l')).2]) ∧ Below w.heap.size w w') := fun w => shiftBounds_shl v m l h l' w
 generalize shlB l h (six l') = S at HB ⊢
 obtain ⟨lo, hi⟩ := S
 generalize bshl v (six l') = sv at HS ⊢
 generalize bshl m (six l') = sm at HS ⊢
 go_enter Tryz.func128, Tryz.ntmps128
 go_wp2_with fail
 refine (alone_is ha.out _).mono ?_
 rintro e w1 ⟨rfl, hb1⟩
 have hK := ((((Kp.start w).add4 _ _ _ _ _).add4 _ _ _ _ _).add4 _ _ _ _ _).keep hb1
 simp only [World.size_alloc] at hK
 obtain ⟨r0, r1, r2, r3, r4, r5, r6, r7, r8⟩ := hK.box.head.four
 obtain ⟨b0, b1, b2, b3, b4, b5, b6, b7, b8⟩ := hK.box.tail.head.four
 obtain ⟨a0, a1, a2, a3, a4, a5, a6, a7, a8⟩ := hK.box.tail.tail.head.four
 go_wp2_with fail
 refine (HS.out _).mono ?_
 rintro e w2 ⟨rfl, hb2⟩
 have hK2 := hK.keep hb2
 clear r0 r1 r2 r3 r4 r5 r6 r7 r8 b0 b1 b2 b3 b4 b5 b6 b7 b8 a0 a1 a2 a3 a4 a5 a6 a7 a8
 obtain ⟨r0, r1, r2, r3, r4, r5, r6, r7, r8⟩ := hK2.box.head.four
 obtain ⟨b0, b1, b2, b3, b4, b5, b6, b7, b8⟩ := hK2.box.tail.head.four
 obtain ⟨a0, a1, a2, a3, a4, a5, a6, a7, a8⟩ := hK2.box.tail.tail.head.four
 go_wp2_with fail
 refine (HB.out _).mono ?_
 rintro e w3 ⟨rfl, hb3⟩
 have hK3 := (hK2.add2 _ _ _).keep hb3
 clear r0 r1 r2 r3 r4 r5 r6 r7 r8 b0 b1 b2 b3 b4 b5 b6 b7 b8 a0 a1 a2 a3 a4 a5 a6 a7 a8
 obtain ⟨s0, s1, s2, s3, s4⟩ := hK3.box.head.two
 obtain ⟨r0, r1, r2, r3, r4, r5, r6, r7, r8⟩ := hK3.box.tail.head.four
 obtain ⟨b0, b1, b2, b3, b4, b5, b6, b7, b8⟩ := hK3.box.tail.tail.head.four
 obtain ⟨a0, a1, a2, a3, a4, a5, a6, a7, a8⟩ := hK3.box.tail.tail.tail.head.four
 go_wp2_with fail
 exact bodyPost_ret (v := Vl sv sm lo hi) (by simp [results, Tryz.results128, go_sem, r0, r1, r2, r3]) rfl ⟨rfl, (hK3.set4 1 rfl).bel⟩
set_option maxRecDepth 100000 in
set_option maxHeartbeats 1000000 in
theorem shift_one9 {v m l h v' m' l' h' : BitVec 64} (hr : Hid (eqb (band v m) zero = true)) (ha : Hid (eqb l' h' = true)) (w : World) :
  Calls Tryz.prog 128 #[N 9, Vl v m l h, Vl v' m' l' h'] w fun e w' => e = .returned (Vl (bshr v (six l')) (bshr m (six l')) (bshr l (six l')) (bshr h (six l'))) ∧ Below w.heap.size w w' := by
 have h6 := six_nv l'
 have h7 := six_lt l'
 have HS : Hid (∀ w, Calls Tryz.prog 136 #[N 9, Bt v m, N (six l')] w fun e w' => e = .returned (.tuple #[Bt (bshr v (six l')) (bshr m (six l')), N 0]) ∧ Below w.heap.size w w') := fun w => shift_down hr h7 w
 have HB : Hid (∀ w, Calls Tryz.prog 137 #[N 9, Vl v m l h, U (band l' 63#64)] w fun e w' => e = .returned (.tuple #[U (bshr l (six l')), U (bshr h (six l'))]) ∧ Below w.heap.size w w') := fun w => shiftBounds_shr v m l h l' w
 generalize bshr l (six l') = lo at HB ⊢
 generalize bshr h (six l') = hi at HB ⊢
 generalize bshr v (six l') = sv at HS ⊢
 generalize bshr m (six l') = sm at HS ⊢
 go_enter Tryz.func128, Tryz.ntmps128
 go_wp2_with fail
 refine (alone_is ha.out _).mono ?_
 rintro e w1 ⟨rfl, hb1⟩
 have hK := ((((Kp.start w).add4 _ _ _ _ _).add4 _ _ _ _ _).add4 _ _ _ _ _).keep hb1
 simp only [World.size_alloc] at hK
 obtain ⟨r0, r1, r2, r3, r4, r5, r6, r7, r8⟩ := hK.box.head.four
 obtain ⟨b0, b1, b2, b3, b4, b5, b6, b7, b8⟩ := hK.box.tail.head.four
 obtain ⟨a0, a1, a2, a3, a4, a5, a6, a7, a8⟩ := hK.box.tail.tail.head.four
 go_wp2_with fail
 refine (HS.out _).mono ?_
 rintro e w2 ⟨rfl, hb2⟩
 have hK2 := hK.keep hb2
 clear r0 r1 r2 r3 r4 r5 r6 r7 r8 b0 b1 b2 b3 b4 b5 b6 b7 b8 a0 a1 a2 a3 a4 a5 a6 a7 a8
 obtain ⟨r0, r1, r2, r3, r4, r5, r6, r7, r8⟩ := hK2.box.head.four
 obtain ⟨b0, b1, b2, b3, b4, b5, b6, b7, b8⟩ := hK2.box.tail.head.four
 obtain ⟨a0, a1, a2, a3, a4, a5, a6, a7, a8⟩ := hK2.box.tail.tail.head.four
 go_wp2_with fail
 refine (HB.out _).mono ?_
 rintro e w3 ⟨rfl, hb3⟩
 have hK3 := (hK2.add2 _ _ _).keep hb3
 clear r0 r1 r2 r3 r4 r5 r6 r7 r8 b0 b1 b2 b3 b4 b5 b6 b7 b8 a0 a1 a2 a3 a4 a5 a6 a7 a8
 obtain ⟨s0, s1, s2, s3, s4⟩ := hK3.box.head.two
 obtain ⟨r0, r1, r2, r3, r4, r5, r6, r7, r8⟩ := hK3.box.tail.head.four
 obtain ⟨b0, b1, b2, b3, b4, b5, b6, b7, b8⟩ := hK3.box.tail.tail.head.four
 obtain ⟨a0, a1, a2, a3, a4, a5, a6, a7, a8⟩ := hK3.box.tail.tail.tail.head.four
 go_wp2_with fail
 exact bodyPost_ret (v := Vl sv sm lo hi) (by simp [results, Tryz.results128, go_sem, r0, r1, r2, r3]) rfl ⟨rfl, (hK3.set4 1 rfl).bel⟩
end
section
attribute [local go_sem] w_and w_or w_xor w_andNot w_and1 w_and63 w_add w_sub w_mul w_sub1 w_add1 w_shl w_shl1 w_shr c_beq c_bne c_beq0 c_bne0 c_beq1 c_bne1 wrap_nv
def rk (op : Int) (v m l h v' m' l' h' : BitVec 64) : BitVec 64 × BitVec 64 × BitVec 64 × BitVec 64 :=
 if op = 8 then (if eqb l' h' then (bshl v (six l'), bshl m (six l'), (shlB l h (six l')).1, (shlB l h (six l')).2) else (zero, top, zero, top))
 else if op = 9 then (if eqb l' h' then (bshr v (six l'), bshr m (six l'), bshr l (six l'), bshr h (six l')) else (zero, top, zero, h))
 else ((twoP op v m v' m').1, (twoP op v m v' m').2, (boundsP op l h l' h').1, (boundsP op l h l' h').2)
theorem shift_is {op : Int} (hop : op = 8 ∨ op = 9) {v m l h : BitVec 64} (v' m' l' h' : BitVec 64) (hr : Hid (eqb (band v m) zero = true)) (w : World) :
  Calls Tryz.prog 128 #[N op, Vl v m l h, Vl v' m' l' h'] w fun e w' => e = .returned (Vl (rk op v m l h v' m' l' h').1 (rk op v m l h v' m' l' h').2.1 (rk op v m l h v' m' l' h').2.2.1 (rk op v m l h v' m' l' h').2.2.2) ∧ Below w.heap.size w w' := by
 rcases hop with rfl | rfl
 ·cases ha : eqb l' h'
  ·have e : rk 8 v m l h v' m' l' h' = (zero, top, zero, top) := by unfold rk; rw [if_pos rfl, ha]; rfl
   rw [e]; exact shift_wide8 ha w
  ·have e : rk 8 v m l h v' m' l' h' = (bshl v (six l'), bshl m (six l'), (shlB l h (six l')).1, (shlB l h (six l')).2) := by unfold rk; rw [if_pos rfl, ha]; rfl
   rw [e]; exact shift_one8 hr ha w
 ·cases ha : eqb l' h'
  ·have e : rk 9 v m l h v' m' l' h' = (zero, top, zero, h) := by unfold rk; rw [if_neg (by decide), if_pos rfl, ha]; rfl
   rw [e]; exact shift_wide9 ha w
  ·have e : rk 9 v m l h v' m' l' h' = (bshr v (six l'), bshr m (six l'), bshr l (six l'), bshr h (six l')) := by unfold rk; rw [if_neg (by decide), if_pos rfl, ha]; rfl
   rw [e]; exact shift_one9 hr ha w
set_option maxRecDepth 100000 in
set_option maxHeartbeats 1000000 in
theorem reckon_shift {op : Int} (hop : op = 8 ∨ op = 9) {v m l g : BitVec 64} (v' m' l' g' : BitVec 64) (hr : Hid (eqb (band v m) zero = true)) (w : World) :
  Calls Tryz.prog 112 #[N op, Vl v m l g, Vl v' m' l' g'] w fun e w' => e = .returned (.tuple #[Vl (rk op v m l g v' m' l' g').1 (rk op v m l g v' m' l' g').2.1 (rk op v m l g v' m' l' g').2.2.1 (rk op v m l g v' m' l' g').2.2.2, N 0]) ∧ Below w.heap.size w w' := by
 have HS : Hid (∀ w, Calls Tryz.prog 128 #[N op, Vl v m l g, Vl v' m' l' g'] w fun e w' => e = .returned (Vl (rk op v m l g v' m' l' g').1 (rk op v m l g v' m' l' g').2.1 (rk op v m l g v' m' l' g').2.2.1 (rk op v m l g v' m' l' g').2.2.2) ∧ Below w.heap.size w w') := fun w => shift_is hop v' m' l' g' hr w
 generalize rk op v m l g v' m' l' g' = S at HS ⊢
 obtain ⟨sa, sb, sc, sd⟩ := S
 rcases hop with rfl | rfl
 all_goals
  go_enter Tryz.func112, Tryz.ntmps112
  go_wp2_with fail
  refine (HS.out _).mono ?_
  rintro e w1 ⟨rfl, hb1⟩
  have hK := ((((Kp.start w).add4 _ _ _ _ _).add4 _ _ _ _ _).add4 _ _ _ _ _).keep hb1
  simp only [World.size_alloc] at hK
  obtain ⟨r0, r1, r2, r3, r4, r5, r6, r7, r8⟩ := hK.box.head.four
  obtain ⟨b0, b1, b2, b3, b4, b5, b6, b7, b8⟩ := hK.box.tail.head.four
  obtain ⟨a0, a1, a2, a3, a4, a5, a6, a7, a8⟩ := hK.box.tail.tail.head.four
  go_wp2_with fail
  exact bodyPost_ret (v := .tuple #[Vl sa sb sc sd, N 0]) (by simp [results, Tryz.results112, go_sem, r0, r1, r2, r3]) rfl ⟨rfl, (hK.set4 0 rfl).bel⟩
set_option maxRecDepth 100000 in
set_option maxHeartbeats 1000000 in
theorem reckon_two {op : Int} (hop : Hid (2 ≤ op ∧ op ≤ 7)) {v m l g v' m' l' g' : BitVec 64} (hr : Hid ((eqb (band v m) zero && eqb (band v' m') zero) = true)) (w : World) :
  Calls Tryz.prog 112 #[N op, Vl v m l g, Vl v' m' l' g'] w fun e w' => e = .returned (.tuple #[Vl (rk op v m l g v' m' l' g').1 (rk op v m l g v' m' l' g').2.1 (rk op v m l g v' m' l' g').2.2.1 (rk op v m l g v' m' l' g').2.2.2, N 0]) ∧ Below w.heap.size w w' := by
 have h8 : (op == 8) = false := by have := hop.out; simp; omega
 have h9 : (op == 9) = false := by have := hop.out; simp; omega
 have Hk : Hid (rk op v m l g v' m' l' g' = ((twoP op v m v' m').1, (twoP op v m v' m').2, (boundsP op l g l' g').1, (boundsP op l g l' g').2)) := by
  show _ = _
  unfold rk; rw [if_neg (by have := hop.out; omega), if_neg (by have := hop.out; omega)]
 rw [Hk.out]
 have HT : Hid (∀ w, Calls Tryz.prog 129 #[N op, Bt v m, Bt v' m'] w fun e w' => e = .returned (.tuple #[Bt (twoP op v m v' m').1 (twoP op v m v' m').2, N 0]) ∧ Below w.heap.size w w') := fun w => two_ok hr hop.out w
 have HB : Hid (∀ w, Calls Tryz.prog 130 #[N op, Vl v m l g, Vl v' m' l' g'] w fun e w' => e = .returned (.tuple #[U (boundsP op l g l' g').1, U (boundsP op l g l' g').2]) ∧ Below w.heap.size w w') := fun w => bounds_any hop v m l g v' m' l' g' w
 clear Hk
 generalize twoP op v m v' m' = T at HT ⊢
 generalize boundsP op l g l' g' = B at HB ⊢
 obtain ⟨ta, tb⟩ := T
 obtain ⟨ba, bb⟩ := B
 go_enter Tryz.func112, Tryz.ntmps112
 go_wp2_with fail
 refine (HT.out _).mono ?_
 rintro e w1 ⟨rfl, hb1⟩
 have hK := ((((Kp.start w).add4 _ _ _ _ _).add4 _ _ _ _ _).add4 _ _ _ _ _).keep hb1
 simp only [World.size_alloc] at hK
 obtain ⟨r0, r1, r2, r3, r4, r5, r6, r7, r8⟩ := hK.box.head.four
 obtain ⟨b0, b1, b2, b3, b4, b5, b6, b7, b8⟩ := hK.box.tail.head.four
 obtain ⟨a0, a1, a2, a3, a4, a5, a6, a7, a8⟩ := hK.box.tail.tail.head.four
 go_wp2_with fail
 refine (HB.out _).mono ?_
 rintro e w2 ⟨rfl, hb2⟩
 have hK2 := (hK.add2 _ _ _).keep hb2
 clear r0 r1 r2 r3 r4 r5 r6 r7 r8 b0 b1 b2 b3 b4 b5 b6 b7 b8 a0 a1 a2 a3 a4 a5 a6 a7 a8
 obtain ⟨k0, k1, k2, k3, k4⟩ := hK2.box.head.two
 obtain ⟨r0, r1, r2, r3, r4, r5, r6, r7, r8⟩ := hK2.box.tail.head.four
 obtain ⟨b0, b1, b2, b3, b4, b5, b6, b7, b8⟩ := hK2.box.tail.tail.head.four
 obtain ⟨a0, a1, a2, a3, a4, a5, a6, a7, a8⟩ := hK2.box.tail.tail.tail.head.four
 go_wp2_with fail
 exact bodyPost_ret (v := .tuple #[Vl ta tb ba bb, N 0]) (by simp [results, Tryz.results112, go_sem, r0, r1, r2, r3]) rfl ⟨rfl, (hK2.set4 1 rfl).bel⟩
end
section
attribute [local go_sem] w_and w_or w_xor w_andNot w_and1 w_and63 w_add w_sub w_mul w_sub1 w_add1 w_shl w_shl1 w_shr c_beq c_bne c_beq0 c_bne0 c_beq1 c_bne1 wrap_nv
set_option maxRecDepth 100000 in
set_option maxHeartbeats 1000000 in
theorem vcheck2 {v m l g v' m' l' g' : BitVec 64} {r1 r2 : Bool} (h1 : Hid (valB v m l g = r1)) (h2 : Hid (valB v' m' l' g' = r2)) {b c : Nat} {w : World} (hbw : b < w.heap.size)
  (c0 : w.cell? ⟨b, 0, none⟩ = some (U v)) (c1 : w.cell? ⟨b, 1, none⟩ = some (U m)) (c2 : w.cell? ⟨b, 2, none⟩ = some (U l)) (c3 : w.cell? ⟨b, 3, none⟩ = some (U g))
  (c4 : w.cell? ⟨b, 4, none⟩ = some (U v')) (c5 : w.cell? ⟨b, 5, none⟩ = some (U m')) (c6 : w.cell? ⟨b, 6, none⟩ = some (U l')) (c7 : w.cell? ⟨b, 7, none⟩ = some (U g')) :
  Calls Tryz.prog 111 #[.slice (some ⟨b, 0, none⟩) 2 c] w fun e w' => e = .returned (N (er (r1 && r2))) ∧ Below w.heap.size w w' := by
 go_enter Tryz.func111, Tryz.ntmps111
 go_wp2_with fail
 refine wp_loop_rounds 3 ?_
 rw [rounds_succ]
 go_wp2_with fail
 refine (checkV h1.out _).mono ?_
 rintro e w1 ⟨rfl, hb1⟩
 obtain ⟨hc1, hf1, hs1⟩ := bk (b + 1) hb1 (by simp; omega)
 cases r1
 ·rw [er_f]
  go_wp2_with fail
  go_ret
  exact ⟨rfl, (by repeat (first | exact Below.refl _ _ | assumption | refine below_drewN ?_ _ | refine Below.drew ?_ | refine Below.alloc ?_ (by first | exact Nat.le_refl _ | (simp; done) | (simp; omega) | omega) _ | refine Below.setCell ?_ (by first | exact Nat.le_refl _ | (simp; done) | (simp; omega) | omega) _ | refine Below.trans ?_ (Below.mono (by assumption) (by first | exact Nat.le_refl _ | (simp; done) | (simp; omega) | omega))))⟩
 ·rw [er_t]
  go_wp2_with fail
  rw [rounds_succ]
  go_wp2_with fail
  refine (checkV h2.out _).mono ?_
  rintro e w2 ⟨rfl, hb2⟩
  have hz1 : w.heap.size ≤ w1.heap.size := Nat.le_trans (by simp) hb1.size
  cases r2
  ·rw [er_f]
   go_wp2_with fail
   go_ret
   exact ⟨rfl, (by repeat (first | exact Below.refl _ _ | assumption | refine below_drewN ?_ _ | refine Below.drew ?_ | refine Below.alloc ?_ (by first | exact Nat.le_refl _ | (simp; done) | (simp; omega) | omega) _ | refine Below.setCell ?_ (by first | exact Nat.le_refl _ | (simp; done) | (simp; omega) | omega) _ | refine Below.trans ?_ (Below.mono (by assumption) (by first | exact Nat.le_refl _ | (simp; done) | (simp; omega) | omega))))⟩
  ·rw [er_t]
   go_wp2_with fail
   rw [rounds_succ]
   go_wp2_with fail
   go_ret
   exact ⟨rfl, (by repeat (first | exact Below.refl _ _ | assumption | refine below_drewN ?_ _ | refine Below.drew ?_ | refine Below.alloc ?_ (by first | exact Nat.le_refl _ | (simp; done) | (simp; omega) | omega) _ | refine Below.setCell ?_ (by first | exact Nat.le_refl _ | (simp; done) | (simp; omega) | omega) _ | refine Below.trans ?_ (Below.mono (by assumption) (by first | exact Nat.le_refl _ | (simp; done) | (simp; omega) | omega))))⟩
theorem two_checked {v m l g v' m' l' g' : BitVec 64} (hr : (valB v m l g && valB v' m' l' g') = true) : (eqb (band v m) zero && eqb (band v' m') zero) = true := by
 rw [Bool.and_eq_true] at hr
 rw [(rt_iff _ _).2 (val_facts hr.1).1, (rt_iff _ _).2 (val_facts hr.2).1]; rfl
set_option maxRecDepth 100000 in
set_option maxHeartbeats 1000000 in
theorem calcTwo_none {op : Int}  {v m l g v' m' l' g' : BitVec 64} (hr : Hid ((valB v m l g && valB v' m' l' g') = true)) (hop : Hid (2 ≤ op ∧ op ≤ 9)) (hrr : Hid (eqb (band (rk op v m l g v' m' l' g').1 (rk op v m l g v' m' l' g').2.1) zero = true)) (ho : Hid (normOk (rk op v m l g v' m' l' g').1 (rk op v m l g v' m' l' g').2.1 (rk op v m l g v' m' l' g').2.2.1 (rk op v m l g v' m' l' g').2.2.2 = false)) (w : World) :
  Calls Tryz.prog 75 #[N op, Vl v m l g, Vl v' m' l' g'] w fun e w' => e = .returned (.tuple #[V0, N 0]) ∧ Below w.heap.size w w' := by
 obtain ⟨z1, H1⟩ : ∃ b, Hid (valB v m l g = b) := ⟨_, rfl⟩
 obtain ⟨z2, H2⟩ : ∃ b, Hid (valB v' m' l' g' = b) := ⟨_, rfl⟩
 have hb := two_checked hr.out
 have hb' := hb
 rw [Bool.and_eq_true] at hb'
 have HR : Hid (∀ w, Calls Tryz.prog 112 #[N op, Vl v m l g, Vl v' m' l' g'] w fun e w' => e = .returned (.tuple #[Vl (rk op v m l g v' m' l' g').1 (rk op v m l g v' m' l' g').2.1 (rk op v m l g v' m' l' g').2.2.1 (rk op v m l g v' m' l' g').2.2.2, N 0]) ∧ Below w.heap.size w w') := fun w => by
  by_cases h : op = 8 ∨ op = 9
  ·exact reckon_shift h v' m' l' g' hb'.1 w
  ·exact reckon_two (hid (by have := hop.out; omega)) hb w
 clear hb hb' hop
 generalize rk op v m l g v' m' l' g' = S at HR hrr ho ⊢
 obtain ⟨sa, sb, sc, sd⟩ := S
 dsimp only at HR hrr ho ⊢
 have HN : Hid (∀ w, Calls Tryz.prog 113 #[Vl sa sb sc sd] w fun e w' => e = .returned (.tuple #[V0, .bool false, N 0]) ∧ Below w.heap.size w w') := fun w => norm_none hrr ho w
 rw [H1.out, H2.out] at hr
 go_enter Tryz.func75, Tryz.ntmps75
 go_wp2_with fail
 refine (vcheck2 H1 H2 (by simp) (by simp [go_sem]) (by simp [go_sem]) (by simp [go_sem]) (by simp [go_sem]) (by simp [go_sem]) (by simp [go_sem]) (by simp [go_sem]) (by simp [go_sem])).mono ?_
 rw [hr.out, er_t]
 rintro e w1 ⟨rfl, hb1⟩
 have hK := (((((Kp.start w).add4 _ _ _ _ _).add4 _ _ _ _ _).add4 _ _ _ _ _).keep ((Below.refl _ _).alloc (Nat.le_refl _) _)).keep hb1
 simp only [World.size_alloc] at hK
 obtain ⟨r0, r1, r2, r3, r4, r5, r6, r7, r8⟩ := hK.box.head.four
 obtain ⟨b0, b1, b2, b3, b4, b5, b6, b7, b8⟩ := hK.box.tail.head.four
 obtain ⟨a0, a1, a2, a3, a4, a5, a6, a7, a8⟩ := hK.box.tail.tail.head.four
 go_wp2_with fail
 refine (HR.out _).mono ?_
 rintro e w2 ⟨rfl, hb2⟩
 have hK2 := hK.keep hb2
 clear r0 r1 r2 r3 r4 r5 r6 r7 r8 b0 b1 b2 b3 b4 b5 b6 b7 b8 a0 a1 a2 a3 a4 a5 a6 a7 a8
 obtain ⟨r0, r1, r2, r3, r4, r5, r6, r7, r8⟩ := hK2.box.head.four
 obtain ⟨b0, b1, b2, b3, b4, b5, b6, b7, b8⟩ := hK2.box.tail.head.four
 obtain ⟨a0, a1, a2, a3, a4, a5, a6, a7, a8⟩ := hK2.box.tail.tail.head.four
 go_wp2_with fail
 refine (HN.out _).mono ?_
 rintro e w3 ⟨rfl, hb3⟩
 have hK3 := (hK2.add4 _ _ _ _ _).keep hb3
 clear r0 r1 r2 r3 r4 r5 r6 r7 r8 b0 b1 b2 b3 b4 b5 b6 b7 b8 a0 a1 a2 a3 a4 a5 a6 a7 a8
 obtain ⟨k0, k1, k2, k3, k4, k5, k6, k7, k8⟩ := hK3.box.head.four
 obtain ⟨r0, r1, r2, r3, r4, r5, r6, r7, r8⟩ := hK3.box.tail.head.four
 obtain ⟨b0, b1, b2, b3, b4, b5, b6, b7, b8⟩ := hK3.box.tail.tail.head.four
 obtain ⟨a0, a1, a2, a3, a4, a5, a6, a7, a8⟩ := hK3.box.tail.tail.tail.head.four
 go_wp2_with fail
 exact bodyPost_ret (v := .tuple #[V0, N 0]) (by simp [results, Tryz.results75, go_sem, nv_zero, r0, r1, r2, r3, r8]) rfl ⟨rfl, ((hK3.set4 1 rfl).add4 _ _ _ _ _).bel⟩
set_option maxRecDepth 100000 in
set_option maxHeartbeats 1000000 in
theorem calcTwo_yes {op : Int}  {v m l g v' m' l' g' : BitVec 64} (hr : Hid ((valB v m l g && valB v' m' l' g') = true)) (hop : Hid (2 ≤ op ∧ op ≤ 9)) (hrr : Hid (eqb (band (rk op v m l g v' m' l' g').1 (rk op v m l g v' m' l' g').2.1) zero = true)) (ho : Hid (normOk (rk op v m l g v' m' l' g').1 (rk op v m l g v' m' l' g').2.1 (rk op v m l g v' m' l' g').2.2.1 (rk op v m l g v' m' l' g').2.2.2 = true)) (w : World) :
  Calls Tryz.prog 75 #[N op, Vl v m l g, Vl v' m' l' g'] w fun e w' => e = .returned (.tuple #[Vl (nV (rk op v m l g v' m' l' g').1 (rk op v m l g v' m' l' g').2.1 (rk op v m l g v' m' l' g').2.2.1 (rk op v m l g v' m' l' g').2.2.2) (nM (rk op v m l g v' m' l' g').2.1 (nLo (rk op v m l g v' m' l' g').1 (rk op v m l g v' m' l' g').2.1 (rk op v m l g v' m' l' g').2.2.1) (nHi (rk op v m l g v' m' l' g').1 (rk op v m l g v' m' l' g').2.1 (rk op v m l g v' m' l' g').2.2.2)) (nLo (rk op v m l g v' m' l' g').1 (rk op v m l g v' m' l' g').2.1 (rk op v m l g v' m' l' g').2.2.1) (nHi (rk op v m l g v' m' l' g').1 (rk op v m l g v' m' l' g').2.1 (rk op v m l g v' m' l' g').2.2.2), N 0]) ∧ Below w.heap.size w w' := by
 obtain ⟨z1, H1⟩ : ∃ b, Hid (valB v m l g = b) := ⟨_, rfl⟩
 obtain ⟨z2, H2⟩ : ∃ b, Hid (valB v' m' l' g' = b) := ⟨_, rfl⟩
 have hb := two_checked hr.out
 have hb' := hb
 rw [Bool.and_eq_true] at hb'
 have HR : Hid (∀ w, Calls Tryz.prog 112 #[N op, Vl v m l g, Vl v' m' l' g'] w fun e w' => e = .returned (.tuple #[Vl (rk op v m l g v' m' l' g').1 (rk op v m l g v' m' l' g').2.1 (rk op v m l g v' m' l' g').2.2.1 (rk op v m l g v' m' l' g').2.2.2, N 0]) ∧ Below w.heap.size w w') := fun w => by
  by_cases h : op = 8 ∨ op = 9
  ·exact reckon_shift h v' m' l' g' hb'.1 w
  ·exact reckon_two (hid (by have := hop.out; omega)) hb w
 clear hb hb' hop
 generalize rk op v m l g v' m' l' g' = S at HR hrr ho ⊢
 obtain ⟨sa, sb, sc, sd⟩ := S
 dsimp only at HR hrr ho ⊢
 have HN : Hid (∀ w, Calls Tryz.prog 113 #[Vl sa sb sc sd] w fun e w' => e = .returned (.tuple #[Vl (nV sa sb sc sd) (nM sb (nLo sa sb sc) (nHi sa sb sd)) (nLo sa sb sc) (nHi sa sb sd), .bool true, N 0]) ∧ Below w.heap.size w w') := fun w => norm_yes hrr ho w
 generalize nV sa sb sc sd = na at HN ⊢
 generalize nM sb (nLo sa sb sc) (nHi sa sb sd) = nb at HN ⊢
 generalize nLo sa sb sc = nc at HN ⊢
 generalize nHi sa sb sd = nd at HN ⊢
 rw [H1.out, H2.out] at hr
 go_enter Tryz.func75, Tryz.ntmps75
 go_wp2_with fail
 refine (vcheck2 H1 H2 (by simp) (by simp [go_sem]) (by simp [go_sem]) (by simp [go_sem]) (by simp [go_sem]) (by simp [go_sem]) (by simp [go_sem]) (by simp [go_sem]) (by simp [go_sem])).mono ?_
 rw [hr.out, er_t]
 rintro e w1 ⟨rfl, hb1⟩
 have hK := (((((Kp.start w).add4 _ _ _ _ _).add4 _ _ _ _ _).add4 _ _ _ _ _).keep ((Below.refl _ _).alloc (Nat.le_refl _) _)).keep hb1
 simp only [World.size_alloc] at hK
 obtain ⟨r0, r1, r2, r3, r4, r5, r6, r7, r8⟩ := hK.box.head.four
 obtain ⟨b0, b1, b2, b3, b4, b5, b6, b7, b8⟩ := hK.box.tail.head.four
 obtain ⟨a0, a1, a2, a3, a4, a5, a6, a7, a8⟩ := hK.box.tail.tail.head.four
 go_wp2_with fail
 refine (HR.out _).mono ?_
 rintro e w2 ⟨rfl, hb2⟩
 have hK2 := hK.keep hb2
 clear r0 r1 r2 r3 r4 r5 r6 r7 r8 b0 b1 b2 b3 b4 b5 b6 b7 b8 a0 a1 a2 a3 a4 a5 a6 a7 a8
 obtain ⟨r0, r1, r2, r3, r4, r5, r6, r7, r8⟩ := hK2.box.head.four
 obtain ⟨b0, b1, b2, b3, b4, b5, b6, b7, b8⟩ := hK2.box.tail.head.four
 obtain ⟨a0, a1, a2, a3, a4, a5, a6, a7, a8⟩ := hK2.box.tail.tail.head.four
 go_wp2_with fail
 refine (HN.out _).mono ?_
 rintro e w3 ⟨rfl, hb3⟩
 have hK3 := (hK2.add4 _ _ _ _ _).keep hb3
 clear r0 r1 r2 r3 r4 r5 r6 r7 r8 b0 b1 b2 b3 b4 b5 b6 b7 b8 a0 a1 a2 a3 a4 a5 a6 a7 a8
 obtain ⟨k0, k1, k2, k3, k4, k5, k6, k7, k8⟩ := hK3.box.head.four
 obtain ⟨r0, r1, r2, r3, r4, r5, r6, r7, r8⟩ := hK3.box.tail.head.four
 obtain ⟨b0, b1, b2, b3, b4, b5, b6, b7, b8⟩ := hK3.box.tail.tail.head.four
 obtain ⟨a0, a1, a2, a3, a4, a5, a6, a7, a8⟩ := hK3.box.tail.tail.tail.head.four
 go_wp2_with fail
 exact bodyPost_ret (v := .tuple #[Vl na nb nc nd, N 0]) (by simp [results, Tryz.results75, go_sem, r0, r1, r2, r3, r8]) rfl ⟨rfl, ((hK3.set4 1 rfl).add4 _ _ _ _ _).bel⟩
end
section
attribute [local go_sem] w_and w_or w_xor w_andNot w_and1 w_and63 w_add w_sub w_mul w_sub1 w_add1 w_shl w_shl1 w_shr c_beq c_bne c_beq0 c_bne0 c_beq1 c_bne1 wrap_nv
set_option maxRecDepth 100000 in
set_option maxHeartbeats 1000000 in
theorem between_any (v m l g lo hi : BitVec 64) (w : World) :
  Calls Tryz.prog 109 #[Vl v m l g, U lo, U hi] w fun e w' => e = .returned (Vl v m (bmax l lo) (bmin g hi)) ∧ Below w.heap.size w w' := by
 by_cases h1 : nv l < nv lo <;> by_cases h2 : nv hi < nv g
 ·have e1 : Hid (bmax l lo = lo) := if_pos h1
  have e2 : Hid (bmin g hi = hi) := if_pos h2
  rw [e1.out, e2.out]
  go_enter Tryz.func109, Tryz.ntmps109
  go_wp2_with fail
  exact bodyPost_ret (v := Vl v m lo hi) (by simp [results, Tryz.results109, go_sem]) rfl ⟨rfl, (by repeat (first | exact Below.refl _ _ | assumption | refine below_drewN ?_ _ | refine Below.drew ?_ | refine Below.alloc ?_ (by first | exact Nat.le_refl _ | (simp; done) | (simp; omega) | omega) _ | refine Below.setCell ?_ (by first | exact Nat.le_refl _ | (simp; done) | (simp; omega) | omega) _ | refine Below.trans ?_ (Below.mono (by assumption) (by first | exact Nat.le_refl _ | (simp; done) | (simp; omega) | omega))))⟩
 ·have e1 : Hid (bmax l lo = lo) := if_pos h1
  have e2 : Hid (bmin g hi = g) := if_neg h2
  have h2' : nv g ≤ nv hi := by omega
  clear h2
  rw [e1.out, e2.out]
  go_enter Tryz.func109, Tryz.ntmps109
  go_wp2_with fail
  exact bodyPost_ret (v := Vl v m lo g) (by simp [results, Tryz.results109, go_sem]) rfl ⟨rfl, (by repeat (first | exact Below.refl _ _ | assumption | refine below_drewN ?_ _ | refine Below.drew ?_ | refine Below.alloc ?_ (by first | exact Nat.le_refl _ | (simp; done) | (simp; omega) | omega) _ | refine Below.setCell ?_ (by first | exact Nat.le_refl _ | (simp; done) | (simp; omega) | omega) _ | refine Below.trans ?_ (Below.mono (by assumption) (by first | exact Nat.le_refl _ | (simp; done) | (simp; omega) | omega))))⟩
 ·have e1 : Hid (bmax l lo = l) := if_neg h1
  have e2 : Hid (bmin g hi = hi) := if_pos h2
  have h1' : nv lo ≤ nv l := by omega
  clear h1
  rw [e1.out, e2.out]
  go_enter Tryz.func109, Tryz.ntmps109
  go_wp2_with fail
  exact bodyPost_ret (v := Vl v m l hi) (by simp [results, Tryz.results109, go_sem]) rfl ⟨rfl, (by repeat (first | exact Below.refl _ _ | assumption | refine below_drewN ?_ _ | refine Below.drew ?_ | refine Below.alloc ?_ (by first | exact Nat.le_refl _ | (simp; done) | (simp; omega) | omega) _ | refine Below.setCell ?_ (by first | exact Nat.le_refl _ | (simp; done) | (simp; omega) | omega) _ | refine Below.trans ?_ (Below.mono (by assumption) (by first | exact Nat.le_refl _ | (simp; done) | (simp; omega) | omega))))⟩
 ·have e1 : Hid (bmax l lo = l) := if_neg h1
  have e2 : Hid (bmin g hi = g) := if_neg h2
  have h1' : nv lo ≤ nv l := by omega
  have h2' : nv g ≤ nv hi := by omega
  clear h1 h2
  rw [e1.out, e2.out]
  go_enter Tryz.func109, Tryz.ntmps109
  go_wp2_with fail
  exact bodyPost_ret (v := Vl v m l g) (by simp [results, Tryz.results109, go_sem]) rfl ⟨rfl, (by repeat (first | exact Below.refl _ _ | assumption | refine below_drewN ?_ _ | refine Below.drew ?_ | refine Below.alloc ?_ (by first | exact Nat.le_refl _ | (simp; done) | (simp; omega) | omega) _ | refine Below.setCell ?_ (by first | exact Nat.le_refl _ | (simp; done) | (simp; omega) | omega) _ | refine Below.trans ?_ (Below.mono (by assumption) (by first | exact Nat.le_refl _ | (simp; done) | (simp; omega) | omega))))⟩
def woL (l l' h' : BitVec 64) : BitVec 64 := if eqb l' h' && eqb l l' then badd l one else l
def woH (l h l' h' : BitVec 64) : BitVec 64 := if eqb l' h' && (!eqb l l' && eqb h l') then bsub h one else h
set_option maxRecDepth 100000 in
set_option maxHeartbeats 1000000 in
theorem without_is (v m l g v' m' l' g' : BitVec 64) (w : World) :
  Calls Tryz.prog 105 #[Vl v m l g, Vl v' m' l' g'] w fun e w' => e = .returned (Vl v m (woL l l' g') (woH l g l' g')) ∧ Below w.heap.size w w' := by
 have H1 : Hid (woL l l' g' = if eqb l' g' && eqb l l' then badd l one else l) := rfl
 have H2 : Hid (woH l g l' g' = if eqb l' g' && (!eqb l l' && eqb g l') then bsub g one else g) := rfl
 obtain ⟨z1, ha⟩ : ∃ b, Hid (eqb l' g' = b) := ⟨_, rfl⟩
 obtain ⟨z2, hb⟩ : ∃ b, eqb l l' = b := ⟨_, rfl⟩
 obtain ⟨z3, hc⟩ : ∃ b, eqb g l' = b := ⟨_, rfl⟩
 rw [ha.out, hb] at H1
 rw [ha.out, hb, hc] at H2
 cases z1
 ·rw [H1.out, H2.out]
  go_enter Tryz.func105, Tryz.ntmps105
  go_wp2_with fail
  refine (alone_is ha.out _).mono ?_
  rintro e w1 ⟨rfl, hb1⟩
  have hK := ((((Kp.start w).add4 _ _ _ _ _).add4 _ _ _ _ _).add4 _ _ _ _ _).keep hb1
  simp only [World.size_alloc] at hK
  obtain ⟨r0, r1, r2, r3, r4, r5, r6, r7, r8⟩ := hK.box.head.four
  obtain ⟨b0, b1, b2, b3, b4, b5, b6, b7, b8⟩ := hK.box.tail.head.four
  obtain ⟨a0, a1, a2, a3, a4, a5, a6, a7, a8⟩ := hK.box.tail.tail.head.four
  go_wp2_with fail
  exact bodyPost_ret (v := Vl v m l g) (by simp [results, Tryz.results105, go_sem, r0, r1, r2, r3]) rfl ⟨rfl, (hK.set4 0 rfl).bel⟩
 ·cases z2
  ·cases z3
   ·rw [H1.out, H2.out]
    go_enter Tryz.func105, Tryz.ntmps105
    go_wp2_with fail
    refine (alone_is ha.out _).mono ?_
    rintro e w1 ⟨rfl, hb1⟩
    have hK := ((((Kp.start w).add4 _ _ _ _ _).add4 _ _ _ _ _).add4 _ _ _ _ _).keep hb1
    simp only [World.size_alloc] at hK
    obtain ⟨r0, r1, r2, r3, r4, r5, r6, r7, r8⟩ := hK.box.head.four
    obtain ⟨b0, b1, b2, b3, b4, b5, b6, b7, b8⟩ := hK.box.tail.head.four
    obtain ⟨a0, a1, a2, a3, a4, a5, a6, a7, a8⟩ := hK.box.tail.tail.head.four
    go_wp2_with fail
    exact bodyPost_ret (v := Vl v m l g) (by simp [results, Tryz.results105, go_sem, r0, r1, r2, r3]) rfl ⟨rfl, (hK.set4 0 rfl).bel⟩
   ·rw [H1.out, H2.out]
    go_enter Tryz.func105, Tryz.ntmps105
    go_wp2_with fail
    refine (alone_is ha.out _).mono ?_
    rintro e w1 ⟨rfl, hb1⟩
    have hK := ((((Kp.start w).add4 _ _ _ _ _).add4 _ _ _ _ _).add4 _ _ _ _ _).keep hb1
    simp only [World.size_alloc] at hK
    obtain ⟨r0, r1, r2, r3, r4, r5, r6, r7, r8⟩ := hK.box.head.four
    obtain ⟨b0, b1, b2, b3, b4, b5, b6, b7, b8⟩ := hK.box.tail.head.four
    obtain ⟨a0, a1, a2, a3, a4, a5, a6, a7, a8⟩ := hK.box.tail.tail.head.four
    go_wp2_with fail
    refine bodyPost_ret (v := Vl v m l (bsub g one)) (by simp [results, Tryz.results105, go_sem, r0, r1, r2, r3]) rfl ⟨rfl, ?_⟩
    exact ((((hK.bel.setCell (by dsimp only; omega) _).setCell (by dsimp only; omega) _).setCell (by dsimp only; omega) _).setCell (by dsimp only; omega) _).setCell (by dsimp only; omega) _
  ·rw [H1.out, H2.out]
   go_enter Tryz.func105, Tryz.ntmps105
   go_wp2_with fail
   refine (alone_is ha.out _).mono ?_
   rintro e w1 ⟨rfl, hb1⟩
   have hK := ((((Kp.start w).add4 _ _ _ _ _).add4 _ _ _ _ _).add4 _ _ _ _ _).keep hb1
   simp only [World.size_alloc] at hK
   obtain ⟨r0, r1, r2, r3, r4, r5, r6, r7, r8⟩ := hK.box.head.four
   obtain ⟨b0, b1, b2, b3, b4, b5, b6, b7, b8⟩ := hK.box.tail.head.four
   obtain ⟨a0, a1, a2, a3, a4, a5, a6, a7, a8⟩ := hK.box.tail.tail.head.four
   go_wp2_with fail
   refine bodyPost_ret (v := Vl v m (badd l one) g) (by simp [results, Tryz.results105, go_sem, r0, r1, r2, r3]) rfl ⟨rfl, ?_⟩
   exact ((((hK.bel.setCell (by dsimp only; omega) _).setCell (by dsimp only; omega) _).setCell (by dsimp only; omega) _).setCell (by dsimp only; omega) _).setCell (by dsimp only; omega) _
end
end Go.Proofs.YtkigmocchaikgabGreat
/- What the one has and the other has, reckoned together, is within what reckon answers; what is left of both has them: plain facts. -/
namespace Go.Proofs.YtkigmocchaikgabGreat
theorem has_facts {v m l h x : BitVec 64} (hx : hasV v m l h x = true) : valB v m l h = true ∧ RtB v m ∧ hasB v m x = true ∧ nv l ≤ nv x ∧ nv x ≤ nv h := by
 unfold hasV at hx
 simp only [Bool.and_eq_true, decide_eq_true_eq] at hx
 exact ⟨hx.1, (val_facts hx.1).1, hx.2.1, hx.2.2.1, hx.2.2.2⟩
theorem raw_mk {v m l h x : BitVec 64} (h1 : hasB v m x = true) (h2 : nv l ≤ nv x) (h3 : nv x ≤ nv h) : rawV v m l h x = true := by
 unfold rawV; rw [h1]; simp only [Bool.true_and, Bool.and_eq_true, decide_eq_true_eq]; exact ⟨h2, h3⟩
theorem top_has (x : BitVec 64) : RtB zero top ∧ hasB zero top x = true := by
 have hr : RtB zero top := zero_rt top
 refine ⟨hr, (hasB_iff _ _ _).2 ⟨hr, fun j hj => ?_⟩⟩
 rw [bit_top _ hj, bit_zero]; cases bit x j <;> rfl
theorem rk_sound {op : Int} (hop : 2 ≤ op ∧ op ≤ 9) {v m l h v' m' l' h' x y : BitVec 64} (hx : hasV v m l h x = true) (hy : hasV v' m' l' h' y = true) :
  RtB (rk op v m l h v' m' l' h').1 (rk op v m l h v' m' l' h').2.1 ∧ rawV (rk op v m l h v' m' l' h').1 (rk op v m l h v' m' l' h').2.1 (rk op v m l h v' m' l' h').2.2.1 (rk op v m l h v' m' l' h').2.2.2 (numN op x y) = true := by
 obtain ⟨_, r1, b1, p1, p2⟩ := has_facts hx
 obtain ⟨_, r2, b2, q1, q2⟩ := has_facts hy
 by_cases h8 : op = 8
 ·subst h8
  have hn : numN 8 x y = bshl x (six y) := by unfold numN; rw [if_neg (by decide), if_neg (by decide), if_pos rfl]
  rw [hn]
  cases ha : eqb l' h'
  ·have e : rk 8 v m l h v' m' l' h' = (zero, top, zero, top) := by unfold rk; rw [if_pos rfl, ha]; rfl
   rw [e]
   exact ⟨(top_has zero).1, raw_mk (top_has _).2 (ends _).1 (ends _).2⟩
  ·have e : rk 8 v m l h v' m' l' h' = (bshl v (six l'), bshl m (six l'), (shlB l h (six l')).1, (shlB l h (six l')).2) := by unfold rk; rw [if_pos rfl, ha]; rfl
   have hl : y = l' := by
    have := (eqb_iff _ _).1 ha
    rw [← this] at q2
    exact nv_inj _ _ (by omega)
   rw [e, hl]
   exact ⟨shl_rt r1 _, raw_mk (sound_shl b1 _) (shl_bounds _ p1 p2).1 (shl_bounds _ p1 p2).2⟩
 ·by_cases h9 : op = 9
  ·subst h9
   have hn : numN 9 x y = bshr x (six y) := by unfold numN; rw [if_neg (by decide), if_neg (by decide), if_neg (by decide)]
   rw [hn]
   cases ha : eqb l' h'
   ·have e : rk 9 v m l h v' m' l' h' = (zero, top, zero, h) := by unfold rk; rw [if_neg (by decide), if_pos rfl, ha]; rfl
    rw [e]
    exact ⟨(top_has zero).1, raw_mk (top_has _).2 (ends _).1 (Int.le_trans (shr_le _ _) p2)⟩
   ·have e : rk 9 v m l h v' m' l' h' = (bshr v (six l'), bshr m (six l'), bshr l (six l'), bshr h (six l')) := by unfold rk; rw [if_neg (by decide), if_pos rfl, ha]; rfl
    have hl : y = l' := by
     have := (eqb_iff _ _).1 ha
     rw [← this] at q2
     exact nv_inj _ _ (by omega)
    rw [e, hl]
    have hs := sound_shr b1 (six l')
    exact ⟨((hasB_iff _ _ _).1 hs).1, raw_mk hs (shr_bounds _ p1 p2).1 (shr_bounds _ p1 p2).2⟩
  ·have h27 : 2 ≤ op ∧ op ≤ 7 := by omega
   have hn : numN op x y = numB op x y := by unfold numN; rw [if_neg (by omega), if_pos h27]
   have e : rk op v m l h v' m' l' h' = ((twoP op v m v' m').1, (twoP op v m v' m').2, (boundsP op l h l' h').1, (boundsP op l h l' h').2) := by
    unfold rk; rw [if_neg h8, if_neg h9]
   rw [hn, e]
   exact ⟨two_rt h27, raw_mk (sound_two h27 b1 b2) (bounds_sound h27 p1 p2 q1 q2).1 (bounds_sound h27 p1 p2 q1 q2).2⟩
/- Equal -/
theorem left_equal {v m l h v' m' l' h' x : BitVec 64} (hx : hasV v m l h x = true) (hy : hasV v' m' l' h' x = true) :
  eqb (bandn (bxor v v') (bor m m')) zero = true ∧ RtB (bor v v') (band m m') ∧ rawV (bor v v') (band m m') (bmax l l') (bmin h h') x = true := by
 obtain ⟨_, r1, b1, p1, p2⟩ := has_facts hx
 obtain ⟨_, r2, b2, q1, q2⟩ := has_facts hy
 have hs := sound_meet (x := x) r1 r2
 rw [b1, b2] at hs
 have hs' := hs.symm
 rw [Bool.and_self, Bool.and_eq_true] at hs'
 exact ⟨hs'.1, ((hasB_iff _ _ _).1 hs'.2).1, raw_mk hs'.2 (bmax_le p1 q1) (le_bmin p2 q2)⟩
/- Other -/
theorem alone_eq {l h y : BitVec 64} (ha : eqb l h = true) (h1 : nv l ≤ nv y) (h2 : nv y ≤ nv h) : y = l := by
 have := (eqb_iff _ _).1 ha
 rw [← this] at h2
 exact nv_inj _ _ (by omega)
theorem left_other {v m l h v' m' l' h' x y : BitVec 64} (hx : hasV v m l h x = true) (hy : hasV v' m' l' h' y = true) (hne : x ≠ y) : rawV v m (woL l l' h') (woH l h l' h') x = true := by
 obtain ⟨_, r1, b1, p1, p2⟩ := has_facts hx
 obtain ⟨_, r2, b2, q1, q2⟩ := has_facts hy
 have hnv : nv x ≠ nv y := fun e => hne (nv_inj _ _ e)
 have hlt := nv_lt x
 have hge := nv_nonneg x
 have hgl := nv_nonneg l
 have hlh := nv_lt h
 refine raw_mk b1 ?_ ?_
 ·unfold woL
  split
  ·rename_i hc
   rw [Bool.and_eq_true] at hc
   have e1 := alone_eq hc.1 q1 q2
   have e2 := (eqb_iff _ _).1 hc.2
   rw [e1, ← e2] at hnv
   rw [nv_add, nv_one]
   omega
  ·exact p1
 ·unfold woH
  split
  ·rename_i hc
   rw [Bool.and_eq_true, Bool.and_eq_true] at hc
   have e1 := alone_eq hc.1 q1 q2
   have e2 := (eqb_iff _ _).1 hc.2.2
   rw [e1, ← e2] at hnv
   rw [nv_sub, nv_one]
   omega
  ·exact p2
theorem may_other {v m l h v' m' l' h' x y : BitVec 64} (hx : hasV v m l h x = true) (hy : hasV v' m' l' h' y = true) (hne : x ≠ y) : (eqb l h && (eqb l' h' && eqb l l')) = false := by
 obtain ⟨_, r1, b1, p1, p2⟩ := has_facts hx
 obtain ⟨_, r2, b2, q1, q2⟩ := has_facts hy
 cases hc : (eqb l h && (eqb l' h' && eqb l l'))
 ·rfl
 ·exfalso
  rw [Bool.and_eq_true, Bool.and_eq_true] at hc
  have e1 := alone_eq hc.1 p1 p2
  have e2 := alone_eq hc.2.1 q1 q2
  have e3 := (eqb_iff _ _).1 hc.2.2
  exact hne (by rw [e1, e2, e3])
/- Less -/
theorem left_less {v m l h v' m' l' h' x y : BitVec 64} (hx : hasV v m l h x = true) (hy : hasV v' m' l' h' y = true) (hlt : nv x < nv y) :
  eqb h' zero = false ∧ eqb l top = false ∧ rawV v m (bmax l l) (bmin h (bsub h' one)) x = true ∧ rawV v' m' (bmax l' (badd l one)) (bmin h' h') y = true := by
 obtain ⟨_, r1, b1, p1, p2⟩ := has_facts hx
 obtain ⟨_, r2, b2, q1, q2⟩ := has_facts hy
 have hx0 := nv_nonneg x
 have hy1 := nv_lt y
 have hl0 := nv_nonneg l
 have hh := nv_lt h'
 refine ⟨?_, ?_, raw_mk b1 (bmax_le p1 p1) (le_bmin p2 ?_), raw_mk b2 (bmax_le q1 ?_) (le_bmin q2 q2)⟩
 ·rw [eqb_false]
  intro e
  rw [e, nv_zero] at q2
  omega
 ·rw [eqb_false]
  intro e
  rw [e, nv_top] at p1
  omega
 ·rw [nv_sub, nv_one]; omega
 ·rw [nv_add, nv_one]; omega
/- NotLess -/
theorem left_notLess {v m l h v' m' l' h' x y : BitVec 64} (hx : hasV v m l h x = true) (hy : hasV v' m' l' h' y = true) (hle : nv y ≤ nv x) :
  rawV v m (bmax l l') (bmin h h) x = true ∧ rawV v' m' (bmax l' l') (bmin h' h) y = true := by
 obtain ⟨_, r1, b1, p1, p2⟩ := has_facts hx
 obtain ⟨_, r2, b2, q1, q2⟩ := has_facts hy
 exact ⟨raw_mk b1 (bmax_le p1 (by omega)) (le_bmin p2 p2), raw_mk b2 (bmax_le q1 q1) (le_bmin q2 (by omega))⟩
structure V4 where
 v : BitVec 64
 m : BitVec 64
 l : BitVec 64
 h : BitVec 64
theorem V4.ext' {a b : V4} (h1 : a.v = b.v) (h2 : a.m = b.m) (h3 : a.l = b.l) (h4 : a.h = b.h) : a = b := by cases a; cases b; simp_all
def V4.cs (a : V4) : List AC := [.u a.v, .u a.m, .u a.l, .u a.h]
def V4.z : V4 := ⟨zero, zero, zero, zero⟩
def V4.rt (a : V4) : Bool := eqb (band a.v a.m) zero
def V4.ok (a : V4) : Bool := valB a.v a.m a.l a.h
def V4.nok (a : V4) : Bool := normOk a.v a.m a.l a.h
def V4.nrm (a : V4) : V4 := ⟨nV a.v a.m a.l a.h, nM a.m (nLo a.v a.m a.l) (nHi a.v a.m a.h), nLo a.v a.m a.l, nHi a.v a.m a.h⟩
def V4.norm (a : V4) : V4 := if a.nok then a.nrm else V4.z
def V4.has (a : V4) (x : BitVec 64) : Bool := hasV a.v a.m a.l a.h x
def V4.of (x : BitVec 64) : V4 := ⟨x, zero, x, x⟩
def V4.any : V4 := ⟨zero, top, zero, top⟩
def V4.alone (a : V4) : Bool := eqb a.l a.h
def V4.rawJoin (a b : V4) : V4 := ⟨jV a.v a.m b.v b.m, jM a.v a.m b.v b.m, bmin a.l b.l, bmax a.h b.h⟩
def V4.join (a b : V4) : V4 := (a.rawJoin b).nrm
def V4.raw2 (op : Int) (a b : V4) : V4 :=
 ⟨(rk op a.v a.m a.l a.h b.v b.m b.l b.h).1, (rk op a.v a.m a.l a.h b.v b.m b.l b.h).2.1, (rk op a.v a.m a.l a.h b.v b.m b.l b.h).2.2.1, (rk op a.v a.m a.l a.h b.v b.m b.l b.h).2.2.2⟩
def V4.two (op : Int) (a b : V4) : V4 := (V4.raw2 op a b).norm
def lvV (p : Bool) (a : V4) : V4 := if p then a else V4.z
def left2 (may : Bool) (x y : V4) : V4 × V4 × Bool := (lvV (may && (x.nok && y.nok)) x.nrm, lvV (may && (x.nok && y.nok)) y.nrm, may && (x.nok && y.nok))
def V4.meets (a b : V4) : Bool := eqb (bandn (bxor a.v b.v) (bor a.m b.m)) zero
def V4.rawEqual (a b : V4) : V4 := ⟨bor a.v b.v, band a.m b.m, bmax a.l b.l, bmin a.h b.h⟩
def V4.equal (a b : V4) : V4 × V4 × Bool := if a.meets b then left2 true (a.rawEqual b) (a.rawEqual b) else (V4.z, V4.z, false)
def V4.without (a b : V4) : V4 := ⟨a.v, a.m, woL a.l b.l b.h, woH a.l a.h b.l b.h⟩
def V4.other (a b : V4) : V4 × V4 × Bool := left2 (!(a.alone && (b.alone && eqb a.l b.l))) (a.without b) (b.without a)
def V4.less (a b : V4) : V4 × V4 × Bool :=
 if eqb b.h zero || eqb a.l top then (V4.z, V4.z, false)
 else left2 true ⟨a.v, a.m, a.l, bmin a.h (bsub b.h one)⟩ ⟨b.v, b.m, bmax b.l (badd a.l one), b.h⟩
def V4.notLess (a b : V4) : V4 × V4 × Bool := left2 true ⟨a.v, a.m, bmax a.l b.l, a.h⟩ ⟨b.v, b.m, b.l, bmin b.h a.h⟩
def byteTop (n : Int) : BitVec 64 := if n = 8 then top else if n = 4 then 4294967295#64 else if n = 2 then 65535#64 else 255#64
def V4.bytes (n : Int) : V4 := ⟨zero, byteTop n, zero, byteTop n⟩
theorem bmax_self (x : BitVec 64) : bmax x x = x := by unfold bmax; split <;> rfl
theorem bmin_self (x : BitVec 64) : bmin x x = x := by unfold bmin; split <;> rfl
structure St where
 live : Bool
 s : V6 Bool
 r : V6 V4
def St.cs (t : St) : List AC := [.b t.live, .b t.s.x0, .b t.s.x1, .b t.s.x2, .b t.s.x3, .b t.s.x4, .b t.s.x5,
 .u t.r.x0.v, .u t.r.x0.m, .u t.r.x0.l, .u t.r.x0.h, .u t.r.x1.v, .u t.r.x1.m, .u t.r.x1.l, .u t.r.x1.h, .u t.r.x2.v, .u t.r.x2.m, .u t.r.x2.l, .u t.r.x2.h,
 .u t.r.x3.v, .u t.r.x3.m, .u t.r.x3.l, .u t.r.x3.h, .u t.r.x4.v, .u t.r.x4.m, .u t.r.x4.l, .u t.r.x4.h, .u t.r.x5.v, .u t.r.x5.m, .u t.r.x5.l, .u t.r.x5.h]
def St.z : St := ⟨false, no6, V6.rep V4.z⟩
def St.e : St := ⟨true, no6, V6.rep V4.z⟩
/- what is wrong with a register; a state that is right -/
def badR (t : St) (j : Nat) : Bool := bif t.s.get j then !(t.r.get j).ok else !eqCs (t.r.get j).cs V4.z.cs
def St.ok (t : St) : Bool := (t.live || eqCs t.cs St.z.cs) && !anyFrom (badR t) 6
def St.wth (t : St) (d : Nat) (a : V4) : St := ⟨t.live, t.s.set d true, t.r.set d a⟩
def beginS : St := St.e.wth 1 V4.any
/- a register that the machine's is not one of -/
def lackR (t : St) (m : Mach) (j : Nat) : Bool := t.s.get j && !(m.s.get j && (t.r.get j).has (m.r.get j))
def St.has (t : St) (m : Mach) : Bool := t.ok && (t.live && (decide (machErr m = 0) && (decide (m.fin = 0) && !anyFrom (lackR t m) 6)))
def joinR (t u : St) (j : Nat) (b : St) : St := if t.s.get j && u.s.get j then b.wth j ((t.r.get j).join (u.r.get j)) else b
def joinFrom (t u : St) : Nat → St → St
 | 0, b => b
 | n + 1, b => joinFrom t u n (joinR t u (5 - n) b)
def St.join (t u : St) : St := if t.live then (if u.live then joinFrom t u 6 St.e else t) else u
/- a step, on what may be -/
def exitI : Ins := ⟨15, 0, 0, 0#64, 0⟩
def fineI (i : Ins) : Bool := kindB i && (inB i 65 && bareB i)
def srcV (i : Ins) (t : St) : V4 := if i.s = -1 then V4.of i.im else t.r.get i.s.toNat
def farS (i : Ins) (a : V4) : Bool := decide (nv (bsub 64#64 i.im) < nv (V4.two 2 a (V4.of (BitVec.ofInt 64 i.of))).h)
def trapS (i : Ins) (t : St) : Int :=
 if lacks (useOf i) t.s then 1
 else if i.op = 10 then (if farS i (t.r.get i.s.toNat) then 2 else 0)
 else if i.op = 11 then (if farS i (t.r.get i.d.toNat) then 2 else 0)
 else 0
def leftS (i : Ins) (t : St) (x : V4 × V4 × Bool) : St :=
 if x.2.2 then (if i.s = -1 then t.wth i.d.toNat x.1 else (t.wth i.d.toNat x.1).wth i.s.toNat x.2.1) else St.z
def goS (i : Ins) (t : St) : St × St :=
 if i.op = 10 then (t.wth i.d.toNat (V4.bytes (nv i.im)), St.z)
 else if i.op = 11 then (t, St.z)
 else if i.op = 12 then (St.z, t)
 else if i.op = 13 then (leftS i t ((t.r.get i.d.toNat).other (srcV i t)), leftS i t ((t.r.get i.d.toNat).equal (srcV i t)))
 else if i.op = 14 then (leftS i t ((t.r.get i.d.toNat).notLess (srcV i t)), leftS i t ((t.r.get i.d.toNat).less (srcV i t)))
 else if i.op = 15 then (St.z, St.z)
 else if i.op = 1 then (t.wth i.d.toNat (srcV i t), St.z)
 else (t.wth i.d.toNat (V4.two i.op (t.r.get i.d.toNat) (srcV i t)), St.z)
def stepS (i : Ins) (t : St) : St × St × Int :=
 if t.live then (if trapS i t = 0 then ((goS i t).1, (goS i t).2, 0) else (St.z, St.z, trapS i t)) else (St.z, St.z, 0)
def stepE (i : Ins) (t : St) : Int := if fineI i && t.ok then 0 else 1
def stepA (i : Ins) (t : St) : St × St × Int := if fineI i && t.ok then stepS i t else (St.z, St.z, 0)
theorem st_len (t : St) : t.cs.length = 31 := rfl
theorem st_get_r {t : St} {r : Int} (h : regB r = true) : List.take 4 (List.drop (7 + r.toNat * 4) t.cs) = (t.r.get r.toNat).cs :=
 reg_elim (P := fun r => List.take 4 (List.drop (7 + r.toNat * 4) t.cs) = (t.r.get r.toNat).cs) h rfl rfl rfl rfl rfl rfl
theorem st_set_s {t : St} {r : Int} (h : regB r = true) : t.cs.set (1 + r.toNat * 1) (.b true) = (St.mk t.live (t.s.set r.toNat true) t.r).cs :=
 reg_elim (P := fun r => t.cs.set (1 + r.toNat * 1) (.b true) = (St.mk t.live (t.s.set r.toNat true) t.r).cs) h rfl rfl rfl rfl rfl rfl
theorem st_set_r {t : St} {r : Int} (a : V4) (h : regB r = true) : splice t.cs (7 + r.toNat * 4) a.cs = (St.mk t.live t.s (t.r.set r.toNat a)).cs :=
 reg_elim (P := fun r => splice t.cs (7 + r.toNat * 4) a.cs = (St.mk t.live t.s (t.r.set r.toNat a)).cs) h rfl rfl rfl rfl rfl rfl
structure Rep where
 trap : Int
 pos : Int
 sts : List St
def scell (l : List St) : List AC := l.flatMap St.cs
def stAt (S : List St) (k : Nat) : St := S.getD k St.z
def addS (S : List St) (k : Nat) (t : St) : List St := if t.live then S.set k ((stAt S k).join t) else S
def verL (L : List Ins) : Nat → Nat → List St → Rep
 | 0, _, S => ⟨0, 0, S⟩
 | n + 1, k, S => if (stepS (elt L k) (stAt S k)).2.2 = 0 then verL L n (k + 1) (addS (addS S (k + 1) (stepS (elt L k) (stAt S k)).1) (k + 1 + (elt L k).of.toNat) (stepS (elt L k) (stAt S k)).2.1)
  else ⟨(stepS (elt L k) (stAt S k)).2.2, k, S.take (k + 1)⟩
def firstS (n : Nat) : List St := (List.replicate n St.z).set 0 beginS
def verifyS (L : List Ins) : Rep := verL L L.length 0 (firstS L.length)
/- folding -/
def onI : Ins := ⟨12, 0, 0, 0#64, 0⟩
def branchB (i : Ins) : Bool := i.op == 13 || i.op == 14
def foldI (i : Ins) (t : St) : Ins :=
 if t.live then
  (if decide (i.op ≤ 9) && ((stepS i t).1.r.get i.d.toNat).alone then ⟨1, i.d, -1, ((stepS i t).1.r.get i.d.toNat).l, 0⟩
  else if branchB i && !(stepS i t).2.1.live then onI
  else if branchB i && !(stepS i t).1.live then ⟨12, 0, 0, 0#64, i.of⟩
  else i)
 else onI
def foldL (S : List St) : List Ins → Nat → List Ins
 | [], _ => []
 | [i], _ => [i]
 | i :: j :: l, k => foldI i (stAt S k) :: foldL S (j :: l) (k + 1)
def foldS (L : List Ins) : List Ins := if (verifyS L).trap = 0 then foldL (verifyS L).sts L 0 else L
/- ridding, from behind -/
def orS (a b : V6 Bool) : V6 Bool := ⟨a.x0 || b.x0, a.x1 || b.x1, a.x2 || b.x2, a.x3 || b.x3, a.x4 || b.x4, a.x5 || b.x5⟩
def lvAt (A : List (V6 Bool)) (k : Nat) : V6 Bool := A.getD k no6
/- what is live behind i, if A is what is live ahead of those behind it -/
def liveB (i : Ins) (A : List (V6 Bool)) : V6 Bool :=
 if i.op = 15 then no6 else if i.op = 12 then lvAt A i.of.toNat else if branchB i then orS (lvAt A 0) (lvAt A i.of.toNat) else lvAt A 0
def deadI (i : Ins) (b : V6 Bool) : Ins := if decide (i.op ≤ 10) && !b.get i.d.toNat then onI else i
def liveA (i : Ins) (b : V6 Bool) : V6 Bool := orS (useOf i) (if i.op ≤ 10 then b.set i.d.toNat false else b)
def ridR : List Ins → List Ins × List (V6 Bool)
 | [] => ([], [])
 | i :: l => (deadI i (liveB i (ridR l).2) :: (ridR l).1, liveA (deadI i (liveB i (ridR l).2)) (liveB i (ridR l).2) :: (ridR l).2)
def deadS (L : List Ins) : List Ins := if (verifyS L).trap = 0 then (ridR L).1 else L
def rcell (A : List (V6 Bool)) : List AC := A.flatMap bcs
/- the laws' program of which much is known; folded; rid of what is dead then -/
def fL : List Ins := [⟨1, 2, -1, 5#64, 0⟩, ⟨5, 1, -1, 3#64, 0⟩, ⟨14, 1, 2, 0#64, 1⟩, ⟨1, 1, -1, 9#64, 0⟩, ⟨1, 0, 2, 0#64, 0⟩, ⟨15, 0, 0, 0#64, 0⟩]
def fF : List Ins := [⟨1, 2, -1, 5#64, 0⟩, ⟨5, 1, -1, 3#64, 0⟩, ⟨12, 0, 0, 0#64, 1⟩, onI, ⟨1, 0, -1, 5#64, 0⟩, ⟨15, 0, 0, 0#64, 0⟩]
def fD : List Ins := [onI, onI, ⟨12, 0, 0, 0#64, 1⟩, onI, ⟨1, 0, -1, 5#64, 0⟩, ⟨15, 0, 0, 0#64, 0⟩]
end Go.Proofs.YtkigmocchaikgabGreat
/- Ways of bodies, written by a program (ways.py): what each asks for, and hands back. -/
namespace Go.Proofs.YtkigmocchaikgabGreat
open Go.RowKit
section
abbrev rp1RK (L M : List Ins) (c j : Nat) : Kn := ⟨[(0, .c (.sl 0 0 L.length c)), (3, .c (.sx 7 L.length)), (4, .c (.sx 10 L.length)), (5, .c (.i 0)), (6, .c (.i (j : Int)))], [(0, Ent.mk false (pcell L) 0), (7, Ent.mk true (pcell L) 5), (10, Ent.mk true (pcell M) 0)], 17⟩
abbrev rp2RK (L M : List Ins) (c j : Nat) : Kn := ⟨[(0, .c (.sl 0 0 L.length c)), (3, .c (.sx 7 L.length)), (5, .c (.i 0)), (7, .c (.sx 22 L.length)), (8, .c (.i 0)), (9, .c (.i (j : Int)))], [(0, Ent.mk false (pcell L) 0), (7, Ent.mk true (pcell L) 5), (22, Ent.mk true (pcell M) 0)], 29⟩
abbrev rp3ROK (L : List Ins) (c j r : Nat) (S : List St) : Kn := ⟨[(0, .c (.sl 0 0 L.length c)), (3, .c (.sx 7 L.length)), (5, .c (.i 0)), (8, .c (.i 0)), (10, .c (.w 38)), (11, .c (.i 0)), (12, .c (.i (j : Int)))], [(0, Ent.mk false (pcell L) 0), (7, Ent.mk true (pcell L) 5), (34, Ent.mk true (scell S) r), (38, Ent.mk true [.i 0, .i 0, .sl 34 0 L.length L.length] 0)], 42⟩
abbrev rp3RTK (L : List Ins) (c j r q : Nat) (tr t1 : Int) (S : List St) : Kn := ⟨[(0, .c (.sl 0 0 L.length c)), (3, .c (.sx 7 L.length)), (5, .c (.i 0)), (8, .c (.i 0)), (10, .c (.w 38)), (11, .c (.i 0)), (12, .c (.i (j : Int)))], [(0, Ent.mk false (pcell L) 0), (7, Ent.mk true (pcell L) 5), (34, Ent.mk true (scell S) r), (38, Ent.mk true [.i tr, .i t1, .sx 34 q] 0)], 42⟩
variable {L L2 L3 L4 L5 M : List Ins} {c p n j q r : Nat} {e tr t1 : Int} {w : World} {β : Bs} {C : Cx} {R : Ending → World → Prop} {S S2 S3 : List St}
theorem rpErr_w0 (h : (e != 0 && true) = true) (c0 : CO 13 [.c (.sl 0 0 L.length c)] [(0, Ent.mk false (pcell L) 0)] (pe (.c (.i e)))) (c1 : Ok 21 [] (.c (.b true))) :
  BO 6 Tryz.f6 (cx w β n []) [.c (.sl 0 0 L.length c)] [(0, Ent.mk false (pcell L) 0)] 1 (REff w β ⟨.c (.b true), [], none⟩) :=
 run_eff2 [] none [true] ([]) [] Tryz.func6 (ekeys0 rfl n) (by kernel_rfl) h (cr_cons c0 (cr_cons c1 cr_nil))
theorem rpNil_w0 (h : (e != 0 && true) = true) (c0 : Ok 13 [.c nilSl] (.c (.i e))) (c1 : Ok 21 [] (.c (.b true))) :
  Ok 6 [.c nilSl] (.c (.b true)) :=
 val_run2 [true] ([]) [] Tryz.func6 rfl rfl rfl rfl (by kernel_rfl) h (cr_cons c0 (cr_cons c1 cr_nil))
theorem rpTop_w0 (h : (Nat.ble (0 + L.length * 5) (pcell L).length && (decide (0 + L.length ≤ 137438953472) && decide (0 < 0 + L.length)) && true) = true) (c0 : CO 13 [.c (.sl 0 0 L.length c)] [(0, Ent.mk false (pcell L) 0)] (pe (.c (.i 0)))) (c1 : Eff.mk (.c (.sx 7 (0 + L.length))) [] (some (1 + 1 + 3 + 2, Ent.mk true (((rows 0 [.i 0, .i 0, .i 0, .u 0#64, .i 0]).drop 0).take 0 ++ ((pcell L).drop 0).take (L.length * 5)) 5)) = Eff.mk (.c (.sx 7 L.length)) [] (some (7, Ent.mk true (pcell L) 5))) (c2 : CO 17 [.c (.sl 0 0 L.length c)] [(0, Ent.mk false (pcell L) 0)] (Eff.mk (.tu [.c (.sx 10 L.length), .c (.i 0)]) [] (some (10, Ent.mk true (pcell M) 0)))) (lo : Kn.Low ⟨[(0, .c (.sl 0 0 L.length c)), (3, .c (.sx 7 L.length)), (4, .c (.sx 10 L.length)), (5, .c (.i 0)), (6, .c (.i 0))], [(0, Ent.mk false (pcell L) 0), (7, Ent.mk true (pcell L) 5), (10, Ent.mk true (pcell M) 0)], 17⟩) (hF : ∀ k, C.F k → k < 17) (z : AR 6 Tryz.f6 C 0 ⟨[(0, .c (.sl 0 0 L.length c)), (3, .c (.sx 7 L.length)), (4, .c (.sx 10 L.length)), (5, .c (.i 0)), (6, .c (.i 0))], [(0, Ent.mk false (pcell L) 0), (7, Ent.mk true (pcell L) 5), (10, Ent.mk true (pcell M) 0)], 17⟩ R) :
  BO 6 Tryz.f6 C [.c (.sl 0 0 L.length c)] [(0, Ent.mk false (pcell L) 0)] 1 R :=
 run_cut2 [false] ([true]) [(3, 2)] Tryz.func6 (by kernel_rfl) h (cr_cons c0 (cr_same c1 (cr_cons c2 cr_nil))) lo hF z
theorem rp1R_w0 (h : (decide ((j : Int) < (L.length : Int)) && (decide ((j : Int) < (L.length : Int)) && (Nat.ble ((j : Int).toNat * 5 + 5) (pcell M).length && true && true))) = true) (c0 : we 10 (splice (pcell M) ((j : Int).toNat * 5) (splice [.i 0, .i 0, .i 0, .u 0#64, .i 0] 0 [.i (-1)])) = we 10 (pcell (M.set j (Ins.mk (-1) 0 0 (0#64) 0)))) (c1 : pe (.c (.i (IntKind.i64.wrap ((j : Int) + 1)))) = pe (.c (.i (↑(j + 1) : Int)))) (lo : Kn.Low (rp1RK L (M.set j (Ins.mk ( - 1) 0 0 (0#64) 0)) c (j + 1))) (hF : ∀ k, C.F k → k < 17) (z : AR 6 Tryz.f6 C 0 (rp1RK L (M.set j (Ins.mk ( - 1) 0 0 (0#64) 0)) c (j + 1)) R) :
  AR 6 Tryz.f6 C 0 (rp1RK L M c j) R :=
 run_cut2 [true] ([true]) [(8, 4), (7, 1)] Tryz.func6 (by kernel_rfl) h (cr_same c0 (cr_same c1 cr_nil)) lo hF z
theorem rp1E_w0 (h : (!decide ((j : Int) < (L.length : Int)) && true) = true) (c0 : CO 18 [.c (.sl 0 0 L.length c)] [(0, Ent.mk false (pcell L) 0)] (Eff.mk (.tu [.c (.sx 22 L.length), .c (.i 0)]) [] (some (22, Ent.mk true (pcell L2) 0)))) (lo : Kn.Low ⟨[(0, .c (.sl 0 0 L.length c)), (3, .c (.sx 7 L.length)), (5, .c (.i 0)), (7, .c (.sx 22 L.length)), (8, .c (.i 0)), (9, .c (.i 0))], [(0, Ent.mk false (pcell L) 0), (7, Ent.mk true (pcell L) 5), (22, Ent.mk true (pcell L2) 0)], 29⟩) (hF : ∀ k, C.F k → k < 29) (z : AR 6 Tryz.f6 C 1 ⟨[(0, .c (.sl 0 0 L.length c)), (3, .c (.sx 7 L.length)), (5, .c (.i 0)), (7, .c (.sx 22 L.length)), (8, .c (.i 0)), (9, .c (.i 0))], [(0, Ent.mk false (pcell L) 0), (7, Ent.mk true (pcell L) 5), (22, Ent.mk true (pcell L2) 0)], 29⟩ R) :
  AR 6 Tryz.f6 C 0 (rp1RK L M c j) R :=
 run_cut2 [false] ([true]) [] Tryz.func6 (by kernel_rfl) h (cr_cons c0 cr_nil) lo hF z
theorem rp2R_w0 (h : (decide ((j : Int) < (L.length : Int)) && (decide ((j : Int) < (L.length : Int)) && (Nat.ble ((j : Int).toNat * 5 + 5) (pcell M).length && true && true))) = true) (c0 : we 22 (splice (pcell M) ((j : Int).toNat * 5) (splice [.i 0, .i 0, .i 0, .u 0#64, .i 0] 0 [.i (-1)])) = we 22 (pcell (M.set j (Ins.mk (-1) 0 0 (0#64) 0)))) (c1 : pe (.c (.i (IntKind.i64.wrap ((j : Int) + 1)))) = pe (.c (.i (↑(j + 1) : Int)))) (lo : Kn.Low (rp2RK L (M.set j (Ins.mk ( - 1) 0 0 (0#64) 0)) c (j + 1))) (hF : ∀ k, C.F k → k < 29) (z : AR 6 Tryz.f6 C 1 (rp2RK L (M.set j (Ins.mk ( - 1) 0 0 (0#64) 0)) c (j + 1)) R) :
  AR 6 Tryz.f6 C 1 (rp2RK L M c j) R :=
 run_cut2 [true] ([true]) [(13, 4), (12, 1)] Tryz.func6 (by kernel_rfl) h (cr_same c0 (cr_same c1 cr_nil)) lo hF z
theorem rp2EO_w0 (h : (!decide ((j : Int) < (L.length : Int)) && true) = true) (c0 : CO 12 [.c (.sl 0 0 L.length c)] [(0, Ent.mk false (pcell L) 0)] (Eff.mk (.tu [.ag [.i 0, .i 0, .sl 34 0 L.length L.length], .c (.i 0)]) [] (some (34, Ent.mk true (scell S) 0)))) (lo : Kn.Low ⟨[(0, .c (.sl 0 0 L.length c)), (3, .c (.sx 7 L.length)), (5, .c (.i 0)), (8, .c (.i 0)), (10, .c (.w 38)), (11, .c (.i 0)), (12, .c (.i 0))], [(0, Ent.mk false (pcell L) 0), (7, Ent.mk true (pcell L) 5), (34, Ent.mk true (scell S) 0), (38, Ent.mk true [.i 0, .i 0, .sl 34 0 L.length L.length] 0)], 42⟩) (hF : ∀ k, C.F k → k < 42) (z : AR 6 Tryz.f6 C 2 ⟨[(0, .c (.sl 0 0 L.length c)), (3, .c (.sx 7 L.length)), (5, .c (.i 0)), (8, .c (.i 0)), (10, .c (.w 38)), (11, .c (.i 0)), (12, .c (.i 0))], [(0, Ent.mk false (pcell L) 0), (7, Ent.mk true (pcell L) 5), (34, Ent.mk true (scell S) 0), (38, Ent.mk true [.i 0, .i 0, .sl 34 0 L.length L.length] 0)], 42⟩ R) :
  AR 6 Tryz.f6 C 1 (rp2RK L M c j) R :=
 run_cut2 [false] ([true]) [] Tryz.func6 (by kernel_rfl) h (cr_cons c0 cr_nil) lo hF z
theorem rp2ET_w0 (h : (!decide ((j : Int) < (L.length : Int)) && true) = true) (c0 : CO 12 [.c (.sl 0 0 L.length c)] [(0, Ent.mk false (pcell L) 0)] (Eff.mk (.tu [.ag [.i tr, .i t1, .sx 34 q], .c (.i 0)]) [] (some (34, Ent.mk true (scell S) 31)))) (lo : Kn.Low ⟨[(0, .c (.sl 0 0 L.length c)), (3, .c (.sx 7 L.length)), (5, .c (.i 0)), (8, .c (.i 0)), (10, .c (.w 38)), (11, .c (.i 0)), (12, .c (.i 0))], [(0, Ent.mk false (pcell L) 0), (7, Ent.mk true (pcell L) 5), (34, Ent.mk true (scell S) 31), (38, Ent.mk true [.i tr, .i t1, .sx 34 q] 0)], 42⟩) (hF : ∀ k, C.F k → k < 42) (z : AR 6 Tryz.f6 C 2 ⟨[(0, .c (.sl 0 0 L.length c)), (3, .c (.sx 7 L.length)), (5, .c (.i 0)), (8, .c (.i 0)), (10, .c (.w 38)), (11, .c (.i 0)), (12, .c (.i 0))], [(0, Ent.mk false (pcell L) 0), (7, Ent.mk true (pcell L) 5), (34, Ent.mk true (scell S) 31), (38, Ent.mk true [.i tr, .i t1, .sx 34 q] 0)], 42⟩ R) :
  AR 6 Tryz.f6 C 1 (rp2RK L M c j) R :=
 run_cut2 [false] ([true]) [] Tryz.func6 (by kernel_rfl) h (cr_cons c0 cr_nil) lo hF z
theorem rp3RO_w0 (h : (decide ((j : Int) < (L.length : Int)) && (decide ((j : Int) < (L.length : Int)) && (Nat.ble (0 + (j : Int).toNat * 31 + 31) (scell S).length && true && true))) = true) (c0 : we 34 (splice (scell S) (0 + (j : Int).toNat * 31) (splice St.z.cs 0 [.b true])) = we 34 (scell (S.set j St.e))) (c1 : pe (.c (.i (IntKind.i64.wrap ((j : Int) + 1)))) = pe (.c (.i (↑(j + 1) : Int)))) (lo : Kn.Low (rp3ROK L c (j + 1) 0 (S.set j St.e))) (hF : ∀ k, C.F k → k < 42) (z : AR 6 Tryz.f6 C 2 (rp3ROK L c (j + 1) 0 (S.set j St.e)) R) :
  AR 6 Tryz.f6 C 2 (rp3ROK L c j r S) R :=
 run_cut2 [true] ([true]) [(18, 5), (17, 1)] Tryz.func6 (by kernel_rfl) h (cr_same c0 (cr_same c1 cr_nil)) lo hF z
theorem rp3EO_w0 (h : (!decide ((j : Int) < (L.length : Int)) && true) = true) (c0 : CO 17 [.c (.sl 0 0 L.length c)] [(0, Ent.mk false (pcell L) 0)] (Eff.mk (.tu [.c (.sx 48 L.length), .c (.i 0)]) [] (some (48, Ent.mk true (pcell L2) 0)))) (c1 : CO 18 [.c (.sl 0 0 L.length c)] [(0, Ent.mk false (pcell L) 0)] (Eff.mk (.tu [.c (.sx 55 L.length), .c (.i 0)]) [] (some (55, Ent.mk true (pcell L3) 0)))) (c2 : CO 12 [.c (.sl 0 0 L.length c)] [(0, Ent.mk false (pcell L) 0)] (Eff.mk (.tu [.ag [.i 0, .i 0, .sl 62 0 L.length L.length], .c (.i 0)]) [] (some (62, Ent.mk true (scell S3) 0)))) (c3 : Ok 21 [] (.c (.b true))) (c4 : CO 22 [.c (.sl 0 0 L.length c), .c (.sx 7 L.length)] [(0, Ent.mk false (pcell L) 0), (7, Ent.mk true (pcell L) 5)] (pe (.c (.b true)))) (c5 : CO 19 [.c (.sl 0 0 L.length c)] [(0, Ent.mk false (pcell L) 0)] (Eff.mk (.c (.sx 93 L.length)) [] (some (93, Ent.mk true (pcell L4) 0)))) (c6 : CO 22 [.c (.sx 48 L.length), .c (.sx 93 L.length)] [(48, Ent.mk true (pcell L2) 0), (93, Ent.mk true (pcell L4) 0)] (pe (.c (.b true)))) (c7 : CO 20 [.c (.sl 0 0 L.length c)] [(0, Ent.mk false (pcell L) 0)] (Eff.mk (.c (.sx 99 L.length)) [] (some (99, Ent.mk true (pcell L5) 0)))) (c8 : CO 22 [.c (.sx 55 L.length), .c (.sx 99 L.length)] [(55, Ent.mk true (pcell L3) 0), (99, Ent.mk true (pcell L5) 0)] (pe (.c (.b true)))) (c9 : CO 14 [.c (.sl 0 0 L.length c)] [(0, Ent.mk false (pcell L) 0)] (Eff.mk (.ag [.i 0, .i 0, .sl 105 0 L.length L.length]) [] (some (105, Ent.mk true (scell S2) 0)))) (c10 : CO 16 [.ag [.i 0, .i 0, .sl 62 0 L.length L.length], .ag [.i 0, .i 0, .sl 105 0 L.length L.length]] [(62, Ent.mk true (scell S3) 0), (105, Ent.mk true (scell S2) 0)] (pe (.c (.b true)))) (c11 : Ok 24 [] (.ag V4.any.cs)) (c12 : Ok 23 [.ag V4.any.cs] (.c (.i 0))) :
  AR 6 Tryz.f6 (cx w β n []) 2 (rp3ROK L c j r S) (REff w β ⟨.c (.b true), [], none⟩) :=
 run_eff2 [] none [false, true, true, true, true, true, true, true, true] ([]) [] Tryz.func6 (ekeys0 rfl n) (by kernel_rfl) h (cr_cons c0 (cr_cons c1 (cr_cons c2 (cr_cons c3 (cr_cons c4 (cr_cons c5 (cr_cons c6 (cr_cons c7 (cr_cons c8 (cr_cons c9 (cr_cons c10 (cr_cons c11 (cr_cons c12 cr_nil)))))))))))))
theorem rp3RT_w0 (h : (decide ((j : Int) < (q : Int)) && (decide ((j : Int) < (q : Int)) && (Nat.ble ((j : Int).toNat * 31 + 31) (scell S).length && true && true))) = true) (c0 : we 34 (splice (scell S) ((j : Int).toNat * 31) (splice St.z.cs 0 [.b true])) = we 34 (scell (S.set j St.e))) (c1 : pe (.c (.i (IntKind.i64.wrap ((j : Int) + 1)))) = pe (.c (.i (↑(j + 1) : Int)))) (lo : Kn.Low (rp3RTK L c (j + 1) 0 q tr t1 (S.set j St.e))) (hF : ∀ k, C.F k → k < 42) (z : AR 6 Tryz.f6 C 2 (rp3RTK L c (j + 1) 0 q tr t1 (S.set j St.e)) R) :
  AR 6 Tryz.f6 C 2 (rp3RTK L c j r q tr t1 S) R :=
 run_cut2 [true] ([true]) [(18, 5), (17, 1)] Tryz.func6 (by kernel_rfl) h (cr_same c0 (cr_same c1 cr_nil)) lo hF z
theorem rp3ET_w0 (h : (!decide ((j : Int) < (q : Int)) && true) = true) (c0 : CO 17 [.c (.sl 0 0 L.length c)] [(0, Ent.mk false (pcell L) 0)] (Eff.mk (.tu [.c (.sx 48 L.length), .c (.i 0)]) [] (some (48, Ent.mk true (pcell L2) 0)))) (c1 : CO 18 [.c (.sl 0 0 L.length c)] [(0, Ent.mk false (pcell L) 0)] (Eff.mk (.tu [.c (.sx 55 L.length), .c (.i 0)]) [] (some (55, Ent.mk true (pcell L3) 0)))) (c2 : CO 12 [.c (.sl 0 0 L.length c)] [(0, Ent.mk false (pcell L) 0)] (Eff.mk (.tu [.ag [.i tr, .i t1, .sx 62 q], .c (.i 0)]) [] (some (62, Ent.mk true (scell S3) 31)))) (c3 : Ok 21 [] (.c (.b true))) (c4 : CO 22 [.c (.sl 0 0 L.length c), .c (.sx 7 L.length)] [(0, Ent.mk false (pcell L) 0), (7, Ent.mk true (pcell L) 5)] (pe (.c (.b true)))) (c5 : CO 19 [.c (.sl 0 0 L.length c)] [(0, Ent.mk false (pcell L) 0)] (Eff.mk (.c (.sx 93 L.length)) [] (some (93, Ent.mk true (pcell L4) 0)))) (c6 : CO 22 [.c (.sx 48 L.length), .c (.sx 93 L.length)] [(48, Ent.mk true (pcell L2) 0), (93, Ent.mk true (pcell L4) 0)] (pe (.c (.b true)))) (c7 : CO 20 [.c (.sl 0 0 L.length c)] [(0, Ent.mk false (pcell L) 0)] (Eff.mk (.c (.sx 99 L.length)) [] (some (99, Ent.mk true (pcell L5) 0)))) (c8 : CO 22 [.c (.sx 55 L.length), .c (.sx 99 L.length)] [(55, Ent.mk true (pcell L3) 0), (99, Ent.mk true (pcell L5) 0)] (pe (.c (.b true)))) (c9 : CO 14 [.c (.sl 0 0 L.length c)] [(0, Ent.mk false (pcell L) 0)] (Eff.mk (.ag [.i tr, .i t1, .sl 105 0 q L.length]) [] (some (105, Ent.mk true (scell S2) 0)))) (c10 : CO 16 [.ag [.i tr, .i t1, .sx 62 q], .ag [.i tr, .i t1, .sl 105 0 q L.length]] [(62, Ent.mk true (scell S3) 31), (105, Ent.mk true (scell S2) 0)] (pe (.c (.b true)))) (c11 : Ok 24 [] (.ag V4.any.cs)) (c12 : Ok 23 [.ag V4.any.cs] (.c (.i 0))) :
  AR 6 Tryz.f6 (cx w β n []) 2 (rp3RTK L c j r q tr t1 S) (REff w β ⟨.c (.b true), [], none⟩) :=
 run_eff2 [] none [false, true, true, true, true, true, true, true, true] ([]) [] Tryz.func6 (ekeys0 rfl n) (by kernel_rfl) h (cr_cons c0 (cr_cons c1 (cr_cons c2 (cr_cons c3 (cr_cons c4 (cr_cons c5 (cr_cons c6 (cr_cons c7 (cr_cons c8 (cr_cons c9 (cr_cons c10 (cr_cons c11 (cr_cons c12 cr_nil)))))))))))))
end
section
abbrev fqDK (L M : List Ins) (c j r : Nat) (S2 : List St) : Kn := ⟨[(0, .c (.sl 0 0 L.length c)), (3, .c (.sx 4 L.length)), (4, .c (.w 8)), (5, .c (.i (j : Int)))], [(0, Ent.mk false (pcell L) 0), (4, Ent.mk true (pcell M) r), (7, Ent.mk true (scell S2) 0), (8, Ent.mk true [.i 0, .i 0, .sl 7 0 L.length L.length] 0)], 10⟩
variable {L M : List Ins} {c q n j r : Nat} {S2 : List St} {tr p g : Int} {w : World} {β : Bs} {C : Cx} {R : Ending → World → Prop} {a b : St} {i : Ins} {v4 : V4}
theorem fqTr_w0 (h : (Nat.ble (0 + L.length * 5) (pcell L).length && (decide (0 + L.length ≤ 137438953472) && decide (0 < 0 + L.length)) && (tr != 0 && true)) = true) (c0 : Eff.mk (.c (.sx 4 (0 + L.length))) [] (some (1 + 1 + 2, Ent.mk true (((rows 0 [.i 0, .i 0, .i 0, .u 0#64, .i 0]).drop 0).take 0 ++ ((pcell L).drop 0).take (L.length * 5)) 5)) = Eff.mk (.c (.sx 4 L.length)) [] (some (4, Ent.mk true (pcell L) 5))) (c1 : CO 14 [.c (.sl 0 0 L.length c)] [(0, Ent.mk false (pcell L) 0)] (Eff.mk (.ag [.i tr, .i p, .sl 7 0 q L.length]) [] (some (7, Ent.mk true (scell S2) 0)))) (hk : EKeys n [] (some 4) ⟨.c (.sx 4 L.length), [], some (4, Ent.mk true (pcell L) 5)⟩) :
  BO 19 Tryz.f19 (cx w β n []) [.c (.sl 0 0 L.length c)] [(0, Ent.mk false (pcell L) 0)] 1 (REff w β ⟨.c (.sx 4 L.length), [], some (4, Ent.mk true (pcell L) 5)⟩) :=
 run_eff2 [] (some 4) [true] ([true]) [(1, 2)] Tryz.func19 hk (by kernel_rfl) h (cr_same c0 (cr_cons c1 cr_nil))
theorem fqTop_w0 (h : (Nat.ble (0 + L.length * 5) (pcell L).length && (decide (0 + L.length ≤ 137438953472) && decide (0 < 0 + L.length)) && true) = true) (c0 : Eff.mk (.c (.sx 4 (0 + L.length))) [] (some (1 + 1 + 2, Ent.mk true (((rows 0 [.i 0, .i 0, .i 0, .u 0#64, .i 0]).drop 0).take 0 ++ ((pcell L).drop 0).take (L.length * 5)) 5)) = Eff.mk (.c (.sx 4 L.length)) [] (some (4, Ent.mk true (pcell L) 5))) (c1 : CO 14 [.c (.sl 0 0 L.length c)] [(0, Ent.mk false (pcell L) 0)] (Eff.mk (.ag [.i 0, .i 0, .sl 7 0 L.length L.length]) [] (some (7, Ent.mk true (scell S2) 0)))) (lo : Kn.Low ⟨[(0, .c (.sl 0 0 L.length c)), (3, .c (.sx 4 L.length)), (4, .c (.w 8)), (5, .c (.i 0))], [(0, Ent.mk false (pcell L) 0), (4, Ent.mk true (pcell L) 5), (7, Ent.mk true (scell S2) 0), (8, Ent.mk true [.i 0, .i 0, .sl 7 0 L.length L.length] 0)], 10⟩) (hF : ∀ k, C.F k → k < 10) (z : AR 19 Tryz.f19 C 0 ⟨[(0, .c (.sl 0 0 L.length c)), (3, .c (.sx 4 L.length)), (4, .c (.w 8)), (5, .c (.i 0))], [(0, Ent.mk false (pcell L) 0), (4, Ent.mk true (pcell L) 5), (7, Ent.mk true (scell S2) 0), (8, Ent.mk true [.i 0, .i 0, .sl 7 0 L.length L.length] 0)], 10⟩ R) :
  BO 19 Tryz.f19 C [.c (.sl 0 0 L.length c)] [(0, Ent.mk false (pcell L) 0)] 1 R :=
 run_cut2 [false] ([true]) [(1, 2)] Tryz.func19 (by kernel_rfl) h (cr_same c0 (cr_cons c1 cr_nil)) lo hF z
theorem fqD_w0 (h : (decide ((↑(j + 1) : Int) < (L.length : Int)) && (decide ((j : Int) < (L.length : Int)) && (Nat.ble (0 + (j : Int).toNat * 5 + 5) (pcell L).length && (decide ((j : Int) < (L.length : Int)) && (Nat.ble (0 + (j : Int).toNat * 31 + 31) (scell S2).length && (decide ((j : Int) < (L.length : Int)) && (AC.isB ((scell S2)[0 + (j : Int).toNat * 31 + 0]?.getD (.b false)) && Nat.blt (0 + (j : Int).toNat * 31 + 0) (scell S2).length && (!(stAt S2 j).live && (decide ((j : Int) < (L.length : Int)) && (Nat.ble ((j : Int).toNat * 5 + 5) (pcell M).length && true && true)))))))))) = true) (c0 : pe (.c (.i (IntKind.i64.wrap ((j : Int) + 1)))) = pe (.c (.i (↑(j + 1) : Int)))) (c1 : pe (.ag (((pcell L).drop (0 + (j : Int).toNat * 5)).take 5)) = pe (.ag i.cs)) (c2 : pe (.ag (((scell S2).drop (0 + (j : Int).toNat * 31)).take 31)) = pe (.ag (stAt S2 j).cs)) (c3 : Ok 11 [.ag i.cs, .ag (stAt S2 j).cs] (.tu [.ag a.cs, .ag b.cs, .c (.i g)])) (c4 : pe (.c (.b (AC.asB ((scell S2)[0 + (j : Int).toNat * 31 + 0]?.getD (.b false))))) = pe (.c (.b (stAt S2 j).live))) (c5 : Ok 57 [] (.ag onI.cs)) (c6 : we 4 (splice (pcell M) ((j : Int).toNat * 5) onI.cs) = we 4 (pcell (M.set j onI))) (c7 : pe (.c (.i (IntKind.i64.wrap ((j : Int) + 1)))) = pe (.c (.i (↑(j + 1) : Int)))) (lo : Kn.Low (fqDK L (M.set j onI) c (j + 1) 0 S2)) (hF : ∀ k, C.F k → k < 10) (z : AR 19 Tryz.f19 C 0 (fqDK L (M.set j onI) c (j + 1) 0 S2) R) :
  AR 19 Tryz.f19 C 0 (fqDK L M c j r S2) R :=
 run_cut2 [true, true] ([true]) [(6, 1), (8, 3), (9, 5), (10, 5), (11, 4), (12, 8), (13, 9), (13, 12), (15, 4), (17, 6), (7, 1)] Tryz.func19 (by kernel_rfl) h (cr_same c0 (cr_same c1 (cr_same c2 (cr_cons c3 (cr_same c4 (cr_cons c5 (cr_same c6 (cr_same c7 cr_nil)))))))) lo hF z
theorem fqA_w0 (h : (decide ((↑(j + 1) : Int) < (L.length : Int)) && (decide ((j : Int) < (L.length : Int)) && (Nat.ble (0 + (j : Int).toNat * 5 + 5) (pcell L).length && (decide ((j : Int) < (L.length : Int)) && (Nat.ble (0 + (j : Int).toNat * 31 + 31) (scell S2).length && (decide ((j : Int) < (L.length : Int)) && (AC.isB ((scell S2)[0 + (j : Int).toNat * 31 + 0]?.getD (.b false)) && Nat.blt (0 + (j : Int).toNat * 31 + 0) (scell S2).length && (!!(stAt S2 j).live && (decide (0 ≤ i.d) && decide (i.d < 6) && (Nat.ble (7 + (i.d).toNat * 4 + 4) (a.cs).length && (decide (0 ≤ i.d) && decide (i.d < 6) && (AC.isU ((a.cs)[7 + (i.d).toNat * 4 + 2]?.getD (.b false)) && Nat.blt (7 + (i.d).toNat * 4 + 2) (a.cs).length && (decide ((j : Int) < (L.length : Int)) && (Nat.ble ((j : Int).toNat * 5 + (splice (splice (splice (splice [.i 0, .i 0, .i 0, .u 0#64, .i 0] 0 [.i 1]) 1 [.i i.d]) 2 [.i (-1)]) 3 [.u v4.l]).length) (pcell M).length && true && true)))))))))))))) = true) (c0 : pe (.c (.i (IntKind.i64.wrap ((j : Int) + 1)))) = pe (.c (.i (↑(j + 1) : Int)))) (c1 : pe (.ag (((pcell L).drop (0 + (j : Int).toNat * 5)).take 5)) = pe (.ag i.cs)) (c2 : pe (.ag (((scell S2).drop (0 + (j : Int).toNat * 31)).take 31)) = pe (.ag (stAt S2 j).cs)) (c3 : Ok 11 [.ag i.cs, .ag (stAt S2 j).cs] (.tu [.ag a.cs, .ag b.cs, .c (.i g)])) (c4 : pe (.c (.b (AC.asB ((scell S2)[0 + (j : Int).toNat * 31 + 0]?.getD (.b false))))) = pe (.c (.b (stAt S2 j).live))) (c5 : Ok 58 [.c (.i i.op)] (.c (.b true))) (c6 : pe (.ag (((a.cs).drop (7 + (i.d).toNat * 4)).take 4)) = pe (.ag v4.cs)) (c7 : Ok 59 [.ag v4.cs] (.c (.b true))) (c8 : pe (.c (.u (AC.asU ((a.cs)[7 + (i.d).toNat * 4 + 2]?.getD (.b false))))) = pe (.c (.u v4.l))) (c9 : we 4 (splice (pcell M) ((j : Int).toNat * 5) (splice (splice (splice (splice [.i 0, .i 0, .i 0, .u 0#64, .i 0] 0 [.i 1]) 1 [.i i.d]) 2 [.i (-1)]) 3 [.u v4.l])) = we 4 (pcell (M.set j (Ins.mk 1 i.d (-1) v4.l 0)))) (c10 : pe (.c (.i (IntKind.i64.wrap ((j : Int) + 1)))) = pe (.c (.i (↑(j + 1) : Int)))) (lo : Kn.Low (fqDK L (M.set j (Ins.mk 1 i.d ( - 1) v4.l 0)) c (j + 1) 0 S2)) (hF : ∀ k, C.F k → k < 10) (z : AR 19 Tryz.f19 C 0 (fqDK L (M.set j (Ins.mk 1 i.d ( - 1) v4.l 0)) c (j + 1) 0 S2) R) :
  AR 19 Tryz.f19 C 0 (fqDK L M c j r S2) R :=
 run_cut2 [true, false, true, true] ([true]) [(6, 1), (8, 3), (9, 5), (10, 5), (11, 4), (12, 8), (13, 9), (13, 12), (15, 4), (17, 6), (7, 1)] Tryz.func19 (by kernel_rfl) h (cr_same c0 (cr_same c1 (cr_same c2 (cr_cons c3 (cr_same c4 (cr_cons c5 (cr_same c6 (cr_cons c7 (cr_same c8 (cr_same c9 (cr_same c10 cr_nil))))))))))) lo hF z
theorem fqR_w0 (h : (decide ((↑(j + 1) : Int) < (L.length : Int)) && (decide ((j : Int) < (L.length : Int)) && (Nat.ble (0 + (j : Int).toNat * 5 + 5) (pcell L).length && (decide ((j : Int) < (L.length : Int)) && (Nat.ble (0 + (j : Int).toNat * 31 + 31) (scell S2).length && (decide ((j : Int) < (L.length : Int)) && (AC.isB ((scell S2)[0 + (j : Int).toNat * 31 + 0]?.getD (.b false)) && Nat.blt (0 + (j : Int).toNat * 31 + 0) (scell S2).length && (!!(stAt S2 j).live && (decide (0 ≤ i.d) && decide (i.d < 6) && (Nat.ble (7 + (i.d).toNat * 4 + 4) (a.cs).length && true)))))))))) = true) (c0 : pe (.c (.i (IntKind.i64.wrap ((j : Int) + 1)))) = pe (.c (.i (↑(j + 1) : Int)))) (c1 : pe (.ag (((pcell L).drop (0 + (j : Int).toNat * 5)).take 5)) = pe (.ag i.cs)) (c2 : pe (.ag (((scell S2).drop (0 + (j : Int).toNat * 31)).take 31)) = pe (.ag (stAt S2 j).cs)) (c3 : Ok 11 [.ag i.cs, .ag (stAt S2 j).cs] (.tu [.ag a.cs, .ag b.cs, .c (.i g)])) (c4 : pe (.c (.b (AC.asB ((scell S2)[0 + (j : Int).toNat * 31 + 0]?.getD (.b false))))) = pe (.c (.b (stAt S2 j).live))) (c5 : Ok 58 [.c (.i i.op)] (.c (.b true))) (c6 : pe (.ag (((a.cs).drop (7 + (i.d).toNat * 4)).take 4)) = pe (.ag v4.cs)) (c7 : Ok 59 [.ag v4.cs] (.c (.b false))) (c8 : Ok 60 [.c (.i i.op)] (.c (.b false))) (c9 : Ok 60 [.c (.i i.op)] (.c (.b false))) (c10 : pe (.c (.i (IntKind.i64.wrap ((j : Int) + 1)))) = pe (.c (.i (↑(j + 1) : Int)))) (lo : Kn.Low (fqDK L M c (j + 1) r S2)) (hF : ∀ k, C.F k → k < 10) (z : AR 19 Tryz.f19 C 0 (fqDK L M c (j + 1) r S2) R) :
  AR 19 Tryz.f19 C 0 (fqDK L M c j r S2) R :=
 run_cut2 [true, false, true, false, false, false, false, false] ([true]) [(6, 1), (8, 3), (9, 5), (10, 5), (11, 4), (12, 8), (13, 9), (13, 12), (15, 4), (17, 6), (7, 1)] Tryz.func19 (by kernel_rfl) h (cr_same c0 (cr_same c1 (cr_same c2 (cr_cons c3 (cr_same c4 (cr_cons c5 (cr_same c6 (cr_cons c7 (cr_cons c8 (cr_cons c9 (cr_same c10 cr_nil))))))))))) lo hF z
theorem fqB_w0 (h : (decide ((↑(j + 1) : Int) < (L.length : Int)) && (decide ((j : Int) < (L.length : Int)) && (Nat.ble (0 + (j : Int).toNat * 5 + 5) (pcell L).length && (decide ((j : Int) < (L.length : Int)) && (Nat.ble (0 + (j : Int).toNat * 31 + 31) (scell S2).length && (decide ((j : Int) < (L.length : Int)) && (AC.isB ((scell S2)[0 + (j : Int).toNat * 31 + 0]?.getD (.b false)) && Nat.blt (0 + (j : Int).toNat * 31 + 0) (scell S2).length && (!!(stAt S2 j).live && (!b.live && (decide ((j : Int) < (L.length : Int)) && (Nat.ble ((j : Int).toNat * 5 + 5) (pcell M).length && true && true))))))))))) = true) (c0 : pe (.c (.i (IntKind.i64.wrap ((j : Int) + 1)))) = pe (.c (.i (↑(j + 1) : Int)))) (c1 : pe (.ag (((pcell L).drop (0 + (j : Int).toNat * 5)).take 5)) = pe (.ag i.cs)) (c2 : pe (.ag (((scell S2).drop (0 + (j : Int).toNat * 31)).take 31)) = pe (.ag (stAt S2 j).cs)) (c3 : Ok 11 [.ag i.cs, .ag (stAt S2 j).cs] (.tu [.ag a.cs, .ag b.cs, .c (.i g)])) (c4 : pe (.c (.b (AC.asB ((scell S2)[0 + (j : Int).toNat * 31 + 0]?.getD (.b false))))) = pe (.c (.b (stAt S2 j).live))) (c5 : Ok 58 [.c (.i i.op)] (.c (.b false))) (c6 : Ok 60 [.c (.i i.op)] (.c (.b true))) (c7 : Ok 57 [] (.ag onI.cs)) (c8 : we 4 (splice (pcell M) ((j : Int).toNat * 5) onI.cs) = we 4 (pcell (M.set j onI))) (c9 : pe (.c (.i (IntKind.i64.wrap ((j : Int) + 1)))) = pe (.c (.i (↑(j + 1) : Int)))) (lo : Kn.Low (fqDK L (M.set j onI) c (j + 1) 0 S2)) (hF : ∀ k, C.F k → k < 10) (z : AR 19 Tryz.f19 C 0 (fqDK L (M.set j onI) c (j + 1) 0 S2) R) :
  AR 19 Tryz.f19 C 0 (fqDK L M c j r S2) R :=
 run_cut2 [true, false, false, false, true, true] ([true]) [(6, 1), (8, 3), (9, 5), (10, 5), (11, 4), (12, 8), (13, 9), (13, 12), (15, 4), (17, 6), (7, 1)] Tryz.func19 (by kernel_rfl) h (cr_same c0 (cr_same c1 (cr_same c2 (cr_cons c3 (cr_same c4 (cr_cons c5 (cr_cons c6 (cr_cons c7 (cr_same c8 (cr_same c9 cr_nil)))))))))) lo hF z
theorem fqC_w0 (h : (decide ((↑(j + 1) : Int) < (L.length : Int)) && (decide ((j : Int) < (L.length : Int)) && (Nat.ble (0 + (j : Int).toNat * 5 + 5) (pcell L).length && (decide ((j : Int) < (L.length : Int)) && (Nat.ble (0 + (j : Int).toNat * 31 + 31) (scell S2).length && (decide ((j : Int) < (L.length : Int)) && (AC.isB ((scell S2)[0 + (j : Int).toNat * 31 + 0]?.getD (.b false)) && Nat.blt (0 + (j : Int).toNat * 31 + 0) (scell S2).length && (!!(stAt S2 j).live && (!!b.live && (!a.live && (decide ((j : Int) < (L.length : Int)) && (Nat.ble ((j : Int).toNat * 5 + (splice (splice [.i 0, .i 0, .i 0, .u 0#64, .i 0] 0 [.i 12]) 4 [.i i.of]).length) (pcell M).length && true && true)))))))))))) = true) (c0 : pe (.c (.i (IntKind.i64.wrap ((j : Int) + 1)))) = pe (.c (.i (↑(j + 1) : Int)))) (c1 : pe (.ag (((pcell L).drop (0 + (j : Int).toNat * 5)).take 5)) = pe (.ag i.cs)) (c2 : pe (.ag (((scell S2).drop (0 + (j : Int).toNat * 31)).take 31)) = pe (.ag (stAt S2 j).cs)) (c3 : Ok 11 [.ag i.cs, .ag (stAt S2 j).cs] (.tu [.ag a.cs, .ag b.cs, .c (.i g)])) (c4 : pe (.c (.b (AC.asB ((scell S2)[0 + (j : Int).toNat * 31 + 0]?.getD (.b false))))) = pe (.c (.b (stAt S2 j).live))) (c5 : Ok 58 [.c (.i i.op)] (.c (.b false))) (c6 : Ok 60 [.c (.i i.op)] (.c (.b true))) (c7 : Ok 60 [.c (.i i.op)] (.c (.b true))) (c8 : we 4 (splice (pcell M) ((j : Int).toNat * 5) (splice (splice [.i 0, .i 0, .i 0, .u 0#64, .i 0] 0 [.i 12]) 4 [.i i.of])) = we 4 (pcell (M.set j (Ins.mk 12 0 0 (0#64) i.of)))) (c9 : pe (.c (.i (IntKind.i64.wrap ((j : Int) + 1)))) = pe (.c (.i (↑(j + 1) : Int)))) (lo : Kn.Low (fqDK L (M.set j (Ins.mk 12 0 0 (0#64) i.of)) c (j + 1) 0 S2)) (hF : ∀ k, C.F k → k < 10) (z : AR 19 Tryz.f19 C 0 (fqDK L (M.set j (Ins.mk 12 0 0 (0#64) i.of)) c (j + 1) 0 S2) R) :
  AR 19 Tryz.f19 C 0 (fqDK L M c j r S2) R :=
 run_cut2 [true, false, false, false, true, false, true, true] ([true]) [(6, 1), (8, 3), (9, 5), (10, 5), (11, 4), (12, 8), (13, 9), (13, 12), (15, 4), (17, 6), (7, 1)] Tryz.func19 (by kernel_rfl) h (cr_same c0 (cr_same c1 (cr_same c2 (cr_cons c3 (cr_same c4 (cr_cons c5 (cr_cons c6 (cr_cons c7 (cr_same c8 (cr_same c9 cr_nil)))))))))) lo hF z
theorem fqE_w0 (h : (decide ((↑(j + 1) : Int) < (L.length : Int)) && (decide ((j : Int) < (L.length : Int)) && (Nat.ble (0 + (j : Int).toNat * 5 + 5) (pcell L).length && (decide ((j : Int) < (L.length : Int)) && (Nat.ble (0 + (j : Int).toNat * 31 + 31) (scell S2).length && (decide ((j : Int) < (L.length : Int)) && (AC.isB ((scell S2)[0 + (j : Int).toNat * 31 + 0]?.getD (.b false)) && Nat.blt (0 + (j : Int).toNat * 31 + 0) (scell S2).length && (!!(stAt S2 j).live && (!!b.live && (!!a.live && true)))))))))) = true) (c0 : pe (.c (.i (IntKind.i64.wrap ((j : Int) + 1)))) = pe (.c (.i (↑(j + 1) : Int)))) (c1 : pe (.ag (((pcell L).drop (0 + (j : Int).toNat * 5)).take 5)) = pe (.ag i.cs)) (c2 : pe (.ag (((scell S2).drop (0 + (j : Int).toNat * 31)).take 31)) = pe (.ag (stAt S2 j).cs)) (c3 : Ok 11 [.ag i.cs, .ag (stAt S2 j).cs] (.tu [.ag a.cs, .ag b.cs, .c (.i g)])) (c4 : pe (.c (.b (AC.asB ((scell S2)[0 + (j : Int).toNat * 31 + 0]?.getD (.b false))))) = pe (.c (.b (stAt S2 j).live))) (c5 : Ok 58 [.c (.i i.op)] (.c (.b false))) (c6 : Ok 60 [.c (.i i.op)] (.c (.b true))) (c7 : Ok 60 [.c (.i i.op)] (.c (.b true))) (c8 : pe (.c (.i (IntKind.i64.wrap ((j : Int) + 1)))) = pe (.c (.i (↑(j + 1) : Int)))) (lo : Kn.Low (fqDK L M c (j + 1) r S2)) (hF : ∀ k, C.F k → k < 10) (z : AR 19 Tryz.f19 C 0 (fqDK L M c (j + 1) r S2) R) :
  AR 19 Tryz.f19 C 0 (fqDK L M c j r S2) R :=
 run_cut2 [true, false, false, false, true, false, true, false] ([true]) [(6, 1), (8, 3), (9, 5), (10, 5), (11, 4), (12, 8), (13, 9), (13, 12), (15, 4), (17, 6), (7, 1)] Tryz.func19 (by kernel_rfl) h (cr_same c0 (cr_same c1 (cr_same c2 (cr_cons c3 (cr_same c4 (cr_cons c5 (cr_cons c6 (cr_cons c7 (cr_same c8 cr_nil))))))))) lo hF z
theorem fqN_w0 (h : (decide ((↑(j + 1) : Int) < (L.length : Int)) && (decide ((j : Int) < (L.length : Int)) && (Nat.ble (0 + (j : Int).toNat * 5 + 5) (pcell L).length && (decide ((j : Int) < (L.length : Int)) && (Nat.ble (0 + (j : Int).toNat * 31 + 31) (scell S2).length && (decide ((j : Int) < (L.length : Int)) && (AC.isB ((scell S2)[0 + (j : Int).toNat * 31 + 0]?.getD (.b false)) && Nat.blt (0 + (j : Int).toNat * 31 + 0) (scell S2).length && (!!(stAt S2 j).live && true)))))))) = true) (c0 : pe (.c (.i (IntKind.i64.wrap ((j : Int) + 1)))) = pe (.c (.i (↑(j + 1) : Int)))) (c1 : pe (.ag (((pcell L).drop (0 + (j : Int).toNat * 5)).take 5)) = pe (.ag i.cs)) (c2 : pe (.ag (((scell S2).drop (0 + (j : Int).toNat * 31)).take 31)) = pe (.ag (stAt S2 j).cs)) (c3 : Ok 11 [.ag i.cs, .ag (stAt S2 j).cs] (.tu [.ag a.cs, .ag b.cs, .c (.i g)])) (c4 : pe (.c (.b (AC.asB ((scell S2)[0 + (j : Int).toNat * 31 + 0]?.getD (.b false))))) = pe (.c (.b (stAt S2 j).live))) (c5 : Ok 58 [.c (.i i.op)] (.c (.b false))) (c6 : Ok 60 [.c (.i i.op)] (.c (.b false))) (c7 : Ok 60 [.c (.i i.op)] (.c (.b false))) (c8 : pe (.c (.i (IntKind.i64.wrap ((j : Int) + 1)))) = pe (.c (.i (↑(j + 1) : Int)))) (lo : Kn.Low (fqDK L M c (j + 1) r S2)) (hF : ∀ k, C.F k → k < 10) (z : AR 19 Tryz.f19 C 0 (fqDK L M c (j + 1) r S2) R) :
  AR 19 Tryz.f19 C 0 (fqDK L M c j r S2) R :=
 run_cut2 [true, false, false, false, false, false, false, false] ([true]) [(6, 1), (8, 3), (9, 5), (10, 5), (11, 4), (12, 8), (13, 9), (13, 12), (15, 4), (17, 6), (7, 1)] Tryz.func19 (by kernel_rfl) h (cr_same c0 (cr_same c1 (cr_same c2 (cr_cons c3 (cr_same c4 (cr_cons c5 (cr_cons c6 (cr_cons c7 (cr_same c8 cr_nil))))))))) lo hF z
theorem fqEnd_w0 (h : (!decide ((↑(j + 1) : Int) < (L.length : Int)) && true) = true) (c0 : pe (.c (.i (IntKind.i64.wrap ((j : Int) + 1)))) = pe (.c (.i (↑(j + 1) : Int)))) (hk : EKeys n [] (some 4) ⟨.c (.sx 4 L.length), [], some (4, Ent.mk true (pcell M) r)⟩) :
  AR 19 Tryz.f19 (cx w β n []) 0 (fqDK L M c j r S2) (REff w β ⟨.c (.sx 4 L.length), [], some (4, Ent.mk true (pcell M) r)⟩) :=
 run_eff2 [] (some 4) [false] ([true]) [(6, 1)] Tryz.func19 hk (by kernel_rfl) h (cr_same c0 cr_nil)
end
section
abbrev deAK (L M : List Ins) (A : List (V6 Bool)) (j r : Nat) : Kn := ⟨[(3, .c (.sx 4 L.length)), (4, .c (.sl 12 0 L.length L.length)), (5, .c (.i (j : Int)))], [(0, Ent.mk false (pcell L) 0), (4, Ent.mk true (pcell M) r), (12, Ent.mk true (rcell A) 0)], 14⟩
abbrev deLNK (L M : List Ins) (A : List (V6 Bool)) (j r x : Nat) (i : Ins) (u : V6 Bool) : Kn := ⟨[(3, .c (.sx 4 L.length)), (4, .c (.sl 12 0 L.length L.length)), (5, .c (.i (j : Int))), (6, .c (.w 20)), (7, .c (.w 22)), (8, .c (.i (x : Int)))], [(0, Ent.mk false (pcell L) 0), (4, Ent.mk true (pcell M) r), (12, Ent.mk true (rcell A) 0), (20, Ent.mk true i.cs 0), (22, Ent.mk true (bcs u) 0)], 24⟩
abbrev deMDK (L M : List Ins) (A : List (V6 Bool)) (j r : Nat) (i : Ins) (u : V6 Bool) : Kn := ⟨[(3, .c (.sx 4 L.length)), (4, .c (.sl 12 0 L.length L.length)), (5, .c (.i (j : Int))), (6, .c (.w 20)), (7, .c (.w 22)), (8, .c (.i 6))], [(0, Ent.mk false (pcell L) 0), (4, Ent.mk true (pcell M) r), (12, Ent.mk true (rcell A) 0), (20, Ent.mk true i.cs 0), (22, Ent.mk true (bcs u) 0)], 24⟩
abbrev deU39_K (L M : List Ins) (A : List (V6 Bool)) (j r x q : Nat) (u : V6 Bool) (U : List AC) : Kn := ⟨[(3, .c (.sx 4 L.length)), (4, .c (.sl 12 0 L.length L.length)), (5, .c (.i (j : Int))), (7, .c (.w 22)), (9, .c (.sx 39 q)), (10, .c (.i (x : Int)))], [(0, Ent.mk false (pcell L) 0), (4, Ent.mk true (pcell M) r), (12, Ent.mk true (rcell A) 0), (22, Ent.mk true (bcs u) 0), (39, Ent.mk true U 1)], 45⟩
abbrev deU30_K (L M : List Ins) (A : List (V6 Bool)) (j r x q : Nat) (u : V6 Bool) (U : List AC) : Kn := ⟨[(3, .c (.sx 4 L.length)), (4, .c (.sl 12 0 L.length L.length)), (5, .c (.i (j : Int))), (7, .c (.w 22)), (9, .c (.sx 30 q)), (10, .c (.i (x : Int)))], [(0, Ent.mk false (pcell L) 0), (4, Ent.mk true (pcell M) r), (12, Ent.mk true (rcell A) 0), (22, Ent.mk true (bcs u) 0), (30, Ent.mk true U 1)], 45⟩
abbrev deE0_K (L M : List Ins) (A : List (V6 Bool)) (j r : Nat) (u : V6 Bool) : Kn := ⟨[(3, .c (.sx 4 L.length)), (4, .c (.sl 12 0 L.length L.length)), (5, .c (.i (j : Int))), (7, .c (.w 22)), (9, .c nilSl), (10, .c (.i 0))], [(0, Ent.mk false (pcell L) 0), (4, Ent.mk true (pcell M) r), (12, Ent.mk true (rcell A) 0), (22, Ent.mk true (bcs u) 0)], 45⟩
variable {L M : List Ins} {c q n j r x : Nat} {S2 : List St} {tr p d : Int} {w : World} {β : Bs} {C : Cx} {R : Ending → World → Prop} {A : List (V6 Bool)} {i : Ins} {u u2 : V6 Bool} {g g2 g3 : Bool} {U : List AC}
theorem rno_w0 :
  Ok 57 [] (.ag [.i 12, .i 0, .i 0, .u 0#64, .i 0]) :=
 val_run2 [] ([]) [] Tryz.func57 rfl rfl rfl rfl (by kernel_rfl) rfl cr_nil
theorem deTr_w0 (h : (Nat.ble (0 + L.length * 5) (pcell L).length && (decide (0 + L.length ≤ 137438953472) && decide (0 < 0 + L.length)) && (tr != 0 && true)) = true) (c0 : Eff.mk (.c (.sx 4 (0 + L.length))) [] (some (1 + 1 + 2, Ent.mk true (((rows 0 [.i 0, .i 0, .i 0, .u 0#64, .i 0]).drop 0).take 0 ++ ((pcell L).drop 0).take (L.length * 5)) 5)) = Eff.mk (.c (.sx 4 L.length)) [] (some (4, Ent.mk true (pcell L) 5))) (c1 : CO 14 [.c (.sl 0 0 L.length c)] [(0, Ent.mk false (pcell L) 0)] (Eff.mk (.ag [.i tr, .i p, .sl 7 0 q L.length]) [] (some (7, Ent.mk true (scell S2) 0)))) (hk : EKeys n [] (some 4) ⟨.c (.sx 4 L.length), [], some (4, Ent.mk true (pcell L) 5)⟩) :
  BO 20 Tryz.f20 (cx w β n []) [.c (.sl 0 0 L.length c)] [(0, Ent.mk false (pcell L) 0)] 1 (REff w β ⟨.c (.sx 4 L.length), [], some (4, Ent.mk true (pcell L) 5)⟩) :=
 run_eff2 [] (some 4) [true] ([true]) [(1, 2)] Tryz.func20 hk (by kernel_rfl) h (cr_same c0 (cr_cons c1 cr_nil))
theorem deTop_w0 (h : (Nat.ble (0 + L.length * 5) (pcell L).length && (decide (0 + L.length ≤ 137438953472) && decide (0 < 0 + L.length)) && (decide ((L.length : Int) ≤ (L.length : Int)) && decide ((L.length : Int) ≤ 1099511627776) && true && true)) = true) (c0 : Eff.mk (.c (.sx 4 (0 + L.length))) [] (some (1 + 1 + 2, Ent.mk true (((rows 0 [.i 0, .i 0, .i 0, .u 0#64, .i 0]).drop 0).take 0 ++ ((pcell L).drop 0).take (L.length * 5)) 5)) = Eff.mk (.c (.sx 4 L.length)) [] (some (4, Ent.mk true (pcell L) 5))) (c1 : CO 14 [.c (.sl 0 0 L.length c)] [(0, Ent.mk false (pcell L) 0)] (Eff.mk (.ag [.i 0, .i 0, .sl 7 0 L.length L.length]) [] (some (7, Ent.mk true (scell S2) 0)))) (c2 : Eff.mk (.c (.sl 12 0 (L.length : Int).toNat (L.length : Int).toNat)) [] (some (1 + 1 + 4 + 4 + 2, Ent.mk true (rows (L.length : Int).toNat [.b false, .b false, .b false, .b false, .b false, .b false]) 0)) = Eff.mk (.c (.sl 12 0 L.length L.length)) [] (some (12, Ent.mk true (rcell (List.replicate L.length no6)) 0))) (c3 : pe (.c (.i (IntKind.i64.wrap ((L.length : Int) - 1)))) = pe (.c (.i ((L.length : Int) - 1)))) (lo : Kn.Low ⟨[(3, .c (.sx 4 L.length)), (4, .c (.sl 12 0 L.length L.length)), (5, .c (.i ((L.length : Int) - 1)))], [(0, Ent.mk false (pcell L) 0), (4, Ent.mk true (pcell L) 5), (12, Ent.mk true (rcell (List.replicate L.length no6)) 0)], 14⟩) (hF : ∀ k, C.F k → k < 14) (z : AR 20 Tryz.f20 C 0 ⟨[(3, .c (.sx 4 L.length)), (4, .c (.sl 12 0 L.length L.length)), (5, .c (.i ((L.length : Int) - 1)))], [(0, Ent.mk false (pcell L) 0), (4, Ent.mk true (pcell L) 5), (12, Ent.mk true (rcell (List.replicate L.length no6)) 0)], 14⟩ R) :
  BO 20 Tryz.f20 C [.c (.sl 0 0 L.length c)] [(0, Ent.mk false (pcell L) 0)] 1 R :=
 run_cut2 [false] ([true]) [(1, 2), (4, 2), (5, 2)] Tryz.func20 (by kernel_rfl) h (cr_same c0 (cr_cons c1 (cr_same c2 (cr_same c3 cr_nil)))) lo hF z
theorem deA_w0 (h : (decide ((j : Int) < (L.length : Int)) && (Nat.ble ((j : Int).toNat * 5 + 5) (pcell M).length && true)) = true) (c0 : pe (.ag (((pcell M).drop ((j : Int).toNat * 5)).take 5)) = pe (.ag i.cs)) (lo : Kn.Low ⟨[(3, .c (.sx 4 L.length)), (4, .c (.sl 12 0 L.length L.length)), (5, .c (.i (j : Int))), (6, .c (.w 20)), (7, .c (.w 22)), (8, .c (.i 0))], [(0, Ent.mk false (pcell L) 0), (4, Ent.mk true (pcell M) r), (12, Ent.mk true (rcell A) 0), (20, Ent.mk true i.cs 0), (22, Ent.mk true [.b false, .b false, .b false, .b false, .b false, .b false] 0)], 24⟩) (hF : ∀ k, C.F k → k < 24) (z : AR 20 Tryz.f20 C 1 ⟨[(3, .c (.sx 4 L.length)), (4, .c (.sl 12 0 L.length L.length)), (5, .c (.i (j : Int))), (6, .c (.w 20)), (7, .c (.w 22)), (8, .c (.i 0))], [(0, Ent.mk false (pcell L) 0), (4, Ent.mk true (pcell M) r), (12, Ent.mk true (rcell A) 0), (20, Ent.mk true i.cs 0), (22, Ent.mk true [.b false, .b false, .b false, .b false, .b false, .b false] 0)], 24⟩ R) :
  AR 20 Tryz.f20 C 0 (deAK L M A j r) R :=
 run_cut2 [true] ([true]) [(8, 3)] Tryz.func20 (by kernel_rfl) h (cr_same c0 cr_nil) lo hF z
theorem deEnd_w0 (hk : EKeys n [] (some 4) ⟨.c (.sx 4 L.length), [], some (4, Ent.mk true (pcell M) r)⟩) :
  AR 20 Tryz.f20 (cx w β n []) 0 (Kn.mk [(3, .c (.sx 4 L.length)), (4, .c (.sl 12 0 L.length L.length)), (5, .c (.i (-1)))] [(0, Ent.mk false (pcell L) 0), (4, Ent.mk true (pcell M) r), (12, Ent.mk true (rcell A) 0)] 14) (REff w β ⟨.c (.sx 4 L.length), [], some (4, Ent.mk true (pcell M) r)⟩) :=
 run_eff2 [] (some 4) [false] ([true]) [] Tryz.func20 hk (by kernel_rfl) rfl cr_nil
theorem deLN_w0 (h : (decide ((x : Int) < 6) && (i.op != 15 && (i.op != 12 && (decide ((↑(j + 1) : Int) < (L.length : Int)) && (decide ((x : Int) < 6) && (AC.isB ((rcell A)[0 + (↑(j + 1) : Int).toNat * 6 + (x : Int).toNat * 1]?.getD (.b false)) && Nat.blt (0 + (↑(j + 1) : Int).toNat * 6 + (x : Int).toNat * 1) (rcell A).length && (decide ((x : Int) < 6) && (Nat.ble ((x : Int).toNat * 1 + List.length [AC.b g]) (bcs u).length && true && (!i.op == 12 && true))))))))) = true) (c0 : pe (.c (.i (IntKind.i64.wrap ((j : Int) + 1)))) = pe (.c (.i (↑(j + 1) : Int)))) (c1 : pe (.c (.b (AC.asB ((rcell A)[0 + (↑(j + 1) : Int).toNat * 6 + (x : Int).toNat * 1]?.getD (.b false))))) = pe (.c (.b g))) (c2 : we 22 (splice (bcs u) ((x : Int).toNat * 1) [.b g]) = we 22 (bcs (u.set x g))) (c3 : Ok 60 [.c (.i i.op)] (.c (.b false))) (c4 : pe (.c (.i (IntKind.i64.wrap ((x : Int) + 1)))) = pe (.c (.i (↑(x + 1) : Int)))) (lo : Kn.Low (deLNK L M A j r (x + 1) i (u.set x g))) (hF : ∀ k, C.F k → k < 24) (z : AR 20 Tryz.f20 C 1 (deLNK L M A j r (x + 1) i (u.set x g)) R) :
  AR 20 Tryz.f20 C 1 (deLNK L M A j r x i u) R :=
 run_cut2 [true, true, true, false, false] ([true]) [(14, 3), (14, 7), (14, 9), (16, 3), (16, 7), (16, 10), (16, 14), (16, 17), (12, 1)] Tryz.func20 (by kernel_rfl) h (cr_same c0 (cr_same c1 (cr_same c2 (cr_cons c3 (cr_same c4 cr_nil))))) lo hF z
theorem deLB1_w0 (h : (decide ((x : Int) < 6) && (i.op != 15 && (i.op != 12 && (decide ((↑(j + 1) : Int) < (L.length : Int)) && (decide ((x : Int) < 6) && (AC.isB ((rcell A)[0 + (↑(j + 1) : Int).toNat * 6 + (x : Int).toNat * 1]?.getD (.b false)) && Nat.blt (0 + (↑(j + 1) : Int).toNat * 6 + (x : Int).toNat * 1) (rcell A).length && (decide ((x : Int) < 6) && (Nat.ble ((x : Int).toNat * 1 + List.length [AC.b g]) (bcs u).length && true && (!i.op == 12 && (decide ((x : Int) < 6) && (AC.isB ((bcs (u.set x g))[(x : Int).toNat * 1]?.getD (.b false)) && Nat.blt ((x : Int).toNat * 1) (bcs (u.set x g)).length && (g2 && (decide ((x : Int) < 6) && (Nat.ble ((x : Int).toNat * 1 + 1) (bcs (u.set x g)).length && true && true)))))))))))))) = true) (c0 : pe (.c (.i (IntKind.i64.wrap ((j : Int) + 1)))) = pe (.c (.i (↑(j + 1) : Int)))) (c1 : pe (.c (.b (AC.asB ((rcell A)[0 + (↑(j + 1) : Int).toNat * 6 + (x : Int).toNat * 1]?.getD (.b false))))) = pe (.c (.b g))) (c2 : we 22 (splice (bcs u) ((x : Int).toNat * 1) [.b g]) = we 22 (bcs (u.set x g))) (c3 : Ok 60 [.c (.i i.op)] (.c (.b true))) (c4 : pe (.c (.b (AC.asB ((bcs (u.set x g))[(x : Int).toNat * 1]?.getD (.b false))))) = pe (.c (.b g2))) (c5 : we 22 (splice (bcs (u.set x g)) ((x : Int).toNat * 1) [.b true]) = we 22 (bcs u2)) (c6 : pe (.c (.i (IntKind.i64.wrap ((x : Int) + 1)))) = pe (.c (.i (↑(x + 1) : Int)))) (lo : Kn.Low (deLNK L M A j r (x + 1) i u2)) (hF : ∀ k, C.F k → k < 24) (z : AR 20 Tryz.f20 C 1 (deLNK L M A j r (x + 1) i u2) R) :
  AR 20 Tryz.f20 C 1 (deLNK L M A j r x i u) R :=
 run_cut2 [true, true, true, false, true, true] ([true]) [(14, 3), (14, 7), (14, 9), (16, 3), (16, 7), (16, 10), (16, 14), (16, 17), (12, 1)] Tryz.func20 (by kernel_rfl) h (cr_same c0 (cr_same c1 (cr_same c2 (cr_cons c3 (cr_same c4 (cr_same c5 (cr_same c6 cr_nil))))))) lo hF z
theorem deLB0_w0 (h : (decide ((x : Int) < 6) && (i.op != 15 && (i.op != 12 && (decide ((↑(j + 1) : Int) < (L.length : Int)) && (decide ((x : Int) < 6) && (AC.isB ((rcell A)[0 + (↑(j + 1) : Int).toNat * 6 + (x : Int).toNat * 1]?.getD (.b false)) && Nat.blt (0 + (↑(j + 1) : Int).toNat * 6 + (x : Int).toNat * 1) (rcell A).length && (decide ((x : Int) < 6) && (Nat.ble ((x : Int).toNat * 1 + List.length [AC.b g]) (bcs u).length && true && (!i.op == 12 && (decide ((x : Int) < 6) && (AC.isB ((bcs (u.set x g))[(x : Int).toNat * 1]?.getD (.b false)) && Nat.blt ((x : Int).toNat * 1) (bcs (u.set x g)).length && (!g2 && (decide (0 ≤ (↑(j + 1) : Int) + i.of) && decide ((↑(j + 1) : Int) + i.of < (L.length : Int)) && (decide ((x : Int) < 6) && (AC.isB ((rcell A)[0 + ((↑(j + 1) : Int) + i.of).toNat * 6 + (x : Int).toNat * 1]?.getD (.b false)) && Nat.blt (0 + ((↑(j + 1) : Int) + i.of).toNat * 6 + (x : Int).toNat * 1) (rcell A).length && (decide ((x : Int) < 6) && (Nat.ble ((x : Int).toNat * 1 + List.length [AC.b g3]) (bcs (u.set x g)).length && true && true))))))))))))))))) = true) (c0 : pe (.c (.i (IntKind.i64.wrap ((j : Int) + 1)))) = pe (.c (.i (↑(j + 1) : Int)))) (c1 : pe (.c (.b (AC.asB ((rcell A)[0 + (↑(j + 1) : Int).toNat * 6 + (x : Int).toNat * 1]?.getD (.b false))))) = pe (.c (.b g))) (c2 : we 22 (splice (bcs u) ((x : Int).toNat * 1) [.b g]) = we 22 (bcs (u.set x g))) (c3 : Ok 60 [.c (.i i.op)] (.c (.b true))) (c4 : pe (.c (.b (AC.asB ((bcs (u.set x g))[(x : Int).toNat * 1]?.getD (.b false))))) = pe (.c (.b g2))) (c5 : pe (.c (.i (IntKind.i64.wrap ((j : Int) + 1)))) = pe (.c (.i (↑(j + 1) : Int)))) (c6 : pe (.c (.i (IntKind.i64.wrap ((↑(j + 1) : Int) + i.of)))) = pe (.c (.i ((↑(j + 1) : Int) + i.of)))) (c7 : pe (.c (.b (AC.asB ((rcell A)[0 + ((↑(j + 1) : Int) + i.of).toNat * 6 + (x : Int).toNat * 1]?.getD (.b false))))) = pe (.c (.b g3))) (c8 : we 22 (splice (bcs (u.set x g)) ((x : Int).toNat * 1) [.b g3]) = we 22 (bcs u2)) (c9 : pe (.c (.i (IntKind.i64.wrap ((x : Int) + 1)))) = pe (.c (.i (↑(x + 1) : Int)))) (lo : Kn.Low (deLNK L M A j r (x + 1) i u2)) (hF : ∀ k, C.F k → k < 24) (z : AR 20 Tryz.f20 C 1 (deLNK L M A j r (x + 1) i u2) R) :
  AR 20 Tryz.f20 C 1 (deLNK L M A j r x i u) R :=
 run_cut2 [true, true, true, false, true, false] ([true]) [(14, 3), (14, 7), (14, 9), (16, 3), (16, 7), (16, 10), (16, 14), (16, 17), (12, 1)] Tryz.func20 (by kernel_rfl) h (cr_same c0 (cr_same c1 (cr_same c2 (cr_cons c3 (cr_same c4 (cr_same c5 (cr_same c6 (cr_same c7 (cr_same c8 (cr_same c9 cr_nil)))))))))) lo hF z
theorem deLJ1_w0 (h : (decide ((x : Int) < 6) && (i.op != 15 && (!i.op != 12 && (i.op == 12 && (decide ((x : Int) < 6) && (AC.isB ((bcs u)[(x : Int).toNat * 1]?.getD (.b false)) && Nat.blt ((x : Int).toNat * 1) (bcs u).length && (g2 && (decide ((x : Int) < 6) && (Nat.ble ((x : Int).toNat * 1 + 1) (bcs u).length && true && true))))))))) = true) (c0 : pe (.c (.b (AC.asB ((bcs u)[(x : Int).toNat * 1]?.getD (.b false))))) = pe (.c (.b g2))) (c1 : we 22 (splice (bcs u) ((x : Int).toNat * 1) [.b true]) = we 22 (bcs u2)) (c2 : pe (.c (.i (IntKind.i64.wrap ((x : Int) + 1)))) = pe (.c (.i (↑(x + 1) : Int)))) (lo : Kn.Low (deLNK L M A j r (x + 1) i u2)) (hF : ∀ k, C.F k → k < 24) (z : AR 20 Tryz.f20 C 1 (deLNK L M A j r (x + 1) i u2) R) :
  AR 20 Tryz.f20 C 1 (deLNK L M A j r x i u) R :=
 run_cut2 [true, true, false, true, true, true] ([true]) [(14, 3), (14, 7), (14, 9), (16, 3), (16, 7), (16, 10), (16, 14), (16, 17), (12, 1)] Tryz.func20 (by kernel_rfl) h (cr_same c0 (cr_same c1 (cr_same c2 cr_nil))) lo hF z
theorem deLJ0_w0 (h : (decide ((x : Int) < 6) && (i.op != 15 && (!i.op != 12 && (i.op == 12 && (decide ((x : Int) < 6) && (AC.isB ((bcs u)[(x : Int).toNat * 1]?.getD (.b false)) && Nat.blt ((x : Int).toNat * 1) (bcs u).length && (!g2 && (decide (0 ≤ (↑(j + 1) : Int) + i.of) && decide ((↑(j + 1) : Int) + i.of < (L.length : Int)) && (decide ((x : Int) < 6) && (AC.isB ((rcell A)[0 + ((↑(j + 1) : Int) + i.of).toNat * 6 + (x : Int).toNat * 1]?.getD (.b false)) && Nat.blt (0 + ((↑(j + 1) : Int) + i.of).toNat * 6 + (x : Int).toNat * 1) (rcell A).length && (decide ((x : Int) < 6) && (Nat.ble ((x : Int).toNat * 1 + List.length [AC.b g3]) (bcs u).length && true && true)))))))))))) = true) (c0 : pe (.c (.b (AC.asB ((bcs u)[(x : Int).toNat * 1]?.getD (.b false))))) = pe (.c (.b g2))) (c1 : pe (.c (.i (IntKind.i64.wrap ((j : Int) + 1)))) = pe (.c (.i (↑(j + 1) : Int)))) (c2 : pe (.c (.i (IntKind.i64.wrap ((↑(j + 1) : Int) + i.of)))) = pe (.c (.i ((↑(j + 1) : Int) + i.of)))) (c3 : pe (.c (.b (AC.asB ((rcell A)[0 + ((↑(j + 1) : Int) + i.of).toNat * 6 + (x : Int).toNat * 1]?.getD (.b false))))) = pe (.c (.b g3))) (c4 : we 22 (splice (bcs u) ((x : Int).toNat * 1) [.b g3]) = we 22 (bcs u2)) (c5 : pe (.c (.i (IntKind.i64.wrap ((x : Int) + 1)))) = pe (.c (.i (↑(x + 1) : Int)))) (lo : Kn.Low (deLNK L M A j r (x + 1) i u2)) (hF : ∀ k, C.F k → k < 24) (z : AR 20 Tryz.f20 C 1 (deLNK L M A j r (x + 1) i u2) R) :
  AR 20 Tryz.f20 C 1 (deLNK L M A j r x i u) R :=
 run_cut2 [true, true, false, true, true, false] ([true]) [(14, 3), (14, 7), (14, 9), (16, 3), (16, 7), (16, 10), (16, 14), (16, 17), (12, 1)] Tryz.func20 (by kernel_rfl) h (cr_same c0 (cr_same c1 (cr_same c2 (cr_same c3 (cr_same c4 (cr_same c5 cr_nil)))))) lo hF z
theorem deLX_w0 (h : (decide ((x : Int) < 6) && (!i.op != 15 && (!i.op == 12 && true))) = true) (c0 : Ok 60 [.c (.i i.op)] (.c (.b false))) (c1 : pe (.c (.i (IntKind.i64.wrap ((x : Int) + 1)))) = pe (.c (.i (↑(x + 1) : Int)))) (lo : Kn.Low (deLNK L M A j r (x + 1) i u)) (hF : ∀ k, C.F k → k < 24) (z : AR 20 Tryz.f20 C 1 (deLNK L M A j r (x + 1) i u) R) :
  AR 20 Tryz.f20 C 1 (deLNK L M A j r x i u) R :=
 run_cut2 [true, false, false, false, false] ([true]) [(14, 3), (14, 7), (14, 9), (16, 3), (16, 7), (16, 10), (16, 14), (16, 17), (12, 1)] Tryz.func20 (by kernel_rfl) h (cr_cons c0 (cr_same c1 cr_nil)) lo hF z
theorem deMD_w0 (h : (decide (0 ≤ i.d) && decide (i.d < 6) && (AC.isB ((bcs u)[(i.d).toNat * 1]?.getD (.b false)) && Nat.blt ((i.d).toNat * 1) (bcs u).length && (!g && (decide ((j : Int) < (L.length : Int)) && (Nat.ble ((j : Int).toNat * 5 + 5) (pcell M).length && true && (decide ((j : Int) < (L.length : Int)) && (Nat.ble ((j : Int).toNat * 5 + 5) (pcell (M.set j onI)).length && true))))))) = true) (c0 : Ok 29 [.c (.i i.op), .c (.i 1), .c (.i 10)] (.c (.b true))) (c1 : pe (.c (.b (AC.asB ((bcs u)[(i.d).toNat * 1]?.getD (.b false))))) = pe (.c (.b g))) (c2 : Ok 57 [] (.ag onI.cs)) (c3 : we 4 (splice (pcell M) ((j : Int).toNat * 5) onI.cs) = we 4 (pcell (M.set j onI))) (c4 : pe (.ag (((pcell (M.set j onI)).drop ((j : Int).toNat * 5)).take 5)) = pe (.ag onI.cs)) (c5 : Ok 36 [.ag [.i 12, .i 0, .i 0, .u 0#64, .i 0]] (.c nilSl)) (lo : Kn.Low (deE0_K L (M.set j onI) A j 0 u)) (hF : ∀ k, C.F k → k < 45) (z : AR 20 Tryz.f20 C 2 (deE0_K L (M.set j onI) A j 0 u) R) :
  AR 20 Tryz.f20 C 1 (deMDK L M A j r i u) R :=
 run_cut2 [false, true, true] ([true]) [(18, 3), (19, 4), (20, 3), (21, 3)] Tryz.func20 (by kernel_rfl) h (cr_cons c0 (cr_same c1 (cr_cons c2 (cr_same c3 (cr_same c4 (cr_cons c5 cr_nil)))))) lo hF z
theorem deMS1_w0 (h : (decide (0 ≤ i.d) && decide (i.d < 6) && (AC.isB ((bcs u)[(i.d).toNat * 1]?.getD (.b false)) && Nat.blt ((i.d).toNat * 1) (bcs u).length && (!!g && (decide (0 ≤ i.d) && decide (i.d < 6) && (Nat.ble ((i.d).toNat * 1 + 1) (bcs u).length && true && true))))) = true) (c0 : Ok 29 [.c (.i i.op), .c (.i 1), .c (.i 10)] (.c (.b true))) (c1 : pe (.c (.b (AC.asB ((bcs u)[(i.d).toNat * 1]?.getD (.b false))))) = pe (.c (.b g))) (c2 : we 22 (splice (bcs u) ((i.d).toNat * 1) [.b false]) = we 22 (bcs (u.set (i.d).toNat false))) (c3 : CO 36 [.ag i.cs] [] (Eff.mk (.c (.sx 39 q)) [] (some (39, Ent.mk true U 1)))) (lo : Kn.Low ⟨[(3, .c (.sx 4 L.length)), (4, .c (.sl 12 0 L.length L.length)), (5, .c (.i (j : Int))), (7, .c (.w 22)), (9, .c (.sx 39 q)), (10, .c (.i 0))], [(0, Ent.mk false (pcell L) 0), (4, Ent.mk true (pcell M) r), (12, Ent.mk true (rcell A) 0), (22, Ent.mk true (bcs (u.set (i.d).toNat false)) 0), (39, Ent.mk true U 1)], 45⟩) (hF : ∀ k, C.F k → k < 45) (z : AR 20 Tryz.f20 C 2 ⟨[(3, .c (.sx 4 L.length)), (4, .c (.sl 12 0 L.length L.length)), (5, .c (.i (j : Int))), (7, .c (.w 22)), (9, .c (.sx 39 q)), (10, .c (.i 0))], [(0, Ent.mk false (pcell L) 0), (4, Ent.mk true (pcell M) r), (12, Ent.mk true (rcell A) 0), (22, Ent.mk true (bcs (u.set (i.d).toNat false)) 0), (39, Ent.mk true U 1)], 45⟩ R) :
  AR 20 Tryz.f20 C 1 (deMDK L M A j r i u) R :=
 run_cut2 [false, true, false] ([true]) [(18, 3), (19, 4), (20, 3), (21, 3)] Tryz.func20 (by kernel_rfl) h (cr_cons c0 (cr_same c1 (cr_same c2 (cr_cons c3 cr_nil)))) lo hF z
theorem deMS0_w0 (h : (decide (0 ≤ i.d) && decide (i.d < 6) && (AC.isB ((bcs u)[(i.d).toNat * 1]?.getD (.b false)) && Nat.blt ((i.d).toNat * 1) (bcs u).length && (!!g && (decide (0 ≤ i.d) && decide (i.d < 6) && (Nat.ble ((i.d).toNat * 1 + 1) (bcs u).length && true && true))))) = true) (c0 : Ok 29 [.c (.i i.op), .c (.i 1), .c (.i 10)] (.c (.b true))) (c1 : pe (.c (.b (AC.asB ((bcs u)[(i.d).toNat * 1]?.getD (.b false))))) = pe (.c (.b g))) (c2 : we 22 (splice (bcs u) ((i.d).toNat * 1) [.b false]) = we 22 (bcs (u.set (i.d).toNat false))) (c3 : Ok 36 [.ag i.cs] (.c nilSl)) (lo : Kn.Low (deE0_K L M A j r (u.set (i.d).toNat false))) (hF : ∀ k, C.F k → k < 45) (z : AR 20 Tryz.f20 C 2 (deE0_K L M A j r (u.set (i.d).toNat false)) R) :
  AR 20 Tryz.f20 C 1 (deMDK L M A j r i u) R :=
 run_cut2 [false, true, false] ([true]) [(18, 3), (19, 4), (20, 3), (21, 3)] Tryz.func20 (by kernel_rfl) h (cr_cons c0 (cr_same c1 (cr_same c2 (cr_cons c3 cr_nil)))) lo hF z
theorem deMN1_w0 (c0 : Ok 29 [.c (.i i.op), .c (.i 1), .c (.i 10)] (.c (.b false))) (c1 : CO 36 [.ag i.cs] [] (Eff.mk (.c (.sx 30 q)) [] (some (30, Ent.mk true U 1)))) (lo : Kn.Low ⟨[(3, .c (.sx 4 L.length)), (4, .c (.sl 12 0 L.length L.length)), (5, .c (.i (j : Int))), (7, .c (.w 22)), (9, .c (.sx 30 q)), (10, .c (.i 0))], [(0, Ent.mk false (pcell L) 0), (4, Ent.mk true (pcell M) r), (12, Ent.mk true (rcell A) 0), (22, Ent.mk true (bcs u) 0), (30, Ent.mk true U 1)], 45⟩) (hF : ∀ k, C.F k → k < 45) (z : AR 20 Tryz.f20 C 2 ⟨[(3, .c (.sx 4 L.length)), (4, .c (.sl 12 0 L.length L.length)), (5, .c (.i (j : Int))), (7, .c (.w 22)), (9, .c (.sx 30 q)), (10, .c (.i 0))], [(0, Ent.mk false (pcell L) 0), (4, Ent.mk true (pcell M) r), (12, Ent.mk true (rcell A) 0), (22, Ent.mk true (bcs u) 0), (30, Ent.mk true U 1)], 45⟩ R) :
  AR 20 Tryz.f20 C 1 (deMDK L M A j r i u) R :=
 run_cut2 [false, false] ([true]) [(18, 3), (19, 4), (20, 3), (21, 3)] Tryz.func20 (by kernel_rfl) rfl (cr_cons c0 (cr_cons c1 cr_nil)) lo hF z
theorem deMN0_w0 (c0 : Ok 29 [.c (.i i.op), .c (.i 1), .c (.i 10)] (.c (.b false))) (c1 : Ok 36 [.ag i.cs] (.c nilSl)) (lo : Kn.Low (deE0_K L M A j r u)) (hF : ∀ k, C.F k → k < 45) (z : AR 20 Tryz.f20 C 2 (deE0_K L M A j r u) R) :
  AR 20 Tryz.f20 C 1 (deMDK L M A j r i u) R :=
 run_cut2 [false, false] ([true]) [(18, 3), (19, 4), (20, 3), (21, 3)] Tryz.func20 (by kernel_rfl) rfl (cr_cons c0 (cr_cons c1 cr_nil)) lo hF z
theorem deU39__w0 (h : (decide ((x : Int) < (q : Int)) && (decide ((x : Int) < (q : Int)) && (AC.isI (U[(x : Int).toNat * 1]?.getD (.b false)) && Nat.blt ((x : Int).toNat * 1) U.length && (decide (0 ≤ d) && decide (d < 6) && (Nat.ble (d.toNat * 1 + 1) (bcs u).length && true && true))))) = true) (c0 : pe (.c (.i (AC.asI (U[(x : Int).toNat * 1]?.getD (.b false))))) = pe (.c (.i d))) (c1 : we 22 (splice (bcs u) (d.toNat * 1) [.b true]) = we 22 (bcs (u.set d.toNat true))) (c2 : pe (.c (.i (IntKind.i64.wrap ((x : Int) + 1)))) = pe (.c (.i (↑(x + 1) : Int)))) (lo : Kn.Low (deU39_K L M A j r (x + 1) q (u.set d.toNat true) U)) (hF : ∀ k, C.F k → k < 45) (z : AR 20 Tryz.f20 C 2 (deU39_K L M A j r (x + 1) q (u.set d.toNat true) U) R) :
  AR 20 Tryz.f20 C 2 (deU39_K L M A j r x q u U) R :=
 run_cut2 [true] ([true]) [(26, 3), (26, 5), (25, 1)] Tryz.func20 (by kernel_rfl) h (cr_same c0 (cr_same c1 (cr_same c2 cr_nil))) lo hF z
theorem deE39__w0 (h : (!decide ((x : Int) < (q : Int)) && (decide ((j : Int) < (L.length : Int)) && (Nat.ble (0 + (j : Int).toNat * 6 + (bcs u).length) (rcell A).length && true && true))) = true) (c0 : we 12 (splice (rcell A) (0 + (j : Int).toNat * 6) (bcs u)) = we 12 (rcell (A.set j u))) (c1 : pe (.c (.i (IntKind.i64.wrap ((j : Int) - 1)))) = pe (.c (.i ((j : Int) - 1)))) (lo : Kn.Low ⟨[(3, .c (.sx 4 L.length)), (4, .c (.sl 12 0 L.length L.length)), (5, .c (.i ((j : Int) - 1)))], [(0, Ent.mk false (pcell L) 0), (4, Ent.mk true (pcell M) r), (12, Ent.mk true (rcell (A.set j u)) 0)], 14⟩) (hF : ∀ k, C.F k → k < 14) (z : AR 20 Tryz.f20 C 0 ⟨[(3, .c (.sx 4 L.length)), (4, .c (.sl 12 0 L.length L.length)), (5, .c (.i ((j : Int) - 1)))], [(0, Ent.mk false (pcell L) 0), (4, Ent.mk true (pcell M) r), (12, Ent.mk true (rcell (A.set j u)) 0)], 14⟩ R) :
  AR 20 Tryz.f20 C 2 (deU39_K L M A j r x q u U) R :=
 run_cut2 [false] ([true]) [(27, 4), (7, 1)] Tryz.func20 (by kernel_rfl) h (cr_same c0 (cr_same c1 cr_nil)) lo hF z
theorem deU30__w0 (h : (decide ((x : Int) < (q : Int)) && (decide ((x : Int) < (q : Int)) && (AC.isI (U[(x : Int).toNat * 1]?.getD (.b false)) && Nat.blt ((x : Int).toNat * 1) U.length && (decide (0 ≤ d) && decide (d < 6) && (Nat.ble (d.toNat * 1 + 1) (bcs u).length && true && true))))) = true) (c0 : pe (.c (.i (AC.asI (U[(x : Int).toNat * 1]?.getD (.b false))))) = pe (.c (.i d))) (c1 : we 22 (splice (bcs u) (d.toNat * 1) [.b true]) = we 22 (bcs (u.set d.toNat true))) (c2 : pe (.c (.i (IntKind.i64.wrap ((x : Int) + 1)))) = pe (.c (.i (↑(x + 1) : Int)))) (lo : Kn.Low (deU30_K L M A j r (x + 1) q (u.set d.toNat true) U)) (hF : ∀ k, C.F k → k < 45) (z : AR 20 Tryz.f20 C 2 (deU30_K L M A j r (x + 1) q (u.set d.toNat true) U) R) :
  AR 20 Tryz.f20 C 2 (deU30_K L M A j r x q u U) R :=
 run_cut2 [true] ([true]) [(26, 3), (26, 5), (25, 1)] Tryz.func20 (by kernel_rfl) h (cr_same c0 (cr_same c1 (cr_same c2 cr_nil))) lo hF z
theorem deE30__w0 (h : (!decide ((x : Int) < (q : Int)) && (decide ((j : Int) < (L.length : Int)) && (Nat.ble (0 + (j : Int).toNat * 6 + (bcs u).length) (rcell A).length && true && true))) = true) (c0 : we 12 (splice (rcell A) (0 + (j : Int).toNat * 6) (bcs u)) = we 12 (rcell (A.set j u))) (c1 : pe (.c (.i (IntKind.i64.wrap ((j : Int) - 1)))) = pe (.c (.i ((j : Int) - 1)))) (lo : Kn.Low ⟨[(3, .c (.sx 4 L.length)), (4, .c (.sl 12 0 L.length L.length)), (5, .c (.i ((j : Int) - 1)))], [(0, Ent.mk false (pcell L) 0), (4, Ent.mk true (pcell M) r), (12, Ent.mk true (rcell (A.set j u)) 0)], 14⟩) (hF : ∀ k, C.F k → k < 14) (z : AR 20 Tryz.f20 C 0 ⟨[(3, .c (.sx 4 L.length)), (4, .c (.sl 12 0 L.length L.length)), (5, .c (.i ((j : Int) - 1)))], [(0, Ent.mk false (pcell L) 0), (4, Ent.mk true (pcell M) r), (12, Ent.mk true (rcell (A.set j u)) 0)], 14⟩ R) :
  AR 20 Tryz.f20 C 2 (deU30_K L M A j r x q u U) R :=
 run_cut2 [false] ([true]) [(27, 4), (7, 1)] Tryz.func20 (by kernel_rfl) h (cr_same c0 (cr_same c1 cr_nil)) lo hF z
theorem deE0__w0 (h : (decide ((j : Int) < (L.length : Int)) && (Nat.ble (0 + (j : Int).toNat * 6 + (bcs u).length) (rcell A).length && true && true)) = true) (c0 : we 12 (splice (rcell A) (0 + (j : Int).toNat * 6) (bcs u)) = we 12 (rcell (A.set j u))) (c1 : pe (.c (.i (IntKind.i64.wrap ((j : Int) - 1)))) = pe (.c (.i ((j : Int) - 1)))) (lo : Kn.Low ⟨[(3, .c (.sx 4 L.length)), (4, .c (.sl 12 0 L.length L.length)), (5, .c (.i ((j : Int) - 1)))], [(0, Ent.mk false (pcell L) 0), (4, Ent.mk true (pcell M) r), (12, Ent.mk true (rcell (A.set j u)) 0)], 14⟩) (hF : ∀ k, C.F k → k < 14) (z : AR 20 Tryz.f20 C 0 ⟨[(3, .c (.sx 4 L.length)), (4, .c (.sl 12 0 L.length L.length)), (5, .c (.i ((j : Int) - 1)))], [(0, Ent.mk false (pcell L) 0), (4, Ent.mk true (pcell M) r), (12, Ent.mk true (rcell (A.set j u)) 0)], 14⟩ R) :
  AR 20 Tryz.f20 C 2 (deE0_K L M A j r u) R :=
 run_cut2 [false] ([true]) [(27, 4), (7, 1)] Tryz.func20 (by kernel_rfl) h (cr_same c0 (cr_same c1 cr_nil)) lo hF z
end
section
abbrev scRK (L L2 : List Ins) (q c d j : Nat) : Kn := ⟨[(0, .c (.sl 0 0 q c)), (1, .c (.sl 1 0 q d)), (5, .c (.i (j : Int)))], [(0, Ent.mk false (pcell L) 0), (1, Ent.mk false (pcell L2) 0)], 2⟩
variable {L L2 : List Ins} {q c d j n : Nat} {C : Cx} {R : Ending → World → Prop} {u : Ins} {w : World} {β : Bs}
theorem scTop_w0 (h : (!(q : Int) != (q : Int) && true) = true) (lo : Kn.Low ⟨[(0, .c (.sl 0 0 q c)), (1, .c (.sl 1 0 q d)), (5, .c (.i 0))], [(0, Ent.mk false (pcell L) 0), (1, Ent.mk false (pcell L2) 0)], 2⟩) (hF : ∀ k, C.F k → k < 2) (z : AR 22 Tryz.f22 C 0 ⟨[(0, .c (.sl 0 0 q c)), (1, .c (.sl 1 0 q d)), (5, .c (.i 0))], [(0, Ent.mk false (pcell L) 0), (1, Ent.mk false (pcell L2) 0)], 2⟩ R) :
  BO 22 Tryz.f22 C [.c (.sl 0 0 q c), .c (.sl 1 0 q d)] [(0, Ent.mk false (pcell L) 0), (1, Ent.mk false (pcell L2) 0)] 2 R :=
 run_cut2 [false] ([true]) [] Tryz.func22 (by kernel_rfl) h cr_nil lo hF z
theorem scR_w0 (h : (decide ((j : Int) < (q : Int)) && (decide ((j : Int) < (q : Int)) && (Nat.ble (0 + (j : Int).toNat * 5 + 5) (pcell L).length && (decide ((j : Int) < (q : Int)) && (Nat.ble (0 + (j : Int).toNat * 5 + 5) (pcell L2).length && (!!eqCs u.cs u.cs && true)))))) = true) (c0 : pe (.ag (((pcell L).drop (0 + (j : Int).toNat * 5)).take 5)) = pe (.ag u.cs)) (c1 : pe (.ag (((pcell L2).drop (0 + (j : Int).toNat * 5)).take 5)) = pe (.ag u.cs)) (c2 : pe (.c (.i (IntKind.i64.wrap ((j : Int) + 1)))) = pe (.c (.i (↑(j + 1) : Int)))) (lo : Kn.Low (scRK L L2 q c d (j + 1))) (hF : ∀ k, C.F k → k < 2) (z : AR 22 Tryz.f22 C 0 (scRK L L2 q c d (j + 1)) R) :
  AR 22 Tryz.f22 C 0 (scRK L L2 q c d j) R :=
 run_cut2 [true, false] ([true]) [(6, 3), (6, 7), (5, 1)] Tryz.func22 (by kernel_rfl) h (cr_same c0 (cr_same c1 (cr_same c2 cr_nil))) lo hF z
theorem scE_w0 (h : (!decide ((j : Int) < (q : Int)) && true) = true) :
  AR 22 Tryz.f22 (cx w β n []) 0 (scRK L L2 q c d j) (REff w β ⟨.c (.b true), [], none⟩) :=
 run_eff2 [] none [false] ([true]) [] Tryz.func22 (ekeys0 rfl n) (by kernel_rfl) h cr_nil
end
section
variable {L : List Ins} {c n q : Nat} {e tr p : Int} {w : World} {β : Bs} {S S2 : List St}
end
end Go.Proofs.YtkigmocchaikgabGreat
