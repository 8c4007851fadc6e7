/- The contracts of the reference's least and greatest. -/
import Derived.Test.YtglollajdjgciaaM7
import Derived.Test.YtglollajdjgciaaBox
namespace Go.Proofs.Ytglollajdjgciaa
open Go.RowKit
attribute [local go_sem] w_and w_or w_xor w_andNot w_and1 w_and63 w_add w_sub w_mul w_sub1 w_add1 w_shl w_shl1 w_shr c_beq c_bne c_beq0 c_bne0 c_beq1 c_bne1 wrap_nv

theorem shr_and0 (v : BitVec 64) (i : Nat) : eqb (band (bshr v i) one) zero = !bit v i := by
  cases hb : bit v i
  · have h : ∀ j, bit (band (bshr v i) one) j = false := by
      intro j
      rw [bit_and', bit_shr]
      have ho : bit one j = decide (j = 0) := by
        have := bit_one_shl 0 j (by omega)
        rw [show bshl one 0 = one by unfold bshl; simp] at this
        exact this
      rw [ho]
      by_cases e : j = 0
      · subst e; rw [Nat.add_zero, hb]; rfl
      · simp [e]
    rw [(eqb_zero_iff _).2 fun j _ => h j]; rfl
  · have := shr_and1 v i
    rw [hb, eqb_iff] at this
    rw [this]; rfl
theorem has_is {v m x : BitVec 64} {b : Bool} (h : hasB v m x = b) (w : World) :
    Calls Try.prog 25 #[Bt v m, U x] w fun e w' => e = .returned (.bool b) ∧ Below w.heap.size w w' := h ▸ bitsHave_any v m x w

set_option maxRecDepth 100000 in
set_option maxHeartbeats 1000000 in
theorem refLeast_any (v m x : BitVec 64) (w : World) :
    Calls Try.prog 84 #[Bt v m, U x] w fun e w' => e = .returned (.tuple #[U (scanL v m x 64).1, .bool (scanL v m x 64).2]) ∧ Below w.heap.size w w' := by
  obtain ⟨hh, Hh⟩ : ∃ b, Hid (hasB v m x = b) := ⟨_, rfl⟩
  go_enter Try.func84, Try.ntmps84
  go_wp2_with fail
  refine (has_is Hh.out _).mono ?_
  rintro e w1 ⟨rfl, hb1⟩
  have hK := ((Kp.start w).add2 _ _ _).keep hb1
  go_wp2_with fail
  go_loopw [6, 7, 8] (fun b f i wr => ∃ k : Nat, k ≤ 64 ∧ i = N k ∧ b = U (scanL v m x k).1 ∧ f = .bool (scanL v m x k).2 ∧ Kp w wr [(w.heap.size, [U v, U m])]) (fun _ _ i _ => 64 - (intOf i).toNat)
  case atStart => exact ⟨0, by omega, rfl, rfl, by rw [scanL, Hh.out], hK⟩
  case round =>
    clear hK hb1
    obtain ⟨k, hk, rfl, rfl, rfl, hK⟩ := hrel
    obtain ⟨a0, a1, a2, a3, a4⟩ := hK.box.head.two
    have Hs : Hid (k < 64 → scanL v m x (k + 1) = if (scanL v m x k).2 then scanL v m x k else if okL v m x k then (candL v x k, true) else scanL v m x k) := fun _ => rfl
    have Ht : Hid ((scanL v m x k).2 = true → scanL v m x 64 = scanL v m x k) := fun h => scanL_stay v m x k 64 h hk
    have Hu : Hid (k = 64 → scanL v m x 64 = scanL v m x k) := fun h => by rw [h]
    generalize scanL v m x k = S at Hs Ht Hu ⊢
    obtain ⟨sb, sf⟩ := S
    by_cases hlt : k < 64
    · cases sf
      · have hA := shr_and1 x k
        have Hn := Hs.out hlt
        have Hok : Hid (okL v m x k = (!bit x k && hasB v m (candL v x k))) := rfl
        clear Hs Ht Hu
        have Hn : Hid _ := Hn
        obtain ⟨bx, hbx⟩ : ∃ b, Hid (bit x k = b) := ⟨_, rfl⟩
        rw [hbx.out] at hA Hok
        obtain ⟨bc, hbc⟩ : ∃ b, Hid (hasB v m (candL v x k) = b) := ⟨_, rfl⟩
        rw [hbc.out] at Hok
        cases bx
        · go_wp2_with fail
          go_quiet (fail)
          go_wp2_with fail
          go_quiet (fail)
          go_wp2_with fail
          refine (has_is (b := bc) hbc.out _).mono ?_
          rintro e w2 ⟨rfl, hb2⟩
          have hK2 := (hK.drew _).keep hb2
          cases bc
          · go_wp2_with fail
            exact ⟨⟨k + 1, by omega, by go_num, by rw [Hn.out, Hok.out]; rfl, by rw [Hn.out, Hok.out]; rfl, hK2⟩, by simp [intOf]; omega⟩
          · go_wp2_with fail
            exact ⟨⟨k + 1, by omega, by go_num, by rw [Hn.out, Hok.out]; rfl, by rw [Hn.out, Hok.out]; rfl, hK2⟩, by simp [intOf]; omega⟩
        · go_wp2_with fail
          exact ⟨⟨k + 1, by omega, by go_num, by rw [Hn.out, Hok.out]; rfl, by rw [Hn.out, Hok.out]; rfl, hK⟩, by simp [intOf]; omega⟩
      · have He : Hid _ := Ht.out rfl
        clear Hs Ht Hu
        go_wp2_with fail
        go_ret2
        rw [He.out]
        exact ⟨rfl, hK.bel⟩
    · have hk64 : k = 64 := by omega
      have He : Hid _ := Hu.out hk64
      clear Hs Ht Hu
      subst hk64
      go_wp2_with fail
      go_ret2
      rw [He.out]
      exact ⟨rfl, hK.bel⟩

set_option maxRecDepth 100000 in
set_option maxHeartbeats 1000000 in
theorem refGreat_any (v m x : BitVec 64) (w : World) :
    Calls Try.prog 85 #[Bt v m, U x] w fun e w' => e = .returned (.tuple #[U (scanG v m x 64).1, .bool (scanG v m x 64).2]) ∧ Below w.heap.size w w' := by
  obtain ⟨hh, Hh⟩ : ∃ b, Hid (hasB v m x = b) := ⟨_, rfl⟩
  go_enter Try.func85, Try.ntmps85
  go_wp2_with fail
  refine (has_is Hh.out _).mono ?_
  rintro e w1 ⟨rfl, hb1⟩
  have hK := ((Kp.start w).add2 _ _ _).keep hb1
  go_wp2_with fail
  go_loopw [6, 7, 8] (fun b f i wr => ∃ k : Nat, k ≤ 64 ∧ i = N k ∧ b = U (scanG v m x k).1 ∧ f = .bool (scanG v m x k).2 ∧ Kp w wr [(w.heap.size, [U v, U m])]) (fun _ _ i _ => 64 - (intOf i).toNat)
  case atStart => exact ⟨0, by omega, rfl, rfl, by rw [scanG, Hh.out], hK⟩
  case round =>
    clear hK hb1
    obtain ⟨k, hk, rfl, rfl, rfl, hK⟩ := hrel
    obtain ⟨a0, a1, a2, a3, a4⟩ := hK.box.head.two
    have Hs : Hid (k < 64 → scanG v m x (k + 1) = if (scanG v m x k).2 then scanG v m x k else if okG v m x k then (candG v m x k, true) else scanG v m x k) := fun _ => rfl
    have Ht : Hid ((scanG v m x k).2 = true → scanG v m x 64 = scanG v m x k) := fun h => scanG_stay v m x k 64 h hk
    have Hu : Hid (k = 64 → scanG v m x 64 = scanG v m x k) := fun h => by rw [h]
    generalize scanG v m x k = S at Hs Ht Hu ⊢
    obtain ⟨sb, sf⟩ := S
    by_cases hlt : k < 64
    · cases sf
      · have hA := shr_and0 x k
        have Hn := Hs.out hlt
        have Hok : Hid (okG v m x k = (bit x k && hasB v m (candG v m x k))) := rfl
        clear Hs Ht Hu
        have Hn : Hid _ := Hn
        obtain ⟨bx, hbx⟩ : ∃ b, Hid (bit x k = b) := ⟨_, rfl⟩
        rw [hbx.out] at hA Hok
        obtain ⟨bc, hbc⟩ : ∃ b, Hid (hasB v m (candG v m x k) = b) := ⟨_, rfl⟩
        rw [hbc.out] at Hok
        cases bx
        · go_wp2_with fail
          exact ⟨⟨k + 1, by omega, by go_num, by rw [Hn.out, Hok.out]; rfl, by rw [Hn.out, Hok.out]; rfl, hK⟩, by simp [intOf]; omega⟩
        · go_wp2_with fail
          go_quiet (fail)
          go_wp2_with fail
          refine (has_is (b := bc) hbc.out _).mono ?_
          rintro e w2 ⟨rfl, hb2⟩
          have hK2 := (hK.drew _).keep hb2
          cases bc
          · go_wp2_with fail
            exact ⟨⟨k + 1, by omega, by go_num, by rw [Hn.out, Hok.out]; rfl, by rw [Hn.out, Hok.out]; rfl, hK2⟩, by simp [intOf]; omega⟩
          · go_wp2_with fail
            exact ⟨⟨k + 1, by omega, by go_num, by rw [Hn.out, Hok.out]; rfl, by rw [Hn.out, Hok.out]; rfl, hK2⟩, by simp [intOf]; omega⟩
      · have He : Hid _ := Ht.out rfl
        clear Hs Ht Hu
        go_wp2_with fail
        go_ret2
        rw [He.out]
        exact ⟨rfl, hK.bel⟩
    · have hk64 : k = 64 := by omega
      have He : Hid _ := Hu.out hk64
      clear Hs Ht Hu
      subst hk64
      go_wp2_with fail
      go_ret2
      rw [He.out]
      exact ⟨rfl, hK.bel⟩

end Go.Proofs.Ytglollajdjgciaa
