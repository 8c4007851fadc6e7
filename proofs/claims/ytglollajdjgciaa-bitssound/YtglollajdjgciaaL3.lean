/- BitsSound, walked. -/
import Derived.Test.YtglollajdjgciaaW10
import Derived.Test.YtglollajdjgciaaL1b
import Derived.Test.YtglollajdjgciaaCls
import Derived.Deep.RegionWith
import Derived.Deep.CutBlock
import Derived.Deep.DeepCutAuto
namespace Go.Proofs.Ytglollajdjgciaa
open Go.RowKit Go.BigFrame
attribute [local go_sem] w_and w_or w_xor w_andNot w_and1 w_and63 w_add w_sub w_mul w_sub1 w_add1 w_shl w_shl1 w_shr c_beq c_bne c_beq0 c_bne0 c_beq1 c_bne1 wrap_nv

theorem six_six (y : BitVec 64) : six (band y 63#64) = six y := by
  unfold six
  have : band (band y 63#64) 63#64 = band y 63#64 := by
    unfold band
    rw [BitVec.and_assoc, BitVec.and_self]
  rw [this]
theorem snd_two (op : Int) (av am bv bm x y : BitVec 64) : ∃ v m c,
    Hid (∀ w, Calls Try.prog 28 #[N op, Bt av am, Bt bv bm] w fun e w' => e = .returned (.tuple #[Bt v m, N c]) ∧ Below w.heap.size w w')
    ∧ Hid (c = 1 ∨ c = 4 ∨ (c = 0 ∧ ∃ z, Hid (∀ w, Calls Try.prog 30 #[N op, U x, U y] w fun e w' => e = .returned (U z) ∧ Below w.heap.size w w')
      ∧ Hid (hasB av am x = true → hasB bv bm y = true → hasB v m z = true))) := by
  cases hr : (eqb (band av am) zero && eqb (band bv bm) zero)
  · exact ⟨zero, zero, 1, hid (fun w => two_wrong hr w), Or.inl rfl⟩
  · by_cases hop : 2 ≤ op ∧ op ≤ 7
    · exact ⟨_, _, 0, hid (fun w => two_ok hr hop w), Or.inr (Or.inr ⟨rfl, _, hid (fun w => number_two hop x y w), hid (fun h1 h2 => sound_two hop h1 h2)⟩)⟩
    · exact ⟨zero, zero, 4, hid (fun w => two_kind hr (by omega) w), Or.inr (Or.inl rfl)⟩
theorem snd_join (av am bv bm x : BitVec 64) : ∃ v m r,
    Hid (∀ w, Calls Try.prog 13 #[Bt av am, Bt bv bm] w fun e w' => e = .returned (.tuple #[Bt v m, N (er r)]) ∧ Below w.heap.size w w')
    ∧ Hid (r = true → (hasB av am x || hasB bv bm x) = true → hasB v m x = true) := by
  cases hr : (eqb (band av am) zero && eqb (band bv bm) zero)
  · exact ⟨zero, zero, false, hid (fun w => join_no hr w), hid (fun h => by cases h)⟩
  · exact ⟨_, _, true, hid (fun w => join_ok hr w), hid (fun _ h => sound_join (rightP hr).1 (rightP hr).2 h)⟩
theorem snd_meet (av am bv bm x : BitVec 64) : ∃ v m i r,
    Hid (∀ w, Calls Try.prog 14 #[Bt av am, Bt bv bm] w fun e w' => e = .returned (.tuple #[Bt v m, .bool i, N (er r)]) ∧ Below w.heap.size w w')
    ∧ Hid (r = true → (hasB av am x && hasB bv bm x) = (i && hasB v m x)) := by
  cases hr : (eqb (band av am) zero && eqb (band bv bm) zero)
  · exact ⟨zero, zero, false, false, hid (fun w => meet_wrong hr w), hid (fun h => by cases h)⟩
  · have hs := sound_meet (x := x) (rightP hr).1 (rightP hr).2
    cases hm : eqb (bandn (bxor av bv) (bor am bm)) zero
    · rw [hm] at hs
      exact ⟨zero, zero, false, true, hid (fun w => meet_no hr hm w), hid (fun _ => hs)⟩
    · rw [hm] at hs
      exact ⟨_, _, true, true, hid (fun w => meet_ok hr hm w), hid (fun _ => hs)⟩
theorem snd_shift (op : Int) (av am x y : BitVec 64) : ∃ v m c,
    Hid (∀ w, Calls Try.prog 15 #[N op, Bt av am, N (six y)] w fun e w' => e = .returned (.tuple #[Bt v m, N c]) ∧ Below w.heap.size w w')
    ∧ Hid (c = 1 ∨ c = 4 ∨ (c = 0 ∧ ∃ z, Hid (∀ w, Calls Try.prog 30 #[N op, U x, U (band y 63#64)] w fun e w' => e = .returned (U z) ∧ Below w.heap.size w w')
      ∧ Hid (hasB av am x = true → hasB v m z = true))) := by
  cases hr : eqb (band av am) zero
  · exact ⟨zero, zero, 1, hid (fun w => shift_wrong hr w), Or.inl rfl⟩
  · by_cases h8 : op = 8
    · subst h8
      exact ⟨_, _, 0, hid (fun w => shift_up hr (six_lt y) w), Or.inr (Or.inr ⟨rfl, _, hid (fun w => number_shl x _ w), hid (fun h => by rw [six_six]; exact sound_shl h _)⟩)⟩
    · by_cases h9 : op = 9
      · subst h9
        exact ⟨_, _, 0, hid (fun w => shift_down hr (six_lt y) w), Or.inr (Or.inr ⟨rfl, _, hid (fun w => number_shr x _ w), hid (fun h => by rw [six_six]; exact sound_shr h _)⟩)⟩
      · exact ⟨zero, zero, 4, hid (fun w => shift_kind hr (by simpa using h8) (by simpa using h9) w), Or.inr (Or.inl rfl)⟩

set_option maxRecDepth 100000 in
set_option maxHeartbeats 8000000 in
theorem bitsSound_any (op : Int) (av am bv bm x y : BitVec 64) (w : World) :
    Calls Try.prog 5 #[N op, Bt av am, Bt bv bm, U x, U y] w fun e w' => e = .returned (.bool true) ∧ Below w.heap.size w w' := by
  obtain ⟨cv, cm, cc, C1, C2⟩ := snd_two op av am bv bm x y
  obtain ⟨jv, jm, jr, J1, J2⟩ := snd_join av am bv bm x
  obtain ⟨mv, mm, mi, mr, M1, M2⟩ := snd_meet av am bv bm x
  obtain ⟨sv, sm, sc, S1, S2⟩ := snd_shift op av am x y
  have I2 : Hid (insB av am bv bm = true → hasB av am x = true → hasB bv bm x = true) := fun h1 h2 => sound_inside h1 h2
  have I1 : Hid (∀ w, Calls Try.prog 26 #[Bt av am, Bt bv bm] w fun e w' => e = .returned (.bool (insB av am bv bm)) ∧ Below w.heap.size w w') := fun w => inside_any av am bv bm w
  generalize insB av am bv bm = ii at I1 I2
  obtain ⟨ax, HA⟩ : ∃ b, Hid (hasB av am x = b) := ⟨_, rfl⟩
  obtain ⟨bx, HB⟩ : ∃ b, Hid (hasB bv bm x = b) := ⟨_, rfl⟩
  obtain ⟨by', HY⟩ : ∃ b, Hid (hasB bv bm y = b) := ⟨_, rfl⟩
  obtain ⟨jx, HJ⟩ : ∃ b, Hid (hasB jv jm x = b) := ⟨_, rfl⟩
  obtain ⟨mx, HM⟩ : ∃ b, Hid (hasB mv mm x = b) := ⟨_, rfl⟩
  rw [HA.out, HY.out] at C2
  rw [HA.out, HB.out, HJ.out] at J2
  rw [HA.out, HB.out, HM.out] at M2
  rw [HA.out] at S2
  rw [HA.out, HB.out] at I2
  have h6 := six_nv y
  have h64 := six_lt y
  go_enter Try.func5, Try.ntmps5
  go_wp2_with fail
  refine (C1.out _).mono ?_
  rintro e w1 ⟨rfl, hb1⟩
  have hB1 := (((Kp.start w).add2 _ _ _).add2 _ _ _).keep hb1
  simp only [World.size_alloc] at hB1
  have hB2 := hB1.add2 (U cv) (U cm) 24
  obtain ⟨b0, b1, b2, b3, b4⟩ := hB1.box.head.two
  obtain ⟨a0, a1, a2, a3, a4⟩ := hB1.box.tail.head.two
  go_upto_region 2 with fail
  clear hb1
  clear b0 b1 b2 b3 b4 a0 a1 a2 a3 a4
  clear hB1 C1
  go_cut [47] (fun t wc => t = .bool false ∧ Kp w wc [(w1.heap.size, [U cv, U cm]), (w.heap.size + 1, [U bv, U bm]), (w.heap.size, [U av, U am])])
  case first =>
    as_aux_lemma =>
      clear J1 J2 M1 M2 S1 S2 I1 I2 HJ HM HB h6 h64
      obtain ⟨c0, c1, c2, c3, c4⟩ := hB2.box.head.two
      obtain ⟨b0, b1, b2, b3, b4⟩ := hB2.box.tail.head.two
      obtain ⟨a0, a1, a2, a3, a4⟩ := hB2.box.tail.tail.head.two
      clear c0 c1 c2 c3 c4 b0 b1 b2 b3 b4 a0 a1 a2 a3 a4
      rcases C2.out with rfl | rfl | ⟨rfl, z, N1, N2⟩
      iterate 2
        · clear C2
          refine region_class (fun w' => ∃ n : Cl w [(w1.heap.size, [U cv, U cm]), (w.heap.size + 1, [U bv, U bm]), (w.heap.size, [U av, U am])], w' = n.val) (by kernel_rfl) (by kernel_rfl) (Cl.start hB2) ?_
          haveI : Nonempty (Cl w [(w1.heap.size, [U cv, U cm]), (w.heap.size + 1, [U bv, U bm]), (w.heap.size, [U av, U am])]) := Cl.some hB2
          have hq0x0 : ∀ n : Cl w [(w1.heap.size, [U cv, U cm]), (w.heap.size + 1, [U bv, U bm]), (w.heap.size, [U av, U am])], n.val.cell? ⟨w1.heap.size, 0, none⟩ = some (U cv) := fun n => (n.kp.box.head.two).1
          have hq0x1 : ∀ n : Cl w [(w1.heap.size, [U cv, U cm]), (w.heap.size + 1, [U bv, U bm]), (w.heap.size, [U av, U am])], n.val.cell? ⟨w1.heap.size, 1, none⟩ = some (U cm) := fun n => (n.kp.box.head.two).2.1
          have hq1x0 : ∀ n : Cl w [(w1.heap.size, [U cv, U cm]), (w.heap.size + 1, [U bv, U bm]), (w.heap.size, [U av, U am])], n.val.cell? ⟨w.heap.size + 1, 0, none⟩ = some (U bv) := fun n => (n.kp.box.tail.head.two).1
          have hq1x1 : ∀ n : Cl w [(w1.heap.size, [U cv, U cm]), (w.heap.size + 1, [U bv, U bm]), (w.heap.size, [U av, U am])], n.val.cell? ⟨w.heap.size + 1, 1, none⟩ = some (U bm) := fun n => (n.kp.box.tail.head.two).2.1
          have hq2x0 : ∀ n : Cl w [(w1.heap.size, [U cv, U cm]), (w.heap.size + 1, [U bv, U bm]), (w.heap.size, [U av, U am])], n.val.cell? ⟨w.heap.size, 0, none⟩ = some (U av) := fun n => (n.kp.box.tail.tail.head.two).1
          have hq2x1 : ∀ n : Cl w [(w1.heap.size, [U cv, U cm]), (w.heap.size + 1, [U bv, U bm]), (w.heap.size, [U av, U am])], n.val.cell? ⟨w.heap.size, 1, none⟩ = some (U am) := fun n => (n.kp.box.tail.tail.head.two).2.1
          repeat (go_big_quiet_step (fail))
          refine wpQuiet_nil ?_
          rintro _ ⟨⟨wq, hq⟩, rfl⟩
          go_wp2
          go_meet
          case rel => exact ⟨rfl, hq⟩

      · clear C2
        cases ax
        · skip
          refine region_class (fun w' => ∃ n : Cl w [(w1.heap.size, [U cv, U cm]), (w.heap.size + 1, [U bv, U bm]), (w.heap.size, [U av, U am])], w' = n.val) (by kernel_rfl) (by kernel_rfl) (Cl.start hB2) ?_
          haveI : Nonempty (Cl w [(w1.heap.size, [U cv, U cm]), (w.heap.size + 1, [U bv, U bm]), (w.heap.size, [U av, U am])]) := Cl.some hB2
          have hq0x0 : ∀ n : Cl w [(w1.heap.size, [U cv, U cm]), (w.heap.size + 1, [U bv, U bm]), (w.heap.size, [U av, U am])], n.val.cell? ⟨w1.heap.size, 0, none⟩ = some (U cv) := fun n => (n.kp.box.head.two).1
          have hq0x1 : ∀ n : Cl w [(w1.heap.size, [U cv, U cm]), (w.heap.size + 1, [U bv, U bm]), (w.heap.size, [U av, U am])], n.val.cell? ⟨w1.heap.size, 1, none⟩ = some (U cm) := fun n => (n.kp.box.head.two).2.1
          have hq1x0 : ∀ n : Cl w [(w1.heap.size, [U cv, U cm]), (w.heap.size + 1, [U bv, U bm]), (w.heap.size, [U av, U am])], n.val.cell? ⟨w.heap.size + 1, 0, none⟩ = some (U bv) := fun n => (n.kp.box.tail.head.two).1
          have hq1x1 : ∀ n : Cl w [(w1.heap.size, [U cv, U cm]), (w.heap.size + 1, [U bv, U bm]), (w.heap.size, [U av, U am])], n.val.cell? ⟨w.heap.size + 1, 1, none⟩ = some (U bm) := fun n => (n.kp.box.tail.head.two).2.1
          have hq2x0 : ∀ n : Cl w [(w1.heap.size, [U cv, U cm]), (w.heap.size + 1, [U bv, U bm]), (w.heap.size, [U av, U am])], n.val.cell? ⟨w.heap.size, 0, none⟩ = some (U av) := fun n => (n.kp.box.tail.tail.head.two).1
          have hq2x1 : ∀ n : Cl w [(w1.heap.size, [U cv, U cm]), (w.heap.size + 1, [U bv, U bm]), (w.heap.size, [U av, U am])], n.val.cell? ⟨w.heap.size, 1, none⟩ = some (U am) := fun n => (n.kp.box.tail.tail.head.two).2.1
          repeat (go_big_quiet_step (first | (go_at_call_of 24 (av); exact Cl.of (hasC HA.out _))))
          refine wpQuiet_nil ?_
          rintro _ ⟨⟨wq, hq⟩, rfl⟩
          go_wp2
          go_meet
          case rel => exact ⟨rfl, hq⟩

        · cases by'
          · skip
            refine region_class (fun w' => ∃ n : Cl w [(w1.heap.size, [U cv, U cm]), (w.heap.size + 1, [U bv, U bm]), (w.heap.size, [U av, U am])], w' = n.val) (by kernel_rfl) (by kernel_rfl) (Cl.start hB2) ?_
            haveI : Nonempty (Cl w [(w1.heap.size, [U cv, U cm]), (w.heap.size + 1, [U bv, U bm]), (w.heap.size, [U av, U am])]) := Cl.some hB2
            have hq0x0 : ∀ n : Cl w [(w1.heap.size, [U cv, U cm]), (w.heap.size + 1, [U bv, U bm]), (w.heap.size, [U av, U am])], n.val.cell? ⟨w1.heap.size, 0, none⟩ = some (U cv) := fun n => (n.kp.box.head.two).1
            have hq0x1 : ∀ n : Cl w [(w1.heap.size, [U cv, U cm]), (w.heap.size + 1, [U bv, U bm]), (w.heap.size, [U av, U am])], n.val.cell? ⟨w1.heap.size, 1, none⟩ = some (U cm) := fun n => (n.kp.box.head.two).2.1
            have hq1x0 : ∀ n : Cl w [(w1.heap.size, [U cv, U cm]), (w.heap.size + 1, [U bv, U bm]), (w.heap.size, [U av, U am])], n.val.cell? ⟨w.heap.size + 1, 0, none⟩ = some (U bv) := fun n => (n.kp.box.tail.head.two).1
            have hq1x1 : ∀ n : Cl w [(w1.heap.size, [U cv, U cm]), (w.heap.size + 1, [U bv, U bm]), (w.heap.size, [U av, U am])], n.val.cell? ⟨w.heap.size + 1, 1, none⟩ = some (U bm) := fun n => (n.kp.box.tail.head.two).2.1
            have hq2x0 : ∀ n : Cl w [(w1.heap.size, [U cv, U cm]), (w.heap.size + 1, [U bv, U bm]), (w.heap.size, [U av, U am])], n.val.cell? ⟨w.heap.size, 0, none⟩ = some (U av) := fun n => (n.kp.box.tail.tail.head.two).1
            have hq2x1 : ∀ n : Cl w [(w1.heap.size, [U cv, U cm]), (w.heap.size + 1, [U bv, U bm]), (w.heap.size, [U av, U am])], n.val.cell? ⟨w.heap.size, 1, none⟩ = some (U am) := fun n => (n.kp.box.tail.tail.head.two).2.1
            repeat (go_big_quiet_step (first | (go_at_call_of 24 (av); exact Cl.of (hasC HA.out _)) | (go_at_call_of 24 (bv); exact Cl.of (hasC HY.out _))))
            refine wpQuiet_nil ?_
            rintro _ ⟨⟨wq, hq⟩, rfl⟩
            go_wp2
            go_meet
            case rel => exact ⟨rfl, hq⟩

          · have N3 : Hid (hasB cv cm z = true) := N2.out rfl rfl
            clear N2
            refine region_class (fun w' => ∃ n : Cl w [(w1.heap.size, [U cv, U cm]), (w.heap.size + 1, [U bv, U bm]), (w.heap.size, [U av, U am])], w' = n.val) (by kernel_rfl) (by kernel_rfl) (Cl.start hB2) ?_
            haveI : Nonempty (Cl w [(w1.heap.size, [U cv, U cm]), (w.heap.size + 1, [U bv, U bm]), (w.heap.size, [U av, U am])]) := Cl.some hB2
            have hq0x0 : ∀ n : Cl w [(w1.heap.size, [U cv, U cm]), (w.heap.size + 1, [U bv, U bm]), (w.heap.size, [U av, U am])], n.val.cell? ⟨w1.heap.size, 0, none⟩ = some (U cv) := fun n => (n.kp.box.head.two).1
            have hq0x1 : ∀ n : Cl w [(w1.heap.size, [U cv, U cm]), (w.heap.size + 1, [U bv, U bm]), (w.heap.size, [U av, U am])], n.val.cell? ⟨w1.heap.size, 1, none⟩ = some (U cm) := fun n => (n.kp.box.head.two).2.1
            have hq1x0 : ∀ n : Cl w [(w1.heap.size, [U cv, U cm]), (w.heap.size + 1, [U bv, U bm]), (w.heap.size, [U av, U am])], n.val.cell? ⟨w.heap.size + 1, 0, none⟩ = some (U bv) := fun n => (n.kp.box.tail.head.two).1
            have hq1x1 : ∀ n : Cl w [(w1.heap.size, [U cv, U cm]), (w.heap.size + 1, [U bv, U bm]), (w.heap.size, [U av, U am])], n.val.cell? ⟨w.heap.size + 1, 1, none⟩ = some (U bm) := fun n => (n.kp.box.tail.head.two).2.1
            have hq2x0 : ∀ n : Cl w [(w1.heap.size, [U cv, U cm]), (w.heap.size + 1, [U bv, U bm]), (w.heap.size, [U av, U am])], n.val.cell? ⟨w.heap.size, 0, none⟩ = some (U av) := fun n => (n.kp.box.tail.tail.head.two).1
            have hq2x1 : ∀ n : Cl w [(w1.heap.size, [U cv, U cm]), (w.heap.size + 1, [U bv, U bm]), (w.heap.size, [U av, U am])], n.val.cell? ⟨w.heap.size, 1, none⟩ = some (U am) := fun n => (n.kp.box.tail.tail.head.two).2.1
            repeat (go_big_quiet_step (first | (go_at_call 30; exact Cl.of (N1.out _)) | (go_at_call_of 24 (av); exact Cl.of (hasC HA.out _)) | (go_at_call_of 24 (bv); exact Cl.of (hasC HY.out _)) | (go_at_call_of 24 (z); exact Cl.of (hasC N3.out _))))
            refine wpQuiet_nil ?_
            rintro _ ⟨⟨wq, hq⟩, rfl⟩
            go_wp2
            go_meet
            case rel => exact ⟨rfl, hq⟩

  case rest =>
    clear hB2 C2 HY
    obtain ⟨rfl, hK1⟩ := hcut
    obtain ⟨c0, c1, c2, c3, c4⟩ := hK1.box.head.two
    obtain ⟨b0, b1, b2, b3, b4⟩ := hK1.box.tail.head.two
    obtain ⟨a0, a1, a2, a3, a4⟩ := hK1.box.tail.tail.head.two
    go_wp2_with fail
    refine (J1.out _).mono ?_
    rintro e w2 ⟨rfl, hb2⟩
    have hK2 := hK1.keep hb2
    clear c0 c1 c2 c3 c4 b0 b1 b2 b3 b4 a0 a1 a2 a3 a4
    obtain ⟨c0, c1, c2, c3, c4⟩ := hK2.box.head.two
    obtain ⟨b0, b1, b2, b3, b4⟩ := hK2.box.tail.head.two
    obtain ⟨a0, a1, a2, a3, a4⟩ := hK2.box.tail.tail.head.two
    go_wp2_with fail
    refine (M1.out _).mono ?_
    rintro e w3 ⟨rfl, hb3⟩
    have hK3 := (hK2.add2 _ _ _).keep hb3
    have hK4 := hK3.add2 (U mv) (U mm) 24
    clear c0 c1 c2 c3 c4 b0 b1 b2 b3 b4 a0 a1 a2 a3 a4
    obtain ⟨j0, j1, j2, j3, j4⟩ := hK3.box.head.two
    obtain ⟨c0, c1, c2, c3, c4⟩ := hK3.box.tail.head.two
    obtain ⟨b0, b1, b2, b3, b4⟩ := hK3.box.tail.tail.head.two
    obtain ⟨a0, a1, a2, a3, a4⟩ := hK3.box.tail.tail.tail.head.two
    go_upto_region 6 with fail
    clear hK1 hK2 hb2 hb3 J1 M1
    clear j0 j1 j2 j3 j4 c0 c1 c2 c3 c4 b0 b1 b2 b3 b4 a0 a1 a2 a3 a4
    go_cut [78] (fun t wd => t = .bool false ∧ Kp w wd [(w3.heap.size, [U mv, U mm]), (w2.heap.size, [U jv, U jm]), (w1.heap.size, [U cv, U cm]), (w.heap.size + 1, [U bv, U bm]), (w.heap.size, [U av, U am])])
    case first =>
      as_aux_lemma =>
        clear S1 S2 I1 I2 M2 HM h6 h64 hK3
        obtain ⟨m0, m1, m2, m3, m4⟩ := hK4.box.head.two
        obtain ⟨j0, j1, j2, j3, j4⟩ := hK4.box.tail.head.two
        obtain ⟨c0, c1, c2, c3, c4⟩ := hK4.box.tail.tail.head.two
        obtain ⟨b0, b1, b2, b3, b4⟩ := hK4.box.tail.tail.tail.head.two
        obtain ⟨a0, a1, a2, a3, a4⟩ := hK4.box.tail.tail.tail.tail.head.two
        cases jr
        · have hE : (er false == 0) = false := rfl
          go_wp2_with fail
          go_meet
          case rel => exact ⟨rfl, hK4⟩
        · have hE : (er true == 0) = true := rfl
          have J3 : Hid _ := J2.out rfl
          clear J2
          go_wp2_with fail
          refine (hasC HA.out _).mono ?_
          rintro e w4 ⟨rfl, hb4⟩
          have hK5 := hK4.keep hb4
          clear m0 m1 m2 m3 m4 j0 j1 j2 j3 j4 c0 c1 c2 c3 c4 b0 b1 b2 b3 b4 a0 a1 a2 a3 a4
          obtain ⟨m0, m1, m2, m3, m4⟩ := hK5.box.head.two
          obtain ⟨j0, j1, j2, j3, j4⟩ := hK5.box.tail.head.two
          obtain ⟨c0, c1, c2, c3, c4⟩ := hK5.box.tail.tail.head.two
          obtain ⟨b0, b1, b2, b3, b4⟩ := hK5.box.tail.tail.tail.head.two
          obtain ⟨a0, a1, a2, a3, a4⟩ := hK5.box.tail.tail.tail.tail.head.two
          cases ax
          · go_wp2_with fail
            refine (hasC HB.out _).mono ?_
            rintro e w5 ⟨rfl, hb5⟩
            have hK6 := hK5.keep hb5
            clear m0 m1 m2 m3 m4 j0 j1 j2 j3 j4 c0 c1 c2 c3 c4 b0 b1 b2 b3 b4 a0 a1 a2 a3 a4
            obtain ⟨m0, m1, m2, m3, m4⟩ := hK6.box.head.two
            obtain ⟨j0, j1, j2, j3, j4⟩ := hK6.box.tail.head.two
            obtain ⟨c0, c1, c2, c3, c4⟩ := hK6.box.tail.tail.head.two
            obtain ⟨b0, b1, b2, b3, b4⟩ := hK6.box.tail.tail.tail.head.two
            obtain ⟨a0, a1, a2, a3, a4⟩ := hK6.box.tail.tail.tail.tail.head.two
            cases bx
            · go_wp2_with fail
              go_meet
              case rel => exact ⟨rfl, hK6⟩
            · obtain rfl : jx = true := J3.out rfl
              go_wp2_with fail
              refine (hasC HJ.out _).mono ?_
              rintro e w6 ⟨rfl, hb6⟩
              have hK7 := hK6.keep hb6
              go_wp2_with fail
              go_meet
              case rel => exact ⟨rfl, hK7⟩
          · obtain rfl : jx = true := J3.out rfl
            go_wp2_with fail
            refine (hasC HJ.out _).mono ?_
            rintro e w6 ⟨rfl, hb6⟩
            have hK7 := hK5.keep hb6
            go_wp2_with fail
            go_meet
            case rel => exact ⟨rfl, hK7⟩
    case rest =>
    clear hK3 hK4 J2 HJ
    obtain ⟨rfl, hK1⟩ := hcut
    go_upto_region 8 with fail
    go_cut [97] (fun t wd => t = .bool false ∧ Kp w wd [(w3.heap.size, [U mv, U mm]), (w2.heap.size, [U jv, U jm]), (w1.heap.size, [U cv, U cm]), (w.heap.size + 1, [U bv, U bm]), (w.heap.size, [U av, U am])])
    case first =>
      as_aux_lemma =>
        clear S1 S2 I1 I2 h6 h64
        obtain ⟨m0, m1, m2, m3, m4⟩ := hK1.box.head.two
        obtain ⟨j0, j1, j2, j3, j4⟩ := hK1.box.tail.head.two
        obtain ⟨c0, c1, c2, c3, c4⟩ := hK1.box.tail.tail.head.two
        obtain ⟨b0, b1, b2, b3, b4⟩ := hK1.box.tail.tail.tail.head.two
        obtain ⟨a0, a1, a2, a3, a4⟩ := hK1.box.tail.tail.tail.tail.head.two
        cases mr
        · have hE : (er false == 0) = false := rfl
          go_wp2_with fail
          go_meet
          case rel => exact ⟨rfl, hK1⟩
        · have hE : (er true == 0) = true := rfl
          have M3 : Hid _ := M2.out rfl
          clear M2
          go_wp2_with fail
          refine (hasC HA.out _).mono ?_
          rintro e w4 ⟨rfl, hb4⟩
          have hK5 := hK1.keep hb4
          clear m0 m1 m2 m3 m4 j0 j1 j2 j3 j4 c0 c1 c2 c3 c4 b0 b1 b2 b3 b4 a0 a1 a2 a3 a4
          obtain ⟨m0, m1, m2, m3, m4⟩ := hK5.box.head.two
          obtain ⟨j0, j1, j2, j3, j4⟩ := hK5.box.tail.head.two
          obtain ⟨c0, c1, c2, c3, c4⟩ := hK5.box.tail.tail.head.two
          obtain ⟨b0, b1, b2, b3, b4⟩ := hK5.box.tail.tail.tail.head.two
          obtain ⟨a0, a1, a2, a3, a4⟩ := hK5.box.tail.tail.tail.tail.head.two
          cases ax
          · cases mi
            · go_wp2_with fail
              go_meet
              case rel => exact ⟨rfl, hK5⟩
            · obtain rfl : mx = false := M3.out.symm
              go_wp2_with fail
              refine (hasC HM.out _).mono ?_
              rintro e w5 ⟨rfl, hb5⟩
              have hK6 := hK5.keep hb5
              go_wp2_with fail
              go_meet
              case rel => exact ⟨rfl, hK6⟩
          · go_wp2_with fail
            refine (hasC HB.out _).mono ?_
            rintro e w5 ⟨rfl, hb5⟩
            have hK6 := hK5.keep hb5
            clear m0 m1 m2 m3 m4 j0 j1 j2 j3 j4 c0 c1 c2 c3 c4 b0 b1 b2 b3 b4 a0 a1 a2 a3 a4
            obtain ⟨m0, m1, m2, m3, m4⟩ := hK6.box.head.two
            obtain ⟨j0, j1, j2, j3, j4⟩ := hK6.box.tail.head.two
            obtain ⟨c0, c1, c2, c3, c4⟩ := hK6.box.tail.tail.head.two
            obtain ⟨b0, b1, b2, b3, b4⟩ := hK6.box.tail.tail.tail.head.two
            obtain ⟨a0, a1, a2, a3, a4⟩ := hK6.box.tail.tail.tail.tail.head.two
            cases mi
            · obtain rfl : bx = false := M3.out
              go_wp2_with fail
              go_meet
              case rel => exact ⟨rfl, hK6⟩
            · obtain rfl : bx = mx := M3.out
              go_wp2_with fail
              refine (hasC HM.out _).mono ?_
              rintro e w6 ⟨rfl, hb6⟩
              have hK7 := hK6.keep hb6
              cases bx
              all_goals
                go_wp2_with fail
                go_meet
                case rel => exact ⟨rfl, hK7⟩
    case rest =>
    clear hK1 M2 HM
    obtain ⟨rfl, hK1⟩ := hcut
    go_upto_region 10 with fail
    go_cut [111] (fun t wd => t = .bool false ∧ Kp w wd [(w3.heap.size, [U mv, U mm]), (w2.heap.size, [U jv, U jm]), (w1.heap.size, [U cv, U cm]), (w.heap.size + 1, [U bv, U bm]), (w.heap.size, [U av, U am])])
    case first =>
      as_aux_lemma =>
        clear S1 S2 h6 h64
        obtain ⟨m0, m1, m2, m3, m4⟩ := hK1.box.head.two
        obtain ⟨j0, j1, j2, j3, j4⟩ := hK1.box.tail.head.two
        obtain ⟨c0, c1, c2, c3, c4⟩ := hK1.box.tail.tail.head.two
        obtain ⟨b0, b1, b2, b3, b4⟩ := hK1.box.tail.tail.tail.head.two
        obtain ⟨a0, a1, a2, a3, a4⟩ := hK1.box.tail.tail.tail.tail.head.two
        go_wp2_with fail
        refine (I1.out _).mono ?_
        rintro e w4 ⟨rfl, hb4⟩
        have hK5 := hK1.keep hb4
        clear m0 m1 m2 m3 m4 j0 j1 j2 j3 j4 c0 c1 c2 c3 c4 b0 b1 b2 b3 b4 a0 a1 a2 a3 a4
        obtain ⟨m0, m1, m2, m3, m4⟩ := hK5.box.head.two
        obtain ⟨j0, j1, j2, j3, j4⟩ := hK5.box.tail.head.two
        obtain ⟨c0, c1, c2, c3, c4⟩ := hK5.box.tail.tail.head.two
        obtain ⟨b0, b1, b2, b3, b4⟩ := hK5.box.tail.tail.tail.head.two
        obtain ⟨a0, a1, a2, a3, a4⟩ := hK5.box.tail.tail.tail.tail.head.two
        cases ii
        · go_wp2_with fail
          go_meet
          case rel => exact ⟨rfl, hK5⟩
        · have I3 : Hid _ := I2.out rfl
          clear I2
          go_wp2_with fail
          refine (hasC HA.out _).mono ?_
          rintro e w5 ⟨rfl, hb5⟩
          have hK6 := hK5.keep hb5
          clear m0 m1 m2 m3 m4 j0 j1 j2 j3 j4 c0 c1 c2 c3 c4 b0 b1 b2 b3 b4 a0 a1 a2 a3 a4
          obtain ⟨m0, m1, m2, m3, m4⟩ := hK6.box.head.two
          obtain ⟨j0, j1, j2, j3, j4⟩ := hK6.box.tail.head.two
          obtain ⟨c0, c1, c2, c3, c4⟩ := hK6.box.tail.tail.head.two
          obtain ⟨b0, b1, b2, b3, b4⟩ := hK6.box.tail.tail.tail.head.two
          obtain ⟨a0, a1, a2, a3, a4⟩ := hK6.box.tail.tail.tail.tail.head.two
          cases ax
          · go_wp2_with fail
            go_meet
            case rel => exact ⟨rfl, hK6⟩
          · obtain rfl : bx = true := I3.out rfl
            go_wp2_with fail
            refine (hasC HB.out _).mono ?_
            rintro e w6 ⟨rfl, hb6⟩
            have hK7 := hK6.keep hb6
            go_wp2_with fail
            go_meet
            case rel => exact ⟨rfl, hK7⟩
    case rest =>
    clear hK1 I1 I2 HB
    obtain ⟨rfl, hK1⟩ := hcut
    obtain ⟨m0, m1, m2, m3, m4⟩ := hK1.box.head.two
    obtain ⟨j0, j1, j2, j3, j4⟩ := hK1.box.tail.head.two
    obtain ⟨c0, c1, c2, c3, c4⟩ := hK1.box.tail.tail.head.two
    obtain ⟨b0, b1, b2, b3, b4⟩ := hK1.box.tail.tail.tail.head.two
    obtain ⟨a0, a1, a2, a3, a4⟩ := hK1.box.tail.tail.tail.tail.head.two
    go_wp2_with fail
    refine (S1.out _).mono ?_
    rintro e w4 ⟨rfl, hb4⟩
    have hK2 := hK1.keep hb4
    have hK3 := hK2.add2 (U sv) (U sm) 24
    clear m0 m1 m2 m3 m4 j0 j1 j2 j3 j4 c0 c1 c2 c3 c4 b0 b1 b2 b3 b4 a0 a1 a2 a3 a4
    go_upto_region 13 with fail
    clear hK1 hK2 hb4 S1
    rcases S2.out with rfl | rfl | ⟨rfl, z, N1, N2⟩
    iterate 2
      · clear S2
        refine region_class (fun w' => ∃ n : Cl w [(w4.heap.size, [U sv, U sm]), (w3.heap.size, [U mv, U mm]), (w2.heap.size, [U jv, U jm]), (w1.heap.size, [U cv, U cm]), (w.heap.size + 1, [U bv, U bm]), (w.heap.size, [U av, U am])], w' = n.val) (by kernel_rfl) (by kernel_rfl) (Cl.start hK3) ?_
        haveI : Nonempty (Cl w [(w4.heap.size, [U sv, U sm]), (w3.heap.size, [U mv, U mm]), (w2.heap.size, [U jv, U jm]), (w1.heap.size, [U cv, U cm]), (w.heap.size + 1, [U bv, U bm]), (w.heap.size, [U av, U am])]) := Cl.some hK3
        have hq0x0 : ∀ n : Cl w [(w4.heap.size, [U sv, U sm]), (w3.heap.size, [U mv, U mm]), (w2.heap.size, [U jv, U jm]), (w1.heap.size, [U cv, U cm]), (w.heap.size + 1, [U bv, U bm]), (w.heap.size, [U av, U am])], n.val.cell? ⟨w4.heap.size, 0, none⟩ = some (U sv) := fun n => (n.kp.box.head.two).1
        have hq0x1 : ∀ n : Cl w [(w4.heap.size, [U sv, U sm]), (w3.heap.size, [U mv, U mm]), (w2.heap.size, [U jv, U jm]), (w1.heap.size, [U cv, U cm]), (w.heap.size + 1, [U bv, U bm]), (w.heap.size, [U av, U am])], n.val.cell? ⟨w4.heap.size, 1, none⟩ = some (U sm) := fun n => (n.kp.box.head.two).2.1
        have hq5x0 : ∀ n : Cl w [(w4.heap.size, [U sv, U sm]), (w3.heap.size, [U mv, U mm]), (w2.heap.size, [U jv, U jm]), (w1.heap.size, [U cv, U cm]), (w.heap.size + 1, [U bv, U bm]), (w.heap.size, [U av, U am])], n.val.cell? ⟨w.heap.size, 0, none⟩ = some (U av) := fun n => (n.kp.box.tail.tail.tail.tail.tail.head.two).1
        have hq5x1 : ∀ n : Cl w [(w4.heap.size, [U sv, U sm]), (w3.heap.size, [U mv, U mm]), (w2.heap.size, [U jv, U jm]), (w1.heap.size, [U cv, U cm]), (w.heap.size + 1, [U bv, U bm]), (w.heap.size, [U av, U am])], n.val.cell? ⟨w.heap.size, 1, none⟩ = some (U am) := fun n => (n.kp.box.tail.tail.tail.tail.tail.head.two).2.1
        repeat (go_big_quiet_step (first | (go_at_call 22; exact Cl.of (bitsBegun_any _))))
        refine wpQuiet_nil ?_
        rintro _ ⟨⟨wq, hq⟩, rfl⟩
        go_wp2
        go_ret
        exact ⟨rfl, hq.bel⟩

    · clear S2
      cases ax
      · skip
        refine region_class (fun w' => ∃ n : Cl w [(w4.heap.size, [U sv, U sm]), (w3.heap.size, [U mv, U mm]), (w2.heap.size, [U jv, U jm]), (w1.heap.size, [U cv, U cm]), (w.heap.size + 1, [U bv, U bm]), (w.heap.size, [U av, U am])], w' = n.val) (by kernel_rfl) (by kernel_rfl) (Cl.start hK3) ?_
        haveI : Nonempty (Cl w [(w4.heap.size, [U sv, U sm]), (w3.heap.size, [U mv, U mm]), (w2.heap.size, [U jv, U jm]), (w1.heap.size, [U cv, U cm]), (w.heap.size + 1, [U bv, U bm]), (w.heap.size, [U av, U am])]) := Cl.some hK3
        have hq0x0 : ∀ n : Cl w [(w4.heap.size, [U sv, U sm]), (w3.heap.size, [U mv, U mm]), (w2.heap.size, [U jv, U jm]), (w1.heap.size, [U cv, U cm]), (w.heap.size + 1, [U bv, U bm]), (w.heap.size, [U av, U am])], n.val.cell? ⟨w4.heap.size, 0, none⟩ = some (U sv) := fun n => (n.kp.box.head.two).1
        have hq0x1 : ∀ n : Cl w [(w4.heap.size, [U sv, U sm]), (w3.heap.size, [U mv, U mm]), (w2.heap.size, [U jv, U jm]), (w1.heap.size, [U cv, U cm]), (w.heap.size + 1, [U bv, U bm]), (w.heap.size, [U av, U am])], n.val.cell? ⟨w4.heap.size, 1, none⟩ = some (U sm) := fun n => (n.kp.box.head.two).2.1
        have hq5x0 : ∀ n : Cl w [(w4.heap.size, [U sv, U sm]), (w3.heap.size, [U mv, U mm]), (w2.heap.size, [U jv, U jm]), (w1.heap.size, [U cv, U cm]), (w.heap.size + 1, [U bv, U bm]), (w.heap.size, [U av, U am])], n.val.cell? ⟨w.heap.size, 0, none⟩ = some (U av) := fun n => (n.kp.box.tail.tail.tail.tail.tail.head.two).1
        have hq5x1 : ∀ n : Cl w [(w4.heap.size, [U sv, U sm]), (w3.heap.size, [U mv, U mm]), (w2.heap.size, [U jv, U jm]), (w1.heap.size, [U cv, U cm]), (w.heap.size + 1, [U bv, U bm]), (w.heap.size, [U av, U am])], n.val.cell? ⟨w.heap.size, 1, none⟩ = some (U am) := fun n => (n.kp.box.tail.tail.tail.tail.tail.head.two).2.1
        repeat (go_big_quiet_step (first | (go_at_call 22; exact Cl.of (bitsBegun_any _)) | (go_at_call_of 24 (av); exact Cl.of (hasC HA.out _))))
        refine wpQuiet_nil ?_
        rintro _ ⟨⟨wq, hq⟩, rfl⟩
        go_wp2
        go_ret
        exact ⟨rfl, hq.bel⟩

      · have N3 : Hid (hasB sv sm z = true) := N2.out rfl
        clear N2
        refine region_class (fun w' => ∃ n : Cl w [(w4.heap.size, [U sv, U sm]), (w3.heap.size, [U mv, U mm]), (w2.heap.size, [U jv, U jm]), (w1.heap.size, [U cv, U cm]), (w.heap.size + 1, [U bv, U bm]), (w.heap.size, [U av, U am])], w' = n.val) (by kernel_rfl) (by kernel_rfl) (Cl.start hK3) ?_
        haveI : Nonempty (Cl w [(w4.heap.size, [U sv, U sm]), (w3.heap.size, [U mv, U mm]), (w2.heap.size, [U jv, U jm]), (w1.heap.size, [U cv, U cm]), (w.heap.size + 1, [U bv, U bm]), (w.heap.size, [U av, U am])]) := Cl.some hK3
        have hq0x0 : ∀ n : Cl w [(w4.heap.size, [U sv, U sm]), (w3.heap.size, [U mv, U mm]), (w2.heap.size, [U jv, U jm]), (w1.heap.size, [U cv, U cm]), (w.heap.size + 1, [U bv, U bm]), (w.heap.size, [U av, U am])], n.val.cell? ⟨w4.heap.size, 0, none⟩ = some (U sv) := fun n => (n.kp.box.head.two).1
        have hq0x1 : ∀ n : Cl w [(w4.heap.size, [U sv, U sm]), (w3.heap.size, [U mv, U mm]), (w2.heap.size, [U jv, U jm]), (w1.heap.size, [U cv, U cm]), (w.heap.size + 1, [U bv, U bm]), (w.heap.size, [U av, U am])], n.val.cell? ⟨w4.heap.size, 1, none⟩ = some (U sm) := fun n => (n.kp.box.head.two).2.1
        have hq5x0 : ∀ n : Cl w [(w4.heap.size, [U sv, U sm]), (w3.heap.size, [U mv, U mm]), (w2.heap.size, [U jv, U jm]), (w1.heap.size, [U cv, U cm]), (w.heap.size + 1, [U bv, U bm]), (w.heap.size, [U av, U am])], n.val.cell? ⟨w.heap.size, 0, none⟩ = some (U av) := fun n => (n.kp.box.tail.tail.tail.tail.tail.head.two).1
        have hq5x1 : ∀ n : Cl w [(w4.heap.size, [U sv, U sm]), (w3.heap.size, [U mv, U mm]), (w2.heap.size, [U jv, U jm]), (w1.heap.size, [U cv, U cm]), (w.heap.size + 1, [U bv, U bm]), (w.heap.size, [U av, U am])], n.val.cell? ⟨w.heap.size, 1, none⟩ = some (U am) := fun n => (n.kp.box.tail.tail.tail.tail.tail.head.two).2.1
        repeat (go_big_quiet_step (first | (go_at_call 22; exact Cl.of (bitsBegun_any _)) | (go_at_call 30; exact Cl.of (N1.out _)) | (go_at_call_of 24 (av); exact Cl.of (hasC HA.out _)) | (go_at_call_of 24 (z); exact Cl.of (hasC N3.out _))))
        refine wpQuiet_nil ?_
        rintro _ ⟨⟨wq, hq⟩, rfl⟩
        go_wp2
        go_ret
        exact ⟨rfl, hq.bel⟩


end Go.Proofs.Ytglollajdjgciaa
