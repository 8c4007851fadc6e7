/- BitsTwo, walked. -/
import Derived.Test.YtglollajdjgciaaX3
import Derived.Test.YtglollajdjgciaaL1b
import Derived.Deep.CutBlock
import Derived.Deep.DeepCutAuto
namespace Go.Proofs.Ytglollajdjgciaa
open Go.RowKit
attribute [local go_sem] w_and w_or w_xor w_andNot w_and1 w_and63 w_add w_sub w_mul w_sub1 w_add1 w_shl w_shl1 w_shr c_beq c_bne c_beq0 c_bne0 c_beq1 c_bne1 wrap_nv
attribute [local go_sem] eqb_self

theorem all_two (op : Int) (av am bv bm : BitVec 64) (r : Bool) (hr : (eqb (band av am) zero && eqb (band bv bm) zero) = r) : ∃ v m c,
    Hid (∀ w, Calls Try.prog 28 #[N op, Bt av am, Bt bv bm] w fun e w' => e = .returned (.tuple #[Bt v m, N c]) ∧ Below w.heap.size w w')
    ∧ ((r = false ∧ c = 1 ∧ v = zero ∧ m = zero) ∨ (r = true ∧ (op < 2 ∨ 7 < op) ∧ c = 4 ∧ v = zero ∧ m = zero)
      ∨ (r = true ∧ (2 ≤ op ∧ op ≤ 7) ∧ c = 0 ∧ Hid (∀ w, Calls Try.prog 29 #[N op, Bt av am, Bt bv bm] w fun e w' => e = .returned (Bt v m) ∧ Below w.heap.size w w'))) := by
  cases r
  · exact ⟨zero, zero, 1, hid (fun w => two_wrong hr w), Or.inl ⟨rfl, rfl, rfl, rfl⟩⟩
  · by_cases hop : 2 ≤ op ∧ op ≤ 7
    · have hr2 := hr
      rw [Bool.and_eq_true] at hr2
      refine ⟨(twoP op av am bv bm).1, (twoP op av am bv bm).2, 0, hid (fun w => two_ok hr hop w), Or.inr (Or.inr ⟨rfl, hop, rfl, hid (fun w => ?_)⟩)⟩
      by_cases h4 : op = 4
      · subst h4; exact TwoBits_mul (av := av) (am := am) hr2.2 w
      · exact TwoBits_plain (hid (by omega)) hr2.1 hr2.2 w
    · have hop' : op < 2 ∨ 7 < op := by omega
      exact ⟨zero, zero, 4, hid (fun w => two_kind hr hop' w), Or.inr (Or.inl ⟨rfl, hop', rfl, rfl, rfl⟩)⟩

set_option maxRecDepth 100000 in
set_option maxHeartbeats 4000000 in
theorem bitsTwo_any (op : Int) (av am bv bm : BitVec 64) (w : World) :
    Calls Try.prog 4 #[N op, Bt av am, Bt bv bm] w fun e w' => e = .returned (.bool true) ∧ Below w.heap.size w w' := by
  obtain ⟨ra, hra⟩ : ∃ r, Hid (eqb (band av am) zero = r) := ⟨_, rfl⟩
  obtain ⟨rb, hrb⟩ : ∃ r, Hid (eqb (band bv bm) zero = r) := ⟨_, rfl⟩
  obtain ⟨r, hr⟩ : ∃ r, Hid (r = (ra && rb)) := ⟨_, rfl⟩
  have hab : (eqb (band av am) zero && eqb (band bv bm) zero) = r := by rw [hra.out, hrb.out, hr.out]
  obtain ⟨v, m, c, T1, T2⟩ := all_two op av am bv bm r hab
  have T2' : Hid _ := T2
  clear hab T2
  go_enter Try.func4, Try.ntmps4
  go_wp2_with fail
  refine (T1.out _).mono ?_
  rintro e w1 ⟨rfl, hb1⟩
  have hB1 := (((Kp.start w).add2 _ _ _).add2 _ _ _).keep hb1
  simp only [World.size_alloc] at hB1
  have hB2 := (hB1.add2 (U v) (U m) 24).add2 (.int .u64 0) (.int .u64 0) 24
  simp only [World.size_alloc] at hB2
  obtain ⟨b0, b1, b2, b3, b4⟩ := hB1.box.head.two
  obtain ⟨a0, a1, a2, a3, a4⟩ := hB1.box.tail.head.two
  go_upto_block 0 with fail
  clear hb1
  clear b0 b1 b2 b3 b4 a0 a1 a2 a3 a4
  go_cut [9] (fun t wd => t = N c ∧ Kp w wd [(w1.heap.size + 1, [U v, U m]), (w1.heap.size, [U v, U m]), (w.heap.size + 1, [U bv, U bm]), (w.heap.size, [U av, U am])])
  case first =>
    obtain ⟨x0, x1, x2, x3, x4⟩ := hB2.box.head.two
    obtain ⟨y0, y1, y2, y3, y4⟩ := hB2.box.tail.head.two
    obtain ⟨b0, b1, b2, b3, b4⟩ := hB2.box.tail.tail.head.two
    obtain ⟨a0, a1, a2, a3, a4⟩ := hB2.box.tail.tail.tail.head.two
    go_wp2_with fail
    refine (right_is hra.out _).mono ?_
    rintro e w2 ⟨rfl, hb2⟩
    have hB3 := hB2.keep hb2
    clear x0 x1 x2 x3 x4 y0 y1 y2 y3 y4 b0 b1 b2 b3 b4 a0 a1 a2 a3 a4
    obtain ⟨x0, x1, x2, x3, x4⟩ := hB3.box.head.two
    obtain ⟨y0, y1, y2, y3, y4⟩ := hB3.box.tail.head.two
    obtain ⟨b0, b1, b2, b3, b4⟩ := hB3.box.tail.tail.head.two
    obtain ⟨a0, a1, a2, a3, a4⟩ := hB3.box.tail.tail.tail.head.two
    cases ra
    · have er0 : r = false := hr.out
      rcases T2'.out with ⟨_, rfl, rfl, rfl⟩ | ⟨h1, _⟩ | ⟨h1, _⟩
      · clear er0
        go_wp2_with fail
        go_meet
        case rel => exact ⟨rfl, hB3⟩
      · rw [er0] at h1; cases h1
      · rw [er0] at h1; cases h1
    · go_wp2_with fail
      refine (right_is hrb.out _).mono ?_
      rintro e w3 ⟨rfl, hb3⟩
      have hB4 := hB3.keep hb3
      clear x0 x1 x2 x3 x4 y0 y1 y2 y3 y4 b0 b1 b2 b3 b4 a0 a1 a2 a3 a4
      obtain ⟨x0, x1, x2, x3, x4⟩ := hB4.box.head.two
      obtain ⟨y0, y1, y2, y3, y4⟩ := hB4.box.tail.head.two
      obtain ⟨b0, b1, b2, b3, b4⟩ := hB4.box.tail.tail.head.two
      obtain ⟨a0, a1, a2, a3, a4⟩ := hB4.box.tail.tail.tail.head.two
      have er0 : r = rb := by rw [hr.out]; rfl
      rcases T2'.out with ⟨h1, rfl, rfl, rfl⟩ | ⟨h1, hop, rfl, rfl, rfl⟩ | ⟨h1, hop, rfl, T3⟩
      all_goals
        rw [er0] at h1
        subst h1
        clear er0 hr T2' T1
      · go_wp2_with fail
        go_meet
        case rel => exact ⟨rfl, hB4⟩
      · rcases hop with hop | hop
        all_goals
          go_wp2_with fail
          go_meet
          case rel => exact ⟨rfl, hB4⟩
      · go_wp2_with fail
        refine (T3.out _).mono ?_
        rintro e w4 ⟨rfl, hb4⟩
        have hB5 := hB4.keep hb4
        clear x0 x1 x2 x3 x4 y0 y1 y2 y3 y4 b0 b1 b2 b3 b4 a0 a1 a2 a3 a4
        obtain ⟨x0, x1, x2, x3, x4⟩ := hB5.box.head.two
        obtain ⟨y0, y1, y2, y3, y4⟩ := hB5.box.tail.head.two
        obtain ⟨b0, b1, b2, b3, b4⟩ := hB5.box.tail.tail.head.two
        obtain ⟨a0, a1, a2, a3, a4⟩ := hB5.box.tail.tail.tail.head.two
        go_wp2_with fail
        go_meet
        case rel => exact ⟨rfl, hB5.set2 (x := U v) (y := U m) 0 rfl⟩
  case rest =>
    clear hB1 hB2 T2' T1 hr hra hrb
    obtain ⟨rfl, hK⟩ := hcut
    obtain ⟨x0, x1, x2, x3, x4⟩ := hK.box.head.two
    obtain ⟨y0, y1, y2, y3, y4⟩ := hK.box.tail.head.two
    obtain ⟨b0, b1, b2, b3, b4⟩ := hK.box.tail.tail.head.two
    obtain ⟨a0, a1, a2, a3, a4⟩ := hK.box.tail.tail.tail.head.two
    go_wp2_with fail
    refine (bitsBegun_any _).mono ?_
    rintro e w5 ⟨rfl, hb5⟩
    have hK5 := hK.keep hb5
    clear x0 x1 x2 x3 x4 y0 y1 y2 y3 y4 b0 b1 b2 b3 b4 a0 a1 a2 a3 a4
    obtain ⟨x0, x1, x2, x3, x4⟩ := hK5.box.head.two
    obtain ⟨y0, y1, y2, y3, y4⟩ := hK5.box.tail.head.two
    obtain ⟨b0, b1, b2, b3, b4⟩ := hK5.box.tail.tail.head.two
    obtain ⟨a0, a1, a2, a3, a4⟩ := hK5.box.tail.tail.tail.head.two
    go_wp2_with fail
    go_ret
    exact ⟨rfl, hK5.bel⟩

end Go.Proofs.Ytglollajdjgciaa
