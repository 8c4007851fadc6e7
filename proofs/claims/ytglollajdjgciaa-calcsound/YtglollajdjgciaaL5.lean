/- ValTrue, walked. -/
import Derived.Test.YtglollajdjgciaaL4a
import Derived.Test.YtglollajdjgciaaL1b
import Derived.Deep.CutBlock
import Derived.Deep.DeepCutAuto
namespace Go.Proofs.Ytglollajdjgciaa
open Go.RowKit
attribute [local go_sem] w_and w_or w_xor w_andNot w_and1 w_and63 w_add w_sub w_mul w_sub1 w_add1 w_shl w_shl1 w_shr c_beq c_bne c_beq0 c_bne0 c_beq1 c_bne1 wrap_nv
attribute [local go_sem] eqb_self

theorem Kp.drop {w0 w : World} {p : Nat × List Value} {L : List (Nat × List Value)} (h : Kp w0 w (p :: L)) : Kp w0 w L := ⟨h.bel, h.box.tail, fun q hq => h.lo q (List.mem_cons_of_mem _ hq)⟩
theorem hasVC {v m l h x : BitVec 64} {b : Bool} (hh : hasV v m l h x = b) (w : World) :
    Calls Try.prog 38 #[Vl v m l h, U x] w fun e w' => e = .returned (.bool b) ∧ Below w.heap.size w w' := hh ▸ valHas_any v m l h x w
theorem insVC {v m l h v' m' l' h' : BitVec 64} {b : Bool} (hh : insV v m l h v' m' l' h' = b) (w : World) :
    Calls Try.prog 44 #[Vl v m l h, Vl v' m' l' h'] w fun e w' => e = .returned (.bool b) ∧ Below w.heap.size w w' := hh ▸ valInside_any v m l h v' m' l' h' w
theorem snd_norm (v m l h x : BitVec 64) : ∃ a b c d i e,
    Hid (∀ w, Calls Try.prog 31 #[Vl v m l h] w fun o w' => o = .returned (.tuple #[Vl a b c d, .bool i, N e]) ∧ Below w.heap.size w w')
    ∧ Hid (e = 1 ∨ (e = 0 ∧ Hid (rawV v m l h x = (i && hasV a b c d x)) ∧ ∃ a' b' c' d' i',
      Hid (∀ w, Calls Try.prog 31 #[Vl a b c d] w fun o w' => o = .returned (.tuple #[Vl a' b' c' d', .bool i', N 0]) ∧ Below w.heap.size w w')
      ∧ Hid (i = false ∨ (i = true ∧ i' = true ∧ a' = a ∧ b' = b ∧ c' = c ∧ d' = d ∧ Hid (hasV a b c d c = true) ∧ Hid (hasV a b c d d = true))))) := by
  cases hr : eqb (band v m) zero
  · exact ⟨zero, zero, zero, zero, false, 1, hid (fun w => norm_wrong hr w), Or.inl rfl⟩
  · have hrt := (rt_iff v m).1 hr
    have hn := norm_has hrt (l := l) (h := h) x
    cases ho : normOk v m l h
    · rw [ho] at hn
      refine ⟨zero, zero, zero, zero, false, 0, hid (fun w => norm_none hr ho w), Or.inr ⟨rfl, by show _ = _; rw [hn]; rfl, _, _, _, _, true, hid (fun w => norm_yes (v := zero) (m := zero) (l := zero) (h := zero) (show _ = true by decide) (show _ = true by decide +kernel) w), Or.inl rfl⟩⟩
    · rw [ho] at hn
      have hv := norm_right hrt ho
      have hs := norm_stays hv
      have he := norm_ends hrt ho
      have hN : ∀ w, Calls Try.prog 31 #[Vl (nV v m l h) (nM m (nLo v m l) (nHi v m h)) (nLo v m l) (nHi v m h)] w fun o w' => o = .returned (.tuple #[Vl (nV v m l h) (nM m (nLo v m l) (nHi v m h)) (nLo v m l) (nHi v m h), .bool true, N 0]) ∧ Below w.heap.size w w' := fun w => by
        have := norm_yes ((rt_iff _ _).2 (val_facts hv).1) hs.1 w
        rw [hs.2.1, hs.2.2.1, hs.2.2.2.1, hs.2.2.2.2] at this
        exact this
      exact ⟨_, _, _, _, true, 0, hid (fun w => norm_yes hr ho w), Or.inr ⟨rfl, hn, _, _, _, _, true, hid hN, Or.inr ⟨rfl, rfl, rfl, rfl, rfl, rfl, he.1, he.2⟩⟩⟩
theorem snd_vjoin (v m l h v' m' l' h' x : BitVec 64) : ∃ a b c d e,
    Hid (∀ w, Calls Try.prog 32 #[Vl v m l h, Vl v' m' l' h'] w fun o w' => o = .returned (.tuple #[Vl a b c d, N e]) ∧ Below w.heap.size w w')
    ∧ Hid (e = 1 ∨ (e = 0 ∧ Hid ((hasV v m l h x || hasV v' m' l' h' x) = true → hasV a b c d x = true) ∧ Hid (insV v m l h a b c d = true) ∧ Hid (insV v' m' l' h' a b c d = true))) := by
  cases hr : (valB v m l h && valB v' m' l' h')
  · exact ⟨zero, zero, zero, zero, 1, hid (fun w => valJoin_no hr w), Or.inl rfl⟩
  · have hr' := hr
    rw [Bool.and_eq_true] at hr'
    have hf := join_facts hr'.1 hr'.2
    refine ⟨_, _, _, _, 0, hid (fun w => valJoin_yes hr w), Or.inr ⟨rfl, fun hx => ?_, hf.2.1, hf.2.2⟩⟩
    rw [Bool.or_eq_true] at hx
    rcases hx with hx | hx
    · exact insV_has hf.2.1 hx
    · exact insV_has hf.2.2 hx

set_option maxRecDepth 100000 in
set_option maxHeartbeats 8000000 in
theorem valTrue_any (v m l h v' m' l' h' x : BitVec 64) (w : World) :
    Calls Try.prog 7 #[Vl v m l h, Vl v' m' l' h', U x] w fun e w' => e = .returned (.bool true) ∧ Below w.heap.size w w' := by
  obtain ⟨a, b, c, d, i, ne, N1, N2⟩ := snd_norm v m l h x
  obtain ⟨ja, jb, jc, jd, je, J1, J2⟩ := snd_vjoin v m l h v' m' l' h' x
  have I2 : Hid (insV v m l h v' m' l' h' = true → hasV v m l h x = true → hasV v' m' l' h' x = true) := fun h1 h2 => insV_has h1 h2
  obtain ⟨ii, I1⟩ : ∃ b, Hid (insV v m l h v' m' l' h' = b) := ⟨_, rfl⟩
  obtain ⟨p, P1⟩ : ∃ b, Hid (hasV v m l h x = b) := ⟨_, rfl⟩
  obtain ⟨q, Q1⟩ : ∃ b, Hid (hasV v' m' l' h' x = b) := ⟨_, rfl⟩
  rw [I1.out, P1.out, Q1.out] at I2
  rw [P1.out, Q1.out] at J2
  go_enter Try.func7, Try.ntmps7
  go_wp2_with fail
  refine (N1.out _).mono ?_
  rintro e w1 ⟨rfl, hb1⟩
  have hB1 := (((Kp.start w).add4 _ _ _ _ _).add4 _ _ _ _ _).keep hb1
  simp only [World.size_alloc] at hB1
  have hB2 := hB1.add4 (U a) (U b) (U c) (U d) 49
  go_upto_if 23 with fail
  clear hb1 hB1 N1
  go_cut [8] (fun t wc => t = .bool i ∧ Kp w wc [(w1.heap.size, [U a, U b, U c, U d]), (w.heap.size + 1, [U v', U m', U l', U h']), (w.heap.size, [U v, U m, U l, U h])])
  case first =>
    as_aux_lemma =>
      clear J1 J2 I1 I2 P1 Q1
      rcases N2.out with rfl | ⟨rfl, R1, a', b', c', d', i', M1, M2⟩
      · clear N2
        go_wp2_with fail
        go_meet
        case rel => exact ⟨rfl, hB2⟩
      · clear N2
        have Hraw : Hid (rawV v m l h x = (hasB v m x && (decide (nv l ≤ nv x) && decide (nv x ≤ nv h)))) := rfl
        obtain ⟨hx, HX⟩ : ∃ z, Hid (hasV a b c d x = z) := ⟨_, rfl⟩
        obtain ⟨hbx, HB⟩ : ∃ z, Hid (hasB v m x = z) := ⟨_, rfl⟩
        rw [HX.out] at R1
        rw [HB.out] at Hraw
        go_upto_region 3 with fail
        go_cut [10] (fun t wd => t = .bool (rawV v m l h x) ∧ Kp w wd [(w1.heap.size, [U a, U b, U c, U d]), (w.heap.size + 1, [U v', U m', U l', U h']), (w.heap.size, [U v, U m, U l, U h])])
        case first =>
          as_aux_lemma =>
            obtain ⟨n0, n1, n2, n3, n4, n5, n6, n7, n8⟩ := hB2.box.head.four
            obtain ⟨g0, g1, g2, g3, g4, g5, g6, g7, g8⟩ := hB2.box.tail.head.four
            obtain ⟨f0, f1, f2, f3, f4, f5, f6, f7, f8⟩ := hB2.box.tail.tail.head.four
            go_wp2_with fail
            refine (hasC HB.out _).mono ?_
            rintro e w2 ⟨rfl, hb2⟩
            have hB3 := hB2.keep hb2
            clear n0 n1 n2 n3 n4 n5 n6 n7 n8 g0 g1 g2 g3 g4 g5 g6 g7 g8 f0 f1 f2 f3 f4 f5 f6 f7 f8
            obtain ⟨n0, n1, n2, n3, n4, n5, n6, n7, n8⟩ := hB3.box.head.four
            obtain ⟨g0, g1, g2, g3, g4, g5, g6, g7, g8⟩ := hB3.box.tail.head.four
            obtain ⟨f0, f1, f2, f3, f4, f5, f6, f7, f8⟩ := hB3.box.tail.tail.head.four
            cases hbx
            · go_wp2_with fail
              go_meet
              case rel => exact ⟨by rw [Hraw.out]; rfl, hB3⟩
            · by_cases h1 : nv l ≤ nv x
              · by_cases h2 : nv x ≤ nv h
                · go_wp2_with fail
                  go_meet
                  case rel => exact ⟨by rw [Hraw.out]; simp [h1, h2], hB3⟩
                · have h2' : nv h < nv x := by omega
                  go_wp2_with fail
                  go_meet
                  case rel => exact ⟨by rw [Hraw.out]; simp <;> omega, hB3⟩
              · have h1' : nv x < nv l := by omega
                go_wp2_with fail
                go_meet
                case rel => exact ⟨by rw [Hraw.out]; simp <;> omega, hB3⟩
        case rest =>
        clear hB2 Hraw HB
        obtain ⟨rfl, hB3⟩ := hcut
        rw [R1.out]
        clear R1
        obtain ⟨n0, n1, n2, n3, n4, n5, n6, n7, n8⟩ := hB3.box.head.four
        obtain ⟨g0, g1, g2, g3, g4, g5, g6, g7, g8⟩ := hB3.box.tail.head.four
        obtain ⟨f0, f1, f2, f3, f4, f5, f6, f7, f8⟩ := hB3.box.tail.tail.head.four
        rcases M2.out with rfl | ⟨rfl, rfl, rfl, rfl, rfl, rfl, E1, E2⟩
        · go_wp2_with fail
          refine (M1.out _).mono ?_
          rintro e w2 ⟨rfl, hb2⟩
          have hB4 := hB3.keep hb2
          go_wp2_with fail
          go_meet
          case rel => exact ⟨rfl, (hB4.add4 _ _ _ _ _).drop⟩
        · go_wp2_with fail
          refine (hasVC HX.out _).mono ?_
          rintro e w2 ⟨rfl, hb2⟩
          have hB4 := hB3.keep hb2
          clear n0 n1 n2 n3 n4 n5 n6 n7 n8 g0 g1 g2 g3 g4 g5 g6 g7 g8 f0 f1 f2 f3 f4 f5 f6 f7 f8
          obtain ⟨n0, n1, n2, n3, n4, n5, n6, n7, n8⟩ := hB4.box.head.four
          obtain ⟨g0, g1, g2, g3, g4, g5, g6, g7, g8⟩ := hB4.box.tail.head.four
          obtain ⟨f0, f1, f2, f3, f4, f5, f6, f7, f8⟩ := hB4.box.tail.tail.head.four
          have hne : (hx != hx) = false := by cases hx <;> rfl
          go_wp2_with fail
          refine (M1.out _).mono ?_
          rintro e w3 ⟨rfl, hb3⟩
          have hB5 := hB4.keep hb3
          have hB6 := hB5.add4 (U a') (U b') (U c') (U d') 49
          clear n0 n1 n2 n3 n4 n5 n6 n7 n8 g0 g1 g2 g3 g4 g5 g6 g7 g8 f0 f1 f2 f3 f4 f5 f6 f7 f8
          obtain ⟨n0, n1, n2, n3, n4, n5, n6, n7, n8⟩ := hB5.box.head.four
          obtain ⟨g0, g1, g2, g3, g4, g5, g6, g7, g8⟩ := hB5.box.tail.head.four
          obtain ⟨f0, f1, f2, f3, f4, f5, f6, f7, f8⟩ := hB5.box.tail.tail.head.four
          go_wp2_with fail
          refine (hasVC E1.out _).mono ?_
          rintro e w4 ⟨rfl, hb4⟩
          have hB7 := hB6.keep hb4
          clear n0 n1 n2 n3 n4 n5 n6 n7 n8 g0 g1 g2 g3 g4 g5 g6 g7 g8 f0 f1 f2 f3 f4 f5 f6 f7 f8
          obtain ⟨k0, k1, k2, k3, k4, k5, k6, k7, k8⟩ := hB7.box.head.four
          obtain ⟨n0, n1, n2, n3, n4, n5, n6, n7, n8⟩ := hB7.box.tail.head.four
          obtain ⟨g0, g1, g2, g3, g4, g5, g6, g7, g8⟩ := hB7.box.tail.tail.head.four
          obtain ⟨f0, f1, f2, f3, f4, f5, f6, f7, f8⟩ := hB7.box.tail.tail.tail.head.four
          go_wp2_with fail
          refine (hasVC E2.out _).mono ?_
          rintro e w5 ⟨rfl, hb5⟩
          have hB8 := hB7.keep hb5
          clear k0 k1 k2 k3 k4 k5 k6 k7 k8 n0 n1 n2 n3 n4 n5 n6 n7 n8 g0 g1 g2 g3 g4 g5 g6 g7 g8 f0 f1 f2 f3 f4 f5 f6 f7 f8
          obtain ⟨k0, k1, k2, k3, k4, k5, k6, k7, k8⟩ := hB8.box.head.four
          obtain ⟨n0, n1, n2, n3, n4, n5, n6, n7, n8⟩ := hB8.box.tail.head.four
          obtain ⟨g0, g1, g2, g3, g4, g5, g6, g7, g8⟩ := hB8.box.tail.tail.head.four
          obtain ⟨f0, f1, f2, f3, f4, f5, f6, f7, f8⟩ := hB8.box.tail.tail.tail.head.four
          go_wp2_with fail
          go_meet
          case rel => exact ⟨rfl, hB8.drop⟩
  case rest =>
  clear hB2 N2
  obtain ⟨rfl, hK1⟩ := hcut
  obtain ⟨n0, n1, n2, n3, n4, n5, n6, n7, n8⟩ := hK1.box.head.four
  obtain ⟨g0, g1, g2, g3, g4, g5, g6, g7, g8⟩ := hK1.box.tail.head.four
  obtain ⟨f0, f1, f2, f3, f4, f5, f6, f7, f8⟩ := hK1.box.tail.tail.head.four
  go_wp2_with fail
  refine (J1.out _).mono ?_
  rintro e w2 ⟨rfl, hb2⟩
  have hK2 := hK1.keep hb2
  have hK3 := hK2.add4 (U ja) (U jb) (U jc) (U jd) 49
  clear n0 n1 n2 n3 n4 n5 n6 n7 n8 g0 g1 g2 g3 g4 g5 g6 g7 g8 f0 f1 f2 f3 f4 f5 f6 f7 f8
  go_upto_region 10 with fail
  clear hK1 hK2 hb2 J1
  go_cut [117] (fun t wd => t = .bool false ∧ Kp w wd [(w2.heap.size, [U ja, U jb, U jc, U jd]), (w1.heap.size, [U a, U b, U c, U d]), (w.heap.size + 1, [U v', U m', U l', U h']), (w.heap.size, [U v, U m, U l, U h])])
  case first =>
    as_aux_lemma =>
      clear I1 I2
      obtain ⟨j0, j1, j2, j3, j4, j5, j6, j7, j8⟩ := hK3.box.head.four
      obtain ⟨n0, n1, n2, n3, n4, n5, n6, n7, n8⟩ := hK3.box.tail.head.four
      obtain ⟨g0, g1, g2, g3, g4, g5, g6, g7, g8⟩ := hK3.box.tail.tail.head.four
      obtain ⟨f0, f1, f2, f3, f4, f5, f6, f7, f8⟩ := hK3.box.tail.tail.tail.head.four
      rcases J2.out with rfl | ⟨rfl, J3, J4, J5⟩
      · go_wp2_with fail
        go_meet
        case rel => exact ⟨rfl, hK3⟩
      · clear J2
        go_wp2_with fail
        refine (hasVC P1.out _).mono ?_
        rintro e w3 ⟨rfl, hb3⟩
        have hK4 := hK3.keep hb3
        clear j0 j1 j2 j3 j4 j5 j6 j7 j8 n0 n1 n2 n3 n4 n5 n6 n7 n8 g0 g1 g2 g3 g4 g5 g6 g7 g8 f0 f1 f2 f3 f4 f5 f6 f7 f8
        obtain ⟨j0, j1, j2, j3, j4, j5, j6, j7, j8⟩ := hK4.box.head.four
        obtain ⟨n0, n1, n2, n3, n4, n5, n6, n7, n8⟩ := hK4.box.tail.head.four
        obtain ⟨g0, g1, g2, g3, g4, g5, g6, g7, g8⟩ := hK4.box.tail.tail.head.four
        obtain ⟨f0, f1, f2, f3, f4, f5, f6, f7, f8⟩ := hK4.box.tail.tail.tail.head.four
        cases p
        · go_wp2_with fail
          refine (hasVC Q1.out _).mono ?_
          rintro e w4 ⟨rfl, hb4⟩
          have hK5 := hK4.keep hb4
          clear j0 j1 j2 j3 j4 j5 j6 j7 j8 n0 n1 n2 n3 n4 n5 n6 n7 n8 g0 g1 g2 g3 g4 g5 g6 g7 g8 f0 f1 f2 f3 f4 f5 f6 f7 f8
          obtain ⟨j0, j1, j2, j3, j4, j5, j6, j7, j8⟩ := hK5.box.head.four
          obtain ⟨n0, n1, n2, n3, n4, n5, n6, n7, n8⟩ := hK5.box.tail.head.four
          obtain ⟨g0, g1, g2, g3, g4, g5, g6, g7, g8⟩ := hK5.box.tail.tail.head.four
          obtain ⟨f0, f1, f2, f3, f4, f5, f6, f7, f8⟩ := hK5.box.tail.tail.tail.head.four
          cases q
          · go_wp2_with fail
            refine (insVC J4.out _).mono ?_
            rintro e w5 ⟨rfl, hb5⟩
            have hK6 := hK5.keep hb5
            clear j0 j1 j2 j3 j4 j5 j6 j7 j8 n0 n1 n2 n3 n4 n5 n6 n7 n8 g0 g1 g2 g3 g4 g5 g6 g7 g8 f0 f1 f2 f3 f4 f5 f6 f7 f8
            obtain ⟨j0, j1, j2, j3, j4, j5, j6, j7, j8⟩ := hK6.box.head.four
            obtain ⟨n0, n1, n2, n3, n4, n5, n6, n7, n8⟩ := hK6.box.tail.head.four
            obtain ⟨g0, g1, g2, g3, g4, g5, g6, g7, g8⟩ := hK6.box.tail.tail.head.four
            obtain ⟨f0, f1, f2, f3, f4, f5, f6, f7, f8⟩ := hK6.box.tail.tail.tail.head.four
            go_wp2_with fail
            refine (insVC J5.out _).mono ?_
            rintro e w6 ⟨rfl, hb6⟩
            have hK7 := hK6.keep hb6
            go_wp2_with fail
            go_meet
            case rel => exact ⟨rfl, hK7⟩
          · have J6 : Hid (hasV ja jb jc jd x = true) := J3.out rfl
            go_wp2_with fail
            refine (hasVC J6.out _).mono ?_
            rintro e w5 ⟨rfl, hb5⟩
            have hK6 := hK5.keep hb5
            clear j0 j1 j2 j3 j4 j5 j6 j7 j8 n0 n1 n2 n3 n4 n5 n6 n7 n8 g0 g1 g2 g3 g4 g5 g6 g7 g8 f0 f1 f2 f3 f4 f5 f6 f7 f8
            obtain ⟨j0, j1, j2, j3, j4, j5, j6, j7, j8⟩ := hK6.box.head.four
            obtain ⟨n0, n1, n2, n3, n4, n5, n6, n7, n8⟩ := hK6.box.tail.head.four
            obtain ⟨g0, g1, g2, g3, g4, g5, g6, g7, g8⟩ := hK6.box.tail.tail.head.four
            obtain ⟨f0, f1, f2, f3, f4, f5, f6, f7, f8⟩ := hK6.box.tail.tail.tail.head.four
            go_wp2_with fail
            refine (insVC J4.out _).mono ?_
            rintro e w6 ⟨rfl, hb6⟩
            have hK7 := hK6.keep hb6
            clear j0 j1 j2 j3 j4 j5 j6 j7 j8 n0 n1 n2 n3 n4 n5 n6 n7 n8 g0 g1 g2 g3 g4 g5 g6 g7 g8 f0 f1 f2 f3 f4 f5 f6 f7 f8
            obtain ⟨j0, j1, j2, j3, j4, j5, j6, j7, j8⟩ := hK7.box.head.four
            obtain ⟨n0, n1, n2, n3, n4, n5, n6, n7, n8⟩ := hK7.box.tail.head.four
            obtain ⟨g0, g1, g2, g3, g4, g5, g6, g7, g8⟩ := hK7.box.tail.tail.head.four
            obtain ⟨f0, f1, f2, f3, f4, f5, f6, f7, f8⟩ := hK7.box.tail.tail.tail.head.four
            go_wp2_with fail
            refine (insVC J5.out _).mono ?_
            rintro e w7 ⟨rfl, hb7⟩
            have hK8 := hK7.keep hb7
            go_wp2_with fail
            go_meet
            case rel => exact ⟨rfl, hK8⟩
        · have J6 : Hid (hasV ja jb jc jd x = true) := J3.out rfl
          go_wp2_with fail
          refine (hasVC J6.out _).mono ?_
          rintro e w5 ⟨rfl, hb5⟩
          have hK6 := hK4.keep hb5
          clear j0 j1 j2 j3 j4 j5 j6 j7 j8 n0 n1 n2 n3 n4 n5 n6 n7 n8 g0 g1 g2 g3 g4 g5 g6 g7 g8 f0 f1 f2 f3 f4 f5 f6 f7 f8
          obtain ⟨j0, j1, j2, j3, j4, j5, j6, j7, j8⟩ := hK6.box.head.four
          obtain ⟨n0, n1, n2, n3, n4, n5, n6, n7, n8⟩ := hK6.box.tail.head.four
          obtain ⟨g0, g1, g2, g3, g4, g5, g6, g7, g8⟩ := hK6.box.tail.tail.head.four
          obtain ⟨f0, f1, f2, f3, f4, f5, f6, f7, f8⟩ := hK6.box.tail.tail.tail.head.four
          go_wp2_with fail
          refine (insVC J4.out _).mono ?_
          rintro e w6 ⟨rfl, hb6⟩
          have hK7 := hK6.keep hb6
          clear j0 j1 j2 j3 j4 j5 j6 j7 j8 n0 n1 n2 n3 n4 n5 n6 n7 n8 g0 g1 g2 g3 g4 g5 g6 g7 g8 f0 f1 f2 f3 f4 f5 f6 f7 f8
          obtain ⟨j0, j1, j2, j3, j4, j5, j6, j7, j8⟩ := hK7.box.head.four
          obtain ⟨n0, n1, n2, n3, n4, n5, n6, n7, n8⟩ := hK7.box.tail.head.four
          obtain ⟨g0, g1, g2, g3, g4, g5, g6, g7, g8⟩ := hK7.box.tail.tail.head.four
          obtain ⟨f0, f1, f2, f3, f4, f5, f6, f7, f8⟩ := hK7.box.tail.tail.tail.head.four
          go_wp2_with fail
          refine (insVC J5.out _).mono ?_
          rintro e w7 ⟨rfl, hb7⟩
          have hK8 := hK7.keep hb7
          go_wp2_with fail
          go_meet
          case rel => exact ⟨rfl, hK8⟩
  case rest =>
  clear hK3 J2
  obtain ⟨rfl, hK1⟩ := hcut
  go_wp2_with fail
  refine (valBegun_any _).mono ?_
  rintro e w3 ⟨rfl, hb3⟩
  have hK2 := hK1.keep hb3
  obtain ⟨g0, g1, g2, g3, g4, g5, g6, g7, g8⟩ := hK2.box.tail.tail.head.four
  obtain ⟨f0, f1, f2, f3, f4, f5, f6, f7, f8⟩ := hK2.box.tail.tail.tail.head.four
  go_wp2_with fail
  refine (insVC I1.out _).mono ?_
  rintro e w4 ⟨rfl, hb4⟩
  have hK3 := hK2.keep hb4
  clear g0 g1 g2 g3 g4 g5 g6 g7 g8 f0 f1 f2 f3 f4 f5 f6 f7 f8
  obtain ⟨g0, g1, g2, g3, g4, g5, g6, g7, g8⟩ := hK3.box.tail.tail.head.four
  obtain ⟨f0, f1, f2, f3, f4, f5, f6, f7, f8⟩ := hK3.box.tail.tail.tail.head.four
  cases ii
  · go_wp2_with fail
    go_ret
    exact ⟨rfl, hK3.bel⟩
  · go_wp2_with fail
    refine (hasVC P1.out _).mono ?_
    rintro e w5 ⟨rfl, hb5⟩
    have hK4 := hK3.keep hb5
    clear g0 g1 g2 g3 g4 g5 g6 g7 g8 f0 f1 f2 f3 f4 f5 f6 f7 f8
    obtain ⟨g0, g1, g2, g3, g4, g5, g6, g7, g8⟩ := hK4.box.tail.tail.head.four
    obtain ⟨f0, f1, f2, f3, f4, f5, f6, f7, f8⟩ := hK4.box.tail.tail.tail.head.four
    cases p
    · go_wp2_with fail
      go_ret
      exact ⟨rfl, hK4.bel⟩
    · obtain rfl : q = true := by have := I2.out; simpa using this
      go_wp2_with fail
      refine (hasVC Q1.out _).mono ?_
      rintro e w6 ⟨rfl, hb6⟩
      have hK5 := hK4.keep hb6
      go_wp2_with fail
      go_ret
      exact ⟨rfl, hK5.bel⟩

end Go.Proofs.Ytglollajdjgciaa
