/- The contracts of the reference's ShiftBits, SpanBits, InsideBits, BitsHave. -/
import Derived.Test.YtglollajdjgciaaW1
namespace Go.Proofs.Ytglollajdjgciaa
open Go.RowKit
attribute [local go_sem] w_and w_or w_xor w_andNot w_and1 w_and63 w_add w_sub w_mul w_sub1 w_add1 w_shl w_shl1 w_shr c_beq c_bne c_beq0 c_bne0 c_beq1 c_bne1 wrap_nv

/- a round of ShiftBits: the source lies within, or it doesn't -/
set_option maxHeartbeats 600000 in
theorem shiftBits_any (up : Bool) (op : Int) (hop : op = if up then 8 else 9) (v m : BitVec 64) (n : Nat) (hn : n < 64) (w : World) :
    Calls Try.prog 20 #[N op, Bt v m, N n] w fun e w' => e = .returned (Bt (shV up v m n 64) (shM up v m n 64)) ∧ Below w.heap.size w w' := by
  have hop9 : (op == 9) = !up := by cases up <;> simp [hop]
  clear hop
  go_enter Try.func20, Try.ntmps20
  go_wp2
  go_loopw [8] (fun i wr => ∃ k : Nat, k ≤ 64 ∧ i = N k
      ∧ Below (w.heap.size + 1 + 1) ((w.alloc (.cells #[U v, U m] 24)).alloc (.cells #[.int .u64 0, .int .u64 0] 24)) wr
      ∧ wr.cell? ⟨w.heap.size + 1 + 1, 0, none⟩ = some (U (shV up v m n k)) ∧ wr.cell? ⟨w.heap.size + 1 + 1, 1, none⟩ = some (U (shM up v m n k))
      ∧ (∀ o, wr.frozen? ⟨w.heap.size + 1 + 1, o, none⟩ = false)
      ∧ w.heap.size + 1 + 1 + 1 ≤ wr.heap.size) (fun i _ => 64 - (intOf i).toNat)
  case atStart =>
    exact ⟨0, by omega, rfl, (by repeat (first | exact Below.refl _ _ | assumption | refine below_drewN ?_ _ | refine Below.drew ?_ | refine Below.alloc ?_ (by first | exact Nat.le_refl _ | (simp; done) | (simp; omega) | omega) _ | refine Below.setCell ?_ (by first | exact Nat.le_refl _ | (simp; done) | (simp; omega) | omega) _ | refine Below.trans ?_ (Below.mono (by assumption) (by first | exact Nat.le_refl _ | (simp; done) | (simp; omega) | omega)))), by simp [shV, acc, nv_zero, go_sem], by simp [shM, acc, nv_zero, go_sem], by simp [go_sem], by simp⟩
  case round =>
    obtain ⟨k, hk, rfl, hbel, ho0, ho1, hfo, hsz⟩ := hrel
    obtain ⟨hc, hf⟩ := bl hbel
    by_cases hlt : k < 64
    · cases up
      · by_cases hin : k + n < 64
        · obtain ⟨z1, o1, H1, H2⟩ := may_eq v m (k + n)
          have hs := sh_in false v m n k (k + n) (by simp [shFrom]) hin
          have Hz : Hid (z1 = shz false v n k) := H1.out.trans hs.1
          have Ho : Hid (o1 = sho false v m n k) := H2.out.trans hs.2
          clear hs
          go_wp2_with fail
          refine (within_yes (by omega) _).mono ?_
          rintro e w0 ⟨rfl, rfl⟩
          go_wp2_with fail
          rw [show (k : Int) + (n : Int) = ((k + n : Nat) : Int) from by omega]
          refine (may_any hin H1 H2 _).mono ?_
          rintro e w1 ⟨rfl, hb1⟩
          obtain ⟨hc1, hf1, hs1⟩ := bk _ hb1 hsz
          go_wp2_with fail
          refine (put_any _ _ k hlt _ _ _).mono ?_
          rintro e w3 ⟨rfl, hb3⟩
          obtain ⟨hc3, hf3, hs3⟩ := bk _ hb3 hs1
          go_wp2_with fail
          exact ⟨⟨k + 1, by omega, by go_num, out_rel hbel (hb1.trans (hb3.mono hb1.size)) hsz ho0 ho1 hfo
            (by rw [← shV_succ, ← Hz.out, ← Ho.out]) (by rw [← shM_succ, ← Hz.out, ← Ho.out])⟩, by simp [intOf]; omega⟩
        · have hs := sh_out false v m n k (by simp [shFrom]; omega)
          have Hz : Hid (true = shz false v n k) := hs.1
          have Ho : Hid (false = sho false v m n k) := hs.2
          clear hs
          go_wp2_with fail
          refine (within_no (by omega) _).mono ?_
          rintro e w0 ⟨rfl, rfl⟩
          go_wp2_with fail
          refine (put_any _ _ k hlt _ _ _).mono ?_
          rintro e w3 ⟨rfl, hb3⟩
          obtain ⟨hc3, hf3, hs3⟩ := bk _ hb3 hsz
          go_wp2_with fail
          exact ⟨⟨k + 1, by omega, by go_num, out_rel hbel hb3 hsz ho0 ho1 hfo
            (by rw [← shV_succ, ← Hz.out, ← Ho.out]) (by rw [← shM_succ, ← Hz.out, ← Ho.out])⟩, by simp [intOf]; omega⟩
      · by_cases hin : n ≤ k
        · obtain ⟨z1, o1, H1, H2⟩ := may_eq v m (k - n)
          have hs := sh_in true v m n k (k - n) (by simp [shFrom]; omega) (by omega)
          have Hz : Hid (z1 = shz true v n k) := H1.out.trans hs.1
          have Ho : Hid (o1 = sho true v m n k) := H2.out.trans hs.2
          clear hs
          go_wp2_with fail
          refine (within_yes (by omega) _).mono ?_
          rintro e w0 ⟨rfl, rfl⟩
          go_wp2_with fail
          rw [show (k : Int) - (n : Int) = ((k - n : Nat) : Int) from by omega]
          refine (may_any (by omega) H1 H2 _).mono ?_
          rintro e w1 ⟨rfl, hb1⟩
          obtain ⟨hc1, hf1, hs1⟩ := bk _ hb1 hsz
          go_wp2_with fail
          refine (put_any _ _ k hlt _ _ _).mono ?_
          rintro e w3 ⟨rfl, hb3⟩
          obtain ⟨hc3, hf3, hs3⟩ := bk _ hb3 hs1
          go_wp2_with fail
          exact ⟨⟨k + 1, by omega, by go_num, out_rel hbel (hb1.trans (hb3.mono hb1.size)) hsz ho0 ho1 hfo
            (by rw [← shV_succ, ← Hz.out, ← Ho.out]) (by rw [← shM_succ, ← Hz.out, ← Ho.out])⟩, by simp [intOf]; omega⟩
        · have hs := sh_out true v m n k (by simp [shFrom]; omega)
          have Hz : Hid (true = shz true v n k) := hs.1
          have Ho : Hid (false = sho true v m n k) := hs.2
          clear hs
          go_wp2_with fail
          refine (within_no (by omega) _).mono ?_
          rintro e w0 ⟨rfl, rfl⟩
          go_wp2_with fail
          refine (put_any _ _ k hlt _ _ _).mono ?_
          rintro e w3 ⟨rfl, hb3⟩
          obtain ⟨hc3, hf3, hs3⟩ := bk _ hb3 hsz
          go_wp2_with fail
          exact ⟨⟨k + 1, by omega, by go_num, out_rel hbel hb3 hsz ho0 ho1 hfo
            (by rw [← shV_succ, ← Hz.out, ← Ho.out]) (by rw [← shM_succ, ← Hz.out, ← Ho.out])⟩, by simp [intOf]; omega⟩
    · have hk64 : k = 64 := by omega
      subst hk64
      go_wp2_with fail
      exact bodyPost_ret (v := Bt (shV up v m n 64) (shM up v m n 64)) (by simp [results, Try.results20, go_sem, hc]) rfl ⟨rfl, (by repeat (first | exact Below.refl _ _ | assumption | refine below_drewN ?_ _ | refine Below.drew ?_ | refine Below.alloc ?_ (by first | exact Nat.le_refl _ | (simp; done) | (simp; omega) | omega) _ | refine Below.setCell ?_ (by first | exact Nat.le_refl _ | (simp; done) | (simp; omega) | omega) _ | refine Below.trans ?_ (Below.mono (by assumption) (by first | exact Nat.le_refl _ | (simp; done) | (simp; omega) | omega))))⟩

/- SpanBits: from the highest bit down -/
set_option maxHeartbeats 600000 in
theorem spanBits_any (l h : BitVec 64) (w : World) :
    Calls Try.prog 21 #[U l, U h] w fun e w' => e = .returned (Bt (spanV l h 64) (spanM l h 64)) ∧ Below w.heap.size w w' := by
  go_enter Try.func21, Try.ntmps21
  go_wp2
  go_loopw [6, 7] (fun s i wr => ∃ (c : Nat) (t : Int), c ≤ 64 ∧ s = .bool (sameB l h c) ∧ i = N t ∧ t = 63 - c
      ∧ Below (w.heap.size + 1) (w.alloc (.cells #[.int .u64 0, .int .u64 0] 24)) wr
      ∧ wr.cell? ⟨w.heap.size + 1, 0, none⟩ = some (U (spanV l h c)) ∧ wr.cell? ⟨w.heap.size + 1, 1, none⟩ = some (U (spanM l h c))
      ∧ (∀ o, wr.frozen? ⟨w.heap.size + 1, o, none⟩ = false)
      ∧ w.heap.size + 1 + 1 ≤ wr.heap.size) (fun _ i _ => (intOf i + 1).toNat)
  case atStart =>
    exact ⟨0, 63, by omega, rfl, rfl, by omega, (by repeat (first | exact Below.refl _ _ | assumption | refine below_drewN ?_ _ | refine Below.drew ?_ | refine Below.alloc ?_ (by first | exact Nat.le_refl _ | (simp; done) | (simp; omega) | omega) _ | refine Below.setCell ?_ (by first | exact Nat.le_refl _ | (simp; done) | (simp; omega) | omega) _ | refine Below.trans ?_ (Below.mono (by assumption) (by first | exact Nat.le_refl _ | (simp; done) | (simp; omega) | omega)))), by simp [spanV, accd, nv_zero, go_sem], by simp [spanM, accd, nv_zero, go_sem], by simp [go_sem], by simp⟩
  case round =>
    obtain ⟨c, t, hc, rfl, rfl, ht, hbel, ho0, ho1, hfo, hsz⟩ := hrel
    obtain ⟨hcc, hf⟩ := bl hbel
    by_cases hlt : c < 64
    · obtain ⟨i, rfl⟩ := Int.eq_ofNat_of_zero_le (show 0 ≤ t by omega)
      have hi : i = 63 - c := by omega
      have hi64 : i < 64 := by omega
      have hi0 : (0 : Int) ≤ (i : Int) := by omega
      have Hi : Hid (i = 63 - c) := hi
      have hstep := sp_step l h c i hi hlt
      have hl := low_bit l i
      have hh := low_bit h i
      obtain ⟨s, hs⟩ : ∃ s, s = sameB l h c := ⟨_, rfl⟩
      obtain ⟨bl, hbl⟩ : ∃ b, b = bit l i := ⟨_, rfl⟩
      obtain ⟨bh, hbh⟩ : ∃ b, b = bit h i := ⟨_, rfl⟩
      rw [← hbl, ← hbh, ← hs] at hstep
      rw [← hbl] at hl
      rw [← hbh] at hh
      rw [← hs]
      clear hi ht hs hbl hbh
      have H1 : Hid _ := hstep.1
      have H2 : Hid _ := hstep.2.1
      have H3 : Hid _ := hstep.2.2
      clear hstep
      have q1 := eqb_oo
      have q2 := eqb_oz
      have q3 := eqb_zo
      have q4 := eqb_zz
      cases s <;> cases bl <;> cases bh
      all_goals
        simp only [if_true, if_false, Bool.false_eq_true] at hl hh
        go_wp2_with fail
        go_quiet (fail)
        go_wp2_with fail
        refine (put_any _ _ i hi64 _ _ _).mono ?_
        rintro e w3 ⟨rfl, hb3⟩
        have hb3' : Below wr.heap.size wr w3 := (below_drewN (Below.refl _ wr) _).trans hb3
        obtain ⟨hc3, hf3, hs3⟩ := bk _ hb3' hsz
        clear hb3
        go_wp2_with fail
        exact ⟨⟨c + 1, _, by omega, by rw [H1.out]; rfl, rfl, by have := Hi.out; omega, out_rel hbel hb3' hsz ho0 ho1 hfo
          (by rw [← spanV_succ l h c i Hi.out, H2.out, H3.out]; rfl) (by rw [← spanM_succ l h c i Hi.out, H2.out, H3.out]; rfl)⟩, by simp [intOf]⟩
    · have ec : c = 64 := by omega
      subst ec
      have ht' : t = -1 := by omega
      subst ht'
      go_wp2_with fail
      exact bodyPost_ret (v := Bt (spanV l h 64) (spanM l h 64)) (by simp [results, Try.results21, go_sem, hcc]) rfl ⟨rfl, (by repeat (first | exact Below.refl _ _ | assumption | refine below_drewN ?_ _ | refine Below.drew ?_ | refine Below.alloc ?_ (by first | exact Nat.le_refl _ | (simp; done) | (simp; omega) | omega) _ | refine Below.setCell ?_ (by first | exact Nat.le_refl _ | (simp; done) | (simp; omega) | omega) _ | refine Below.trans ?_ (Below.mono (by assumption) (by first | exact Nat.le_refl _ | (simp; done) | (simp; omega) | omega))))⟩

end Go.Proofs.Ytglollajdjgciaa
