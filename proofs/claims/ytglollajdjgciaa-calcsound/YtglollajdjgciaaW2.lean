/- The contracts of the reference's loops over the 64 bits. -/
import Derived.Test.YtglollajdjgciaaW1
namespace Go.Proofs.Ytglollajdjgciaa
open Go.RowKit
attribute [local go_sem] w_and w_or w_xor w_andNot w_and1 w_and63 w_add w_sub w_mul w_sub1 w_add1 w_shl w_shl1 w_shr c_beq c_bne c_beq0 c_bne0 c_beq1 c_bne1 wrap_nv

set_option maxHeartbeats 400000 in
theorem joinBits_any (av am bv bm : BitVec 64) (w : World) :
    Calls Try.prog 18 #[Bt av am, Bt bv bm] w fun e w' => e = .returned (Bt (joinV av am bv bm 64) (joinM av am bv bm 64)) ∧ Below w.heap.size w w' := by
  go_enter Try.func18, Try.ntmps18
  go_wp2
  go_loopw [6] (fun i wr => ∃ k : Nat, k ≤ 64 ∧ i = N k
      ∧ Below (w.heap.size + 1 + 1 + 1) (((w.alloc (.cells #[U av, U am] 24)).alloc (.cells #[U bv, U bm] 24)).alloc (.cells #[.int .u64 0, .int .u64 0] 24)) wr
      ∧ wr.cell? ⟨w.heap.size + 1 + 1 + 1, 0, none⟩ = some (U (joinV av am bv bm k)) ∧ wr.cell? ⟨w.heap.size + 1 + 1 + 1, 1, none⟩ = some (U (joinM av am bv bm k))
      ∧ (∀ o, wr.frozen? ⟨w.heap.size + 1 + 1 + 1, o, none⟩ = false)
      ∧ w.heap.size + 1 + 1 + 1 + 1 ≤ wr.heap.size) (fun i _ => 64 - (intOf i).toNat)
  case atStart =>
    exact ⟨0, by omega, rfl, (by repeat (first | exact Below.refl _ _ | assumption | refine below_drewN ?_ _ | refine Below.drew ?_ | refine Below.alloc ?_ (by first | exact Nat.le_refl _ | (simp; done) | (simp; omega) | omega) _ | refine Below.setCell ?_ (by first | exact Nat.le_refl _ | (simp; done) | (simp; omega) | omega) _ | refine Below.trans ?_ (Below.mono (by assumption) (by first | exact Nat.le_refl _ | (simp; done) | (simp; omega) | omega)))), by simp [joinV, acc, nv_zero, go_sem], by simp [joinM, acc, nv_zero, go_sem], by simp [go_sem], by simp⟩
  case round =>
    obtain ⟨k, hk, rfl, hbel, ho0, ho1, hfo, hsz⟩ := hrel
    obtain ⟨hc, hf⟩ := bl hbel
    by_cases hlt : k < 64
    · obtain ⟨z1, o1, H1, H2⟩ := may_eq av am k
      obtain ⟨z2, o2, H3, H4⟩ := may_eq bv bm k
      go_wp2_with fail
      refine (may_any hlt H1 H2 _).mono ?_
      rintro e w1 ⟨rfl, hb1⟩
      obtain ⟨hc1, hf1, hs1⟩ := bk _ hb1 hsz
      go_wp2_with fail
      refine (may_any hlt H3 H4 _).mono ?_
      rintro e w2 ⟨rfl, hb2⟩
      obtain ⟨hc2, hf2, hs2⟩ := bk _ hb2 hs1
      cases z1 <;> cases o1
      all_goals
        go_wp2_with fail
        refine (put_any _ _ k hlt _ _ _).mono ?_
        rintro e w3 ⟨rfl, hb3⟩
        obtain ⟨hc3, hf3, hs3⟩ := bk _ hb3 hs2
        go_wp2_with fail
        exact ⟨⟨k + 1, by omega, by go_num, out_rel hbel ((hb1.trans (hb2.mono hb1.size)).trans (hb3.mono (Nat.le_trans hb1.size hb2.size))) hsz ho0 ho1 hfo
          (by rw [← joinV_succ, ← H1.out, ← H2.out, ← H3.out, ← H4.out]; rfl) (by rw [← joinM_succ, ← H1.out, ← H2.out, ← H3.out, ← H4.out]; rfl)⟩, by simp [intOf]; omega⟩
    · have hk64 : k = 64 := by omega
      subst hk64
      go_wp2_with fail
      exact bodyPost_ret (v := Bt (joinV av am bv bm 64) (joinM av am bv bm 64)) (by simp [results, Try.results18, go_sem, hc]) rfl ⟨rfl, (by repeat (first | exact Below.refl _ _ | assumption | refine below_drewN ?_ _ | refine Below.drew ?_ | refine Below.alloc ?_ (by first | exact Nat.le_refl _ | (simp; done) | (simp; omega) | omega) _ | refine Below.setCell ?_ (by first | exact Nat.le_refl _ | (simp; done) | (simp; omega) | omega) _ | refine Below.trans ?_ (Below.mono (by assumption) (by first | exact Nat.le_refl _ | (simp; done) | (simp; omega) | omega))))⟩

set_option maxHeartbeats 600000 in
theorem meetBits_ok (av am bv bm : BitVec 64) (hok : Hid (∀ j, j < 64 → meetOk av am bv bm j = true)) (w : World) :
    Calls Try.prog 19 #[Bt av am, Bt bv bm] w fun e w' => e = .returned (.tuple #[Bt (meetV av am bv bm 64) (meetM av am bv bm 64), .bool true]) ∧ Below w.heap.size w w' := by
  go_enter Try.func19, Try.ntmps19
  go_wp2
  go_loopw [7] (fun i wr => ∃ k : Nat, k ≤ 64 ∧ i = N k
      ∧ Below (w.heap.size + 1 + 1 + 1) (((w.alloc (.cells #[U av, U am] 24)).alloc (.cells #[U bv, U bm] 24)).alloc (.cells #[.int .u64 0, .int .u64 0] 24)) wr
      ∧ wr.cell? ⟨w.heap.size + 1 + 1 + 1, 0, none⟩ = some (U (meetV av am bv bm k)) ∧ wr.cell? ⟨w.heap.size + 1 + 1 + 1, 1, none⟩ = some (U (meetM av am bv bm k))
      ∧ (∀ o, wr.frozen? ⟨w.heap.size + 1 + 1 + 1, o, none⟩ = false)
      ∧ w.heap.size + 1 + 1 + 1 + 1 ≤ wr.heap.size) (fun i _ => 64 - (intOf i).toNat)
  case atStart =>
    exact ⟨0, by omega, rfl, (by repeat (first | exact Below.refl _ _ | assumption | refine below_drewN ?_ _ | refine Below.drew ?_ | refine Below.alloc ?_ (by first | exact Nat.le_refl _ | (simp; done) | (simp; omega) | omega) _ | refine Below.setCell ?_ (by first | exact Nat.le_refl _ | (simp; done) | (simp; omega) | omega) _ | refine Below.trans ?_ (Below.mono (by assumption) (by first | exact Nat.le_refl _ | (simp; done) | (simp; omega) | omega)))), by simp [meetV, acc, nv_zero, go_sem], by simp [meetM, acc, nv_zero, go_sem], by simp [go_sem], by simp⟩
  case round =>
    obtain ⟨k, hk, rfl, hbel, ho0, ho1, hfo, hsz⟩ := hrel
    obtain ⟨hc, hf⟩ := bl hbel
    by_cases hlt : k < 64
    · obtain ⟨z1, o1, H1, H2⟩ := may_eq av am k
      obtain ⟨z2, o2, H3, H4⟩ := may_eq bv bm k
      have Hok : Hid (((z1 && z2) || (o1 && o2)) = true) := by rw [H1.out, H2.out, H3.out, H4.out]; exact hok.out k hlt
      go_wp2_with fail
      refine (may_any hlt H1 H2 _).mono ?_
      rintro e w1 ⟨rfl, hb1⟩
      obtain ⟨hc1, hf1, hs1⟩ := bk _ hb1 hsz
      go_wp2_with fail
      refine (may_any hlt H3 H4 _).mono ?_
      rintro e w2 ⟨rfl, hb2⟩
      obtain ⟨hc2, hf2, hs2⟩ := bk _ hb2 hs1
      cases z1 <;> cases o1 <;> cases z2 <;> cases o2 <;> first
        | exact absurd Hok.out (by decide)
        | (clear Hok
           go_wp2_with fail
           refine (put_any _ _ k hlt _ _ _).mono ?_
           rintro e w3 ⟨rfl, hb3⟩
           obtain ⟨hc3, hf3, hs3⟩ := bk _ hb3 hs2
           go_wp2_with fail
           exact ⟨⟨k + 1, by omega, by go_num, out_rel hbel ((hb1.trans (hb2.mono hb1.size)).trans (hb3.mono (Nat.le_trans hb1.size hb2.size))) hsz ho0 ho1 hfo
             (by rw [← meetV_succ, ← H1.out, ← H2.out, ← H3.out, ← H4.out]; rfl) (by rw [← meetM_succ, ← H1.out, ← H2.out, ← H3.out, ← H4.out]; rfl)⟩, by simp [intOf]; omega⟩)
    · have hk64 : k = 64 := by omega
      subst hk64
      go_wp2_with fail
      exact bodyPost_ret (v := .tuple #[Bt (meetV av am bv bm 64) (meetM av am bv bm 64), .bool true]) (by simp [results, Try.results19, go_sem, hc]) rfl ⟨rfl, (by repeat (first | exact Below.refl _ _ | assumption | refine below_drewN ?_ _ | refine Below.drew ?_ | refine Below.alloc ?_ (by first | exact Nat.le_refl _ | (simp; done) | (simp; omega) | omega) _ | refine Below.setCell ?_ (by first | exact Nat.le_refl _ | (simp; done) | (simp; omega) | omega) _ | refine Below.trans ?_ (Below.mono (by assumption) (by first | exact Nat.le_refl _ | (simp; done) | (simp; omega) | omega))))⟩

set_option maxHeartbeats 600000 in
theorem meetBits_no (av am bv bm : BitVec 64) (j0 : Nat) (hj : j0 < 64) (hno : Hid (meetOk av am bv bm j0 = false)) (hok : Hid (∀ j, j < j0 → meetOk av am bv bm j = true)) (w : World) :
    Calls Try.prog 19 #[Bt av am, Bt bv bm] w fun e w' => e = .returned (.tuple #[Bt zero zero, .bool false]) ∧ Below w.heap.size w w' := by
  go_enter Try.func19, Try.ntmps19
  go_wp2
  go_loopw [7] (fun i wr => ∃ k : Nat, k ≤ j0 ∧ i = N k
      ∧ Below (w.heap.size + 1 + 1 + 1) (((w.alloc (.cells #[U av, U am] 24)).alloc (.cells #[U bv, U bm] 24)).alloc (.cells #[.int .u64 0, .int .u64 0] 24)) wr
      ∧ wr.cell? ⟨w.heap.size + 1 + 1 + 1, 0, none⟩ = some (U (meetV av am bv bm k)) ∧ wr.cell? ⟨w.heap.size + 1 + 1 + 1, 1, none⟩ = some (U (meetM av am bv bm k))
      ∧ (∀ o, wr.frozen? ⟨w.heap.size + 1 + 1 + 1, o, none⟩ = false)
      ∧ w.heap.size + 1 + 1 + 1 + 1 ≤ wr.heap.size) (fun i _ => 64 - (intOf i).toNat)
  case atStart =>
    exact ⟨0, by omega, rfl, (by repeat (first | exact Below.refl _ _ | assumption | refine below_drewN ?_ _ | refine Below.drew ?_ | refine Below.alloc ?_ (by first | exact Nat.le_refl _ | (simp; done) | (simp; omega) | omega) _ | refine Below.setCell ?_ (by first | exact Nat.le_refl _ | (simp; done) | (simp; omega) | omega) _ | refine Below.trans ?_ (Below.mono (by assumption) (by first | exact Nat.le_refl _ | (simp; done) | (simp; omega) | omega)))), by simp [meetV, acc, nv_zero, go_sem], by simp [meetM, acc, nv_zero, go_sem], by simp [go_sem], by simp⟩
  case round =>
    obtain ⟨k, hk, rfl, hbel, ho0, ho1, hfo, hsz⟩ := hrel
    obtain ⟨hc, hf⟩ := bl hbel
    have hlt : k < 64 := by omega
    obtain ⟨z1, o1, H1, H2⟩ := may_eq av am k
    obtain ⟨z2, o2, H3, H4⟩ := may_eq bv bm k
    by_cases hlj : k < j0
    · have Hok : Hid (((z1 && z2) || (o1 && o2)) = true) := by rw [H1.out, H2.out, H3.out, H4.out]; exact hok.out k hlj
      go_wp2_with fail
      refine (may_any hlt H1 H2 _).mono ?_
      rintro e w1 ⟨rfl, hb1⟩
      obtain ⟨hc1, hf1, hs1⟩ := bk _ hb1 hsz
      go_wp2_with fail
      refine (may_any hlt H3 H4 _).mono ?_
      rintro e w2 ⟨rfl, hb2⟩
      obtain ⟨hc2, hf2, hs2⟩ := bk _ hb2 hs1
      cases z1 <;> cases o1 <;> cases z2 <;> cases o2 <;> first
        | exact absurd Hok.out (by decide)
        | (clear Hok
           go_wp2_with fail
           refine (put_any _ _ k hlt _ _ _).mono ?_
           rintro e w3 ⟨rfl, hb3⟩
           obtain ⟨hc3, hf3, hs3⟩ := bk _ hb3 hs2
           go_wp2_with fail
           exact ⟨⟨k + 1, by omega, by go_num, out_rel hbel ((hb1.trans (hb2.mono hb1.size)).trans (hb3.mono (Nat.le_trans hb1.size hb2.size))) hsz ho0 ho1 hfo
             (by rw [← meetV_succ, ← H1.out, ← H2.out, ← H3.out, ← H4.out]; rfl) (by rw [← meetM_succ, ← H1.out, ← H2.out, ← H3.out, ← H4.out]; rfl)⟩, by simp [intOf]; omega⟩)
    · have ek : k = j0 := by omega
      have Hno : Hid (((z1 && z2) || (o1 && o2)) = false) := by rw [H1.out, H2.out, H3.out, H4.out, ek]; exact hno.out
      clear ek
      go_wp2_with fail
      refine (may_any hlt H1 H2 _).mono ?_
      rintro e w1 ⟨rfl, hb1⟩
      obtain ⟨hc1, hf1, hs1⟩ := bk _ hb1 hsz
      go_wp2_with fail
      refine (may_any hlt H3 H4 _).mono ?_
      rintro e w2 ⟨rfl, hb2⟩
      obtain ⟨hc2, hf2, hs2⟩ := bk _ hb2 hs1
      cases z1 <;> cases o1 <;> cases z2 <;> cases o2 <;> first
        | exact absurd Hno.out (by decide)
        | (clear Hno
           go_wp2_with fail
           exact bodyPost_ret (v := .tuple #[Bt zero zero, .bool false]) (by simp [results, Try.results19, go_sem, hc, hc1, hc2, nv_zero]) rfl ⟨rfl, (by repeat (first | exact Below.refl _ _ | assumption | refine below_drewN ?_ _ | refine Below.drew ?_ | refine Below.alloc ?_ (by first | exact Nat.le_refl _ | (simp; done) | (simp; omega) | omega) _ | refine Below.setCell ?_ (by first | exact Nat.le_refl _ | (simp; done) | (simp; omega) | omega) _ | refine Below.trans ?_ (Below.mono (by assumption) (by first | exact Nat.le_refl _ | (simp; done) | (simp; omega) | omega))))⟩)

end Go.Proofs.Ytglollajdjgciaa
