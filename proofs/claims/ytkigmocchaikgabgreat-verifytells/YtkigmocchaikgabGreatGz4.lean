import Derived.Test.YtkigmocchaikgabGreatGz3
import Derived.Laws.MathBits
import Derived.Laws.StructEq
import Derived.Deep.RegionWith
import Derived.Deep.CutBlock
import Derived.Deep.DeepCutAuto
import Derived.Test.YtkigmocchaikgabGreatGz1
import Derived.Test.YtkigmocchaikgabGreatGz2
import Derived.Test.YtkigmocchaikgabGreatProg
/- The contracts of the reference's loops over the 64 bits. -/
namespace Go.Proofs.YtkigmocchaikgabGreat
open Go.RowKit
attribute [local go_sem] w_and w_or w_xor w_andNot w_and1 w_and63 w_add w_sub w_mul w_sub1 w_add1 w_shl w_shl1 w_shr c_beq c_bne c_beq0 c_bne0 c_beq1 c_bne1 wrap_nv

set_option maxHeartbeats 400000 in
theorem joinBits_any (av am bv bm : BitVec 64) (w : World) :
    Calls Tryz.prog 125 #[Bt av am, Bt bv bm] w fun e w' => e = .returned (Bt (joinV av am bv bm 64) (joinM av am bv bm 64)) ∧ Below w.heap.size w w' := by
  go_enter Tryz.func125, Tryz.ntmps125
  go_wp2
  go_loopw [6] (fun i wr => ∃ k : Nat, k ≤ 64 ∧ i = N k
      ∧ Below (w.heap.size + 1 + 1 + 1) (((w.alloc (.cells #[U av, U am] 27)).alloc (.cells #[U bv, U bm] 27)).alloc (.cells #[.int .u64 0, .int .u64 0] 27)) wr
      ∧ wr.cell? ⟨w.heap.size + 1 + 1 + 1, 0, none⟩ = some (U (joinV av am bv bm k)) ∧ wr.cell? ⟨w.heap.size + 1 + 1 + 1, 1, none⟩ = some (U (joinM av am bv bm k))
      ∧ (∀ o, wr.frozen? ⟨w.heap.size + 1 + 1 + 1, o, none⟩ = false)
      ∧ w.heap.size + 1 + 1 + 1 + 1 ≤ wr.heap.size) (fun i _ => 64 - (intOf i).toNat)
  case atStart =>
    exact ⟨0, by omega, rfl, (by repeat (first | exact Below.refl _ _ | assumption | refine below_drewN ?_ _ | refine Below.drew ?_ | refine Below.alloc ?_ (by first | exact Nat.le_refl _ | (simp; done) | (simp; omega) | omega) _ | refine Below.setCell ?_ (by first | exact Nat.le_refl _ | (simp; done) | (simp; omega) | omega) _ | refine Below.trans ?_ (Below.mono (by assumption) (by first | exact Nat.le_refl _ | (simp; done) | (simp; omega) | omega)))), by simp [joinV, acc, nv_zero, go_sem], by simp [joinM, acc, nv_zero, go_sem], by simp [go_sem], by simp⟩
  case round =>
    obtain ⟨k, hk, rfl, hbel, ho0, ho1, hfo, hsz⟩ := hrel
    obtain ⟨hc, hf⟩ := bl hbel
    by_cases hlt : k < 64
    · obtain ⟨z1, o1, H1, H2⟩ := may_eq av am k
      obtain ⟨z2, o2, H3, H4⟩ := may_eq bv bm k
      go_wp2_with fail
      refine (may_any hlt H1 H2 _).mono ?_
      rintro e w1 ⟨rfl, hb1⟩
      obtain ⟨hc1, hf1, hs1⟩ := bk _ hb1 hsz
      go_wp2_with fail
      refine (may_any hlt H3 H4 _).mono ?_
      rintro e w2 ⟨rfl, hb2⟩
      obtain ⟨hc2, hf2, hs2⟩ := bk _ hb2 hs1
      cases z1 <;> cases o1
      all_goals
        go_wp2_with fail
        refine (put_any _ _ k hlt _ _ _).mono ?_
        rintro e w3 ⟨rfl, hb3⟩
        obtain ⟨hc3, hf3, hs3⟩ := bk _ hb3 hs2
        go_wp2_with fail
        exact ⟨⟨k + 1, by omega, by go_num, out_rel hbel ((hb1.trans (hb2.mono hb1.size)).trans (hb3.mono (Nat.le_trans hb1.size hb2.size))) hsz ho0 ho1 hfo
          (by rw [← joinV_succ, ← H1.out, ← H2.out, ← H3.out, ← H4.out]; rfl) (by rw [← joinM_succ, ← H1.out, ← H2.out, ← H3.out, ← H4.out]; rfl)⟩, by simp [intOf]; omega⟩
    · have hk64 : k = 64 := by omega
      subst hk64
      go_wp2_with fail
      exact bodyPost_ret (v := Bt (joinV av am bv bm 64) (joinM av am bv bm 64)) (by simp [results, Tryz.results125, go_sem, hc]) rfl ⟨rfl, (by repeat (first | exact Below.refl _ _ | assumption | refine below_drewN ?_ _ | refine Below.drew ?_ | refine Below.alloc ?_ (by first | exact Nat.le_refl _ | (simp; done) | (simp; omega) | omega) _ | refine Below.setCell ?_ (by first | exact Nat.le_refl _ | (simp; done) | (simp; omega) | omega) _ | refine Below.trans ?_ (Below.mono (by assumption) (by first | exact Nat.le_refl _ | (simp; done) | (simp; omega) | omega))))⟩

set_option maxHeartbeats 600000 in
theorem meetBits_ok (av am bv bm : BitVec 64) (hok : Hid (∀ j, j < 64 → meetOk av am bv bm j = true)) (w : World) :
    Calls Tryz.prog 85 #[Bt av am, Bt bv bm] w fun e w' => e = .returned (.tuple #[Bt (meetV av am bv bm 64) (meetM av am bv bm 64), .bool true]) ∧ Below w.heap.size w w' := by
  go_enter Tryz.func85, Tryz.ntmps85
  go_wp2
  go_loopw [7] (fun i wr => ∃ k : Nat, k ≤ 64 ∧ i = N k
      ∧ Below (w.heap.size + 1 + 1 + 1) (((w.alloc (.cells #[U av, U am] 27)).alloc (.cells #[U bv, U bm] 27)).alloc (.cells #[.int .u64 0, .int .u64 0] 27)) wr
      ∧ wr.cell? ⟨w.heap.size + 1 + 1 + 1, 0, none⟩ = some (U (meetV av am bv bm k)) ∧ wr.cell? ⟨w.heap.size + 1 + 1 + 1, 1, none⟩ = some (U (meetM av am bv bm k))
      ∧ (∀ o, wr.frozen? ⟨w.heap.size + 1 + 1 + 1, o, none⟩ = false)
      ∧ w.heap.size + 1 + 1 + 1 + 1 ≤ wr.heap.size) (fun i _ => 64 - (intOf i).toNat)
  case atStart =>
    exact ⟨0, by omega, rfl, (by repeat (first | exact Below.refl _ _ | assumption | refine below_drewN ?_ _ | refine Below.drew ?_ | refine Below.alloc ?_ (by first | exact Nat.le_refl _ | (simp; done) | (simp; omega) | omega) _ | refine Below.setCell ?_ (by first | exact Nat.le_refl _ | (simp; done) | (simp; omega) | omega) _ | refine Below.trans ?_ (Below.mono (by assumption) (by first | exact Nat.le_refl _ | (simp; done) | (simp; omega) | omega)))), by simp [meetV, acc, nv_zero, go_sem], by simp [meetM, acc, nv_zero, go_sem], by simp [go_sem], by simp⟩
  case round =>
    obtain ⟨k, hk, rfl, hbel, ho0, ho1, hfo, hsz⟩ := hrel
    obtain ⟨hc, hf⟩ := bl hbel
    by_cases hlt : k < 64
    · obtain ⟨z1, o1, H1, H2⟩ := may_eq av am k
      obtain ⟨z2, o2, H3, H4⟩ := may_eq bv bm k
      have Hok : Hid (((z1 && z2) || (o1 && o2)) = true) := by rw [H1.out, H2.out, H3.out, H4.out]; exact hok.out k hlt
      go_wp2_with fail
      refine (may_any hlt H1 H2 _).mono ?_
      rintro e w1 ⟨rfl, hb1⟩
      obtain ⟨hc1, hf1, hs1⟩ := bk _ hb1 hsz
      go_wp2_with fail
      refine (may_any hlt H3 H4 _).mono ?_
      rintro e w2 ⟨rfl, hb2⟩
      obtain ⟨hc2, hf2, hs2⟩ := bk _ hb2 hs1
      cases z1 <;> cases o1 <;> cases z2 <;> cases o2 <;> first
        | exact absurd Hok.out (by decide)
        | (clear Hok
           go_wp2_with fail
           refine (put_any _ _ k hlt _ _ _).mono ?_
           rintro e w3 ⟨rfl, hb3⟩
           obtain ⟨hc3, hf3, hs3⟩ := bk _ hb3 hs2
           go_wp2_with fail
           exact ⟨⟨k + 1, by omega, by go_num, out_rel hbel ((hb1.trans (hb2.mono hb1.size)).trans (hb3.mono (Nat.le_trans hb1.size hb2.size))) hsz ho0 ho1 hfo
             (by rw [← meetV_succ, ← H1.out, ← H2.out, ← H3.out, ← H4.out]; rfl) (by rw [← meetM_succ, ← H1.out, ← H2.out, ← H3.out, ← H4.out]; rfl)⟩, by simp [intOf]; omega⟩)
    · have hk64 : k = 64 := by omega
      subst hk64
      go_wp2_with fail
      exact bodyPost_ret (v := .tuple #[Bt (meetV av am bv bm 64) (meetM av am bv bm 64), .bool true]) (by simp [results, Tryz.results85, go_sem, hc]) rfl ⟨rfl, (by repeat (first | exact Below.refl _ _ | assumption | refine below_drewN ?_ _ | refine Below.drew ?_ | refine Below.alloc ?_ (by first | exact Nat.le_refl _ | (simp; done) | (simp; omega) | omega) _ | refine Below.setCell ?_ (by first | exact Nat.le_refl _ | (simp; done) | (simp; omega) | omega) _ | refine Below.trans ?_ (Below.mono (by assumption) (by first | exact Nat.le_refl _ | (simp; done) | (simp; omega) | omega))))⟩

set_option maxHeartbeats 600000 in
theorem meetBits_no (av am bv bm : BitVec 64) (j0 : Nat) (hj : j0 < 64) (hno : Hid (meetOk av am bv bm j0 = false)) (hok : Hid (∀ j, j < j0 → meetOk av am bv bm j = true)) (w : World) :
    Calls Tryz.prog 85 #[Bt av am, Bt bv bm] w fun e w' => e = .returned (.tuple #[Bt zero zero, .bool false]) ∧ Below w.heap.size w w' := by
  go_enter Tryz.func85, Tryz.ntmps85
  go_wp2
  go_loopw [7] (fun i wr => ∃ k : Nat, k ≤ j0 ∧ i = N k
      ∧ Below (w.heap.size + 1 + 1 + 1) (((w.alloc (.cells #[U av, U am] 27)).alloc (.cells #[U bv, U bm] 27)).alloc (.cells #[.int .u64 0, .int .u64 0] 27)) wr
      ∧ wr.cell? ⟨w.heap.size + 1 + 1 + 1, 0, none⟩ = some (U (meetV av am bv bm k)) ∧ wr.cell? ⟨w.heap.size + 1 + 1 + 1, 1, none⟩ = some (U (meetM av am bv bm k))
      ∧ (∀ o, wr.frozen? ⟨w.heap.size + 1 + 1 + 1, o, none⟩ = false)
      ∧ w.heap.size + 1 + 1 + 1 + 1 ≤ wr.heap.size) (fun i _ => 64 - (intOf i).toNat)
  case atStart =>
    exact ⟨0, by omega, rfl, (by repeat (first | exact Below.refl _ _ | assumption | refine below_drewN ?_ _ | refine Below.drew ?_ | refine Below.alloc ?_ (by first | exact Nat.le_refl _ | (simp; done) | (simp; omega) | omega) _ | refine Below.setCell ?_ (by first | exact Nat.le_refl _ | (simp; done) | (simp; omega) | omega) _ | refine Below.trans ?_ (Below.mono (by assumption) (by first | exact Nat.le_refl _ | (simp; done) | (simp; omega) | omega)))), by simp [meetV, acc, nv_zero, go_sem], by simp [meetM, acc, nv_zero, go_sem], by simp [go_sem], by simp⟩
  case round =>
    obtain ⟨k, hk, rfl, hbel, ho0, ho1, hfo, hsz⟩ := hrel
    obtain ⟨hc, hf⟩ := bl hbel
    have hlt : k < 64 := by omega
    obtain ⟨z1, o1, H1, H2⟩ := may_eq av am k
    obtain ⟨z2, o2, H3, H4⟩ := may_eq bv bm k
    by_cases hlj : k < j0
    · have Hok : Hid (((z1 && z2) || (o1 && o2)) = true) := by rw [H1.out, H2.out, H3.out, H4.out]; exact hok.out k hlj
      go_wp2_with fail
      refine (may_any hlt H1 H2 _).mono ?_
      rintro e w1 ⟨rfl, hb1⟩
      obtain ⟨hc1, hf1, hs1⟩ := bk _ hb1 hsz
      go_wp2_with fail
      refine (may_any hlt H3 H4 _).mono ?_
      rintro e w2 ⟨rfl, hb2⟩
      obtain ⟨hc2, hf2, hs2⟩ := bk _ hb2 hs1
      cases z1 <;> cases o1 <;> cases z2 <;> cases o2 <;> first
        | exact absurd Hok.out (by decide)
        | (clear Hok
           go_wp2_with fail
           refine (put_any _ _ k hlt _ _ _).mono ?_
           rintro e w3 ⟨rfl, hb3⟩
           obtain ⟨hc3, hf3, hs3⟩ := bk _ hb3 hs2
           go_wp2_with fail
           exact ⟨⟨k + 1, by omega, by go_num, out_rel hbel ((hb1.trans (hb2.mono hb1.size)).trans (hb3.mono (Nat.le_trans hb1.size hb2.size))) hsz ho0 ho1 hfo
             (by rw [← meetV_succ, ← H1.out, ← H2.out, ← H3.out, ← H4.out]; rfl) (by rw [← meetM_succ, ← H1.out, ← H2.out, ← H3.out, ← H4.out]; rfl)⟩, by simp [intOf]; omega⟩)
    · have ek : k = j0 := by omega
      have Hno : Hid (((z1 && z2) || (o1 && o2)) = false) := by rw [H1.out, H2.out, H3.out, H4.out, ek]; exact hno.out
      clear ek
      go_wp2_with fail
      refine (may_any hlt H1 H2 _).mono ?_
      rintro e w1 ⟨rfl, hb1⟩
      obtain ⟨hc1, hf1, hs1⟩ := bk _ hb1 hsz
      go_wp2_with fail
      refine (may_any hlt H3 H4 _).mono ?_
      rintro e w2 ⟨rfl, hb2⟩
      obtain ⟨hc2, hf2, hs2⟩ := bk _ hb2 hs1
      cases z1 <;> cases o1 <;> cases z2 <;> cases o2 <;> first
        | exact absurd Hno.out (by decide)
        | (clear Hno
           go_wp2_with fail
           exact bodyPost_ret (v := .tuple #[Bt zero zero, .bool false]) (by simp [results, Tryz.results85, go_sem, hc, hc1, hc2, nv_zero]) rfl ⟨rfl, (by repeat (first | exact Below.refl _ _ | assumption | refine below_drewN ?_ _ | refine Below.drew ?_ | refine Below.alloc ?_ (by first | exact Nat.le_refl _ | (simp; done) | (simp; omega) | omega) _ | refine Below.setCell ?_ (by first | exact Nat.le_refl _ | (simp; done) | (simp; omega) | omega) _ | refine Below.trans ?_ (Below.mono (by assumption) (by first | exact Nat.le_refl _ | (simp; done) | (simp; omega) | omega))))⟩)

end Go.Proofs.YtkigmocchaikgabGreat

/- The contracts of the reference's ShiftBits, SpanBits, InsideBits, BitsHave. -/
namespace Go.Proofs.YtkigmocchaikgabGreat
open Go.RowKit
attribute [local go_sem] w_and w_or w_xor w_andNot w_and1 w_and63 w_add w_sub w_mul w_sub1 w_add1 w_shl w_shl1 w_shr c_beq c_bne c_beq0 c_bne0 c_beq1 c_bne1 wrap_nv

/- a round of ShiftBits: the source lies within, or it doesn't -/
set_option maxHeartbeats 600000 in
theorem shiftBits_any (up : Bool) (op : Int) (hop : op = if up then 8 else 9) (v m : BitVec 64) (n : Nat) (hn : n < 64) (w : World) :
    Calls Tryz.prog 82 #[N op, Bt v m, N n] w fun e w' => e = .returned (Bt (shV up v m n 64) (shM up v m n 64)) ∧ Below w.heap.size w w' := by
  have hop9 : (op == 9) = !up := by cases up <;> simp [hop]
  clear hop
  go_enter Tryz.func82, Tryz.ntmps82
  go_wp2
  go_loopw [8] (fun i wr => ∃ k : Nat, k ≤ 64 ∧ i = N k
      ∧ Below (w.heap.size + 1 + 1) ((w.alloc (.cells #[U v, U m] 27)).alloc (.cells #[.int .u64 0, .int .u64 0] 27)) wr
      ∧ wr.cell? ⟨w.heap.size + 1 + 1, 0, none⟩ = some (U (shV up v m n k)) ∧ wr.cell? ⟨w.heap.size + 1 + 1, 1, none⟩ = some (U (shM up v m n k))
      ∧ (∀ o, wr.frozen? ⟨w.heap.size + 1 + 1, o, none⟩ = false)
      ∧ w.heap.size + 1 + 1 + 1 ≤ wr.heap.size) (fun i _ => 64 - (intOf i).toNat)
  case atStart =>
    exact ⟨0, by omega, rfl, (by repeat (first | exact Below.refl _ _ | assumption | refine below_drewN ?_ _ | refine Below.drew ?_ | refine Below.alloc ?_ (by first | exact Nat.le_refl _ | (simp; done) | (simp; omega) | omega) _ | refine Below.setCell ?_ (by first | exact Nat.le_refl _ | (simp; done) | (simp; omega) | omega) _ | refine Below.trans ?_ (Below.mono (by assumption) (by first | exact Nat.le_refl _ | (simp; done) | (simp; omega) | omega)))), by simp [shV, acc, nv_zero, go_sem], by simp [shM, acc, nv_zero, go_sem], by simp [go_sem], by simp⟩
  case round =>
    obtain ⟨k, hk, rfl, hbel, ho0, ho1, hfo, hsz⟩ := hrel
    obtain ⟨hc, hf⟩ := bl hbel
    by_cases hlt : k < 64
    · cases up
      · by_cases hin : k + n < 64
        · obtain ⟨z1, o1, H1, H2⟩ := may_eq v m (k + n)
          have hs := sh_in false v m n k (k + n) (by simp [shFrom]) hin
          have Hz : Hid (z1 = shz false v n k) := H1.out.trans hs.1
          have Ho : Hid (o1 = sho false v m n k) := H2.out.trans hs.2
          clear hs
          go_wp2_with fail
          refine (within_yes (by omega) _).mono ?_
          rintro e w0 ⟨rfl, rfl⟩
          go_wp2_with fail
          rw [show (k : Int) + (n : Int) = ((k + n : Nat) : Int) from by omega]
          refine (may_any hin H1 H2 _).mono ?_
          rintro e w1 ⟨rfl, hb1⟩
          obtain ⟨hc1, hf1, hs1⟩ := bk _ hb1 hsz
          go_wp2_with fail
          refine (put_any _ _ k hlt _ _ _).mono ?_
          rintro e w3 ⟨rfl, hb3⟩
          obtain ⟨hc3, hf3, hs3⟩ := bk _ hb3 hs1
          go_wp2_with fail
          exact ⟨⟨k + 1, by omega, by go_num, out_rel hbel (hb1.trans (hb3.mono hb1.size)) hsz ho0 ho1 hfo
            (by rw [← shV_succ, ← Hz.out, ← Ho.out]) (by rw [← shM_succ, ← Hz.out, ← Ho.out])⟩, by simp [intOf]; omega⟩
        · have hs := sh_out false v m n k (by simp [shFrom]; omega)
          have Hz : Hid (true = shz false v n k) := hs.1
          have Ho : Hid (false = sho false v m n k) := hs.2
          clear hs
          go_wp2_with fail
          refine (within_no (by omega) _).mono ?_
          rintro e w0 ⟨rfl, rfl⟩
          go_wp2_with fail
          refine (put_any _ _ k hlt _ _ _).mono ?_
          rintro e w3 ⟨rfl, hb3⟩
          obtain ⟨hc3, hf3, hs3⟩ := bk _ hb3 hsz
          go_wp2_with fail
          exact ⟨⟨k + 1, by omega, by go_num, out_rel hbel hb3 hsz ho0 ho1 hfo
            (by rw [← shV_succ, ← Hz.out, ← Ho.out]) (by rw [← shM_succ, ← Hz.out, ← Ho.out])⟩, by simp [intOf]; omega⟩
      · by_cases hin : n ≤ k
        · obtain ⟨z1, o1, H1, H2⟩ := may_eq v m (k - n)
          have hs := sh_in true v m n k (k - n) (by simp [shFrom]; omega) (by omega)
          have Hz : Hid (z1 = shz true v n k) := H1.out.trans hs.1
          have Ho : Hid (o1 = sho true v m n k) := H2.out.trans hs.2
          clear hs
          go_wp2_with fail
          refine (within_yes (by omega) _).mono ?_
          rintro e w0 ⟨rfl, rfl⟩
          go_wp2_with fail
          rw [show (k : Int) - (n : Int) = ((k - n : Nat) : Int) from by omega]
          refine (may_any (by omega) H1 H2 _).mono ?_
          rintro e w1 ⟨rfl, hb1⟩
          obtain ⟨hc1, hf1, hs1⟩ := bk _ hb1 hsz
          go_wp2_with fail
          refine (put_any _ _ k hlt _ _ _).mono ?_
          rintro e w3 ⟨rfl, hb3⟩
          obtain ⟨hc3, hf3, hs3⟩ := bk _ hb3 hs1
          go_wp2_with fail
          exact ⟨⟨k + 1, by omega, by go_num, out_rel hbel (hb1.trans (hb3.mono hb1.size)) hsz ho0 ho1 hfo
            (by rw [← shV_succ, ← Hz.out, ← Ho.out]) (by rw [← shM_succ, ← Hz.out, ← Ho.out])⟩, by simp [intOf]; omega⟩
        · have hs := sh_out true v m n k (by simp [shFrom]; omega)
          have Hz : Hid (true = shz true v n k) := hs.1
          have Ho : Hid (false = sho true v m n k) := hs.2
          clear hs
          go_wp2_with fail
          refine (within_no (by omega) _).mono ?_
          rintro e w0 ⟨rfl, rfl⟩
          go_wp2_with fail
          refine (put_any _ _ k hlt _ _ _).mono ?_
          rintro e w3 ⟨rfl, hb3⟩
          obtain ⟨hc3, hf3, hs3⟩ := bk _ hb3 hsz
          go_wp2_with fail
          exact ⟨⟨k + 1, by omega, by go_num, out_rel hbel hb3 hsz ho0 ho1 hfo
            (by rw [← shV_succ, ← Hz.out, ← Ho.out]) (by rw [← shM_succ, ← Hz.out, ← Ho.out])⟩, by simp [intOf]; omega⟩
    · have hk64 : k = 64 := by omega
      subst hk64
      go_wp2_with fail
      exact bodyPost_ret (v := Bt (shV up v m n 64) (shM up v m n 64)) (by simp [results, Tryz.results82, go_sem, hc]) rfl ⟨rfl, (by repeat (first | exact Below.refl _ _ | assumption | refine below_drewN ?_ _ | refine Below.drew ?_ | refine Below.alloc ?_ (by first | exact Nat.le_refl _ | (simp; done) | (simp; omega) | omega) _ | refine Below.setCell ?_ (by first | exact Nat.le_refl _ | (simp; done) | (simp; omega) | omega) _ | refine Below.trans ?_ (Below.mono (by assumption) (by first | exact Nat.le_refl _ | (simp; done) | (simp; omega) | omega))))⟩

/- SpanBits: from the highest bit down -/
set_option maxHeartbeats 600000 in
theorem spanBits_any (l h : BitVec 64) (w : World) :
    Calls Tryz.prog 116 #[U l, U h] w fun e w' => e = .returned (Bt (spanV l h 64) (spanM l h 64)) ∧ Below w.heap.size w w' := by
  go_enter Tryz.func116, Tryz.ntmps116
  go_wp2
  go_loopw [6, 7] (fun s i wr => ∃ (c : Nat) (t : Int), c ≤ 64 ∧ s = .bool (sameB l h c) ∧ i = N t ∧ t = 63 - c
      ∧ Below (w.heap.size + 1) (w.alloc (.cells #[.int .u64 0, .int .u64 0] 27)) wr
      ∧ wr.cell? ⟨w.heap.size + 1, 0, none⟩ = some (U (spanV l h c)) ∧ wr.cell? ⟨w.heap.size + 1, 1, none⟩ = some (U (spanM l h c))
      ∧ (∀ o, wr.frozen? ⟨w.heap.size + 1, o, none⟩ = false)
      ∧ w.heap.size + 1 + 1 ≤ wr.heap.size) (fun _ i _ => (intOf i + 1).toNat)
  case atStart =>
    exact ⟨0, 63, by omega, rfl, rfl, by omega, (by repeat (first | exact Below.refl _ _ | assumption | refine below_drewN ?_ _ | refine Below.drew ?_ | refine Below.alloc ?_ (by first | exact Nat.le_refl _ | (simp; done) | (simp; omega) | omega) _ | refine Below.setCell ?_ (by first | exact Nat.le_refl _ | (simp; done) | (simp; omega) | omega) _ | refine Below.trans ?_ (Below.mono (by assumption) (by first | exact Nat.le_refl _ | (simp; done) | (simp; omega) | omega)))), by simp [spanV, accd, nv_zero, go_sem], by simp [spanM, accd, nv_zero, go_sem], by simp [go_sem], by simp⟩
  case round =>
    obtain ⟨c, t, hc, rfl, rfl, ht, hbel, ho0, ho1, hfo, hsz⟩ := hrel
    obtain ⟨hcc, hf⟩ := bl hbel
    by_cases hlt : c < 64
    · obtain ⟨i, rfl⟩ := Int.eq_ofNat_of_zero_le (show 0 ≤ t by omega)
      have hi : i = 63 - c := by omega
      have hi64 : i < 64 := by omega
      have hi0 : (0 : Int) ≤ (i : Int) := by omega
      have Hi : Hid (i = 63 - c) := hi
      have hstep := sp_step l h c i hi hlt
      have hl := low_bit l i
      have hh := low_bit h i
      obtain ⟨s, hs⟩ : ∃ s, s = sameB l h c := ⟨_, rfl⟩
      obtain ⟨bl, hbl⟩ : ∃ b, b = bit l i := ⟨_, rfl⟩
      obtain ⟨bh, hbh⟩ : ∃ b, b = bit h i := ⟨_, rfl⟩
      rw [← hbl, ← hbh, ← hs] at hstep
      rw [← hbl] at hl
      rw [← hbh] at hh
      rw [← hs]
      clear hi ht hs hbl hbh
      have H1 : Hid _ := hstep.1
      have H2 : Hid _ := hstep.2.1
      have H3 : Hid _ := hstep.2.2
      clear hstep
      have q1 := eqb_oo
      have q2 := eqb_oz
      have q3 := eqb_zo
      have q4 := eqb_zz
      cases s <;> cases bl <;> cases bh
      all_goals
        simp only [if_true, if_false, Bool.false_eq_true] at hl hh
        go_wp2_with fail
        go_quiet (fail)
        go_wp2_with fail
        refine (put_any _ _ i hi64 _ _ _).mono ?_
        rintro e w3 ⟨rfl, hb3⟩
        have hb3' : Below wr.heap.size wr w3 := (below_drewN (Below.refl _ wr) _).trans hb3
        obtain ⟨hc3, hf3, hs3⟩ := bk _ hb3' hsz
        clear hb3
        go_wp2_with fail
        exact ⟨⟨c + 1, _, by omega, by rw [H1.out]; rfl, rfl, by have := Hi.out; omega, out_rel hbel hb3' hsz ho0 ho1 hfo
          (by rw [← spanV_succ l h c i Hi.out, H2.out, H3.out]; rfl) (by rw [← spanM_succ l h c i Hi.out, H2.out, H3.out]; rfl)⟩, by simp [intOf]⟩
    · have ec : c = 64 := by omega
      subst ec
      have ht' : t = -1 := by omega
      subst ht'
      go_wp2_with fail
      exact bodyPost_ret (v := Bt (spanV l h 64) (spanM l h 64)) (by simp [results, Tryz.results116, go_sem, hcc]) rfl ⟨rfl, (by repeat (first | exact Below.refl _ _ | assumption | refine below_drewN ?_ _ | refine Below.drew ?_ | refine Below.alloc ?_ (by first | exact Nat.le_refl _ | (simp; done) | (simp; omega) | omega) _ | refine Below.setCell ?_ (by first | exact Nat.le_refl _ | (simp; done) | (simp; omega) | omega) _ | refine Below.trans ?_ (Below.mono (by assumption) (by first | exact Nat.le_refl _ | (simp; done) | (simp; omega) | omega))))⟩

end Go.Proofs.YtkigmocchaikgabGreat

/- The contracts of package bits: Shift, Len64, Span. -/
namespace Go.Proofs.YtkigmocchaikgabGreat
open Go.RowKit
attribute [local go_sem] w_and w_or w_xor w_andNot w_and1 w_and63 w_add w_sub w_mul w_sub1 w_add1 w_shl w_shl1 w_shr c_beq c_bne c_beq0 c_bne0 c_beq1 c_bne1 wrap_nv

set_option maxHeartbeats 400000 in
theorem shift_up {n : Nat} {v m : BitVec 64} (hr : Hid (eqb (band v m) zero = true)) (hn : n < 64) (w : World) :
    Calls Tryz.prog 136 #[N 8, Bt v m, N n] w fun e w' => e = .returned (.tuple #[Bt (bshl v n) (bshl m n), N 0]) ∧ Below w.heap.size w w' := by
  go_enter Tryz.func136, Tryz.ntmps136
  go_wp2_with fail
  refine (check1_is hr (by simp) (by simp [go_sem]) (by simp [go_sem])).mono ?_
  rintro e w1 ⟨rfl, hb1⟩
  obtain ⟨hc1, hf1, hs1⟩ := bk (w.heap.size + 1 + 1) hb1 (by simp)
  first | rw [er_t] | rw [er_f]
  go_wp2_with fail
  refine (up_any _ _ n hn _).mono ?_
  rintro e w2 ⟨rfl, hb2⟩
  obtain ⟨hc2, hf2, hs2⟩ := bk _ hb2 hs1
  go_wp2_with fail
  exact bodyPost_ret (v := .tuple #[Bt (bshl v n) (bshl m n), N 0]) (by simp [results, Tryz.results136, go_sem, hc1, hc2]) rfl ⟨rfl, (by repeat (first | exact Below.refl _ _ | assumption | refine below_drewN ?_ _ | refine Below.drew ?_ | refine Below.alloc ?_ (by first | exact Nat.le_refl _ | (simp; done) | (simp; omega) | omega) _ | refine Below.setCell ?_ (by first | exact Nat.le_refl _ | (simp; done) | (simp; omega) | omega) _ | refine Below.trans ?_ (Below.mono (by assumption) (by first | exact Nat.le_refl _ | (simp; done) | (simp; omega) | omega))))⟩
set_option maxHeartbeats 400000 in
theorem shift_down {n : Nat} {v m : BitVec 64} (hr : Hid (eqb (band v m) zero = true)) (hn : n < 64) (w : World) :
    Calls Tryz.prog 136 #[N 9, Bt v m, N n] w fun e w' => e = .returned (.tuple #[Bt (bshr v n) (bshr m n), N 0]) ∧ Below w.heap.size w w' := by
  go_enter Tryz.func136, Tryz.ntmps136
  go_wp2_with fail
  refine (check1_is hr (by simp) (by simp [go_sem]) (by simp [go_sem])).mono ?_
  rintro e w1 ⟨rfl, hb1⟩
  obtain ⟨hc1, hf1, hs1⟩ := bk (w.heap.size + 1 + 1) hb1 (by simp)
  first | rw [er_t] | rw [er_f]
  go_wp2_with fail
  exact bodyPost_ret (v := .tuple #[Bt (bshr v n) (bshr m n), N 0]) (by simp [results, Tryz.results136, go_sem, hc1]) rfl ⟨rfl, (by repeat (first | exact Below.refl _ _ | assumption | refine below_drewN ?_ _ | refine Below.drew ?_ | refine Below.alloc ?_ (by first | exact Nat.le_refl _ | (simp; done) | (simp; omega) | omega) _ | refine Below.setCell ?_ (by first | exact Nat.le_refl _ | (simp; done) | (simp; omega) | omega) _ | refine Below.trans ?_ (Below.mono (by assumption) (by first | exact Nat.le_refl _ | (simp; done) | (simp; omega) | omega))))⟩

end Go.Proofs.YtkigmocchaikgabGreat

/- bitsBegun: what must be in any case. -/
namespace Go.Proofs.YtkigmocchaikgabGreat
open Go.RowKit
attribute [local go_sem] w_and w_or w_xor w_andNot w_and1 w_and63 w_add w_sub w_mul w_sub1 w_add1 w_shl w_shl1 w_shr c_beq c_bne c_beq0 c_bne0 c_beq1 c_bne1 wrap_nv

end Go.Proofs.YtkigmocchaikgabGreat

/- BitsTells: what the program and the reference answer, side by side, each pair under one name. -/
namespace Go.Proofs.YtkigmocchaikgabGreat
open Go.RowKit

theorem hid {p : Prop} (h : p) : Hid p := h

/- the same, whatever is handed in -/
end Go.Proofs.YtkigmocchaikgabGreat

/- The contracts of package val's Check, and of the reference's NormVal and RightVal. -/
namespace Go.Proofs.YtkigmocchaikgabGreat
open Go.RowKit
attribute [local go_sem] w_and w_or w_xor w_andNot w_and1 w_and63 w_add w_sub w_mul w_sub1 w_add1 w_shl w_shl1 w_shr c_beq c_bne c_beq0 c_bne0 c_beq1 c_bne1 wrap_nv

set_option maxHeartbeats 1000000 in
theorem valCheck_any (v m l h : BitVec 64) (w : World) :
    Calls Tryz.prog 23 #[Vl v m l h] w fun e w' => e = .returned (N (er (valB v m l h))) ∧ Below w.heap.size w w' := by
  have Hv : Hid (valB v m l h = (hasB v m l && (hasB v m h && (decide (nv l ≤ nv h) && insB v m (spV l h) (sM l h))))) := rfl
  obtain ⟨b1, H1⟩ : ∃ b, Hid (hasB v m l = b) := ⟨_, rfl⟩
  obtain ⟨b2, H2⟩ : ∃ b, Hid (hasB v m h = b) := ⟨_, rfl⟩
  obtain ⟨b3, H3⟩ : ∃ b, Hid (insB v m (spV l h) (sM l h) = b) := ⟨_, rfl⟩
  rw [H1.out, H2.out, H3.out] at Hv
  go_enter Tryz.func23, Tryz.ntmps23
  go_wp2_with fail
  refine (hasC H1.out _).mono ?_
  rintro e w1 ⟨rfl, hb1⟩
  have hK := ((Kp.start w).add4 _ _ _ _ _).keep hb1
  obtain ⟨a0, a1, a2, a3, a4, a5, a6, a7, a8⟩ := hK.box.head.four
  cases b1
  · go_wp2_with fail
    go_ret
    rw [Hv.out]
    exact ⟨rfl, hK.bel⟩
  · go_wp2_with fail
    refine (hasC H2.out _).mono ?_
    rintro e w2 ⟨rfl, hb2⟩
    have hK2 := hK.keep hb2
    clear a0 a1 a2 a3 a4 a5 a6 a7 a8
    obtain ⟨a0, a1, a2, a3, a4, a5, a6, a7, a8⟩ := hK2.box.head.four
    cases b2
    · go_wp2_with fail
      go_ret
      rw [Hv.out]
      exact ⟨rfl, hK2.bel⟩
    · by_cases hle : nv l ≤ nv h
      · have Hd : Hid (decide (nv l ≤ nv h) = true) := decide_eq_true hle
        have HS : Hid (∀ w, Calls Tryz.prog 63 #[U l, U h] w fun e w' => e = .returned (.tuple #[Bt (spV l h) (sM l h), N 0]) ∧ Below w.heap.size w w') := fun w => span_ok hle w
        rw [Hd.out] at Hv
        clear hle Hd
        generalize spV l h = sv at HS H3
        generalize sM l h = sm at HS H3
        go_wp2_with fail
        refine (HS.out _).mono ?_
        rintro e w3 ⟨rfl, hb3⟩
        have hK3 := hK2.keep hb3
        clear a0 a1 a2 a3 a4 a5 a6 a7 a8
        obtain ⟨a0, a1, a2, a3, a4, a5, a6, a7, a8⟩ := hK3.box.head.four
        go_wp2_with fail
        refine (insC H3.out _).mono ?_
        rintro e w4 ⟨rfl, hb4⟩
        have hK4 := (hK3.add2 _ _ _).keep hb4
        cases b3
        all_goals
          go_wp2_with fail
          go_ret
          rw [Hv.out]
          exact ⟨rfl, hK4.bel⟩
      · have Hd : Hid (decide (nv l ≤ nv h) = false) := decide_eq_false hle
        have HS : Hid (∀ w, Calls Tryz.prog 63 #[U l, U h] w fun e w' => e = .returned (.tuple #[Bt zero zero, N 3]) ∧ Below w.heap.size w w') := fun w => span_no (by omega) w
        rw [Hd.out] at Hv
        clear hle Hd
        go_wp2_with fail
        refine (HS.out _).mono ?_
        rintro e w3 ⟨rfl, hb3⟩
        have hK3 := hK2.keep hb3
        go_wp2_with fail
        go_ret
        rw [Hv.out]
        exact ⟨rfl, (hK3.add2 _ _ _).bel⟩

/- the reference's -/
set_option maxHeartbeats 1000000 in
theorem normVal_none {v m l h : BitVec 64} (hr : Hid (eqb (band v m) zero = true)) (ho : Hid (normOk v m l h = false)) (w : World) :
    Calls Tryz.prog 78 #[Vl v m l h] w fun e w' => e = .returned (.tuple #[V0, .bool false]) ∧ Below w.heap.size w w' := by
  have hrt := (rt_iff v m).1 hr.out
  have hs := least_same hrt l
  have hg := great_same hrt h
  have HL : Hid (∀ w, Calls Tryz.prog 114 #[Bt v m, U l] w fun e w' => e = .returned (.tuple #[U (scanL v m l 64).1, .bool (scanL v m l 64).2]) ∧ Below w.heap.size w w') := fun w => refLeast_any v m l w
  have HG : Hid (∀ w, Calls Tryz.prog 115 #[Bt v m, U h] w fun e w' => e = .returned (.tuple #[U (scanG v m h 64).1, .bool (scanG v m h 64).2]) ∧ Below w.heap.size w w') := fun w => refGreat_any v m h w
  have Ho : Hid (((scanL v m l 64).2 && ((scanG v m h 64).2 && decide (nv (scanL v m l 64).1 ≤ nv (scanG v m h 64).1))) = false) := by
    have := ho.out
    unfold normOk nLo nHi at this
    show _ = false
    rw [hs.1, hg.1]
    cases e1 : (leastV v m l).2
    · rfl
    · cases e2 : (greatV v m h).2
      · rfl
      · rw [hs.2 e1, hg.2 e2]
        rw [e1, e2] at this
        exact this
  clear ho hs hg hrt hr
  generalize scanL v m l 64 = L at HL Ho
  generalize scanG v m h 64 = G at HG Ho
  obtain ⟨lo, lb⟩ := L
  obtain ⟨hi, gb⟩ := G
  go_enter Tryz.func78, Tryz.ntmps78
  go_wp2_with fail
  refine (HL.out _).mono ?_
  rintro e w2 ⟨rfl, hb2⟩
  have hK2 := (((Kp.start w).add4 _ _ _ _ _).add4 _ _ _ _ _).keep hb2
  simp only [World.size_alloc] at hK2
  obtain ⟨r0, r1, r2, r3, r4, r5, r6, r7, r8⟩ := hK2.box.head.four
  obtain ⟨a0, a1, a2, a3, a4, a5, a6, a7, a8⟩ := hK2.box.tail.head.four
  go_wp2_with fail
  refine (HG.out _).mono ?_
  rintro e w3 ⟨rfl, hb3⟩
  have hK3 := hK2.keep hb3
  clear r0 r1 r2 r3 r4 r5 r6 r7 r8 a0 a1 a2 a3 a4 a5 a6 a7 a8
  obtain ⟨r0, r1, r2, r3, r4, r5, r6, r7, r8⟩ := hK3.box.head.four
  obtain ⟨a0, a1, a2, a3, a4, a5, a6, a7, a8⟩ := hK3.box.tail.head.four
  cases lb
  · go_wp2_with fail
    exact bodyPost_ret (v := .tuple #[V0, .bool false]) (by simp [results, Tryz.results78, go_sem, nv_zero, r0, r1, r2, r3]) rfl ⟨rfl, (hK3.set4 0 rfl).bel⟩
  · cases gb
    · go_wp2_with fail
      exact bodyPost_ret (v := .tuple #[V0, .bool false]) (by simp [results, Tryz.results78, go_sem, nv_zero, r0, r1, r2, r3]) rfl ⟨rfl, (hK3.set4 0 rfl).bel⟩
    · have hlt : nv hi < nv lo := by
        have := Ho.out
        simp only [Bool.true_and, decide_eq_false_iff_not] at this
        omega
      clear Ho
      go_wp2_with fail
      exact bodyPost_ret (v := .tuple #[V0, .bool false]) (by simp [results, Tryz.results78, go_sem, nv_zero, r0, r1, r2, r3]) rfl ⟨rfl, (hK3.set4 0 rfl).bel⟩

set_option maxRecDepth 100000 in
set_option maxHeartbeats 8000000 in
theorem normVal_yes {v m l h : BitVec 64} (hr : Hid (eqb (band v m) zero = true)) (ho : Hid (normOk v m l h = true)) (w : World) :
    Calls Tryz.prog 78 #[Vl v m l h] w fun e w' => e = .returned (.tuple #[Vl (nV v m l h) (nM m (nLo v m l) (nHi v m h)) (nLo v m l) (nHi v m h), .bool true]) ∧ Below w.heap.size w w' := by
  have hrt := (rt_iff v m).1 hr.out
  have hfa := norm_facts hrt ho.out
  have ho' := ho.out
  unfold normOk at ho'
  simp only [Bool.and_eq_true] at ho'
  have hs := least_same hrt l
  have hg := great_same hrt h
  have HL : Hid (∀ w, Calls Tryz.prog 114 #[Bt v m, U l] w fun e w' => e = .returned (.tuple #[U (nLo v m l), .bool true]) ∧ Below w.heap.size w w') := fun w => by
    have := refLeast_any v m l w; rw [hs.1, hs.2 ho'.1, ho'.1] at this; exact this
  have HG : Hid (∀ w, Calls Tryz.prog 115 #[Bt v m, U h] w fun e w' => e = .returned (.tuple #[U (nHi v m h), .bool true]) ∧ Below w.heap.size w w') := fun w => by
    have := refGreat_any v m h w; rw [hg.1, hg.2 ho'.2.1, ho'.2.1] at this; exact this
  have HS : Hid (∀ w, Calls Tryz.prog 116 #[U (nLo v m l), U (nHi v m h)] w fun e w' => e = .returned (Bt (spV (nLo v m l) (nHi v m h)) (sM (nLo v m l) (nHi v m h))) ∧ Below w.heap.size w w') := fun w => by
    have hh := spanBits_any (nLo v m l) (nHi v m h) w
    rw [(span_eq _ _).1, (span_eq _ _).2] at hh
    exact hh
  have HM : Hid (∀ w, Calls Tryz.prog 85 #[Bt v m, Bt (spV (nLo v m l) (nHi v m h)) (sM (nLo v m l) (nHi v m h))] w fun e w' => e = .returned (.tuple #[Bt (nV v m l h) (nM m (nLo v m l) (nHi v m h)), .bool true]) ∧ Below w.heap.size w w') := fun w => by
    obtain ⟨h1, h2, h3⟩ := meet_eq (both_right hrt (span_rt (nLo v m l) (nHi v m h))).out (meet_span hrt hfa.1 (Int.le_refl _) hfa.2.2.1)
    have h := meetBits_ok v m _ _ h1 w
    rw [h2, h3] at h
    exact h
  have hle := hfa.2.2.1
  clear hfa ho' ho hrt hs hg hr
  generalize nV v m l h = rv at HM ⊢
  generalize nM m (nLo v m l) (nHi v m h) = rm at HM ⊢
  generalize spV (nLo v m l) (nHi v m h) = sv at HM HS
  generalize sM (nLo v m l) (nHi v m h) = sm at HM HS
  generalize nLo v m l = lo at HL HS hle ⊢
  generalize nHi v m h = hi at HG HS hle ⊢
  go_enter Tryz.func78, Tryz.ntmps78
  go_wp2_with fail
  refine (HL.out _).mono ?_
  rintro e w2 ⟨rfl, hb2⟩
  have hK2 := (((Kp.start w).add4 _ _ _ _ _).add4 _ _ _ _ _).keep hb2
  simp only [World.size_alloc] at hK2
  obtain ⟨r0, r1, r2, r3, r4, r5, r6, r7, r8⟩ := hK2.box.head.four
  obtain ⟨a0, a1, a2, a3, a4, a5, a6, a7, a8⟩ := hK2.box.tail.head.four
  go_wp2_with fail
  refine (HG.out _).mono ?_
  rintro e w3 ⟨rfl, hb3⟩
  have hK3 := hK2.keep hb3
  clear r0 r1 r2 r3 r4 r5 r6 r7 r8 a0 a1 a2 a3 a4 a5 a6 a7 a8
  obtain ⟨r0, r1, r2, r3, r4, r5, r6, r7, r8⟩ := hK3.box.head.four
  obtain ⟨a0, a1, a2, a3, a4, a5, a6, a7, a8⟩ := hK3.box.tail.head.four
  go_wp2_with fail
  go_cut [8, 9] (fun p f wc => ∃ b, p = .pointer (some ⟨b, 0, none⟩) ∧ f = .bool true ∧ Kp w wc [(b, [U rv, U rm]), (w.heap.size + 1, [.int .u64 0, .int .u64 0, .int .u64 0, .int .u64 0]), (w.heap.size, [U v, U m, U l, U h])])
  case first =>
    go_region_with (first
        | (go_at_call 116; refine (HS.out _).mono ?_; rintro e w4 ⟨rfl, hb4⟩; clear r0 r1 r2 r3 r4 r5 r6 r7 a0 a1 a2 a3 a4 a5 a6 a7; first | (have hK4 := (hK3.keep (Below.drew (Below.refl _ _))).keep hb4; obtain ⟨r0, r1, r2, r3, r4, r5, r6, r7, r8⟩ := hK4.box.head.four; obtain ⟨a0, a1, a2, a3, a4, a5, a6, a7, a8⟩ := hK4.box.tail.head.four) | (have hK4 := ((hK3.keep (Below.drew (Below.refl _ _))).add2 _ _ _).keep hb4; rw [show w3.drew.heap.size = w3.heap.size from rfl] at hK4; obtain ⟨q0, q1, q2, q3, q4⟩ := hK4.box.head.two; obtain ⟨r0, r1, r2, r3, r4, r5, r6, r7, r8⟩ := hK4.box.tail.head.four; obtain ⟨a0, a1, a2, a3, a4, a5, a6, a7, a8⟩ := hK4.box.tail.tail.head.four))
        | (go_at_call 85; refine (HM.out _).mono ?_; rintro e w5 ⟨rfl, hb5⟩; clear r0 r1 r2 r3 r4 r5 r6 r7 a0 a1 a2 a3 a4 a5 a6 a7; first | (have hK5 := hK4.keep hb5; obtain ⟨q0, q1, q2, q3, q4⟩ := hK5.box.head.two; obtain ⟨r0, r1, r2, r3, r4, r5, r6, r7, r8⟩ := hK5.box.tail.head.four; obtain ⟨a0, a1, a2, a3, a4, a5, a6, a7, a8⟩ := hK5.box.tail.tail.head.four) | (have hK5 := hK4.keep hb5; obtain ⟨r0, r1, r2, r3, r4, r5, r6, r7, r8⟩ := hK5.box.head.four; obtain ⟨a0, a1, a2, a3, a4, a5, a6, a7, a8⟩ := hK5.box.tail.head.four) | (have hK5 := (hK4.add2 _ _ _).keep hb5; obtain ⟨q0, q1, q2, q3, q4⟩ := hK5.box.head.two; obtain ⟨r0, r1, r2, r3, r4, r5, r6, r7, r8⟩ := hK5.box.tail.head.four; obtain ⟨a0, a1, a2, a3, a4, a5, a6, a7, a8⟩ := hK5.box.tail.tail.head.four)))
    all_goals
      go_wp2_with fail
      go_meet
      case rel => first | exact ⟨_, rfl, rfl, hK5.add2 _ _ _⟩ | exact ⟨_, rfl, rfl, hK5.set2 0 rfl⟩
  case rest =>
    clear r0 r1 r2 r3 r4 r5 r6 r7 r8 a0 a1 a2 a3 a4 a5 a6 a7 a8
    obtain ⟨b, rfl, rfl, hK6⟩ := hcut
    obtain ⟨q0, q1, q2, q3, q4⟩ := hK6.box.head.two
    obtain ⟨r0, r1, r2, r3, r4, r5, r6, r7, r8⟩ := hK6.box.tail.head.four
    obtain ⟨a0, a1, a2, a3, a4, a5, a6, a7, a8⟩ := hK6.box.tail.tail.head.four
    have hne : w.heap.size + 1 < b := hK6.box.2.1 _ (List.Mem.head _)
    go_wp2_with fail
    exact bodyPost_ret (v := .tuple #[Vl rv rm lo hi, .bool true]) (by simp [results, Tryz.results78, go_sem, r0, r1, r2, r3]) rfl ⟨rfl, (hK6.set4 1 rfl).bel⟩

end Go.Proofs.YtkigmocchaikgabGreat

/- The contracts of package val's Has, Inside, Of, Any and Join, and of the reference's RightVal, ValHas, InsideVal, ValOf, ValAny. -/
namespace Go.Proofs.YtkigmocchaikgabGreat
open Go.RowKit
attribute [local go_sem] w_and w_or w_xor w_andNot w_and1 w_and63 w_add w_sub w_mul w_sub1 w_add1 w_shl w_shl1 w_shr c_beq c_bne c_beq0 c_bne0 c_beq1 c_bne1 wrap_nv
attribute [local go_sem] eqb_self

theorem checkV {v m l h : BitVec 64} {b : Bool} (hv : valB v m l h = b) (w : World) :
    Calls Tryz.prog 23 #[Vl v m l h] w fun e w' => e = .returned (N (er b)) ∧ Below w.heap.size w w' := hv ▸ valCheck_any v m l h w

set_option maxHeartbeats 1000000 in
theorem rightVal_any (v m l h : BitVec 64) (w : World) :
    Calls Tryz.prog 32 #[Vl v m l h] w fun e w' => e = .returned (.bool (valB v m l h)) ∧ Below w.heap.size w w' := by
  obtain ⟨r, hr⟩ : ∃ r, Hid (eqb (band v m) zero = r) := ⟨_, rfl⟩
  cases r
  · have Hv : Hid (valB v m l h = false) := val_wrong hr.out
    rw [Hv.out]
    go_enter Tryz.func32, Tryz.ntmps32
    go_wp2_with fail
    refine (right_is hr.out _).mono ?_
    rintro e w1 ⟨rfl, hb1⟩
    have hK := ((Kp.start w).add4 _ _ _ _ _).keep hb1
    go_wp2_with fail
    go_ret
    exact ⟨rfl, hK.bel⟩
  · have hrt := (rt_iff v m).1 hr.out
    obtain ⟨o, ho⟩ : ∃ o, Hid (normOk v m l h = o) := ⟨_, rfl⟩
    have Hv : Hid (valB v m l h = (normOk v m l h && normSame v m l h)) := val_iff hrt l h
    rw [ho.out] at Hv
    cases o
    · have HN : Hid (∀ w, Calls Tryz.prog 78 #[Vl v m l h] w fun e w' => e = .returned (.tuple #[V0, .bool false]) ∧ Below w.heap.size w w') := fun w => normVal_none hr ho w
      rw [Hv.out]
      clear Hv ho hrt
      go_enter Tryz.func32, Tryz.ntmps32
      go_wp2_with fail
      refine (right_is hr.out _).mono ?_
      rintro e w1 ⟨rfl, hb1⟩
      have hK := ((Kp.start w).add4 _ _ _ _ _).keep hb1
      obtain ⟨a0, a1, a2, a3, a4, a5, a6, a7, a8⟩ := hK.box.head.four
      go_wp2_with fail
      refine (HN.out _).mono ?_
      rintro e w2 ⟨rfl, hb2⟩
      have hK2 := hK.keep hb2
      go_wp2_with fail
      go_ret
      exact ⟨rfl, (hK2.add4 _ _ _ _ _).bel⟩
    · have HN : Hid (∀ w, Calls Tryz.prog 78 #[Vl v m l h] w fun e w' => e = .returned (.tuple #[Vl (nV v m l h) (nM m (nLo v m l) (nHi v m h)) (nLo v m l) (nHi v m h), .bool true]) ∧ Below w.heap.size w w') := fun w => normVal_yes hr ho w
      have Hs : Hid (normSame v m l h = (eqb (nV v m l h) v && (eqb (nM m (nLo v m l) (nHi v m h)) m && (eqb (nLo v m l) l && eqb (nHi v m h) h)))) := rfl
      rw [Hs.out] at Hv
      rw [Hv.out]
      clear Hv Hs ho hrt
      generalize nM m (nLo v m l) (nHi v m h) = rm at HN ⊢
      generalize nV v m l h = rv at HN ⊢
      generalize nLo v m l = lo at HN ⊢
      generalize nHi v m h = hi at HN ⊢
      go_enter Tryz.func32, Tryz.ntmps32
      go_wp2_with fail
      refine (right_is hr.out _).mono ?_
      rintro e w1 ⟨rfl, hb1⟩
      have hK := ((Kp.start w).add4 _ _ _ _ _).keep hb1
      obtain ⟨a0, a1, a2, a3, a4, a5, a6, a7, a8⟩ := hK.box.head.four
      go_wp2_with fail
      refine (HN.out _).mono ?_
      rintro e w2 ⟨rfl, hb2⟩
      have hK2 := hK.keep hb2
      clear a0 a1 a2 a3 a4 a5 a6 a7 a8
      obtain ⟨a0, a1, a2, a3, a4, a5, a6, a7, a8⟩ := hK2.box.head.four
      cases h1 : eqb rv v
      · go_wp2_with fail
        go_ret
        exact ⟨by rw [h1]; rfl, (hK2.add4 _ _ _ _ _).bel⟩
      cases h2 : eqb rm m
      · go_wp2_with fail
        go_ret
        exact ⟨by rw [h1, h2]; rfl, (hK2.add4 _ _ _ _ _).bel⟩
      cases h3 : eqb lo l
      · go_wp2_with fail
        go_ret
        exact ⟨by rw [h1, h2, h3]; rfl, (hK2.add4 _ _ _ _ _).bel⟩
      cases h4 : eqb hi h
      all_goals
        go_wp2_with fail
        go_ret
        exact ⟨by rw [h1, h2, h3, h4]; rfl, (hK2.add4 _ _ _ _ _).bel⟩
set_option maxHeartbeats 1000000 in
theorem valOf_any (x : BitVec 64) (w : World) :
    Calls Tryz.prog 101 #[U x] w fun e w' => e = .returned (Vl x zero x x) ∧ Below w.heap.size w w' := by
  go_enter Tryz.func101, Tryz.ntmps101
  go_wp2_with fail
  exact bodyPost_ret (v := Vl x zero x x) (by simp [results, Tryz.results101, go_sem, nv_zero]) rfl ⟨rfl, (by repeat (first | exact Below.refl _ _ | assumption | refine below_drewN ?_ _ | refine Below.drew ?_ | refine Below.alloc ?_ (by first | exact Nat.le_refl _ | (simp; done) | (simp; omega) | omega) _ | refine Below.setCell ?_ (by first | exact Nat.le_refl _ | (simp; done) | (simp; omega) | omega) _ | refine Below.trans ?_ (Below.mono (by assumption) (by first | exact Nat.le_refl _ | (simp; done) | (simp; omega) | omega))))⟩
set_option maxHeartbeats 1000000 in
theorem refValOf_any (x : BitVec 64) (w : World) :
    Calls Tryz.prog 37 #[U x] w fun e w' => e = .returned (Vl x zero x x) ∧ Below w.heap.size w w' := by
  go_enter Tryz.func37, Tryz.ntmps37
  go_wp2_with fail
  exact bodyPost_ret (v := Vl x zero x x) (by simp [results, Tryz.results37, go_sem, nv_zero]) rfl ⟨rfl, (by repeat (first | exact Below.refl _ _ | assumption | refine below_drewN ?_ _ | refine Below.drew ?_ | refine Below.alloc ?_ (by first | exact Nat.le_refl _ | (simp; done) | (simp; omega) | omega) _ | refine Below.setCell ?_ (by first | exact Nat.le_refl _ | (simp; done) | (simp; omega) | omega) _ | refine Below.trans ?_ (Below.mono (by assumption) (by first | exact Nat.le_refl _ | (simp; done) | (simp; omega) | omega))))⟩
set_option maxHeartbeats 1000000 in
theorem valAny_any (w : World) :
    Calls Tryz.prog 24 #[] w fun e w' => e = .returned (Vl zero top zero top) ∧ Below w.heap.size w w' := by
  go_enter Tryz.func24, Tryz.ntmps24
  go_wp2_with fail
  exact bodyPost_ret (v := Vl zero top zero top) (by simp [results, Tryz.results24, go_sem, nv_zero, nv_top]) rfl ⟨rfl, (by repeat (first | exact Below.refl _ _ | assumption | refine below_drewN ?_ _ | refine Below.drew ?_ | refine Below.alloc ?_ (by first | exact Nat.le_refl _ | (simp; done) | (simp; omega) | omega) _ | refine Below.setCell ?_ (by first | exact Nat.le_refl _ | (simp; done) | (simp; omega) | omega) _ | refine Below.trans ?_ (Below.mono (by assumption) (by first | exact Nat.le_refl _ | (simp; done) | (simp; omega) | omega))))⟩
set_option maxHeartbeats 1000000 in
theorem refValAny_any (w : World) :
    Calls Tryz.prog 86 #[] w fun e w' => e = .returned (Vl zero top zero top) ∧ Below w.heap.size w w' := by
  go_enter Tryz.func86, Tryz.ntmps86
  go_wp2_with fail
  exact bodyPost_ret (v := Vl zero top zero top) (by simp [results, Tryz.results86, go_sem, nv_zero, nv_top]) rfl ⟨rfl, (by repeat (first | exact Below.refl _ _ | assumption | refine below_drewN ?_ _ | refine Below.drew ?_ | refine Below.alloc ?_ (by first | exact Nat.le_refl _ | (simp; done) | (simp; omega) | omega) _ | refine Below.setCell ?_ (by first | exact Nat.le_refl _ | (simp; done) | (simp; omega) | omega) _ | refine Below.trans ?_ (Below.mono (by assumption) (by first | exact Nat.le_refl _ | (simp; done) | (simp; omega) | omega))))⟩

end Go.Proofs.YtkigmocchaikgabGreat

/- The contracts of package val's Inside and Join, and of the reference's InsideVal. -/
namespace Go.Proofs.YtkigmocchaikgabGreat
open Go.RowKit
attribute [local go_sem] w_and w_or w_xor w_andNot w_and1 w_and63 w_add w_sub w_mul w_sub1 w_add1 w_shl w_shl1 w_shr c_beq c_bne c_beq0 c_bne0 c_beq1 c_bne1 wrap_nv

end Go.Proofs.YtkigmocchaikgabGreat

/- The contract of package val's Join. -/
namespace Go.Proofs.YtkigmocchaikgabGreat
open Go.RowKit
attribute [local go_sem] w_and w_or w_xor w_andNot w_and1 w_and63 w_add w_sub w_mul w_sub1 w_add1 w_shl w_shl1 w_shr c_beq c_bne c_beq0 c_bne0 c_beq1 c_bne1 wrap_nv

set_option maxHeartbeats 2000000 in
theorem valJoin_yes {v m l h v' m' l' h' : BitVec 64} (hr : Hid ((valB v m l h && valB v' m' l' h') = true)) (w : World) :
    Calls Tryz.prog 79 #[Vl v m l h, Vl v' m' l' h'] w fun e w' => e = .returned (.tuple #[Vl (nV (jV v m v' m') (jM v m v' m') (bmin l l') (bmax h h')) (nM (jM v m v' m') (nLo (jV v m v' m') (jM v m v' m') (bmin l l')) (nHi (jV v m v' m') (jM v m v' m') (bmax h h'))) (nLo (jV v m v' m') (jM v m v' m') (bmin l l')) (nHi (jV v m v' m') (jM v m v' m') (bmax h h')), N 0]) ∧ Below w.heap.size w w' := by
  have hr' := hr.out
  rw [Bool.and_eq_true] at hr'
  have H1 : Hid (valB v m l h = true) := hr'.1
  have H2 : Hid (valB v' m' l' h' = true) := hr'.2
  have hf := join_facts hr'.1 hr'.2
  have ha := (val_facts hr'.1).1
  have hb := (val_facts hr'.2).1
  have HJ : Hid (∀ w, Calls Tryz.prog 117 #[Bt v m, Bt v' m'] w fun e w' => e = .returned (.tuple #[Bt (jV v m v' m') (jM v m v' m'), N 0]) ∧ Below w.heap.size w w') := fun w => join_ok (both_right ha hb) w
  have HN : Hid (∀ w, Calls Tryz.prog 113 #[Vl (jV v m v' m') (jM v m v' m') (bmin l l') (bmax h h')] w fun e w' => e = .returned (.tuple #[Vl (nV (jV v m v' m') (jM v m v' m') (bmin l l') (bmax h h')) (nM (jM v m v' m') (nLo (jV v m v' m') (jM v m v' m') (bmin l l')) (nHi (jV v m v' m') (jM v m v' m') (bmax h h'))) (nLo (jV v m v' m') (jM v m v' m') (bmin l l')) (nHi (jV v m v' m') (jM v m v' m') (bmax h h')), .bool true, N 0]) ∧ Below w.heap.size w w') := fun w =>
    norm_yes ((rt_iff _ _).2 (join_rt v m v' m')) hf.1 w
  clear hf ha hb hr hr'
  generalize nV (jV v m v' m') (jM v m v' m') (bmin l l') (bmax h h') = rv at HN ⊢
  generalize nM (jM v m v' m') (nLo (jV v m v' m') (jM v m v' m') (bmin l l')) (nHi (jV v m v' m') (jM v m v' m') (bmax h h')) = rm at HN ⊢
  generalize nLo (jV v m v' m') (jM v m v' m') (bmin l l') = lo at HN ⊢
  generalize nHi (jV v m v' m') (jM v m v' m') (bmax h h') = hi at HN ⊢
  generalize jV v m v' m' = jv at HN HJ
  generalize jM v m v' m' = jm at HN HJ
  go_enter Tryz.func79, Tryz.ntmps79
  go_wp2_with fail
  refine (checkV H1.out _).mono ?_
  rintro e w1 ⟨rfl, hb1⟩
  have hK := ((((Kp.start w).add4 _ _ _ _ _).add4 _ _ _ _ _).add4 _ _ _ _ _).keep hb1
  simp only [World.size_alloc] at hK
  obtain ⟨r0, r1, r2, r3, r4, r5, r6, r7, r8⟩ := hK.box.head.four
  obtain ⟨b0, b1, b2, b3, b4, b5, b6, b7, b8⟩ := hK.box.tail.head.four
  obtain ⟨a0, a1, a2, a3, a4, a5, a6, a7, a8⟩ := hK.box.tail.tail.head.four
  rw [er_t]
  go_wp2_with fail
  refine (checkV H2.out _).mono ?_
  rintro e w2 ⟨rfl, hb2⟩
  have hK2 := hK.keep hb2
  clear r0 r1 r2 r3 r4 r5 r6 r7 r8 b0 b1 b2 b3 b4 b5 b6 b7 b8 a0 a1 a2 a3 a4 a5 a6 a7 a8
  obtain ⟨r0, r1, r2, r3, r4, r5, r6, r7, r8⟩ := hK2.box.head.four
  obtain ⟨b0, b1, b2, b3, b4, b5, b6, b7, b8⟩ := hK2.box.tail.head.four
  obtain ⟨a0, a1, a2, a3, a4, a5, a6, a7, a8⟩ := hK2.box.tail.tail.head.four
  rw [er_t]
  go_wp2_with fail
  refine (HJ.out _).mono ?_
  rintro e w3 ⟨rfl, hb3⟩
  have hK3 := hK2.keep hb3
  clear r0 r1 r2 r3 r4 r5 r6 r7 r8 b0 b1 b2 b3 b4 b5 b6 b7 b8 a0 a1 a2 a3 a4 a5 a6 a7 a8
  obtain ⟨r0, r1, r2, r3, r4, r5, r6, r7, r8⟩ := hK3.box.head.four
  obtain ⟨b0, b1, b2, b3, b4, b5, b6, b7, b8⟩ := hK3.box.tail.head.four
  obtain ⟨a0, a1, a2, a3, a4, a5, a6, a7, a8⟩ := hK3.box.tail.tail.head.four
  by_cases h1 : nv l' < nv l <;> by_cases h2 : nv h < nv h'
  · have e1 : bmin l l' = l' := if_pos h1
    have e2 : bmax h h' = h' := if_pos h2
    rw [e1, e2] at HN
    clear e1 e2
    go_wp2_with fail
    refine (HN.out _).mono ?_
    rintro e w4 ⟨rfl, hb4⟩
    have hK4 := (hK3.add2 _ _ _).keep hb4
    clear r0 r1 r2 r3 r4 r5 r6 r7 r8 b0 b1 b2 b3 b4 b5 b6 b7 b8 a0 a1 a2 a3 a4 a5 a6 a7 a8
    obtain ⟨j0, j1, j2, j3, j4⟩ := hK4.box.head.two
    obtain ⟨r0, r1, r2, r3, r4, r5, r6, r7, r8⟩ := hK4.box.tail.head.four
    obtain ⟨b0, b1, b2, b3, b4, b5, b6, b7, b8⟩ := hK4.box.tail.tail.head.four
    obtain ⟨a0, a1, a2, a3, a4, a5, a6, a7, a8⟩ := hK4.box.tail.tail.tail.head.four
    go_wp2_with fail
    exact bodyPost_ret (v := .tuple #[Vl rv rm lo hi, N 0]) (by simp [results, Tryz.results79, go_sem, r0, r1, r2, r3, r8]) rfl ⟨rfl, ((hK4.set4 1 rfl).add4 _ _ _ _ _).bel⟩
  · have e1 : bmin l l' = l' := if_pos h1
    have e2 : bmax h h' = h := if_neg h2
    rw [e1, e2] at HN
    clear e1 e2
    have h2' : nv h' ≤ nv h := by omega
    clear h2
    go_wp2_with fail
    refine (HN.out _).mono ?_
    rintro e w4 ⟨rfl, hb4⟩
    have hK4 := (hK3.add2 _ _ _).keep hb4
    clear r0 r1 r2 r3 r4 r5 r6 r7 r8 b0 b1 b2 b3 b4 b5 b6 b7 b8 a0 a1 a2 a3 a4 a5 a6 a7 a8
    obtain ⟨j0, j1, j2, j3, j4⟩ := hK4.box.head.two
    obtain ⟨r0, r1, r2, r3, r4, r5, r6, r7, r8⟩ := hK4.box.tail.head.four
    obtain ⟨b0, b1, b2, b3, b4, b5, b6, b7, b8⟩ := hK4.box.tail.tail.head.four
    obtain ⟨a0, a1, a2, a3, a4, a5, a6, a7, a8⟩ := hK4.box.tail.tail.tail.head.four
    go_wp2_with fail
    exact bodyPost_ret (v := .tuple #[Vl rv rm lo hi, N 0]) (by simp [results, Tryz.results79, go_sem, r0, r1, r2, r3, r8]) rfl ⟨rfl, ((hK4.set4 1 rfl).add4 _ _ _ _ _).bel⟩
  · have e1 : bmin l l' = l := if_neg h1
    have e2 : bmax h h' = h' := if_pos h2
    rw [e1, e2] at HN
    clear e1 e2
    have h1' : nv l ≤ nv l' := by omega
    clear h1
    go_wp2_with fail
    refine (HN.out _).mono ?_
    rintro e w4 ⟨rfl, hb4⟩
    have hK4 := (hK3.add2 _ _ _).keep hb4
    clear r0 r1 r2 r3 r4 r5 r6 r7 r8 b0 b1 b2 b3 b4 b5 b6 b7 b8 a0 a1 a2 a3 a4 a5 a6 a7 a8
    obtain ⟨j0, j1, j2, j3, j4⟩ := hK4.box.head.two
    obtain ⟨r0, r1, r2, r3, r4, r5, r6, r7, r8⟩ := hK4.box.tail.head.four
    obtain ⟨b0, b1, b2, b3, b4, b5, b6, b7, b8⟩ := hK4.box.tail.tail.head.four
    obtain ⟨a0, a1, a2, a3, a4, a5, a6, a7, a8⟩ := hK4.box.tail.tail.tail.head.four
    go_wp2_with fail
    exact bodyPost_ret (v := .tuple #[Vl rv rm lo hi, N 0]) (by simp [results, Tryz.results79, go_sem, r0, r1, r2, r3, r8]) rfl ⟨rfl, ((hK4.set4 1 rfl).add4 _ _ _ _ _).bel⟩
  · have e1 : bmin l l' = l := if_neg h1
    have e2 : bmax h h' = h := if_neg h2
    rw [e1, e2] at HN
    clear e1 e2
    have h1' : nv l ≤ nv l' := by omega
    clear h1
    have h2' : nv h' ≤ nv h := by omega
    clear h2
    go_wp2_with fail
    refine (HN.out _).mono ?_
    rintro e w4 ⟨rfl, hb4⟩
    have hK4 := (hK3.add2 _ _ _).keep hb4
    clear r0 r1 r2 r3 r4 r5 r6 r7 r8 b0 b1 b2 b3 b4 b5 b6 b7 b8 a0 a1 a2 a3 a4 a5 a6 a7 a8
    obtain ⟨j0, j1, j2, j3, j4⟩ := hK4.box.head.two
    obtain ⟨r0, r1, r2, r3, r4, r5, r6, r7, r8⟩ := hK4.box.tail.head.four
    obtain ⟨b0, b1, b2, b3, b4, b5, b6, b7, b8⟩ := hK4.box.tail.tail.head.four
    obtain ⟨a0, a1, a2, a3, a4, a5, a6, a7, a8⟩ := hK4.box.tail.tail.tail.head.four
    go_wp2_with fail
    exact bodyPost_ret (v := .tuple #[Vl rv rm lo hi, N 0]) (by simp [results, Tryz.results79, go_sem, r0, r1, r2, r3, r8]) rfl ⟨rfl, ((hK4.set4 1 rfl).add4 _ _ _ _ _).bel⟩

end Go.Proofs.YtkigmocchaikgabGreat

/- The contracts of package calc's alone, shiftBounds, bounds, shift. -/
namespace Go.Proofs.YtkigmocchaikgabGreat
open Go.RowKit
attribute [local go_sem] w_and w_or w_xor w_andNot w_and1 w_and63 w_add w_sub w_mul w_sub1 w_add1 w_shl w_shl1 w_shr c_beq c_bne c_beq0 c_bne0 c_beq1 c_bne1 wrap_nv

set_option maxHeartbeats 400000 in
theorem alone_any (v m l h : BitVec 64) (w : World) :
    Calls Tryz.prog 104 #[Vl v m l h] w fun e w' => e = .returned (.bool (eqb l h)) ∧ Below w.heap.size w w' := by
  go_enter Tryz.func104, Tryz.ntmps104
  go_wp2_with fail
  go_ret
  exact ⟨rfl, (by repeat (first | exact Below.refl _ _ | assumption | refine below_drewN ?_ _ | refine Below.drew ?_ | refine Below.alloc ?_ (by first | exact Nat.le_refl _ | (simp; done) | (simp; omega) | omega) _ | refine Below.setCell ?_ (by first | exact Nat.le_refl _ | (simp; done) | (simp; omega) | omega) _ | refine Below.trans ?_ (Below.mono (by assumption) (by first | exact Nat.le_refl _ | (simp; done) | (simp; omega) | omega))))⟩
theorem alone_is {v m l h : BitVec 64} {b : Bool} (hb : eqb l h = b) (w : World) :
    Calls Tryz.prog 104 #[Vl v m l h] w fun e w' => e = .returned (.bool b) ∧ Below w.heap.size w w' := hb ▸ alone_any v m l h w

set_option maxRecDepth 100000 in
set_option maxHeartbeats 1000000 in
theorem shiftBounds_shr (v m l h : BitVec 64) (y : BitVec 64) (w : World) :
    Calls Tryz.prog 137 #[N 9, Vl v m l h, U (band y 63#64)] w fun e w' => e = .returned (.tuple #[U (bshr l (six y)), U (bshr h (six y))]) ∧ Below w.heap.size w w' := by
  have h6 := six_nv y
  have h7 := six_lt y
  go_enter Tryz.func137, Tryz.ntmps137
  go_wp2_with fail
  go_quiet (fail)
  go_wp2_with fail
  go_ret2
  exact ⟨rfl, (by repeat (first | exact Below.refl _ _ | assumption | refine below_drewN ?_ _ | refine Below.drew ?_ | refine Below.alloc ?_ (by first | exact Nat.le_refl _ | (simp; done) | (simp; omega) | omega) _ | refine Below.setCell ?_ (by first | exact Nat.le_refl _ | (simp; done) | (simp; omega) | omega) _ | refine Below.trans ?_ (Below.mono (by assumption) (by first | exact Nat.le_refl _ | (simp; done) | (simp; omega) | omega))))⟩
set_option maxRecDepth 100000 in
set_option maxHeartbeats 1000000 in
theorem shiftBounds_shl (v m l h : BitVec 64) (y : BitVec 64) (w : World) :
    Calls Tryz.prog 137 #[N 8, Vl v m l h, U (band y 63#64)] w fun e w' => e = .returned (.tuple #[U (shlB l h (six y)).1, U (shlB l h (six y)).2]) ∧ Below w.heap.size w w' := by
  have h6 := six_nv y
  have h7 := six_lt y
  have Ha : Hid (shlB l h (six y) = if eqb (bshr (bshl h (six y)) (six y)) h then (bshl l (six y), bshl h (six y)) else (zero, top)) := rfl
  obtain ⟨p, hp⟩ : ∃ b, eqb (bshr (bshl h (six y)) (six y)) h = b := ⟨_, rfl⟩
  rw [hp] at Ha
  cases p
  · go_enter Tryz.func137, Tryz.ntmps137
    go_wp2_with fail
    go_ret2
    rw [Ha.out]
    exact ⟨rfl, (by repeat (first | exact Below.refl _ _ | assumption | refine below_drewN ?_ _ | refine Below.drew ?_ | refine Below.alloc ?_ (by first | exact Nat.le_refl _ | (simp; done) | (simp; omega) | omega) _ | refine Below.setCell ?_ (by first | exact Nat.le_refl _ | (simp; done) | (simp; omega) | omega) _ | refine Below.trans ?_ (Below.mono (by assumption) (by first | exact Nat.le_refl _ | (simp; done) | (simp; omega) | omega))))⟩
  · go_enter Tryz.func137, Tryz.ntmps137
    go_wp2_with fail
    go_quiet (fail)
    go_wp2_with fail
    go_ret2
    rw [Ha.out]
    exact ⟨rfl, (by repeat (first | exact Below.refl _ _ | assumption | refine below_drewN ?_ _ | refine Below.drew ?_ | refine Below.alloc ?_ (by first | exact Nat.le_refl _ | (simp; done) | (simp; omega) | omega) _ | refine Below.setCell ?_ (by first | exact Nat.le_refl _ | (simp; done) | (simp; omega) | omega) _ | refine Below.trans ?_ (Below.mono (by assumption) (by first | exact Nat.le_refl _ | (simp; done) | (simp; omega) | omega))))⟩

set_option maxRecDepth 100000 in
set_option maxHeartbeats 1000000 in
theorem bounds_any {op : Int} (hop : Hid (2 ≤ op ∧ op ≤ 7)) (v m l h v' m' l' h' : BitVec 64) (w : World) :
    Calls Tryz.prog 130 #[N op, Vl v m l h, Vl v' m' l' h'] w fun e w' => e = .returned (.tuple #[U (boundsP op l h l' h').1, U (boundsP op l h l' h').2]) ∧ Below w.heap.size w w' := by
  rcases op_cases hop.out with rfl | rfl | rfl | rfl | rfl | rfl
  · clear hop
    go_enter Tryz.func130, Tryz.ntmps130
    go_wp2_with fail
    refine (addBounds_any v m l h v' m' l' h' _).mono ?_
    rintro e w1 ⟨rfl, hb1⟩
    have hK := (((Kp.start w).add4 _ _ _ _ _).add4 _ _ _ _ _).keep hb1
    go_wp2_with fail
    go_ret2
    exact ⟨rfl, hK.bel⟩
  · clear hop
    go_enter Tryz.func130, Tryz.ntmps130
    go_wp2_with fail
    refine (subBounds_any v m l h v' m' l' h' _).mono ?_
    rintro e w1 ⟨rfl, hb1⟩
    have hK := (((Kp.start w).add4 _ _ _ _ _).add4 _ _ _ _ _).keep hb1
    go_wp2_with fail
    go_ret2
    exact ⟨rfl, hK.bel⟩
  · clear hop
    go_enter Tryz.func130, Tryz.ntmps130
    go_wp2_with fail
    refine (mulBounds_any v m l h v' m' l' h' _).mono ?_
    rintro e w1 ⟨rfl, hb1⟩
    have hK := (((Kp.start w).add4 _ _ _ _ _).add4 _ _ _ _ _).keep hb1
    go_wp2_with fail
    go_ret2
    exact ⟨rfl, hK.bel⟩
  · clear hop
    have Hb : Hid (boundsP 5 l h l' h' = (zero, bmin h h')) := rfl
    rw [Hb.out]
    by_cases h1 : nv h' < nv h
    · have e1 : Hid (bmin h h' = h') := if_pos h1
      rw [e1.out]
      go_enter Tryz.func130, Tryz.ntmps130
      go_wp2_with fail
      first | (go_quiet (fail); go_wp2_with fail) | skip
      go_ret2
      exact ⟨rfl, (by repeat (first | exact Below.refl _ _ | assumption | refine below_drewN ?_ _ | refine Below.drew ?_ | refine Below.alloc ?_ (by first | exact Nat.le_refl _ | (simp; done) | (simp; omega) | omega) _ | refine Below.setCell ?_ (by first | exact Nat.le_refl _ | (simp; done) | (simp; omega) | omega) _ | refine Below.trans ?_ (Below.mono (by assumption) (by first | exact Nat.le_refl _ | (simp; done) | (simp; omega) | omega))))⟩
    · have e1 : Hid (bmin h h' = h) := if_neg h1
      have h1' : nv h ≤ nv h' := by omega
      clear h1
      rw [e1.out]
      go_enter Tryz.func130, Tryz.ntmps130
      go_wp2_with fail
      first | (go_quiet (fail); go_wp2_with fail) | skip
      go_ret2
      exact ⟨rfl, (by repeat (first | exact Below.refl _ _ | assumption | refine below_drewN ?_ _ | refine Below.drew ?_ | refine Below.alloc ?_ (by first | exact Nat.le_refl _ | (simp; done) | (simp; omega) | omega) _ | refine Below.setCell ?_ (by first | exact Nat.le_refl _ | (simp; done) | (simp; omega) | omega) _ | refine Below.trans ?_ (Below.mono (by assumption) (by first | exact Nat.le_refl _ | (simp; done) | (simp; omega) | omega))))⟩
  · clear hop
    have Hb : Hid (boundsP 6 l h l' h' = (bmax l l', top)) := rfl
    rw [Hb.out]
    by_cases h1 : nv l < nv l'
    · have e1 : Hid (bmax l l' = l') := if_pos h1
      rw [e1.out]
      go_enter Tryz.func130, Tryz.ntmps130
      go_wp2_with fail
      go_ret2
      exact ⟨rfl, (by repeat (first | exact Below.refl _ _ | assumption | refine below_drewN ?_ _ | refine Below.drew ?_ | refine Below.alloc ?_ (by first | exact Nat.le_refl _ | (simp; done) | (simp; omega) | omega) _ | refine Below.setCell ?_ (by first | exact Nat.le_refl _ | (simp; done) | (simp; omega) | omega) _ | refine Below.trans ?_ (Below.mono (by assumption) (by first | exact Nat.le_refl _ | (simp; done) | (simp; omega) | omega))))⟩
    · have e1 : Hid (bmax l l' = l) := if_neg h1
      have h1' : nv l' ≤ nv l := by omega
      clear h1
      rw [e1.out]
      go_enter Tryz.func130, Tryz.ntmps130
      go_wp2_with fail
      go_ret2
      exact ⟨rfl, (by repeat (first | exact Below.refl _ _ | assumption | refine below_drewN ?_ _ | refine Below.drew ?_ | refine Below.alloc ?_ (by first | exact Nat.le_refl _ | (simp; done) | (simp; omega) | omega) _ | refine Below.setCell ?_ (by first | exact Nat.le_refl _ | (simp; done) | (simp; omega) | omega) _ | refine Below.trans ?_ (Below.mono (by assumption) (by first | exact Nat.le_refl _ | (simp; done) | (simp; omega) | omega))))⟩
  · clear hop
    go_enter Tryz.func130, Tryz.ntmps130
    go_wp2_with fail
    go_ret2
    exact ⟨rfl, (by repeat (first | exact Below.refl _ _ | assumption | refine below_drewN ?_ _ | refine Below.drew ?_ | refine Below.alloc ?_ (by first | exact Nat.le_refl _ | (simp; done) | (simp; omega) | omega) _ | refine Below.setCell ?_ (by first | exact Nat.le_refl _ | (simp; done) | (simp; omega) | omega) _ | refine Below.trans ?_ (Below.mono (by assumption) (by first | exact Nat.le_refl _ | (simp; done) | (simp; omega) | omega))))⟩

end Go.Proofs.YtkigmocchaikgabGreat

/- The contracts of package calc's shift and reckon. -/
namespace Go.Proofs.YtkigmocchaikgabGreat
open Go.RowKit
attribute [local go_sem] w_and w_or w_xor w_andNot w_and1 w_and63 w_add w_sub w_mul w_sub1 w_add1 w_shl w_shl1 w_shr c_beq c_bne c_beq0 c_bne0 c_beq1 c_bne1 wrap_nv

set_option maxRecDepth 100000 in
set_option maxHeartbeats 1000000 in
theorem shift_wide8 {v m l g v' m' l' g' : BitVec 64} (ha : Hid (eqb l' g' = false)) (w : World) :
    Calls Tryz.prog 128 #[N 8, Vl v m l g, Vl v' m' l' g'] w fun e w' => e = .returned (Vl zero top zero top) ∧ Below w.heap.size w w' := by
  go_enter Tryz.func128, Tryz.ntmps128
  go_wp2_with fail
  refine (alone_is ha.out _).mono ?_
  rintro e w1 ⟨rfl, hb1⟩
  have hK := ((((Kp.start w).add4 _ _ _ _ _).add4 _ _ _ _ _).add4 _ _ _ _ _).keep hb1
  simp only [World.size_alloc] at hK
  obtain ⟨r0, r1, r2, r3, r4, r5, r6, r7, r8⟩ := hK.box.head.four
  obtain ⟨b0, b1, b2, b3, b4, b5, b6, b7, b8⟩ := hK.box.tail.head.four
  obtain ⟨a0, a1, a2, a3, a4, a5, a6, a7, a8⟩ := hK.box.tail.tail.head.four
  go_wp2_with fail
  exact bodyPost_ret (v := Vl zero top zero top) (by simp [results, Tryz.results128, go_sem, nv_zero, nv_top, r0, r1, r2, r3]) rfl ⟨rfl, (hK.set4 0 rfl).bel⟩
set_option maxRecDepth 100000 in
set_option maxHeartbeats 1000000 in
theorem shift_wide9 {v m l g v' m' l' g' : BitVec 64} (ha : Hid (eqb l' g' = false)) (w : World) :
    Calls Tryz.prog 128 #[N 9, Vl v m l g, Vl v' m' l' g'] w fun e w' => e = .returned (Vl zero top zero g) ∧ Below w.heap.size w w' := by
  go_enter Tryz.func128, Tryz.ntmps128
  go_wp2_with fail
  refine (alone_is ha.out _).mono ?_
  rintro e w1 ⟨rfl, hb1⟩
  have hK := ((((Kp.start w).add4 _ _ _ _ _).add4 _ _ _ _ _).add4 _ _ _ _ _).keep hb1
  simp only [World.size_alloc] at hK
  obtain ⟨r0, r1, r2, r3, r4, r5, r6, r7, r8⟩ := hK.box.head.four
  obtain ⟨b0, b1, b2, b3, b4, b5, b6, b7, b8⟩ := hK.box.tail.head.four
  obtain ⟨a0, a1, a2, a3, a4, a5, a6, a7, a8⟩ := hK.box.tail.tail.head.four
  go_wp2_with fail
  exact bodyPost_ret (v := Vl zero top zero g) (by simp [results, Tryz.results128, go_sem, nv_zero, nv_top, r0, r1, r2, r3]) rfl ⟨rfl, (hK.set4 0 rfl).bel⟩
set_option maxRecDepth 100000 in
set_option maxHeartbeats 1000000 in
theorem shift_one8 {v m l h v' m' l' h' : BitVec 64} (hr : Hid (eqb (band v m) zero = true)) (ha : Hid (eqb l' h' = true)) (w : World) :
    Calls Tryz.prog 128 #[N 8, Vl v m l h, Vl v' m' l' h'] w fun e w' => e = .returned (Vl (bshl v (six l')) (bshl m (six l')) (shlB l h (six l')).1 (shlB l h (six l')).2) ∧ Below w.heap.size w w' := by
  have h6 := six_nv l'
  have h7 := six_lt l'
  have HS : Hid (∀ w, Calls Tryz.prog 136 #[N 8, Bt v m, N (six l')] w fun e w' => e = .returned (.tuple #[Bt (bshl v (six l')) (bshl m (six l')), N 0]) ∧ Below w.heap.size w w') := fun w => shift_up hr h7 w
  have HB : Hid (∀ w, Calls Tryz.prog 137 #[N 8, Vl v m l h, U (band l' 63#64)] w fun e w' => e = .returned (.tuple #[U (shlB l h (six l')).1, U (shlB l h (six l')).2]) ∧ Below w.heap.size w w') := fun w => shiftBounds_shl v m l h l' w
  generalize shlB l h (six l') = S at HB ⊢
  obtain ⟨lo, hi⟩ := S
  generalize bshl v (six l') = sv at HS ⊢
  generalize bshl m (six l') = sm at HS ⊢
  go_enter Tryz.func128, Tryz.ntmps128
  go_wp2_with fail
  refine (alone_is ha.out _).mono ?_
  rintro e w1 ⟨rfl, hb1⟩
  have hK := ((((Kp.start w).add4 _ _ _ _ _).add4 _ _ _ _ _).add4 _ _ _ _ _).keep hb1
  simp only [World.size_alloc] at hK
  obtain ⟨r0, r1, r2, r3, r4, r5, r6, r7, r8⟩ := hK.box.head.four
  obtain ⟨b0, b1, b2, b3, b4, b5, b6, b7, b8⟩ := hK.box.tail.head.four
  obtain ⟨a0, a1, a2, a3, a4, a5, a6, a7, a8⟩ := hK.box.tail.tail.head.four
  go_wp2_with fail
  refine (HS.out _).mono ?_
  rintro e w2 ⟨rfl, hb2⟩
  have hK2 := hK.keep hb2
  clear r0 r1 r2 r3 r4 r5 r6 r7 r8 b0 b1 b2 b3 b4 b5 b6 b7 b8 a0 a1 a2 a3 a4 a5 a6 a7 a8
  obtain ⟨r0, r1, r2, r3, r4, r5, r6, r7, r8⟩ := hK2.box.head.four
  obtain ⟨b0, b1, b2, b3, b4, b5, b6, b7, b8⟩ := hK2.box.tail.head.four
  obtain ⟨a0, a1, a2, a3, a4, a5, a6, a7, a8⟩ := hK2.box.tail.tail.head.four
  go_wp2_with fail
  refine (HB.out _).mono ?_
  rintro e w3 ⟨rfl, hb3⟩
  have hK3 := (hK2.add2 _ _ _).keep hb3
  clear r0 r1 r2 r3 r4 r5 r6 r7 r8 b0 b1 b2 b3 b4 b5 b6 b7 b8 a0 a1 a2 a3 a4 a5 a6 a7 a8
  obtain ⟨s0, s1, s2, s3, s4⟩ := hK3.box.head.two
  obtain ⟨r0, r1, r2, r3, r4, r5, r6, r7, r8⟩ := hK3.box.tail.head.four
  obtain ⟨b0, b1, b2, b3, b4, b5, b6, b7, b8⟩ := hK3.box.tail.tail.head.four
  obtain ⟨a0, a1, a2, a3, a4, a5, a6, a7, a8⟩ := hK3.box.tail.tail.tail.head.four
  go_wp2_with fail
  exact bodyPost_ret (v := Vl sv sm lo hi) (by simp [results, Tryz.results128, go_sem, r0, r1, r2, r3]) rfl ⟨rfl, (hK3.set4 1 rfl).bel⟩
set_option maxRecDepth 100000 in
set_option maxHeartbeats 1000000 in
theorem shift_one9 {v m l h v' m' l' h' : BitVec 64} (hr : Hid (eqb (band v m) zero = true)) (ha : Hid (eqb l' h' = true)) (w : World) :
    Calls Tryz.prog 128 #[N 9, Vl v m l h, Vl v' m' l' h'] w fun e w' => e = .returned (Vl (bshr v (six l')) (bshr m (six l')) (bshr l (six l')) (bshr h (six l'))) ∧ Below w.heap.size w w' := by
  have h6 := six_nv l'
  have h7 := six_lt l'
  have HS : Hid (∀ w, Calls Tryz.prog 136 #[N 9, Bt v m, N (six l')] w fun e w' => e = .returned (.tuple #[Bt (bshr v (six l')) (bshr m (six l')), N 0]) ∧ Below w.heap.size w w') := fun w => shift_down hr h7 w
  have HB : Hid (∀ w, Calls Tryz.prog 137 #[N 9, Vl v m l h, U (band l' 63#64)] w fun e w' => e = .returned (.tuple #[U (bshr l (six l')), U (bshr h (six l'))]) ∧ Below w.heap.size w w') := fun w => shiftBounds_shr v m l h l' w
  generalize bshr l (six l') = lo at HB ⊢
  generalize bshr h (six l') = hi at HB ⊢
  generalize bshr v (six l') = sv at HS ⊢
  generalize bshr m (six l') = sm at HS ⊢
  go_enter Tryz.func128, Tryz.ntmps128
  go_wp2_with fail
  refine (alone_is ha.out _).mono ?_
  rintro e w1 ⟨rfl, hb1⟩
  have hK := ((((Kp.start w).add4 _ _ _ _ _).add4 _ _ _ _ _).add4 _ _ _ _ _).keep hb1
  simp only [World.size_alloc] at hK
  obtain ⟨r0, r1, r2, r3, r4, r5, r6, r7, r8⟩ := hK.box.head.four
  obtain ⟨b0, b1, b2, b3, b4, b5, b6, b7, b8⟩ := hK.box.tail.head.four
  obtain ⟨a0, a1, a2, a3, a4, a5, a6, a7, a8⟩ := hK.box.tail.tail.head.four
  go_wp2_with fail
  refine (HS.out _).mono ?_
  rintro e w2 ⟨rfl, hb2⟩
  have hK2 := hK.keep hb2
  clear r0 r1 r2 r3 r4 r5 r6 r7 r8 b0 b1 b2 b3 b4 b5 b6 b7 b8 a0 a1 a2 a3 a4 a5 a6 a7 a8
  obtain ⟨r0, r1, r2, r3, r4, r5, r6, r7, r8⟩ := hK2.box.head.four
  obtain ⟨b0, b1, b2, b3, b4, b5, b6, b7, b8⟩ := hK2.box.tail.head.four
  obtain ⟨a0, a1, a2, a3, a4, a5, a6, a7, a8⟩ := hK2.box.tail.tail.head.four
  go_wp2_with fail
  refine (HB.out _).mono ?_
  rintro e w3 ⟨rfl, hb3⟩
  have hK3 := (hK2.add2 _ _ _).keep hb3
  clear r0 r1 r2 r3 r4 r5 r6 r7 r8 b0 b1 b2 b3 b4 b5 b6 b7 b8 a0 a1 a2 a3 a4 a5 a6 a7 a8
  obtain ⟨s0, s1, s2, s3, s4⟩ := hK3.box.head.two
  obtain ⟨r0, r1, r2, r3, r4, r5, r6, r7, r8⟩ := hK3.box.tail.head.four
  obtain ⟨b0, b1, b2, b3, b4, b5, b6, b7, b8⟩ := hK3.box.tail.tail.head.four
  obtain ⟨a0, a1, a2, a3, a4, a5, a6, a7, a8⟩ := hK3.box.tail.tail.tail.head.four
  go_wp2_with fail
  exact bodyPost_ret (v := Vl sv sm lo hi) (by simp [results, Tryz.results128, go_sem, r0, r1, r2, r3]) rfl ⟨rfl, (hK3.set4 1 rfl).bel⟩

end Go.Proofs.YtkigmocchaikgabGreat

/- The contracts of package calc's reckon, checkAll and Two. -/
namespace Go.Proofs.YtkigmocchaikgabGreat
open Go.RowKit
attribute [local go_sem] w_and w_or w_xor w_andNot w_and1 w_and63 w_add w_sub w_mul w_sub1 w_add1 w_shl w_shl1 w_shr c_beq c_bne c_beq0 c_bne0 c_beq1 c_bne1 wrap_nv

def rk (op : Int) (v m l h v' m' l' h' : BitVec 64) : BitVec 64 × BitVec 64 × BitVec 64 × BitVec 64 :=
  if op = 8 then (if eqb l' h' then (bshl v (six l'), bshl m (six l'), (shlB l h (six l')).1, (shlB l h (six l')).2) else (zero, top, zero, top))
  else if op = 9 then (if eqb l' h' then (bshr v (six l'), bshr m (six l'), bshr l (six l'), bshr h (six l')) else (zero, top, zero, h))
  else ((twoP op v m v' m').1, (twoP op v m v' m').2, (boundsP op l h l' h').1, (boundsP op l h l' h').2)

theorem shift_is {op : Int} (hop : op = 8 ∨ op = 9) {v m l h : BitVec 64} (v' m' l' h' : BitVec 64) (hr : Hid (eqb (band v m) zero = true)) (w : World) :
    Calls Tryz.prog 128 #[N op, Vl v m l h, Vl v' m' l' h'] w fun e w' => e = .returned (Vl (rk op v m l h v' m' l' h').1 (rk op v m l h v' m' l' h').2.1 (rk op v m l h v' m' l' h').2.2.1 (rk op v m l h v' m' l' h').2.2.2) ∧ Below w.heap.size w w' := by
  rcases hop with rfl | rfl
  · cases ha : eqb l' h'
    · have e : rk 8 v m l h v' m' l' h' = (zero, top, zero, top) := by unfold rk; rw [if_pos rfl, ha]; rfl
      rw [e]; exact shift_wide8 ha w
    · have e : rk 8 v m l h v' m' l' h' = (bshl v (six l'), bshl m (six l'), (shlB l h (six l')).1, (shlB l h (six l')).2) := by unfold rk; rw [if_pos rfl, ha]; rfl
      rw [e]; exact shift_one8 hr ha w
  · cases ha : eqb l' h'
    · have e : rk 9 v m l h v' m' l' h' = (zero, top, zero, h) := by unfold rk; rw [if_neg (by decide), if_pos rfl, ha]; rfl
      rw [e]; exact shift_wide9 ha w
    · have e : rk 9 v m l h v' m' l' h' = (bshr v (six l'), bshr m (six l'), bshr l (six l'), bshr h (six l')) := by unfold rk; rw [if_neg (by decide), if_pos rfl, ha]; rfl
      rw [e]; exact shift_one9 hr ha w

set_option maxRecDepth 100000 in
set_option maxHeartbeats 1000000 in
theorem reckon_shift {op : Int} (hop : op = 8 ∨ op = 9) {v m l g : BitVec 64} (v' m' l' g' : BitVec 64) (hr : Hid (eqb (band v m) zero = true)) (w : World) :
    Calls Tryz.prog 112 #[N op, Vl v m l g, Vl v' m' l' g'] w fun e w' => e = .returned (.tuple #[Vl (rk op v m l g v' m' l' g').1 (rk op v m l g v' m' l' g').2.1 (rk op v m l g v' m' l' g').2.2.1 (rk op v m l g v' m' l' g').2.2.2, N 0]) ∧ Below w.heap.size w w' := by
  have HS : Hid (∀ w, Calls Tryz.prog 128 #[N op, Vl v m l g, Vl v' m' l' g'] w fun e w' => e = .returned (Vl (rk op v m l g v' m' l' g').1 (rk op v m l g v' m' l' g').2.1 (rk op v m l g v' m' l' g').2.2.1 (rk op v m l g v' m' l' g').2.2.2) ∧ Below w.heap.size w w') := fun w => shift_is hop v' m' l' g' hr w
  generalize rk op v m l g v' m' l' g' = S at HS ⊢
  obtain ⟨sa, sb, sc, sd⟩ := S
  rcases hop with rfl | rfl
  all_goals
    go_enter Tryz.func112, Tryz.ntmps112
    go_wp2_with fail
    refine (HS.out _).mono ?_
    rintro e w1 ⟨rfl, hb1⟩
    have hK := ((((Kp.start w).add4 _ _ _ _ _).add4 _ _ _ _ _).add4 _ _ _ _ _).keep hb1
    simp only [World.size_alloc] at hK
    obtain ⟨r0, r1, r2, r3, r4, r5, r6, r7, r8⟩ := hK.box.head.four
    obtain ⟨b0, b1, b2, b3, b4, b5, b6, b7, b8⟩ := hK.box.tail.head.four
    obtain ⟨a0, a1, a2, a3, a4, a5, a6, a7, a8⟩ := hK.box.tail.tail.head.four
    go_wp2_with fail
    exact bodyPost_ret (v := .tuple #[Vl sa sb sc sd, N 0]) (by simp [results, Tryz.results112, go_sem, r0, r1, r2, r3]) rfl ⟨rfl, (hK.set4 0 rfl).bel⟩
set_option maxRecDepth 100000 in
set_option maxHeartbeats 1000000 in
theorem reckon_two {op : Int} (hop : Hid (2 ≤ op ∧ op ≤ 7)) {v m l g v' m' l' g' : BitVec 64} (hr : Hid ((eqb (band v m) zero && eqb (band v' m') zero) = true)) (w : World) :
    Calls Tryz.prog 112 #[N op, Vl v m l g, Vl v' m' l' g'] w fun e w' => e = .returned (.tuple #[Vl (rk op v m l g v' m' l' g').1 (rk op v m l g v' m' l' g').2.1 (rk op v m l g v' m' l' g').2.2.1 (rk op v m l g v' m' l' g').2.2.2, N 0]) ∧ Below w.heap.size w w' := by
  have h8 : (op == 8) = false := by have := hop.out; simp; omega
  have h9 : (op == 9) = false := by have := hop.out; simp; omega
  have Hk : Hid (rk op v m l g v' m' l' g' = ((twoP op v m v' m').1, (twoP op v m v' m').2, (boundsP op l g l' g').1, (boundsP op l g l' g').2)) := by
    show _ = _
    unfold rk; rw [if_neg (by have := hop.out; omega), if_neg (by have := hop.out; omega)]
  rw [Hk.out]
  have HT : Hid (∀ w, Calls Tryz.prog 129 #[N op, Bt v m, Bt v' m'] w fun e w' => e = .returned (.tuple #[Bt (twoP op v m v' m').1 (twoP op v m v' m').2, N 0]) ∧ Below w.heap.size w w') := fun w => two_ok hr hop.out w
  have HB : Hid (∀ w, Calls Tryz.prog 130 #[N op, Vl v m l g, Vl v' m' l' g'] w fun e w' => e = .returned (.tuple #[U (boundsP op l g l' g').1, U (boundsP op l g l' g').2]) ∧ Below w.heap.size w w') := fun w => bounds_any hop v m l g v' m' l' g' w
  clear Hk
  generalize twoP op v m v' m' = T at HT ⊢
  generalize boundsP op l g l' g' = B at HB ⊢
  obtain ⟨ta, tb⟩ := T
  obtain ⟨ba, bb⟩ := B
  go_enter Tryz.func112, Tryz.ntmps112
  go_wp2_with fail
  refine (HT.out _).mono ?_
  rintro e w1 ⟨rfl, hb1⟩
  have hK := ((((Kp.start w).add4 _ _ _ _ _).add4 _ _ _ _ _).add4 _ _ _ _ _).keep hb1
  simp only [World.size_alloc] at hK
  obtain ⟨r0, r1, r2, r3, r4, r5, r6, r7, r8⟩ := hK.box.head.four
  obtain ⟨b0, b1, b2, b3, b4, b5, b6, b7, b8⟩ := hK.box.tail.head.four
  obtain ⟨a0, a1, a2, a3, a4, a5, a6, a7, a8⟩ := hK.box.tail.tail.head.four
  go_wp2_with fail
  refine (HB.out _).mono ?_
  rintro e w2 ⟨rfl, hb2⟩
  have hK2 := (hK.add2 _ _ _).keep hb2
  clear r0 r1 r2 r3 r4 r5 r6 r7 r8 b0 b1 b2 b3 b4 b5 b6 b7 b8 a0 a1 a2 a3 a4 a5 a6 a7 a8
  obtain ⟨k0, k1, k2, k3, k4⟩ := hK2.box.head.two
  obtain ⟨r0, r1, r2, r3, r4, r5, r6, r7, r8⟩ := hK2.box.tail.head.four
  obtain ⟨b0, b1, b2, b3, b4, b5, b6, b7, b8⟩ := hK2.box.tail.tail.head.four
  obtain ⟨a0, a1, a2, a3, a4, a5, a6, a7, a8⟩ := hK2.box.tail.tail.tail.head.four
  go_wp2_with fail
  exact bodyPost_ret (v := .tuple #[Vl ta tb ba bb, N 0]) (by simp [results, Tryz.results112, go_sem, r0, r1, r2, r3]) rfl ⟨rfl, (hK2.set4 1 rfl).bel⟩
end Go.Proofs.YtkigmocchaikgabGreat

/- The contracts of package calc's checkAll and Two. -/
namespace Go.Proofs.YtkigmocchaikgabGreat
open Go.RowKit
attribute [local go_sem] w_and w_or w_xor w_andNot w_and1 w_and63 w_add w_sub w_mul w_sub1 w_add1 w_shl w_shl1 w_shr c_beq c_bne c_beq0 c_bne0 c_beq1 c_bne1 wrap_nv

set_option maxRecDepth 100000 in
set_option maxHeartbeats 1000000 in
theorem vcheck2 {v m l g v' m' l' g' : BitVec 64} {r1 r2 : Bool} (h1 : Hid (valB v m l g = r1)) (h2 : Hid (valB v' m' l' g' = r2)) {b c : Nat} {w : World} (hbw : b < w.heap.size)
    (c0 : w.cell? ⟨b, 0, none⟩ = some (U v)) (c1 : w.cell? ⟨b, 1, none⟩ = some (U m)) (c2 : w.cell? ⟨b, 2, none⟩ = some (U l)) (c3 : w.cell? ⟨b, 3, none⟩ = some (U g))
    (c4 : w.cell? ⟨b, 4, none⟩ = some (U v')) (c5 : w.cell? ⟨b, 5, none⟩ = some (U m')) (c6 : w.cell? ⟨b, 6, none⟩ = some (U l')) (c7 : w.cell? ⟨b, 7, none⟩ = some (U g')) :
    Calls Tryz.prog 111 #[.slice (some ⟨b, 0, none⟩) 2 c] w fun e w' => e = .returned (N (er (r1 && r2))) ∧ Below w.heap.size w w' := by
  go_enter Tryz.func111, Tryz.ntmps111
  go_wp2_with fail
  refine wp_loop_rounds 3 ?_
  rw [rounds_succ]
  go_wp2_with fail
  refine (checkV h1.out _).mono ?_
  rintro e w1 ⟨rfl, hb1⟩
  obtain ⟨hc1, hf1, hs1⟩ := bk (b + 1) hb1 (by simp; omega)
  cases r1
  · rw [er_f]
    go_wp2_with fail
    go_ret
    exact ⟨rfl, (by repeat (first | exact Below.refl _ _ | assumption | refine below_drewN ?_ _ | refine Below.drew ?_ | refine Below.alloc ?_ (by first | exact Nat.le_refl _ | (simp; done) | (simp; omega) | omega) _ | refine Below.setCell ?_ (by first | exact Nat.le_refl _ | (simp; done) | (simp; omega) | omega) _ | refine Below.trans ?_ (Below.mono (by assumption) (by first | exact Nat.le_refl _ | (simp; done) | (simp; omega) | omega))))⟩
  · rw [er_t]
    go_wp2_with fail
    rw [rounds_succ]
    go_wp2_with fail
    refine (checkV h2.out _).mono ?_
    rintro e w2 ⟨rfl, hb2⟩
    have hz1 : w.heap.size ≤ w1.heap.size := Nat.le_trans (by simp) hb1.size
    cases r2
    · rw [er_f]
      go_wp2_with fail
      go_ret
      exact ⟨rfl, (by repeat (first | exact Below.refl _ _ | assumption | refine below_drewN ?_ _ | refine Below.drew ?_ | refine Below.alloc ?_ (by first | exact Nat.le_refl _ | (simp; done) | (simp; omega) | omega) _ | refine Below.setCell ?_ (by first | exact Nat.le_refl _ | (simp; done) | (simp; omega) | omega) _ | refine Below.trans ?_ (Below.mono (by assumption) (by first | exact Nat.le_refl _ | (simp; done) | (simp; omega) | omega))))⟩
    · rw [er_t]
      go_wp2_with fail
      rw [rounds_succ]
      go_wp2_with fail
      go_ret
      exact ⟨rfl, (by repeat (first | exact Below.refl _ _ | assumption | refine below_drewN ?_ _ | refine Below.drew ?_ | refine Below.alloc ?_ (by first | exact Nat.le_refl _ | (simp; done) | (simp; omega) | omega) _ | refine Below.setCell ?_ (by first | exact Nat.le_refl _ | (simp; done) | (simp; omega) | omega) _ | refine Below.trans ?_ (Below.mono (by assumption) (by first | exact Nat.le_refl _ | (simp; done) | (simp; omega) | omega))))⟩

theorem two_checked {v m l g v' m' l' g' : BitVec 64} (hr : (valB v m l g && valB v' m' l' g') = true) : (eqb (band v m) zero && eqb (band v' m') zero) = true := by
  rw [Bool.and_eq_true] at hr
  rw [(rt_iff _ _).2 (val_facts hr.1).1, (rt_iff _ _).2 (val_facts hr.2).1]; rfl
set_option maxRecDepth 100000 in
set_option maxHeartbeats 1000000 in
theorem calcTwo_none {op : Int}  {v m l g v' m' l' g' : BitVec 64} (hr : Hid ((valB v m l g && valB v' m' l' g') = true)) (hop : Hid (2 ≤ op ∧ op ≤ 9)) (hrr : Hid (eqb (band (rk op v m l g v' m' l' g').1 (rk op v m l g v' m' l' g').2.1) zero = true)) (ho : Hid (normOk (rk op v m l g v' m' l' g').1 (rk op v m l g v' m' l' g').2.1 (rk op v m l g v' m' l' g').2.2.1 (rk op v m l g v' m' l' g').2.2.2 = false)) (w : World) :
    Calls Tryz.prog 75 #[N op, Vl v m l g, Vl v' m' l' g'] w fun e w' => e = .returned (.tuple #[V0, N 0]) ∧ Below w.heap.size w w' := by
  obtain ⟨z1, H1⟩ : ∃ b, Hid (valB v m l g = b) := ⟨_, rfl⟩
  obtain ⟨z2, H2⟩ : ∃ b, Hid (valB v' m' l' g' = b) := ⟨_, rfl⟩
  have hb := two_checked hr.out
  have hb' := hb
  rw [Bool.and_eq_true] at hb'
  have HR : Hid (∀ w, Calls Tryz.prog 112 #[N op, Vl v m l g, Vl v' m' l' g'] w fun e w' => e = .returned (.tuple #[Vl (rk op v m l g v' m' l' g').1 (rk op v m l g v' m' l' g').2.1 (rk op v m l g v' m' l' g').2.2.1 (rk op v m l g v' m' l' g').2.2.2, N 0]) ∧ Below w.heap.size w w') := fun w => by
    by_cases h : op = 8 ∨ op = 9
    · exact reckon_shift h v' m' l' g' hb'.1 w
    · exact reckon_two (hid (by have := hop.out; omega)) hb w
  clear hb hb' hop
  generalize rk op v m l g v' m' l' g' = S at HR hrr ho ⊢
  obtain ⟨sa, sb, sc, sd⟩ := S
  dsimp only at HR hrr ho ⊢
  have HN : Hid (∀ w, Calls Tryz.prog 113 #[Vl sa sb sc sd] w fun e w' => e = .returned (.tuple #[V0, .bool false, N 0]) ∧ Below w.heap.size w w') := fun w => norm_none hrr ho w
  rw [H1.out, H2.out] at hr
  go_enter Tryz.func75, Tryz.ntmps75
  go_wp2_with fail
  refine (vcheck2 H1 H2 (by simp) (by simp [go_sem]) (by simp [go_sem]) (by simp [go_sem]) (by simp [go_sem]) (by simp [go_sem]) (by simp [go_sem]) (by simp [go_sem]) (by simp [go_sem])).mono ?_
  rw [hr.out, er_t]
  rintro e w1 ⟨rfl, hb1⟩
  have hK := (((((Kp.start w).add4 _ _ _ _ _).add4 _ _ _ _ _).add4 _ _ _ _ _).keep ((Below.refl _ _).alloc (Nat.le_refl _) _)).keep hb1
  simp only [World.size_alloc] at hK
  obtain ⟨r0, r1, r2, r3, r4, r5, r6, r7, r8⟩ := hK.box.head.four
  obtain ⟨b0, b1, b2, b3, b4, b5, b6, b7, b8⟩ := hK.box.tail.head.four
  obtain ⟨a0, a1, a2, a3, a4, a5, a6, a7, a8⟩ := hK.box.tail.tail.head.four
  go_wp2_with fail
  refine (HR.out _).mono ?_
  rintro e w2 ⟨rfl, hb2⟩
  have hK2 := hK.keep hb2
  clear r0 r1 r2 r3 r4 r5 r6 r7 r8 b0 b1 b2 b3 b4 b5 b6 b7 b8 a0 a1 a2 a3 a4 a5 a6 a7 a8
  obtain ⟨r0, r1, r2, r3, r4, r5, r6, r7, r8⟩ := hK2.box.head.four
  obtain ⟨b0, b1, b2, b3, b4, b5, b6, b7, b8⟩ := hK2.box.tail.head.four
  obtain ⟨a0, a1, a2, a3, a4, a5, a6, a7, a8⟩ := hK2.box.tail.tail.head.four
  go_wp2_with fail
  refine (HN.out _).mono ?_
  rintro e w3 ⟨rfl, hb3⟩
  have hK3 := (hK2.add4 _ _ _ _ _).keep hb3
  clear r0 r1 r2 r3 r4 r5 r6 r7 r8 b0 b1 b2 b3 b4 b5 b6 b7 b8 a0 a1 a2 a3 a4 a5 a6 a7 a8
  obtain ⟨k0, k1, k2, k3, k4, k5, k6, k7, k8⟩ := hK3.box.head.four
  obtain ⟨r0, r1, r2, r3, r4, r5, r6, r7, r8⟩ := hK3.box.tail.head.four
  obtain ⟨b0, b1, b2, b3, b4, b5, b6, b7, b8⟩ := hK3.box.tail.tail.head.four
  obtain ⟨a0, a1, a2, a3, a4, a5, a6, a7, a8⟩ := hK3.box.tail.tail.tail.head.four
  go_wp2_with fail
  exact bodyPost_ret (v := .tuple #[V0, N 0]) (by simp [results, Tryz.results75, go_sem, nv_zero, r0, r1, r2, r3, r8]) rfl ⟨rfl, ((hK3.set4 1 rfl).add4 _ _ _ _ _).bel⟩

set_option maxRecDepth 100000 in
set_option maxHeartbeats 1000000 in
theorem calcTwo_yes {op : Int}  {v m l g v' m' l' g' : BitVec 64} (hr : Hid ((valB v m l g && valB v' m' l' g') = true)) (hop : Hid (2 ≤ op ∧ op ≤ 9)) (hrr : Hid (eqb (band (rk op v m l g v' m' l' g').1 (rk op v m l g v' m' l' g').2.1) zero = true)) (ho : Hid (normOk (rk op v m l g v' m' l' g').1 (rk op v m l g v' m' l' g').2.1 (rk op v m l g v' m' l' g').2.2.1 (rk op v m l g v' m' l' g').2.2.2 = true)) (w : World) :
    Calls Tryz.prog 75 #[N op, Vl v m l g, Vl v' m' l' g'] w fun e w' => e = .returned (.tuple #[Vl (nV (rk op v m l g v' m' l' g').1 (rk op v m l g v' m' l' g').2.1 (rk op v m l g v' m' l' g').2.2.1 (rk op v m l g v' m' l' g').2.2.2) (nM (rk op v m l g v' m' l' g').2.1 (nLo (rk op v m l g v' m' l' g').1 (rk op v m l g v' m' l' g').2.1 (rk op v m l g v' m' l' g').2.2.1) (nHi (rk op v m l g v' m' l' g').1 (rk op v m l g v' m' l' g').2.1 (rk op v m l g v' m' l' g').2.2.2)) (nLo (rk op v m l g v' m' l' g').1 (rk op v m l g v' m' l' g').2.1 (rk op v m l g v' m' l' g').2.2.1) (nHi (rk op v m l g v' m' l' g').1 (rk op v m l g v' m' l' g').2.1 (rk op v m l g v' m' l' g').2.2.2), N 0]) ∧ Below w.heap.size w w' := by
  obtain ⟨z1, H1⟩ : ∃ b, Hid (valB v m l g = b) := ⟨_, rfl⟩
  obtain ⟨z2, H2⟩ : ∃ b, Hid (valB v' m' l' g' = b) := ⟨_, rfl⟩
  have hb := two_checked hr.out
  have hb' := hb
  rw [Bool.and_eq_true] at hb'
  have HR : Hid (∀ w, Calls Tryz.prog 112 #[N op, Vl v m l g, Vl v' m' l' g'] w fun e w' => e = .returned (.tuple #[Vl (rk op v m l g v' m' l' g').1 (rk op v m l g v' m' l' g').2.1 (rk op v m l g v' m' l' g').2.2.1 (rk op v m l g v' m' l' g').2.2.2, N 0]) ∧ Below w.heap.size w w') := fun w => by
    by_cases h : op = 8 ∨ op = 9
    · exact reckon_shift h v' m' l' g' hb'.1 w
    · exact reckon_two (hid (by have := hop.out; omega)) hb w
  clear hb hb' hop
  generalize rk op v m l g v' m' l' g' = S at HR hrr ho ⊢
  obtain ⟨sa, sb, sc, sd⟩ := S
  dsimp only at HR hrr ho ⊢
  have HN : Hid (∀ w, Calls Tryz.prog 113 #[Vl sa sb sc sd] w fun e w' => e = .returned (.tuple #[Vl (nV sa sb sc sd) (nM sb (nLo sa sb sc) (nHi sa sb sd)) (nLo sa sb sc) (nHi sa sb sd), .bool true, N 0]) ∧ Below w.heap.size w w') := fun w => norm_yes hrr ho w
  generalize nV sa sb sc sd = na at HN ⊢
  generalize nM sb (nLo sa sb sc) (nHi sa sb sd) = nb at HN ⊢
  generalize nLo sa sb sc = nc at HN ⊢
  generalize nHi sa sb sd = nd at HN ⊢
  rw [H1.out, H2.out] at hr
  go_enter Tryz.func75, Tryz.ntmps75
  go_wp2_with fail
  refine (vcheck2 H1 H2 (by simp) (by simp [go_sem]) (by simp [go_sem]) (by simp [go_sem]) (by simp [go_sem]) (by simp [go_sem]) (by simp [go_sem]) (by simp [go_sem]) (by simp [go_sem])).mono ?_
  rw [hr.out, er_t]
  rintro e w1 ⟨rfl, hb1⟩
  have hK := (((((Kp.start w).add4 _ _ _ _ _).add4 _ _ _ _ _).add4 _ _ _ _ _).keep ((Below.refl _ _).alloc (Nat.le_refl _) _)).keep hb1
  simp only [World.size_alloc] at hK
  obtain ⟨r0, r1, r2, r3, r4, r5, r6, r7, r8⟩ := hK.box.head.four
  obtain ⟨b0, b1, b2, b3, b4, b5, b6, b7, b8⟩ := hK.box.tail.head.four
  obtain ⟨a0, a1, a2, a3, a4, a5, a6, a7, a8⟩ := hK.box.tail.tail.head.four
  go_wp2_with fail
  refine (HR.out _).mono ?_
  rintro e w2 ⟨rfl, hb2⟩
  have hK2 := hK.keep hb2
  clear r0 r1 r2 r3 r4 r5 r6 r7 r8 b0 b1 b2 b3 b4 b5 b6 b7 b8 a0 a1 a2 a3 a4 a5 a6 a7 a8
  obtain ⟨r0, r1, r2, r3, r4, r5, r6, r7, r8⟩ := hK2.box.head.four
  obtain ⟨b0, b1, b2, b3, b4, b5, b6, b7, b8⟩ := hK2.box.tail.head.four
  obtain ⟨a0, a1, a2, a3, a4, a5, a6, a7, a8⟩ := hK2.box.tail.tail.head.four
  go_wp2_with fail
  refine (HN.out _).mono ?_
  rintro e w3 ⟨rfl, hb3⟩
  have hK3 := (hK2.add4 _ _ _ _ _).keep hb3
  clear r0 r1 r2 r3 r4 r5 r6 r7 r8 b0 b1 b2 b3 b4 b5 b6 b7 b8 a0 a1 a2 a3 a4 a5 a6 a7 a8
  obtain ⟨k0, k1, k2, k3, k4, k5, k6, k7, k8⟩ := hK3.box.head.four
  obtain ⟨r0, r1, r2, r3, r4, r5, r6, r7, r8⟩ := hK3.box.tail.head.four
  obtain ⟨b0, b1, b2, b3, b4, b5, b6, b7, b8⟩ := hK3.box.tail.tail.head.four
  obtain ⟨a0, a1, a2, a3, a4, a5, a6, a7, a8⟩ := hK3.box.tail.tail.tail.head.four
  go_wp2_with fail
  exact bodyPost_ret (v := .tuple #[Vl na nb nc nd, N 0]) (by simp [results, Tryz.results75, go_sem, r0, r1, r2, r3, r8]) rfl ⟨rfl, ((hK3.set4 1 rfl).add4 _ _ _ _ _).bel⟩

end Go.Proofs.YtkigmocchaikgabGreat

/- The contracts of package calc's between and without. -/
namespace Go.Proofs.YtkigmocchaikgabGreat
open Go.RowKit
attribute [local go_sem] w_and w_or w_xor w_andNot w_and1 w_and63 w_add w_sub w_mul w_sub1 w_add1 w_shl w_shl1 w_shr c_beq c_bne c_beq0 c_bne0 c_beq1 c_bne1 wrap_nv

set_option maxRecDepth 100000 in
set_option maxHeartbeats 1000000 in
theorem between_any (v m l g lo hi : BitVec 64) (w : World) :
    Calls Tryz.prog 109 #[Vl v m l g, U lo, U hi] w fun e w' => e = .returned (Vl v m (bmax l lo) (bmin g hi)) ∧ Below w.heap.size w w' := by
  by_cases h1 : nv l < nv lo <;> by_cases h2 : nv hi < nv g
  · have e1 : Hid (bmax l lo = lo) := if_pos h1
    have e2 : Hid (bmin g hi = hi) := if_pos h2
    rw [e1.out, e2.out]
    go_enter Tryz.func109, Tryz.ntmps109
    go_wp2_with fail
    exact bodyPost_ret (v := Vl v m lo hi) (by simp [results, Tryz.results109, go_sem]) rfl ⟨rfl, (by repeat (first | exact Below.refl _ _ | assumption | refine below_drewN ?_ _ | refine Below.drew ?_ | refine Below.alloc ?_ (by first | exact Nat.le_refl _ | (simp; done) | (simp; omega) | omega) _ | refine Below.setCell ?_ (by first | exact Nat.le_refl _ | (simp; done) | (simp; omega) | omega) _ | refine Below.trans ?_ (Below.mono (by assumption) (by first | exact Nat.le_refl _ | (simp; done) | (simp; omega) | omega))))⟩
  · have e1 : Hid (bmax l lo = lo) := if_pos h1
    have e2 : Hid (bmin g hi = g) := if_neg h2
    have h2' : nv g ≤ nv hi := by omega
    clear h2
    rw [e1.out, e2.out]
    go_enter Tryz.func109, Tryz.ntmps109
    go_wp2_with fail
    exact bodyPost_ret (v := Vl v m lo g) (by simp [results, Tryz.results109, go_sem]) rfl ⟨rfl, (by repeat (first | exact Below.refl _ _ | assumption | refine below_drewN ?_ _ | refine Below.drew ?_ | refine Below.alloc ?_ (by first | exact Nat.le_refl _ | (simp; done) | (simp; omega) | omega) _ | refine Below.setCell ?_ (by first | exact Nat.le_refl _ | (simp; done) | (simp; omega) | omega) _ | refine Below.trans ?_ (Below.mono (by assumption) (by first | exact Nat.le_refl _ | (simp; done) | (simp; omega) | omega))))⟩
  · have e1 : Hid (bmax l lo = l) := if_neg h1
    have e2 : Hid (bmin g hi = hi) := if_pos h2
    have h1' : nv lo ≤ nv l := by omega
    clear h1
    rw [e1.out, e2.out]
    go_enter Tryz.func109, Tryz.ntmps109
    go_wp2_with fail
    exact bodyPost_ret (v := Vl v m l hi) (by simp [results, Tryz.results109, go_sem]) rfl ⟨rfl, (by repeat (first | exact Below.refl _ _ | assumption | refine below_drewN ?_ _ | refine Below.drew ?_ | refine Below.alloc ?_ (by first | exact Nat.le_refl _ | (simp; done) | (simp; omega) | omega) _ | refine Below.setCell ?_ (by first | exact Nat.le_refl _ | (simp; done) | (simp; omega) | omega) _ | refine Below.trans ?_ (Below.mono (by assumption) (by first | exact Nat.le_refl _ | (simp; done) | (simp; omega) | omega))))⟩
  · have e1 : Hid (bmax l lo = l) := if_neg h1
    have e2 : Hid (bmin g hi = g) := if_neg h2
    have h1' : nv lo ≤ nv l := by omega
    have h2' : nv g ≤ nv hi := by omega
    clear h1 h2
    rw [e1.out, e2.out]
    go_enter Tryz.func109, Tryz.ntmps109
    go_wp2_with fail
    exact bodyPost_ret (v := Vl v m l g) (by simp [results, Tryz.results109, go_sem]) rfl ⟨rfl, (by repeat (first | exact Below.refl _ _ | assumption | refine below_drewN ?_ _ | refine Below.drew ?_ | refine Below.alloc ?_ (by first | exact Nat.le_refl _ | (simp; done) | (simp; omega) | omega) _ | refine Below.setCell ?_ (by first | exact Nat.le_refl _ | (simp; done) | (simp; omega) | omega) _ | refine Below.trans ?_ (Below.mono (by assumption) (by first | exact Nat.le_refl _ | (simp; done) | (simp; omega) | omega))))⟩

def woL (l l' h' : BitVec 64) : BitVec 64 := if eqb l' h' && eqb l l' then badd l one else l
def woH (l h l' h' : BitVec 64) : BitVec 64 := if eqb l' h' && (!eqb l l' && eqb h l') then bsub h one else h
set_option maxRecDepth 100000 in
set_option maxHeartbeats 1000000 in
theorem without_is (v m l g v' m' l' g' : BitVec 64) (w : World) :
    Calls Tryz.prog 105 #[Vl v m l g, Vl v' m' l' g'] w fun e w' => e = .returned (Vl v m (woL l l' g') (woH l g l' g')) ∧ Below w.heap.size w w' := by
  have H1 : Hid (woL l l' g' = if eqb l' g' && eqb l l' then badd l one else l) := rfl
  have H2 : Hid (woH l g l' g' = if eqb l' g' && (!eqb l l' && eqb g l') then bsub g one else g) := rfl
  obtain ⟨z1, ha⟩ : ∃ b, Hid (eqb l' g' = b) := ⟨_, rfl⟩
  obtain ⟨z2, hb⟩ : ∃ b, eqb l l' = b := ⟨_, rfl⟩
  obtain ⟨z3, hc⟩ : ∃ b, eqb g l' = b := ⟨_, rfl⟩
  rw [ha.out, hb] at H1
  rw [ha.out, hb, hc] at H2
  cases z1
  · rw [H1.out, H2.out]
    go_enter Tryz.func105, Tryz.ntmps105
    go_wp2_with fail
    refine (alone_is ha.out _).mono ?_
    rintro e w1 ⟨rfl, hb1⟩
    have hK := ((((Kp.start w).add4 _ _ _ _ _).add4 _ _ _ _ _).add4 _ _ _ _ _).keep hb1
    simp only [World.size_alloc] at hK
    obtain ⟨r0, r1, r2, r3, r4, r5, r6, r7, r8⟩ := hK.box.head.four
    obtain ⟨b0, b1, b2, b3, b4, b5, b6, b7, b8⟩ := hK.box.tail.head.four
    obtain ⟨a0, a1, a2, a3, a4, a5, a6, a7, a8⟩ := hK.box.tail.tail.head.four
    go_wp2_with fail
    exact bodyPost_ret (v := Vl v m l g) (by simp [results, Tryz.results105, go_sem, r0, r1, r2, r3]) rfl ⟨rfl, (hK.set4 0 rfl).bel⟩
  · cases z2
    · cases z3
      · rw [H1.out, H2.out]
        go_enter Tryz.func105, Tryz.ntmps105
        go_wp2_with fail
        refine (alone_is ha.out _).mono ?_
        rintro e w1 ⟨rfl, hb1⟩
        have hK := ((((Kp.start w).add4 _ _ _ _ _).add4 _ _ _ _ _).add4 _ _ _ _ _).keep hb1
        simp only [World.size_alloc] at hK
        obtain ⟨r0, r1, r2, r3, r4, r5, r6, r7, r8⟩ := hK.box.head.four
        obtain ⟨b0, b1, b2, b3, b4, b5, b6, b7, b8⟩ := hK.box.tail.head.four
        obtain ⟨a0, a1, a2, a3, a4, a5, a6, a7, a8⟩ := hK.box.tail.tail.head.four
        go_wp2_with fail
        exact bodyPost_ret (v := Vl v m l g) (by simp [results, Tryz.results105, go_sem, r0, r1, r2, r3]) rfl ⟨rfl, (hK.set4 0 rfl).bel⟩
      · rw [H1.out, H2.out]
        go_enter Tryz.func105, Tryz.ntmps105
        go_wp2_with fail
        refine (alone_is ha.out _).mono ?_
        rintro e w1 ⟨rfl, hb1⟩
        have hK := ((((Kp.start w).add4 _ _ _ _ _).add4 _ _ _ _ _).add4 _ _ _ _ _).keep hb1
        simp only [World.size_alloc] at hK
        obtain ⟨r0, r1, r2, r3, r4, r5, r6, r7, r8⟩ := hK.box.head.four
        obtain ⟨b0, b1, b2, b3, b4, b5, b6, b7, b8⟩ := hK.box.tail.head.four
        obtain ⟨a0, a1, a2, a3, a4, a5, a6, a7, a8⟩ := hK.box.tail.tail.head.four
        go_wp2_with fail
        refine bodyPost_ret (v := Vl v m l (bsub g one)) (by simp [results, Tryz.results105, go_sem, r0, r1, r2, r3]) rfl ⟨rfl, ?_⟩
        exact ((((hK.bel.setCell (by dsimp only; omega) _).setCell (by dsimp only; omega) _).setCell (by dsimp only; omega) _).setCell (by dsimp only; omega) _).setCell (by dsimp only; omega) _
    · rw [H1.out, H2.out]
      go_enter Tryz.func105, Tryz.ntmps105
      go_wp2_with fail
      refine (alone_is ha.out _).mono ?_
      rintro e w1 ⟨rfl, hb1⟩
      have hK := ((((Kp.start w).add4 _ _ _ _ _).add4 _ _ _ _ _).add4 _ _ _ _ _).keep hb1
      simp only [World.size_alloc] at hK
      obtain ⟨r0, r1, r2, r3, r4, r5, r6, r7, r8⟩ := hK.box.head.four
      obtain ⟨b0, b1, b2, b3, b4, b5, b6, b7, b8⟩ := hK.box.tail.head.four
      obtain ⟨a0, a1, a2, a3, a4, a5, a6, a7, a8⟩ := hK.box.tail.tail.head.four
      go_wp2_with fail
      refine bodyPost_ret (v := Vl v m (badd l one) g) (by simp [results, Tryz.results105, go_sem, r0, r1, r2, r3]) rfl ⟨rfl, ?_⟩
      exact ((((hK.bel.setCell (by dsimp only; omega) _).setCell (by dsimp only; omega) _).setCell (by dsimp only; omega) _).setCell (by dsimp only; omega) _).setCell (by dsimp only; omega) _

end Go.Proofs.YtkigmocchaikgabGreat

/- What the one has and the other has, reckoned together, is within what reckon answers; what is left of both has them: plain facts. -/
namespace Go.Proofs.YtkigmocchaikgabGreat

theorem has_facts {v m l h x : BitVec 64} (hx : hasV v m l h x = true) : valB v m l h = true ∧ RtB v m ∧ hasB v m x = true ∧ nv l ≤ nv x ∧ nv x ≤ nv h := by
  unfold hasV at hx
  simp only [Bool.and_eq_true, decide_eq_true_eq] at hx
  exact ⟨hx.1, (val_facts hx.1).1, hx.2.1, hx.2.2.1, hx.2.2.2⟩
theorem raw_mk {v m l h x : BitVec 64} (h1 : hasB v m x = true) (h2 : nv l ≤ nv x) (h3 : nv x ≤ nv h) : rawV v m l h x = true := by
  unfold rawV; rw [h1]; simp only [Bool.true_and, Bool.and_eq_true, decide_eq_true_eq]; exact ⟨h2, h3⟩
theorem top_has (x : BitVec 64) : RtB zero top ∧ hasB zero top x = true := by
  have hr : RtB zero top := zero_rt top
  refine ⟨hr, (hasB_iff _ _ _).2 ⟨hr, fun j hj => ?_⟩⟩
  rw [bit_top _ hj, bit_zero]; cases bit x j <;> rfl
theorem rk_sound {op : Int} (hop : 2 ≤ op ∧ op ≤ 9) {v m l h v' m' l' h' x y : BitVec 64} (hx : hasV v m l h x = true) (hy : hasV v' m' l' h' y = true) :
    RtB (rk op v m l h v' m' l' h').1 (rk op v m l h v' m' l' h').2.1 ∧ rawV (rk op v m l h v' m' l' h').1 (rk op v m l h v' m' l' h').2.1 (rk op v m l h v' m' l' h').2.2.1 (rk op v m l h v' m' l' h').2.2.2 (numN op x y) = true := by
  obtain ⟨_, r1, b1, p1, p2⟩ := has_facts hx
  obtain ⟨_, r2, b2, q1, q2⟩ := has_facts hy
  by_cases h8 : op = 8
  · subst h8
    have hn : numN 8 x y = bshl x (six y) := by unfold numN; rw [if_neg (by decide), if_neg (by decide), if_pos rfl]
    rw [hn]
    cases ha : eqb l' h'
    · have e : rk 8 v m l h v' m' l' h' = (zero, top, zero, top) := by unfold rk; rw [if_pos rfl, ha]; rfl
      rw [e]
      exact ⟨(top_has zero).1, raw_mk (top_has _).2 (ends _).1 (ends _).2⟩
    · have e : rk 8 v m l h v' m' l' h' = (bshl v (six l'), bshl m (six l'), (shlB l h (six l')).1, (shlB l h (six l')).2) := by unfold rk; rw [if_pos rfl, ha]; rfl
      have hl : y = l' := by
        have := (eqb_iff _ _).1 ha
        rw [← this] at q2
        exact nv_inj _ _ (by omega)
      rw [e, hl]
      exact ⟨shl_rt r1 _, raw_mk (sound_shl b1 _) (shl_bounds _ p1 p2).1 (shl_bounds _ p1 p2).2⟩
  · by_cases h9 : op = 9
    · subst h9
      have hn : numN 9 x y = bshr x (six y) := by unfold numN; rw [if_neg (by decide), if_neg (by decide), if_neg (by decide)]
      rw [hn]
      cases ha : eqb l' h'
      · have e : rk 9 v m l h v' m' l' h' = (zero, top, zero, h) := by unfold rk; rw [if_neg (by decide), if_pos rfl, ha]; rfl
        rw [e]
        exact ⟨(top_has zero).1, raw_mk (top_has _).2 (ends _).1 (Int.le_trans (shr_le _ _) p2)⟩
      · have e : rk 9 v m l h v' m' l' h' = (bshr v (six l'), bshr m (six l'), bshr l (six l'), bshr h (six l')) := by unfold rk; rw [if_neg (by decide), if_pos rfl, ha]; rfl
        have hl : y = l' := by
          have := (eqb_iff _ _).1 ha
          rw [← this] at q2
          exact nv_inj _ _ (by omega)
        rw [e, hl]
        have hs := sound_shr b1 (six l')
        exact ⟨((hasB_iff _ _ _).1 hs).1, raw_mk hs (shr_bounds _ p1 p2).1 (shr_bounds _ p1 p2).2⟩
    · have h27 : 2 ≤ op ∧ op ≤ 7 := by omega
      have hn : numN op x y = numB op x y := by unfold numN; rw [if_neg (by omega), if_pos h27]
      have e : rk op v m l h v' m' l' h' = ((twoP op v m v' m').1, (twoP op v m v' m').2, (boundsP op l h l' h').1, (boundsP op l h l' h').2) := by
        unfold rk; rw [if_neg h8, if_neg h9]
      rw [hn, e]
      exact ⟨two_rt h27, raw_mk (sound_two h27 b1 b2) (bounds_sound h27 p1 p2 q1 q2).1 (bounds_sound h27 p1 p2 q1 q2).2⟩

/- Equal -/
/- Other -/
/- Less -/
/- NotLess -/
end Go.Proofs.YtkigmocchaikgabGreat

/- Values and reckoning with them, as plain functions. -/
namespace Go.Proofs.YtkigmocchaikgabGreat

structure V4 where
  v : BitVec 64
  m : BitVec 64
  l : BitVec 64
  h : BitVec 64
theorem V4.ext' {a b : V4} (h1 : a.v = b.v) (h2 : a.m = b.m) (h3 : a.l = b.l) (h4 : a.h = b.h) : a = b := by cases a; cases b; simp_all
def V4.cs (a : V4) : List AC := [.u a.v, .u a.m, .u a.l, .u a.h]
def V4.z : V4 := ⟨zero, zero, zero, zero⟩
def V4.rt (a : V4) : Bool := eqb (band a.v a.m) zero
def V4.ok (a : V4) : Bool := valB a.v a.m a.l a.h
def V4.nok (a : V4) : Bool := normOk a.v a.m a.l a.h
def V4.nrm (a : V4) : V4 := ⟨nV a.v a.m a.l a.h, nM a.m (nLo a.v a.m a.l) (nHi a.v a.m a.h), nLo a.v a.m a.l, nHi a.v a.m a.h⟩
def V4.norm (a : V4) : V4 := if a.nok then a.nrm else V4.z
def V4.has (a : V4) (x : BitVec 64) : Bool := hasV a.v a.m a.l a.h x
def V4.of (x : BitVec 64) : V4 := ⟨x, zero, x, x⟩
def V4.any : V4 := ⟨zero, top, zero, top⟩
def V4.alone (a : V4) : Bool := eqb a.l a.h
def V4.rawJoin (a b : V4) : V4 := ⟨jV a.v a.m b.v b.m, jM a.v a.m b.v b.m, bmin a.l b.l, bmax a.h b.h⟩
def V4.join (a b : V4) : V4 := (a.rawJoin b).nrm
def V4.raw2 (op : Int) (a b : V4) : V4 :=
  ⟨(rk op a.v a.m a.l a.h b.v b.m b.l b.h).1, (rk op a.v a.m a.l a.h b.v b.m b.l b.h).2.1, (rk op a.v a.m a.l a.h b.v b.m b.l b.h).2.2.1, (rk op a.v a.m a.l a.h b.v b.m b.l b.h).2.2.2⟩
def V4.two (op : Int) (a b : V4) : V4 := (V4.raw2 op a b).norm
def lvV (p : Bool) (a : V4) : V4 := if p then a else V4.z
def left2 (may : Bool) (x y : V4) : V4 × V4 × Bool := (lvV (may && (x.nok && y.nok)) x.nrm, lvV (may && (x.nok && y.nok)) y.nrm, may && (x.nok && y.nok))
def V4.meets (a b : V4) : Bool := eqb (bandn (bxor a.v b.v) (bor a.m b.m)) zero
def V4.rawEqual (a b : V4) : V4 := ⟨bor a.v b.v, band a.m b.m, bmax a.l b.l, bmin a.h b.h⟩
def V4.equal (a b : V4) : V4 × V4 × Bool := if a.meets b then left2 true (a.rawEqual b) (a.rawEqual b) else (V4.z, V4.z, false)
def V4.without (a b : V4) : V4 := ⟨a.v, a.m, woL a.l b.l b.h, woH a.l a.h b.l b.h⟩
def V4.other (a b : V4) : V4 × V4 × Bool := left2 (!(a.alone && (b.alone && eqb a.l b.l))) (a.without b) (b.without a)
def V4.less (a b : V4) : V4 × V4 × Bool :=
  if eqb b.h zero || eqb a.l top then (V4.z, V4.z, false)
  else left2 true ⟨a.v, a.m, a.l, bmin a.h (bsub b.h one)⟩ ⟨b.v, b.m, bmax b.l (badd a.l one), b.h⟩
def V4.notLess (a b : V4) : V4 × V4 × Bool := left2 true ⟨a.v, a.m, bmax a.l b.l, a.h⟩ ⟨b.v, b.m, b.l, bmin b.h a.h⟩
def byteTop (n : Int) : BitVec 64 := if n = 8 then top else if n = 4 then 4294967295#64 else if n = 2 then 65535#64 else 255#64
def V4.bytes (n : Int) : V4 := ⟨zero, byteTop n, zero, byteTop n⟩

theorem bmax_self (x : BitVec 64) : bmax x x = x := by unfold bmax; split <;> rfl
theorem bmin_self (x : BitVec 64) : bmin x x = x := by unfold bmin; split <;> rfl
end Go.Proofs.YtkigmocchaikgabGreat

/- States of what may be, as plain functions. -/
namespace Go.Proofs.YtkigmocchaikgabGreat

structure St where
  live : Bool
  s : V6 Bool
  r : V6 V4
def St.cs (t : St) : List AC := [.b t.live, .b t.s.x0, .b t.s.x1, .b t.s.x2, .b t.s.x3, .b t.s.x4, .b t.s.x5,
  .u t.r.x0.v, .u t.r.x0.m, .u t.r.x0.l, .u t.r.x0.h, .u t.r.x1.v, .u t.r.x1.m, .u t.r.x1.l, .u t.r.x1.h, .u t.r.x2.v, .u t.r.x2.m, .u t.r.x2.l, .u t.r.x2.h,
  .u t.r.x3.v, .u t.r.x3.m, .u t.r.x3.l, .u t.r.x3.h, .u t.r.x4.v, .u t.r.x4.m, .u t.r.x4.l, .u t.r.x4.h, .u t.r.x5.v, .u t.r.x5.m, .u t.r.x5.l, .u t.r.x5.h]
def St.z : St := ⟨false, no6, V6.rep V4.z⟩
def St.e : St := ⟨true, no6, V6.rep V4.z⟩
/- what is wrong with a register; a state that is right -/
def badR (t : St) (j : Nat) : Bool := bif t.s.get j then !(t.r.get j).ok else !eqCs (t.r.get j).cs V4.z.cs
def St.ok (t : St) : Bool := (t.live || eqCs t.cs St.z.cs) && !anyFrom (badR t) 6
def St.wth (t : St) (d : Nat) (a : V4) : St := ⟨t.live, t.s.set d true, t.r.set d a⟩
def beginS : St := St.e.wth 1 V4.any
/- a register that the machine's is not one of -/
def lackR (t : St) (m : Mach) (j : Nat) : Bool := t.s.get j && !(m.s.get j && (t.r.get j).has (m.r.get j))
def St.has (t : St) (m : Mach) : Bool := t.ok && (t.live && (decide (machErr m = 0) && (decide (m.fin = 0) && !anyFrom (lackR t m) 6)))
def joinR (t u : St) (j : Nat) (b : St) : St := if t.s.get j && u.s.get j then b.wth j ((t.r.get j).join (u.r.get j)) else b
def joinFrom (t u : St) : Nat → St → St
  | 0, b => b
  | n + 1, b => joinFrom t u n (joinR t u (5 - n) b)
def St.join (t u : St) : St := if t.live then (if u.live then joinFrom t u 6 St.e else t) else u

/- a step, on what may be -/
def exitI : Ins := ⟨15, 0, 0, 0#64, 0⟩
def fineI (i : Ins) : Bool := kindB i && (inB i 65 && bareB i)
def srcV (i : Ins) (t : St) : V4 := if i.s = -1 then V4.of i.im else t.r.get i.s.toNat
def farS (i : Ins) (a : V4) : Bool := decide (nv (bsub 64#64 i.im) < nv (V4.two 2 a (V4.of (BitVec.ofInt 64 i.of))).h)
def trapS (i : Ins) (t : St) : Int :=
  if lacks (useOf i) t.s then 1
  else if i.op = 10 then (if farS i (t.r.get i.s.toNat) then 2 else 0)
  else if i.op = 11 then (if farS i (t.r.get i.d.toNat) then 2 else 0)
  else 0
def leftS (i : Ins) (t : St) (x : V4 × V4 × Bool) : St :=
  if x.2.2 then (if i.s = -1 then t.wth i.d.toNat x.1 else (t.wth i.d.toNat x.1).wth i.s.toNat x.2.1) else St.z
def goS (i : Ins) (t : St) : St × St :=
  if i.op = 10 then (t.wth i.d.toNat (V4.bytes (nv i.im)), St.z)
  else if i.op = 11 then (t, St.z)
  else if i.op = 12 then (St.z, t)
  else if i.op = 13 then (leftS i t ((t.r.get i.d.toNat).other (srcV i t)), leftS i t ((t.r.get i.d.toNat).equal (srcV i t)))
  else if i.op = 14 then (leftS i t ((t.r.get i.d.toNat).notLess (srcV i t)), leftS i t ((t.r.get i.d.toNat).less (srcV i t)))
  else if i.op = 15 then (St.z, St.z)
  else if i.op = 1 then (t.wth i.d.toNat (srcV i t), St.z)
  else (t.wth i.d.toNat (V4.two i.op (t.r.get i.d.toNat) (srcV i t)), St.z)
def stepS (i : Ins) (t : St) : St × St × Int :=
  if t.live then (if trapS i t = 0 then ((goS i t).1, (goS i t).2, 0) else (St.z, St.z, trapS i t)) else (St.z, St.z, 0)
def stepE (i : Ins) (t : St) : Int := if fineI i && t.ok then 0 else 1
def stepA (i : Ins) (t : St) : St × St × Int := if fineI i && t.ok then stepS i t else (St.z, St.z, 0)

theorem st_len (t : St) : t.cs.length = 31 := rfl
theorem st_get_r {t : St} {r : Int} (h : regB r = true) : List.take 4 (List.drop (7 + r.toNat * 4) t.cs) = (t.r.get r.toNat).cs :=
  reg_elim (P := fun r => List.take 4 (List.drop (7 + r.toNat * 4) t.cs) = (t.r.get r.toNat).cs) h rfl rfl rfl rfl rfl rfl
theorem st_set_s {t : St} {r : Int} (h : regB r = true) : t.cs.set (1 + r.toNat * 1) (.b true) = (St.mk t.live (t.s.set r.toNat true) t.r).cs :=
  reg_elim (P := fun r => t.cs.set (1 + r.toNat * 1) (.b true) = (St.mk t.live (t.s.set r.toNat true) t.r).cs) h rfl rfl rfl rfl rfl rfl
theorem st_set_r {t : St} {r : Int} (a : V4) (h : regB r = true) : splice t.cs (7 + r.toNat * 4) a.cs = (St.mk t.live t.s (t.r.set r.toNat a)).cs :=
  reg_elim (P := fun r => splice t.cs (7 + r.toNat * 4) a.cs = (St.mk t.live t.s (t.r.set r.toNat a)).cs) h rfl rfl rfl rfl rfl rfl
end Go.Proofs.YtkigmocchaikgabGreat

/- Verifying, folding and ridding, as plain functions. -/
namespace Go.Proofs.YtkigmocchaikgabGreat

structure Rep where
  trap : Int
  pos : Int
  sts : List St
def scell (l : List St) : List AC := l.flatMap St.cs
def stAt (S : List St) (k : Nat) : St := S.getD k St.z
def addS (S : List St) (k : Nat) (t : St) : List St := if t.live then S.set k ((stAt S k).join t) else S
def verL (L : List Ins) : Nat → Nat → List St → Rep
  | 0, _, S => ⟨0, 0, S⟩
  | n + 1, k, S => if (stepS (elt L k) (stAt S k)).2.2 = 0 then verL L n (k + 1) (addS (addS S (k + 1) (stepS (elt L k) (stAt S k)).1) (k + 1 + (elt L k).of.toNat) (stepS (elt L k) (stAt S k)).2.1)
    else ⟨(stepS (elt L k) (stAt S k)).2.2, k, S.take (k + 1)⟩
def firstS (n : Nat) : List St := (List.replicate n St.z).set 0 beginS
def verifyS (L : List Ins) : Rep := verL L L.length 0 (firstS L.length)
/- folding -/
/- ridding, from behind -/
/- what is live behind i, if A is what is live ahead of those behind it -/
/- the laws' program of which much is known; folded; rid of what is dead then -/
end Go.Proofs.YtkigmocchaikgabGreat

/- Ways of bodies, written by a program (ways.py): what each asks for, and hands back. -/
namespace Go.Proofs.YtkigmocchaikgabGreat
open Go.RowKit

theorem fpA_w0 {i : Ins} {t : St} (c0 : CallOK Tryz.prog (CallRec.mk 7 [AV.ag (Ins.cs i), AV.ag (St.cs t)] [] (Eff.mk (AV.tu [AT.ag (St.cs St.z), AT.ag (St.cs St.z), AT.c (AC.i 0), AT.c (AC.i 1)]) [] none))) (c1 : CallOK Tryz.prog (CallRec.mk 8 [AV.ag (Ins.cs i)] [] (Eff.mk (AV.c (AC.b false)) [] none))) (c2 : CallOK Tryz.prog (CallRec.mk 10 [] [] (Eff.mk (AV.c (AC.b true)) [] none))) :
    CallOK Tryz.prog ⟨3, [AV.ag (Ins.cs i), AV.ag (St.cs t)], [], ⟨AV.c (AC.b true), [], none⟩⟩ :=
  val_run 2000 [Eff.mk (AV.tu [AT.ag (St.cs St.z), AT.ag (St.cs St.z), AT.c (AC.i 0), AT.c (AC.i 1)]) [] none, Eff.mk (AV.c (AC.b false)) [] none, Eff.mk (AV.c (AC.b true)) [] none] [true, true, true, true, true, true] ([]) [] Tryz.func3 rfl rfl rfl rfl (by kernel_rfl) rfl (cr_cons c0 (cr_cons c1 (cr_cons c2 cr_nil)))
theorem fpB_w0 {i : Ins} {t : St} (c0 : CallOK Tryz.prog (CallRec.mk 7 [AV.ag (Ins.cs i), AV.ag (St.cs t)] [] (Eff.mk (AV.tu [AT.ag (St.cs St.z), AT.ag (St.cs St.z), AT.c (AC.i 0), AT.c (AC.i 1)]) [] none))) (c1 : CallOK Tryz.prog (CallRec.mk 8 [AV.ag (Ins.cs i)] [] (Eff.mk (AV.c (AC.b true)) [] none))) (c2 : CallOK Tryz.prog (CallRec.mk 9 [AV.ag (St.cs t)] [] (Eff.mk (AV.c (AC.i 1)) [] none))) (c3 : CallOK Tryz.prog (CallRec.mk 10 [] [] (Eff.mk (AV.c (AC.b true)) [] none))) :
    CallOK Tryz.prog ⟨3, [AV.ag (Ins.cs i), AV.ag (St.cs t)], [], ⟨AV.c (AC.b true), [], none⟩⟩ :=
  val_run 2000 [Eff.mk (AV.tu [AT.ag (St.cs St.z), AT.ag (St.cs St.z), AT.c (AC.i 0), AT.c (AC.i 1)]) [] none, Eff.mk (AV.c (AC.b true)) [] none, Eff.mk (AV.c (AC.i 1)) [] none, Eff.mk (AV.c (AC.b true)) [] none] [false, true, true, true, true, true] ([]) [] Tryz.func3 rfl rfl rfl rfl (by kernel_rfl) rfl (cr_cons c0 (cr_cons c1 (cr_cons c2 (cr_cons c3 cr_nil))))
theorem fpC_w0 {i : Ins} {t : St} {a : St} {b : St} {tr : Int} (h : (eqCs (St.cs a) (St.cs a) && (eqCs (St.cs b) (St.cs b) && true)) = true) (c0 : CallOK Tryz.prog (CallRec.mk 7 [AV.ag (Ins.cs i), AV.ag (St.cs t)] [] (Eff.mk (AV.tu [AT.ag (St.cs a), AT.ag (St.cs b), AT.c (AC.i tr), AT.c (AC.i 0)]) [] none))) (c1 : CallOK Tryz.prog (CallRec.mk 8 [AV.ag (Ins.cs i)] [] (Eff.mk (AV.c (AC.b true)) [] none))) (c2 : CallOK Tryz.prog (CallRec.mk 9 [AV.ag (St.cs t)] [] (Eff.mk (AV.c (AC.i 0)) [] none))) (c3 : CallOK Tryz.prog (CallRec.mk 11 [AV.ag (Ins.cs i), AV.ag (St.cs t)] [] (Eff.mk (AV.tu [AT.ag (St.cs a), AT.ag (St.cs b), AT.c (AC.i tr)]) [] none))) (c4 : CallOK Tryz.prog (CallRec.mk 10 [] [] (Eff.mk (AV.c (AC.b true)) [] none))) :
    CallOK Tryz.prog ⟨3, [AV.ag (Ins.cs i), AV.ag (St.cs t)], [], ⟨AV.c (AC.b (tr == tr)), [], none⟩⟩ :=
  val_run 2000 [Eff.mk (AV.tu [AT.ag (St.cs a), AT.ag (St.cs b), AT.c (AC.i tr), AT.c (AC.i 0)]) [] none, Eff.mk (AV.c (AC.b true)) [] none, Eff.mk (AV.c (AC.i 0)) [] none, Eff.mk (AV.tu [AT.ag (St.cs a), AT.ag (St.cs b), AT.c (AC.i tr)]) [] none, Eff.mk (AV.c (AC.b true)) [] none] [false, false, true, true, true, true] ([]) [] Tryz.func3 rfl rfl rfl rfl (by kernel_rfl) h (cr_cons c0 (cr_cons c1 (cr_cons c2 (cr_cons c3 (cr_cons c4 cr_nil)))))
end Go.Proofs.YtkigmocchaikgabGreat

/- Ways of bodies, written by a program (ways.py): what each asks for, and hands back. -/
namespace Go.Proofs.YtkigmocchaikgabGreat
open Go.RowKit

theorem rwith_w0 {t : St} {d : Int} {a : V4} (h : (decide (0 ≤ d) && decide (d < 6) && (Nat.ble (1 + Int.toNat d * 1 + 1) (List.length (St.cs t)) && true && (decide (0 ≤ d) && decide (d < 6) && (Nat.ble (7 + Int.toNat d * 4 + List.length (V4.cs a)) (List.length (St.cs (St.mk (St.live t) (V6.set (St.s t) (Int.toNat d) true) (St.r t)))) && true && true)))) = true) (c0 : Eff.mk (AV.raw undef) [(0, List.set (St.cs t) (1 + Int.toNat d * 1) (AC.b true))] none = Eff.mk (AV.raw undef) [(0, St.cs (St.mk (St.live t) (V6.set (St.s t) (Int.toNat d) true) (St.r t)))] none) (c1 : Eff.mk (AV.raw undef) [(0, splice (St.cs (St.mk (St.live t) (V6.set (St.s t) (Int.toNat d) true) (St.r t))) (7 + Int.toNat d * 4) (V4.cs a))] none = Eff.mk (AV.raw undef) [(0, St.cs (St.wth t (Int.toNat d) a))] none) :
    CallOK Tryz.prog ⟨45, [AV.ag (St.cs t), AV.c (AC.i d), AV.ag (V4.cs a)], [], ⟨AV.ag [AC.b (St.live t), AC.b (V6.x0 (V6.set (St.s t) (Int.toNat d) true)), AC.b (V6.x1 (V6.set (St.s t) (Int.toNat d) true)), AC.b (V6.x2 (V6.set (St.s t) (Int.toNat d) true)), AC.b (V6.x3 (V6.set (St.s t) (Int.toNat d) true)), AC.b (V6.x4 (V6.set (St.s t) (Int.toNat d) true)), AC.b (V6.x5 (V6.set (St.s t) (Int.toNat d) true)), AC.u (V4.v (V6.x0 (V6.set (St.r t) (Int.toNat d) a))), AC.u (V4.m (V6.x0 (V6.set (St.r t) (Int.toNat d) a))), AC.u (V4.l (V6.x0 (V6.set (St.r t) (Int.toNat d) a))), AC.u (V4.h (V6.x0 (V6.set (St.r t) (Int.toNat d) a))), AC.u (V4.v (V6.x1 (V6.set (St.r t) (Int.toNat d) a))), AC.u (V4.m (V6.x1 (V6.set (St.r t) (Int.toNat d) a))), AC.u (V4.l (V6.x1 (V6.set (St.r t) (Int.toNat d) a))), AC.u (V4.h (V6.x1 (V6.set (St.r t) (Int.toNat d) a))), AC.u (V4.v (V6.x2 (V6.set (St.r t) (Int.toNat d) a))), AC.u (V4.m (V6.x2 (V6.set (St.r t) (Int.toNat d) a))), AC.u (V4.l (V6.x2 (V6.set (St.r t) (Int.toNat d) a))), AC.u (V4.h (V6.x2 (V6.set (St.r t) (Int.toNat d) a))), AC.u (V4.v (V6.x3 (V6.set (St.r t) (Int.toNat d) a))), AC.u (V4.m (V6.x3 (V6.set (St.r t) (Int.toNat d) a))), AC.u (V4.l (V6.x3 (V6.set (St.r t) (Int.toNat d) a))), AC.u (V4.h (V6.x3 (V6.set (St.r t) (Int.toNat d) a))), AC.u (V4.v (V6.x4 (V6.set (St.r t) (Int.toNat d) a))), AC.u (V4.m (V6.x4 (V6.set (St.r t) (Int.toNat d) a))), AC.u (V4.l (V6.x4 (V6.set (St.r t) (Int.toNat d) a))), AC.u (V4.h (V6.x4 (V6.set (St.r t) (Int.toNat d) a))), AC.u (V4.v (V6.x5 (V6.set (St.r t) (Int.toNat d) a))), AC.u (V4.m (V6.x5 (V6.set (St.r t) (Int.toNat d) a))), AC.u (V4.l (V6.x5 (V6.set (St.r t) (Int.toNat d) a))), AC.u (V4.h (V6.x5 (V6.set (St.r t) (Int.toNat d) a)))], [], none⟩⟩ :=
  val_run 2000 [Eff.mk (AV.raw undef) [(0, St.cs (St.mk (St.live t) (V6.set (St.s t) (Int.toNat d) true) (St.r t)))] none, Eff.mk (AV.raw undef) [(0, St.cs (St.wth t (Int.toNat d) a))] none] [] ([]) [(1, 3), (2, 4)] Tryz.func45 rfl rfl rfl rfl (by kernel_rfl) h (cr_same c0 (cr_same c1 cr_nil))
theorem rleft_w0 {i : Ins} {t : St} {x : V4} {y : V4} {q : Bool} (h : (!q && true) = true) :
    CallOK Tryz.prog ⟨42, [AV.ag (Ins.cs i), AV.ag (St.cs t), AV.ag (V4.cs x), AV.ag (V4.cs y), AV.c (AC.b q)], [], ⟨AV.ag (St.cs St.z), [], none⟩⟩ :=
  val_run 2000 [] [true] ([]) [] Tryz.func42 rfl rfl rfl rfl (by kernel_rfl) h cr_nil
theorem rleft_w1 {i : Ins} {t : St} {t1 : St} {t2 : St} {x : V4} {y : V4} {q : Bool} (h : (!!q && (Ins.s i != -1 && true)) = true) (c0 : CallOK Tryz.prog (CallRec.mk 45 [AV.ag (St.cs t), AV.c (AC.i (Ins.d i)), AV.ag (V4.cs x)] [] (Eff.mk (AV.ag (St.cs t1)) [] none))) (c1 : CallOK Tryz.prog (CallRec.mk 45 [AV.ag (St.cs t1), AV.c (AC.i (Ins.s i)), AV.ag (V4.cs y)] [] (Eff.mk (AV.ag (St.cs t2)) [] none))) :
    CallOK Tryz.prog ⟨42, [AV.ag (Ins.cs i), AV.ag (St.cs t), AV.ag (V4.cs x), AV.ag (V4.cs y), AV.c (AC.b q)], [], ⟨AV.ag (St.cs t2), [], none⟩⟩ :=
  val_run 2000 [Eff.mk (AV.ag (St.cs t1)) [] none, Eff.mk (AV.ag (St.cs t2)) [] none] [false, true] ([]) [] Tryz.func42 rfl rfl rfl rfl (by kernel_rfl) h (cr_cons c0 (cr_cons c1 cr_nil))
theorem rleft_w2 {i : Ins} {t : St} {t1 : St} {x : V4} {y : V4} {q : Bool} (h : (!!q && (!Ins.s i != -1 && true)) = true) (c0 : CallOK Tryz.prog (CallRec.mk 45 [AV.ag (St.cs t), AV.c (AC.i (Ins.d i)), AV.ag (V4.cs x)] [] (Eff.mk (AV.ag (St.cs t1)) [] none))) :
    CallOK Tryz.prog ⟨42, [AV.ag (Ins.cs i), AV.ag (St.cs t), AV.ag (V4.cs x), AV.ag (V4.cs y), AV.c (AC.b q)], [], ⟨AV.ag (St.cs t1), [], none⟩⟩ :=
  val_run 2000 [Eff.mk (AV.ag (St.cs t1)) [] none] [false, false] ([]) [] Tryz.func42 rfl rfl rfl rfl (by kernel_rfl) h (cr_cons c0 cr_nil)
theorem rleft_all {i : Ins} {t : St} {t1 : St} {t2 : St} {x : V4} {y : V4} {q : Bool} {V : AV}
    (l0 : (!q) = true → (AV.ag (St.cs St.z) = V))
    (l1 : (!q) = false → (Ins.s i != -1) = true → (CallOK Tryz.prog (CallRec.mk 45 [AV.ag (St.cs t), AV.c (AC.i (Ins.d i)), AV.ag (V4.cs x)] [] (Eff.mk (AV.ag (St.cs t1)) [] none))) ∧ (CallOK Tryz.prog (CallRec.mk 45 [AV.ag (St.cs t1), AV.c (AC.i (Ins.s i)), AV.ag (V4.cs y)] [] (Eff.mk (AV.ag (St.cs t2)) [] none))) ∧ (AV.ag (St.cs t2) = V))
    (l2 : (!q) = false → (Ins.s i != -1) = false → (CallOK Tryz.prog (CallRec.mk 45 [AV.ag (St.cs t), AV.c (AC.i (Ins.d i)), AV.ag (V4.cs x)] [] (Eff.mk (AV.ag (St.cs t1)) [] none))) ∧ (AV.ag (St.cs t1) = V)) :
    CallOK Tryz.prog ⟨42, [AV.ag (Ins.cs i), AV.ag (St.cs t), AV.ag (V4.cs x), AV.ag (V4.cs y), AV.c (AC.b q)], [], ⟨V, [], none⟩⟩ :=
  (tf (!q)).elim (fun h0 => (match l0 h0 with | e => ok_eq (rleft_w0 (and_yes h0 rfl)) e)) (fun h0 => (tf (Ins.s i != -1)).elim (fun h1 => (match l1 h0 h1 with | ⟨c0, c1, e⟩ => ok_eq (rleft_w1 (and_yes (not_yes h0) (and_yes h1 rfl)) c0 c1) e)) (fun h1 => (match l2 h0 h1 with | ⟨c0, e⟩ => ok_eq (rleft_w2 (and_yes (not_yes h0) (and_yes (not_yes h1) rfl)) c0) e)))
theorem rfine_w0 {i : Ins} {f1 : Bool} {f2 : Bool} (h : (decide (1 ≤ Ins.op i) && decide (Ins.op i ≤ 15) && (f1 && true)) = true) (c0 : CallOK Tryz.prog (CallRec.mk 29 [AV.c (AC.i (Ins.op i)), AV.c (AC.i 1), AV.c (AC.i 15)] [] (Eff.mk (AV.c (AC.b (decide (1 ≤ Ins.op i) && decide (Ins.op i ≤ 15)))) [] none))) (c1 : CallOK Tryz.prog (CallRec.mk 30 [AV.ag (Ins.cs i), AV.c (AC.i 64)] [] (Eff.mk (AV.c (AC.b f1)) [] none))) (c2 : CallOK Tryz.prog (CallRec.mk 31 [AV.ag (Ins.cs i)] [] (Eff.mk (AV.c (AC.b f2)) [] none))) :
    CallOK Tryz.prog ⟨8, [AV.ag (Ins.cs i)], [], ⟨AV.c (AC.b f2), [], none⟩⟩ :=
  val_run 2000 [Eff.mk (AV.c (AC.b (decide (1 ≤ Ins.op i) && decide (Ins.op i ≤ 15)))) [] none, Eff.mk (AV.c (AC.b f1)) [] none, Eff.mk (AV.c (AC.b f2)) [] none] [true, true] ([]) [] Tryz.func8 rfl rfl rfl rfl (by kernel_rfl) h (cr_cons c0 (cr_cons c1 (cr_cons c2 cr_nil)))
theorem rfine_w1 {i : Ins} {f1 : Bool} (h : (decide (1 ≤ Ins.op i) && decide (Ins.op i ≤ 15) && (!f1 && true)) = true) (c0 : CallOK Tryz.prog (CallRec.mk 29 [AV.c (AC.i (Ins.op i)), AV.c (AC.i 1), AV.c (AC.i 15)] [] (Eff.mk (AV.c (AC.b (decide (1 ≤ Ins.op i) && decide (Ins.op i ≤ 15)))) [] none))) (c1 : CallOK Tryz.prog (CallRec.mk 30 [AV.ag (Ins.cs i), AV.c (AC.i 64)] [] (Eff.mk (AV.c (AC.b f1)) [] none))) :
    CallOK Tryz.prog ⟨8, [AV.ag (Ins.cs i)], [], ⟨AV.c (AC.b false), [], none⟩⟩ :=
  val_run 2000 [Eff.mk (AV.c (AC.b (decide (1 ≤ Ins.op i) && decide (Ins.op i ≤ 15)))) [] none, Eff.mk (AV.c (AC.b f1)) [] none] [true, false] ([]) [] Tryz.func8 rfl rfl rfl rfl (by kernel_rfl) h (cr_cons c0 (cr_cons c1 cr_nil))
theorem rfine_w2 {i : Ins} (h : (!(decide (1 ≤ Ins.op i) && decide (Ins.op i ≤ 15)) && true) = true) (c0 : CallOK Tryz.prog (CallRec.mk 29 [AV.c (AC.i (Ins.op i)), AV.c (AC.i 1), AV.c (AC.i 15)] [] (Eff.mk (AV.c (AC.b (decide (1 ≤ Ins.op i) && decide (Ins.op i ≤ 15)))) [] none))) :
    CallOK Tryz.prog ⟨8, [AV.ag (Ins.cs i)], [], ⟨AV.c (AC.b false), [], none⟩⟩ :=
  val_run 2000 [Eff.mk (AV.c (AC.b (decide (1 ≤ Ins.op i) && decide (Ins.op i ≤ 15)))) [] none] [false, false] ([]) [] Tryz.func8 rfl rfl rfl rfl (by kernel_rfl) h (cr_cons c0 cr_nil)
theorem rfine_all {i : Ins} {f1 : Bool} {f2 : Bool} {V : AV}
    (l0 : (decide (1 ≤ Ins.op i) && decide (Ins.op i ≤ 15)) = true → (f1) = true → (CallOK Tryz.prog (CallRec.mk 29 [AV.c (AC.i (Ins.op i)), AV.c (AC.i 1), AV.c (AC.i 15)] [] (Eff.mk (AV.c (AC.b (decide (1 ≤ Ins.op i) && decide (Ins.op i ≤ 15)))) [] none))) ∧ (CallOK Tryz.prog (CallRec.mk 30 [AV.ag (Ins.cs i), AV.c (AC.i 64)] [] (Eff.mk (AV.c (AC.b f1)) [] none))) ∧ (CallOK Tryz.prog (CallRec.mk 31 [AV.ag (Ins.cs i)] [] (Eff.mk (AV.c (AC.b f2)) [] none))) ∧ (AV.c (AC.b f2) = V))
    (l1 : (decide (1 ≤ Ins.op i) && decide (Ins.op i ≤ 15)) = true → (f1) = false → (CallOK Tryz.prog (CallRec.mk 29 [AV.c (AC.i (Ins.op i)), AV.c (AC.i 1), AV.c (AC.i 15)] [] (Eff.mk (AV.c (AC.b (decide (1 ≤ Ins.op i) && decide (Ins.op i ≤ 15)))) [] none))) ∧ (CallOK Tryz.prog (CallRec.mk 30 [AV.ag (Ins.cs i), AV.c (AC.i 64)] [] (Eff.mk (AV.c (AC.b f1)) [] none))) ∧ (AV.c (AC.b false) = V))
    (l2 : (decide (1 ≤ Ins.op i) && decide (Ins.op i ≤ 15)) = false → (CallOK Tryz.prog (CallRec.mk 29 [AV.c (AC.i (Ins.op i)), AV.c (AC.i 1), AV.c (AC.i 15)] [] (Eff.mk (AV.c (AC.b (decide (1 ≤ Ins.op i) && decide (Ins.op i ≤ 15)))) [] none))) ∧ (AV.c (AC.b false) = V)) :
    CallOK Tryz.prog ⟨8, [AV.ag (Ins.cs i)], [], ⟨V, [], none⟩⟩ :=
  (tf (decide (1 ≤ Ins.op i) && decide (Ins.op i ≤ 15))).elim (fun h0 => (tf (f1)).elim (fun h1 => (match l0 h0 h1 with | ⟨c0, c1, c2, e⟩ => ok_eq (rfine_w0 (and_yes h0 (and_yes h1 rfl)) c0 c1 c2) e)) (fun h1 => (match l1 h0 h1 with | ⟨c0, c1, e⟩ => ok_eq (rfine_w1 (and_yes h0 (and_yes (not_yes h1) rfl)) c0 c1) e))) (fun h0 => (match l2 h0 with | ⟨c0, e⟩ => ok_eq (rfine_w2 (and_yes (not_yes h0) rfl) c0) e))
theorem ssTop_w0 {i : Ins} {t : St} {w : World} {β : Bs} {n : Nat} (h : (!St.live t && true) = true) :
    ART Tryz.prog 11 (cx w β n []) Tryz.f11.ntmps ([Item.code (bodyOf Tryz.f11)]) (Kn.start [AV.ag (Ins.cs i), AV.ag (St.cs t)] [] 0) (REff w β ⟨AV.tu [AT.ag (St.cs St.z), AT.ag (St.cs St.z), AT.c (AC.i 0)], [], none⟩) :=
  run_eff [] (none) 2000 [] [true] ([true]) [] Tryz.func11 (ekeys0 rfl n) (by kernel_rfl) h cr_nil
theorem ssTop_w1 {i : Ins} {t : St} {q : Nat} {U : List AC} {C : Cx} {R : Ending → World → Prop} (h : (!!St.live t && true) = true) (c0 : CallOK Tryz.prog (CallRec.mk 36 [AV.ag (Ins.cs i)] [] (Eff.mk (AV.c (AC.sx 9 q)) [] (some (9, Ent.mk true U 1))))) (lo : Kn.Low ⟨[(2, AV.c (AC.w 0)), (3, AV.c (AC.w 1)), (4, AV.c (AC.w 2)), (5, AV.c (AC.w 3)), (7, AV.c (AC.sx 9 q)), (8, AV.c (AC.i 0))], [(0, Ent.mk true (Ins.cs i) 0), (1, Ent.mk true (St.cs t) 0), (2, Ent.mk true (St.cs St.z) 0), (3, Ent.mk true (St.cs St.z) 0), (9, Ent.mk true U 1)], 10⟩) (hF : ∀ k, C.F k → k < 10) (z : ART Tryz.prog 11 C Tryz.f11.ntmps (cutAt Tryz.f11 0) ⟨[(2, AV.c (AC.w 0)), (3, AV.c (AC.w 1)), (4, AV.c (AC.w 2)), (5, AV.c (AC.w 3)), (7, AV.c (AC.sx 9 q)), (8, AV.c (AC.i 0))], [(0, Ent.mk true (Ins.cs i) 0), (1, Ent.mk true (St.cs t) 0), (2, Ent.mk true (St.cs St.z) 0), (3, Ent.mk true (St.cs St.z) 0), (9, Ent.mk true U 1)], 10⟩ R) :
    ART Tryz.prog 11 C Tryz.f11.ntmps ([Item.code (bodyOf Tryz.f11)]) (Kn.start [AV.ag (Ins.cs i), AV.ag (St.cs t)] [] 0) R :=
  run_cut ⟨[(2, AV.c (AC.w 0)), (3, AV.c (AC.w 1)), (4, AV.c (AC.w 2)), (5, AV.c (AC.w 3)), (7, AV.c (AC.sx 9 q)), (8, AV.c (AC.i 0))], [(0, Ent.mk true (Ins.cs i) 0), (1, Ent.mk true (St.cs t) 0), (2, Ent.mk true (St.cs St.z) 0), (3, Ent.mk true (St.cs St.z) 0), (9, Ent.mk true U 1)], 10⟩ 2000 [Eff.mk (AV.c (AC.sx 9 q)) [] (some (9, Ent.mk true U 1))] [false] ([true]) [] Tryz.func11 (by kernel_rfl) h (cr_cons c0 cr_nil) lo hF z
theorem ssRound_w0 {i : Ins} {t : St} {q : Nat} {k : Nat} {U : List AC} {d : Int} {w : World} {β : Bs} {n : Nat} (h : (decide ((↑k : Int) < (↑q : Int)) && (decide ((↑k : Int) < (↑q : Int)) && (AC.isI (Option.getD U[Int.toNat (↑k : Int) * 1]? (AC.b false)) && Nat.blt (Int.toNat (↑k : Int) * 1) (List.length U) && (decide (0 ≤ d) && decide (d < 6) && (AC.isB (Option.getD (St.cs t)[1 + Int.toNat d * 1]? (AC.b false)) && Nat.blt (1 + Int.toNat d * 1) (List.length (St.cs t)) && (!V6.get (St.s t) (Int.toNat d) && true)))))) = true) (c0 : Eff.mk (AV.c (AC.i (AC.asI (Option.getD U[Int.toNat (↑k : Int) * 1]? (AC.b false))))) [] none = Eff.mk (AV.c (AC.i d)) [] none) (c1 : Eff.mk (AV.c (AC.b (AC.asB (Option.getD (St.cs t)[1 + Int.toNat d * 1]? (AC.b false))))) [] none = Eff.mk (AV.c (AC.b (V6.get (St.s t) (Int.toNat d)))) [] none) :
    ART Tryz.prog 11 (cx w β n []) Tryz.f11.ntmps (cutAt Tryz.f11 0) (Kn.mk [(2, AV.c (AC.w 0)), (3, AV.c (AC.w 1)), (4, AV.c (AC.w 2)), (5, AV.c (AC.w 3)), (7, AV.c (AC.sx 9 q)), (8, AV.c (AC.i (↑k : Int)))] [(0, Ent.mk true (Ins.cs i) 0), (1, Ent.mk true (St.cs t) 0), (2, Ent.mk true (St.cs St.z) 0), (3, Ent.mk true (St.cs St.z) 0), (9, Ent.mk true U 1)] 10) (REff w β ⟨AV.tu [AT.ag (St.cs St.z), AT.ag (St.cs St.z), AT.c (AC.i 1)], [], none⟩) :=
  run_eff [] (none) 2000 [Eff.mk (AV.c (AC.i d)) [] none, Eff.mk (AV.c (AC.b (V6.get (St.s t) (Int.toNat d)))) [] none] [true, true] ([true]) [(7, 3), (7, 6), (6, 1)] Tryz.func11 (ekeys0 rfl n) (by kernel_rfl) h (cr_same c0 (cr_same c1 cr_nil))
theorem ssRound_w1 {i : Ins} {t : St} {q : Nat} {k : Nat} {U : List AC} {d : Int} {C : Cx} {R : Ending → World → Prop} (h : (decide ((↑k : Int) < (↑q : Int)) && (decide ((↑k : Int) < (↑q : Int)) && (AC.isI (Option.getD U[Int.toNat (↑k : Int) * 1]? (AC.b false)) && Nat.blt (Int.toNat (↑k : Int) * 1) (List.length U) && (decide (0 ≤ d) && decide (d < 6) && (AC.isB (Option.getD (St.cs t)[1 + Int.toNat d * 1]? (AC.b false)) && Nat.blt (1 + Int.toNat d * 1) (List.length (St.cs t)) && (!!V6.get (St.s t) (Int.toNat d) && true)))))) = true) (c0 : Eff.mk (AV.c (AC.i (AC.asI (Option.getD U[Int.toNat (↑k : Int) * 1]? (AC.b false))))) [] none = Eff.mk (AV.c (AC.i d)) [] none) (c1 : Eff.mk (AV.c (AC.b (AC.asB (Option.getD (St.cs t)[1 + Int.toNat d * 1]? (AC.b false))))) [] none = Eff.mk (AV.c (AC.b (V6.get (St.s t) (Int.toNat d)))) [] none) (c2 : Eff.mk (AV.c (AC.i (IntKind.wrap IntKind.i64 ((↑k : Int) + 1)))) [] none = Eff.mk (AV.c (AC.i (↑(k + 1) : Int))) [] none) (lo : Kn.Low ⟨[(2, AV.c (AC.w 0)), (3, AV.c (AC.w 1)), (4, AV.c (AC.w 2)), (5, AV.c (AC.w 3)), (7, AV.c (AC.sx 9 q)), (8, AV.c (AC.i (↑(k + 1) : Int)))], [(0, Ent.mk true (Ins.cs i) 0), (1, Ent.mk true (St.cs t) 0), (2, Ent.mk true (St.cs St.z) 0), (3, Ent.mk true (St.cs St.z) 0), (9, Ent.mk true U 1)], 10⟩) (hF : ∀ k, C.F k → k < 10) (z : ART Tryz.prog 11 C Tryz.f11.ntmps (cutAt Tryz.f11 0) ⟨[(2, AV.c (AC.w 0)), (3, AV.c (AC.w 1)), (4, AV.c (AC.w 2)), (5, AV.c (AC.w 3)), (7, AV.c (AC.sx 9 q)), (8, AV.c (AC.i (↑(k + 1) : Int)))], [(0, Ent.mk true (Ins.cs i) 0), (1, Ent.mk true (St.cs t) 0), (2, Ent.mk true (St.cs St.z) 0), (3, Ent.mk true (St.cs St.z) 0), (9, Ent.mk true U 1)], 10⟩ R) :
    ART Tryz.prog 11 C Tryz.f11.ntmps (cutAt Tryz.f11 0) (Kn.mk [(2, AV.c (AC.w 0)), (3, AV.c (AC.w 1)), (4, AV.c (AC.w 2)), (5, AV.c (AC.w 3)), (7, AV.c (AC.sx 9 q)), (8, AV.c (AC.i (↑k : Int)))] [(0, Ent.mk true (Ins.cs i) 0), (1, Ent.mk true (St.cs t) 0), (2, Ent.mk true (St.cs St.z) 0), (3, Ent.mk true (St.cs St.z) 0), (9, Ent.mk true U 1)] 10) R :=
  run_cut ⟨[(2, AV.c (AC.w 0)), (3, AV.c (AC.w 1)), (4, AV.c (AC.w 2)), (5, AV.c (AC.w 3)), (7, AV.c (AC.sx 9 q)), (8, AV.c (AC.i (↑(k + 1) : Int)))], [(0, Ent.mk true (Ins.cs i) 0), (1, Ent.mk true (St.cs t) 0), (2, Ent.mk true (St.cs St.z) 0), (3, Ent.mk true (St.cs St.z) 0), (9, Ent.mk true U 1)], 10⟩ 2000 [Eff.mk (AV.c (AC.i d)) [] none, Eff.mk (AV.c (AC.b (V6.get (St.s t) (Int.toNat d)))) [] none, Eff.mk (AV.c (AC.i (↑(k + 1) : Int))) [] none] [true, false] ([true]) [(7, 3), (7, 6), (6, 1)] Tryz.func11 (by kernel_rfl) h (cr_same c0 (cr_same c1 (cr_same c2 cr_nil))) lo hF z
theorem ssRound_all {i : Ins} {t : St} {q : Nat} {k : Nat} {U : List AC} {d : Int} {w : World} {β : Bs} {n : Nat} {E : Eff} (hn : n ≤ 10)
    (l0 : (!V6.get (St.s t) (Int.toNat d)) = true → (decide ((↑k : Int) < (↑q : Int))) = true ∧ (decide ((↑k : Int) < (↑q : Int))) = true ∧ (AC.isI (Option.getD U[Int.toNat (↑k : Int) * 1]? (AC.b false)) && Nat.blt (Int.toNat (↑k : Int) * 1) (List.length U)) = true ∧ (decide (0 ≤ d) && decide (d < 6)) = true ∧ (AC.isB (Option.getD (St.cs t)[1 + Int.toNat d * 1]? (AC.b false)) && Nat.blt (1 + Int.toNat d * 1) (List.length (St.cs t))) = true ∧ (Eff.mk (AV.c (AC.i (AC.asI (Option.getD U[Int.toNat (↑k : Int) * 1]? (AC.b false))))) [] none = Eff.mk (AV.c (AC.i d)) [] none) ∧ (Eff.mk (AV.c (AC.b (AC.asB (Option.getD (St.cs t)[1 + Int.toNat d * 1]? (AC.b false))))) [] none = Eff.mk (AV.c (AC.b (V6.get (St.s t) (Int.toNat d)))) [] none) ∧ ((⟨AV.tu [AT.ag (St.cs St.z), AT.ag (St.cs St.z), AT.c (AC.i 1)], [], none⟩ : Eff) = E))
    (l1 : (!V6.get (St.s t) (Int.toNat d)) = false → (decide ((↑k : Int) < (↑q : Int))) = true ∧ (decide ((↑k : Int) < (↑q : Int))) = true ∧ (AC.isI (Option.getD U[Int.toNat (↑k : Int) * 1]? (AC.b false)) && Nat.blt (Int.toNat (↑k : Int) * 1) (List.length U)) = true ∧ (decide (0 ≤ d) && decide (d < 6)) = true ∧ (AC.isB (Option.getD (St.cs t)[1 + Int.toNat d * 1]? (AC.b false)) && Nat.blt (1 + Int.toNat d * 1) (List.length (St.cs t))) = true ∧ (Eff.mk (AV.c (AC.i (AC.asI (Option.getD U[Int.toNat (↑k : Int) * 1]? (AC.b false))))) [] none = Eff.mk (AV.c (AC.i d)) [] none) ∧ (Eff.mk (AV.c (AC.b (AC.asB (Option.getD (St.cs t)[1 + Int.toNat d * 1]? (AC.b false))))) [] none = Eff.mk (AV.c (AC.b (V6.get (St.s t) (Int.toNat d)))) [] none) ∧ (Eff.mk (AV.c (AC.i (IntKind.wrap IntKind.i64 ((↑k : Int) + 1)))) [] none = Eff.mk (AV.c (AC.i (↑(k + 1) : Int))) [] none) ∧ Kn.Low ⟨[(2, AV.c (AC.w 0)), (3, AV.c (AC.w 1)), (4, AV.c (AC.w 2)), (5, AV.c (AC.w 3)), (7, AV.c (AC.sx 9 q)), (8, AV.c (AC.i (↑(k + 1) : Int)))], [(0, Ent.mk true (Ins.cs i) 0), (1, Ent.mk true (St.cs t) 0), (2, Ent.mk true (St.cs St.z) 0), (3, Ent.mk true (St.cs St.z) 0), (9, Ent.mk true U 1)], 10⟩ ∧ ART Tryz.prog 11 (cx w β n []) Tryz.f11.ntmps (cutAt Tryz.f11 0) ⟨[(2, AV.c (AC.w 0)), (3, AV.c (AC.w 1)), (4, AV.c (AC.w 2)), (5, AV.c (AC.w 3)), (7, AV.c (AC.sx 9 q)), (8, AV.c (AC.i (↑(k + 1) : Int)))], [(0, Ent.mk true (Ins.cs i) 0), (1, Ent.mk true (St.cs t) 0), (2, Ent.mk true (St.cs St.z) 0), (3, Ent.mk true (St.cs St.z) 0), (9, Ent.mk true U 1)], 10⟩ (REff w β E)) :
    ART Tryz.prog 11 (cx w β n []) Tryz.f11.ntmps (cutAt Tryz.f11 0) (Kn.mk [(2, AV.c (AC.w 0)), (3, AV.c (AC.w 1)), (4, AV.c (AC.w 2)), (5, AV.c (AC.w 3)), (7, AV.c (AC.sx 9 q)), (8, AV.c (AC.i (↑k : Int)))] [(0, Ent.mk true (Ins.cs i) 0), (1, Ent.mk true (St.cs t) 0), (2, Ent.mk true (St.cs St.z) 0), (3, Ent.mk true (St.cs St.z) 0), (9, Ent.mk true U 1)] 10) (REff w β E) :=
  (tf (!V6.get (St.s t) (Int.toNat d))).elim (fun h0 => (match l0 h0 with | ⟨o0, o1, o2, o3, o4, c0, c1, e⟩ => art_eq (ssRound_w0 (and_yes o0 (and_yes o1 (and_yes o2 (and_yes o3 (and_yes o4 (and_yes h0 rfl)))))) c0 c1) e)) (fun h0 => (match l1 h0 with | ⟨o0, o1, o2, o3, o4, c0, c1, c2, lo, z⟩ => ssRound_w1 (and_yes o0 (and_yes o1 (and_yes o2 (and_yes o3 (and_yes o4 (and_yes (not_yes h0) rfl)))))) c0 c1 c2 lo (fun _ hk => Nat.lt_of_lt_of_le hk hn) z))
theorem ssX1_w0 {i : Ins} {t : St} {q : Nat} {k : Nat} {U : List AC} {a : V4} {w : World} {β : Bs} {n : Nat} (h : (!decide ((↑k : Int) < (↑q : Int)) && (Ins.s i != -1 && (decide (0 ≤ Ins.s i) && decide (Ins.s i < 6) && (Nat.ble (7 + Int.toNat (Ins.s i) * 4 + 4) (List.length (St.cs t)) && (decide (0 ≤ Ins.d i) && decide (Ins.d i < 6) && (Nat.ble (7 + Int.toNat (Ins.d i) * 4 + 4) (List.length (St.cs t)) && (!Ins.op i == 10 && (decide (0 ≤ Ins.d i) && decide (Ins.d i < 6) && (Nat.ble (7 + Int.toNat (Ins.d i) * 4 + 4) (List.length (St.cs t)) && (Ins.op i == 15 && true)))))))))) = true) (c0 : CallOK Tryz.prog (CallRec.mk 37 [AV.c (AC.u (Ins.im i))] [] (Eff.mk (AV.ag (V4.cs a)) [] none))) (c1 : Eff.mk (AV.ag (List.take 4 (List.drop (7 + Int.toNat (Ins.s i) * 4) (St.cs t)))) [] none = Eff.mk (AV.ag (V4.cs (V6.get (St.r t) (Int.toNat (Ins.s i))))) [] none) (c2 : Eff.mk (AV.ag (List.take 4 (List.drop (7 + Int.toNat (Ins.d i) * 4) (St.cs t)))) [] none = Eff.mk (AV.ag (V4.cs (V6.get (St.r t) (Int.toNat (Ins.d i))))) [] none) (c3 : CallOK Tryz.prog (CallRec.mk 38 [AV.c (AC.i (Ins.op i))] [] (Eff.mk (AV.c (AC.b false)) [] none))) (c4 : Eff.mk (AV.ag (List.take 4 (List.drop (7 + Int.toNat (Ins.d i) * 4) (St.cs t)))) [] none = Eff.mk (AV.ag (V4.cs (V6.get (St.r t) (Int.toNat (Ins.d i))))) [] none) :
    ART Tryz.prog 11 (cx w β n []) Tryz.f11.ntmps (cutAt Tryz.f11 0) (Kn.mk [(2, AV.c (AC.w 0)), (3, AV.c (AC.w 1)), (4, AV.c (AC.w 2)), (5, AV.c (AC.w 3)), (7, AV.c (AC.sx 9 q)), (8, AV.c (AC.i (↑k : Int)))] [(0, Ent.mk true (Ins.cs i) 0), (1, Ent.mk true (St.cs t) 0), (2, Ent.mk true (St.cs St.z) 0), (3, Ent.mk true (St.cs St.z) 0), (9, Ent.mk true U 1)] 10) (REff w β ⟨AV.tu [AT.ag (St.cs St.z), AT.ag (St.cs St.z), AT.c (AC.i 0)], [], none⟩) :=
  run_eff [] (none) 2000 [Eff.mk (AV.ag (V4.cs a)) [] none, Eff.mk (AV.ag (V4.cs (V6.get (St.r t) (Int.toNat (Ins.s i))))) [] none, Eff.mk (AV.ag (V4.cs (V6.get (St.r t) (Int.toNat (Ins.d i))))) [] none, Eff.mk (AV.c (AC.b false)) [] none, Eff.mk (AV.ag (V4.cs (V6.get (St.r t) (Int.toNat (Ins.d i))))) [] none] [false, true, false, false, false, true] ([true]) [(11, 4), (12, 4), (17, 4)] Tryz.func11 (ekeys0 rfl n) (by kernel_rfl) h (cr_cons c0 (cr_same c1 (cr_same c2 (cr_cons c3 (cr_same c4 cr_nil)))))
theorem ssEq0_w0 {i : Ins} {t : St} {t1 : St} {t2 : St} {q : Nat} {k : Nat} {U : List AC} {a : V4} {x : V4} {y : V4} {x1 : V4} {y1 : V4} {p1 : Bool} {p2 : Bool} {w : World} {β : Bs} {n : Nat} (h : (!decide ((↑k : Int) < (↑q : Int)) && (!Ins.s i != -1 && (decide (0 ≤ Ins.d i) && decide (Ins.d i < 6) && (Nat.ble (7 + Int.toNat (Ins.d i) * 4 + 4) (List.length (St.cs t)) && (!Ins.op i == 10 && (decide (0 ≤ Ins.d i) && decide (Ins.d i < 6) && (Nat.ble (7 + Int.toNat (Ins.d i) * 4 + 4) (List.length (St.cs t)) && (!Ins.op i == 15 && (!Ins.op i == 12 && (Ins.op i == 13 && true)))))))))) = true) (c0 : CallOK Tryz.prog (CallRec.mk 37 [AV.c (AC.u (Ins.im i))] [] (Eff.mk (AV.ag (V4.cs a)) [] none))) (c1 : Eff.mk (AV.ag (List.take 4 (List.drop (7 + Int.toNat (Ins.d i) * 4) (St.cs t)))) [] none = Eff.mk (AV.ag (V4.cs (V6.get (St.r t) (Int.toNat (Ins.d i))))) [] none) (c2 : CallOK Tryz.prog (CallRec.mk 38 [AV.c (AC.i (Ins.op i))] [] (Eff.mk (AV.c (AC.b false)) [] none))) (c3 : Eff.mk (AV.ag (List.take 4 (List.drop (7 + Int.toNat (Ins.d i) * 4) (St.cs t)))) [] none = Eff.mk (AV.ag (V4.cs (V6.get (St.r t) (Int.toNat (Ins.d i))))) [] none) (c4 : CallOK Tryz.prog (CallRec.mk 40 [AV.ag (V4.cs (V6.get (St.r t) (Int.toNat (Ins.d i)))), AV.ag (V4.cs a)] [] (Eff.mk (AV.tu [AT.ag (V4.cs x), AT.ag (V4.cs y), AT.c (AC.b p1)]) [] none))) (c5 : CallOK Tryz.prog (CallRec.mk 41 [AV.ag (V4.cs (V6.get (St.r t) (Int.toNat (Ins.d i)))), AV.ag (V4.cs a)] [] (Eff.mk (AV.tu [AT.ag (V4.cs x1), AT.ag (V4.cs y1), AT.c (AC.b p2)]) [] none))) (c6 : CallOK Tryz.prog (CallRec.mk 42 [AV.ag (Ins.cs i), AV.ag (St.cs t), AV.ag (V4.cs x), AV.ag (V4.cs y), AV.c (AC.b p1)] [] (Eff.mk (AV.ag (St.cs t1)) [] none))) (c7 : CallOK Tryz.prog (CallRec.mk 42 [AV.ag (Ins.cs i), AV.ag (St.cs t), AV.ag (V4.cs x1), AV.ag (V4.cs y1), AV.c (AC.b p2)] [] (Eff.mk (AV.ag (St.cs t2)) [] none))) :
    ART Tryz.prog 11 (cx w β n []) Tryz.f11.ntmps (cutAt Tryz.f11 0) (Kn.mk [(2, AV.c (AC.w 0)), (3, AV.c (AC.w 1)), (4, AV.c (AC.w 2)), (5, AV.c (AC.w 3)), (7, AV.c (AC.sx 9 q)), (8, AV.c (AC.i (↑k : Int)))] [(0, Ent.mk true (Ins.cs i) 0), (1, Ent.mk true (St.cs t) 0), (2, Ent.mk true (St.cs St.z) 0), (3, Ent.mk true (St.cs St.z) 0), (9, Ent.mk true U 1)] 10) (REff w β ⟨AV.tu [AT.ag (St.cs t1), AT.ag (St.cs t2), AT.c (AC.i 0)], [], none⟩) :=
  run_eff [] (none) 2000 [Eff.mk (AV.ag (V4.cs a)) [] none, Eff.mk (AV.ag (V4.cs (V6.get (St.r t) (Int.toNat (Ins.d i))))) [] none, Eff.mk (AV.c (AC.b false)) [] none, Eff.mk (AV.ag (V4.cs (V6.get (St.r t) (Int.toNat (Ins.d i))))) [] none, Eff.mk (AV.tu [AT.ag (V4.cs x), AT.ag (V4.cs y), AT.c (AC.b p1)]) [] none, Eff.mk (AV.tu [AT.ag (V4.cs x1), AT.ag (V4.cs y1), AT.c (AC.b p2)]) [] none, Eff.mk (AV.ag (St.cs t1)) [] none, Eff.mk (AV.ag (St.cs t2)) [] none] [false, false, false, false, false, false, false, true] ([true]) [(11, 4), (12, 4), (17, 4)] Tryz.func11 (ekeys0 rfl n) (by kernel_rfl) h (cr_cons c0 (cr_same c1 (cr_cons c2 (cr_same c3 (cr_cons c4 (cr_cons c5 (cr_cons c6 (cr_cons c7 cr_nil))))))))
theorem ssEq1_w0 {i : Ins} {t : St} {t1 : St} {t2 : St} {q : Nat} {k : Nat} {U : List AC} {a : V4} {x : V4} {y : V4} {x1 : V4} {y1 : V4} {p1 : Bool} {p2 : Bool} {w : World} {β : Bs} {n : Nat} (h : (!decide ((↑k : Int) < (↑q : Int)) && (Ins.s i != -1 && (decide (0 ≤ Ins.s i) && decide (Ins.s i < 6) && (Nat.ble (7 + Int.toNat (Ins.s i) * 4 + 4) (List.length (St.cs t)) && (decide (0 ≤ Ins.d i) && decide (Ins.d i < 6) && (Nat.ble (7 + Int.toNat (Ins.d i) * 4 + 4) (List.length (St.cs t)) && (!Ins.op i == 10 && (decide (0 ≤ Ins.d i) && decide (Ins.d i < 6) && (Nat.ble (7 + Int.toNat (Ins.d i) * 4 + 4) (List.length (St.cs t)) && (!Ins.op i == 15 && (!Ins.op i == 12 && (Ins.op i == 13 && true)))))))))))) = true) (c0 : CallOK Tryz.prog (CallRec.mk 37 [AV.c (AC.u (Ins.im i))] [] (Eff.mk (AV.ag (V4.cs a)) [] none))) (c1 : Eff.mk (AV.ag (List.take 4 (List.drop (7 + Int.toNat (Ins.s i) * 4) (St.cs t)))) [] none = Eff.mk (AV.ag (V4.cs (V6.get (St.r t) (Int.toNat (Ins.s i))))) [] none) (c2 : Eff.mk (AV.ag (List.take 4 (List.drop (7 + Int.toNat (Ins.d i) * 4) (St.cs t)))) [] none = Eff.mk (AV.ag (V4.cs (V6.get (St.r t) (Int.toNat (Ins.d i))))) [] none) (c3 : CallOK Tryz.prog (CallRec.mk 38 [AV.c (AC.i (Ins.op i))] [] (Eff.mk (AV.c (AC.b false)) [] none))) (c4 : Eff.mk (AV.ag (List.take 4 (List.drop (7 + Int.toNat (Ins.d i) * 4) (St.cs t)))) [] none = Eff.mk (AV.ag (V4.cs (V6.get (St.r t) (Int.toNat (Ins.d i))))) [] none) (c5 : CallOK Tryz.prog (CallRec.mk 40 [AV.ag (V4.cs (V6.get (St.r t) (Int.toNat (Ins.d i)))), AV.ag (V4.cs (V6.get (St.r t) (Int.toNat (Ins.s i))))] [] (Eff.mk (AV.tu [AT.ag (V4.cs x), AT.ag (V4.cs y), AT.c (AC.b p1)]) [] none))) (c6 : CallOK Tryz.prog (CallRec.mk 41 [AV.ag (V4.cs (V6.get (St.r t) (Int.toNat (Ins.d i)))), AV.ag (V4.cs (V6.get (St.r t) (Int.toNat (Ins.s i))))] [] (Eff.mk (AV.tu [AT.ag (V4.cs x1), AT.ag (V4.cs y1), AT.c (AC.b p2)]) [] none))) (c7 : CallOK Tryz.prog (CallRec.mk 42 [AV.ag (Ins.cs i), AV.ag (St.cs t), AV.ag (V4.cs x), AV.ag (V4.cs y), AV.c (AC.b p1)] [] (Eff.mk (AV.ag (St.cs t1)) [] none))) (c8 : CallOK Tryz.prog (CallRec.mk 42 [AV.ag (Ins.cs i), AV.ag (St.cs t), AV.ag (V4.cs x1), AV.ag (V4.cs y1), AV.c (AC.b p2)] [] (Eff.mk (AV.ag (St.cs t2)) [] none))) :
    ART Tryz.prog 11 (cx w β n []) Tryz.f11.ntmps (cutAt Tryz.f11 0) (Kn.mk [(2, AV.c (AC.w 0)), (3, AV.c (AC.w 1)), (4, AV.c (AC.w 2)), (5, AV.c (AC.w 3)), (7, AV.c (AC.sx 9 q)), (8, AV.c (AC.i (↑k : Int)))] [(0, Ent.mk true (Ins.cs i) 0), (1, Ent.mk true (St.cs t) 0), (2, Ent.mk true (St.cs St.z) 0), (3, Ent.mk true (St.cs St.z) 0), (9, Ent.mk true U 1)] 10) (REff w β ⟨AV.tu [AT.ag (St.cs t1), AT.ag (St.cs t2), AT.c (AC.i 0)], [], none⟩) :=
  run_eff [] (none) 2000 [Eff.mk (AV.ag (V4.cs a)) [] none, Eff.mk (AV.ag (V4.cs (V6.get (St.r t) (Int.toNat (Ins.s i))))) [] none, Eff.mk (AV.ag (V4.cs (V6.get (St.r t) (Int.toNat (Ins.d i))))) [] none, Eff.mk (AV.c (AC.b false)) [] none, Eff.mk (AV.ag (V4.cs (V6.get (St.r t) (Int.toNat (Ins.d i))))) [] none, Eff.mk (AV.tu [AT.ag (V4.cs x), AT.ag (V4.cs y), AT.c (AC.b p1)]) [] none, Eff.mk (AV.tu [AT.ag (V4.cs x1), AT.ag (V4.cs y1), AT.c (AC.b p2)]) [] none, Eff.mk (AV.ag (St.cs t1)) [] none, Eff.mk (AV.ag (St.cs t2)) [] none] [false, true, false, false, false, false, false, true] ([true]) [(11, 4), (12, 4), (17, 4)] Tryz.func11 (ekeys0 rfl n) (by kernel_rfl) h (cr_cons c0 (cr_same c1 (cr_same c2 (cr_cons c3 (cr_same c4 (cr_cons c5 (cr_cons c6 (cr_cons c7 (cr_cons c8 cr_nil)))))))))
theorem ssLt0_w0 {i : Ins} {t : St} {t1 : St} {t2 : St} {q : Nat} {k : Nat} {U : List AC} {a : V4} {x : V4} {y : V4} {x1 : V4} {y1 : V4} {p1 : Bool} {p2 : Bool} {w : World} {β : Bs} {n : Nat} (h : (!decide ((↑k : Int) < (↑q : Int)) && (!Ins.s i != -1 && (decide (0 ≤ Ins.d i) && decide (Ins.d i < 6) && (Nat.ble (7 + Int.toNat (Ins.d i) * 4 + 4) (List.length (St.cs t)) && (!Ins.op i == 10 && (decide (0 ≤ Ins.d i) && decide (Ins.d i < 6) && (Nat.ble (7 + Int.toNat (Ins.d i) * 4 + 4) (List.length (St.cs t)) && (!Ins.op i == 15 && (!Ins.op i == 12 && (!Ins.op i == 13 && (Ins.op i == 14 && true))))))))))) = true) (c0 : CallOK Tryz.prog (CallRec.mk 37 [AV.c (AC.u (Ins.im i))] [] (Eff.mk (AV.ag (V4.cs a)) [] none))) (c1 : Eff.mk (AV.ag (List.take 4 (List.drop (7 + Int.toNat (Ins.d i) * 4) (St.cs t)))) [] none = Eff.mk (AV.ag (V4.cs (V6.get (St.r t) (Int.toNat (Ins.d i))))) [] none) (c2 : CallOK Tryz.prog (CallRec.mk 38 [AV.c (AC.i (Ins.op i))] [] (Eff.mk (AV.c (AC.b false)) [] none))) (c3 : Eff.mk (AV.ag (List.take 4 (List.drop (7 + Int.toNat (Ins.d i) * 4) (St.cs t)))) [] none = Eff.mk (AV.ag (V4.cs (V6.get (St.r t) (Int.toNat (Ins.d i))))) [] none) (c4 : CallOK Tryz.prog (CallRec.mk 43 [AV.ag (V4.cs (V6.get (St.r t) (Int.toNat (Ins.d i)))), AV.ag (V4.cs a)] [] (Eff.mk (AV.tu [AT.ag (V4.cs x), AT.ag (V4.cs y), AT.c (AC.b p1)]) [] none))) (c5 : CallOK Tryz.prog (CallRec.mk 44 [AV.ag (V4.cs (V6.get (St.r t) (Int.toNat (Ins.d i)))), AV.ag (V4.cs a)] [] (Eff.mk (AV.tu [AT.ag (V4.cs x1), AT.ag (V4.cs y1), AT.c (AC.b p2)]) [] none))) (c6 : CallOK Tryz.prog (CallRec.mk 42 [AV.ag (Ins.cs i), AV.ag (St.cs t), AV.ag (V4.cs x), AV.ag (V4.cs y), AV.c (AC.b p1)] [] (Eff.mk (AV.ag (St.cs t1)) [] none))) (c7 : CallOK Tryz.prog (CallRec.mk 42 [AV.ag (Ins.cs i), AV.ag (St.cs t), AV.ag (V4.cs x1), AV.ag (V4.cs y1), AV.c (AC.b p2)] [] (Eff.mk (AV.ag (St.cs t2)) [] none))) :
    ART Tryz.prog 11 (cx w β n []) Tryz.f11.ntmps (cutAt Tryz.f11 0) (Kn.mk [(2, AV.c (AC.w 0)), (3, AV.c (AC.w 1)), (4, AV.c (AC.w 2)), (5, AV.c (AC.w 3)), (7, AV.c (AC.sx 9 q)), (8, AV.c (AC.i (↑k : Int)))] [(0, Ent.mk true (Ins.cs i) 0), (1, Ent.mk true (St.cs t) 0), (2, Ent.mk true (St.cs St.z) 0), (3, Ent.mk true (St.cs St.z) 0), (9, Ent.mk true U 1)] 10) (REff w β ⟨AV.tu [AT.ag (St.cs t1), AT.ag (St.cs t2), AT.c (AC.i 0)], [], none⟩) :=
  run_eff [] (none) 2000 [Eff.mk (AV.ag (V4.cs a)) [] none, Eff.mk (AV.ag (V4.cs (V6.get (St.r t) (Int.toNat (Ins.d i))))) [] none, Eff.mk (AV.c (AC.b false)) [] none, Eff.mk (AV.ag (V4.cs (V6.get (St.r t) (Int.toNat (Ins.d i))))) [] none, Eff.mk (AV.tu [AT.ag (V4.cs x), AT.ag (V4.cs y), AT.c (AC.b p1)]) [] none, Eff.mk (AV.tu [AT.ag (V4.cs x1), AT.ag (V4.cs y1), AT.c (AC.b p2)]) [] none, Eff.mk (AV.ag (St.cs t1)) [] none, Eff.mk (AV.ag (St.cs t2)) [] none] [false, false, false, false, false, false, false, false, true] ([true]) [(11, 4), (12, 4), (17, 4)] Tryz.func11 (ekeys0 rfl n) (by kernel_rfl) h (cr_cons c0 (cr_same c1 (cr_cons c2 (cr_same c3 (cr_cons c4 (cr_cons c5 (cr_cons c6 (cr_cons c7 cr_nil))))))))
theorem ssLt1_w0 {i : Ins} {t : St} {t1 : St} {t2 : St} {q : Nat} {k : Nat} {U : List AC} {a : V4} {x : V4} {y : V4} {x1 : V4} {y1 : V4} {p1 : Bool} {p2 : Bool} {w : World} {β : Bs} {n : Nat} (h : (!decide ((↑k : Int) < (↑q : Int)) && (Ins.s i != -1 && (decide (0 ≤ Ins.s i) && decide (Ins.s i < 6) && (Nat.ble (7 + Int.toNat (Ins.s i) * 4 + 4) (List.length (St.cs t)) && (decide (0 ≤ Ins.d i) && decide (Ins.d i < 6) && (Nat.ble (7 + Int.toNat (Ins.d i) * 4 + 4) (List.length (St.cs t)) && (!Ins.op i == 10 && (decide (0 ≤ Ins.d i) && decide (Ins.d i < 6) && (Nat.ble (7 + Int.toNat (Ins.d i) * 4 + 4) (List.length (St.cs t)) && (!Ins.op i == 15 && (!Ins.op i == 12 && (!Ins.op i == 13 && (Ins.op i == 14 && true))))))))))))) = true) (c0 : CallOK Tryz.prog (CallRec.mk 37 [AV.c (AC.u (Ins.im i))] [] (Eff.mk (AV.ag (V4.cs a)) [] none))) (c1 : Eff.mk (AV.ag (List.take 4 (List.drop (7 + Int.toNat (Ins.s i) * 4) (St.cs t)))) [] none = Eff.mk (AV.ag (V4.cs (V6.get (St.r t) (Int.toNat (Ins.s i))))) [] none) (c2 : Eff.mk (AV.ag (List.take 4 (List.drop (7 + Int.toNat (Ins.d i) * 4) (St.cs t)))) [] none = Eff.mk (AV.ag (V4.cs (V6.get (St.r t) (Int.toNat (Ins.d i))))) [] none) (c3 : CallOK Tryz.prog (CallRec.mk 38 [AV.c (AC.i (Ins.op i))] [] (Eff.mk (AV.c (AC.b false)) [] none))) (c4 : Eff.mk (AV.ag (List.take 4 (List.drop (7 + Int.toNat (Ins.d i) * 4) (St.cs t)))) [] none = Eff.mk (AV.ag (V4.cs (V6.get (St.r t) (Int.toNat (Ins.d i))))) [] none) (c5 : CallOK Tryz.prog (CallRec.mk 43 [AV.ag (V4.cs (V6.get (St.r t) (Int.toNat (Ins.d i)))), AV.ag (V4.cs (V6.get (St.r t) (Int.toNat (Ins.s i))))] [] (Eff.mk (AV.tu [AT.ag (V4.cs x), AT.ag (V4.cs y), AT.c (AC.b p1)]) [] none))) (c6 : CallOK Tryz.prog (CallRec.mk 44 [AV.ag (V4.cs (V6.get (St.r t) (Int.toNat (Ins.d i)))), AV.ag (V4.cs (V6.get (St.r t) (Int.toNat (Ins.s i))))] [] (Eff.mk (AV.tu [AT.ag (V4.cs x1), AT.ag (V4.cs y1), AT.c (AC.b p2)]) [] none))) (c7 : CallOK Tryz.prog (CallRec.mk 42 [AV.ag (Ins.cs i), AV.ag (St.cs t), AV.ag (V4.cs x), AV.ag (V4.cs y), AV.c (AC.b p1)] [] (Eff.mk (AV.ag (St.cs t1)) [] none))) (c8 : CallOK Tryz.prog (CallRec.mk 42 [AV.ag (Ins.cs i), AV.ag (St.cs t), AV.ag (V4.cs x1), AV.ag (V4.cs y1), AV.c (AC.b p2)] [] (Eff.mk (AV.ag (St.cs t2)) [] none))) :
    ART Tryz.prog 11 (cx w β n []) Tryz.f11.ntmps (cutAt Tryz.f11 0) (Kn.mk [(2, AV.c (AC.w 0)), (3, AV.c (AC.w 1)), (4, AV.c (AC.w 2)), (5, AV.c (AC.w 3)), (7, AV.c (AC.sx 9 q)), (8, AV.c (AC.i (↑k : Int)))] [(0, Ent.mk true (Ins.cs i) 0), (1, Ent.mk true (St.cs t) 0), (2, Ent.mk true (St.cs St.z) 0), (3, Ent.mk true (St.cs St.z) 0), (9, Ent.mk true U 1)] 10) (REff w β ⟨AV.tu [AT.ag (St.cs t1), AT.ag (St.cs t2), AT.c (AC.i 0)], [], none⟩) :=
  run_eff [] (none) 2000 [Eff.mk (AV.ag (V4.cs a)) [] none, Eff.mk (AV.ag (V4.cs (V6.get (St.r t) (Int.toNat (Ins.s i))))) [] none, Eff.mk (AV.ag (V4.cs (V6.get (St.r t) (Int.toNat (Ins.d i))))) [] none, Eff.mk (AV.c (AC.b false)) [] none, Eff.mk (AV.ag (V4.cs (V6.get (St.r t) (Int.toNat (Ins.d i))))) [] none, Eff.mk (AV.tu [AT.ag (V4.cs x), AT.ag (V4.cs y), AT.c (AC.b p1)]) [] none, Eff.mk (AV.tu [AT.ag (V4.cs x1), AT.ag (V4.cs y1), AT.c (AC.b p2)]) [] none, Eff.mk (AV.ag (St.cs t1)) [] none, Eff.mk (AV.ag (St.cs t2)) [] none] [false, true, false, false, false, false, false, false, true] ([true]) [(11, 4), (12, 4), (17, 4)] Tryz.func11 (ekeys0 rfl n) (by kernel_rfl) h (cr_cons c0 (cr_same c1 (cr_same c2 (cr_cons c3 (cr_same c4 (cr_cons c5 (cr_cons c6 (cr_cons c7 (cr_cons c8 cr_nil)))))))))
theorem ssL1_w0 {i : Ins} {t : St} {q : Nat} {k : Nat} {U : List AC} {a : V4} {c : V4} {x : V4} {w : World} {β : Bs} {n : Nat} (h : (!decide ((↑k : Int) < (↑q : Int)) && (Ins.s i != -1 && (decide (0 ≤ Ins.s i) && decide (Ins.s i < 6) && (Nat.ble (7 + Int.toNat (Ins.s i) * 4 + 4) (List.length (St.cs t)) && (decide (0 ≤ Ins.d i) && decide (Ins.d i < 6) && (Nat.ble (7 + Int.toNat (Ins.d i) * 4 + 4) (List.length (St.cs t)) && (Ins.op i == 10 && (decide (nv (bsub (64#64) (Ins.im i)) < nv (V4.h c)) && true)))))))) = true) (c0 : CallOK Tryz.prog (CallRec.mk 37 [AV.c (AC.u (Ins.im i))] [] (Eff.mk (AV.ag (V4.cs a)) [] none))) (c1 : Eff.mk (AV.ag (List.take 4 (List.drop (7 + Int.toNat (Ins.s i) * 4) (St.cs t)))) [] none = Eff.mk (AV.ag (V4.cs (V6.get (St.r t) (Int.toNat (Ins.s i))))) [] none) (c2 : Eff.mk (AV.ag (List.take 4 (List.drop (7 + Int.toNat (Ins.d i) * 4) (St.cs t)))) [] none = Eff.mk (AV.ag (V4.cs (V6.get (St.r t) (Int.toNat (Ins.d i))))) [] none) (c3 : CallOK Tryz.prog (CallRec.mk 38 [AV.c (AC.i (Ins.op i))] [] (Eff.mk (AV.c (AC.b true)) [] none))) (c4 : CallOK Tryz.prog (CallRec.mk 37 [AV.c (AC.u (BitVec.ofInt 64 (Ins.of i)))] [] (Eff.mk (AV.ag (V4.cs x)) [] none))) (c5 : CallOK Tryz.prog (CallRec.mk 39 [AV.c (AC.i 2), AV.ag (V4.cs (V6.get (St.r t) (Int.toNat (Ins.s i)))), AV.ag (V4.cs x)] [] (Eff.mk (AV.ag (V4.cs c)) [] none))) :
    ART Tryz.prog 11 (cx w β n []) Tryz.f11.ntmps (cutAt Tryz.f11 0) (Kn.mk [(2, AV.c (AC.w 0)), (3, AV.c (AC.w 1)), (4, AV.c (AC.w 2)), (5, AV.c (AC.w 3)), (7, AV.c (AC.sx 9 q)), (8, AV.c (AC.i (↑k : Int)))] [(0, Ent.mk true (Ins.cs i) 0), (1, Ent.mk true (St.cs t) 0), (2, Ent.mk true (St.cs St.z) 0), (3, Ent.mk true (St.cs St.z) 0), (9, Ent.mk true U 1)] 10) (REff w β ⟨AV.tu [AT.ag (St.cs St.z), AT.ag (St.cs St.z), AT.c (AC.i 2)], [], none⟩) :=
  run_eff [] (none) 2000 [Eff.mk (AV.ag (V4.cs a)) [] none, Eff.mk (AV.ag (V4.cs (V6.get (St.r t) (Int.toNat (Ins.s i))))) [] none, Eff.mk (AV.ag (V4.cs (V6.get (St.r t) (Int.toNat (Ins.d i))))) [] none, Eff.mk (AV.c (AC.b true)) [] none, Eff.mk (AV.ag (V4.cs x)) [] none, Eff.mk (AV.ag (V4.cs c)) [] none] [false, true, true, true, true] ([true]) [(11, 4), (12, 4), (17, 4)] Tryz.func11 (ekeys0 rfl n) (by kernel_rfl) h (cr_cons c0 (cr_same c1 (cr_same c2 (cr_cons c3 (cr_cons c4 (cr_cons c5 cr_nil))))))
theorem ssL1_w1 {i : Ins} {t : St} {t1 : St} {q : Nat} {k : Nat} {U : List AC} {a : V4} {b : V4} {c : V4} {x : V4} {w : World} {β : Bs} {n : Nat} (h : (!decide ((↑k : Int) < (↑q : Int)) && (Ins.s i != -1 && (decide (0 ≤ Ins.s i) && decide (Ins.s i < 6) && (Nat.ble (7 + Int.toNat (Ins.s i) * 4 + 4) (List.length (St.cs t)) && (decide (0 ≤ Ins.d i) && decide (Ins.d i < 6) && (Nat.ble (7 + Int.toNat (Ins.d i) * 4 + 4) (List.length (St.cs t)) && (Ins.op i == 10 && (!decide (nv (bsub (64#64) (Ins.im i)) < nv (V4.h c)) && (decide (0 ≤ Ins.d i) && decide (Ins.d i < 6) && (Nat.ble (7 + Int.toNat (Ins.d i) * 4 + 4) (List.length (St.cs t)) && (!Ins.op i == 15 && (!Ins.op i == 12 && (!Ins.op i == 13 && (!Ins.op i == 14 && (Ins.op i == 10 && true))))))))))))))) = true) (c0 : CallOK Tryz.prog (CallRec.mk 37 [AV.c (AC.u (Ins.im i))] [] (Eff.mk (AV.ag (V4.cs a)) [] none))) (c1 : Eff.mk (AV.ag (List.take 4 (List.drop (7 + Int.toNat (Ins.s i) * 4) (St.cs t)))) [] none = Eff.mk (AV.ag (V4.cs (V6.get (St.r t) (Int.toNat (Ins.s i))))) [] none) (c2 : Eff.mk (AV.ag (List.take 4 (List.drop (7 + Int.toNat (Ins.d i) * 4) (St.cs t)))) [] none = Eff.mk (AV.ag (V4.cs (V6.get (St.r t) (Int.toNat (Ins.d i))))) [] none) (c3 : CallOK Tryz.prog (CallRec.mk 38 [AV.c (AC.i (Ins.op i))] [] (Eff.mk (AV.c (AC.b true)) [] none))) (c4 : CallOK Tryz.prog (CallRec.mk 37 [AV.c (AC.u (BitVec.ofInt 64 (Ins.of i)))] [] (Eff.mk (AV.ag (V4.cs x)) [] none))) (c5 : CallOK Tryz.prog (CallRec.mk 39 [AV.c (AC.i 2), AV.ag (V4.cs (V6.get (St.r t) (Int.toNat (Ins.s i)))), AV.ag (V4.cs x)] [] (Eff.mk (AV.ag (V4.cs c)) [] none))) (c6 : Eff.mk (AV.ag (List.take 4 (List.drop (7 + Int.toNat (Ins.d i) * 4) (St.cs t)))) [] none = Eff.mk (AV.ag (V4.cs (V6.get (St.r t) (Int.toNat (Ins.d i))))) [] none) (c7 : CallOK Tryz.prog (CallRec.mk 46 [AV.c (AC.i (IntKind.wrap IntKind.i64 (nv (Ins.im i))))] [] (Eff.mk (AV.ag (V4.cs b)) [] none))) (c8 : CallOK Tryz.prog (CallRec.mk 45 [AV.ag (St.cs t), AV.c (AC.i (Ins.d i)), AV.ag (V4.cs b)] [] (Eff.mk (AV.ag (St.cs t1)) [] none))) :
    ART Tryz.prog 11 (cx w β n []) Tryz.f11.ntmps (cutAt Tryz.f11 0) (Kn.mk [(2, AV.c (AC.w 0)), (3, AV.c (AC.w 1)), (4, AV.c (AC.w 2)), (5, AV.c (AC.w 3)), (7, AV.c (AC.sx 9 q)), (8, AV.c (AC.i (↑k : Int)))] [(0, Ent.mk true (Ins.cs i) 0), (1, Ent.mk true (St.cs t) 0), (2, Ent.mk true (St.cs St.z) 0), (3, Ent.mk true (St.cs St.z) 0), (9, Ent.mk true U 1)] 10) (REff w β ⟨AV.tu [AT.ag (St.cs t1), AT.ag (St.cs St.z), AT.c (AC.i 0)], [], none⟩) :=
  run_eff [] (none) 2000 [Eff.mk (AV.ag (V4.cs a)) [] none, Eff.mk (AV.ag (V4.cs (V6.get (St.r t) (Int.toNat (Ins.s i))))) [] none, Eff.mk (AV.ag (V4.cs (V6.get (St.r t) (Int.toNat (Ins.d i))))) [] none, Eff.mk (AV.c (AC.b true)) [] none, Eff.mk (AV.ag (V4.cs x)) [] none, Eff.mk (AV.ag (V4.cs c)) [] none, Eff.mk (AV.ag (V4.cs (V6.get (St.r t) (Int.toNat (Ins.d i))))) [] none, Eff.mk (AV.ag (V4.cs b)) [] none, Eff.mk (AV.ag (St.cs t1)) [] none] [false, true, true, true, false, false, false, false, false, true] ([true]) [(11, 4), (12, 4), (17, 4)] Tryz.func11 (ekeys0 rfl n) (by kernel_rfl) h (cr_cons c0 (cr_same c1 (cr_same c2 (cr_cons c3 (cr_cons c4 (cr_cons c5 (cr_same c6 (cr_cons c7 (cr_cons c8 cr_nil)))))))))
theorem ssL1_all {i : Ins} {t : St} {t1 : St} {q : Nat} {k : Nat} {U : List AC} {a : V4} {b : V4} {c : V4} {x : V4} {w : World} {β : Bs} {n : Nat} {E : Eff}
    (l0 : (decide (nv (bsub (64#64) (Ins.im i)) < nv (V4.h c))) = true → (!decide ((↑k : Int) < (↑q : Int))) = true ∧ (Ins.s i != -1) = true ∧ (decide (0 ≤ Ins.s i) && decide (Ins.s i < 6)) = true ∧ (Nat.ble (7 + Int.toNat (Ins.s i) * 4 + 4) (List.length (St.cs t))) = true ∧ (decide (0 ≤ Ins.d i) && decide (Ins.d i < 6)) = true ∧ (Nat.ble (7 + Int.toNat (Ins.d i) * 4 + 4) (List.length (St.cs t))) = true ∧ (Ins.op i == 10) = true ∧ (CallOK Tryz.prog (CallRec.mk 37 [AV.c (AC.u (Ins.im i))] [] (Eff.mk (AV.ag (V4.cs a)) [] none))) ∧ (Eff.mk (AV.ag (List.take 4 (List.drop (7 + Int.toNat (Ins.s i) * 4) (St.cs t)))) [] none = Eff.mk (AV.ag (V4.cs (V6.get (St.r t) (Int.toNat (Ins.s i))))) [] none) ∧ (Eff.mk (AV.ag (List.take 4 (List.drop (7 + Int.toNat (Ins.d i) * 4) (St.cs t)))) [] none = Eff.mk (AV.ag (V4.cs (V6.get (St.r t) (Int.toNat (Ins.d i))))) [] none) ∧ (CallOK Tryz.prog (CallRec.mk 38 [AV.c (AC.i (Ins.op i))] [] (Eff.mk (AV.c (AC.b true)) [] none))) ∧ (CallOK Tryz.prog (CallRec.mk 37 [AV.c (AC.u (BitVec.ofInt 64 (Ins.of i)))] [] (Eff.mk (AV.ag (V4.cs x)) [] none))) ∧ (CallOK Tryz.prog (CallRec.mk 39 [AV.c (AC.i 2), AV.ag (V4.cs (V6.get (St.r t) (Int.toNat (Ins.s i)))), AV.ag (V4.cs x)] [] (Eff.mk (AV.ag (V4.cs c)) [] none))) ∧ ((⟨AV.tu [AT.ag (St.cs St.z), AT.ag (St.cs St.z), AT.c (AC.i 2)], [], none⟩ : Eff) = E))
    (l1 : (decide (nv (bsub (64#64) (Ins.im i)) < nv (V4.h c))) = false → (!decide ((↑k : Int) < (↑q : Int))) = true ∧ (Ins.s i != -1) = true ∧ (decide (0 ≤ Ins.s i) && decide (Ins.s i < 6)) = true ∧ (Nat.ble (7 + Int.toNat (Ins.s i) * 4 + 4) (List.length (St.cs t))) = true ∧ (decide (0 ≤ Ins.d i) && decide (Ins.d i < 6)) = true ∧ (Nat.ble (7 + Int.toNat (Ins.d i) * 4 + 4) (List.length (St.cs t))) = true ∧ (Ins.op i == 10) = true ∧ (decide (0 ≤ Ins.d i) && decide (Ins.d i < 6)) = true ∧ (Nat.ble (7 + Int.toNat (Ins.d i) * 4 + 4) (List.length (St.cs t))) = true ∧ (!Ins.op i == 15) = true ∧ (!Ins.op i == 12) = true ∧ (!Ins.op i == 13) = true ∧ (!Ins.op i == 14) = true ∧ (Ins.op i == 10) = true ∧ (CallOK Tryz.prog (CallRec.mk 37 [AV.c (AC.u (Ins.im i))] [] (Eff.mk (AV.ag (V4.cs a)) [] none))) ∧ (Eff.mk (AV.ag (List.take 4 (List.drop (7 + Int.toNat (Ins.s i) * 4) (St.cs t)))) [] none = Eff.mk (AV.ag (V4.cs (V6.get (St.r t) (Int.toNat (Ins.s i))))) [] none) ∧ (Eff.mk (AV.ag (List.take 4 (List.drop (7 + Int.toNat (Ins.d i) * 4) (St.cs t)))) [] none = Eff.mk (AV.ag (V4.cs (V6.get (St.r t) (Int.toNat (Ins.d i))))) [] none) ∧ (CallOK Tryz.prog (CallRec.mk 38 [AV.c (AC.i (Ins.op i))] [] (Eff.mk (AV.c (AC.b true)) [] none))) ∧ (CallOK Tryz.prog (CallRec.mk 37 [AV.c (AC.u (BitVec.ofInt 64 (Ins.of i)))] [] (Eff.mk (AV.ag (V4.cs x)) [] none))) ∧ (CallOK Tryz.prog (CallRec.mk 39 [AV.c (AC.i 2), AV.ag (V4.cs (V6.get (St.r t) (Int.toNat (Ins.s i)))), AV.ag (V4.cs x)] [] (Eff.mk (AV.ag (V4.cs c)) [] none))) ∧ (Eff.mk (AV.ag (List.take 4 (List.drop (7 + Int.toNat (Ins.d i) * 4) (St.cs t)))) [] none = Eff.mk (AV.ag (V4.cs (V6.get (St.r t) (Int.toNat (Ins.d i))))) [] none) ∧ (CallOK Tryz.prog (CallRec.mk 46 [AV.c (AC.i (IntKind.wrap IntKind.i64 (nv (Ins.im i))))] [] (Eff.mk (AV.ag (V4.cs b)) [] none))) ∧ (CallOK Tryz.prog (CallRec.mk 45 [AV.ag (St.cs t), AV.c (AC.i (Ins.d i)), AV.ag (V4.cs b)] [] (Eff.mk (AV.ag (St.cs t1)) [] none))) ∧ ((⟨AV.tu [AT.ag (St.cs t1), AT.ag (St.cs St.z), AT.c (AC.i 0)], [], none⟩ : Eff) = E)) :
    ART Tryz.prog 11 (cx w β n []) Tryz.f11.ntmps (cutAt Tryz.f11 0) (Kn.mk [(2, AV.c (AC.w 0)), (3, AV.c (AC.w 1)), (4, AV.c (AC.w 2)), (5, AV.c (AC.w 3)), (7, AV.c (AC.sx 9 q)), (8, AV.c (AC.i (↑k : Int)))] [(0, Ent.mk true (Ins.cs i) 0), (1, Ent.mk true (St.cs t) 0), (2, Ent.mk true (St.cs St.z) 0), (3, Ent.mk true (St.cs St.z) 0), (9, Ent.mk true U 1)] 10) (REff w β E) :=
  (tf (decide (nv (bsub (64#64) (Ins.im i)) < nv (V4.h c)))).elim (fun h0 => (match l0 h0 with | ⟨o0, o1, o2, o3, o4, o5, o6, c0, c1, c2, c3, c4, c5, e⟩ => art_eq (ssL1_w0 (and_yes o0 (and_yes o1 (and_yes o2 (and_yes o3 (and_yes o4 (and_yes o5 (and_yes o6 (and_yes h0 rfl)))))))) c0 c1 c2 c3 c4 c5) e)) (fun h0 => (match l1 h0 with | ⟨o0, o1, o2, o3, o4, o5, o6, o7, o8, o9, o10, o11, o12, o13, c0, c1, c2, c3, c4, c5, c6, c7, c8, e⟩ => art_eq (ssL1_w1 (and_yes o0 (and_yes o1 (and_yes o2 (and_yes o3 (and_yes o4 (and_yes o5 (and_yes o6 (and_yes (not_yes h0) (and_yes o7 (and_yes o8 (and_yes o9 (and_yes o10 (and_yes o11 (and_yes o12 (and_yes o13 rfl))))))))))))))) c0 c1 c2 c3 c4 c5 c6 c7 c8) e))
theorem ssS1_w0 {i : Ins} {t : St} {q : Nat} {k : Nat} {U : List AC} {a : V4} {c : V4} {x : V4} {w : World} {β : Bs} {n : Nat} (h : (!decide ((↑k : Int) < (↑q : Int)) && (Ins.s i != -1 && (decide (0 ≤ Ins.s i) && decide (Ins.s i < 6) && (Nat.ble (7 + Int.toNat (Ins.s i) * 4 + 4) (List.length (St.cs t)) && (decide (0 ≤ Ins.d i) && decide (Ins.d i < 6) && (Nat.ble (7 + Int.toNat (Ins.d i) * 4 + 4) (List.length (St.cs t)) && (!Ins.op i == 10 && (decide (nv (bsub (64#64) (Ins.im i)) < nv (V4.h c)) && true)))))))) = true) (c0 : CallOK Tryz.prog (CallRec.mk 37 [AV.c (AC.u (Ins.im i))] [] (Eff.mk (AV.ag (V4.cs a)) [] none))) (c1 : Eff.mk (AV.ag (List.take 4 (List.drop (7 + Int.toNat (Ins.s i) * 4) (St.cs t)))) [] none = Eff.mk (AV.ag (V4.cs (V6.get (St.r t) (Int.toNat (Ins.s i))))) [] none) (c2 : Eff.mk (AV.ag (List.take 4 (List.drop (7 + Int.toNat (Ins.d i) * 4) (St.cs t)))) [] none = Eff.mk (AV.ag (V4.cs (V6.get (St.r t) (Int.toNat (Ins.d i))))) [] none) (c3 : CallOK Tryz.prog (CallRec.mk 38 [AV.c (AC.i (Ins.op i))] [] (Eff.mk (AV.c (AC.b true)) [] none))) (c4 : CallOK Tryz.prog (CallRec.mk 37 [AV.c (AC.u (BitVec.ofInt 64 (Ins.of i)))] [] (Eff.mk (AV.ag (V4.cs x)) [] none))) (c5 : CallOK Tryz.prog (CallRec.mk 39 [AV.c (AC.i 2), AV.ag (V4.cs (V6.get (St.r t) (Int.toNat (Ins.d i)))), AV.ag (V4.cs x)] [] (Eff.mk (AV.ag (V4.cs c)) [] none))) :
    ART Tryz.prog 11 (cx w β n []) Tryz.f11.ntmps (cutAt Tryz.f11 0) (Kn.mk [(2, AV.c (AC.w 0)), (3, AV.c (AC.w 1)), (4, AV.c (AC.w 2)), (5, AV.c (AC.w 3)), (7, AV.c (AC.sx 9 q)), (8, AV.c (AC.i (↑k : Int)))] [(0, Ent.mk true (Ins.cs i) 0), (1, Ent.mk true (St.cs t) 0), (2, Ent.mk true (St.cs St.z) 0), (3, Ent.mk true (St.cs St.z) 0), (9, Ent.mk true U 1)] 10) (REff w β ⟨AV.tu [AT.ag (St.cs St.z), AT.ag (St.cs St.z), AT.c (AC.i 2)], [], none⟩) :=
  run_eff [] (none) 2000 [Eff.mk (AV.ag (V4.cs a)) [] none, Eff.mk (AV.ag (V4.cs (V6.get (St.r t) (Int.toNat (Ins.s i))))) [] none, Eff.mk (AV.ag (V4.cs (V6.get (St.r t) (Int.toNat (Ins.d i))))) [] none, Eff.mk (AV.c (AC.b true)) [] none, Eff.mk (AV.ag (V4.cs x)) [] none, Eff.mk (AV.ag (V4.cs c)) [] none] [false, true, false, true, true] ([true]) [(11, 4), (12, 4), (17, 4)] Tryz.func11 (ekeys0 rfl n) (by kernel_rfl) h (cr_cons c0 (cr_same c1 (cr_same c2 (cr_cons c3 (cr_cons c4 (cr_cons c5 cr_nil))))))
theorem ssS1_w1 {i : Ins} {t : St} {q : Nat} {k : Nat} {U : List AC} {a : V4} {c : V4} {x : V4} {w : World} {β : Bs} {n : Nat} (h : (!decide ((↑k : Int) < (↑q : Int)) && (Ins.s i != -1 && (decide (0 ≤ Ins.s i) && decide (Ins.s i < 6) && (Nat.ble (7 + Int.toNat (Ins.s i) * 4 + 4) (List.length (St.cs t)) && (decide (0 ≤ Ins.d i) && decide (Ins.d i < 6) && (Nat.ble (7 + Int.toNat (Ins.d i) * 4 + 4) (List.length (St.cs t)) && (!Ins.op i == 10 && (!decide (nv (bsub (64#64) (Ins.im i)) < nv (V4.h c)) && (decide (0 ≤ Ins.d i) && decide (Ins.d i < 6) && (Nat.ble (7 + Int.toNat (Ins.d i) * 4 + 4) (List.length (St.cs t)) && (!Ins.op i == 15 && (!Ins.op i == 12 && (!Ins.op i == 13 && (!Ins.op i == 14 && (!Ins.op i == 10 && (Ins.op i == 11 && true)))))))))))))))) = true) (c0 : CallOK Tryz.prog (CallRec.mk 37 [AV.c (AC.u (Ins.im i))] [] (Eff.mk (AV.ag (V4.cs a)) [] none))) (c1 : Eff.mk (AV.ag (List.take 4 (List.drop (7 + Int.toNat (Ins.s i) * 4) (St.cs t)))) [] none = Eff.mk (AV.ag (V4.cs (V6.get (St.r t) (Int.toNat (Ins.s i))))) [] none) (c2 : Eff.mk (AV.ag (List.take 4 (List.drop (7 + Int.toNat (Ins.d i) * 4) (St.cs t)))) [] none = Eff.mk (AV.ag (V4.cs (V6.get (St.r t) (Int.toNat (Ins.d i))))) [] none) (c3 : CallOK Tryz.prog (CallRec.mk 38 [AV.c (AC.i (Ins.op i))] [] (Eff.mk (AV.c (AC.b true)) [] none))) (c4 : CallOK Tryz.prog (CallRec.mk 37 [AV.c (AC.u (BitVec.ofInt 64 (Ins.of i)))] [] (Eff.mk (AV.ag (V4.cs x)) [] none))) (c5 : CallOK Tryz.prog (CallRec.mk 39 [AV.c (AC.i 2), AV.ag (V4.cs (V6.get (St.r t) (Int.toNat (Ins.d i)))), AV.ag (V4.cs x)] [] (Eff.mk (AV.ag (V4.cs c)) [] none))) (c6 : Eff.mk (AV.ag (List.take 4 (List.drop (7 + Int.toNat (Ins.d i) * 4) (St.cs t)))) [] none = Eff.mk (AV.ag (V4.cs (V6.get (St.r t) (Int.toNat (Ins.d i))))) [] none) :
    ART Tryz.prog 11 (cx w β n []) Tryz.f11.ntmps (cutAt Tryz.f11 0) (Kn.mk [(2, AV.c (AC.w 0)), (3, AV.c (AC.w 1)), (4, AV.c (AC.w 2)), (5, AV.c (AC.w 3)), (7, AV.c (AC.sx 9 q)), (8, AV.c (AC.i (↑k : Int)))] [(0, Ent.mk true (Ins.cs i) 0), (1, Ent.mk true (St.cs t) 0), (2, Ent.mk true (St.cs St.z) 0), (3, Ent.mk true (St.cs St.z) 0), (9, Ent.mk true U 1)] 10) (REff w β ⟨AV.tu [AT.ag (St.cs t), AT.ag (St.cs St.z), AT.c (AC.i 0)], [], none⟩) :=
  run_eff [] (none) 2000 [Eff.mk (AV.ag (V4.cs a)) [] none, Eff.mk (AV.ag (V4.cs (V6.get (St.r t) (Int.toNat (Ins.s i))))) [] none, Eff.mk (AV.ag (V4.cs (V6.get (St.r t) (Int.toNat (Ins.d i))))) [] none, Eff.mk (AV.c (AC.b true)) [] none, Eff.mk (AV.ag (V4.cs x)) [] none, Eff.mk (AV.ag (V4.cs c)) [] none, Eff.mk (AV.ag (V4.cs (V6.get (St.r t) (Int.toNat (Ins.d i))))) [] none] [false, true, false, true, false, false, false, false, false, false, true] ([true]) [(11, 4), (12, 4), (17, 4)] Tryz.func11 (ekeys0 rfl n) (by kernel_rfl) h (cr_cons c0 (cr_same c1 (cr_same c2 (cr_cons c3 (cr_cons c4 (cr_cons c5 (cr_same c6 cr_nil)))))))
theorem ssS1_all {i : Ins} {t : St} {q : Nat} {k : Nat} {U : List AC} {a : V4} {c : V4} {x : V4} {w : World} {β : Bs} {n : Nat} {E : Eff}
    (l0 : (decide (nv (bsub (64#64) (Ins.im i)) < nv (V4.h c))) = true → (!decide ((↑k : Int) < (↑q : Int))) = true ∧ (Ins.s i != -1) = true ∧ (decide (0 ≤ Ins.s i) && decide (Ins.s i < 6)) = true ∧ (Nat.ble (7 + Int.toNat (Ins.s i) * 4 + 4) (List.length (St.cs t))) = true ∧ (decide (0 ≤ Ins.d i) && decide (Ins.d i < 6)) = true ∧ (Nat.ble (7 + Int.toNat (Ins.d i) * 4 + 4) (List.length (St.cs t))) = true ∧ (!Ins.op i == 10) = true ∧ (CallOK Tryz.prog (CallRec.mk 37 [AV.c (AC.u (Ins.im i))] [] (Eff.mk (AV.ag (V4.cs a)) [] none))) ∧ (Eff.mk (AV.ag (List.take 4 (List.drop (7 + Int.toNat (Ins.s i) * 4) (St.cs t)))) [] none = Eff.mk (AV.ag (V4.cs (V6.get (St.r t) (Int.toNat (Ins.s i))))) [] none) ∧ (Eff.mk (AV.ag (List.take 4 (List.drop (7 + Int.toNat (Ins.d i) * 4) (St.cs t)))) [] none = Eff.mk (AV.ag (V4.cs (V6.get (St.r t) (Int.toNat (Ins.d i))))) [] none) ∧ (CallOK Tryz.prog (CallRec.mk 38 [AV.c (AC.i (Ins.op i))] [] (Eff.mk (AV.c (AC.b true)) [] none))) ∧ (CallOK Tryz.prog (CallRec.mk 37 [AV.c (AC.u (BitVec.ofInt 64 (Ins.of i)))] [] (Eff.mk (AV.ag (V4.cs x)) [] none))) ∧ (CallOK Tryz.prog (CallRec.mk 39 [AV.c (AC.i 2), AV.ag (V4.cs (V6.get (St.r t) (Int.toNat (Ins.d i)))), AV.ag (V4.cs x)] [] (Eff.mk (AV.ag (V4.cs c)) [] none))) ∧ ((⟨AV.tu [AT.ag (St.cs St.z), AT.ag (St.cs St.z), AT.c (AC.i 2)], [], none⟩ : Eff) = E))
    (l1 : (decide (nv (bsub (64#64) (Ins.im i)) < nv (V4.h c))) = false → (!decide ((↑k : Int) < (↑q : Int))) = true ∧ (Ins.s i != -1) = true ∧ (decide (0 ≤ Ins.s i) && decide (Ins.s i < 6)) = true ∧ (Nat.ble (7 + Int.toNat (Ins.s i) * 4 + 4) (List.length (St.cs t))) = true ∧ (decide (0 ≤ Ins.d i) && decide (Ins.d i < 6)) = true ∧ (Nat.ble (7 + Int.toNat (Ins.d i) * 4 + 4) (List.length (St.cs t))) = true ∧ (!Ins.op i == 10) = true ∧ (decide (0 ≤ Ins.d i) && decide (Ins.d i < 6)) = true ∧ (Nat.ble (7 + Int.toNat (Ins.d i) * 4 + 4) (List.length (St.cs t))) = true ∧ (!Ins.op i == 15) = true ∧ (!Ins.op i == 12) = true ∧ (!Ins.op i == 13) = true ∧ (!Ins.op i == 14) = true ∧ (!Ins.op i == 10) = true ∧ (Ins.op i == 11) = true ∧ (CallOK Tryz.prog (CallRec.mk 37 [AV.c (AC.u (Ins.im i))] [] (Eff.mk (AV.ag (V4.cs a)) [] none))) ∧ (Eff.mk (AV.ag (List.take 4 (List.drop (7 + Int.toNat (Ins.s i) * 4) (St.cs t)))) [] none = Eff.mk (AV.ag (V4.cs (V6.get (St.r t) (Int.toNat (Ins.s i))))) [] none) ∧ (Eff.mk (AV.ag (List.take 4 (List.drop (7 + Int.toNat (Ins.d i) * 4) (St.cs t)))) [] none = Eff.mk (AV.ag (V4.cs (V6.get (St.r t) (Int.toNat (Ins.d i))))) [] none) ∧ (CallOK Tryz.prog (CallRec.mk 38 [AV.c (AC.i (Ins.op i))] [] (Eff.mk (AV.c (AC.b true)) [] none))) ∧ (CallOK Tryz.prog (CallRec.mk 37 [AV.c (AC.u (BitVec.ofInt 64 (Ins.of i)))] [] (Eff.mk (AV.ag (V4.cs x)) [] none))) ∧ (CallOK Tryz.prog (CallRec.mk 39 [AV.c (AC.i 2), AV.ag (V4.cs (V6.get (St.r t) (Int.toNat (Ins.d i)))), AV.ag (V4.cs x)] [] (Eff.mk (AV.ag (V4.cs c)) [] none))) ∧ (Eff.mk (AV.ag (List.take 4 (List.drop (7 + Int.toNat (Ins.d i) * 4) (St.cs t)))) [] none = Eff.mk (AV.ag (V4.cs (V6.get (St.r t) (Int.toNat (Ins.d i))))) [] none) ∧ ((⟨AV.tu [AT.ag (St.cs t), AT.ag (St.cs St.z), AT.c (AC.i 0)], [], none⟩ : Eff) = E)) :
    ART Tryz.prog 11 (cx w β n []) Tryz.f11.ntmps (cutAt Tryz.f11 0) (Kn.mk [(2, AV.c (AC.w 0)), (3, AV.c (AC.w 1)), (4, AV.c (AC.w 2)), (5, AV.c (AC.w 3)), (7, AV.c (AC.sx 9 q)), (8, AV.c (AC.i (↑k : Int)))] [(0, Ent.mk true (Ins.cs i) 0), (1, Ent.mk true (St.cs t) 0), (2, Ent.mk true (St.cs St.z) 0), (3, Ent.mk true (St.cs St.z) 0), (9, Ent.mk true U 1)] 10) (REff w β E) :=
  (tf (decide (nv (bsub (64#64) (Ins.im i)) < nv (V4.h c)))).elim (fun h0 => (match l0 h0 with | ⟨o0, o1, o2, o3, o4, o5, o6, c0, c1, c2, c3, c4, c5, e⟩ => art_eq (ssS1_w0 (and_yes o0 (and_yes o1 (and_yes o2 (and_yes o3 (and_yes o4 (and_yes o5 (and_yes o6 (and_yes h0 rfl)))))))) c0 c1 c2 c3 c4 c5) e)) (fun h0 => (match l1 h0 with | ⟨o0, o1, o2, o3, o4, o5, o6, o7, o8, o9, o10, o11, o12, o13, o14, c0, c1, c2, c3, c4, c5, c6, e⟩ => art_eq (ssS1_w1 (and_yes o0 (and_yes o1 (and_yes o2 (and_yes o3 (and_yes o4 (and_yes o5 (and_yes o6 (and_yes (not_yes h0) (and_yes o7 (and_yes o8 (and_yes o9 (and_yes o10 (and_yes o11 (and_yes o12 (and_yes o13 (and_yes o14 rfl)))))))))))))))) c0 c1 c2 c3 c4 c5 c6) e))
theorem ssM1_w0 {i : Ins} {t : St} {t1 : St} {q : Nat} {k : Nat} {U : List AC} {a : V4} {w : World} {β : Bs} {n : Nat} (h : (!decide ((↑k : Int) < (↑q : Int)) && (Ins.s i != -1 && (decide (0 ≤ Ins.s i) && decide (Ins.s i < 6) && (Nat.ble (7 + Int.toNat (Ins.s i) * 4 + 4) (List.length (St.cs t)) && (decide (0 ≤ Ins.d i) && decide (Ins.d i < 6) && (Nat.ble (7 + Int.toNat (Ins.d i) * 4 + 4) (List.length (St.cs t)) && (!Ins.op i == 10 && (decide (0 ≤ Ins.d i) && decide (Ins.d i < 6) && (Nat.ble (7 + Int.toNat (Ins.d i) * 4 + 4) (List.length (St.cs t)) && (!Ins.op i == 15 && (!Ins.op i == 12 && (!Ins.op i == 13 && (!Ins.op i == 14 && (!Ins.op i == 10 && (!Ins.op i == 11 && (Ins.op i == 1 && true)))))))))))))))) = true) (c0 : CallOK Tryz.prog (CallRec.mk 37 [AV.c (AC.u (Ins.im i))] [] (Eff.mk (AV.ag (V4.cs a)) [] none))) (c1 : Eff.mk (AV.ag (List.take 4 (List.drop (7 + Int.toNat (Ins.s i) * 4) (St.cs t)))) [] none = Eff.mk (AV.ag (V4.cs (V6.get (St.r t) (Int.toNat (Ins.s i))))) [] none) (c2 : Eff.mk (AV.ag (List.take 4 (List.drop (7 + Int.toNat (Ins.d i) * 4) (St.cs t)))) [] none = Eff.mk (AV.ag (V4.cs (V6.get (St.r t) (Int.toNat (Ins.d i))))) [] none) (c3 : CallOK Tryz.prog (CallRec.mk 38 [AV.c (AC.i (Ins.op i))] [] (Eff.mk (AV.c (AC.b false)) [] none))) (c4 : Eff.mk (AV.ag (List.take 4 (List.drop (7 + Int.toNat (Ins.d i) * 4) (St.cs t)))) [] none = Eff.mk (AV.ag (V4.cs (V6.get (St.r t) (Int.toNat (Ins.d i))))) [] none) (c5 : CallOK Tryz.prog (CallRec.mk 45 [AV.ag (St.cs t), AV.c (AC.i (Ins.d i)), AV.ag (V4.cs (V6.get (St.r t) (Int.toNat (Ins.s i))))] [] (Eff.mk (AV.ag (St.cs t1)) [] none))) :
    ART Tryz.prog 11 (cx w β n []) Tryz.f11.ntmps (cutAt Tryz.f11 0) (Kn.mk [(2, AV.c (AC.w 0)), (3, AV.c (AC.w 1)), (4, AV.c (AC.w 2)), (5, AV.c (AC.w 3)), (7, AV.c (AC.sx 9 q)), (8, AV.c (AC.i (↑k : Int)))] [(0, Ent.mk true (Ins.cs i) 0), (1, Ent.mk true (St.cs t) 0), (2, Ent.mk true (St.cs St.z) 0), (3, Ent.mk true (St.cs St.z) 0), (9, Ent.mk true U 1)] 10) (REff w β ⟨AV.tu [AT.ag (St.cs t1), AT.ag (St.cs St.z), AT.c (AC.i 0)], [], none⟩) :=
  run_eff [] (none) 2000 [Eff.mk (AV.ag (V4.cs a)) [] none, Eff.mk (AV.ag (V4.cs (V6.get (St.r t) (Int.toNat (Ins.s i))))) [] none, Eff.mk (AV.ag (V4.cs (V6.get (St.r t) (Int.toNat (Ins.d i))))) [] none, Eff.mk (AV.c (AC.b false)) [] none, Eff.mk (AV.ag (V4.cs (V6.get (St.r t) (Int.toNat (Ins.d i))))) [] none, Eff.mk (AV.ag (St.cs t1)) [] none] [false, true, false, false, false, false, false, false, false, false, false, true] ([true]) [(11, 4), (12, 4), (17, 4)] Tryz.func11 (ekeys0 rfl n) (by kernel_rfl) h (cr_cons c0 (cr_same c1 (cr_same c2 (cr_cons c3 (cr_same c4 (cr_cons c5 cr_nil))))))
theorem ssT0_w0 {i : Ins} {t : St} {t1 : St} {q : Nat} {k : Nat} {U : List AC} {a : V4} {b : V4} {w : World} {β : Bs} {n : Nat} (h : (!decide ((↑k : Int) < (↑q : Int)) && (!Ins.s i != -1 && (decide (0 ≤ Ins.d i) && decide (Ins.d i < 6) && (Nat.ble (7 + Int.toNat (Ins.d i) * 4 + 4) (List.length (St.cs t)) && (!Ins.op i == 10 && (decide (0 ≤ Ins.d i) && decide (Ins.d i < 6) && (Nat.ble (7 + Int.toNat (Ins.d i) * 4 + 4) (List.length (St.cs t)) && (!Ins.op i == 15 && (!Ins.op i == 12 && (!Ins.op i == 13 && (!Ins.op i == 14 && (!Ins.op i == 10 && (!Ins.op i == 11 && (!Ins.op i == 1 && true)))))))))))))) = true) (c0 : CallOK Tryz.prog (CallRec.mk 37 [AV.c (AC.u (Ins.im i))] [] (Eff.mk (AV.ag (V4.cs a)) [] none))) (c1 : Eff.mk (AV.ag (List.take 4 (List.drop (7 + Int.toNat (Ins.d i) * 4) (St.cs t)))) [] none = Eff.mk (AV.ag (V4.cs (V6.get (St.r t) (Int.toNat (Ins.d i))))) [] none) (c2 : CallOK Tryz.prog (CallRec.mk 38 [AV.c (AC.i (Ins.op i))] [] (Eff.mk (AV.c (AC.b false)) [] none))) (c3 : Eff.mk (AV.ag (List.take 4 (List.drop (7 + Int.toNat (Ins.d i) * 4) (St.cs t)))) [] none = Eff.mk (AV.ag (V4.cs (V6.get (St.r t) (Int.toNat (Ins.d i))))) [] none) (c4 : CallOK Tryz.prog (CallRec.mk 39 [AV.c (AC.i (Ins.op i)), AV.ag (V4.cs (V6.get (St.r t) (Int.toNat (Ins.d i)))), AV.ag (V4.cs a)] [] (Eff.mk (AV.ag (V4.cs b)) [] none))) (c5 : CallOK Tryz.prog (CallRec.mk 45 [AV.ag (St.cs t), AV.c (AC.i (Ins.d i)), AV.ag (V4.cs b)] [] (Eff.mk (AV.ag (St.cs t1)) [] none))) :
    ART Tryz.prog 11 (cx w β n []) Tryz.f11.ntmps (cutAt Tryz.f11 0) (Kn.mk [(2, AV.c (AC.w 0)), (3, AV.c (AC.w 1)), (4, AV.c (AC.w 2)), (5, AV.c (AC.w 3)), (7, AV.c (AC.sx 9 q)), (8, AV.c (AC.i (↑k : Int)))] [(0, Ent.mk true (Ins.cs i) 0), (1, Ent.mk true (St.cs t) 0), (2, Ent.mk true (St.cs St.z) 0), (3, Ent.mk true (St.cs St.z) 0), (9, Ent.mk true U 1)] 10) (REff w β ⟨AV.tu [AT.ag (St.cs t1), AT.ag (St.cs St.z), AT.c (AC.i 0)], [], none⟩) :=
  run_eff [] (none) 2000 [Eff.mk (AV.ag (V4.cs a)) [] none, Eff.mk (AV.ag (V4.cs (V6.get (St.r t) (Int.toNat (Ins.d i))))) [] none, Eff.mk (AV.c (AC.b false)) [] none, Eff.mk (AV.ag (V4.cs (V6.get (St.r t) (Int.toNat (Ins.d i))))) [] none, Eff.mk (AV.ag (V4.cs b)) [] none, Eff.mk (AV.ag (St.cs t1)) [] none] [false, false, false, false, false, false, false, false, false, false, false, false] ([true]) [(11, 4), (12, 4), (17, 4)] Tryz.func11 (ekeys0 rfl n) (by kernel_rfl) h (cr_cons c0 (cr_same c1 (cr_cons c2 (cr_same c3 (cr_cons c4 (cr_cons c5 cr_nil))))))
theorem ssT1_w0 {i : Ins} {t : St} {t1 : St} {q : Nat} {k : Nat} {U : List AC} {a : V4} {b : V4} {w : World} {β : Bs} {n : Nat} (h : (!decide ((↑k : Int) < (↑q : Int)) && (Ins.s i != -1 && (decide (0 ≤ Ins.s i) && decide (Ins.s i < 6) && (Nat.ble (7 + Int.toNat (Ins.s i) * 4 + 4) (List.length (St.cs t)) && (decide (0 ≤ Ins.d i) && decide (Ins.d i < 6) && (Nat.ble (7 + Int.toNat (Ins.d i) * 4 + 4) (List.length (St.cs t)) && (!Ins.op i == 10 && (decide (0 ≤ Ins.d i) && decide (Ins.d i < 6) && (Nat.ble (7 + Int.toNat (Ins.d i) * 4 + 4) (List.length (St.cs t)) && (!Ins.op i == 15 && (!Ins.op i == 12 && (!Ins.op i == 13 && (!Ins.op i == 14 && (!Ins.op i == 10 && (!Ins.op i == 11 && (!Ins.op i == 1 && true)))))))))))))))) = true) (c0 : CallOK Tryz.prog (CallRec.mk 37 [AV.c (AC.u (Ins.im i))] [] (Eff.mk (AV.ag (V4.cs a)) [] none))) (c1 : Eff.mk (AV.ag (List.take 4 (List.drop (7 + Int.toNat (Ins.s i) * 4) (St.cs t)))) [] none = Eff.mk (AV.ag (V4.cs (V6.get (St.r t) (Int.toNat (Ins.s i))))) [] none) (c2 : Eff.mk (AV.ag (List.take 4 (List.drop (7 + Int.toNat (Ins.d i) * 4) (St.cs t)))) [] none = Eff.mk (AV.ag (V4.cs (V6.get (St.r t) (Int.toNat (Ins.d i))))) [] none) (c3 : CallOK Tryz.prog (CallRec.mk 38 [AV.c (AC.i (Ins.op i))] [] (Eff.mk (AV.c (AC.b false)) [] none))) (c4 : Eff.mk (AV.ag (List.take 4 (List.drop (7 + Int.toNat (Ins.d i) * 4) (St.cs t)))) [] none = Eff.mk (AV.ag (V4.cs (V6.get (St.r t) (Int.toNat (Ins.d i))))) [] none) (c5 : CallOK Tryz.prog (CallRec.mk 39 [AV.c (AC.i (Ins.op i)), AV.ag (V4.cs (V6.get (St.r t) (Int.toNat (Ins.d i)))), AV.ag (V4.cs (V6.get (St.r t) (Int.toNat (Ins.s i))))] [] (Eff.mk (AV.ag (V4.cs b)) [] none))) (c6 : CallOK Tryz.prog (CallRec.mk 45 [AV.ag (St.cs t), AV.c (AC.i (Ins.d i)), AV.ag (V4.cs b)] [] (Eff.mk (AV.ag (St.cs t1)) [] none))) :
    ART Tryz.prog 11 (cx w β n []) Tryz.f11.ntmps (cutAt Tryz.f11 0) (Kn.mk [(2, AV.c (AC.w 0)), (3, AV.c (AC.w 1)), (4, AV.c (AC.w 2)), (5, AV.c (AC.w 3)), (7, AV.c (AC.sx 9 q)), (8, AV.c (AC.i (↑k : Int)))] [(0, Ent.mk true (Ins.cs i) 0), (1, Ent.mk true (St.cs t) 0), (2, Ent.mk true (St.cs St.z) 0), (3, Ent.mk true (St.cs St.z) 0), (9, Ent.mk true U 1)] 10) (REff w β ⟨AV.tu [AT.ag (St.cs t1), AT.ag (St.cs St.z), AT.c (AC.i 0)], [], none⟩) :=
  run_eff [] (none) 2000 [Eff.mk (AV.ag (V4.cs a)) [] none, Eff.mk (AV.ag (V4.cs (V6.get (St.r t) (Int.toNat (Ins.s i))))) [] none, Eff.mk (AV.ag (V4.cs (V6.get (St.r t) (Int.toNat (Ins.d i))))) [] none, Eff.mk (AV.c (AC.b false)) [] none, Eff.mk (AV.ag (V4.cs (V6.get (St.r t) (Int.toNat (Ins.d i))))) [] none, Eff.mk (AV.ag (V4.cs b)) [] none, Eff.mk (AV.ag (St.cs t1)) [] none] [false, true, false, false, false, false, false, false, false, false, false, false] ([true]) [(11, 4), (12, 4), (17, 4)] Tryz.func11 (ekeys0 rfl n) (by kernel_rfl) h (cr_cons c0 (cr_same c1 (cr_same c2 (cr_cons c3 (cr_same c4 (cr_cons c5 (cr_cons c6 cr_nil)))))))
theorem ssJ1_w0 {i : Ins} {t : St} {a : V4} (h : (!!St.live t && (Ins.s i != -1 && (decide (0 ≤ Ins.s i) && decide (Ins.s i < 6) && (Nat.ble (7 + Int.toNat (Ins.s i) * 4 + 4) (List.length (St.cs t)) && (decide (0 ≤ Ins.d i) && decide (Ins.d i < 6) && (Nat.ble (7 + Int.toNat (Ins.d i) * 4 + 4) (List.length (St.cs t)) && (!Ins.op i == 10 && (decide (0 ≤ Ins.d i) && decide (Ins.d i < 6) && (Nat.ble (7 + Int.toNat (Ins.d i) * 4 + 4) (List.length (St.cs t)) && (!Ins.op i == 15 && (Ins.op i == 12 && true))))))))))) = true) (c0 : CallOK Tryz.prog (CallRec.mk 36 [AV.ag (Ins.cs i)] [] (Eff.mk (AV.c nilSl) [] none))) (c1 : CallOK Tryz.prog (CallRec.mk 37 [AV.c (AC.u (Ins.im i))] [] (Eff.mk (AV.ag (V4.cs a)) [] none))) (c2 : Eff.mk (AV.ag (List.take 4 (List.drop (7 + Int.toNat (Ins.s i) * 4) (St.cs t)))) [] none = Eff.mk (AV.ag (V4.cs (V6.get (St.r t) (Int.toNat (Ins.s i))))) [] none) (c3 : Eff.mk (AV.ag (List.take 4 (List.drop (7 + Int.toNat (Ins.d i) * 4) (St.cs t)))) [] none = Eff.mk (AV.ag (V4.cs (V6.get (St.r t) (Int.toNat (Ins.d i))))) [] none) (c4 : CallOK Tryz.prog (CallRec.mk 38 [AV.c (AC.i (Ins.op i))] [] (Eff.mk (AV.c (AC.b false)) [] none))) (c5 : Eff.mk (AV.ag (List.take 4 (List.drop (7 + Int.toNat (Ins.d i) * 4) (St.cs t)))) [] none = Eff.mk (AV.ag (V4.cs (V6.get (St.r t) (Int.toNat (Ins.d i))))) [] none) :
    CallOK Tryz.prog ⟨11, [AV.ag (Ins.cs i), AV.ag (St.cs t)], [], ⟨AV.tu [AT.ag (St.cs St.z), AT.ag (St.cs t), AT.c (AC.i 0)], [], none⟩⟩ :=
  val_run 2000 [Eff.mk (AV.c nilSl) [] none, Eff.mk (AV.ag (V4.cs a)) [] none, Eff.mk (AV.ag (V4.cs (V6.get (St.r t) (Int.toNat (Ins.s i))))) [] none, Eff.mk (AV.ag (V4.cs (V6.get (St.r t) (Int.toNat (Ins.d i))))) [] none, Eff.mk (AV.c (AC.b false)) [] none, Eff.mk (AV.ag (V4.cs (V6.get (St.r t) (Int.toNat (Ins.d i))))) [] none] [false, false, true, false, false, false, false, true] ([false]) [(11, 4), (12, 4), (17, 4)] Tryz.func11 rfl rfl rfl rfl (by kernel_rfl) h (cr_cons c0 (cr_cons c1 (cr_same c2 (cr_same c3 (cr_cons c4 (cr_same c5 cr_nil))))))
theorem ssM0_w0 {i : Ins} {t : St} {t1 : St} {a : V4} (h : (!!St.live t && (!Ins.s i != -1 && (decide (0 ≤ Ins.d i) && decide (Ins.d i < 6) && (Nat.ble (7 + Int.toNat (Ins.d i) * 4 + 4) (List.length (St.cs t)) && (!Ins.op i == 10 && (decide (0 ≤ Ins.d i) && decide (Ins.d i < 6) && (Nat.ble (7 + Int.toNat (Ins.d i) * 4 + 4) (List.length (St.cs t)) && (!Ins.op i == 15 && (!Ins.op i == 12 && (!Ins.op i == 13 && (!Ins.op i == 14 && (!Ins.op i == 10 && (!Ins.op i == 11 && (Ins.op i == 1 && true)))))))))))))) = true) (c0 : CallOK Tryz.prog (CallRec.mk 36 [AV.ag (Ins.cs i)] [] (Eff.mk (AV.c nilSl) [] none))) (c1 : CallOK Tryz.prog (CallRec.mk 37 [AV.c (AC.u (Ins.im i))] [] (Eff.mk (AV.ag (V4.cs a)) [] none))) (c2 : Eff.mk (AV.ag (List.take 4 (List.drop (7 + Int.toNat (Ins.d i) * 4) (St.cs t)))) [] none = Eff.mk (AV.ag (V4.cs (V6.get (St.r t) (Int.toNat (Ins.d i))))) [] none) (c3 : CallOK Tryz.prog (CallRec.mk 38 [AV.c (AC.i (Ins.op i))] [] (Eff.mk (AV.c (AC.b false)) [] none))) (c4 : Eff.mk (AV.ag (List.take 4 (List.drop (7 + Int.toNat (Ins.d i) * 4) (St.cs t)))) [] none = Eff.mk (AV.ag (V4.cs (V6.get (St.r t) (Int.toNat (Ins.d i))))) [] none) (c5 : CallOK Tryz.prog (CallRec.mk 45 [AV.ag (St.cs t), AV.c (AC.i (Ins.d i)), AV.ag (V4.cs a)] [] (Eff.mk (AV.ag (St.cs t1)) [] none))) :
    CallOK Tryz.prog ⟨11, [AV.ag (Ins.cs i), AV.ag (St.cs t)], [], ⟨AV.tu [AT.ag (St.cs t1), AT.ag (St.cs St.z), AT.c (AC.i 0)], [], none⟩⟩ :=
  val_run 2000 [Eff.mk (AV.c nilSl) [] none, Eff.mk (AV.ag (V4.cs a)) [] none, Eff.mk (AV.ag (V4.cs (V6.get (St.r t) (Int.toNat (Ins.d i))))) [] none, Eff.mk (AV.c (AC.b false)) [] none, Eff.mk (AV.ag (V4.cs (V6.get (St.r t) (Int.toNat (Ins.d i))))) [] none, Eff.mk (AV.ag (St.cs t1)) [] none] [false, false, false, false, false, false, false, false, false, false, false, false, true] ([false]) [(11, 4), (12, 4), (17, 4)] Tryz.func11 rfl rfl rfl rfl (by kernel_rfl) h (cr_cons c0 (cr_cons c1 (cr_same c2 (cr_cons c3 (cr_same c4 (cr_cons c5 cr_nil))))))
end Go.Proofs.YtkigmocchaikgabGreat
