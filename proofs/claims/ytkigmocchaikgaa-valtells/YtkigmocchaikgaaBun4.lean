import Derived.Test.YtkigmocchaikgaaBun3
import Derived.Deep.RegionHeld3
import Derived.Deep.CutBlock
import Derived.Deep.DeepCutAuto
import Derived.Test.YtkigmocchaikgaaBun2
import Derived.Deep.RegionWith
import Derived.Test.YtkigmocchaikgaaBun1
/- The contract of the reference's JoinVal, of right ones. -/
namespace Go.Proofs.Ytkigmocchaikgaa
open Go.RowKit
attribute [local go_sem] w_and w_or w_xor w_andNot w_and1 w_and63 w_add w_sub w_mul w_sub1 w_add1 w_shl w_shl1 w_shr c_beq c_bne c_beq0 c_bne0 c_beq1 c_bne1 wrap_nv

theorem Kp.drop' {w0 w : World} {p : Nat × List Value} {L : List (Nat × List Value)} (h : Kp w0 w (p :: L)) : Kp w0 w L := ⟨h.bel, h.box.tail, fun q hq => h.lo q (List.mem_cons_of_mem _ hq)⟩
theorem Kp.other1 {w0 w : World} {L : List (Nat × List Value)} (h : Kp w0 w L) {b i : Nat} (v : Value) (hlo : w0.heap.size ≤ b) (hne : ∀ p, p ∈ L → p.1 ≠ b) : Kp w0 (w.setCell ⟨b, i, none⟩ v) L :=
  ⟨h.bel.setCell hlo v, h.box.other hne, h.lo⟩
theorem Kp.other4 {w0 w : World} {L : List (Nat × List Value)} (h : Kp w0 w L) {b : Nat} (x y z t : Value) (hlo : w0.heap.size ≤ b) (hne : ∀ p, p ∈ L → p.1 ≠ b) :
    Kp w0 ((((w.setCell ⟨b, 0, none⟩ x).setCell ⟨b, 1, none⟩ y).setCell ⟨b, 2, none⟩ z).setCell ⟨b, 3, none⟩ t) L :=
  (((h.other1 x hlo hne).other1 y hlo hne).other1 z hlo hne).other1 t hlo hne

set_option maxRecDepth 100000 in
set_option maxHeartbeats 8000000 in
theorem joinVal_yes {v m l h v' m' l' h' : BitVec 64} (hr : Hid ((valB v m l h && valB v' m' l' h') = true)) (w : World) :
    Calls Try.prog 35 #[Vl v m l h, Vl v' m' l' h'] w fun e w' => e = .returned (Vl (nV (jV v m v' m') (jM v m v' m') (bmin l l') (bmax h h')) (nM (jM v m v' m') (nLo (jV v m v' m') (jM v m v' m') (bmin l l')) (nHi (jV v m v' m') (jM v m v' m') (bmax h h'))) (nLo (jV v m v' m') (jM v m v' m') (bmin l l')) (nHi (jV v m v' m') (jM v m v' m') (bmax h h'))) ∧ Below w.heap.size w w' := by
  have hr' := hr.out
  rw [Bool.and_eq_true] at hr'
  have hf := join_facts hr'.1 hr'.2
  have ha := (val_facts hr'.1).1
  have hb := (val_facts hr'.2).1
  have HJ : Hid (∀ w, Calls Try.prog 18 #[Bt v m, Bt v' m'] w fun e w' => e = .returned (Bt (jV v m v' m') (jM v m v' m')) ∧ Below w.heap.size w w') := fun w => by
    have hj := joinBits_any v m v' m' w
    rw [(join_eq (both_right ha hb).out).1, (join_eq (both_right ha hb).out).2] at hj
    exact hj
  have HN : Hid (∀ w, Calls Try.prog 33 #[Vl (jV v m v' m') (jM v m v' m') (bmin l l') (bmax h h')] w fun e w' => e = .returned (.tuple #[Vl (nV (jV v m v' m') (jM v m v' m') (bmin l l') (bmax h h')) (nM (jM v m v' m') (nLo (jV v m v' m') (jM v m v' m') (bmin l l')) (nHi (jV v m v' m') (jM v m v' m') (bmax h h'))) (nLo (jV v m v' m') (jM v m v' m') (bmin l l')) (nHi (jV v m v' m') (jM v m v' m') (bmax h h')), .bool true]) ∧ Below w.heap.size w w') := fun w =>
    normVal_yes ((rt_iff _ _).2 (join_rt v m v' m')) hf.1 w
  clear hf ha hb hr hr'
  generalize nV (jV v m v' m') (jM v m v' m') (bmin l l') (bmax h h') = rv at HN ⊢
  generalize nM (jM v m v' m') (nLo (jV v m v' m') (jM v m v' m') (bmin l l')) (nHi (jV v m v' m') (jM v m v' m') (bmax h h')) = rm at HN ⊢
  generalize nLo (jV v m v' m') (jM v m v' m') (bmin l l') = lo at HN ⊢
  generalize nHi (jV v m v' m') (jM v m v' m') (bmax h h') = hi at HN ⊢
  generalize jV v m v' m' = jv at HN HJ
  generalize jM v m v' m' = jm at HN HJ
  obtain ⟨l0, e1⟩ : ∃ a, Hid (bmin l l' = a) := ⟨_, rfl⟩
  obtain ⟨h0, e2⟩ : ∃ a, Hid (bmax h h' = a) := ⟨_, rfl⟩
  have m1 : (if nv l' < nv l then nv l' else nv l) = nv l0 := by rw [← e1.out]; unfold bmin; split <;> rfl
  have m2 : (if nv h < nv h' then nv h' else nv h) = nv h0 := by rw [← e2.out]; unfold bmax; split <;> rfl
  rw [e1.out, e2.out] at HN
  clear e1 e2
  go_enter Try.func35, Try.ntmps35
  go_wp2_with fail
  have hK0 := (((Kp.start w).add4 (U v) (U m) (U l) (U h) 49).add4 (U v') (U m') (U l') (U h') 49).add4 (.int .u64 0) (.int .u64 0) (.int .u64 0) (.int .u64 0) 49
  simp only [World.size_alloc] at hK0
  have HS : Hid (∀ w', Kp w w' [(w.heap.size + 1 + 1, [.int .u64 0, .int .u64 0, .int .u64 0, .int .u64 0]), (w.heap.size + 1, [U v', U m', U l', U h']), (w.heap.size, [U v, U m, U l, U h])] → Kp w w' [(w.heap.size + 1 + 1, [.int .u64 0, .int .u64 0, .int .u64 0, .int .u64 0]), (w.heap.size + 1, [U v', U m', U l', U h']), (w.heap.size, [U v, U m, U l, U h])] ∧ w'.cell? ⟨w.heap.size, 0, none⟩ = some (U v) ∧ w'.cell? ⟨w.heap.size, 1, none⟩ = some (U m) ∧ w'.cell? ⟨w.heap.size, 2, none⟩ = some (U l) ∧ w'.cell? ⟨w.heap.size, 3, none⟩ = some (U h) ∧ w'.cell? ⟨w.heap.size + 1, 0, none⟩ = some (U v') ∧ w'.cell? ⟨w.heap.size + 1, 1, none⟩ = some (U m') ∧ w'.cell? ⟨w.heap.size + 1, 2, none⟩ = some (U l') ∧ w'.cell? ⟨w.heap.size + 1, 3, none⟩ = some (U h')) := by
    intro w' hk
    obtain ⟨a0, a1, a2, a3, _⟩ := hk.box.tail.tail.head.four; obtain ⟨b0, b1, b2, b3, _⟩ := hk.box.tail.head.four; exact ⟨hk, a0, a1, a2, a3, b0, b1, b2, b3⟩
  have hlt : Hid (∀ w', Kp w w' [(w.heap.size + 1 + 1, [.int .u64 0, .int .u64 0, .int .u64 0, .int .u64 0]), (w.heap.size + 1, [U v', U m', U l', U h']), (w.heap.size, [U v, U m, U l, U h])] → w.heap.size + 1 + 1 + 1 ≤ w'.heap.size) := fun w' hk => hk.box.head.2.2
  have hne : Hid (∀ b, w.heap.size + 1 + 1 + 1 ≤ b → ∀ p, p ∈ ([(w.heap.size + 1 + 1, [.int .u64 0, .int .u64 0, .int .u64 0, .int .u64 0]), (w.heap.size + 1, [U v', U m', U l', U h']), (w.heap.size, [U v, U m, U l, U h])] : List (Nat × List Value)) → p.1 ≠ b) := by
    intro b hb p hp
    simp only [List.mem_cons, List.not_mem_nil, or_false] at hp
    rcases hp with rfl | rfl | rfl <;> simp <;> omega
  have K0d := hK0.keep (Below.drew (Below.refl _ _))
  go_cut [5, 6] (fun p f wc => ∃ b, p = .pointer (some ⟨b, 0, none⟩) ∧ f = .bool true ∧ Kp w wc ((b, [U rv, U rm, U lo, U hi]) :: [(w.heap.size + 1 + 1, [.int .u64 0, .int .u64 0, .int .u64 0, .int .u64 0]), (w.heap.size + 1, [U v', U m', U l', U h']), (w.heap.size, [U v, U m, U l, U h])]))
  case first =>
    refine wp_region_held_drew (S := fun w' => Kp w w' [(w.heap.size + 1 + 1, [.int .u64 0, .int .u64 0, .int .u64 0, .int .u64 0]), (w.heap.size + 1, [U v', U m', U l', U h']), (w.heap.size, [U v, U m, U l, U h])]) (by kernel_rfl) K0d (fun hHeld => ?_)
    refine wpAnyH_take (i := 0) (oi := ({ dst := some 8, op := Op.fieldAddr 49 (Operand.tmp 2) 0, type := 0, pos := "bits.go:249", after := #[], guard := none } : Oper)) (v := ?_) rfl (by kernel_rfl) (by kernel_rfl) (by kernel_rfl) (fun _ _ _ h => h) (Or.inl ⟨by rfl, ?_⟩) (by assumption) ?_
    rotate_left
    · intro wq hq
      obtain ⟨a0, a1, a2, a3, _⟩ := hq.box.tail.tail.head.four
      obtain ⟨b0, b1, b2, b3, _⟩ := hq.box.tail.head.four
      go_simp
      try rfl
    simp only [Act.put, List.setIfInBounds_toArray, List.set_cons_zero, List.set_cons_succ]
    refine wpAnyH_take (i := 1) (oi := ({ dst := some 9, op := Op.load 24 (Operand.tmp 8), type := 24, pos := "bits.go:249", after := #[{ on := 0, ground := Ground.data }], guard := none } : Oper)) (v := ?_) rfl (by kernel_rfl) (by kernel_rfl) (by kernel_rfl) (fun _ _ _ h => h) (Or.inl ⟨by rfl, ?_⟩) (by assumption) ?_
    rotate_left
    · intro wq hq
      obtain ⟨a0, a1, a2, a3, _⟩ := hq.box.tail.tail.head.four
      obtain ⟨b0, b1, b2, b3, _⟩ := hq.box.tail.head.four
      go_simp
      try rfl
    simp only [Act.put, List.setIfInBounds_toArray, List.set_cons_zero, List.set_cons_succ]
    refine wpAnyH_take (i := 2) (oi := ({ dst := some 10, op := Op.fieldAddr 49 (Operand.tmp 3) 0, type := 0, pos := "bits.go:249", after := #[], guard := none } : Oper)) (v := ?_) rfl (by kernel_rfl) (by kernel_rfl) (by kernel_rfl) (fun _ _ _ h => h) (Or.inl ⟨by rfl, ?_⟩) (by assumption) ?_
    rotate_left
    · intro wq hq
      obtain ⟨a0, a1, a2, a3, _⟩ := hq.box.tail.tail.head.four
      obtain ⟨b0, b1, b2, b3, _⟩ := hq.box.tail.head.four
      go_simp
      try rfl
    simp only [Act.put, List.setIfInBounds_toArray, List.set_cons_zero, List.set_cons_succ]
    refine wpAnyH_take (i := 3) (oi := ({ dst := some 11, op := Op.load 24 (Operand.tmp 10), type := 24, pos := "bits.go:249", after := #[{ on := 2, ground := Ground.data }], guard := none } : Oper)) (v := ?_) rfl (by kernel_rfl) (by kernel_rfl) (by kernel_rfl) (fun _ _ _ h => h) (Or.inl ⟨by rfl, ?_⟩) (by assumption) ?_
    rotate_left
    · intro wq hq
      obtain ⟨a0, a1, a2, a3, _⟩ := hq.box.tail.tail.head.four
      obtain ⟨b0, b1, b2, b3, _⟩ := hq.box.tail.head.four
      go_simp
      try rfl
    simp only [Act.put, List.setIfInBounds_toArray, List.set_cons_zero, List.set_cons_succ]
    refine wpAnyH_take (i := 5) (oi := ({ dst := some 13, op := Op.fieldAddr 49 (Operand.tmp 2) 1, type := 0, pos := "bits.go:249", after := #[], guard := none } : Oper)) (v := ?_) rfl (by kernel_rfl) (by kernel_rfl) (by kernel_rfl) (fun _ _ _ h => h) (Or.inl ⟨by rfl, ?_⟩) (by assumption) ?_
    rotate_left
    · intro wq hq
      obtain ⟨a0, a1, a2, a3, _⟩ := hq.box.tail.tail.head.four
      obtain ⟨b0, b1, b2, b3, _⟩ := hq.box.tail.head.four
      go_simp
      try rfl
    simp only [Act.put, List.setIfInBounds_toArray, List.set_cons_zero, List.set_cons_succ]
    refine wpAnyH_take (i := 6) (oi := ({ dst := some 14, op := Op.load 22 (Operand.tmp 13), type := 22, pos := "bits.go:249", after := #[{ on := 5, ground := Ground.data }], guard := none } : Oper)) (v := ?_) rfl (by kernel_rfl) (by kernel_rfl) (by kernel_rfl) (fun _ _ _ h => h) (Or.inl ⟨by rfl, ?_⟩) (by assumption) ?_
    rotate_left
    · intro wq hq
      obtain ⟨a0, a1, a2, a3, _⟩ := hq.box.tail.tail.head.four
      obtain ⟨b0, b1, b2, b3, _⟩ := hq.box.tail.head.four
      go_simp
      try rfl
    simp only [Act.put, List.setIfInBounds_toArray, List.set_cons_zero, List.set_cons_succ]
    refine wpAnyH_take (i := 7) (oi := ({ dst := some 15, op := Op.fieldAddr 49 (Operand.tmp 3) 1, type := 0, pos := "bits.go:249", after := #[], guard := none } : Oper)) (v := ?_) rfl (by kernel_rfl) (by kernel_rfl) (by kernel_rfl) (fun _ _ _ h => h) (Or.inl ⟨by rfl, ?_⟩) (by assumption) ?_
    rotate_left
    · intro wq hq
      obtain ⟨a0, a1, a2, a3, _⟩ := hq.box.tail.tail.head.four
      obtain ⟨b0, b1, b2, b3, _⟩ := hq.box.tail.head.four
      go_simp
      try rfl
    simp only [Act.put, List.setIfInBounds_toArray, List.set_cons_zero, List.set_cons_succ]
    refine wpAnyH_take (i := 8) (oi := ({ dst := some 16, op := Op.load 22 (Operand.tmp 15), type := 22, pos := "bits.go:249", after := #[{ on := 7, ground := Ground.data }], guard := none } : Oper)) (v := ?_) rfl (by kernel_rfl) (by kernel_rfl) (by kernel_rfl) (fun _ _ _ h => h) (Or.inl ⟨by rfl, ?_⟩) (by assumption) ?_
    rotate_left
    · intro wq hq
      obtain ⟨a0, a1, a2, a3, _⟩ := hq.box.tail.tail.head.four
      obtain ⟨b0, b1, b2, b3, _⟩ := hq.box.tail.head.four
      go_simp
      try rfl
    simp only [Act.put, List.setIfInBounds_toArray, List.set_cons_zero, List.set_cons_succ]
    refine wpAnyH_take (i := 9) (oi := ({ dst := some 17, op := Op.call { callee := Callee.builtin Builtin.min, args := #[Operand.tmp 14, Operand.tmp 16], argTypes := #[22, 22] }, type := 22, pos := "bits.go:249", after := #[{ on := 6, ground := Ground.data }, { on := 8, ground := Ground.data }], guard := none } : Oper)) (v := ?_) rfl (by kernel_rfl) (by kernel_rfl) (by kernel_rfl) (fun _ _ _ h => h) (Or.inl ⟨by rfl, ?_⟩) (by assumption) ?_
    rotate_left
    · intro wq hq
      obtain ⟨a0, a1, a2, a3, _⟩ := hq.box.tail.tail.head.four
      obtain ⟨b0, b1, b2, b3, _⟩ := hq.box.tail.head.four
      go_simp
      try rfl
    simp only [Act.put, List.setIfInBounds_toArray, List.set_cons_zero, List.set_cons_succ]
    refine wpAnyH_take (i := 10) (oi := ({ dst := some 18, op := Op.fieldAddr 49 (Operand.tmp 2) 2, type := 0, pos := "bits.go:249", after := #[], guard := none } : Oper)) (v := ?_) rfl (by kernel_rfl) (by kernel_rfl) (by kernel_rfl) (fun _ _ _ h => h) (Or.inl ⟨by rfl, ?_⟩) (by assumption) ?_
    rotate_left
    · intro wq hq
      obtain ⟨a0, a1, a2, a3, _⟩ := hq.box.tail.tail.head.four
      obtain ⟨b0, b1, b2, b3, _⟩ := hq.box.tail.head.four
      go_simp
      try rfl
    simp only [Act.put, List.setIfInBounds_toArray, List.set_cons_zero, List.set_cons_succ]
    refine wpAnyH_take (i := 11) (oi := ({ dst := some 19, op := Op.load 22 (Operand.tmp 18), type := 22, pos := "bits.go:249", after := #[{ on := 10, ground := Ground.data }], guard := none } : Oper)) (v := ?_) rfl (by kernel_rfl) (by kernel_rfl) (by kernel_rfl) (fun _ _ _ h => h) (Or.inl ⟨by rfl, ?_⟩) (by assumption) ?_
    rotate_left
    · intro wq hq
      obtain ⟨a0, a1, a2, a3, _⟩ := hq.box.tail.tail.head.four
      obtain ⟨b0, b1, b2, b3, _⟩ := hq.box.tail.head.four
      go_simp
      try rfl
    simp only [Act.put, List.setIfInBounds_toArray, List.set_cons_zero, List.set_cons_succ]
    refine wpAnyH_take (i := 12) (oi := ({ dst := some 20, op := Op.fieldAddr 49 (Operand.tmp 3) 2, type := 0, pos := "bits.go:249", after := #[], guard := none } : Oper)) (v := ?_) rfl (by kernel_rfl) (by kernel_rfl) (by kernel_rfl) (fun _ _ _ h => h) (Or.inl ⟨by rfl, ?_⟩) (by assumption) ?_
    rotate_left
    · intro wq hq
      obtain ⟨a0, a1, a2, a3, _⟩ := hq.box.tail.tail.head.four
      obtain ⟨b0, b1, b2, b3, _⟩ := hq.box.tail.head.four
      go_simp
      try rfl
    simp only [Act.put, List.setIfInBounds_toArray, List.set_cons_zero, List.set_cons_succ]
    refine wpAnyH_take (i := 13) (oi := ({ dst := some 21, op := Op.load 22 (Operand.tmp 20), type := 22, pos := "bits.go:249", after := #[{ on := 12, ground := Ground.data }], guard := none } : Oper)) (v := ?_) rfl (by kernel_rfl) (by kernel_rfl) (by kernel_rfl) (fun _ _ _ h => h) (Or.inl ⟨by rfl, ?_⟩) (by assumption) ?_
    rotate_left
    · intro wq hq
      obtain ⟨a0, a1, a2, a3, _⟩ := hq.box.tail.tail.head.four
      obtain ⟨b0, b1, b2, b3, _⟩ := hq.box.tail.head.four
      go_simp
      try rfl
    simp only [Act.put, List.setIfInBounds_toArray, List.set_cons_zero, List.set_cons_succ]
    refine wpAnyH_take (i := 14) (oi := ({ dst := some 22, op := Op.call { callee := Callee.builtin Builtin.max, args := #[Operand.tmp 19, Operand.tmp 21], argTypes := #[22, 22] }, type := 22, pos := "bits.go:249", after := #[{ on := 11, ground := Ground.data }, { on := 13, ground := Ground.data }], guard := none } : Oper)) (v := ?_) rfl (by kernel_rfl) (by kernel_rfl) (by kernel_rfl) (fun _ _ _ h => h) (Or.inl ⟨by rfl, ?_⟩) (by assumption) ?_
    rotate_left
    · intro wq hq
      obtain ⟨a0, a1, a2, a3, _⟩ := hq.box.tail.tail.head.four
      obtain ⟨b0, b1, b2, b3, _⟩ := hq.box.tail.head.four
      go_simp
      try rfl
    simp only [Act.put, List.setIfInBounds_toArray, List.set_cons_zero, List.set_cons_succ]
    refine wpAnyH_ready (rs := [4, 20]) (by kernel_rfl) (by simp) ?_
    refine AllReadyH.cons (o := ({ dst := some 12, op := Op.call { callee := Callee.value (Operand.func 18), args := #[Operand.tmp 9, Operand.tmp 11], argTypes := #[24, 24] }, type := 24, pos := "bits.go:249", after := #[{ on := 1, ground := Ground.data }, { on := 3, ground := Ground.data }], guard := none } : Oper)) rfl (fun K hK => ?_) ?_
    · skip
      go_simp
      refine (HJ.out _).mono ?_
      rintro e w4 ⟨rfl, hb4⟩
      go_wp2_with fail
      refine hK.out _ _ (K0d.keep hb4) (fun hHeld => ?_)
      clear hK K
      try simp only [Act.put, List.setIfInBounds_toArray, List.set_cons_zero, List.set_cons_succ]
      refine wpAnyH_take (i := 15) (oi := ({ dst := some 23, op := Op.build 49 #[(0, Operand.tmp 12), (1, Operand.tmp 17), (2, Operand.tmp 22)], type := 49, pos := "bits.go:249", after := #[{ on := 4, ground := Ground.data }, { on := 9, ground := Ground.data }, { on := 14, ground := Ground.data }], guard := none } : Oper)) (v := ?_) rfl (by kernel_rfl) (by kernel_rfl) (by kernel_rfl) (fun _ _ _ h => h) (Or.inl ⟨by rfl, ?_⟩) (by assumption) ?_
      rotate_left
      · intro wq hq
        go_simp
        try rfl
      simp only [Act.put, List.setIfInBounds_toArray, List.set_cons_zero, List.set_cons_succ]
      refine wpAnyH_ready (rs := [16, 20]) (by kernel_rfl) (by simp) ?_
      refine AllReadyH.cons (o := ({ dst := some 24, op := Op.call { callee := Callee.value (Operand.func 33), args := #[Operand.tmp 23], argTypes := #[49] }, type := 54, pos := "bits.go:249", after := #[{ on := 15, ground := Ground.data }, { on := 4, ground := Ground.chain }], guard := none } : Oper)) rfl (fun K hK => ?_) ?_
      · skip
        go_simp
        refine (HN.out _).mono ?_
        rintro e w5 ⟨rfl, hb5⟩
        go_wp2_with fail
        refine hK.out _ _ ((K0d.keep hb4).keep hb5) (fun hHeld => ?_)
        clear hK K
        try simp only [Act.put, List.setIfInBounds_toArray, List.set_cons_zero, List.set_cons_succ]
        refine wpAnyH_take (i := 17) (oi := ({ dst := some 7, op := Op.move (Operand.tmp 24), type := 54, pos := "bits.go:249", after := #[{ on := 16, ground := Ground.data }], guard := none } : Oper)) (v := ?_) rfl (by kernel_rfl) (by kernel_rfl) (by kernel_rfl) (fun _ _ _ h => h) (Or.inl ⟨by rfl, ?_⟩) (by assumption) ?_
        rotate_left
        · intro wq hq
          go_simp
          try rfl
        simp only [Act.put, List.setIfInBounds_toArray, List.set_cons_zero, List.set_cons_succ]
        refine wpAnyH_take (i := 18) (oi := ({ dst := some 25, op := Op.extract (Operand.tmp 7) 0, type := 49, pos := "bits.go:249", after := #[{ on := 17, ground := Ground.data }], guard := none } : Oper)) (v := ?_) rfl (by kernel_rfl) (by kernel_rfl) (by kernel_rfl) (fun _ _ _ h => h) (Or.inl ⟨by rfl, ?_⟩) (by assumption) ?_
        rotate_left
        · intro wq hq
          go_simp
          try rfl
        simp only [Act.put, List.setIfInBounds_toArray, List.set_cons_zero, List.set_cons_succ]
        refine wpAnyH_take (i := 19) (oi := ({ dst := some 26, op := Op.extract (Operand.tmp 7) 1, type := 4, pos := "bits.go:249", after := #[{ on := 17, ground := Ground.data }, { on := 21, ground := Ground.gcOnly Departure.lateStores }], guard := none } : Oper)) (v := ?_) rfl (by kernel_rfl) (by kernel_rfl) (by kernel_rfl) (fun _ _ _ h => h) (Or.inl ⟨by rfl, ?_⟩) (by assumption) ?_
        rotate_left
        · intro wq hq
          go_simp
          try rfl
        simp only [Act.put, List.setIfInBounds_toArray, List.set_cons_zero, List.set_cons_succ]
        refine wpAnyH_ready (rs := [20]) (by kernel_rfl) (by simp) ?_
        refine AllReadyH.cons (o := ({ dst := some 5, op := Op.alloc 49, type := 0, pos := "bits.go:249", after := #[], guard := none } : Oper)) rfl (fun K hK => ?_) ?_
        · skip
          go_simp
          have hA1 := ((K0d.keep hb4).keep hb5).add4 (.int .u64 0) (.int .u64 0) (.int .u64 0) (.int .u64 0) 49
          refine hK.out _ _ hA1.drop' (fun hHeld => ?_)
          clear hK K
          try simp only [Act.put, List.setIfInBounds_toArray, List.set_cons_zero, List.set_cons_succ]
          refine wpAnyH_ready (rs := [21]) (by kernel_rfl) (by simp) ?_
          refine AllReadyH.cons (o := ({ dst := none, op := Op.store 49 (Operand.tmp 5) (Operand.tmp 25), type := 0, pos := "bits.go:249", after := #[{ on := 20, ground := Ground.data }, { on := 18, ground := Ground.data }, { on := 16, ground := Ground.chain }, { on := 0, ground := Ground.phase }, { on := 1, ground := Ground.phase }, { on := 2, ground := Ground.phase }, { on := 3, ground := Ground.phase }, { on := 4, ground := Ground.phase }, { on := 5, ground := Ground.phase }, { on := 6, ground := Ground.phase }, { on := 7, ground := Ground.phase }, { on := 8, ground := Ground.phase }, { on := 9, ground := Ground.phase }, { on := 10, ground := Ground.phase }, { on := 11, ground := Ground.phase }, { on := 12, ground := Ground.phase }, { on := 13, ground := Ground.phase }, { on := 14, ground := Ground.phase }, { on := 15, ground := Ground.phase }, { on := 16, ground := Ground.phase }, { on := 17, ground := Ground.phase }, { on := 18, ground := Ground.phase }, { on := 19, ground := Ground.textOnly Departure.lateStores }, { on := 20, ground := Ground.phase }], guard := none } : Oper)) rfl (fun K hK => ?_) ?_
          · skip
            go_simp
            have hA2 := ((K0d.keep hb4).keep hb5).add4 (U rv) (U rm) (U lo) (U hi) 49
            refine hK.out _ _ hA2.drop' (fun hHeld => ?_)
            clear hK K
            try simp only [Act.put, List.setIfInBounds_toArray, List.set_cons_zero, List.set_cons_succ]
            refine wpAnyH_take (i := 22) (oi := ({ dst := some 6, op := Op.assign (Operand.tmp 26), type := 4, pos := "bits.go:249", after := #[{ on := 19, ground := Ground.data }, { on := 21, ground := Ground.chain }, { on := 0, ground := Ground.phase }, { on := 1, ground := Ground.phase }, { on := 2, ground := Ground.phase }, { on := 3, ground := Ground.phase }, { on := 4, ground := Ground.phase }, { on := 5, ground := Ground.phase }, { on := 6, ground := Ground.phase }, { on := 7, ground := Ground.phase }, { on := 8, ground := Ground.phase }, { on := 9, ground := Ground.phase }, { on := 10, ground := Ground.phase }, { on := 11, ground := Ground.phase }, { on := 12, ground := Ground.phase }, { on := 13, ground := Ground.phase }, { on := 14, ground := Ground.phase }, { on := 15, ground := Ground.phase }, { on := 16, ground := Ground.phase }, { on := 17, ground := Ground.phase }, { on := 18, ground := Ground.phase }, { on := 19, ground := Ground.phase }, { on := 20, ground := Ground.phase }, { on := 21, ground := Ground.phase }], guard := none } : Oper)) (v := ?_) rfl (by kernel_rfl) (by kernel_rfl) (by kernel_rfl) (fun _ _ _ h => h) (Or.inl ⟨by rfl, ?_⟩) (by assumption) ?_
            rotate_left
            · intro wq hq
              go_simp
              try rfl
            simp only [Act.put, List.setIfInBounds_toArray, List.set_cons_zero, List.set_cons_succ]
            refine wpAnyH_done (by kernel_rfl) ?_ _
            go_wp2_with fail
            go_meet
            case rel => exact ⟨_, rfl, rfl, hA2⟩
          exact AllReadyH.nil
        exact AllReadyH.nil
      refine AllReadyH.cons (o := ({ dst := some 5, op := Op.alloc 49, type := 0, pos := "bits.go:249", after := #[], guard := none } : Oper)) rfl (fun K hK => ?_) ?_
      · skip
        go_simp
        have hA1 := (K0d.keep hb4).add4 (.int .u64 0) (.int .u64 0) (.int .u64 0) (.int .u64 0) 49
        refine hK.out _ _ hA1.drop' (fun hHeld => ?_)
        clear hK K
        try simp only [Act.put, List.setIfInBounds_toArray, List.set_cons_zero, List.set_cons_succ]
        refine wpAnyH_ready (rs := [16]) (by kernel_rfl) (by simp) ?_
        refine AllReadyH.cons (o := ({ dst := some 24, op := Op.call { callee := Callee.value (Operand.func 33), args := #[Operand.tmp 23], argTypes := #[49] }, type := 54, pos := "bits.go:249", after := #[{ on := 15, ground := Ground.data }, { on := 4, ground := Ground.chain }], guard := none } : Oper)) rfl (fun K hK => ?_) ?_
        · skip
          go_simp
          refine (HN.out _).mono ?_
          rintro e w5 ⟨rfl, hb5⟩
          have hA5 := hA1.keep hb5
          obtain ⟨q0, q1, q2, q3, q4, q5, q6, q7, q8⟩ := hA5.box.head.four
          go_wp2_with fail
          refine hK.out _ _ (hA1.drop'.keep hb5) (fun hHeld => ?_)
          clear hK K
          try simp only [Act.put, List.setIfInBounds_toArray, List.set_cons_zero, List.set_cons_succ]
          refine wpAnyH_take (i := 17) (oi := ({ dst := some 7, op := Op.move (Operand.tmp 24), type := 54, pos := "bits.go:249", after := #[{ on := 16, ground := Ground.data }], guard := none } : Oper)) (v := ?_) rfl (by kernel_rfl) (by kernel_rfl) (by kernel_rfl) (fun _ _ _ h => h) (Or.inl ⟨by rfl, ?_⟩) (by assumption) ?_
          rotate_left
          · intro wq hq
            go_simp
            try rfl
          simp only [Act.put, List.setIfInBounds_toArray, List.set_cons_zero, List.set_cons_succ]
          refine wpAnyH_take (i := 18) (oi := ({ dst := some 25, op := Op.extract (Operand.tmp 7) 0, type := 49, pos := "bits.go:249", after := #[{ on := 17, ground := Ground.data }], guard := none } : Oper)) (v := ?_) rfl (by kernel_rfl) (by kernel_rfl) (by kernel_rfl) (fun _ _ _ h => h) (Or.inl ⟨by rfl, ?_⟩) (by assumption) ?_
          rotate_left
          · intro wq hq
            go_simp
            try rfl
          simp only [Act.put, List.setIfInBounds_toArray, List.set_cons_zero, List.set_cons_succ]
          refine wpAnyH_take (i := 19) (oi := ({ dst := some 26, op := Op.extract (Operand.tmp 7) 1, type := 4, pos := "bits.go:249", after := #[{ on := 17, ground := Ground.data }, { on := 21, ground := Ground.gcOnly Departure.lateStores }], guard := none } : Oper)) (v := ?_) rfl (by kernel_rfl) (by kernel_rfl) (by kernel_rfl) (fun _ _ _ h => h) (Or.inl ⟨by rfl, ?_⟩) (by assumption) ?_
          rotate_left
          · intro wq hq
            go_simp
            try rfl
          simp only [Act.put, List.setIfInBounds_toArray, List.set_cons_zero, List.set_cons_succ]
          refine wpAnyH_ready (rs := [21]) (by kernel_rfl) (by simp) ?_
          refine AllReadyH.cons (o := ({ dst := none, op := Op.store 49 (Operand.tmp 5) (Operand.tmp 25), type := 0, pos := "bits.go:249", after := #[{ on := 20, ground := Ground.data }, { on := 18, ground := Ground.data }, { on := 16, ground := Ground.chain }, { on := 0, ground := Ground.phase }, { on := 1, ground := Ground.phase }, { on := 2, ground := Ground.phase }, { on := 3, ground := Ground.phase }, { on := 4, ground := Ground.phase }, { on := 5, ground := Ground.phase }, { on := 6, ground := Ground.phase }, { on := 7, ground := Ground.phase }, { on := 8, ground := Ground.phase }, { on := 9, ground := Ground.phase }, { on := 10, ground := Ground.phase }, { on := 11, ground := Ground.phase }, { on := 12, ground := Ground.phase }, { on := 13, ground := Ground.phase }, { on := 14, ground := Ground.phase }, { on := 15, ground := Ground.phase }, { on := 16, ground := Ground.phase }, { on := 17, ground := Ground.phase }, { on := 18, ground := Ground.phase }, { on := 19, ground := Ground.textOnly Departure.lateStores }, { on := 20, ground := Ground.phase }], guard := none } : Oper)) rfl (fun K hK => ?_) ?_
          · skip
            go_simp
            have hA2 := hA5.set4 (x := U rv) (y := U rm) (z := U lo) (t := U hi) 0 rfl
            refine hK.out _ _ hA2.drop' (fun hHeld => ?_)
            clear hK K
            try simp only [Act.put, List.setIfInBounds_toArray, List.set_cons_zero, List.set_cons_succ]
            refine wpAnyH_take (i := 22) (oi := ({ dst := some 6, op := Op.assign (Operand.tmp 26), type := 4, pos := "bits.go:249", after := #[{ on := 19, ground := Ground.data }, { on := 21, ground := Ground.chain }, { on := 0, ground := Ground.phase }, { on := 1, ground := Ground.phase }, { on := 2, ground := Ground.phase }, { on := 3, ground := Ground.phase }, { on := 4, ground := Ground.phase }, { on := 5, ground := Ground.phase }, { on := 6, ground := Ground.phase }, { on := 7, ground := Ground.phase }, { on := 8, ground := Ground.phase }, { on := 9, ground := Ground.phase }, { on := 10, ground := Ground.phase }, { on := 11, ground := Ground.phase }, { on := 12, ground := Ground.phase }, { on := 13, ground := Ground.phase }, { on := 14, ground := Ground.phase }, { on := 15, ground := Ground.phase }, { on := 16, ground := Ground.phase }, { on := 17, ground := Ground.phase }, { on := 18, ground := Ground.phase }, { on := 19, ground := Ground.phase }, { on := 20, ground := Ground.phase }, { on := 21, ground := Ground.phase }], guard := none } : Oper)) (v := ?_) rfl (by kernel_rfl) (by kernel_rfl) (by kernel_rfl) (fun _ _ _ h => h) (Or.inl ⟨by rfl, ?_⟩) (by assumption) ?_
            rotate_left
            · intro wq hq
              go_simp
              try rfl
            simp only [Act.put, List.setIfInBounds_toArray, List.set_cons_zero, List.set_cons_succ]
            refine wpAnyH_done (by kernel_rfl) ?_ _
            go_wp2_with fail
            go_meet
            case rel => exact ⟨_, rfl, rfl, hA2⟩
          exact AllReadyH.nil
        exact AllReadyH.nil
      exact AllReadyH.nil
    refine AllReadyH.cons (o := ({ dst := some 5, op := Op.alloc 49, type := 0, pos := "bits.go:249", after := #[], guard := none } : Oper)) rfl (fun K hK => ?_) ?_
    · skip
      go_simp
      have hA0 := (hK0.add4 (.int .u64 0) (.int .u64 0) (.int .u64 0) (.int .u64 0) 49).keep (Below.drew (Below.refl _ _))
      simp only [World.size_alloc] at hA0
      refine hK.out _ _ hA0.drop' (fun hHeld => ?_)
      clear hK K
      try simp only [Act.put, List.setIfInBounds_toArray, List.set_cons_zero, List.set_cons_succ]
      refine wpAnyH_ready (rs := [4]) (by kernel_rfl) (by simp) ?_
      refine AllReadyH.cons (o := ({ dst := some 12, op := Op.call { callee := Callee.value (Operand.func 18), args := #[Operand.tmp 9, Operand.tmp 11], argTypes := #[24, 24] }, type := 24, pos := "bits.go:249", after := #[{ on := 1, ground := Ground.data }, { on := 3, ground := Ground.data }], guard := none } : Oper)) rfl (fun K hK => ?_) ?_
      · skip
        go_simp
        refine (HJ.out _).mono ?_
        rintro e w4 ⟨rfl, hb4⟩
        have hA4 := hA0.keep hb4
        go_wp2_with fail
        refine hK.out _ _ (hA0.drop'.keep hb4) (fun hHeld => ?_)
        clear hK K
        try simp only [Act.put, List.setIfInBounds_toArray, List.set_cons_zero, List.set_cons_succ]
        refine wpAnyH_take (i := 15) (oi := ({ dst := some 23, op := Op.build 49 #[(0, Operand.tmp 12), (1, Operand.tmp 17), (2, Operand.tmp 22)], type := 49, pos := "bits.go:249", after := #[{ on := 4, ground := Ground.data }, { on := 9, ground := Ground.data }, { on := 14, ground := Ground.data }], guard := none } : Oper)) (v := ?_) rfl (by kernel_rfl) (by kernel_rfl) (by kernel_rfl) (fun _ _ _ h => h) (Or.inl ⟨by rfl, ?_⟩) (by assumption) ?_
        rotate_left
        · intro wq hq
          go_simp
          try rfl
        simp only [Act.put, List.setIfInBounds_toArray, List.set_cons_zero, List.set_cons_succ]
        refine wpAnyH_ready (rs := [16]) (by kernel_rfl) (by simp) ?_
        refine AllReadyH.cons (o := ({ dst := some 24, op := Op.call { callee := Callee.value (Operand.func 33), args := #[Operand.tmp 23], argTypes := #[49] }, type := 54, pos := "bits.go:249", after := #[{ on := 15, ground := Ground.data }, { on := 4, ground := Ground.chain }], guard := none } : Oper)) rfl (fun K hK => ?_) ?_
        · skip
          go_simp
          refine (HN.out _).mono ?_
          rintro e w5 ⟨rfl, hb5⟩
          have hA5 := hA4.keep hb5
          obtain ⟨q0, q1, q2, q3, q4, q5, q6, q7, q8⟩ := hA5.box.head.four
          go_wp2_with fail
          refine hK.out _ _ ((hA0.drop'.keep hb4).keep hb5) (fun hHeld => ?_)
          clear hK K
          try simp only [Act.put, List.setIfInBounds_toArray, List.set_cons_zero, List.set_cons_succ]
          refine wpAnyH_take (i := 17) (oi := ({ dst := some 7, op := Op.move (Operand.tmp 24), type := 54, pos := "bits.go:249", after := #[{ on := 16, ground := Ground.data }], guard := none } : Oper)) (v := ?_) rfl (by kernel_rfl) (by kernel_rfl) (by kernel_rfl) (fun _ _ _ h => h) (Or.inl ⟨by rfl, ?_⟩) (by assumption) ?_
          rotate_left
          · intro wq hq
            go_simp
            try rfl
          simp only [Act.put, List.setIfInBounds_toArray, List.set_cons_zero, List.set_cons_succ]
          refine wpAnyH_take (i := 18) (oi := ({ dst := some 25, op := Op.extract (Operand.tmp 7) 0, type := 49, pos := "bits.go:249", after := #[{ on := 17, ground := Ground.data }], guard := none } : Oper)) (v := ?_) rfl (by kernel_rfl) (by kernel_rfl) (by kernel_rfl) (fun _ _ _ h => h) (Or.inl ⟨by rfl, ?_⟩) (by assumption) ?_
          rotate_left
          · intro wq hq
            go_simp
            try rfl
          simp only [Act.put, List.setIfInBounds_toArray, List.set_cons_zero, List.set_cons_succ]
          refine wpAnyH_take (i := 19) (oi := ({ dst := some 26, op := Op.extract (Operand.tmp 7) 1, type := 4, pos := "bits.go:249", after := #[{ on := 17, ground := Ground.data }, { on := 21, ground := Ground.gcOnly Departure.lateStores }], guard := none } : Oper)) (v := ?_) rfl (by kernel_rfl) (by kernel_rfl) (by kernel_rfl) (fun _ _ _ h => h) (Or.inl ⟨by rfl, ?_⟩) (by assumption) ?_
          rotate_left
          · intro wq hq
            go_simp
            try rfl
          simp only [Act.put, List.setIfInBounds_toArray, List.set_cons_zero, List.set_cons_succ]
          refine wpAnyH_ready (rs := [21]) (by kernel_rfl) (by simp) ?_
          refine AllReadyH.cons (o := ({ dst := none, op := Op.store 49 (Operand.tmp 5) (Operand.tmp 25), type := 0, pos := "bits.go:249", after := #[{ on := 20, ground := Ground.data }, { on := 18, ground := Ground.data }, { on := 16, ground := Ground.chain }, { on := 0, ground := Ground.phase }, { on := 1, ground := Ground.phase }, { on := 2, ground := Ground.phase }, { on := 3, ground := Ground.phase }, { on := 4, ground := Ground.phase }, { on := 5, ground := Ground.phase }, { on := 6, ground := Ground.phase }, { on := 7, ground := Ground.phase }, { on := 8, ground := Ground.phase }, { on := 9, ground := Ground.phase }, { on := 10, ground := Ground.phase }, { on := 11, ground := Ground.phase }, { on := 12, ground := Ground.phase }, { on := 13, ground := Ground.phase }, { on := 14, ground := Ground.phase }, { on := 15, ground := Ground.phase }, { on := 16, ground := Ground.phase }, { on := 17, ground := Ground.phase }, { on := 18, ground := Ground.phase }, { on := 19, ground := Ground.textOnly Departure.lateStores }, { on := 20, ground := Ground.phase }], guard := none } : Oper)) rfl (fun K hK => ?_) ?_
          · skip
            go_simp
            have hA2 := hA5.set4 (x := U rv) (y := U rm) (z := U lo) (t := U hi) 0 rfl
            refine hK.out _ _ hA2.drop' (fun hHeld => ?_)
            clear hK K
            try simp only [Act.put, List.setIfInBounds_toArray, List.set_cons_zero, List.set_cons_succ]
            refine wpAnyH_take (i := 22) (oi := ({ dst := some 6, op := Op.assign (Operand.tmp 26), type := 4, pos := "bits.go:249", after := #[{ on := 19, ground := Ground.data }, { on := 21, ground := Ground.chain }, { on := 0, ground := Ground.phase }, { on := 1, ground := Ground.phase }, { on := 2, ground := Ground.phase }, { on := 3, ground := Ground.phase }, { on := 4, ground := Ground.phase }, { on := 5, ground := Ground.phase }, { on := 6, ground := Ground.phase }, { on := 7, ground := Ground.phase }, { on := 8, ground := Ground.phase }, { on := 9, ground := Ground.phase }, { on := 10, ground := Ground.phase }, { on := 11, ground := Ground.phase }, { on := 12, ground := Ground.phase }, { on := 13, ground := Ground.phase }, { on := 14, ground := Ground.phase }, { on := 15, ground := Ground.phase }, { on := 16, ground := Ground.phase }, { on := 17, ground := Ground.phase }, { on := 18, ground := Ground.phase }, { on := 19, ground := Ground.phase }, { on := 20, ground := Ground.phase }, { on := 21, ground := Ground.phase }], guard := none } : Oper)) (v := ?_) rfl (by kernel_rfl) (by kernel_rfl) (by kernel_rfl) (fun _ _ _ h => h) (Or.inl ⟨by rfl, ?_⟩) (by assumption) ?_
            rotate_left
            · intro wq hq
              go_simp
              try rfl
            simp only [Act.put, List.setIfInBounds_toArray, List.set_cons_zero, List.set_cons_succ]
            refine wpAnyH_done (by kernel_rfl) ?_ _
            go_wp2_with fail
            go_meet
            case rel => exact ⟨_, rfl, rfl, hA2⟩
          exact AllReadyH.nil
        exact AllReadyH.nil
      exact AllReadyH.nil
    exact AllReadyH.nil
  case rest =>
    obtain ⟨b, rfl, rfl, hK6⟩ := hcut
    obtain ⟨q0, q1, q2, q3, q4, q5, q6, q7, q8⟩ := hK6.box.head.four
    obtain ⟨r0, r1, r2, r3, r4, r5, r6, r7, r8⟩ := hK6.box.tail.head.four
    have hne : w.heap.size + 1 + 1 < b := hK6.box.2.1 _ (List.Mem.head _)
    go_wp2_with fail
    exact bodyPost_ret (v := Vl rv rm lo hi) (by simp [results, Try.results35, go_sem, r0, r1, r2, r3]) rfl ⟨rfl, (hK6.set4 1 rfl).bel⟩

end Go.Proofs.Ytkigmocchaikgaa

/- ValTells, walked. (Written by gen_l4.py.) -/
namespace Go.Proofs.Ytkigmocchaikgaa
open Go.RowKit Go.BigFrame
attribute [local go_sem] w_and w_or w_xor w_andNot w_and1 w_and63 w_add w_sub w_mul w_sub1 w_add1 w_shl w_shl1 w_shr c_beq c_bne c_beq0 c_bne0 c_beq1 c_bne1 wrap_nv
attribute [local go_sem] eqb_self

theorem all_norm (v m l h : BitVec 64) (r : Bool) (hr : eqb (band v m) zero = r) : ∃ a b c d i,
    Hid (∀ w, Calls Try.prog 31 #[Vl v m l h] w fun o w' => o = .returned (.tuple #[Vl a b c d, .bool i, N (er r)]) ∧ Below w.heap.size w w')
    ∧ Hid ((r = false ∧ i = false ∧ a = zero ∧ b = zero ∧ c = zero ∧ d = zero) ∨ (r = true ∧ Hid (∀ w, Calls Try.prog 33 #[Vl v m l h] w fun o w' => o = .returned (.tuple #[Vl a b c d, .bool i]) ∧ Below w.heap.size w w'))) := by
  cases r
  · exact ⟨zero, zero, zero, zero, false, hid (fun w => norm_wrong hr w), Or.inl ⟨rfl, rfl, rfl, rfl, rfl, rfl⟩⟩
  · cases ho : normOk v m l h
    · exact ⟨zero, zero, zero, zero, false, hid (fun w => norm_none hr ho w), Or.inr ⟨rfl, hid (fun w => normVal_none hr ho w)⟩⟩
    · exact ⟨_, _, _, _, true, hid (fun w => norm_yes hr ho w), Or.inr ⟨rfl, hid (fun w => normVal_yes hr ho w)⟩⟩
theorem all_vjoin (v m l h v' m' l' h' : BitVec 64) (r : Bool) (hr : (valB v m l h && valB v' m' l' h') = r) : ∃ a b c d,
    Hid (∀ w, Calls Try.prog 32 #[Vl v m l h, Vl v' m' l' h'] w fun o w' => o = .returned (.tuple #[Vl a b c d, N (er r)]) ∧ Below w.heap.size w w')
    ∧ Hid ((r = false ∧ a = zero ∧ b = zero ∧ c = zero ∧ d = zero) ∨ (r = true ∧ Hid (∀ w, Calls Try.prog 35 #[Vl v m l h, Vl v' m' l' h'] w fun o w' => o = .returned (Vl a b c d) ∧ Below w.heap.size w w'))) := by
  cases r
  · exact ⟨zero, zero, zero, zero, hid (fun w => valJoin_no hr w), Or.inl ⟨rfl, rfl, rfl, rfl, rfl⟩⟩
  · exact ⟨_, _, _, _, hid (fun w => valJoin_yes hr w), Or.inr ⟨rfl, hid (fun w => joinVal_yes hr w)⟩⟩

set_option maxRecDepth 100000 in
set_option maxHeartbeats 8000000 in
theorem valTells_any (v m l h v' m' l' h' x : BitVec 64) (w : World) :
    Calls Try.prog 6 #[Vl v m l h, Vl v' m' l' h', U x] w fun e w' => e = .returned (.bool true) ∧ Below w.heap.size w w' := by
  obtain ⟨ra, hra⟩ : ∃ r, Hid (eqb (band v m) zero = r) := ⟨_, rfl⟩
  obtain ⟨r1, V1⟩ : ∃ r, Hid (valB v m l h = r) := ⟨_, rfl⟩
  obtain ⟨r2, V2⟩ : ∃ r, Hid (valB v' m' l' h' = r) := ⟨_, rfl⟩
  obtain ⟨r, hr⟩ : ∃ r, Hid (r = (r1 && r2)) := ⟨_, rfl⟩
  have hab : (valB v m l h && valB v' m' l' h') = r := by rw [V1.out, V2.out, hr.out]
  obtain ⟨a, b, c, d, i, N1, N2⟩ := all_norm v m l h ra hra.out
  obtain ⟨ja, jb, jc, jd, J1, J2⟩ := all_vjoin v m l h v' m' l' h' r hab
  clear hab
  go_enter Try.func6, Try.ntmps6
  go_wp2_with fail
  refine (N1.out _).mono ?_
  rintro e w1 ⟨rfl, hb1⟩
  have hB1 := (((Kp.start w).add4 _ _ _ _ _).add4 _ _ _ _ _).keep hb1
  simp only [World.size_alloc] at hB1
  obtain ⟨g0, g1, g2, g3, g4, g5, g6, g7, g8⟩ := hB1.box.head.four
  obtain ⟨f0, f1, f2, f3, f4, f5, f6, f7, f8⟩ := hB1.box.tail.head.four
  go_wp2_with fail
  refine (J1.out _).mono ?_
  rintro e w2 ⟨rfl, hb2⟩
  have hB2 := (hB1.add4 _ _ _ _ _).keep hb2
  clear g0 g1 g2 g3 g4 g5 g6 g7 g8 f0 f1 f2 f3 f4 f5 f6 f7 f8
  have hZ := ((hB2.add4 (U ja) (U jb) (U jc) (U jd) 49).add4 (.int .u64 0) (.int .u64 0) (.int .u64 0) (.int .u64 0) 49).add4 (.int .u64 0) (.int .u64 0) (.int .u64 0) (.int .u64 0) 49
  simp only [World.size_alloc] at hZ
  go_upto_region 6 with fail
  obtain ⟨f0, f1, f2, f3, f4, f5, f6, f7, f8⟩ := hZ.box.tail.tail.tail.tail.tail.head.four
  go_wp2_with fail
  refine (right_is hra.out _).mono ?_
  rintro e w3 ⟨rfl, hb3⟩
  have hB3 := hZ.keep hb3
  clear f0 f1 f2 f3 f4 f5 f6 f7 f8
  clear hZ
  go_upto_if 31 with fail
  clear hB1 hB2 hb1 hb2 hb3 N1 J1
  go_cut [12, 16] (fun u t wd => u = N (er ra) ∧ t = .bool i ∧ Kp w wd [(w2.heap.size + 1 + 1, [.int .u64 0, .int .u64 0, .int .u64 0, .int .u64 0]), (w2.heap.size + 1, [U a, U b, U c, U d]), (w2.heap.size, [U ja, U jb, U jc, U jd]), (w1.heap.size, [U a, U b, U c, U d]), (w.heap.size + 1, [U v', U m', U l', U h']), (w.heap.size, [U v, U m, U l, U h])])
  case first =>
    as_aux_lemma =>
      clear J2 hr V1 V2
      obtain ⟨j0, j1, j2, j3, j4, j5, j6, j7, j8⟩ := hB3.box.head.four
      obtain ⟨n0, n1, n2, n3, n4, n5, n6, n7, n8⟩ := hB3.box.tail.head.four
      obtain ⟨g0, g1, g2, g3, g4, g5, g6, g7, g8⟩ := hB3.box.tail.tail.tail.tail.head.four
      obtain ⟨f0, f1, f2, f3, f4, f5, f6, f7, f8⟩ := hB3.box.tail.tail.tail.tail.tail.head.four
      rcases N2.out with ⟨rfl, rfl, rfl, rfl, rfl, rfl⟩ | ⟨rfl, N3⟩
      · go_wp2_with fail
        go_meet
        case rel => exact ⟨rfl, rfl, hB3⟩
      · go_wp2_with fail
        refine (N3.out _).mono ?_
        rintro e w4 ⟨rfl, hb4⟩
        have hB4 := hB3.keep hb4
        clear j0 j1 j2 j3 j4 j5 j6 j7 j8 n0 n1 n2 n3 n4 n5 n6 n7 n8 g0 g1 g2 g3 g4 g5 g6 g7 g8 f0 f1 f2 f3 f4 f5 f6 f7 f8
        obtain ⟨j0, j1, j2, j3, j4, j5, j6, j7, j8⟩ := hB4.box.head.four
        obtain ⟨n0, n1, n2, n3, n4, n5, n6, n7, n8⟩ := hB4.box.tail.head.four
        obtain ⟨g0, g1, g2, g3, g4, g5, g6, g7, g8⟩ := hB4.box.tail.tail.tail.tail.head.four
        obtain ⟨f0, f1, f2, f3, f4, f5, f6, f7, f8⟩ := hB4.box.tail.tail.tail.tail.tail.head.four
        go_wp2_with fail
        go_meet
        case rel => exact ⟨rfl, rfl, hB4.set4 1 rfl⟩
  case rest =>
  clear hB3 N2
  obtain ⟨rfl, rfl, hK1⟩ := hcut
  go_upto_region 9 with fail
  go_cut [42] (fun t wd => t = .bool r ∧ Kp w wd [(w2.heap.size + 1 + 1, [.int .u64 0, .int .u64 0, .int .u64 0, .int .u64 0]), (w2.heap.size + 1, [U a, U b, U c, U d]), (w2.heap.size, [U ja, U jb, U jc, U jd]), (w1.heap.size, [U a, U b, U c, U d]), (w.heap.size + 1, [U v', U m', U l', U h']), (w.heap.size, [U v, U m, U l, U h])])
  case first =>
    as_aux_lemma =>
      clear J2 hra
      obtain ⟨g0, g1, g2, g3, g4, g5, g6, g7, g8⟩ := hK1.box.tail.tail.tail.tail.head.four
      obtain ⟨f0, f1, f2, f3, f4, f5, f6, f7, f8⟩ := hK1.box.tail.tail.tail.tail.tail.head.four
      go_wp2_with fail
      refine (rightV V1.out _).mono ?_
      rintro e w3 ⟨rfl, hb3⟩
      have hK2 := hK1.keep hb3
      clear g0 g1 g2 g3 g4 g5 g6 g7 g8 f0 f1 f2 f3 f4 f5 f6 f7 f8
      obtain ⟨g0, g1, g2, g3, g4, g5, g6, g7, g8⟩ := hK2.box.tail.tail.tail.tail.head.four
      obtain ⟨f0, f1, f2, f3, f4, f5, f6, f7, f8⟩ := hK2.box.tail.tail.tail.tail.tail.head.four
      cases r1
      · go_wp2_with fail
        go_meet
        case rel => exact ⟨by rw [hr.out]; rfl, hK2⟩
      · go_wp2_with fail
        refine (rightV V2.out _).mono ?_
        rintro e w4 ⟨rfl, hb4⟩
        have hK3 := hK2.keep hb4
        go_wp2_with fail
        go_meet
        case rel => exact ⟨by rw [hr.out]; rfl, hK3⟩
  case rest =>
  clear hK1 hr
  obtain ⟨rfl, hK1⟩ := hcut
  go_upto_if 42 with fail
  go_cut [13] (fun t wd => t = N (er r) ∧ Kp w wd [(w2.heap.size + 1 + 1, [U ja, U jb, U jc, U jd]), (w2.heap.size + 1, [U a, U b, U c, U d]), (w2.heap.size, [U ja, U jb, U jc, U jd]), (w1.heap.size, [U a, U b, U c, U d]), (w.heap.size + 1, [U v', U m', U l', U h']), (w.heap.size, [U v, U m, U l, U h])])
  case first =>
    as_aux_lemma =>
      clear hra V1 V2
      obtain ⟨j0, j1, j2, j3, j4, j5, j6, j7, j8⟩ := hK1.box.head.four
      obtain ⟨n0, n1, n2, n3, n4, n5, n6, n7, n8⟩ := hK1.box.tail.head.four
      obtain ⟨g0, g1, g2, g3, g4, g5, g6, g7, g8⟩ := hK1.box.tail.tail.tail.tail.head.four
      obtain ⟨f0, f1, f2, f3, f4, f5, f6, f7, f8⟩ := hK1.box.tail.tail.tail.tail.tail.head.four
      rcases J2.out with ⟨rfl, rfl, rfl, rfl, rfl⟩ | ⟨rfl, J3⟩
      · go_wp2_with fail
        go_meet
        case rel => exact ⟨rfl, hK1⟩
      · go_wp2_with fail
        refine (J3.out _).mono ?_
        rintro e w4 ⟨rfl, hb4⟩
        have hK2 := hK1.keep hb4
        clear j0 j1 j2 j3 j4 j5 j6 j7 j8 n0 n1 n2 n3 n4 n5 n6 n7 n8 g0 g1 g2 g3 g4 g5 g6 g7 g8 f0 f1 f2 f3 f4 f5 f6 f7 f8
        obtain ⟨j0, j1, j2, j3, j4, j5, j6, j7, j8⟩ := hK2.box.head.four
        obtain ⟨n0, n1, n2, n3, n4, n5, n6, n7, n8⟩ := hK2.box.tail.head.four
        obtain ⟨g0, g1, g2, g3, g4, g5, g6, g7, g8⟩ := hK2.box.tail.tail.tail.tail.head.four
        obtain ⟨f0, f1, f2, f3, f4, f5, f6, f7, f8⟩ := hK2.box.tail.tail.tail.tail.tail.head.four
        go_wp2_with fail
        go_meet
        case rel => exact ⟨rfl, hK2.set4 0 rfl⟩
  case rest =>
  clear hK1 J2 V2
  obtain ⟨rfl, hK1⟩ := hcut
  have hEE : (er r1 == 0) = r1 := er_eq0 r1
  go_upto_region 12 with fail
  as_aux_lemma =>
    simp only [List.append]
    refine region_class (fun w' => ∃ n : Cl w [(w2.heap.size + 1 + 1, [U ja, U jb, U jc, U jd]), (w2.heap.size + 1, [U a, U b, U c, U d]), (w2.heap.size, [U ja, U jb, U jc, U jd]), (w1.heap.size, [U a, U b, U c, U d]), (w.heap.size + 1, [U v', U m', U l', U h']), (w.heap.size, [U v, U m, U l, U h])], w' = n.val) (by kernel_rfl) (by kernel_rfl) (Cl.start hK1) ?_
    haveI : Nonempty (Cl w [(w2.heap.size + 1 + 1, [U ja, U jb, U jc, U jd]), (w2.heap.size + 1, [U a, U b, U c, U d]), (w2.heap.size, [U ja, U jb, U jc, U jd]), (w1.heap.size, [U a, U b, U c, U d]), (w.heap.size + 1, [U v', U m', U l', U h']), (w.heap.size, [U v, U m, U l, U h])]) := Cl.some hK1
    have hq0x0 : ∀ n : Cl w [(w2.heap.size + 1 + 1, [U ja, U jb, U jc, U jd]), (w2.heap.size + 1, [U a, U b, U c, U d]), (w2.heap.size, [U ja, U jb, U jc, U jd]), (w1.heap.size, [U a, U b, U c, U d]), (w.heap.size + 1, [U v', U m', U l', U h']), (w.heap.size, [U v, U m, U l, U h])], n.val.cell? ⟨w2.heap.size + 1 + 1, 0, none⟩ = some (U ja) := fun n => (n.kp.box.head.four).1
    have hq0x1 : ∀ n : Cl w [(w2.heap.size + 1 + 1, [U ja, U jb, U jc, U jd]), (w2.heap.size + 1, [U a, U b, U c, U d]), (w2.heap.size, [U ja, U jb, U jc, U jd]), (w1.heap.size, [U a, U b, U c, U d]), (w.heap.size + 1, [U v', U m', U l', U h']), (w.heap.size, [U v, U m, U l, U h])], n.val.cell? ⟨w2.heap.size + 1 + 1, 1, none⟩ = some (U jb) := fun n => (n.kp.box.head.four).2.1
    have hq0x2 : ∀ n : Cl w [(w2.heap.size + 1 + 1, [U ja, U jb, U jc, U jd]), (w2.heap.size + 1, [U a, U b, U c, U d]), (w2.heap.size, [U ja, U jb, U jc, U jd]), (w1.heap.size, [U a, U b, U c, U d]), (w.heap.size + 1, [U v', U m', U l', U h']), (w.heap.size, [U v, U m, U l, U h])], n.val.cell? ⟨w2.heap.size + 1 + 1, 2, none⟩ = some (U jc) := fun n => (n.kp.box.head.four).2.2.1
    have hq0x3 : ∀ n : Cl w [(w2.heap.size + 1 + 1, [U ja, U jb, U jc, U jd]), (w2.heap.size + 1, [U a, U b, U c, U d]), (w2.heap.size, [U ja, U jb, U jc, U jd]), (w1.heap.size, [U a, U b, U c, U d]), (w.heap.size + 1, [U v', U m', U l', U h']), (w.heap.size, [U v, U m, U l, U h])], n.val.cell? ⟨w2.heap.size + 1 + 1, 3, none⟩ = some (U jd) := fun n => (n.kp.box.head.four).2.2.2.1
    have hq1x0 : ∀ n : Cl w [(w2.heap.size + 1 + 1, [U ja, U jb, U jc, U jd]), (w2.heap.size + 1, [U a, U b, U c, U d]), (w2.heap.size, [U ja, U jb, U jc, U jd]), (w1.heap.size, [U a, U b, U c, U d]), (w.heap.size + 1, [U v', U m', U l', U h']), (w.heap.size, [U v, U m, U l, U h])], n.val.cell? ⟨w2.heap.size + 1, 0, none⟩ = some (U a) := fun n => (n.kp.box.tail.head.four).1
    have hq1x1 : ∀ n : Cl w [(w2.heap.size + 1 + 1, [U ja, U jb, U jc, U jd]), (w2.heap.size + 1, [U a, U b, U c, U d]), (w2.heap.size, [U ja, U jb, U jc, U jd]), (w1.heap.size, [U a, U b, U c, U d]), (w.heap.size + 1, [U v', U m', U l', U h']), (w.heap.size, [U v, U m, U l, U h])], n.val.cell? ⟨w2.heap.size + 1, 1, none⟩ = some (U b) := fun n => (n.kp.box.tail.head.four).2.1
    have hq1x2 : ∀ n : Cl w [(w2.heap.size + 1 + 1, [U ja, U jb, U jc, U jd]), (w2.heap.size + 1, [U a, U b, U c, U d]), (w2.heap.size, [U ja, U jb, U jc, U jd]), (w1.heap.size, [U a, U b, U c, U d]), (w.heap.size + 1, [U v', U m', U l', U h']), (w.heap.size, [U v, U m, U l, U h])], n.val.cell? ⟨w2.heap.size + 1, 2, none⟩ = some (U c) := fun n => (n.kp.box.tail.head.four).2.2.1
    have hq1x3 : ∀ n : Cl w [(w2.heap.size + 1 + 1, [U ja, U jb, U jc, U jd]), (w2.heap.size + 1, [U a, U b, U c, U d]), (w2.heap.size, [U ja, U jb, U jc, U jd]), (w1.heap.size, [U a, U b, U c, U d]), (w.heap.size + 1, [U v', U m', U l', U h']), (w.heap.size, [U v, U m, U l, U h])], n.val.cell? ⟨w2.heap.size + 1, 3, none⟩ = some (U d) := fun n => (n.kp.box.tail.head.four).2.2.2.1
    have hq2x0 : ∀ n : Cl w [(w2.heap.size + 1 + 1, [U ja, U jb, U jc, U jd]), (w2.heap.size + 1, [U a, U b, U c, U d]), (w2.heap.size, [U ja, U jb, U jc, U jd]), (w1.heap.size, [U a, U b, U c, U d]), (w.heap.size + 1, [U v', U m', U l', U h']), (w.heap.size, [U v, U m, U l, U h])], n.val.cell? ⟨w2.heap.size, 0, none⟩ = some (U ja) := fun n => (n.kp.box.tail.tail.head.four).1
    have hq2x1 : ∀ n : Cl w [(w2.heap.size + 1 + 1, [U ja, U jb, U jc, U jd]), (w2.heap.size + 1, [U a, U b, U c, U d]), (w2.heap.size, [U ja, U jb, U jc, U jd]), (w1.heap.size, [U a, U b, U c, U d]), (w.heap.size + 1, [U v', U m', U l', U h']), (w.heap.size, [U v, U m, U l, U h])], n.val.cell? ⟨w2.heap.size, 1, none⟩ = some (U jb) := fun n => (n.kp.box.tail.tail.head.four).2.1
    have hq2x2 : ∀ n : Cl w [(w2.heap.size + 1 + 1, [U ja, U jb, U jc, U jd]), (w2.heap.size + 1, [U a, U b, U c, U d]), (w2.heap.size, [U ja, U jb, U jc, U jd]), (w1.heap.size, [U a, U b, U c, U d]), (w.heap.size + 1, [U v', U m', U l', U h']), (w.heap.size, [U v, U m, U l, U h])], n.val.cell? ⟨w2.heap.size, 2, none⟩ = some (U jc) := fun n => (n.kp.box.tail.tail.head.four).2.2.1
    have hq2x3 : ∀ n : Cl w [(w2.heap.size + 1 + 1, [U ja, U jb, U jc, U jd]), (w2.heap.size + 1, [U a, U b, U c, U d]), (w2.heap.size, [U ja, U jb, U jc, U jd]), (w1.heap.size, [U a, U b, U c, U d]), (w.heap.size + 1, [U v', U m', U l', U h']), (w.heap.size, [U v, U m, U l, U h])], n.val.cell? ⟨w2.heap.size, 3, none⟩ = some (U jd) := fun n => (n.kp.box.tail.tail.head.four).2.2.2.1
    have hq3x0 : ∀ n : Cl w [(w2.heap.size + 1 + 1, [U ja, U jb, U jc, U jd]), (w2.heap.size + 1, [U a, U b, U c, U d]), (w2.heap.size, [U ja, U jb, U jc, U jd]), (w1.heap.size, [U a, U b, U c, U d]), (w.heap.size + 1, [U v', U m', U l', U h']), (w.heap.size, [U v, U m, U l, U h])], n.val.cell? ⟨w1.heap.size, 0, none⟩ = some (U a) := fun n => (n.kp.box.tail.tail.tail.head.four).1
    have hq3x1 : ∀ n : Cl w [(w2.heap.size + 1 + 1, [U ja, U jb, U jc, U jd]), (w2.heap.size + 1, [U a, U b, U c, U d]), (w2.heap.size, [U ja, U jb, U jc, U jd]), (w1.heap.size, [U a, U b, U c, U d]), (w.heap.size + 1, [U v', U m', U l', U h']), (w.heap.size, [U v, U m, U l, U h])], n.val.cell? ⟨w1.heap.size, 1, none⟩ = some (U b) := fun n => (n.kp.box.tail.tail.tail.head.four).2.1
    have hq3x2 : ∀ n : Cl w [(w2.heap.size + 1 + 1, [U ja, U jb, U jc, U jd]), (w2.heap.size + 1, [U a, U b, U c, U d]), (w2.heap.size, [U ja, U jb, U jc, U jd]), (w1.heap.size, [U a, U b, U c, U d]), (w.heap.size + 1, [U v', U m', U l', U h']), (w.heap.size, [U v, U m, U l, U h])], n.val.cell? ⟨w1.heap.size, 2, none⟩ = some (U c) := fun n => (n.kp.box.tail.tail.tail.head.four).2.2.1
    have hq3x3 : ∀ n : Cl w [(w2.heap.size + 1 + 1, [U ja, U jb, U jc, U jd]), (w2.heap.size + 1, [U a, U b, U c, U d]), (w2.heap.size, [U ja, U jb, U jc, U jd]), (w1.heap.size, [U a, U b, U c, U d]), (w.heap.size + 1, [U v', U m', U l', U h']), (w.heap.size, [U v, U m, U l, U h])], n.val.cell? ⟨w1.heap.size, 3, none⟩ = some (U d) := fun n => (n.kp.box.tail.tail.tail.head.four).2.2.2.1
    have hq4x0 : ∀ n : Cl w [(w2.heap.size + 1 + 1, [U ja, U jb, U jc, U jd]), (w2.heap.size + 1, [U a, U b, U c, U d]), (w2.heap.size, [U ja, U jb, U jc, U jd]), (w1.heap.size, [U a, U b, U c, U d]), (w.heap.size + 1, [U v', U m', U l', U h']), (w.heap.size, [U v, U m, U l, U h])], n.val.cell? ⟨w.heap.size + 1, 0, none⟩ = some (U v') := fun n => (n.kp.box.tail.tail.tail.tail.head.four).1
    have hq4x1 : ∀ n : Cl w [(w2.heap.size + 1 + 1, [U ja, U jb, U jc, U jd]), (w2.heap.size + 1, [U a, U b, U c, U d]), (w2.heap.size, [U ja, U jb, U jc, U jd]), (w1.heap.size, [U a, U b, U c, U d]), (w.heap.size + 1, [U v', U m', U l', U h']), (w.heap.size, [U v, U m, U l, U h])], n.val.cell? ⟨w.heap.size + 1, 1, none⟩ = some (U m') := fun n => (n.kp.box.tail.tail.tail.tail.head.four).2.1
    have hq4x2 : ∀ n : Cl w [(w2.heap.size + 1 + 1, [U ja, U jb, U jc, U jd]), (w2.heap.size + 1, [U a, U b, U c, U d]), (w2.heap.size, [U ja, U jb, U jc, U jd]), (w1.heap.size, [U a, U b, U c, U d]), (w.heap.size + 1, [U v', U m', U l', U h']), (w.heap.size, [U v, U m, U l, U h])], n.val.cell? ⟨w.heap.size + 1, 2, none⟩ = some (U l') := fun n => (n.kp.box.tail.tail.tail.tail.head.four).2.2.1
    have hq4x3 : ∀ n : Cl w [(w2.heap.size + 1 + 1, [U ja, U jb, U jc, U jd]), (w2.heap.size + 1, [U a, U b, U c, U d]), (w2.heap.size, [U ja, U jb, U jc, U jd]), (w1.heap.size, [U a, U b, U c, U d]), (w.heap.size + 1, [U v', U m', U l', U h']), (w.heap.size, [U v, U m, U l, U h])], n.val.cell? ⟨w.heap.size + 1, 3, none⟩ = some (U h') := fun n => (n.kp.box.tail.tail.tail.tail.head.four).2.2.2.1
    have hq5x0 : ∀ n : Cl w [(w2.heap.size + 1 + 1, [U ja, U jb, U jc, U jd]), (w2.heap.size + 1, [U a, U b, U c, U d]), (w2.heap.size, [U ja, U jb, U jc, U jd]), (w1.heap.size, [U a, U b, U c, U d]), (w.heap.size + 1, [U v', U m', U l', U h']), (w.heap.size, [U v, U m, U l, U h])], n.val.cell? ⟨w.heap.size, 0, none⟩ = some (U v) := fun n => (n.kp.box.tail.tail.tail.tail.tail.head.four).1
    have hq5x1 : ∀ n : Cl w [(w2.heap.size + 1 + 1, [U ja, U jb, U jc, U jd]), (w2.heap.size + 1, [U a, U b, U c, U d]), (w2.heap.size, [U ja, U jb, U jc, U jd]), (w1.heap.size, [U a, U b, U c, U d]), (w.heap.size + 1, [U v', U m', U l', U h']), (w.heap.size, [U v, U m, U l, U h])], n.val.cell? ⟨w.heap.size, 1, none⟩ = some (U m) := fun n => (n.kp.box.tail.tail.tail.tail.tail.head.four).2.1
    have hq5x2 : ∀ n : Cl w [(w2.heap.size + 1 + 1, [U ja, U jb, U jc, U jd]), (w2.heap.size + 1, [U a, U b, U c, U d]), (w2.heap.size, [U ja, U jb, U jc, U jd]), (w1.heap.size, [U a, U b, U c, U d]), (w.heap.size + 1, [U v', U m', U l', U h']), (w.heap.size, [U v, U m, U l, U h])], n.val.cell? ⟨w.heap.size, 2, none⟩ = some (U l) := fun n => (n.kp.box.tail.tail.tail.tail.tail.head.four).2.2.1
    have hq5x3 : ∀ n : Cl w [(w2.heap.size + 1 + 1, [U ja, U jb, U jc, U jd]), (w2.heap.size + 1, [U a, U b, U c, U d]), (w2.heap.size, [U ja, U jb, U jc, U jd]), (w1.heap.size, [U a, U b, U c, U d]), (w.heap.size + 1, [U v', U m', U l', U h']), (w.heap.size, [U v, U m, U l, U h])], n.val.cell? ⟨w.heap.size, 3, none⟩ = some (U h) := fun n => (n.kp.box.tail.tail.tail.tail.tail.head.four).2.2.2.1
    repeat (go_big_quiet_step (first | (go_at_call 36; exact Cl.of (valBegun_any _)) | (go_at_call 37; exact Cl.of (checkV V1.out _)) | (go_at_call 34; exact Cl.of (rightV V1.out _)) | (go_at_call 38; exact Cl.of (valHas_any _ _ _ _ _ _)) | (go_at_call 39; exact Cl.of (refValHas_any _ _ _ _ _ _)) | (go_at_call 40; exact Cl.of (valOf_any _ _)) | (go_at_call 41; exact Cl.of (refValOf_any _ _)) | (go_at_call 42; exact Cl.of (valAny_any _)) | (go_at_call 43; exact Cl.of (refValAny_any _)) | (go_at_call 44; exact Cl.of (valInside_any _ _ _ _ _ _ _ _ _)) | (go_at_call 45; exact Cl.of (insideVal_any _ _ _ _ _ _ _ _ _))))
    refine wpQuiet_nil ?_
    rintro _ ⟨⟨wq, hq⟩, rfl⟩
    go_wp2
    go_ret
    exact ⟨rfl, hq.bel⟩

end Go.Proofs.Ytkigmocchaikgaa

/- Bounds of what is reckoned of two numbers: plain facts. -/
namespace Go.Proofs.Ytkigmocchaikgaa

theorem nv_add (x y : BitVec 64) : nv (badd x y) = (nv x + nv y) % 18446744073709551616 := by
  unfold nv badd; rw [BitVec.toNat_add]; omega
theorem nv_sub (x y : BitVec 64) : nv (bsub x y) = (nv x - nv y) % 18446744073709551616 := by
  rw [← w_sub, IntKind.wrap_u64]
theorem nv_mul (x y : BitVec 64) : nv (bmul x y) = (nv x * nv y) % 18446744073709551616 := by
  rw [← w_mul, IntKind.wrap_u64]
theorem nv_shl (x : BitVec 64) (n : Nat) : nv (bshl x n) = (nv x * 2 ^ n) % 18446744073709551616 := by
  rw [← w_shl, IntKind.wrap_u64]
theorem nv_shr (x : BitVec 64) (n : Nat) : nv (bshr x n) = nv x / 2 ^ n := (w_shr x n).symm

def addB (l h l' h' : BitVec 64) : BitVec 64 × BitVec 64 := if decide (nv (badd l l') < nv l) = decide (nv (badd h h') < nv h) then (badd l l', badd h h') else (zero, top)
def subB (l h l' h' : BitVec 64) : BitVec 64 × BitVec 64 := if decide (nv l < nv h') = decide (nv h < nv l') then (bsub l h', bsub h l') else (zero, top)
def overB (x y : BitVec 64) : Bool := !eqb y zero && decide (18446744073709551615 / nv y < nv x)
def mulB (l h l' h' : BitVec 64) : BitVec 64 × BitVec 64 := if overB h h' then (zero, top) else (bmul l l', bmul h h')
def boundsP (op : Int) (l h l' h' : BitVec 64) : BitVec 64 × BitVec 64 :=
  if op = 2 then addB l h l' h' else if op = 3 then subB l h l' h' else if op = 4 then mulB l h l' h'
  else if op = 5 then (zero, bmin h h') else if op = 6 then (bmax l l', top) else (zero, top)
def shlB (l h : BitVec 64) (n : Nat) : BitVec 64 × BitVec 64 := if eqb (bshr (bshl h n) n) h then (bshl l n, bshl h n) else (zero, top)

theorem ends (x : BitVec 64) : nv zero ≤ nv x ∧ nv x ≤ nv top := by
  rw [nv_zero, nv_top]
  have := nv_nonneg x
  have := nv_lt x
  omega
theorem add_bounds {l h l' h' x y : BitVec 64} (h1 : nv l ≤ nv x) (h2 : nv x ≤ nv h) (h3 : nv l' ≤ nv y) (h4 : nv y ≤ nv h') : nv (addB l h l' h').1 ≤ nv (badd x y) ∧ nv (badd x y) ≤ nv (addB l h l' h').2 := by
  unfold addB
  split
  · rename_i he
    have a1 := nv_nonneg l; have a2 := nv_lt h; have a3 := nv_nonneg l'; have a4 := nv_lt h'
    have he' : nv (badd l l') < nv l ↔ nv (badd h h') < nv h := by simpa using he
    simp only [nv_add] at he' ⊢
    omega
  · exact ends _
theorem sub_bounds {l h l' h' x y : BitVec 64} (h1 : nv l ≤ nv x) (h2 : nv x ≤ nv h) (h3 : nv l' ≤ nv y) (h4 : nv y ≤ nv h') : nv (subB l h l' h').1 ≤ nv (bsub x y) ∧ nv (bsub x y) ≤ nv (subB l h l' h').2 := by
  unfold subB
  split
  · rename_i he
    have a1 := nv_nonneg l; have a2 := nv_lt h; have a3 := nv_nonneg l'; have a4 := nv_lt h'
    have he' : nv l < nv h' ↔ nv h < nv l' := by simpa using he
    simp only [nv_sub]
    omega
  · exact ends _
theorem mul_bounds {l h l' h' x y : BitVec 64} (h1 : nv l ≤ nv x) (h2 : nv x ≤ nv h) (h3 : nv l' ≤ nv y) (h4 : nv y ≤ nv h') : nv (mulB l h l' h').1 ≤ nv (bmul x y) ∧ nv (bmul x y) ≤ nv (mulB l h l' h').2 := by
  unfold mulB
  split
  · exact ends _
  · rename_i ho
    have a1 := nv_nonneg l; have a3 := nv_nonneg l'
    have hx0 : 0 ≤ nv x := by omega
    have hy0 : 0 ≤ nv y := by omega
    have hbig : nv h * nv h' ≤ 18446744073709551615 := by
      unfold overB at ho
      cases hz : eqb h' zero
      · rw [hz] at ho
        simp only [Bool.not_false, Bool.true_and, decide_eq_true_eq, Int.not_lt] at ho
        have hp : 0 < nv h' := by
          have hne : h' ≠ zero := (eqb_false _ _).1 hz
          have : nv h' ≠ 0 := fun e => hne (nv_inj _ _ (by rw [e, nv_zero]))
          have := nv_nonneg h'
          omega
        have hm : nv h * nv h' ≤ (18446744073709551615 / nv h') * nv h' := Int.mul_le_mul_of_nonneg_right ho (by omega)
        have hd : (18446744073709551615 / nv h') * nv h' ≤ 18446744073709551615 := Int.ediv_mul_le _ (by omega)
        omega
      · rw [(eqb_iff _ _).1 hz, nv_zero]; omega
    have hlo : nv l * nv l' ≤ nv x * nv y := Int.mul_le_mul h1 h3 a3 hx0
    have hhi : nv x * nv y ≤ nv h * nv h' := Int.mul_le_mul h2 h4 hy0 (by omega)
    have h00 : 0 ≤ nv l * nv l' := Int.mul_nonneg a1 a3
    simp only [nv_mul]
    generalize nv l * nv l' = p at *
    generalize nv x * nv y = q at *
    generalize nv h * nv h' = r at *
    omega
theorem and_le (x y : BitVec 64) : nv (band x y) ≤ nv x ∧ nv (band x y) ≤ nv y := by
  unfold nv band
  rw [BitVec.toNat_and]
  have h1 : x.toNat &&& y.toNat ≤ x.toNat := Nat.and_le_left
  have h2 : x.toNat &&& y.toNat ≤ y.toNat := Nat.and_le_right
  omega
theorem le_or (x y : BitVec 64) : nv x ≤ nv (bor x y) ∧ nv y ≤ nv (bor x y) := by
  unfold nv bor
  rw [BitVec.toNat_or]
  have h1 : x.toNat ≤ x.toNat ||| y.toNat := Nat.left_le_or
  have h2 : y.toNat ≤ x.toNat ||| y.toNat := Nat.right_le_or
  omega
theorem bounds_sound {op : Int} (hop : 2 ≤ op ∧ op ≤ 7) {l h l' h' x y : BitVec 64} (h1 : nv l ≤ nv x) (h2 : nv x ≤ nv h) (h3 : nv l' ≤ nv y) (h4 : nv y ≤ nv h') :
    nv (boundsP op l h l' h').1 ≤ nv (numB op x y) ∧ nv (numB op x y) ≤ nv (boundsP op l h l' h').2 := by
  rcases op_cases hop with rfl | rfl | rfl | rfl | rfl | rfl
  · exact add_bounds h1 h2 h3 h4
  · exact sub_bounds h1 h2 h3 h4
  · exact mul_bounds h1 h2 h3 h4
  · show nv zero ≤ nv (band x y) ∧ nv (band x y) ≤ nv (bmin h h')
    have ha := and_le x y
    exact ⟨(ends _).1, le_bmin (by omega) (by omega)⟩
  · show nv (bmax l l') ≤ nv (bor x y) ∧ nv (bor x y) ≤ nv top
    have ha := le_or x y
    exact ⟨bmax_le (by omega) (by omega), (ends _).2⟩
  · exact ends _
theorem shr_bounds {l h x : BitVec 64} (n : Nat) (h1 : nv l ≤ nv x) (h2 : nv x ≤ nv h) : nv (bshr l n) ≤ nv (bshr x n) ∧ nv (bshr x n) ≤ nv (bshr h n) := by
  simp only [nv_shr]
  have hp : (0 : Int) < 2 ^ n := Int.pow_pos (by decide)
  exact ⟨Int.ediv_le_ediv hp h1, Int.ediv_le_ediv hp h2⟩
theorem shr_le (x : BitVec 64) (n : Nat) : nv (bshr x n) ≤ nv x := by
  rw [nv_shr]
  exact Int.ediv_le_self _ (nv_nonneg x)
theorem shl_bounds {l h x : BitVec 64} (n : Nat) (h1 : nv l ≤ nv x) (h2 : nv x ≤ nv h) : nv (shlB l h n).1 ≤ nv (bshl x n) ∧ nv (bshl x n) ≤ nv (shlB l h n).2 := by
  unfold shlB
  split
  · rename_i he
    have he' := (eqb_iff _ _).1 he
    have hn : nv (bshr (bshl h n) n) = nv h := by rw [he']
    rw [nv_shr, nv_shl] at hn
    have hp : (0 : Int) < 2 ^ n := Int.pow_pos (by decide)
    have hh0 := nv_nonneg h
    have hlt : nv h * 2 ^ n < 18446744073709551616 := by
      have hd := Int.ediv_mul_le (nv h * 2 ^ n % 18446744073709551616) (b := 2 ^ n) (by omega)
      rw [hn] at hd
      have hm := Int.emod_lt_of_pos (nv h * 2 ^ n) (show (0 : Int) < 18446744073709551616 by decide)
      omega
    have a1 := nv_nonneg l
    have g1 : nv l * 2 ^ n ≤ nv x * 2 ^ n := Int.mul_le_mul_of_nonneg_right h1 (by omega)
    have g2 : nv x * 2 ^ n ≤ nv h * 2 ^ n := Int.mul_le_mul_of_nonneg_right h2 (by omega)
    have g0 : 0 ≤ nv l * 2 ^ n := Int.mul_nonneg a1 (by omega)
    simp only [nv_shl]
    generalize nv l * 2 ^ n = p at *
    generalize nv x * 2 ^ n = q at *
    generalize nv h * 2 ^ n = r at *
    omega
  · exact ends _

/- what is left of both -/
theorem raw_narrow {v m l h x : BitVec 64} (hx : hasV v m l h x = true) {l2 h2 : BitVec 64} (h1 : nv l2 ≤ nv x) (h3 : nv x ≤ nv h2) : rawV v m l2 h2 x = true := by
  unfold hasV at hx
  simp only [Bool.and_eq_true, decide_eq_true_eq] at hx
  unfold rawV
  simp only [Bool.and_eq_true, decide_eq_true_eq]
  exact ⟨hx.2.1, h1, h3⟩
theorem raw_norm {v m l h x : BitVec 64} (hr : RtB v m) (hx : rawV v m l h x = true) :
    normOk v m l h = true ∧ hasV (nV v m l h) (nM m (nLo v m l) (nHi v m h)) (nLo v m l) (nHi v m h) x = true := by
  have := norm_has hr (l := l) (h := h) x
  rw [hx] at this
  have h2 := this.symm
  rw [Bool.and_eq_true] at h2
  exact h2

end Go.Proofs.Ytkigmocchaikgaa

/- The contracts of package calc's bounds. -/
namespace Go.Proofs.Ytkigmocchaikgaa
open Go.RowKit
attribute [local go_sem] w_and w_or w_xor w_andNot w_and1 w_and63 w_add w_sub w_mul w_sub1 w_add1 w_shl w_shl1 w_shr c_beq c_bne c_beq0 c_bne0 c_beq1 c_bne1 wrap_nv

theorem c_lt (x y : BitVec 64) : decide (nv x < nv y) = decide (nv x < nv y) := rfl
set_option maxHeartbeats 1000000 in
theorem addBounds_any (v m l h v' m' l' h' : BitVec 64) (w : World) :
    Calls Try.prog 126 #[Vl v m l h, Vl v' m' l' h'] w fun e w' => e = .returned (.tuple #[U (addB l h l' h').1, U (addB l h l' h').2]) ∧ Below w.heap.size w w' := by
  have Ha : Hid (addB l h l' h' = if decide (nv (badd l l') < nv l) = decide (nv (badd h h') < nv h) then (badd l l', badd h h') else (zero, top)) := rfl
  obtain ⟨p, hp⟩ : ∃ b, decide (nv (badd l l') < nv l) = b := ⟨_, rfl⟩
  obtain ⟨q, hq⟩ : ∃ b, decide (nv (badd h h') < nv h) = b := ⟨_, rfl⟩
  rw [hp, hq] at Ha
  cases p <;> cases q
  all_goals
    go_enter Try.func126, Try.ntmps126
    go_wp2_with fail
    go_quiet (fail)
    go_wp2_with fail
    go_quiet (fail)
    go_wp2_with fail
    go_ret2
    rw [Ha.out]
    exact ⟨rfl, (by repeat (first | exact Below.refl _ _ | assumption | refine below_drewN ?_ _ | refine Below.drew ?_ | refine Below.alloc ?_ (by first | exact Nat.le_refl _ | (simp; done) | (simp; omega) | omega) _ | refine Below.setCell ?_ (by first | exact Nat.le_refl _ | (simp; done) | (simp; omega) | omega) _ | refine Below.trans ?_ (Below.mono (by assumption) (by first | exact Nat.le_refl _ | (simp; done) | (simp; omega) | omega))))⟩
set_option maxHeartbeats 1000000 in
theorem subBounds_any (v m l h v' m' l' h' : BitVec 64) (w : World) :
    Calls Try.prog 127 #[Vl v m l h, Vl v' m' l' h'] w fun e w' => e = .returned (.tuple #[U (subB l h l' h').1, U (subB l h l' h').2]) ∧ Below w.heap.size w w' := by
  have Ha : Hid (subB l h l' h' = if decide (nv l < nv h') = decide (nv h < nv l') then (bsub l h', bsub h l') else (zero, top)) := rfl
  obtain ⟨p, hp⟩ : ∃ b, decide (nv l < nv h') = b := ⟨_, rfl⟩
  obtain ⟨q, hq⟩ : ∃ b, decide (nv h < nv l') = b := ⟨_, rfl⟩
  rw [hp, hq] at Ha
  cases p <;> cases q
  all_goals
    go_enter Try.func127, Try.ntmps127
    go_wp2_with fail
    go_quiet (fail)
    go_wp2_with fail
    first | (go_quiet (fail); go_wp2_with fail) | skip
    go_ret2
    rw [Ha.out]
    exact ⟨rfl, (by repeat (first | exact Below.refl _ _ | assumption | refine below_drewN ?_ _ | refine Below.drew ?_ | refine Below.alloc ?_ (by first | exact Nat.le_refl _ | (simp; done) | (simp; omega) | omega) _ | refine Below.setCell ?_ (by first | exact Nat.le_refl _ | (simp; done) | (simp; omega) | omega) _ | refine Below.trans ?_ (Below.mono (by assumption) (by first | exact Nat.le_refl _ | (simp; done) | (simp; omega) | omega))))⟩
set_option maxRecDepth 100000 in
set_option maxHeartbeats 1000000 in
theorem mulBounds_any (v m l h v' m' l' h' : BitVec 64) (w : World) :
    Calls Try.prog 128 #[Vl v m l h, Vl v' m' l' h'] w fun e w' => e = .returned (.tuple #[U (mulB l h l' h').1, U (mulB l h l' h').2]) ∧ Below w.heap.size w w' := by
  have Ha : Hid (mulB l h l' h' = if overB h h' then (zero, top) else (bmul l l', bmul h h')) := rfl
  have Ho : Hid (overB h h' = (!eqb h' zero && decide (18446744073709551615 / nv h' < nv h))) := rfl
  obtain ⟨z, hz⟩ : ∃ b, eqb h' zero = b := ⟨_, rfl⟩
  rw [hz] at Ho
  rw [Ho.out] at Ha
  cases z
  · have hne : nv h' ≠ 0 := fun e => by
      have := nv_inj h' zero (by rw [e, nv_zero])
      rw [this] at hz; revert hz; decide
    have hpos : 0 < nv h' := by have := nv_nonneg h'; omega
    have hnn : 0 ≤ nv h' := by omega
    have hcv := nv_lt h'
    obtain ⟨D, hD⟩ : ∃ D, 18446744073709551615 / nv h' = D := ⟨_, rfl⟩
    rw [hD] at Ha
    by_cases hd : D < nv h
    · have Hd : Hid (decide (D < nv h) = true) := decide_eq_true hd
      rw [Hd.out] at Ha
      go_enter Try.func128, Try.ntmps128
      go_wp2_with fail
      go_quiet (fail)
      go_wp2_with fail
      go_ret2
      rw [Ha.out]
      exact ⟨rfl, (by repeat (first | exact Below.refl _ _ | assumption | refine below_drewN ?_ _ | refine Below.drew ?_ | refine Below.alloc ?_ (by first | exact Nat.le_refl _ | (simp; done) | (simp; omega) | omega) _ | refine Below.setCell ?_ (by first | exact Nat.le_refl _ | (simp; done) | (simp; omega) | omega) _ | refine Below.trans ?_ (Below.mono (by assumption) (by first | exact Nat.le_refl _ | (simp; done) | (simp; omega) | omega))))⟩
    · have Hd : Hid (decide (D < nv h) = false) := decide_eq_false hd
      rw [Hd.out] at Ha
      have hle : decide (D < nv h) = false := decide_eq_false hd
      clear hd
      go_enter Try.func128, Try.ntmps128
      go_wp2_with fail
      go_quiet (fail)
      go_wp2_with fail
      go_quiet (fail)
      go_wp2_with fail
      go_ret2
      rw [Ha.out]
      exact ⟨rfl, (by repeat (first | exact Below.refl _ _ | assumption | refine below_drewN ?_ _ | refine Below.drew ?_ | refine Below.alloc ?_ (by first | exact Nat.le_refl _ | (simp; done) | (simp; omega) | omega) _ | refine Below.setCell ?_ (by first | exact Nat.le_refl _ | (simp; done) | (simp; omega) | omega) _ | refine Below.trans ?_ (Below.mono (by assumption) (by first | exact Nat.le_refl _ | (simp; done) | (simp; omega) | omega))))⟩
  · go_enter Try.func128, Try.ntmps128
    go_wp2_with fail
    go_quiet (fail)
    go_wp2_with fail
    go_quiet (fail)
    go_wp2_with fail
    go_ret2
    rw [Ha.out]
    exact ⟨rfl, (by repeat (first | exact Below.refl _ _ | assumption | refine below_drewN ?_ _ | refine Below.drew ?_ | refine Below.alloc ?_ (by first | exact Nat.le_refl _ | (simp; done) | (simp; omega) | omega) _ | refine Below.setCell ?_ (by first | exact Nat.le_refl _ | (simp; done) | (simp; omega) | omega) _ | refine Below.trans ?_ (Below.mono (by assumption) (by first | exact Nat.le_refl _ | (simp; done) | (simp; omega) | omega))))⟩

end Go.Proofs.Ytkigmocchaikgaa

/- The contracts of package calc's alone, shiftBounds, bounds, shift. -/
namespace Go.Proofs.Ytkigmocchaikgaa
open Go.RowKit
attribute [local go_sem] w_and w_or w_xor w_andNot w_and1 w_and63 w_add w_sub w_mul w_sub1 w_add1 w_shl w_shl1 w_shr c_beq c_bne c_beq0 c_bne0 c_beq1 c_bne1 wrap_nv

set_option maxHeartbeats 400000 in
theorem alone_any (v m l h : BitVec 64) (w : World) :
    Calls Try.prog 94 #[Vl v m l h] w fun e w' => e = .returned (.bool (eqb l h)) ∧ Below w.heap.size w w' := by
  go_enter Try.func94, Try.ntmps94
  go_wp2_with fail
  go_ret
  exact ⟨rfl, (by repeat (first | exact Below.refl _ _ | assumption | refine below_drewN ?_ _ | refine Below.drew ?_ | refine Below.alloc ?_ (by first | exact Nat.le_refl _ | (simp; done) | (simp; omega) | omega) _ | refine Below.setCell ?_ (by first | exact Nat.le_refl _ | (simp; done) | (simp; omega) | omega) _ | refine Below.trans ?_ (Below.mono (by assumption) (by first | exact Nat.le_refl _ | (simp; done) | (simp; omega) | omega))))⟩
theorem alone_is {v m l h : BitVec 64} {b : Bool} (hb : eqb l h = b) (w : World) :
    Calls Try.prog 94 #[Vl v m l h] w fun e w' => e = .returned (.bool b) ∧ Below w.heap.size w w' := hb ▸ alone_any v m l h w

def shiftBd (op : Int) (l h : BitVec 64) (n : Nat) : BitVec 64 × BitVec 64 := if op = 9 then (bshr l n, bshr h n) else shlB l h n
set_option maxRecDepth 100000 in
set_option maxHeartbeats 1000000 in
theorem shiftBounds_shr (v m l h : BitVec 64) (y : BitVec 64) (w : World) :
    Calls Try.prog 125 #[N 9, Vl v m l h, U (band y 63#64)] w fun e w' => e = .returned (.tuple #[U (bshr l (six y)), U (bshr h (six y))]) ∧ Below w.heap.size w w' := by
  have h6 := six_nv y
  have h7 := six_lt y
  go_enter Try.func125, Try.ntmps125
  go_wp2_with fail
  go_quiet (fail)
  go_wp2_with fail
  go_ret2
  exact ⟨rfl, (by repeat (first | exact Below.refl _ _ | assumption | refine below_drewN ?_ _ | refine Below.drew ?_ | refine Below.alloc ?_ (by first | exact Nat.le_refl _ | (simp; done) | (simp; omega) | omega) _ | refine Below.setCell ?_ (by first | exact Nat.le_refl _ | (simp; done) | (simp; omega) | omega) _ | refine Below.trans ?_ (Below.mono (by assumption) (by first | exact Nat.le_refl _ | (simp; done) | (simp; omega) | omega))))⟩
set_option maxRecDepth 100000 in
set_option maxHeartbeats 1000000 in
theorem shiftBounds_shl (v m l h : BitVec 64) (y : BitVec 64) (w : World) :
    Calls Try.prog 125 #[N 8, Vl v m l h, U (band y 63#64)] w fun e w' => e = .returned (.tuple #[U (shlB l h (six y)).1, U (shlB l h (six y)).2]) ∧ Below w.heap.size w w' := by
  have h6 := six_nv y
  have h7 := six_lt y
  have Ha : Hid (shlB l h (six y) = if eqb (bshr (bshl h (six y)) (six y)) h then (bshl l (six y), bshl h (six y)) else (zero, top)) := rfl
  obtain ⟨p, hp⟩ : ∃ b, eqb (bshr (bshl h (six y)) (six y)) h = b := ⟨_, rfl⟩
  rw [hp] at Ha
  cases p
  · go_enter Try.func125, Try.ntmps125
    go_wp2_with fail
    go_ret2
    rw [Ha.out]
    exact ⟨rfl, (by repeat (first | exact Below.refl _ _ | assumption | refine below_drewN ?_ _ | refine Below.drew ?_ | refine Below.alloc ?_ (by first | exact Nat.le_refl _ | (simp; done) | (simp; omega) | omega) _ | refine Below.setCell ?_ (by first | exact Nat.le_refl _ | (simp; done) | (simp; omega) | omega) _ | refine Below.trans ?_ (Below.mono (by assumption) (by first | exact Nat.le_refl _ | (simp; done) | (simp; omega) | omega))))⟩
  · go_enter Try.func125, Try.ntmps125
    go_wp2_with fail
    go_quiet (fail)
    go_wp2_with fail
    go_ret2
    rw [Ha.out]
    exact ⟨rfl, (by repeat (first | exact Below.refl _ _ | assumption | refine below_drewN ?_ _ | refine Below.drew ?_ | refine Below.alloc ?_ (by first | exact Nat.le_refl _ | (simp; done) | (simp; omega) | omega) _ | refine Below.setCell ?_ (by first | exact Nat.le_refl _ | (simp; done) | (simp; omega) | omega) _ | refine Below.trans ?_ (Below.mono (by assumption) (by first | exact Nat.le_refl _ | (simp; done) | (simp; omega) | omega))))⟩

set_option maxRecDepth 100000 in
set_option maxHeartbeats 1000000 in
theorem bounds_any {op : Int} (hop : Hid (2 ≤ op ∧ op ≤ 7)) (v m l h v' m' l' h' : BitVec 64) (w : World) :
    Calls Try.prog 113 #[N op, Vl v m l h, Vl v' m' l' h'] w fun e w' => e = .returned (.tuple #[U (boundsP op l h l' h').1, U (boundsP op l h l' h').2]) ∧ Below w.heap.size w w' := by
  rcases op_cases hop.out with rfl | rfl | rfl | rfl | rfl | rfl
  · clear hop
    go_enter Try.func113, Try.ntmps113
    go_wp2_with fail
    refine (addBounds_any v m l h v' m' l' h' _).mono ?_
    rintro e w1 ⟨rfl, hb1⟩
    have hK := (((Kp.start w).add4 _ _ _ _ _).add4 _ _ _ _ _).keep hb1
    go_wp2_with fail
    go_ret2
    exact ⟨rfl, hK.bel⟩
  · clear hop
    go_enter Try.func113, Try.ntmps113
    go_wp2_with fail
    refine (subBounds_any v m l h v' m' l' h' _).mono ?_
    rintro e w1 ⟨rfl, hb1⟩
    have hK := (((Kp.start w).add4 _ _ _ _ _).add4 _ _ _ _ _).keep hb1
    go_wp2_with fail
    go_ret2
    exact ⟨rfl, hK.bel⟩
  · clear hop
    go_enter Try.func113, Try.ntmps113
    go_wp2_with fail
    refine (mulBounds_any v m l h v' m' l' h' _).mono ?_
    rintro e w1 ⟨rfl, hb1⟩
    have hK := (((Kp.start w).add4 _ _ _ _ _).add4 _ _ _ _ _).keep hb1
    go_wp2_with fail
    go_ret2
    exact ⟨rfl, hK.bel⟩
  · clear hop
    have Hb : Hid (boundsP 5 l h l' h' = (zero, bmin h h')) := rfl
    rw [Hb.out]
    by_cases h1 : nv h' < nv h
    · have e1 : Hid (bmin h h' = h') := if_pos h1
      rw [e1.out]
      go_enter Try.func113, Try.ntmps113
      go_wp2_with fail
      first | (go_quiet (fail); go_wp2_with fail) | skip
      go_ret2
      exact ⟨rfl, (by repeat (first | exact Below.refl _ _ | assumption | refine below_drewN ?_ _ | refine Below.drew ?_ | refine Below.alloc ?_ (by first | exact Nat.le_refl _ | (simp; done) | (simp; omega) | omega) _ | refine Below.setCell ?_ (by first | exact Nat.le_refl _ | (simp; done) | (simp; omega) | omega) _ | refine Below.trans ?_ (Below.mono (by assumption) (by first | exact Nat.le_refl _ | (simp; done) | (simp; omega) | omega))))⟩
    · have e1 : Hid (bmin h h' = h) := if_neg h1
      have h1' : nv h ≤ nv h' := by omega
      clear h1
      rw [e1.out]
      go_enter Try.func113, Try.ntmps113
      go_wp2_with fail
      first | (go_quiet (fail); go_wp2_with fail) | skip
      go_ret2
      exact ⟨rfl, (by repeat (first | exact Below.refl _ _ | assumption | refine below_drewN ?_ _ | refine Below.drew ?_ | refine Below.alloc ?_ (by first | exact Nat.le_refl _ | (simp; done) | (simp; omega) | omega) _ | refine Below.setCell ?_ (by first | exact Nat.le_refl _ | (simp; done) | (simp; omega) | omega) _ | refine Below.trans ?_ (Below.mono (by assumption) (by first | exact Nat.le_refl _ | (simp; done) | (simp; omega) | omega))))⟩
  · clear hop
    have Hb : Hid (boundsP 6 l h l' h' = (bmax l l', top)) := rfl
    rw [Hb.out]
    by_cases h1 : nv l < nv l'
    · have e1 : Hid (bmax l l' = l') := if_pos h1
      rw [e1.out]
      go_enter Try.func113, Try.ntmps113
      go_wp2_with fail
      go_ret2
      exact ⟨rfl, (by repeat (first | exact Below.refl _ _ | assumption | refine below_drewN ?_ _ | refine Below.drew ?_ | refine Below.alloc ?_ (by first | exact Nat.le_refl _ | (simp; done) | (simp; omega) | omega) _ | refine Below.setCell ?_ (by first | exact Nat.le_refl _ | (simp; done) | (simp; omega) | omega) _ | refine Below.trans ?_ (Below.mono (by assumption) (by first | exact Nat.le_refl _ | (simp; done) | (simp; omega) | omega))))⟩
    · have e1 : Hid (bmax l l' = l) := if_neg h1
      have h1' : nv l' ≤ nv l := by omega
      clear h1
      rw [e1.out]
      go_enter Try.func113, Try.ntmps113
      go_wp2_with fail
      go_ret2
      exact ⟨rfl, (by repeat (first | exact Below.refl _ _ | assumption | refine below_drewN ?_ _ | refine Below.drew ?_ | refine Below.alloc ?_ (by first | exact Nat.le_refl _ | (simp; done) | (simp; omega) | omega) _ | refine Below.setCell ?_ (by first | exact Nat.le_refl _ | (simp; done) | (simp; omega) | omega) _ | refine Below.trans ?_ (Below.mono (by assumption) (by first | exact Nat.le_refl _ | (simp; done) | (simp; omega) | omega))))⟩
  · clear hop
    go_enter Try.func113, Try.ntmps113
    go_wp2_with fail
    go_ret2
    exact ⟨rfl, (by repeat (first | exact Below.refl _ _ | assumption | refine below_drewN ?_ _ | refine Below.drew ?_ | refine Below.alloc ?_ (by first | exact Nat.le_refl _ | (simp; done) | (simp; omega) | omega) _ | refine Below.setCell ?_ (by first | exact Nat.le_refl _ | (simp; done) | (simp; omega) | omega) _ | refine Below.trans ?_ (Below.mono (by assumption) (by first | exact Nat.le_refl _ | (simp; done) | (simp; omega) | omega))))⟩

end Go.Proofs.Ytkigmocchaikgaa

/- The contracts of package calc's shift and reckon. -/
namespace Go.Proofs.Ytkigmocchaikgaa
open Go.RowKit
attribute [local go_sem] w_and w_or w_xor w_andNot w_and1 w_and63 w_add w_sub w_mul w_sub1 w_add1 w_shl w_shl1 w_shr c_beq c_bne c_beq0 c_bne0 c_beq1 c_bne1 wrap_nv

set_option maxRecDepth 100000 in
set_option maxHeartbeats 1000000 in
theorem shift_wide8 {v m l g v' m' l' g' : BitVec 64} (ha : Hid (eqb l' g' = false)) (w : World) :
    Calls Try.prog 112 #[N 8, Vl v m l g, Vl v' m' l' g'] w fun e w' => e = .returned (Vl zero top zero top) ∧ Below w.heap.size w w' := by
  go_enter Try.func112, Try.ntmps112
  go_wp2_with fail
  refine (alone_is ha.out _).mono ?_
  rintro e w1 ⟨rfl, hb1⟩
  have hK := ((((Kp.start w).add4 _ _ _ _ _).add4 _ _ _ _ _).add4 _ _ _ _ _).keep hb1
  simp only [World.size_alloc] at hK
  obtain ⟨r0, r1, r2, r3, r4, r5, r6, r7, r8⟩ := hK.box.head.four
  obtain ⟨b0, b1, b2, b3, b4, b5, b6, b7, b8⟩ := hK.box.tail.head.four
  obtain ⟨a0, a1, a2, a3, a4, a5, a6, a7, a8⟩ := hK.box.tail.tail.head.four
  go_wp2_with fail
  exact bodyPost_ret (v := Vl zero top zero top) (by simp [results, Try.results112, go_sem, nv_zero, nv_top, r0, r1, r2, r3]) rfl ⟨rfl, (hK.set4 0 rfl).bel⟩
set_option maxRecDepth 100000 in
set_option maxHeartbeats 1000000 in
theorem shift_wide9 {v m l g v' m' l' g' : BitVec 64} (ha : Hid (eqb l' g' = false)) (w : World) :
    Calls Try.prog 112 #[N 9, Vl v m l g, Vl v' m' l' g'] w fun e w' => e = .returned (Vl zero top zero g) ∧ Below w.heap.size w w' := by
  go_enter Try.func112, Try.ntmps112
  go_wp2_with fail
  refine (alone_is ha.out _).mono ?_
  rintro e w1 ⟨rfl, hb1⟩
  have hK := ((((Kp.start w).add4 _ _ _ _ _).add4 _ _ _ _ _).add4 _ _ _ _ _).keep hb1
  simp only [World.size_alloc] at hK
  obtain ⟨r0, r1, r2, r3, r4, r5, r6, r7, r8⟩ := hK.box.head.four
  obtain ⟨b0, b1, b2, b3, b4, b5, b6, b7, b8⟩ := hK.box.tail.head.four
  obtain ⟨a0, a1, a2, a3, a4, a5, a6, a7, a8⟩ := hK.box.tail.tail.head.four
  go_wp2_with fail
  exact bodyPost_ret (v := Vl zero top zero g) (by simp [results, Try.results112, go_sem, nv_zero, nv_top, r0, r1, r2, r3]) rfl ⟨rfl, (hK.set4 0 rfl).bel⟩
set_option maxRecDepth 100000 in
set_option maxHeartbeats 1000000 in
theorem shift_one8 {v m l h v' m' l' h' : BitVec 64} (hr : Hid (eqb (band v m) zero = true)) (ha : Hid (eqb l' h' = true)) (w : World) :
    Calls Try.prog 112 #[N 8, Vl v m l h, Vl v' m' l' h'] w fun e w' => e = .returned (Vl (bshl v (six l')) (bshl m (six l')) (shlB l h (six l')).1 (shlB l h (six l')).2) ∧ Below w.heap.size w w' := by
  have h6 := six_nv l'
  have h7 := six_lt l'
  have HS : Hid (∀ w, Calls Try.prog 15 #[N 8, Bt v m, N (six l')] w fun e w' => e = .returned (.tuple #[Bt (bshl v (six l')) (bshl m (six l')), N 0]) ∧ Below w.heap.size w w') := fun w => shift_up hr h7 w
  have HB : Hid (∀ w, Calls Try.prog 125 #[N 8, Vl v m l h, U (band l' 63#64)] w fun e w' => e = .returned (.tuple #[U (shlB l h (six l')).1, U (shlB l h (six l')).2]) ∧ Below w.heap.size w w') := fun w => shiftBounds_shl v m l h l' w
  generalize shlB l h (six l') = S at HB ⊢
  obtain ⟨lo, hi⟩ := S
  generalize bshl v (six l') = sv at HS ⊢
  generalize bshl m (six l') = sm at HS ⊢
  go_enter Try.func112, Try.ntmps112
  go_wp2_with fail
  refine (alone_is ha.out _).mono ?_
  rintro e w1 ⟨rfl, hb1⟩
  have hK := ((((Kp.start w).add4 _ _ _ _ _).add4 _ _ _ _ _).add4 _ _ _ _ _).keep hb1
  simp only [World.size_alloc] at hK
  obtain ⟨r0, r1, r2, r3, r4, r5, r6, r7, r8⟩ := hK.box.head.four
  obtain ⟨b0, b1, b2, b3, b4, b5, b6, b7, b8⟩ := hK.box.tail.head.four
  obtain ⟨a0, a1, a2, a3, a4, a5, a6, a7, a8⟩ := hK.box.tail.tail.head.four
  go_wp2_with fail
  refine (HS.out _).mono ?_
  rintro e w2 ⟨rfl, hb2⟩
  have hK2 := hK.keep hb2
  clear r0 r1 r2 r3 r4 r5 r6 r7 r8 b0 b1 b2 b3 b4 b5 b6 b7 b8 a0 a1 a2 a3 a4 a5 a6 a7 a8
  obtain ⟨r0, r1, r2, r3, r4, r5, r6, r7, r8⟩ := hK2.box.head.four
  obtain ⟨b0, b1, b2, b3, b4, b5, b6, b7, b8⟩ := hK2.box.tail.head.four
  obtain ⟨a0, a1, a2, a3, a4, a5, a6, a7, a8⟩ := hK2.box.tail.tail.head.four
  go_wp2_with fail
  refine (HB.out _).mono ?_
  rintro e w3 ⟨rfl, hb3⟩
  have hK3 := (hK2.add2 _ _ _).keep hb3
  clear r0 r1 r2 r3 r4 r5 r6 r7 r8 b0 b1 b2 b3 b4 b5 b6 b7 b8 a0 a1 a2 a3 a4 a5 a6 a7 a8
  obtain ⟨s0, s1, s2, s3, s4⟩ := hK3.box.head.two
  obtain ⟨r0, r1, r2, r3, r4, r5, r6, r7, r8⟩ := hK3.box.tail.head.four
  obtain ⟨b0, b1, b2, b3, b4, b5, b6, b7, b8⟩ := hK3.box.tail.tail.head.four
  obtain ⟨a0, a1, a2, a3, a4, a5, a6, a7, a8⟩ := hK3.box.tail.tail.tail.head.four
  go_wp2_with fail
  exact bodyPost_ret (v := Vl sv sm lo hi) (by simp [results, Try.results112, go_sem, r0, r1, r2, r3]) rfl ⟨rfl, (hK3.set4 1 rfl).bel⟩
set_option maxRecDepth 100000 in
set_option maxHeartbeats 1000000 in
theorem shift_one9 {v m l h v' m' l' h' : BitVec 64} (hr : Hid (eqb (band v m) zero = true)) (ha : Hid (eqb l' h' = true)) (w : World) :
    Calls Try.prog 112 #[N 9, Vl v m l h, Vl v' m' l' h'] w fun e w' => e = .returned (Vl (bshr v (six l')) (bshr m (six l')) (bshr l (six l')) (bshr h (six l'))) ∧ Below w.heap.size w w' := by
  have h6 := six_nv l'
  have h7 := six_lt l'
  have HS : Hid (∀ w, Calls Try.prog 15 #[N 9, Bt v m, N (six l')] w fun e w' => e = .returned (.tuple #[Bt (bshr v (six l')) (bshr m (six l')), N 0]) ∧ Below w.heap.size w w') := fun w => shift_down hr h7 w
  have HB : Hid (∀ w, Calls Try.prog 125 #[N 9, Vl v m l h, U (band l' 63#64)] w fun e w' => e = .returned (.tuple #[U (bshr l (six l')), U (bshr h (six l'))]) ∧ Below w.heap.size w w') := fun w => shiftBounds_shr v m l h l' w
  generalize bshr l (six l') = lo at HB ⊢
  generalize bshr h (six l') = hi at HB ⊢
  generalize bshr v (six l') = sv at HS ⊢
  generalize bshr m (six l') = sm at HS ⊢
  go_enter Try.func112, Try.ntmps112
  go_wp2_with fail
  refine (alone_is ha.out _).mono ?_
  rintro e w1 ⟨rfl, hb1⟩
  have hK := ((((Kp.start w).add4 _ _ _ _ _).add4 _ _ _ _ _).add4 _ _ _ _ _).keep hb1
  simp only [World.size_alloc] at hK
  obtain ⟨r0, r1, r2, r3, r4, r5, r6, r7, r8⟩ := hK.box.head.four
  obtain ⟨b0, b1, b2, b3, b4, b5, b6, b7, b8⟩ := hK.box.tail.head.four
  obtain ⟨a0, a1, a2, a3, a4, a5, a6, a7, a8⟩ := hK.box.tail.tail.head.four
  go_wp2_with fail
  refine (HS.out _).mono ?_
  rintro e w2 ⟨rfl, hb2⟩
  have hK2 := hK.keep hb2
  clear r0 r1 r2 r3 r4 r5 r6 r7 r8 b0 b1 b2 b3 b4 b5 b6 b7 b8 a0 a1 a2 a3 a4 a5 a6 a7 a8
  obtain ⟨r0, r1, r2, r3, r4, r5, r6, r7, r8⟩ := hK2.box.head.four
  obtain ⟨b0, b1, b2, b3, b4, b5, b6, b7, b8⟩ := hK2.box.tail.head.four
  obtain ⟨a0, a1, a2, a3, a4, a5, a6, a7, a8⟩ := hK2.box.tail.tail.head.four
  go_wp2_with fail
  refine (HB.out _).mono ?_
  rintro e w3 ⟨rfl, hb3⟩
  have hK3 := (hK2.add2 _ _ _).keep hb3
  clear r0 r1 r2 r3 r4 r5 r6 r7 r8 b0 b1 b2 b3 b4 b5 b6 b7 b8 a0 a1 a2 a3 a4 a5 a6 a7 a8
  obtain ⟨s0, s1, s2, s3, s4⟩ := hK3.box.head.two
  obtain ⟨r0, r1, r2, r3, r4, r5, r6, r7, r8⟩ := hK3.box.tail.head.four
  obtain ⟨b0, b1, b2, b3, b4, b5, b6, b7, b8⟩ := hK3.box.tail.tail.head.four
  obtain ⟨a0, a1, a2, a3, a4, a5, a6, a7, a8⟩ := hK3.box.tail.tail.tail.head.four
  go_wp2_with fail
  exact bodyPost_ret (v := Vl sv sm lo hi) (by simp [results, Try.results112, go_sem, r0, r1, r2, r3]) rfl ⟨rfl, (hK3.set4 1 rfl).bel⟩

end Go.Proofs.Ytkigmocchaikgaa

/- The contracts of package calc's reckon, checkAll and Two. -/
namespace Go.Proofs.Ytkigmocchaikgaa
open Go.RowKit
attribute [local go_sem] w_and w_or w_xor w_andNot w_and1 w_and63 w_add w_sub w_mul w_sub1 w_add1 w_shl w_shl1 w_shr c_beq c_bne c_beq0 c_bne0 c_beq1 c_bne1 wrap_nv

def rk (op : Int) (v m l h v' m' l' h' : BitVec 64) : BitVec 64 × BitVec 64 × BitVec 64 × BitVec 64 :=
  if op = 8 then (if eqb l' h' then (bshl v (six l'), bshl m (six l'), (shlB l h (six l')).1, (shlB l h (six l')).2) else (zero, top, zero, top))
  else if op = 9 then (if eqb l' h' then (bshr v (six l'), bshr m (six l'), bshr l (six l'), bshr h (six l')) else (zero, top, zero, h))
  else ((twoP op v m v' m').1, (twoP op v m v' m').2, (boundsP op l h l' h').1, (boundsP op l h l' h').2)

theorem shift_is {op : Int} (hop : op = 8 ∨ op = 9) {v m l h : BitVec 64} (v' m' l' h' : BitVec 64) (hr : Hid (eqb (band v m) zero = true)) (w : World) :
    Calls Try.prog 112 #[N op, Vl v m l h, Vl v' m' l' h'] w fun e w' => e = .returned (Vl (rk op v m l h v' m' l' h').1 (rk op v m l h v' m' l' h').2.1 (rk op v m l h v' m' l' h').2.2.1 (rk op v m l h v' m' l' h').2.2.2) ∧ Below w.heap.size w w' := by
  rcases hop with rfl | rfl
  · cases ha : eqb l' h'
    · have e : rk 8 v m l h v' m' l' h' = (zero, top, zero, top) := by unfold rk; rw [if_pos rfl, ha]; rfl
      rw [e]; exact shift_wide8 ha w
    · have e : rk 8 v m l h v' m' l' h' = (bshl v (six l'), bshl m (six l'), (shlB l h (six l')).1, (shlB l h (six l')).2) := by unfold rk; rw [if_pos rfl, ha]; rfl
      rw [e]; exact shift_one8 hr ha w
  · cases ha : eqb l' h'
    · have e : rk 9 v m l h v' m' l' h' = (zero, top, zero, h) := by unfold rk; rw [if_neg (by decide), if_pos rfl, ha]; rfl
      rw [e]; exact shift_wide9 ha w
    · have e : rk 9 v m l h v' m' l' h' = (bshr v (six l'), bshr m (six l'), bshr l (six l'), bshr h (six l')) := by unfold rk; rw [if_neg (by decide), if_pos rfl, ha]; rfl
      rw [e]; exact shift_one9 hr ha w

set_option maxRecDepth 100000 in
set_option maxHeartbeats 1000000 in
theorem reckon_shift {op : Int} (hop : op = 8 ∨ op = 9) {v m l g : BitVec 64} (v' m' l' g' : BitVec 64) (hr : Hid (eqb (band v m) zero = true)) (w : World) :
    Calls Try.prog 88 #[N op, Vl v m l g, Vl v' m' l' g'] w fun e w' => e = .returned (.tuple #[Vl (rk op v m l g v' m' l' g').1 (rk op v m l g v' m' l' g').2.1 (rk op v m l g v' m' l' g').2.2.1 (rk op v m l g v' m' l' g').2.2.2, N 0]) ∧ Below w.heap.size w w' := by
  have HS : Hid (∀ w, Calls Try.prog 112 #[N op, Vl v m l g, Vl v' m' l' g'] w fun e w' => e = .returned (Vl (rk op v m l g v' m' l' g').1 (rk op v m l g v' m' l' g').2.1 (rk op v m l g v' m' l' g').2.2.1 (rk op v m l g v' m' l' g').2.2.2) ∧ Below w.heap.size w w') := fun w => shift_is hop v' m' l' g' hr w
  generalize rk op v m l g v' m' l' g' = S at HS ⊢
  obtain ⟨sa, sb, sc, sd⟩ := S
  rcases hop with rfl | rfl
  all_goals
    go_enter Try.func88, Try.ntmps88
    go_wp2_with fail
    refine (HS.out _).mono ?_
    rintro e w1 ⟨rfl, hb1⟩
    have hK := ((((Kp.start w).add4 _ _ _ _ _).add4 _ _ _ _ _).add4 _ _ _ _ _).keep hb1
    simp only [World.size_alloc] at hK
    obtain ⟨r0, r1, r2, r3, r4, r5, r6, r7, r8⟩ := hK.box.head.four
    obtain ⟨b0, b1, b2, b3, b4, b5, b6, b7, b8⟩ := hK.box.tail.head.four
    obtain ⟨a0, a1, a2, a3, a4, a5, a6, a7, a8⟩ := hK.box.tail.tail.head.four
    go_wp2_with fail
    exact bodyPost_ret (v := .tuple #[Vl sa sb sc sd, N 0]) (by simp [results, Try.results88, go_sem, r0, r1, r2, r3]) rfl ⟨rfl, (hK.set4 0 rfl).bel⟩
set_option maxRecDepth 100000 in
set_option maxHeartbeats 1000000 in
theorem reckon_two {op : Int} (hop : Hid (2 ≤ op ∧ op ≤ 7)) {v m l g v' m' l' g' : BitVec 64} (hr : Hid ((eqb (band v m) zero && eqb (band v' m') zero) = true)) (w : World) :
    Calls Try.prog 88 #[N op, Vl v m l g, Vl v' m' l' g'] w fun e w' => e = .returned (.tuple #[Vl (rk op v m l g v' m' l' g').1 (rk op v m l g v' m' l' g').2.1 (rk op v m l g v' m' l' g').2.2.1 (rk op v m l g v' m' l' g').2.2.2, N 0]) ∧ Below w.heap.size w w' := by
  have h8 : (op == 8) = false := by have := hop.out; simp; omega
  have h9 : (op == 9) = false := by have := hop.out; simp; omega
  have Hk : Hid (rk op v m l g v' m' l' g' = ((twoP op v m v' m').1, (twoP op v m v' m').2, (boundsP op l g l' g').1, (boundsP op l g l' g').2)) := by
    show _ = _
    unfold rk; rw [if_neg (by have := hop.out; omega), if_neg (by have := hop.out; omega)]
  rw [Hk.out]
  have HT : Hid (∀ w, Calls Try.prog 28 #[N op, Bt v m, Bt v' m'] w fun e w' => e = .returned (.tuple #[Bt (twoP op v m v' m').1 (twoP op v m v' m').2, N 0]) ∧ Below w.heap.size w w') := fun w => two_ok hr hop.out w
  have HB : Hid (∀ w, Calls Try.prog 113 #[N op, Vl v m l g, Vl v' m' l' g'] w fun e w' => e = .returned (.tuple #[U (boundsP op l g l' g').1, U (boundsP op l g l' g').2]) ∧ Below w.heap.size w w') := fun w => bounds_any hop v m l g v' m' l' g' w
  clear Hk
  generalize twoP op v m v' m' = T at HT ⊢
  generalize boundsP op l g l' g' = B at HB ⊢
  obtain ⟨ta, tb⟩ := T
  obtain ⟨ba, bb⟩ := B
  go_enter Try.func88, Try.ntmps88
  go_wp2_with fail
  refine (HT.out _).mono ?_
  rintro e w1 ⟨rfl, hb1⟩
  have hK := ((((Kp.start w).add4 _ _ _ _ _).add4 _ _ _ _ _).add4 _ _ _ _ _).keep hb1
  simp only [World.size_alloc] at hK
  obtain ⟨r0, r1, r2, r3, r4, r5, r6, r7, r8⟩ := hK.box.head.four
  obtain ⟨b0, b1, b2, b3, b4, b5, b6, b7, b8⟩ := hK.box.tail.head.four
  obtain ⟨a0, a1, a2, a3, a4, a5, a6, a7, a8⟩ := hK.box.tail.tail.head.four
  go_wp2_with fail
  refine (HB.out _).mono ?_
  rintro e w2 ⟨rfl, hb2⟩
  have hK2 := (hK.add2 _ _ _).keep hb2
  clear r0 r1 r2 r3 r4 r5 r6 r7 r8 b0 b1 b2 b3 b4 b5 b6 b7 b8 a0 a1 a2 a3 a4 a5 a6 a7 a8
  obtain ⟨k0, k1, k2, k3, k4⟩ := hK2.box.head.two
  obtain ⟨r0, r1, r2, r3, r4, r5, r6, r7, r8⟩ := hK2.box.tail.head.four
  obtain ⟨b0, b1, b2, b3, b4, b5, b6, b7, b8⟩ := hK2.box.tail.tail.head.four
  obtain ⟨a0, a1, a2, a3, a4, a5, a6, a7, a8⟩ := hK2.box.tail.tail.tail.head.four
  go_wp2_with fail
  exact bodyPost_ret (v := .tuple #[Vl ta tb ba bb, N 0]) (by simp [results, Try.results88, go_sem, r0, r1, r2, r3]) rfl ⟨rfl, (hK2.set4 1 rfl).bel⟩
set_option maxRecDepth 100000 in
set_option maxHeartbeats 1000000 in
theorem reckon_kind {op : Int} (hop : Hid (op < 2 ∨ 9 < op)) {v m l g v' m' l' g' : BitVec 64} (hr : Hid ((eqb (band v m) zero && eqb (band v' m') zero) = true)) (w : World) :
    Calls Try.prog 88 #[N op, Vl v m l g, Vl v' m' l' g'] w fun e w' => e = .returned (.tuple #[V0, N 4]) ∧ Below w.heap.size w w' := by
  have h8 : (op == 8) = false := by have := hop.out; simp; omega
  have h9 : (op == 9) = false := by have := hop.out; simp; omega
  have HT : Hid (∀ w, Calls Try.prog 28 #[N op, Bt v m, Bt v' m'] w fun e w' => e = .returned (.tuple #[Bt zero zero, N 4]) ∧ Below w.heap.size w w') := fun w => two_kind hr (by have := hop.out; omega) w
  go_enter Try.func88, Try.ntmps88
  go_wp2_with fail
  refine (HT.out _).mono ?_
  rintro e w1 ⟨rfl, hb1⟩
  have hK := ((((Kp.start w).add4 _ _ _ _ _).add4 _ _ _ _ _).add4 _ _ _ _ _).keep hb1
  simp only [World.size_alloc] at hK
  obtain ⟨r0, r1, r2, r3, r4, r5, r6, r7, r8⟩ := hK.box.head.four
  obtain ⟨b0, b1, b2, b3, b4, b5, b6, b7, b8⟩ := hK.box.tail.head.four
  obtain ⟨a0, a1, a2, a3, a4, a5, a6, a7, a8⟩ := hK.box.tail.tail.head.four
  go_wp2_with fail
  exact bodyPost_ret (v := .tuple #[V0, N 4]) (by simp [results, Try.results88, go_sem, nv_zero, r0, r1, r2, r3, r8]) rfl ⟨rfl, ((hK.set4 0 rfl).add2 _ _ _).bel⟩

end Go.Proofs.Ytkigmocchaikgaa

/- The contracts of package calc's checkAll and Two. -/
namespace Go.Proofs.Ytkigmocchaikgaa
open Go.RowKit
attribute [local go_sem] w_and w_or w_xor w_andNot w_and1 w_and63 w_add w_sub w_mul w_sub1 w_add1 w_shl w_shl1 w_shr c_beq c_bne c_beq0 c_bne0 c_beq1 c_bne1 wrap_nv

set_option maxRecDepth 100000 in
set_option maxHeartbeats 1000000 in
theorem vcheck2 {v m l g v' m' l' g' : BitVec 64} {r1 r2 : Bool} (h1 : Hid (valB v m l g = r1)) (h2 : Hid (valB v' m' l' g' = r2)) {b c : Nat} {w : World} (hbw : b < w.heap.size)
    (c0 : w.cell? ⟨b, 0, none⟩ = some (U v)) (c1 : w.cell? ⟨b, 1, none⟩ = some (U m)) (c2 : w.cell? ⟨b, 2, none⟩ = some (U l)) (c3 : w.cell? ⟨b, 3, none⟩ = some (U g))
    (c4 : w.cell? ⟨b, 4, none⟩ = some (U v')) (c5 : w.cell? ⟨b, 5, none⟩ = some (U m')) (c6 : w.cell? ⟨b, 6, none⟩ = some (U l')) (c7 : w.cell? ⟨b, 7, none⟩ = some (U g')) :
    Calls Try.prog 87 #[.slice (some ⟨b, 0, none⟩) 2 c] w fun e w' => e = .returned (N (er (r1 && r2))) ∧ Below w.heap.size w w' := by
  go_enter Try.func87, Try.ntmps87
  go_wp2_with fail
  refine wp_loop_rounds 3 ?_
  rw [rounds_succ]
  go_wp2_with fail
  refine (checkV h1.out _).mono ?_
  rintro e w1 ⟨rfl, hb1⟩
  obtain ⟨hc1, hf1, hs1⟩ := bk (b + 1) hb1 (by simp; omega)
  cases r1
  · rw [er_f]
    go_wp2_with fail
    go_ret
    exact ⟨rfl, (by repeat (first | exact Below.refl _ _ | assumption | refine below_drewN ?_ _ | refine Below.drew ?_ | refine Below.alloc ?_ (by first | exact Nat.le_refl _ | (simp; done) | (simp; omega) | omega) _ | refine Below.setCell ?_ (by first | exact Nat.le_refl _ | (simp; done) | (simp; omega) | omega) _ | refine Below.trans ?_ (Below.mono (by assumption) (by first | exact Nat.le_refl _ | (simp; done) | (simp; omega) | omega))))⟩
  · rw [er_t]
    go_wp2_with fail
    rw [rounds_succ]
    go_wp2_with fail
    refine (checkV h2.out _).mono ?_
    rintro e w2 ⟨rfl, hb2⟩
    have hz1 : w.heap.size ≤ w1.heap.size := Nat.le_trans (by simp) hb1.size
    cases r2
    · rw [er_f]
      go_wp2_with fail
      go_ret
      exact ⟨rfl, (by repeat (first | exact Below.refl _ _ | assumption | refine below_drewN ?_ _ | refine Below.drew ?_ | refine Below.alloc ?_ (by first | exact Nat.le_refl _ | (simp; done) | (simp; omega) | omega) _ | refine Below.setCell ?_ (by first | exact Nat.le_refl _ | (simp; done) | (simp; omega) | omega) _ | refine Below.trans ?_ (Below.mono (by assumption) (by first | exact Nat.le_refl _ | (simp; done) | (simp; omega) | omega))))⟩
    · rw [er_t]
      go_wp2_with fail
      rw [rounds_succ]
      go_wp2_with fail
      go_ret
      exact ⟨rfl, (by repeat (first | exact Below.refl _ _ | assumption | refine below_drewN ?_ _ | refine Below.drew ?_ | refine Below.alloc ?_ (by first | exact Nat.le_refl _ | (simp; done) | (simp; omega) | omega) _ | refine Below.setCell ?_ (by first | exact Nat.le_refl _ | (simp; done) | (simp; omega) | omega) _ | refine Below.trans ?_ (Below.mono (by assumption) (by first | exact Nat.le_refl _ | (simp; done) | (simp; omega) | omega))))⟩

theorem two_checked {v m l g v' m' l' g' : BitVec 64} (hr : (valB v m l g && valB v' m' l' g') = true) : (eqb (band v m) zero && eqb (band v' m') zero) = true := by
  rw [Bool.and_eq_true] at hr
  rw [(rt_iff _ _).2 (val_facts hr.1).1, (rt_iff _ _).2 (val_facts hr.2).1]; rfl
set_option maxRecDepth 100000 in
set_option maxHeartbeats 1000000 in
theorem calcTwo_wrong {op : Int} {v m l g v' m' l' g' : BitVec 64} (hr : Hid ((valB v m l g && valB v' m' l' g') = false)) (w : World) :
    Calls Try.prog 46 #[N op, Vl v m l g, Vl v' m' l' g'] w fun e w' => e = .returned (.tuple #[V0, N 1]) ∧ Below w.heap.size w w' := by
  obtain ⟨z1, H1⟩ : ∃ b, Hid (valB v m l g = b) := ⟨_, rfl⟩
  obtain ⟨z2, H2⟩ : ∃ b, Hid (valB v' m' l' g' = b) := ⟨_, rfl⟩
  rw [H1.out, H2.out] at hr
  go_enter Try.func46, Try.ntmps46
  go_wp2_with fail
  refine (vcheck2 H1 H2 (by simp) (by simp [go_sem]) (by simp [go_sem]) (by simp [go_sem]) (by simp [go_sem]) (by simp [go_sem]) (by simp [go_sem]) (by simp [go_sem]) (by simp [go_sem])).mono ?_
  rw [hr.out, er_f]
  rintro e w1 ⟨rfl, hb1⟩
  have hK := (((((Kp.start w).add4 _ _ _ _ _).add4 _ _ _ _ _).add4 _ _ _ _ _).keep ((Below.refl _ _).alloc (Nat.le_refl _) _)).keep hb1
  simp only [World.size_alloc] at hK
  obtain ⟨r0, r1, r2, r3, r4, r5, r6, r7, r8⟩ := hK.box.head.four
  obtain ⟨b0, b1, b2, b3, b4, b5, b6, b7, b8⟩ := hK.box.tail.head.four
  obtain ⟨a0, a1, a2, a3, a4, a5, a6, a7, a8⟩ := hK.box.tail.tail.head.four
  go_wp2_with fail
  exact bodyPost_ret (v := .tuple #[V0, N 1]) (by simp [results, Try.results46, go_sem, nv_zero, r0, r1, r2, r3]) rfl ⟨rfl, (hK.set4 0 rfl).bel⟩

set_option maxRecDepth 100000 in
set_option maxHeartbeats 1000000 in
theorem calcTwo_kind {op : Int} (hop : Hid (op < 2 ∨ 9 < op)) {v m l g v' m' l' g' : BitVec 64} (hr : Hid ((valB v m l g && valB v' m' l' g') = true))  (w : World) :
    Calls Try.prog 46 #[N op, Vl v m l g, Vl v' m' l' g'] w fun e w' => e = .returned (.tuple #[V0, N 4]) ∧ Below w.heap.size w w' := by
  obtain ⟨z1, H1⟩ : ∃ b, Hid (valB v m l g = b) := ⟨_, rfl⟩
  obtain ⟨z2, H2⟩ : ∃ b, Hid (valB v' m' l' g' = b) := ⟨_, rfl⟩
  have HR : Hid (∀ w, Calls Try.prog 88 #[N op, Vl v m l g, Vl v' m' l' g'] w fun e w' => e = .returned (.tuple #[V0, N 4]) ∧ Below w.heap.size w w') := fun w => reckon_kind hop (two_checked hr.out) w
  rw [H1.out, H2.out] at hr
  go_enter Try.func46, Try.ntmps46
  go_wp2_with fail
  refine (vcheck2 H1 H2 (by simp) (by simp [go_sem]) (by simp [go_sem]) (by simp [go_sem]) (by simp [go_sem]) (by simp [go_sem]) (by simp [go_sem]) (by simp [go_sem]) (by simp [go_sem])).mono ?_
  rw [hr.out, er_t]
  rintro e w1 ⟨rfl, hb1⟩
  have hK := (((((Kp.start w).add4 _ _ _ _ _).add4 _ _ _ _ _).add4 _ _ _ _ _).keep ((Below.refl _ _).alloc (Nat.le_refl _) _)).keep hb1
  simp only [World.size_alloc] at hK
  obtain ⟨r0, r1, r2, r3, r4, r5, r6, r7, r8⟩ := hK.box.head.four
  obtain ⟨b0, b1, b2, b3, b4, b5, b6, b7, b8⟩ := hK.box.tail.head.four
  obtain ⟨a0, a1, a2, a3, a4, a5, a6, a7, a8⟩ := hK.box.tail.tail.head.four
  go_wp2_with fail
  refine (HR.out _).mono ?_
  rintro e w2 ⟨rfl, hb2⟩
  have hK2 := hK.keep hb2
  clear r0 r1 r2 r3 r4 r5 r6 r7 r8 b0 b1 b2 b3 b4 b5 b6 b7 b8 a0 a1 a2 a3 a4 a5 a6 a7 a8
  obtain ⟨r0, r1, r2, r3, r4, r5, r6, r7, r8⟩ := hK2.box.head.four
  obtain ⟨b0, b1, b2, b3, b4, b5, b6, b7, b8⟩ := hK2.box.tail.head.four
  obtain ⟨a0, a1, a2, a3, a4, a5, a6, a7, a8⟩ := hK2.box.tail.tail.head.four
  go_wp2_with fail
  exact bodyPost_ret (v := .tuple #[V0, N 4]) (by simp [results, Try.results46, go_sem, nv_zero, r0, r1, r2, r3, r8]) rfl ⟨rfl, ((hK2.set4 0 rfl).add4 _ _ _ _ _).bel⟩

set_option maxRecDepth 100000 in
set_option maxHeartbeats 1000000 in
theorem calcTwo_none {op : Int}  {v m l g v' m' l' g' : BitVec 64} (hr : Hid ((valB v m l g && valB v' m' l' g') = true)) (hop : Hid (2 ≤ op ∧ op ≤ 9)) (hrr : Hid (eqb (band (rk op v m l g v' m' l' g').1 (rk op v m l g v' m' l' g').2.1) zero = true)) (ho : Hid (normOk (rk op v m l g v' m' l' g').1 (rk op v m l g v' m' l' g').2.1 (rk op v m l g v' m' l' g').2.2.1 (rk op v m l g v' m' l' g').2.2.2 = false)) (w : World) :
    Calls Try.prog 46 #[N op, Vl v m l g, Vl v' m' l' g'] w fun e w' => e = .returned (.tuple #[V0, N 0]) ∧ Below w.heap.size w w' := by
  obtain ⟨z1, H1⟩ : ∃ b, Hid (valB v m l g = b) := ⟨_, rfl⟩
  obtain ⟨z2, H2⟩ : ∃ b, Hid (valB v' m' l' g' = b) := ⟨_, rfl⟩
  have hb := two_checked hr.out
  have hb' := hb
  rw [Bool.and_eq_true] at hb'
  have HR : Hid (∀ w, Calls Try.prog 88 #[N op, Vl v m l g, Vl v' m' l' g'] w fun e w' => e = .returned (.tuple #[Vl (rk op v m l g v' m' l' g').1 (rk op v m l g v' m' l' g').2.1 (rk op v m l g v' m' l' g').2.2.1 (rk op v m l g v' m' l' g').2.2.2, N 0]) ∧ Below w.heap.size w w') := fun w => by
    by_cases h : op = 8 ∨ op = 9
    · exact reckon_shift h v' m' l' g' hb'.1 w
    · exact reckon_two (hid (by have := hop.out; omega)) hb w
  clear hb hb' hop
  generalize rk op v m l g v' m' l' g' = S at HR hrr ho ⊢
  obtain ⟨sa, sb, sc, sd⟩ := S
  dsimp only at HR hrr ho ⊢
  have HN : Hid (∀ w, Calls Try.prog 31 #[Vl sa sb sc sd] w fun e w' => e = .returned (.tuple #[V0, .bool false, N 0]) ∧ Below w.heap.size w w') := fun w => norm_none hrr ho w
  rw [H1.out, H2.out] at hr
  go_enter Try.func46, Try.ntmps46
  go_wp2_with fail
  refine (vcheck2 H1 H2 (by simp) (by simp [go_sem]) (by simp [go_sem]) (by simp [go_sem]) (by simp [go_sem]) (by simp [go_sem]) (by simp [go_sem]) (by simp [go_sem]) (by simp [go_sem])).mono ?_
  rw [hr.out, er_t]
  rintro e w1 ⟨rfl, hb1⟩
  have hK := (((((Kp.start w).add4 _ _ _ _ _).add4 _ _ _ _ _).add4 _ _ _ _ _).keep ((Below.refl _ _).alloc (Nat.le_refl _) _)).keep hb1
  simp only [World.size_alloc] at hK
  obtain ⟨r0, r1, r2, r3, r4, r5, r6, r7, r8⟩ := hK.box.head.four
  obtain ⟨b0, b1, b2, b3, b4, b5, b6, b7, b8⟩ := hK.box.tail.head.four
  obtain ⟨a0, a1, a2, a3, a4, a5, a6, a7, a8⟩ := hK.box.tail.tail.head.four
  go_wp2_with fail
  refine (HR.out _).mono ?_
  rintro e w2 ⟨rfl, hb2⟩
  have hK2 := hK.keep hb2
  clear r0 r1 r2 r3 r4 r5 r6 r7 r8 b0 b1 b2 b3 b4 b5 b6 b7 b8 a0 a1 a2 a3 a4 a5 a6 a7 a8
  obtain ⟨r0, r1, r2, r3, r4, r5, r6, r7, r8⟩ := hK2.box.head.four
  obtain ⟨b0, b1, b2, b3, b4, b5, b6, b7, b8⟩ := hK2.box.tail.head.four
  obtain ⟨a0, a1, a2, a3, a4, a5, a6, a7, a8⟩ := hK2.box.tail.tail.head.four
  go_wp2_with fail
  refine (HN.out _).mono ?_
  rintro e w3 ⟨rfl, hb3⟩
  have hK3 := (hK2.add4 _ _ _ _ _).keep hb3
  clear r0 r1 r2 r3 r4 r5 r6 r7 r8 b0 b1 b2 b3 b4 b5 b6 b7 b8 a0 a1 a2 a3 a4 a5 a6 a7 a8
  obtain ⟨k0, k1, k2, k3, k4, k5, k6, k7, k8⟩ := hK3.box.head.four
  obtain ⟨r0, r1, r2, r3, r4, r5, r6, r7, r8⟩ := hK3.box.tail.head.four
  obtain ⟨b0, b1, b2, b3, b4, b5, b6, b7, b8⟩ := hK3.box.tail.tail.head.four
  obtain ⟨a0, a1, a2, a3, a4, a5, a6, a7, a8⟩ := hK3.box.tail.tail.tail.head.four
  go_wp2_with fail
  exact bodyPost_ret (v := .tuple #[V0, N 0]) (by simp [results, Try.results46, go_sem, nv_zero, r0, r1, r2, r3, r8]) rfl ⟨rfl, ((hK3.set4 1 rfl).add4 _ _ _ _ _).bel⟩

set_option maxRecDepth 100000 in
set_option maxHeartbeats 1000000 in
theorem calcTwo_yes {op : Int}  {v m l g v' m' l' g' : BitVec 64} (hr : Hid ((valB v m l g && valB v' m' l' g') = true)) (hop : Hid (2 ≤ op ∧ op ≤ 9)) (hrr : Hid (eqb (band (rk op v m l g v' m' l' g').1 (rk op v m l g v' m' l' g').2.1) zero = true)) (ho : Hid (normOk (rk op v m l g v' m' l' g').1 (rk op v m l g v' m' l' g').2.1 (rk op v m l g v' m' l' g').2.2.1 (rk op v m l g v' m' l' g').2.2.2 = true)) (w : World) :
    Calls Try.prog 46 #[N op, Vl v m l g, Vl v' m' l' g'] w fun e w' => e = .returned (.tuple #[Vl (nV (rk op v m l g v' m' l' g').1 (rk op v m l g v' m' l' g').2.1 (rk op v m l g v' m' l' g').2.2.1 (rk op v m l g v' m' l' g').2.2.2) (nM (rk op v m l g v' m' l' g').2.1 (nLo (rk op v m l g v' m' l' g').1 (rk op v m l g v' m' l' g').2.1 (rk op v m l g v' m' l' g').2.2.1) (nHi (rk op v m l g v' m' l' g').1 (rk op v m l g v' m' l' g').2.1 (rk op v m l g v' m' l' g').2.2.2)) (nLo (rk op v m l g v' m' l' g').1 (rk op v m l g v' m' l' g').2.1 (rk op v m l g v' m' l' g').2.2.1) (nHi (rk op v m l g v' m' l' g').1 (rk op v m l g v' m' l' g').2.1 (rk op v m l g v' m' l' g').2.2.2), N 0]) ∧ Below w.heap.size w w' := by
  obtain ⟨z1, H1⟩ : ∃ b, Hid (valB v m l g = b) := ⟨_, rfl⟩
  obtain ⟨z2, H2⟩ : ∃ b, Hid (valB v' m' l' g' = b) := ⟨_, rfl⟩
  have hb := two_checked hr.out
  have hb' := hb
  rw [Bool.and_eq_true] at hb'
  have HR : Hid (∀ w, Calls Try.prog 88 #[N op, Vl v m l g, Vl v' m' l' g'] w fun e w' => e = .returned (.tuple #[Vl (rk op v m l g v' m' l' g').1 (rk op v m l g v' m' l' g').2.1 (rk op v m l g v' m' l' g').2.2.1 (rk op v m l g v' m' l' g').2.2.2, N 0]) ∧ Below w.heap.size w w') := fun w => by
    by_cases h : op = 8 ∨ op = 9
    · exact reckon_shift h v' m' l' g' hb'.1 w
    · exact reckon_two (hid (by have := hop.out; omega)) hb w
  clear hb hb' hop
  generalize rk op v m l g v' m' l' g' = S at HR hrr ho ⊢
  obtain ⟨sa, sb, sc, sd⟩ := S
  dsimp only at HR hrr ho ⊢
  have HN : Hid (∀ w, Calls Try.prog 31 #[Vl sa sb sc sd] w fun e w' => e = .returned (.tuple #[Vl (nV sa sb sc sd) (nM sb (nLo sa sb sc) (nHi sa sb sd)) (nLo sa sb sc) (nHi sa sb sd), .bool true, N 0]) ∧ Below w.heap.size w w') := fun w => norm_yes hrr ho w
  generalize nV sa sb sc sd = na at HN ⊢
  generalize nM sb (nLo sa sb sc) (nHi sa sb sd) = nb at HN ⊢
  generalize nLo sa sb sc = nc at HN ⊢
  generalize nHi sa sb sd = nd at HN ⊢
  rw [H1.out, H2.out] at hr
  go_enter Try.func46, Try.ntmps46
  go_wp2_with fail
  refine (vcheck2 H1 H2 (by simp) (by simp [go_sem]) (by simp [go_sem]) (by simp [go_sem]) (by simp [go_sem]) (by simp [go_sem]) (by simp [go_sem]) (by simp [go_sem]) (by simp [go_sem])).mono ?_
  rw [hr.out, er_t]
  rintro e w1 ⟨rfl, hb1⟩
  have hK := (((((Kp.start w).add4 _ _ _ _ _).add4 _ _ _ _ _).add4 _ _ _ _ _).keep ((Below.refl _ _).alloc (Nat.le_refl _) _)).keep hb1
  simp only [World.size_alloc] at hK
  obtain ⟨r0, r1, r2, r3, r4, r5, r6, r7, r8⟩ := hK.box.head.four
  obtain ⟨b0, b1, b2, b3, b4, b5, b6, b7, b8⟩ := hK.box.tail.head.four
  obtain ⟨a0, a1, a2, a3, a4, a5, a6, a7, a8⟩ := hK.box.tail.tail.head.four
  go_wp2_with fail
  refine (HR.out _).mono ?_
  rintro e w2 ⟨rfl, hb2⟩
  have hK2 := hK.keep hb2
  clear r0 r1 r2 r3 r4 r5 r6 r7 r8 b0 b1 b2 b3 b4 b5 b6 b7 b8 a0 a1 a2 a3 a4 a5 a6 a7 a8
  obtain ⟨r0, r1, r2, r3, r4, r5, r6, r7, r8⟩ := hK2.box.head.four
  obtain ⟨b0, b1, b2, b3, b4, b5, b6, b7, b8⟩ := hK2.box.tail.head.four
  obtain ⟨a0, a1, a2, a3, a4, a5, a6, a7, a8⟩ := hK2.box.tail.tail.head.four
  go_wp2_with fail
  refine (HN.out _).mono ?_
  rintro e w3 ⟨rfl, hb3⟩
  have hK3 := (hK2.add4 _ _ _ _ _).keep hb3
  clear r0 r1 r2 r3 r4 r5 r6 r7 r8 b0 b1 b2 b3 b4 b5 b6 b7 b8 a0 a1 a2 a3 a4 a5 a6 a7 a8
  obtain ⟨k0, k1, k2, k3, k4, k5, k6, k7, k8⟩ := hK3.box.head.four
  obtain ⟨r0, r1, r2, r3, r4, r5, r6, r7, r8⟩ := hK3.box.tail.head.four
  obtain ⟨b0, b1, b2, b3, b4, b5, b6, b7, b8⟩ := hK3.box.tail.tail.head.four
  obtain ⟨a0, a1, a2, a3, a4, a5, a6, a7, a8⟩ := hK3.box.tail.tail.tail.head.four
  go_wp2_with fail
  exact bodyPost_ret (v := .tuple #[Vl na nb nc nd, N 0]) (by simp [results, Try.results46, go_sem, r0, r1, r2, r3, r8]) rfl ⟨rfl, ((hK3.set4 1 rfl).add4 _ _ _ _ _).bel⟩

end Go.Proofs.Ytkigmocchaikgaa

/- The contracts of package calc's between and without. -/
namespace Go.Proofs.Ytkigmocchaikgaa
open Go.RowKit
attribute [local go_sem] w_and w_or w_xor w_andNot w_and1 w_and63 w_add w_sub w_mul w_sub1 w_add1 w_shl w_shl1 w_shr c_beq c_bne c_beq0 c_bne0 c_beq1 c_bne1 wrap_nv

set_option maxRecDepth 100000 in
set_option maxHeartbeats 1000000 in
theorem between_any (v m l g lo hi : BitVec 64) (w : World) :
    Calls Try.prog 97 #[Vl v m l g, U lo, U hi] w fun e w' => e = .returned (Vl v m (bmax l lo) (bmin g hi)) ∧ Below w.heap.size w w' := by
  by_cases h1 : nv l < nv lo <;> by_cases h2 : nv hi < nv g
  · have e1 : Hid (bmax l lo = lo) := if_pos h1
    have e2 : Hid (bmin g hi = hi) := if_pos h2
    rw [e1.out, e2.out]
    go_enter Try.func97, Try.ntmps97
    go_wp2_with fail
    exact bodyPost_ret (v := Vl v m lo hi) (by simp [results, Try.results97, go_sem]) rfl ⟨rfl, (by repeat (first | exact Below.refl _ _ | assumption | refine below_drewN ?_ _ | refine Below.drew ?_ | refine Below.alloc ?_ (by first | exact Nat.le_refl _ | (simp; done) | (simp; omega) | omega) _ | refine Below.setCell ?_ (by first | exact Nat.le_refl _ | (simp; done) | (simp; omega) | omega) _ | refine Below.trans ?_ (Below.mono (by assumption) (by first | exact Nat.le_refl _ | (simp; done) | (simp; omega) | omega))))⟩
  · have e1 : Hid (bmax l lo = lo) := if_pos h1
    have e2 : Hid (bmin g hi = g) := if_neg h2
    have h2' : nv g ≤ nv hi := by omega
    clear h2
    rw [e1.out, e2.out]
    go_enter Try.func97, Try.ntmps97
    go_wp2_with fail
    exact bodyPost_ret (v := Vl v m lo g) (by simp [results, Try.results97, go_sem]) rfl ⟨rfl, (by repeat (first | exact Below.refl _ _ | assumption | refine below_drewN ?_ _ | refine Below.drew ?_ | refine Below.alloc ?_ (by first | exact Nat.le_refl _ | (simp; done) | (simp; omega) | omega) _ | refine Below.setCell ?_ (by first | exact Nat.le_refl _ | (simp; done) | (simp; omega) | omega) _ | refine Below.trans ?_ (Below.mono (by assumption) (by first | exact Nat.le_refl _ | (simp; done) | (simp; omega) | omega))))⟩
  · have e1 : Hid (bmax l lo = l) := if_neg h1
    have e2 : Hid (bmin g hi = hi) := if_pos h2
    have h1' : nv lo ≤ nv l := by omega
    clear h1
    rw [e1.out, e2.out]
    go_enter Try.func97, Try.ntmps97
    go_wp2_with fail
    exact bodyPost_ret (v := Vl v m l hi) (by simp [results, Try.results97, go_sem]) rfl ⟨rfl, (by repeat (first | exact Below.refl _ _ | assumption | refine below_drewN ?_ _ | refine Below.drew ?_ | refine Below.alloc ?_ (by first | exact Nat.le_refl _ | (simp; done) | (simp; omega) | omega) _ | refine Below.setCell ?_ (by first | exact Nat.le_refl _ | (simp; done) | (simp; omega) | omega) _ | refine Below.trans ?_ (Below.mono (by assumption) (by first | exact Nat.le_refl _ | (simp; done) | (simp; omega) | omega))))⟩
  · have e1 : Hid (bmax l lo = l) := if_neg h1
    have e2 : Hid (bmin g hi = g) := if_neg h2
    have h1' : nv lo ≤ nv l := by omega
    have h2' : nv g ≤ nv hi := by omega
    clear h1 h2
    rw [e1.out, e2.out]
    go_enter Try.func97, Try.ntmps97
    go_wp2_with fail
    exact bodyPost_ret (v := Vl v m l g) (by simp [results, Try.results97, go_sem]) rfl ⟨rfl, (by repeat (first | exact Below.refl _ _ | assumption | refine below_drewN ?_ _ | refine Below.drew ?_ | refine Below.alloc ?_ (by first | exact Nat.le_refl _ | (simp; done) | (simp; omega) | omega) _ | refine Below.setCell ?_ (by first | exact Nat.le_refl _ | (simp; done) | (simp; omega) | omega) _ | refine Below.trans ?_ (Below.mono (by assumption) (by first | exact Nat.le_refl _ | (simp; done) | (simp; omega) | omega))))⟩

def woL (l l' h' : BitVec 64) : BitVec 64 := if eqb l' h' && eqb l l' then badd l one else l
def woH (l h l' h' : BitVec 64) : BitVec 64 := if eqb l' h' && (!eqb l l' && eqb h l') then bsub h one else h
set_option maxRecDepth 100000 in
set_option maxHeartbeats 1000000 in
theorem without_is (v m l g v' m' l' g' : BitVec 64) (w : World) :
    Calls Try.prog 95 #[Vl v m l g, Vl v' m' l' g'] w fun e w' => e = .returned (Vl v m (woL l l' g') (woH l g l' g')) ∧ Below w.heap.size w w' := by
  have H1 : Hid (woL l l' g' = if eqb l' g' && eqb l l' then badd l one else l) := rfl
  have H2 : Hid (woH l g l' g' = if eqb l' g' && (!eqb l l' && eqb g l') then bsub g one else g) := rfl
  obtain ⟨z1, ha⟩ : ∃ b, Hid (eqb l' g' = b) := ⟨_, rfl⟩
  obtain ⟨z2, hb⟩ : ∃ b, eqb l l' = b := ⟨_, rfl⟩
  obtain ⟨z3, hc⟩ : ∃ b, eqb g l' = b := ⟨_, rfl⟩
  rw [ha.out, hb] at H1
  rw [ha.out, hb, hc] at H2
  cases z1
  · rw [H1.out, H2.out]
    go_enter Try.func95, Try.ntmps95
    go_wp2_with fail
    refine (alone_is ha.out _).mono ?_
    rintro e w1 ⟨rfl, hb1⟩
    have hK := ((((Kp.start w).add4 _ _ _ _ _).add4 _ _ _ _ _).add4 _ _ _ _ _).keep hb1
    simp only [World.size_alloc] at hK
    obtain ⟨r0, r1, r2, r3, r4, r5, r6, r7, r8⟩ := hK.box.head.four
    obtain ⟨b0, b1, b2, b3, b4, b5, b6, b7, b8⟩ := hK.box.tail.head.four
    obtain ⟨a0, a1, a2, a3, a4, a5, a6, a7, a8⟩ := hK.box.tail.tail.head.four
    go_wp2_with fail
    exact bodyPost_ret (v := Vl v m l g) (by simp [results, Try.results95, go_sem, r0, r1, r2, r3]) rfl ⟨rfl, (hK.set4 0 rfl).bel⟩
  · cases z2
    · cases z3
      · rw [H1.out, H2.out]
        go_enter Try.func95, Try.ntmps95
        go_wp2_with fail
        refine (alone_is ha.out _).mono ?_
        rintro e w1 ⟨rfl, hb1⟩
        have hK := ((((Kp.start w).add4 _ _ _ _ _).add4 _ _ _ _ _).add4 _ _ _ _ _).keep hb1
        simp only [World.size_alloc] at hK
        obtain ⟨r0, r1, r2, r3, r4, r5, r6, r7, r8⟩ := hK.box.head.four
        obtain ⟨b0, b1, b2, b3, b4, b5, b6, b7, b8⟩ := hK.box.tail.head.four
        obtain ⟨a0, a1, a2, a3, a4, a5, a6, a7, a8⟩ := hK.box.tail.tail.head.four
        go_wp2_with fail
        exact bodyPost_ret (v := Vl v m l g) (by simp [results, Try.results95, go_sem, r0, r1, r2, r3]) rfl ⟨rfl, (hK.set4 0 rfl).bel⟩
      · rw [H1.out, H2.out]
        go_enter Try.func95, Try.ntmps95
        go_wp2_with fail
        refine (alone_is ha.out _).mono ?_
        rintro e w1 ⟨rfl, hb1⟩
        have hK := ((((Kp.start w).add4 _ _ _ _ _).add4 _ _ _ _ _).add4 _ _ _ _ _).keep hb1
        simp only [World.size_alloc] at hK
        obtain ⟨r0, r1, r2, r3, r4, r5, r6, r7, r8⟩ := hK.box.head.four
        obtain ⟨b0, b1, b2, b3, b4, b5, b6, b7, b8⟩ := hK.box.tail.head.four
        obtain ⟨a0, a1, a2, a3, a4, a5, a6, a7, a8⟩ := hK.box.tail.tail.head.four
        go_wp2_with fail
        refine bodyPost_ret (v := Vl v m l (bsub g one)) (by simp [results, Try.results95, go_sem, r0, r1, r2, r3]) rfl ⟨rfl, ?_⟩
        exact ((((hK.bel.setCell (by dsimp only; omega) _).setCell (by dsimp only; omega) _).setCell (by dsimp only; omega) _).setCell (by dsimp only; omega) _).setCell (by dsimp only; omega) _
    · rw [H1.out, H2.out]
      go_enter Try.func95, Try.ntmps95
      go_wp2_with fail
      refine (alone_is ha.out _).mono ?_
      rintro e w1 ⟨rfl, hb1⟩
      have hK := ((((Kp.start w).add4 _ _ _ _ _).add4 _ _ _ _ _).add4 _ _ _ _ _).keep hb1
      simp only [World.size_alloc] at hK
      obtain ⟨r0, r1, r2, r3, r4, r5, r6, r7, r8⟩ := hK.box.head.four
      obtain ⟨b0, b1, b2, b3, b4, b5, b6, b7, b8⟩ := hK.box.tail.head.four
      obtain ⟨a0, a1, a2, a3, a4, a5, a6, a7, a8⟩ := hK.box.tail.tail.head.four
      go_wp2_with fail
      refine bodyPost_ret (v := Vl v m (badd l one) g) (by simp [results, Try.results95, go_sem, r0, r1, r2, r3]) rfl ⟨rfl, ?_⟩
      exact ((((hK.bel.setCell (by dsimp only; omega) _).setCell (by dsimp only; omega) _).setCell (by dsimp only; omega) _).setCell (by dsimp only; omega) _).setCell (by dsimp only; omega) _

end Go.Proofs.Ytkigmocchaikgaa

/- What the one has and the other has, reckoned together, is within what reckon answers; what is left of both has them: plain facts. -/
namespace Go.Proofs.Ytkigmocchaikgaa

theorem has_facts {v m l h x : BitVec 64} (hx : hasV v m l h x = true) : valB v m l h = true ∧ RtB v m ∧ hasB v m x = true ∧ nv l ≤ nv x ∧ nv x ≤ nv h := by
  unfold hasV at hx
  simp only [Bool.and_eq_true, decide_eq_true_eq] at hx
  exact ⟨hx.1, (val_facts hx.1).1, hx.2.1, hx.2.2.1, hx.2.2.2⟩
theorem raw_mk {v m l h x : BitVec 64} (h1 : hasB v m x = true) (h2 : nv l ≤ nv x) (h3 : nv x ≤ nv h) : rawV v m l h x = true := by
  unfold rawV; rw [h1]; simp only [Bool.true_and, Bool.and_eq_true, decide_eq_true_eq]; exact ⟨h2, h3⟩
theorem top_has (x : BitVec 64) : RtB zero top ∧ hasB zero top x = true := by
  have hr : RtB zero top := zero_rt top
  refine ⟨hr, (hasB_iff _ _ _).2 ⟨hr, fun j hj => ?_⟩⟩
  rw [bit_top _ hj, bit_zero]; cases bit x j <;> rfl
theorem rk_sound {op : Int} (hop : 2 ≤ op ∧ op ≤ 9) {v m l h v' m' l' h' x y : BitVec 64} (hx : hasV v m l h x = true) (hy : hasV v' m' l' h' y = true) :
    RtB (rk op v m l h v' m' l' h').1 (rk op v m l h v' m' l' h').2.1 ∧ rawV (rk op v m l h v' m' l' h').1 (rk op v m l h v' m' l' h').2.1 (rk op v m l h v' m' l' h').2.2.1 (rk op v m l h v' m' l' h').2.2.2 (numN op x y) = true := by
  obtain ⟨_, r1, b1, p1, p2⟩ := has_facts hx
  obtain ⟨_, r2, b2, q1, q2⟩ := has_facts hy
  by_cases h8 : op = 8
  · subst h8
    have hn : numN 8 x y = bshl x (six y) := by unfold numN; rw [if_neg (by decide), if_neg (by decide), if_pos rfl]
    rw [hn]
    cases ha : eqb l' h'
    · have e : rk 8 v m l h v' m' l' h' = (zero, top, zero, top) := by unfold rk; rw [if_pos rfl, ha]; rfl
      rw [e]
      exact ⟨(top_has zero).1, raw_mk (top_has _).2 (ends _).1 (ends _).2⟩
    · have e : rk 8 v m l h v' m' l' h' = (bshl v (six l'), bshl m (six l'), (shlB l h (six l')).1, (shlB l h (six l')).2) := by unfold rk; rw [if_pos rfl, ha]; rfl
      have hl : y = l' := by
        have := (eqb_iff _ _).1 ha
        rw [← this] at q2
        exact nv_inj _ _ (by omega)
      rw [e, hl]
      exact ⟨shl_rt r1 _, raw_mk (sound_shl b1 _) (shl_bounds _ p1 p2).1 (shl_bounds _ p1 p2).2⟩
  · by_cases h9 : op = 9
    · subst h9
      have hn : numN 9 x y = bshr x (six y) := by unfold numN; rw [if_neg (by decide), if_neg (by decide), if_neg (by decide)]
      rw [hn]
      cases ha : eqb l' h'
      · have e : rk 9 v m l h v' m' l' h' = (zero, top, zero, h) := by unfold rk; rw [if_neg (by decide), if_pos rfl, ha]; rfl
        rw [e]
        exact ⟨(top_has zero).1, raw_mk (top_has _).2 (ends _).1 (Int.le_trans (shr_le _ _) p2)⟩
      · have e : rk 9 v m l h v' m' l' h' = (bshr v (six l'), bshr m (six l'), bshr l (six l'), bshr h (six l')) := by unfold rk; rw [if_neg (by decide), if_pos rfl, ha]; rfl
        have hl : y = l' := by
          have := (eqb_iff _ _).1 ha
          rw [← this] at q2
          exact nv_inj _ _ (by omega)
        rw [e, hl]
        have hs := sound_shr b1 (six l')
        exact ⟨((hasB_iff _ _ _).1 hs).1, raw_mk hs (shr_bounds _ p1 p2).1 (shr_bounds _ p1 p2).2⟩
    · have h27 : 2 ≤ op ∧ op ≤ 7 := by omega
      have hn : numN op x y = numB op x y := by unfold numN; rw [if_neg (by omega), if_pos h27]
      have e : rk op v m l h v' m' l' h' = ((twoP op v m v' m').1, (twoP op v m v' m').2, (boundsP op l h l' h').1, (boundsP op l h l' h').2) := by
        unfold rk; rw [if_neg h8, if_neg h9]
      rw [hn, e]
      exact ⟨two_rt h27, raw_mk (sound_two h27 b1 b2) (bounds_sound h27 p1 p2 q1 q2).1 (bounds_sound h27 p1 p2 q1 q2).2⟩

/- Equal -/
theorem left_equal {v m l h v' m' l' h' x : BitVec 64} (hx : hasV v m l h x = true) (hy : hasV v' m' l' h' x = true) :
    eqb (bandn (bxor v v') (bor m m')) zero = true ∧ RtB (bor v v') (band m m') ∧ rawV (bor v v') (band m m') (bmax l l') (bmin h h') x = true := by
  obtain ⟨_, r1, b1, p1, p2⟩ := has_facts hx
  obtain ⟨_, r2, b2, q1, q2⟩ := has_facts hy
  have hs := sound_meet (x := x) r1 r2
  rw [b1, b2] at hs
  have hs' := hs.symm
  rw [Bool.and_self, Bool.and_eq_true] at hs'
  exact ⟨hs'.1, ((hasB_iff _ _ _).1 hs'.2).1, raw_mk hs'.2 (bmax_le p1 q1) (le_bmin p2 q2)⟩
/- Other -/
theorem alone_eq {l h y : BitVec 64} (ha : eqb l h = true) (h1 : nv l ≤ nv y) (h2 : nv y ≤ nv h) : y = l := by
  have := (eqb_iff _ _).1 ha
  rw [← this] at h2
  exact nv_inj _ _ (by omega)
theorem left_other {v m l h v' m' l' h' x y : BitVec 64} (hx : hasV v m l h x = true) (hy : hasV v' m' l' h' y = true) (hne : x ≠ y) : rawV v m (woL l l' h') (woH l h l' h') x = true := by
  obtain ⟨_, r1, b1, p1, p2⟩ := has_facts hx
  obtain ⟨_, r2, b2, q1, q2⟩ := has_facts hy
  have hnv : nv x ≠ nv y := fun e => hne (nv_inj _ _ e)
  have hlt := nv_lt x
  have hge := nv_nonneg x
  have hgl := nv_nonneg l
  have hlh := nv_lt h
  refine raw_mk b1 ?_ ?_
  · unfold woL
    split
    · rename_i hc
      rw [Bool.and_eq_true] at hc
      have e1 := alone_eq hc.1 q1 q2
      have e2 := (eqb_iff _ _).1 hc.2
      rw [e1, ← e2] at hnv
      rw [nv_add, nv_one]
      omega
    · exact p1
  · unfold woH
    split
    · rename_i hc
      rw [Bool.and_eq_true, Bool.and_eq_true] at hc
      have e1 := alone_eq hc.1 q1 q2
      have e2 := (eqb_iff _ _).1 hc.2.2
      rw [e1, ← e2] at hnv
      rw [nv_sub, nv_one]
      omega
    · exact p2
theorem may_other {v m l h v' m' l' h' x y : BitVec 64} (hx : hasV v m l h x = true) (hy : hasV v' m' l' h' y = true) (hne : x ≠ y) : (eqb l h && (eqb l' h' && eqb l l')) = false := by
  obtain ⟨_, r1, b1, p1, p2⟩ := has_facts hx
  obtain ⟨_, r2, b2, q1, q2⟩ := has_facts hy
  cases hc : (eqb l h && (eqb l' h' && eqb l l'))
  · rfl
  · exfalso
    rw [Bool.and_eq_true, Bool.and_eq_true] at hc
    have e1 := alone_eq hc.1 p1 p2
    have e2 := alone_eq hc.2.1 q1 q2
    have e3 := (eqb_iff _ _).1 hc.2.2
    exact hne (by rw [e1, e2, e3])
/- Less -/
theorem left_less {v m l h v' m' l' h' x y : BitVec 64} (hx : hasV v m l h x = true) (hy : hasV v' m' l' h' y = true) (hlt : nv x < nv y) :
    eqb h' zero = false ∧ eqb l top = false ∧ rawV v m (bmax l l) (bmin h (bsub h' one)) x = true ∧ rawV v' m' (bmax l' (badd l one)) (bmin h' h') y = true := by
  obtain ⟨_, r1, b1, p1, p2⟩ := has_facts hx
  obtain ⟨_, r2, b2, q1, q2⟩ := has_facts hy
  have hx0 := nv_nonneg x
  have hy1 := nv_lt y
  have hl0 := nv_nonneg l
  have hh := nv_lt h'
  refine ⟨?_, ?_, raw_mk b1 (bmax_le p1 p1) (le_bmin p2 ?_), raw_mk b2 (bmax_le q1 ?_) (le_bmin q2 q2)⟩
  · rw [eqb_false]
    intro e
    rw [e, nv_zero] at q2
    omega
  · rw [eqb_false]
    intro e
    rw [e, nv_top] at p1
    omega
  · rw [nv_sub, nv_one]; omega
  · rw [nv_add, nv_one]; omega
/- NotLess -/
theorem left_notLess {v m l h v' m' l' h' x y : BitVec 64} (hx : hasV v m l h x = true) (hy : hasV v' m' l' h' y = true) (hle : nv y ≤ nv x) :
    rawV v m (bmax l l') (bmin h h) x = true ∧ rawV v' m' (bmax l' l') (bmin h' h) y = true := by
  obtain ⟨_, r1, b1, p1, p2⟩ := has_facts hx
  obtain ⟨_, r2, b2, q1, q2⟩ := has_facts hy
  exact ⟨raw_mk b1 (bmax_le p1 (by omega)) (le_bmin p2 p2), raw_mk b2 (bmax_le q1 q1) (le_bmin q2 (by omega))⟩

end Go.Proofs.Ytkigmocchaikgaa
